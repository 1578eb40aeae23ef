/- Plain facts on the days of a Gregorian year on which a month and a day of the Islamic calendar occur. No program is mentioned. -/
import Derived.Test.YtobipbmigpkhmaaDoorIsMath
import Derived.WalkKit
namespace Go.Proofs.YtobipbmigpkhmaaDoor
open Go.RowKit
set_option linter.unusedVariables false

/-- The day of a month and a day in the year y, if there is one and it lies between two days. -/
def imovO (k m d a b y : Int) : Option Int := if ivld k y m d = true ∧ a ≤ idayN k y m d ∧ idayN k y m d ≤ b then some (idayN k y m d) else none
/-- Those of the years before x, in their order. -/
def imovL (k m d a b : Int) (x : Nat) : List Int := (List.range x).filterMap fun i : Nat => imovO k m d a b i
theorem imovL_succ (k m d a b : Int) (x : Nat) : imovL k m d a b (x + 1) = imovL k m d a b x ++ (imovO k m d a b x).toList := by
  unfold imovL; rw [List.range_succ, List.filterMap_append]; simp [List.filterMap_cons]; cases imovO k m d a b x <;> rfl
theorem imovL_hit {k m d a b : Int} {x : Nat} (h : ivld k x m d = true) (h0 : a ≤ idayN k x m d) (h1 : idayN k x m d ≤ b) : imovL k m d a b (x + 1) = imovL k m d a b x ++ [idayN k x m d] := by
  rw [imovL_succ]; unfold imovO; rw [if_pos ⟨h, h0, h1⟩]; rfl
theorem imovL_miss {k m d a b : Int} {x : Nat} (h : ¬ (ivld k x m d = true ∧ a ≤ idayN k x m d ∧ idayN k x m d ≤ b)) : imovL k m d a b (x + 1) = imovL k m d a b x := by
  rw [imovL_succ]; unfold imovO; rw [if_neg h]; simp
theorem imovL_len (k m d a b : Int) (x : Nat) : (imovL k m d a b x).length ≤ x := by
  unfold imovL
  have := List.length_filterMap_le (fun i : Nat => imovO k m d a b i) (List.range x)
  simpa using this
theorem imovL_none {k m d a b : Int} {x : Nat} (h : ∀ i : Nat, i < x → imovO k m d a b i = none) : imovL k m d a b x = [] := by
  induction x with
  | zero => rfl
  | succ x ih => rw [imovL_succ, ih (fun i hi => h i (by omega)), h x (by omega)]; rfl
theorem imovL_more {k m d a b : Int} {x : Nat} : ∀ j : Nat, (∀ i : Nat, x ≤ i → i < x + j → imovO k m d a b i = none) → imovL k m d a b (x + j) = imovL k m d a b x := by
  intro j
  induction j with
  | zero => intro _; rfl
  | succ j ih =>
    intro h
    rw [← Nat.add_assoc, imovL_succ, ih (fun i h0 h1 => h i h0 (by omega)), h (x + j) (by omega) (by omega)]; simp
theorem imov_mem {k m d a b n : Int} {x : Nat} : n ∈ imovL k m d a b x ↔ ∃ i : Nat, i < x ∧ ivld k i m d = true ∧ idayN k i m d = n ∧ a ≤ n ∧ n ≤ b := by
  unfold imovL imovO
  simp only [List.mem_filterMap, List.mem_range]
  constructor
  · rintro ⟨i, hi, h⟩
    split at h
    · rename_i q
      obtain rfl := Option.some.inj h
      exact ⟨i, hi, q.1, rfl, q.2.1, q.2.2⟩
    · exact absurd h (by simp)
  · rintro ⟨i, hi, h, rfl, h0, h1⟩
    exact ⟨i, hi, by rw [if_pos ⟨h, h0, h1⟩]⟩
/-- They ascend. -/
theorem imov_sorted (k m d a b : Int) (x : Nat) : (imovL k m d a b x).Pairwise (· < ·) := by
  induction x with
  | zero => exact List.Pairwise.nil
  | succ x ih =>
    by_cases h : ivld k x m d = true ∧ a ≤ idayN k x m d ∧ idayN k x m d ≤ b
    · rw [imovL_hit h.1 h.2.1 h.2.2, List.pairwise_append]
      refine ⟨ih, by simp, fun p hp q hq => ?_⟩
      simp at hq; subst hq
      obtain ⟨i, hi, hv, rfl, -, -⟩ := imov_mem.1 hp
      exact idate_lt hv h.1 (.inl (by omega))
    · rw [imovL_miss h]; exact ih
/-- The years around a Gregorian year. -/
theorem imov_early {k m d a b y : Int} (k0 : 1 ≤ k) (k1 : k ≤ 4) (ha : -492148 ≤ a) (hy : y ≤ 30 * ((a + 492148) / 10631)) : imovO k m d a b y = none := by
  unfold imovO
  rw [if_neg]
  rintro ⟨h, h0, -⟩
  obtain ⟨-, -, y0, y1, -⟩ := ivld_bd h
  have i := iday_in h
  have f := ifirst_le k0 k1 (y := y + 1) (z := 30 * ((a + 492148) / 10631) + 1) (by omega) (by omega)
  have c := ifirst_cycle (y := 30 * ((a + 492148) / 10631) + 1) k0 k1 (by omega)
  omega
theorem imov_late {k m d a b y : Int} (k0 : 1 ≤ k) (k1 : k ≤ 4) (hb : b ≤ a + 365) (hy : 0 ≤ (a + 492148) / 10631 ∧ 30 * ((a + 492148) / 10631) + 36 ≤ y ∨ a < -492148 ∧ 36 ≤ y) : imovO k m d a b y = none := by
  unfold imovO
  rw [if_neg]
  rintro ⟨h, -, h1⟩
  obtain ⟨-, -, y0, y1, -⟩ := ivld_bd h
  have i := iday_in h
  rcases hy with ⟨hc, hy⟩ | ⟨ha, hy⟩
  · have f := ifirst_le k0 k1 (y := 30 * ((a + 492148) / 10631) + 31) (z := y) (by omega) (by omega)
    have c := ifirst_cycle (y := 30 * ((a + 492148) / 10631) + 31) k0 k1 (by omega)
    omega
  · have f := ifirst_le k0 k1 (y := 1) (z := y) (by omega) (by omega)
    rw [ifirst_one k0 k1] at f
    omega
theorem imov_zero {k m d a b y : Int} (h : y < 1 ∨ 9600 < y) : imovO k m d a b y = none := by
  unfold imovO
  rw [if_neg]
  rintro ⟨h, -⟩
  have := ivld_bd h
  omega
/-- There are at most two of them. -/
theorem imov_two {k m d a b : Int} {x : Nat} (hb : b ≤ a + 365) : (imovL k m d a b x).length ≤ 2 := by
  rcases Nat.lt_or_ge 2 (imovL k m d a b x).length with q | q
  · have s := imov_sorted k m d a b x
    have q0 : 0 < (imovL k m d a b x).length := by omega
    have q1 : 1 < (imovL k m d a b x).length := by omega
    have s01 := List.pairwise_iff_getElem.1 s 0 1 q0 q1 (by omega)
    have s12 := List.pairwise_iff_getElem.1 s 1 2 q1 q (by omega)
    obtain ⟨i0, _, v0, e0, a0, b0⟩ := imov_mem.1 (List.getElem_mem q0)
    obtain ⟨i1, _, v1, e1, a1, b1⟩ := imov_mem.1 (List.getElem_mem q1)
    obtain ⟨i2, _, v2, e2, a2, b2⟩ := imov_mem.1 (List.getElem_mem q)
    obtain ⟨k0, k1, y0, y1, -⟩ := ivld_bd v0
    have l01 : (i0 : Int) < i1 := by
      rcases Int.lt_or_le i0 i1 with z | z
      · exact z
      · rcases Int.lt_or_le i1 i0 with z' | z'
        · have := idate_lt v1 v0 (.inl z'); omega
        · have : (i0 : Int) = i1 := by omega
          rw [this] at e0; omega
    have l12 : (i1 : Int) < i2 := by
      rcases Int.lt_or_le i1 i2 with z | z
      · exact z
      · rcases Int.lt_or_le i2 i1 with z' | z'
        · have := idate_lt v2 v1 (.inl z'); omega
        · have : (i1 : Int) = i2 := by omega
          rw [this] at e1; omega
    have f := ifirst_le k0 k1 (y := i0) (z := i2) (by omega) (by omega)
    unfold idayN at e0 e2
    omega
  · exact q
end Go.Proofs.YtobipbmigpkhmaaDoor
