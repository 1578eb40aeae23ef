/- Plain facts: a set that is written with a multiple of its period, and with spans moved by multiples of it. -/
import Derived.Test.YtaikeclfmmnelaaQGH
namespace Go.Proofs.Ytaikeclfmmnelaa

open Go.RowKit

set_option linter.unusedVariables false

/-- The span j, moved by i periods and by some multiples of n periods. -/
def itR (P n : Int) (A : List Sp) (sh : Nat → Int) (i : Int) (j : Nat) : Sp := (i * P + sh j * n * P + (A.getD j (0, 0)).1, i * P + sh j * n * P + (A.getD j (0, 0)).2)
structure RpS (P n : Int) (A : List Sp) (sh : Nat → Int) (i : Int) (j : Nat) (M : List Sp) : Prop where
  len : (M.length : Int) = (n - 1 - i) * A.length + j
  sp : spsB M = true
  of : ∀ p, p ∈ M → ∃ i' j', 0 ≤ i' ∧ i' < n ∧ j' < A.length ∧ p = itR P n A sh i' j'
  row : ∀ i', i < i' → i' < n → ∀ j', j' < A.length → itR P n A sh i' j' ∈ M
  cur : ∀ j', j' < j → itR P n A sh i j' ∈ M
theorem rp_start (P n : Int) (A : List Sp) (sh : Nat → Int) : RpS P n A sh (n - 1) 0 [] :=
  ⟨by simp, rfl, fun p hp => (by cases hp), fun i' h1 h2 => (by omega), fun j' h => (by omega)⟩
theorem sps_snoc {M : List Sp} {p : Sp} (h : spsB M = true) (k : spB p = true) : spsB (M ++ [p]) = true := by
  unfold spsB at h ⊢
  rw [List.all_append, h, Bool.true_and]
  show (spB p && true) = true
  rw [k]; rfl
theorem RpS.add {P n : Int} {A : List Sp} {sh : Nat → Int} {i : Int} {j : Nat} {M : List Sp} (h : RpS P n A sh i j M) (i0 : 0 ≤ i) (i1 : i < n) (hj : j < A.length) (s : spB (itR P n A sh i j) = true) : RpS P n A sh i (j + 1) (M ++ [itR P n A sh i j]) := by
  refine ⟨?_, sps_snoc h.sp s, fun p hp => ?_, fun i' h1 h2 j' h3 => List.mem_append_left _ (h.row i' h1 h2 j' h3), fun j' h1 => ?_⟩
  · rw [List.length_append]
    have := h.len
    simp only [List.length_cons, List.length_nil]
    omega
  · rcases List.mem_append.1 hp with k | k
    · exact h.of p k
    · rw [List.mem_singleton.1 k]; exact ⟨i, j, i0, i1, hj, rfl⟩
  · by_cases e : j' = j
    · rw [e]; exact List.mem_append_right _ List.mem_cons_self
    · exact List.mem_append_left _ (h.cur j' (by omega))
theorem RpS.turn {P n : Int} {A : List Sp} {sh : Nat → Int} {i : Int} {M : List Sp} (h : RpS P n A sh i A.length M) : RpS P n A sh (i - 1) 0 M := by
  refine ⟨?_, h.sp, h.of, fun i' h1 h2 j' h3 => ?_, fun j' h => (by omega)⟩
  · have := h.len
    rw [this, show n - 1 - (i - 1) = (n - 1 - i) + 1 by omega, Int.add_mul, Int.one_mul]; simp
  · by_cases e : i' = i
    · rw [e]; exact h.cur j' h3
    · exact h.row i' (by omega) h2 j' h3
theorem it_span {P n : Int} {A : List Sp} {sh : Nat → Int} {i : Int} {j : Nat} : (itR P n A sh i j).2 - (itR P n A sh i j).1 = (A.getD j (0, 0)).2 - (A.getD j (0, 0)).1 := by unfold itR; simp only; omega
/-- The list has the numbers of the set. -/
theorem RpS.same {P n : Int} {A : List Sp} {sh : Nat → Int} {M : List Sp} (h : RpS P n A sh (-1) 0 M) (n1 : 1 ≤ n) (pv : PV P A) (x : Int) : ofB (n * P) M x = hsP P A x := by
  have p0 := pv.p0
  have nP : P ≤ n * P := by have := Int.mul_le_mul_of_nonneg_right n1 (show 0 ≤ P by omega); omega
  have bd : ∀ j, j < A.length → 0 ≤ (A.getD j (0, 0)).1 ∧ (A.getD j (0, 0)).1 < (A.getD j (0, 0)).2 ∧ (A.getD j (0, 0)).2 ≤ P := fun j hj => ⟨(pv.ip _ (getD_mem hj)).1, pv.cn.lt _ (getD_mem hj), (pv.ip _ (getD_mem hj)).2⟩
  unfold ofB hsP
  rw [Bool.eq_iff_iff, List.any_eq_true, inB_iff]
  constructor
  · rintro ⟨p, hp, hd⟩
    rw [decide_eq_true_iff] at hd
    obtain ⟨i, j, i0, i1, hj, rfl⟩ := h.of p hp
    rw [it_span] at hd
    obtain ⟨b0, b1, b2⟩ := bd j hj
    have d0 := Int.emod_nonneg (x - (itR P n A sh i j).1) (show n * P ≠ 0 by omega)
    have dm := Int.emod_add_mul_ediv (x - (itR P n A sh i j).1) (n * P)
    refine ⟨_, getD_mem hj, ?_⟩
    generalize (x - (itR P n A sh i j).1) % (n * P) = d at *
    generalize (x - (itR P n A sh i j).1) / (n * P) = T at *
    have e : x = ((A.getD j (0, 0)).1 + d) + P * (n * T + i + sh j * n) := by
      have e1 : n * P * T = P * (n * T) := by rw [Int.mul_comm n P, Int.mul_assoc]
      have e2 : i * P = P * i := Int.mul_comm _ _
      have e3 : sh j * n * P = P * (sh j * n) := Int.mul_comm _ _
      have e4 : (itR P n A sh i j).1 = i * P + sh j * n * P + (A.getD j (0, 0)).1 := rfl
      rw [Int.mul_add, Int.mul_add]
      omega
    rw [e, Int.add_mul_emod_self_left, Int.emod_eq_of_lt (by omega) (by omega)]
    omega
  · rintro ⟨p, hp, r0, r1⟩
    obtain ⟨j, hj, rfl⟩ := mem_getD hp
    obtain ⟨b0, b1, b2⟩ := bd j hj
    have dm := Int.emod_add_mul_ediv x P
    have im := Int.emod_add_mul_ediv (x / P) n
    have i0 := Int.emod_nonneg (x / P) (show n ≠ 0 by omega)
    have i1 := Int.emod_lt_of_pos (x / P) (show 0 < n by omega)
    refine ⟨itR P n A sh ((x / P) % n) j, h.row _ (by omega) i1 j hj, ?_⟩
    rw [decide_eq_true_iff, it_span]
    generalize (x / P) % n = i at *
    generalize (x / P) / n = T at *
    generalize x / P = q at *
    generalize x % P = r at *
    have e : x - (itR P n A sh i j).1 = (r - (A.getD j (0, 0)).1) + n * P * (T - sh j) := by
      have e1 : n * P * (T - sh j) = P * (n * T) - P * (sh j * n) := by
        rw [Int.mul_sub, Int.mul_comm n P, Int.mul_assoc, Int.mul_assoc, Int.mul_comm n (sh j)]
      have e2 : i * P = P * i := Int.mul_comm _ _
      have e3 : sh j * n * P = P * (sh j * n) := Int.mul_comm _ _
      have e4 : (itR P n A sh i j).1 = i * P + sh j * n * P + (A.getD j (0, 0)).1 := rfl
      have e5 : P * q = P * i + P * (n * T) := by rw [← Int.mul_add, im]
      omega
    rw [e, Int.add_mul_emod_self_left, Int.emod_eq_of_lt (by omega) (by omega)]
    omega
/-- Its form is the set. -/
theorem RpS.form {P n : Int} {A : List Sp} {sh : Nat → Int} {M : List Sp} (h : RpS P n A sh (-1) 0 M) (n1 : 1 ≤ n) (pv : PV P A) (big : n * P ≤ 12622780800) (few : n * A.length ≤ 2000) : ofR (n * P) M = ((P, A), 0) := by
  have p0 := pv.p0
  have nP : P ≤ n * P := by have := Int.mul_le_mul_of_nonneg_right n1 (show 0 ≤ P by omega); omega
  have ln := h.len
  rw [show n - 1 - -1 = n by omega] at ln
  have l : M.length ≤ 2000 := by omega
  have f : ofB (n * P) M = hsP P A := funext fun x => h.same n1 pv x
  have per : Per (hsP P A) (n * P) := by have := (hs_per (P := P) (L := A)).mul n; rwa [Int.mul_comm] at this
  have e : fmP (n * P) (hsP P A) = (P, A) := by rw [fm_any (n := P) (by omega) (by omega) per hs_per]; exact pv.fm
  have le := pv.len
  unfold ofR pfR
  rw [decide_eq_true (show 1 ≤ n * P by omega), decide_eq_true big, h.sp, f, if_pos (by rfl), if_neg (by omega), e, if_neg (show ¬ 2000 < A.length by omega)]
theorem RpS.few {P n : Int} {A : List Sp} {sh : Nat → Int} {i : Int} {j : Nat} {M : List Sp} (h : RpS P n A sh i j M) (i0 : 0 ≤ i) (hj : j < A.length) (n1 : 1 ≤ n) (few : n * A.length ≤ 2000) : M.length + 1 ≤ 2000 := by
  have ln := h.len
  have e : (n - 1 - i) * A.length ≤ (n - 1) * A.length := Int.mul_le_mul_of_nonneg_right (by omega) (by omega)
  rw [Int.sub_mul n 1, Int.one_mul] at e
  omega
end Go.Proofs.Ytaikeclfmmnelaa
