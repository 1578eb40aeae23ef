/- Plain facts: a periodic list read period by period, span by span. -/
import Derived.Test.YtaikeclfmmnelaaQPeGE
import Derived.Test.YtaikeclfmmnelaaQGA
namespace Go.Proofs.Ytaikeclfmmnelaa

open Go.RowKit

set_option linter.unusedVariables false

/-- A list that goes on by one span. -/
theorem ca_add {f : Int → Bool} {a e u v : Int} (au : a ≤ u) (eu : e ≤ u) (uv : u < v) (no : ∀ x, e ≤ x → x < u → f x = false) (yes : ∀ x, u ≤ x → x < v → f x = true) : caL f a v = addL (caL f a e) (u, v) := by
  obtain ⟨c, m, -, -⟩ := add_ok (s := (u, v)) (ca_cn f a e) (fun q hq => by have := (ca_ends f a e q hq).2; show q.2 ≤ u; omega) uv
  refine (ca_eq c fun x => ?_).symm
  rw [m, ca_in]
  show ((decide (a ≤ x) && decide (x < e) && f x) || (decide (u ≤ x) && decide (x < v))) = _
  by_cases x0 : x < e
  · rw [decide_eq_true x0, decide_eq_false (show ¬ u ≤ x by omega), decide_eq_true (show x < v by omega), Bool.false_and, Bool.or_false]
  · by_cases x1 : x < u
    · rw [no x (by omega) x1, Bool.and_false, Bool.and_false, decide_eq_false (show ¬ u ≤ x by omega)]; rfl
    · by_cases x2 : x < v
      · rw [yes x (by omega) x2, decide_eq_false x0, decide_eq_true x2, decide_eq_true (show u ≤ x by omega), decide_eq_true (show a ≤ x by omega)]; rfl
      · rw [decide_eq_false x0, decide_eq_false x2]; simp
/-- How far a period's spans have been read. -/
def eN (A : List Sp) : Nat → Int
  | 0 => 0
  | i + 1 => (A.getD i (0, 0)).2
structure Sps (P : Int) (A : List Sp) (at' : Int) : Prop where
  bd : ∀ i, i < A.length → 0 ≤ eN A i ∧ eN A i ≤ (A.getD i (0, 0)).1 ∧ (A.getD i (0, 0)).1 < (A.getD i (0, 0)).2 ∧ (A.getD i (0, 0)).2 ≤ P
  no : ∀ i, i < A.length → ∀ x, at' + eN A i ≤ x → x < at' + (A.getD i (0, 0)).1 → hsP P A x = false
  yes : ∀ i, i < A.length → ∀ x, at' + (A.getD i (0, 0)).1 ≤ x → x < at' + (A.getD i (0, 0)).2 → hsP P A x = true
  last : ∀ x, at' + eN A A.length ≤ x → x < at' + P → hsP P A x = false
  lp : 0 ≤ eN A A.length ∧ eN A A.length ≤ P
theorem sps {P : Int} {A : List Sp} (pv : PV P A) {at' : Int} (d : P ∣ at') : Sps P A at' := by
  have P0 : 0 < P := by have := pv.p0; omega
  have bd : ∀ i, i < A.length → 0 ≤ (A.getD i (0, 0)).1 ∧ (A.getD i (0, 0)).1 < (A.getD i (0, 0)).2 ∧ (A.getD i (0, 0)).2 ≤ P := fun i hi => pe_at pv.cn pv.ip hi
  have e0 : ∀ i, i ≤ A.length → 0 ≤ eN A i ∧ eN A i ≤ P := fun i hi => by
    cases i with
    | zero => exact ⟨Int.le_refl _, by show (0 : Int) ≤ P; omega⟩
    | succ i => have := bd i hi; exact ⟨by show 0 ≤ (A.getD i (0, 0)).2; omega, this.2.2⟩
  have up : ∀ i, i < A.length → eN A i ≤ (A.getD i (0, 0)).1 := fun i hi => by
    cases i with
    | zero => exact (bd 0 hi).1
    | succ i => have := cn_gt pv.cn (show i < i + 1 by omega) (show i + 1 < A.length from hi); show (A.getD i (0, 0)).2 ≤ (A.getD (i + 1) (0, 0)).1; omega
  have mo : ∀ i, i ≤ A.length → ∀ j, j < i → (A.getD j (0, 0)).2 ≤ eN A i := fun i hi j hj => by
    cases i with
    | zero => omega
    | succ i => exact (cn_lo pv.cn (show j ≤ i by omega) hi).2
  have hh : ∀ x, at' ≤ x → x < at' + P → hsP P A x = inB A (x - at') := fun x x0 x1 => by
    obtain ⟨k, rfl⟩ := d
    show inB A (x % P) = _
    congr 1
    rw [show x = (x - P * k) + P * k by omega, Int.add_mul_emod_self_left, Int.emod_eq_of_lt (by omega) (by omega)]; omega
  refine ⟨fun i hi => ⟨(e0 i (by omega)).1, up i hi, (bd i hi).2⟩, fun i hi x x0 x1 => ?_, fun i hi x x0 x1 => ?_, fun x x0 x1 => ?_, e0 _ (Nat.le_refl _)⟩
  · have b := bd i hi
    have e := e0 i (by omega)
    rw [hh x (by omega) (by omega), scan_mid pv.cn hi (fun j hj => by have := mo i (by omega) j hj; omega) (by omega)]
    exact decide_eq_false (by omega)
  · have b := bd i hi
    rw [hh x (by omega) (by omega)]
    exact inB_iff.2 ⟨_, getD_mem hi, by omega, by omega⟩
  · have e := e0 _ (Nat.le_refl A.length)
    rw [hh x (by omega) x1]
    exact scan_end fun j hj => by have := mo _ (Nat.le_refl _) j hj; omega
/-- Spread: a span more; a period more. -/
theorem sp_add {P : Int} {A : List Sp} {t : Int} (s : Sps P A t) (t0 : 0 ≤ t) {i : Nat} (hi : i < A.length) : caL (hsP P A) 0 (t + eN A (i + 1)) = addL (caL (hsP P A) 0 (t + eN A i)) ((A.getD i (0, 0)).1 + t, (A.getD i (0, 0)).2 + t) := by
  have b := s.bd i hi
  rw [Int.add_comm (A.getD i (0, 0)).1, Int.add_comm (A.getD i (0, 0)).2]
  show caL _ 0 (t + (A.getD i (0, 0)).2) = _
  exact ca_add (by omega) (by omega) (by omega) (s.no i hi) (s.yes i hi)
theorem sp_last {P : Int} {A : List Sp} {t : Int} (s : Sps P A t) : caL (hsP P A) 0 (t + eN A A.length) = caL (hsP P A) 0 (t + P) :=
  ca_skip (by have := s.lp; omega) s.last
/-- Window: a span more; a period more. -/
theorem wi_add {P : Int} {A : List Sp} {t a b : Int} (ab : a < b) (s : Sps P A t) {i : Nat} (hi : i < A.length) {f g : Int} (hf : f = if (A.getD i (0, 0)).1 + t < a then a else (A.getD i (0, 0)).1 + t) (hg : g = if b < (A.getD i (0, 0)).2 + t then b else (A.getD i (0, 0)).2 + t) :
    caL (hsP P A) a (clZ b (t + eN A (i + 1))) = if f < g then addL (caL (hsP P A) a (clZ b (t + eN A i))) (f, g) else caL (hsP P A) a (clZ b (t + eN A i)) := by
  have c := s.bd i hi
  have n := s.no i hi
  have y := s.yes i hi
  show caL (hsP P A) a (clZ b (t + (A.getD i (0, 0)).2)) = _
  generalize A.getD i (0, 0) = q at *
  generalize eN A i = E at *
  have hf' : f = a ∧ q.1 + t < a ∨ f = q.1 + t ∧ a ≤ q.1 + t := by rw [hf]; split <;> omega
  have hg' : g = b ∧ b < q.2 + t ∨ g = q.2 + t ∧ q.2 + t ≤ b := by rw [hg]; split <;> omega
  have ce : clZ b (t + E) = b ∧ b < t + E ∨ clZ b (t + E) = t + E ∧ t + E ≤ b := by unfold clZ; split <;> omega
  have cv : clZ b (t + q.2) = b ∧ b < t + q.2 ∨ clZ b (t + q.2) = t + q.2 ∧ t + q.2 ≤ b := by unfold clZ; split <;> omega
  clear hf hg
  generalize clZ b (t + E) = X at *
  generalize clZ b (t + q.2) = Y at *
  by_cases z : f < g
  · rw [if_pos z, show Y = g by omega]
    by_cases k : f = a
    · have e : caL (hsP P A) a X = caL (hsP P A) a a := by
        rcases Int.le_total X a with h | h
        · rw [ca_none _ h, ca_none _ (Int.le_refl a)]
        · exact (ca_skip h fun x x0 x1 => n x (by omega) (by omega)).symm
      rw [e]
      exact ca_add (by omega) (by omega) z (fun x x0 x1 => by omega) (fun x x0 x1 => y x (by omega) (by omega))
    · exact ca_add (by omega) (by omega) z (fun x x0 x1 => n x (by omega) (by omega)) (fun x x0 x1 => y x (by omega) (by omega))
  · rw [if_neg z]
    rcases Int.lt_or_le a Y with h | h
    rotate_left
    · rw [ca_none _ h, ca_none _ (show X ≤ a by omega)]
    · exact (ca_skip (by omega) fun x x0 x1 => n x (by omega) (by omega)).symm
theorem wi_last {P : Int} {A : List Sp} {t a b : Int} (s : Sps P A t) : caL (hsP P A) a (clZ b (t + eN A A.length)) = caL (hsP P A) a (clZ b (t + P)) := by
  have l := s.lp
  have ce : clZ b (t + eN A A.length) = b ∧ b < t + eN A A.length ∨ clZ b (t + eN A A.length) = t + eN A A.length ∧ t + eN A A.length ≤ b := by unfold clZ; split <;> omega
  have cv : clZ b (t + P) = b ∧ b < t + P ∨ clZ b (t + P) = t + P ∧ t + P ≤ b := by unfold clZ; split <;> omega
  have n := s.last
  generalize clZ b (t + eN A A.length) = X at *
  generalize clZ b (t + P) = Y at *
  exact ca_skip (by omega) fun x x0 x1 => n x (by omega) (by omega)
end Go.Proofs.Ytaikeclfmmnelaa
