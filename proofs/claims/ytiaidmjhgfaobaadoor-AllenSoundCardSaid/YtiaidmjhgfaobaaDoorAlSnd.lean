/- Plain facts: composition of relations is sound and complete on any intervals; the table of compositions. No program is mentioned. -/
import Derived.Test.YtiaidmjhgfaobaaDoorAlMath
namespace Go.Proofs.YtiaidmjhgfaobaaDoor
open Go.RowKit
set_option linter.unusedVariables false

theorem cnt_le (E : List Int) {v u : Int} (h : v ≤ u) : E.countP (fun z => decide (z < v)) ≤ E.countP (fun z => decide (z < u)) := by
  induction E with
  | nil => exact Nat.le_refl _
  | cons z E ih =>
    rw [List.countP_cons, List.countP_cons]
    by_cases p : z < v
    · rw [if_pos (decide_eq_true p), if_pos (decide_eq_true (by omega))]; omega
    · rw [if_neg (by simpa using p)]; omega
theorem cnt_lt (E : List Int) {v u : Int} (h : v < u) (hv : v ∈ E) : E.countP (fun z => decide (z < v)) < E.countP (fun z => decide (z < u)) := by
  induction E with
  | nil => cases hv
  | cons z E ih =>
    rw [List.countP_cons, List.countP_cons]
    rcases List.mem_cons.1 hv with e | e
    · subst e
      have := cnt_le E (Int.le_of_lt h)
      rw [if_neg (by simp), if_pos (decide_eq_true h)]; omega
    · have := ih e
      by_cases p : z < v
      · rw [if_pos (decide_eq_true p), if_pos (decide_eq_true (by omega))]; omega
      · rw [if_neg (by simpa using p)]; omega
theorem cnt_top (E : List Int) {v : Int} (hv : v ∈ E) : E.countP (fun z => decide (z < v)) < E.length := by
  induction E with
  | nil => cases hv
  | cons z E ih =>
    rw [List.countP_cons, List.length_cons]
    rcases List.mem_cons.1 hv with e | e
    · subst e
      rw [if_neg (by simp)]
      have := List.countP_le_length (p := fun z => decide (z < v)) (l := E); omega
    · have := ih e
      split <;> omega
/-- Intervals whose ends are in the same order have the same relation. -/
theorem ofW_order {a b c d a' b' c' d' : Int} (h : a < b) (k : c < d) (h' : a' < b') (k' : c' < d') (e1 : a < c ↔ a' < c') (e2 : c < a ↔ c' < a') (e3 : a < d ↔ a' < d') (e4 : d < a ↔ d' < a') (e5 : b < c ↔ b' < c') (e6 : c < b ↔ c' < b') (e7 : b < d ↔ b' < d') (e8 : d < b ↔ d' < b') :
    ofW a' b' c' d' = ofW a b c d := by
  have x := ofW_cases a b c d h k
  have y := ofW_cases a' b' c' d' h' k'
  generalize ofW a b c d = r at *
  generalize ofW a' b' c' d' = q at *
  rcases x with x | x | x | x | x | x | x | x | x | x | x | x | x <;>
  rcases y with y | y | y | y | y | y | y | y | y | y | y | y | y <;> omega
/-- Three intervals have the same relations as three small ones. -/
theorem small_three {a b c d e g : Int} (h1 : a < b) (h2 : c < d) (h3 : e < g) :
    ∃ i j k, i < 15 ∧ j < 15 ∧ k < 15 ∧ (ofN i j : Int) = ofW a b c d ∧ (ofN j k : Int) = ofW c d e g ∧ (ofN i k : Int) = ofW a b e g := by
  obtain ⟨E, hE⟩ : ∃ E, [a, b, c, d, e, g] = E := ⟨_, rfl⟩
  have l6 : E.length = 6 := by rw [← hE]; rfl
  have ma : a ∈ E := by rw [← hE]; simp
  have mb : b ∈ E := by rw [← hE]; simp
  have mc : c ∈ E := by rw [← hE]; simp
  have md : d ∈ E := by rw [← hE]; simp
  have me : e ∈ E := by rw [← hE]; simp
  have mg : g ∈ E := by rw [← hE]; simp
  have lt := fun (v u : Int) (hv : v ∈ E) (h : v < u) => cnt_lt E h hv
  have top := fun (v : Int) (hv : v ∈ E) => cnt_top E hv
  rw [l6] at top
  generalize (fun v : Int => E.countP (fun z => decide (z < v))) = f at *
  have go : ∀ (F : Int → Nat), (∀ v u : Int, v ∈ E → v < u → F v < F u) → (∀ v : Int, v ∈ E → F v < 6) →
      ∃ i j k, i < 15 ∧ j < 15 ∧ k < 15 ∧ (ofN i j : Int) = ofW a b c d ∧ (ofN j k : Int) = ofW c d e g ∧ (ofN i k : Int) = ofW a b e g := by
    intro F lt top
    have iff : ∀ v u : Int, v ∈ E → u ∈ E → (v < u ↔ (F v : Int) < (F u : Int)) := fun v u hv hu => by
      constructor
      · intro h; have := lt v u hv h; omega
      · intro h
        rcases Int.lt_trichotomy v u with q | q | q
        · exact q
        · subst q; omega
        · have := lt u v hu q; omega
    have fi : ∀ {v u : Int}, v ∈ E → u ∈ E → v < u → ∃ i : Fin 15, smL.getD i (0, 0) = ((F v : Int), (F u : Int)) := fun {v u} hv hu h => sm_all ⟨F v, top v hv⟩ ⟨F u, top u hu⟩ (by have := lt v u hv h; exact this)
    obtain ⟨i, ei⟩ := fi ma mb h1
    obtain ⟨j, ej⟩ := fi mc md h2
    obtain ⟨k, ek⟩ := fi me mg h3
    have t1 := (iff a b ma mb).1 h1
    have t2 := (iff c d mc md).1 h2
    have t3 := (iff e g me mg).1 h3
    refine ⟨i, j, k, i.2, j.2, k.2, ?_, ?_, ?_⟩
    · rw [← (ofN_at i.2 j.2).1, ei, ej]
      exact ofW_order h1 h2 t1 t2 (iff a c ma mc) (iff c a mc ma) (iff a d ma md) (iff d a md ma) (iff b c mb mc) (iff c b mc mb) (iff b d mb md) (iff d b md mb)
    · rw [← (ofN_at j.2 k.2).1, ej, ek]
      exact ofW_order h2 h3 t2 t3 (iff c e mc me) (iff e c me mc) (iff c g mc mg) (iff g c mg mc) (iff d e md me) (iff e d me md) (iff d g md mg) (iff g d mg md)
    · rw [← (ofN_at i.2 k.2).1, ei, ek]
      exact ofW_order h1 h3 t1 t3 (iff a e ma me) (iff e a me ma) (iff a g ma mg) (iff g a mg ma) (iff b e mb me) (iff e b me mb) (iff b g mb mg) (iff g b mg mb)
  exact go (fun v => E.countP (fun z => decide (z < v))) (fun v u hv h => cnt_lt E h hv) (fun v hv => by have := cnt_top E hv; omega)
/-- The relation from the first to the third is in the composition. -/
theorem cm_sound {a b c d e g : Int} (h1 : a < b) (h2 : c < d) (h3 : e < g) {A B : Nat} (hA : A.testBit (ofW a b c d).toNat = true) (hB : B.testBit (ofW c d e g).toNat = true) : (cmI A B 15).testBit (ofW a b e g).toNat = true := by
  obtain ⟨i, j, k, hi, hj, hk, e1, e2, e3⟩ := small_three h1 h2 h3
  rw [cmI_bit]
  refine ⟨i, j, k, hi, hj, hk, ?_, ?_, ?_⟩
  · rw [← e1] at hA; exact hA
  · rw [← e2] at hB; exact hB
  · rw [← e3]; rfl
end Go.Proofs.YtiaidmjhgfaobaaDoor
