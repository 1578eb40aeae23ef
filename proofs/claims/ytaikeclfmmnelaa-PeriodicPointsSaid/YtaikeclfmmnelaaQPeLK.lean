/- Law 13: near, of two sets that have just been laid side by side. -/
import Derived.Test.YtaikeclfmmnelaaQPeLH
namespace Go.Proofs.Ytaikeclfmmnelaa
open Go.RowKit
set_option linter.unusedVariables false

theorem cell_four (w : World) (a b c d : Value) (t : TypeId) (ha : a.oneCell' = true) : (w.alloc (.cells #[a, b, c, d] t)).cell? ⟨w.heap.size, 0, none⟩ = some a ∧ (w.alloc (.cells #[a, b, c, d] t)).cell? ⟨w.heap.size, 1, none⟩ = some b ∧ (w.alloc (.cells #[a, b, c, d] t)).cell? ⟨w.heap.size, 2, none⟩ = some c ∧ (w.alloc (.cells #[a, b, c, d] t)).cell? ⟨w.heap.size, 3, none⟩ = some d := by
  simp only [World.cell?_alloc_new]
  exact ⟨rfl, rfl, rfl, rfl⟩
theorem rpnear2 (Pa Pb : Int) (va vb : Value) (A B : List Sp) (x : Int) (x0 : -4398046511104 ≤ x) (x1 : x ≤ 4398046511104) {ba bb : Nat} (w : World) (pva : PV Pa A) (pvb : PV Pb B) (la : A.length ≤ 40) (lb : B.length ≤ 40) (a : PairS ba w va A) (b : PairS bb w vb B) :
    Calls Try.prog 33 #[.int .i64 x, .slice (some ⟨w.heap.size, 0, none⟩) 2 2] (w.alloc (.cells #[.int .i64 Pa, va, .int .i64 Pb, vb] 24)) fun e w' => (∃ v' M, e = .returned v' ∧ IntS w.heap.size w' v' M ∧ M.length ≤ 401 ∧ NrB M) ∧ Below w.heap.size w w' := by
  have gb := grow (here w) (.cells #[.int .i64 Pa, va, .int .i64 Pb, vb] 24)
  obtain ⟨c0, c1, c2, c3⟩ := cell_four w (.int .i64 Pa) va (.int .i64 Pb) vb 24 rfl
  have a' : PairS 0 (w.alloc (.cells #[.int .i64 Pa, va, .int .i64 Pb, vb] 24)) va A := Sl.weak (a.keep gb) (Nat.zero_le _)
  have b' : PairS 0 (w.alloc (.cells #[.int .i64 Pa, va, .int .i64 Pb, vb] 24)) vb B := Sl.weak (b.keep gb) (Nat.zero_le _)
  have sz : w.heap.size < (w.alloc (.cells #[.int .i64 Pa, va, .int .i64 Pb, vb] 24)).heap.size := by simp
  have sz' := gb.size
  obtain ⟨g, hg⟩ : ∃ g, w.heap.size = g := ⟨_, rfl⟩
  rw [hg] at c0 c1 c2 c3 sz ⊢
  generalize w.alloc (.cells #[.int .i64 Pa, va, .int .i64 Pb, vb] 24) = w1 at *
  have two : ∀ {p : Nat → Prop}, p 0 → p 1 → ∀ k, k < 2 → p k := fun h0 h1 k hk => by
    rcases (show k = 0 ∨ k = 1 by omega) with rfl | rfl
    · exact h0
    · exact h1
  have h := rpnear g (fun k => if k = 0 then Pa else Pb) (fun k => if k = 0 then va else vb) (fun k => if k = 0 then A else B) x x0 x1 w1 sz (two ⟨c0, c1⟩ ⟨c2, c3⟩) (two pva pvb) (two la lb) (two a' b')
  refine h.mono ?_
  rintro e w' ⟨⟨v', M, he, hi, hl, hn⟩, hb⟩
  refine ⟨⟨v', M, he, Sl.weak hi (by omega), hl, hn⟩, ?_⟩
  rw [hg] at gb
  rw [← hg]
  exact down (by rw [hg]; exact gb) hb
end Go.Proofs.Ytaikeclfmmnelaa
