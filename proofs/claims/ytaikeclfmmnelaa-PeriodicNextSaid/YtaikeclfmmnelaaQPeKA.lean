/- Contracts of package periodic: isPeriod, isOnLine, circle. -/
import Derived.Test.YtaikeclfmmnelaaQGA
import Derived.Test.YtaikeclfmmnelaaQGE
import Derived.Test.YtaikeclfmmnelaaQRnKF
import Derived.Test.YtaikeclfmmnelaaQGB
namespace Go.Proofs.Ytaikeclfmmnelaa

open Go.RowKit

set_option linter.unusedVariables false

/-- A slice of spans that a function has made, and may write. -/
structure OwnS (B : Nat) (w : World) (v : Value) (M : List Sp) : Prop where
  sh : ∃ o c, v = .slice o M.length c ∧ M.length ≤ c ∧ (0 < M.length → ∃ b off, o = some ⟨b, off, none⟩ ∧ B ≤ b ∧ b < w.heap.size ∧ (∀ j, j < M.length → w.cell? ⟨b, off + j * 2, none⟩ = some (.int .i64 (M.getD j (0, 0)).1) ∧ w.cell? ⟨b, off + j * 2 + 1, none⟩ = some (.int .i64 (M.getD j (0, 0)).2)) ∧ ∀ j, w.frozen? ⟨b, j, none⟩ = false)
theorem OwnS.keep {B : Nat} {w w' : World} {v : Value} {M : List Sp} (h : OwnS B w v M) (hb : Below w.heap.size w w') : OwnS B w' v M := by
  obtain ⟨o, c, e, l, k⟩ := h.sh
  refine ⟨o, c, e, l, fun p => ?_⟩
  obtain ⟨b, off, e1, e2, e3, e4, e5⟩ := k p
  refine ⟨b, off, e1, e2, by have := hb.size; omega, fun j hj => ?_, fun j => ?_⟩
  · rw [hb.cell (p := ⟨b, off + j * 2, none⟩) e3, hb.cell (p := ⟨b, off + j * 2 + 1, none⟩) e3]; exact e4 j hj
  · rw [hb.frozen (p := ⟨b, j, none⟩) e3]; exact e5 j
theorem OwnS.weak {B B' : Nat} {w : World} {v : Value} {M : List Sp} (h : OwnS B w v M) (hb : B' ≤ B) : OwnS B' w v M := by
  obtain ⟨o, c, e, l, k⟩ := h.sh
  refine ⟨o, c, e, l, fun p => ?_⟩
  obtain ⟨b, off, e1, e2, e3⟩ := k p
  exact ⟨b, off, e1, by omega, e3⟩
theorem OwnS.at {B : Nat} {w : World} {o : Option Addr} {m c : Nat} {M : List Sp} (h : OwnS B w (.slice o m c) M) (p : 0 < m) : ∃ b off, o = some ⟨b, off, none⟩ ∧ m ≤ c ∧ B ≤ b ∧ b < w.heap.size ∧ (∀ j, j < M.length → w.cell? ⟨b, off + j * 2, none⟩ = some (.int .i64 (M.getD j (0, 0)).1) ∧ w.cell? ⟨b, off + j * 2 + 1, none⟩ = some (.int .i64 (M.getD j (0, 0)).2)) ∧ ∀ j, w.frozen? ⟨b, j, none⟩ = false := by
  obtain ⟨o', c', e, l, k⟩ := h.sh
  injection e with e1 e2 e3
  subst e1; subst e2; subst e3
  obtain ⟨b, off, e, k⟩ := k p
  exact ⟨b, off, e, l, k⟩
theorem OwnS.cap {B : Nat} {w : World} {v : Value} {M : List Sp} (h : OwnS B w v M) : CapS v := by
  obtain ⟨o, c, e, l, k⟩ := h.sh
  exact ⟨o, _, c, e, l⟩
theorem lies_pairs {w : World} {b off : Nat} {L : List Sp} (l : b < w.heap.size) (h : ∀ j, j < L.length → w.cell? ⟨b, off + j * 2, none⟩ = some (.int .i64 (L.getD j (0, 0)).1) ∧ w.cell? ⟨b, off + j * 2 + 1, none⟩ = some (.int .i64 (L.getD j (0, 0)).2)) : Lies w b off (pairs L) := lies_of l h
theorem OwnS.prs {B : Nat} {w : World} {v : Value} {M : List Sp} (h : OwnS B w v M) : PairS B w v M := by
  obtain ⟨o, c, rfl, l, k⟩ := h.sh
  rcases Nat.eq_zero_or_pos M.length with z | z
  · exact .inl ⟨z, o, c, by rw [z]⟩
  · obtain ⟨b, off, rfl, e2, e3, e4, e5⟩ := k z
    exact .inr ⟨b, off, c, rfl, e2, lies_pairs e3 e4⟩
theorem OwnS.nil (B : Nat) (w : World) : OwnS B w (.slice none 0 0) [] := ⟨none, 0, rfl, Nat.le_refl _, fun h => absurd h (Nat.not_lt_zero _)⟩
theorem owns_of {w : World} {B : Nat} {v : Value} {n : Nat} {L : List Sp} (hl : L.length = n) (h : w.ownsRow B 37 2 v n (pairs L)) : OwnS B w v L := by
  subst hl
  rcases h.2 with ⟨e, h0⟩ | ⟨g, c, cur, e, hg, hh, hcap, -⟩
  · refine ⟨none, 0, ?_, by omega, fun p => by omega⟩
    rw [e, h0]
  · subst e
    refine ⟨_, c, rfl, hcap, fun p => ⟨g, 0, rfl, hg, (Array.getElem?_eq_some_iff.1 hh).1, fun j hj => ?_, fun j => h.frozenAt j⟩⟩
    have pl := pairs_length L
    have q := pairs_get L j hj
    constructor
    · rw [h.cellAt _ (by omega), Nat.zero_add, Nat.mul_comm, q.1]
    · rw [h.cellAt _ (by omega), Nat.zero_add, Nat.mul_comm, q.2]
/-- What is left without the first span; the end of the last span, written. -/
theorem OwnS.tail {B : Nat} {w : World} {b off c m : Nat} {p : Sp} {M : List Sp} (h : OwnS B w (.slice (some ⟨b, off, none⟩) m c) (p :: M)) : OwnS B w (.slice (some ⟨b, off + 2, none⟩) M.length (c - 1)) M := by
  obtain ⟨o, c', e, l, k⟩ := h.sh
  injection e with e1 e2 e3
  subst e3
  rw [List.length_cons] at l
  refine ⟨_, _, rfl, by omega, fun q => ⟨b, off + 2, rfl, ?_⟩⟩
  obtain ⟨b', off', e1', e2', e3', e4', e5'⟩ := k (by simp)
  rw [← e1] at e1'
  injection e1' with e1'
  injection e1' with x1 x2
  subst x1; subst x2
  refine ⟨e2', e3', fun j hj => ?_, e5'⟩
  have := e4' (j + 1) (by simpa using hj)
  rw [show off + 2 + j * 2 = off + (j + 1) * 2 by omega]
  exact this
theorem OwnS.last {B : Nat} {w : World} {b off c m : Nat} {R : List Sp} {q : Sp} (h : OwnS B w (.slice (some ⟨b, off, none⟩) m c) (R ++ [q])) (y : Int) : OwnS B (w.setCell ⟨b, off + R.length * 2 + 1, none⟩ (.int .i64 y)) (.slice (some ⟨b, off, none⟩) m c) (R ++ [(q.1, y)]) := by
  obtain ⟨o, c', e, l, k⟩ := h.sh
  have ln : (R ++ [q]).length = R.length + 1 := by simp
  have ln' : (R ++ [(q.1, y)]).length = R.length + 1 := by simp
  rw [ln] at e l k
  refine ⟨o, c', by rw [ln']; exact e, by rw [ln']; exact l, fun _ => ?_⟩
  injection e with e1 e2 e3
  subst e3
  obtain ⟨b', off', e1', e2', e3', e4', e5'⟩ := k (by omega)
  rw [← e1] at e1'
  injection e1' with e1'
  injection e1' with x1 x2
  subst x1; subst x2
  refine ⟨b, off, e1.symm, e2', by rw [size_set]; exact e3', fun j hj => ?_, fun j => by rw [World.frozen?_setCell]; exact e5' j⟩
  rw [ln'] at hj
  have q4 := e4' j hj
  rcases Nat.lt_or_ge j R.length with z | z
  · rw [app_left R _ z] at q4 ⊢
    rw [World.cell?_setCell_other (h := by intro e; injection e with _ e; omega), World.cell?_setCell_other (h := by intro e; injection e with _ e; omega)]
    exact q4
  · obtain rfl : j = R.length := by omega
    have a := app_right R [q] 0
    have a' := app_right R [(q.1, y)] 0
    rw [Nat.add_zero] at a a'
    rw [a] at q4
    rw [a']
    refine ⟨?_, World.cell?_setCell_same w _ _ q4.2⟩
    rw [World.cell?_setCell_other (h := by simp)]; exact q4.1
theorem OwnS.take {B : Nat} {w : World} {o : Option Addr} {c m : Nat} {M : List Sp} (h : OwnS B w (.slice o m c) M) {i : Nat} (hi : i ≤ M.length) : OwnS B w (.slice o i c) (M.take i) := by
  obtain ⟨o', c', e, l, k⟩ := h.sh
  injection e with e1 e2 e3
  subst e1; subst e3
  have ln : (M.take i).length = i := by rw [List.length_take]; omega
  refine ⟨o, c, by rw [ln], by omega, fun p => ?_⟩
  rw [ln] at p ⊢
  obtain ⟨b, off, e1, e2, e3, e4, e5⟩ := k (by omega)
  refine ⟨b, off, e1, e2, e3, fun j hj => ?_, e5⟩
  rw [take_getD _ hj]; exact e4 j (by omega)
theorem OwnS.far {B : Nat} {w : World} {b off c m : Nat} {M : List Sp} (h : OwnS B w (.slice (some ⟨b, off, none⟩) m c) M) {p : Addr} (ne : p.block ≠ b) (u : Value) : OwnS B (w.setCell p u) (.slice (some ⟨b, off, none⟩) m c) M := by
  obtain ⟨o, c', e, l, k⟩ := h.sh
  refine ⟨o, c', e, l, fun q => ?_⟩
  injection e with e1 e2 e3
  obtain ⟨b', off', e1', e2', e3', e4', e5'⟩ := k q
  rw [← e1] at e1'
  injection e1' with e1'
  injection e1' with x1 x2
  subst x1; subst x2
  have o : ∀ j, p ≠ (⟨b, j, none⟩ : Addr) := fun j e => ne (by rw [e])
  refine ⟨b, off, e1.symm, e2', by rw [size_set]; exact e3', fun j hj => ?_, fun j => by rw [World.frozen?_setCell]; exact e5' j⟩
  rw [World.cell?_setCell_other (h := o _), World.cell?_setCell_other (h := o _)]
  exact e4' j hj
theorem Tuo.far {w : World} {b : Nat} {x y : Value} (h : Tuo w b x y) {p : Addr} (ne : p.block ≠ b) (u : Value) : Tuo (w.setCell p u) b x y := by
  have o : ∀ j, p ≠ (⟨b, j, none⟩ : Addr) := fun j e => ne (by rw [e])
  exact ⟨⟨by rw [World.cell?_setCell_other (h := o _)]; exact h.t.c0, by rw [World.cell?_setCell_other (h := o _)]; exact h.t.c1, by rw [size_set]; exact h.t.lt⟩, by rw [World.frozen?_setCell]; exact h.f0, by rw [World.frozen?_setCell]; exact h.f1⟩
theorem Tuo.under {w w' : World} {B b : Nat} {x y : Value} (h : Tuo w b x y) (hb : Below B w w') (l : b < B) : Tuo w' b x y :=
  ⟨h.t.under hb l, by rw [hb.frozen (p := ⟨b, 0, none⟩) l]; exact h.f0, by rw [hb.frozen (p := ⟨b, 1, none⟩) l]; exact h.f1⟩
theorem OwnS.news {B : Nat} {w : World} {o : Option Addr} {c m : Nat} {M : List Sp} (h : OwnS B w (.slice o m c) M) (p : 0 < m) : ∃ ad, o = some ad ∧ ad.block < w.heap.size ∧ M.length = m ∧ m ≤ c ∧ ∀ j u, (pairs M)[j]? = some u → w.cell? (ad.add j) = some u := by
  obtain ⟨b, off, e, l, hB, lt, k, fz⟩ := h.at p
  refine ⟨_, e, lt, ?_, l, fun j u hj => ?_⟩
  · obtain ⟨o', c', e', -⟩ := h.sh
    injection e' with _ e2 _
    exact e2.symm
  · have L := lies_pairs lt k
    have := L.cell j u hj
    rw [Addr.add_lit]; exact this
theorem upisper (P : Int) (w : World) :
    Calls Try.prog 46 #[.int .i64 P] w fun e w' => e = .returned (.bool (decide (1 ≤ P) && decide (P ≤ 12622780800))) ∧ w = w' := by
  cases p : decide (1 ≤ P) <;> cases q : decide (P ≤ 12622780800)
  all_goals
    go_enter Try.func46, Try.ntmps46
    go_wp2
    go_ret
    exact ⟨rfl, rfl⟩
theorem upisline (n : Int) (w : World) :
    Calls Try.prog 69 #[.int .i64 n] w fun e w' => e = .returned (.bool (nvB n)) ∧ w = w' := by
  unfold nvB
  cases p : decide (-4398046511104 ≤ n) <;> cases q : decide (n ≤ 4398046511104)
  all_goals
    go_enter Try.func69, Try.ntmps69
    go_wp2
    go_ret
    exact ⟨rfl, rfl⟩
end Go.Proofs.Ytaikeclfmmnelaa
