/- Slices of ints and of pairs: where they lie, what stays; slices.Equal, slices.Index, slices.Contains of ints. -/
import Derived.Test.YtaikeclfmmnelaaQGJ
import Derived.Test.YtaikeclfmmnelaaProg
import Derived.WalkKit
import Derived.Outline
import Derived.BigQuiet
import Derived.Deep.QuietTactic
import Derived.OwnWalk
import Derived.Lib.SmallJoins
import Derived.Test.YtaikeclfmmnelaaQGA
namespace Go.Proofs.Ytaikeclfmmnelaa

open Go.RowKit

set_option linter.unusedVariables false

/-- Cells lie from a place on. -/
structure Lies (w : World) (b off : Nat) (xs : List Value) : Prop where
  lt : b < w.heap.size
  cell : ∀ (j : Nat) (u : Value), xs[j]? = some u → w.cell? ⟨b, off + j, none⟩ = some u
theorem Lies.keep {w w' : World} {b off : Nat} {xs : List Value} (h : Lies w b off xs) (hb : Below w.heap.size w w') : Lies w' b off xs := by
  have l := h.lt
  refine ⟨by have := hb.size; omega, fun j u hj => ?_⟩
  rw [hb.cell (p := ⟨b, off + j, none⟩) l]; exact h.cell j u hj
/-- A slice of n elements whose cells are xs, in a block from base on. -/
def Sl (base : Nat) (w : World) (v : Value) (n : Nat) (xs : List Value) : Prop :=
  (n = 0 ∧ ∃ ao c, v = .slice ao 0 c) ∨ ∃ b off c, v = .slice (some ⟨b, off, none⟩) n c ∧ base ≤ b ∧ Lies w b off xs
theorem Sl.keep {base : Nat} {w w' : World} {v : Value} {n : Nat} {xs : List Value} (h : Sl base w v n xs) (hb : Below w.heap.size w w') : Sl base w' v n xs := by
  rcases h with h | ⟨b, off, c, h, l, k⟩
  · exact .inl h
  · exact .inr ⟨b, off, c, h, l, k.keep hb⟩
theorem Sl.weak {base base' : Nat} {w : World} {v : Value} {n : Nat} {xs : List Value} (h : Sl base w v n xs) (hb : base' ≤ base) : Sl base' w v n xs := by
  rcases h with h | ⟨b, off, c, h, l, k⟩
  · exact .inl h
  · exact .inr ⟨b, off, c, h, Nat.le_trans hb l, k⟩
theorem Sl.far {base : Nat} {w : World} {v : Value} {n : Nat} {xs : List Value} (h : Sl base w v n xs) {b' o : Nat} (hb : b' < base) (u : Value) : Sl base (w.setCell ⟨b', o, none⟩ u) v n xs := by
  rcases h with h | ⟨b, off, c, h, l, k⟩
  · exact .inl h
  · refine .inr ⟨b, off, c, h, l, by rw [size_set]; exact k.lt, fun j x hj => ?_⟩
    rw [World.cell?_setCell_other (h := fun e => by have := congrArg Addr.block e; simp at this; omega)]
    exact k.cell j x hj
theorem Sl.none (base : Nat) (w : World) : Sl base w (.slice none 0 0) 0 [] := .inl ⟨rfl, _, _, rfl⟩
theorem Sl.shape {base : Nat} {w : World} {v : Value} {n : Nat} {xs : List Value} (h : Sl base w v n xs) : ∃ ao c, v = .slice ao n c := by
  rcases h with ⟨rfl, a, c, rfl⟩ | ⟨b, o, c, rfl, -⟩ <;> exact ⟨_, _, rfl⟩
theorem Sl.owns {w : World} {base : Nat} {e : TypeId} {size : Nat} {v : Value} {n : Nat} {xs : List Value} (h : w.ownsRow base e size v n xs) : Sl base w v n xs := by
  rcases h.2 with ⟨rfl, rfl⟩ | ⟨g, cap, cur, rfl, hb, hh, -, -, -, hx⟩
  · exact .inl ⟨rfl, _, _, rfl⟩
  · refine .inr ⟨g, 0, cap, rfl, hb, ?_, fun j u hj => ?_⟩
    · exact (h.lt g rfl).2
    · have := h.cells (g := g) rfl j u hj
      rw [Addr.add_lit, Nat.zero_add] at this
      rw [Nat.zero_add]; exact this
abbrev ints (zs : List Int) : List Value := zs.map (Value.int .i64)
def IntS (base : Nat) (w : World) (v : Value) (zs : List Int) : Prop := Sl base w v zs.length (ints zs)
/-- The cells of pairs of ints. -/
def pairs : List (Int × Int) → List Value
  | [] => []
  | p :: l => .int .i64 p.1 :: .int .i64 p.2 :: pairs l
def PairS (base : Nat) (w : World) (v : Value) (ps : List (Int × Int)) : Prop := Sl base w v ps.length (pairs ps)
theorem IntS.keep {base : Nat} {w w' : World} {v : Value} {zs : List Int} (h : IntS base w v zs) (hb : Below w.heap.size w w') : IntS base w' v zs := Sl.keep h hb
theorem PairS.keep {base : Nat} {w w' : World} {v : Value} {ps : List (Int × Int)} (h : PairS base w v ps) (hb : Below w.heap.size w w') : PairS base w' v ps := Sl.keep h hb
theorem ints_at {w : World} {b off : Nat} {zs : List Int} (h : Lies w b off (ints zs)) (j : Nat) (hj : j < zs.length) : w.cell? ⟨b, off + j, none⟩ = some (.int .i64 (zs.getD j 0)) := by
  refine h.cell j _ ?_
  simp [ints, List.getD_eq_getElem?_getD, hj]
theorem pairs_length (ps : List (Int × Int)) : (pairs ps).length = ps.length * 2 := by
  induction ps with
  | nil => rfl
  | cons p l ih => simp [pairs, ih]; omega
theorem pairs_append (a b : List (Int × Int)) : pairs (a ++ b) = pairs a ++ pairs b := by
  induction a with
  | nil => rfl
  | cons p l ih => simp [pairs, ih]
theorem pairs_get (ps : List (Int × Int)) (j : Nat) (hj : j < ps.length) : (pairs ps)[2 * j]? = some (.int .i64 (ps.getD j (0, 0)).1) ∧ (pairs ps)[2 * j + 1]? = some (.int .i64 (ps.getD j (0, 0)).2) := by
  induction ps generalizing j with
  | nil => exact absurd hj (Nat.not_lt_zero _)
  | cons p l ih =>
    cases j with
    | zero => exact ⟨rfl, rfl⟩
    | succ j =>
      have h := ih j (by simpa using hj)
      rw [show 2 * (j + 1) = 2 * j + 2 by omega, show 2 * j + 2 + 1 = 2 * j + 1 + 2 by omega]
      simpa [pairs] using h
theorem pairs_at {w : World} {b off : Nat} {ps : List (Int × Int)} (h : Lies w b off (pairs ps)) (j : Nat) (hj : j < ps.length) :
    w.cell? ⟨b, off + j * 2, none⟩ = some (.int .i64 (ps.getD j (0, 0)).1) ∧ w.cell? ⟨b, off + j * 2 + 1, none⟩ = some (.int .i64 (ps.getD j (0, 0)).2) := by
  have q := pairs_get ps j hj
  rw [Nat.mul_comm 2 j] at q
  exact ⟨h.cell _ _ q.1, by rw [Nat.add_assoc]; exact h.cell _ _ q.2⟩
theorem list_eq_of {α : Type} {d : α} {a b : List α} (l : a.length = b.length) (h : ∀ j, j < a.length → a.getD j d = b.getD j d) : a = b := by
  refine List.ext_getElem l fun j h1 h2 => ?_
  have := h j h1
  simpa [List.getD_eq_getElem?_getD, h1, h2] using this
theorem list_ne_of {α : Type} {d : α} {a b : List α} (j : Nat) (h : ¬ a.getD j d = b.getD j d) : ¬ a = b := fun e => h (by rw [e])
end Go.Proofs.Ytaikeclfmmnelaa
/- Slices that a function makes by appending: what they own, and that it stays. -/
namespace Go.Proofs.Ytaikeclfmmnelaa

open Go.RowKit

set_option linter.unusedVariables false

theorem One.under {w w' : World} {B b : Nat} {v : Value} (h : One w b v) (hb : Below B w w') (l : b < B) : One w' b v :=
  ⟨by rw [hb.cell (p := ⟨b, 0, none⟩) l]; exact h.c, by have := hb.size; have := h.lt; omega⟩
theorem Box.under {w w' : World} {B b : Nat} {x y z : Value} (h : Box w b x y z) (hb : Below B w w') (l : b < B) : Box w' b x y z := by
  refine ⟨?_, ?_, ?_, by have := hb.size; have := h.lt; omega⟩
  · rw [hb.cell (p := ⟨b, 0, none⟩) l]; exact h.c0
  · rw [hb.cell (p := ⟨b, 1, none⟩) l]; exact h.c1
  · rw [hb.cell (p := ⟨b, 2, none⟩) l]; exact h.c2
theorem Free.under {w w' : World} {B b : Nat} (h : Free w b) (hb : Below B w w') (l : b < B) : Free w' b :=
  ⟨by rw [hb.frozen (p := ⟨b, 0, none⟩) l]; exact h.f0, by rw [hb.frozen (p := ⟨b, 1, none⟩) l]; exact h.f1, by rw [hb.frozen (p := ⟨b, 2, none⟩) l]; exact h.f2⟩
theorem owns_below {w w' : World} {base : Nat} {e : TypeId} {size : Nat} {v : Value} {n : Nat} {xs : List Value} (h : w.ownsRow base e size v n xs) (hb : Below w.heap.size w w') : w'.ownsRow base e size v n xs :=
  h.kept (row := none) ⟨hb.os, hb.tape, hb.output, hb.size, fun k hk _ => hb.block k hk⟩ (by
    cases v.ownBlock <;> simp)
theorem own_ge {w : World} {base : Nat} {e : TypeId} {size : Nat} {v : Value} {n : Nat} {xs : List Value} (h : w.ownsRow base e size v n xs) : ∀ k, v.ownBlock = some k → base ≤ k := fun k hk => (h.lt k hk).1
theorem infoInt : (Try.prog.info? 3).map (fun i => (i.zero, i.size, i.bytes)) = some (some (.int .i64 0), 1, 8) := by kernel_rfl
end Go.Proofs.Ytaikeclfmmnelaa
/- Boxes of two cells that may be written; spans that a function appends. -/
namespace Go.Proofs.Ytaikeclfmmnelaa

open Go.RowKit

set_option linter.unusedVariables false

theorem infoSpan : (Try.prog.info? 37).map (fun i => (i.zero, i.size, i.bytes)) = some (some (.agg #[.int .i64 0, .int .i64 0]), 2, 16) := by kernel_rfl
/-- A boxed struct of two cells that may be written. -/
structure Tuo (w : World) (b : Nat) (x y : Value) : Prop where
  t : Two w b x y
  f0 : w.frozen? ⟨b, 0, none⟩ = false
  f1 : w.frozen? ⟨b, 1, none⟩ = false
theorem Tuo.keep {w w' : World} {b : Nat} {x y : Value} (h : Tuo w b x y) (hb : Below w.heap.size w w') : Tuo w' b x y :=
  ⟨h.t.keep hb, by rw [hb.frozen (p := ⟨b, 0, none⟩) h.t.lt]; exact h.f0, by rw [hb.frozen (p := ⟨b, 1, none⟩) h.t.lt]; exact h.f1⟩
theorem Tuo.new (w : World) (x y : Value) (t : TypeId) : Tuo (w.alloc (.cells #[x, y] t)) w.heap.size x y :=
  ⟨Two.new (here _), World.frozen?_alloc_new _ _ _ _, World.frozen?_alloc_new _ _ _ _⟩
theorem Tuo.put {w : World} {b : Nat} {x y : Value} (h : Tuo w b x y) (u v : Value) : Two ((w.setCell ⟨b, 0, none⟩ u).setCell ⟨b, 1, none⟩ v) b u v :=
  ⟨by rw [World.cell?_setCell_other (h := by simp)]; exact World.cell?_setCell_same w _ u h.t.c0, World.cell?_setCell_same _ _ v (by rw [World.cell?_setCell_other (h := by simp)]; exact h.t.c1), by rw [size_set, size_set]; exact h.t.lt⟩
theorem Tuo.put0 {w : World} {b : Nat} {x y : Value} (h : Tuo w b x y) (u : Value) : Tuo (w.setCell ⟨b, 0, none⟩ u) b u y :=
  ⟨⟨World.cell?_setCell_same w _ u h.t.c0, by rw [World.cell?_setCell_other (h := by simp)]; exact h.t.c1, by rw [size_set]; exact h.t.lt⟩, by rw [World.frozen?_setCell]; exact h.f0, by rw [World.frozen?_setCell]; exact h.f1⟩
theorem Tuo.put1 {w : World} {b : Nat} {x y : Value} (h : Tuo w b x y) (v : Value) : Tuo (w.setCell ⟨b, 1, none⟩ v) b x v :=
  ⟨⟨by rw [World.cell?_setCell_other (h := by simp)]; exact h.t.c0, World.cell?_setCell_same w _ v h.t.c1, by rw [size_set]; exact h.t.lt⟩, by rw [World.frozen?_setCell]; exact h.f0, by rw [World.frozen?_setCell]; exact h.f1⟩
theorem Two.under {w w' : World} {B b : Nat} {x y : Value} (h : Two w b x y) (hb : Below B w w') (l : b < B) : Two w' b x y := by
  refine ⟨?_, ?_, by have := hb.size; have := h.lt; omega⟩
  · rw [hb.cell (p := ⟨b, 0, none⟩) l]; exact h.c0
  · rw [hb.cell (p := ⟨b, 1, none⟩) l]; exact h.c1
/-- One more span behind those that a function has made. -/
theorem own_snoc {w : World} {B : Nat} {v : Value} {n : Nat} {l : List (Int × Int)} {p : Int × Int} (h : w.ownsRow B 37 2 v n (pairs l ++ [.int .i64 p.1, .int .i64 p.2])) : w.ownsRow B 37 2 v n (pairs (l ++ [p])) := by
  rw [pairs_append]; exact h
end Go.Proofs.Ytaikeclfmmnelaa
/- Contracts of civiltimeref12: numbers, spans, lists, elements, measures. -/
namespace Go.Proofs.Ytaikeclfmmnelaa

open Go.RowKit

set_option linter.unusedVariables false

/-- A list of spans: where its cells lie. -/
theorem prs_here {base : Nat} {w : World} {o : Option Addr} {n c : Nat} {L : List Sp} (h : PairS base w (.slice o n c) L) {i : Nat} (hi : i < L.length) :
    ∃ b off, o = some ⟨b, off, none⟩ ∧ b < w.heap.size ∧ ∀ j, j < L.length → w.cell? ⟨b, off + j * 2, none⟩ = some (.int .i64 (L.getD j (0, 0)).1) ∧ w.cell? ⟨b, off + j * 2 + 1, none⟩ = some (.int .i64 (L.getD j (0, 0)).2) := by
  rcases h with ⟨h0, -⟩ | ⟨b, off, c', e, -, l⟩
  · omega
  · injection e with e1 e2 e3
    exact ⟨b, off, e1, l.lt, fun j hj => pairs_at l j hj⟩
theorem prs_shape {base : Nat} {w : World} {v : Value} {L : List Sp} (h : PairS base w v L) : ∃ o c, v = .slice o L.length c := by
  rcases h with ⟨h0, a, c, rfl⟩ | ⟨b, off, c, rfl, -⟩
  · exact ⟨a, c, by rw [h0]⟩
  · exact ⟨_, _, rfl⟩
end Go.Proofs.Ytaikeclfmmnelaa
/- Contracts of civiltimeref12: Same, Measure, Rank, Next, Nth. -/
namespace Go.Proofs.Ytaikeclfmmnelaa

open Go.RowKit

set_option linter.unusedVariables false

theorem drop_at {L : List Sp} {k : Nat} (h : k < L.length) : L.drop k = L.getD k (0, 0) :: L.drop (k + 1) := by
  rw [List.drop_eq_getElem_cons h, List.getD_eq_getElem?_getD, List.getElem?_eq_getElem h]; rfl
theorem va_at {L : List Sp} (h : vaB L = true) {k : Nat} (hk : k < L.length) : -4398046511104 ≤ (L.getD k (0, 0)).1 ∧ (L.getD k (0, 0)).2 ≤ 4398046511104 ∧ (L.getD k (0, 0)).1 < (L.getD k (0, 0)).2 := by
  obtain ⟨-, a, b⟩ := vaB_iff.1 h
  have m : L.getD k (0, 0) ∈ L := by rw [List.getD_eq_getElem?_getD, List.getElem?_eq_getElem hk]; exact List.getElem_mem hk
  exact ⟨(a _ m).1, (a _ m).2, b.lt _ m⟩
theorem va_len {L : List Sp} (h : vaB L = true) : L.length ≤ 2000 := (vaB_iff.1 h).1
end Go.Proofs.Ytaikeclfmmnelaa
/- slices.Equal of spans. -/
namespace Go.Proofs.Ytaikeclfmmnelaa

open Go.RowKit

set_option linter.unusedVariables false

theorem eqp_len (v1 v2 : Option Addr) (n m c1 c2 : Nat) (h : ¬ n = m) (w : World) :
    Calls Try.prog 22 #[.slice v1 n c1, .slice v2 m c2] w fun e w' => e = .returned (.bool false) ∧ w = w' := by
  have k : ((n : Int) != (m : Int)) = true := by simp; omega
  go_enter Try.func22, Try.ntmps22
  go_wp2
  go_ret
  exact ⟨rfl, rfl⟩
theorem eqp_zero (v1 v2 : Option Addr) (c1 c2 : Nat) (w : World) :
    Calls Try.prog 22 #[.slice v1 0 c1, .slice v2 0 c2] w fun e w' => e = .returned (.bool true) ∧ w = w' := by
  go_enter Try.func22, Try.ntmps22
  go_wp2
  go_loop [13] (fun a => a = .int .i64 0) (fun _ => 0)
  case atStart => rfl
  case round =>
    subst hrel
    go_wp2
    go_ret
    exact ⟨rfl, rfl⟩
set_option maxHeartbeats 400000 in
theorem eqp_same (zs ys : List (Int × Int)) (n b1 o1 c1 b2 o2 c2 : Nat) (l1 : zs.length = n) (l2 : ys.length = n) (hn : n ≤ 1099511627776) (w : World) (h1 : Lies w b1 o1 (pairs zs)) (h2 : Lies w b2 o2 (pairs ys)) :
    Calls Try.prog 22 #[.slice (some ⟨b1, o1, none⟩) n c1, .slice (some ⟨b2, o2, none⟩) n c2] w fun e w' => e = .returned (.bool (zs == ys)) ∧ ∃ q, w' = w.drewN q := by
  have C1 := Lib.hid (fun j (hj : j < n) => pairs_at h1 j (by omega))
  have C2 := Lib.hid (fun j (hj : j < n) => pairs_at h2 j (by omega))
  have L : Hid (zs.length = ys.length ∧ zs.length = n) := ⟨by omega, l1⟩
  clear l1 l2 h1 h2
  go_enter Try.func22, Try.ntmps22
  go_wp2
  go_loopw [13] (fun a wr => ∃ k q : Nat, k ≤ n ∧ a = .int .i64 k ∧ wr = w.drewN q ∧ Hid (∀ j, j < k → zs.getD j (0, 0) = ys.getD j (0, 0))) (fun a _ => n - (intOf a).toNat)
  case atStart => exact ⟨0, 0, Nat.zero_le _, rfl, rfl, fun j hj => absurd hj (Nat.not_lt_zero _)⟩
  case round =>
    obtain ⟨k, q0, hk, rfl, rfl, HE⟩ := hrel
    by_cases z : k < n
    · have kz : decide ((k : Int) < (n : Int)) = true := decide_eq_true (by omega)
      obtain ⟨d1, d3⟩ := C1.out k z
      obtain ⟨d2, d4⟩ := C2.out k z
      by_cases e : zs.getD k (0, 0) = ys.getD k (0, 0)
      · have HE' : Hid (∀ j, j < k + 1 → zs.getD j (0, 0) = ys.getD j (0, 0)) := fun j hj => by
          rcases Nat.lt_or_ge j k with c | c
          · exact HE.out j c
          · obtain rfl : j = k := by omega
            exact e
        rw [← e] at d2 d4
        clear e HE
        generalize zs.getD k (0, 0) = x at *
        obtain ⟨x, x'⟩ := x
        go_wp2
        go_quiet (fail)
        go_wp2
        go_roundw
        case rel => exact ⟨k + 1, _, by omega, by go_num, rfl, HE'⟩
        case measure => simp [intOf]; omega
      · have hr : Hid ((zs == ys) = false) := by show _ = _; rw [beq_eq_false_iff_ne]; exact list_ne_of k e
        clear HE
        generalize zs.getD k (0, 0) = x at *
        generalize ys.getD k (0, 0) = y at *
        obtain ⟨x, x'⟩ := x
        obtain ⟨y, y'⟩ := y
        by_cases q : x = y
        · subst q
          have ke : (x' == y') = false := by rw [beq_eq_false_iff_ne]; exact fun r => e (by rw [r])
          clear e
          go_wp2
          go_quiet (fail)
          go_wp2
          go_ret
          exact ⟨by rw [hr.out]; rfl, _, World.drewN_drewN _ _ _⟩
        · have ke : (x == y) = false := by rw [beq_eq_false_iff_ne]; exact q
          clear e
          go_wp2
          go_quiet (fail)
          go_wp2
          go_ret
          exact ⟨by rw [hr.out]; rfl, _, World.drewN_drewN _ _ _⟩
    · obtain rfl : k = n := by omega
      have hr : Hid ((zs == ys) = true) := by show _ = _; rw [beq_iff_eq]; exact list_eq_of L.out.1 (fun j hj => HE.out j (by have := L.out.2; omega))
      have kz : decide ((k : Int) < (k : Int)) = false := decide_eq_false (by omega)
      clear C1 C2 HE L z
      go_wp2
      go_ret
      exact ⟨by rw [hr.out]; rfl, _, rfl⟩
theorem eq_pairs (zs ys : List (Int × Int)) (v1 v2 : Value) (hn : zs.length ≤ 1099511627776) (w : World) {p1 p2 : Nat} (h1 : PairS p1 w v1 zs) (h2 : PairS p2 w v2 ys) :
    Calls Try.prog 22 #[v1, v2] w fun e w' => e = .returned (.bool (zs == ys)) ∧ ∃ q, w' = w.drewN q := by
  have nb : ¬ zs.length = ys.length → (zs == ys) = false := fun h => by rw [beq_eq_false_iff_ne]; exact fun e => h (by rw [e])
  rcases h1 with ⟨l1, a1, c1, rfl⟩ | ⟨b1, o1, c1, rfl, -, k1⟩
  · rcases h2 with ⟨l2, a2, c2, rfl⟩ | ⟨b2, o2, c2, rfl, -, k2⟩
    · rw [show zs = [] from List.eq_nil_of_length_eq_zero l1, show ys = [] from List.eq_nil_of_length_eq_zero l2]
      exact (eqp_zero a1 a2 c1 c2 w).mono fun _ _ ⟨he, hw⟩ => ⟨he, 0, hw ▸ rfl⟩
    · by_cases l2 : ys.length = 0
      · rw [l2, show zs = [] from List.eq_nil_of_length_eq_zero l1, show ys = [] from List.eq_nil_of_length_eq_zero l2]
        exact (eqp_zero a1 _ c1 c2 w).mono fun _ _ ⟨he, hw⟩ => ⟨he, 0, hw ▸ rfl⟩
      · rw [nb (by omega)]
        exact (eqp_len a1 _ 0 ys.length c1 c2 (by omega) w).mono fun _ _ ⟨he, hw⟩ => ⟨he, 0, hw ▸ rfl⟩
  · rcases h2 with ⟨l2, a2, c2, rfl⟩ | ⟨b2, o2, c2, rfl, -, k2⟩
    · by_cases l1 : zs.length = 0
      · rw [l1, show zs = [] from List.eq_nil_of_length_eq_zero l1, show ys = [] from List.eq_nil_of_length_eq_zero l2]
        exact (eqp_zero _ a2 c1 c2 w).mono fun _ _ ⟨he, hw⟩ => ⟨he, 0, hw ▸ rfl⟩
      · rw [nb (by omega)]
        exact (eqp_len _ a2 zs.length 0 c1 c2 l1 w).mono fun _ _ ⟨he, hw⟩ => ⟨he, 0, hw ▸ rfl⟩
    · by_cases l : zs.length = ys.length
      · rw [← l]
        exact eqp_same zs ys zs.length b1 o1 c1 b2 o2 c2 rfl l.symm hn w k1 k2
      · rw [nb l]
        exact (eqp_len _ _ zs.length ys.length c1 c2 l w).mono fun _ _ ⟨he, hw⟩ => ⟨he, 0, hw ▸ rfl⟩
end Go.Proofs.Ytaikeclfmmnelaa
/- Contracts of civiltimeref01: Div, Floor, Mod. -/
namespace Go.Proofs.Ytaikeclfmmnelaa

open Go.RowKit

set_option linter.unusedVariables false


theorem refdiv_zero (a : Int) (w : World) :
    Calls Try.prog 80 #[.int .i64 a, .int .i64 0] w fun e w' => e = .returned (.tuple #[.int .i64 0, .int .i64 0, .int .i64 10]) ∧ w' = w.drewN 0 := by
  go_enter Try.func80, Try.ntmps80
  go_wp2
  go_ret3
  exact ⟨rfl, rfl⟩
theorem refdiv_big (w : World) :
    Calls Try.prog 80 #[.int .i64 (-9223372036854775808), .int .i64 (-1)] w fun e w' => e = .returned (.tuple #[.int .i64 0, .int .i64 0, .int .i64 9]) ∧ w' = w.drewN 0 := by
  go_enter Try.func80, Try.ntmps80
  go_wp2
  go_ret3
  exact ⟨rfl, rfl⟩
set_option maxHeartbeats 400000 in
theorem refdiv_any (a b : Int) (h0 : -9223372036854775808 ≤ a) (h1 : a ≤ 9223372036854775807) (h2 : -9223372036854775808 ≤ b) (h3 : b ≤ 9223372036854775807) (hb : b ≠ 0) (hx : ¬ (a = -9223372036854775808 ∧ b = -1)) (w : World) :
    Calls Try.prog 80 #[.int .i64 a, .int .i64 b] w fun e w' => e = .returned (.tuple #[.int .i64 (a.fdiv b), .int .i64 (a.fmod b), .int .i64 0]) ∧ ∃ n, w' = w.drewN n := by
  have hz : (b == 0) = false := by simpa using hb
  have hq := tq_bd h0 h1 hx hb
  have hr := tr_bd (a := a) hb
  have ht := tq_half (b := b) h0 h1
  have he := fdm_exact (a := a) hb
  have hs := fdm_same (a := a) hb
  have ho := fdm_other (a := a) hb
  obtain ⟨c, hc⟩ : ∃ c, (a == -9223372036854775808) = c := ⟨_, rfl⟩
  obtain ⟨d, hd⟩ : ∃ d, (b == -1) = d := ⟨_, rfl⟩
  have hcd : (c && d) = false := by
    subst hc; subst hd; rw [Bool.and_eq_false_iff]; simp only [beq_eq_false_iff_ne]; omega
  generalize a.fdiv b = Q at *
  generalize a.fmod b = R at *
  obtain ⟨q, eq⟩ : ∃ q, a.tdiv b = q := ⟨_, rfl⟩
  obtain ⟨r, er⟩ : ∃ r, a.tmod b = r := ⟨_, rfl⟩
  rw [eq] at hq he hs ho ht
  rw [er] at hr he hs ho ht
  obtain ⟨hq0, hq1⟩ := hq
  obtain ⟨hr0, -, -⟩ := hr
  have hr2 : -9223372036854775808 ≤ r := by omega
  have hr3 : r ≤ 9223372036854775807 := by omega
  have g : Q = q ∧ R = r ∧ r = 0 ∨ Q = q ∧ R = r ∧ (0 < r ∧ 0 < b ∨ r < 0 ∧ b < 0) ∨ Q = q - 1 ∧ R = r + b ∧ (0 < r ∧ b < 0 ∨ r < 0 ∧ 0 < b) := by
    by_cases z : r = 0
    · left; have := he z; omega
    · by_cases z' : 0 < r ∧ 0 < b ∨ r < 0 ∧ b < 0
      · right; left; have := hs z'; omega
      · right; right; have z2 : 0 < r ∧ b < 0 ∨ r < 0 ∧ 0 < b := by omega
        have := ho z2; omega
  clear he hs ho
  rcases g with ⟨rfl, rfl, rfl⟩ | ⟨rfl, rfl, g⟩ | ⟨rfl, rfl, g⟩
  · clear ht
    cases c <;> cases d <;> (try cases hcd) <;> (go_enter Try.func80, Try.ntmps80; go_wp2; go_quiet (fail); go_wp2; go_ret3; exact ⟨rfl, _, rfl⟩)
  · clear ht
    rcases g with ⟨g1, g2⟩ | ⟨g1, g2⟩
    · have k1 : decide (R < 0) = false := by simp; omega
      have k2 : decide (b < 0) = false := by simp; omega
      have k3 : (R != 0) = true := by simp; omega
      cases c <;> cases d <;> (try cases hcd) <;> (go_enter Try.func80, Try.ntmps80; go_wp2; go_quiet (fail); go_wp2; go_ret3; exact ⟨rfl, _, rfl⟩)
    · have k1 : decide (R < 0) = true := by simp; omega
      have k2 : decide (b < 0) = true := by simp; omega
      have k3 : (R != 0) = true := by simp; omega
      cases c <;> cases d <;> (try cases hcd) <;> (go_enter Try.func80, Try.ntmps80; go_wp2; go_quiet (fail); go_wp2; go_ret3; exact ⟨rfl, _, rfl⟩)
  · obtain ⟨t1, t2⟩ := ht (by omega)
    clear ht
    rcases g with ⟨g1, g2⟩ | ⟨g1, g2⟩
    · have k1 : decide (r < 0) = false := by simp; omega
      have k2 : decide (b < 0) = true := by simp; omega
      have k3 : (r != 0) = true := by simp; omega
      cases c <;> cases d <;> (try cases hcd) <;> (go_enter Try.func80, Try.ntmps80; go_wp2; go_quiet (fail); go_wp2; go_ret3; exact ⟨rfl, _, rfl⟩)
    · have k1 : decide (r < 0) = true := by simp; omega
      have k2 : decide (b < 0) = false := by simp; omega
      have k3 : (r != 0) = true := by simp; omega
      cases c <;> cases d <;> (try cases hcd) <;> (go_enter Try.func80, Try.ntmps80; go_wp2; go_quiet (fail); go_wp2; go_ret3; exact ⟨rfl, _, rfl⟩)
theorem refdiv_all (a b : Int) (h0 : -9223372036854775808 ≤ a) (h1 : a ≤ 9223372036854775807) (h2 : -9223372036854775808 ≤ b) (h3 : b ≤ 9223372036854775807) (w : World) :
    Calls Try.prog 80 #[.int .i64 a, .int .i64 b] w fun e w' => e = .returned (.tuple #[.int .i64 (dQ a b), .int .i64 (dR a b), .int .i64 (dE a b)]) ∧ ∃ n, w' = w.drewN n := by
  by_cases hb : b = 0
  · subst hb
    refine (refdiv_zero a w).mono fun e w' ⟨he, hw⟩ => ⟨?_, 0, hw⟩
    rw [he]; unfold dQ dR dE; simp
  · by_cases hx : a = -9223372036854775808 ∧ b = -1
    · obtain ⟨rfl, rfl⟩ := hx
      refine (refdiv_big w).mono fun e w' ⟨he, hw⟩ => ⟨?_, 0, hw⟩
      rw [he]; unfold dQ dR dE; simp
    · refine (refdiv_any a b h0 h1 h2 h3 hb hx w).mono fun e w' ⟨he, hw⟩ => ⟨?_, hw⟩
      rw [he]; unfold dQ dR dE; simp [hb, hx]
theorem refmod_all (a b : Int) (h0 : -9223372036854775808 ≤ a) (h1 : a ≤ 9223372036854775807) (h2 : -9223372036854775808 ≤ b) (h3 : b ≤ 9223372036854775807) (w : World) :
    Calls Try.prog 51 #[.int .i64 a, .int .i64 b] w fun e w' => e = .returned (.int .i64 (dR a b)) ∧ ∃ n, w' = w.drewN n := by
  go_enter Try.func51, Try.ntmps51
  go_wp2_with (go_at_call 80; refine (refdiv_all _ _ h0 h1 h2 h3 _).mono ?_; rintro e w' ⟨rfl, n, rfl⟩)
  go_ret
  exact ⟨rfl, _, rfl⟩
end Go.Proofs.Ytaikeclfmmnelaa
/- Contracts of integer.Div, Floor, Mod, Add. -/
namespace Go.Proofs.Ytaikeclfmmnelaa

open Go.RowKit

set_option linter.unusedVariables false

theorem div_zero (a : Int) (w : World) :
    Calls Try.prog 79 #[.int .i64 a, .int .i64 0] w fun e w' => e = .returned (.tuple #[.int .i64 0, .int .i64 0, .int .i64 10]) ∧ w' = w.drewN 0 := by
  go_enter Try.func79, Try.ntmps79
  go_wp2
  go_ret3
  exact ⟨rfl, rfl⟩
theorem div_big (w : World) :
    Calls Try.prog 79 #[.int .i64 (-9223372036854775808), .int .i64 (-1)] w fun e w' => e = .returned (.tuple #[.int .i64 0, .int .i64 0, .int .i64 9]) ∧ w' = w.drewN 0 := by
  go_enter Try.func79, Try.ntmps79
  go_wp2
  go_ret3
  exact ⟨rfl, rfl⟩
set_option maxHeartbeats 400000 in
theorem div_any (a b : Int) (h0 : -9223372036854775808 ≤ a) (h1 : a ≤ 9223372036854775807) (h2 : -9223372036854775808 ≤ b) (h3 : b ≤ 9223372036854775807) (hb : b ≠ 0) (hx : ¬ (a = -9223372036854775808 ∧ b = -1)) (w : World) :
    Calls Try.prog 79 #[.int .i64 a, .int .i64 b] w fun e w' => e = .returned (.tuple #[.int .i64 (a.fdiv b), .int .i64 (a.fmod b), .int .i64 0]) ∧ ∃ n, w' = w.drewN n := by
  have hz : (b == 0) = false := by simpa using hb
  have hq := tq_bd h0 h1 hx hb
  have hr := tr_bd (a := a) hb
  have ht := tq_half (b := b) h0 h1
  have he := fdm_exact (a := a) hb
  have hs := fdm_same (a := a) hb
  have ho := fdm_other (a := a) hb
  obtain ⟨c, hc⟩ : ∃ c, (a == -9223372036854775808) = c := ⟨_, rfl⟩
  obtain ⟨d, hd⟩ : ∃ d, (b == -1) = d := ⟨_, rfl⟩
  have hcd : (c && d) = false := by
    subst hc; subst hd; rw [Bool.and_eq_false_iff]; simp only [beq_eq_false_iff_ne]; omega
  generalize a.fdiv b = Q at *
  generalize a.fmod b = R at *
  obtain ⟨q, eq⟩ : ∃ q, a.tdiv b = q := ⟨_, rfl⟩
  obtain ⟨r, er⟩ : ∃ r, a.tmod b = r := ⟨_, rfl⟩
  rw [eq] at hq he hs ho ht
  rw [er] at hr he hs ho ht
  obtain ⟨hq0, hq1⟩ := hq
  obtain ⟨hr0, -, -⟩ := hr
  have hr2 : -9223372036854775808 ≤ r := by omega
  have hr3 : r ≤ 9223372036854775807 := by omega
  have g : Q = q ∧ R = r ∧ r = 0 ∨ Q = q ∧ R = r ∧ (0 < r ∧ 0 < b ∨ r < 0 ∧ b < 0) ∨ Q = q - 1 ∧ R = r + b ∧ (0 < r ∧ b < 0 ∨ r < 0 ∧ 0 < b) := by
    by_cases z : r = 0
    · left; have := he z; omega
    · by_cases z' : 0 < r ∧ 0 < b ∨ r < 0 ∧ b < 0
      · right; left; have := hs z'; omega
      · right; right; have z2 : 0 < r ∧ b < 0 ∨ r < 0 ∧ 0 < b := by omega
        have := ho z2; omega
  clear he hs ho
  rcases g with ⟨rfl, rfl, rfl⟩ | ⟨rfl, rfl, g⟩ | ⟨rfl, rfl, g⟩
  · clear ht
    cases c <;> cases d <;> (try cases hcd) <;> (go_enter Try.func79, Try.ntmps79; go_wp2; go_quiet (fail); go_wp2; go_ret3; exact ⟨rfl, _, rfl⟩)
  · clear ht
    rcases g with ⟨g1, g2⟩ | ⟨g1, g2⟩
    · have k1 : decide (R < 0) = false := by simp; omega
      have k2 : decide (b < 0) = false := by simp; omega
      have k3 : (R != 0) = true := by simp; omega
      cases c <;> cases d <;> (try cases hcd) <;> (go_enter Try.func79, Try.ntmps79; go_wp2; go_quiet (fail); go_wp2; go_ret3; exact ⟨rfl, _, rfl⟩)
    · have k1 : decide (R < 0) = true := by simp; omega
      have k2 : decide (b < 0) = true := by simp; omega
      have k3 : (R != 0) = true := by simp; omega
      cases c <;> cases d <;> (try cases hcd) <;> (go_enter Try.func79, Try.ntmps79; go_wp2; go_quiet (fail); go_wp2; go_ret3; exact ⟨rfl, _, rfl⟩)
  · obtain ⟨t1, t2⟩ := ht (by omega)
    clear ht
    rcases g with ⟨g1, g2⟩ | ⟨g1, g2⟩
    · have k1 : decide (r < 0) = false := by simp; omega
      have k2 : decide (b < 0) = true := by simp; omega
      have k3 : (r != 0) = true := by simp; omega
      cases c <;> cases d <;> (try cases hcd) <;> (go_enter Try.func79, Try.ntmps79; go_wp2; go_quiet (fail); go_wp2; go_ret3; exact ⟨rfl, _, rfl⟩)
    · have k1 : decide (r < 0) = true := by simp; omega
      have k2 : decide (b < 0) = false := by simp; omega
      have k3 : (r != 0) = true := by simp; omega
      cases c <;> cases d <;> (try cases hcd) <;> (go_enter Try.func79, Try.ntmps79; go_wp2; go_quiet (fail); go_wp2; go_ret3; exact ⟨rfl, _, rfl⟩)
theorem div_all (a b : Int) (h0 : -9223372036854775808 ≤ a) (h1 : a ≤ 9223372036854775807) (h2 : -9223372036854775808 ≤ b) (h3 : b ≤ 9223372036854775807) (w : World) :
    Calls Try.prog 79 #[.int .i64 a, .int .i64 b] w fun e w' => e = .returned (.tuple #[.int .i64 (dQ a b), .int .i64 (dR a b), .int .i64 (dE a b)]) ∧ ∃ n, w' = w.drewN n := by
  by_cases hb : b = 0
  · subst hb
    refine (div_zero a w).mono fun e w' ⟨he, hw⟩ => ⟨?_, 0, hw⟩
    rw [he]; unfold dQ dR dE; simp
  · by_cases hx : a = -9223372036854775808 ∧ b = -1
    · obtain ⟨rfl, rfl⟩ := hx
      refine (div_big w).mono fun e w' ⟨he, hw⟩ => ⟨?_, 0, hw⟩
      rw [he]; unfold dQ dR dE; simp
    · refine (div_any a b h0 h1 h2 h3 hb hx w).mono fun e w' ⟨he, hw⟩ => ⟨?_, hw⟩
      rw [he]; unfold dQ dR dE; simp [hb, hx]
theorem mod_all (a b : Int) (h0 : -9223372036854775808 ≤ a) (h1 : a ≤ 9223372036854775807) (h2 : -9223372036854775808 ≤ b) (h3 : b ≤ 9223372036854775807) (w : World) :
    Calls Try.prog 50 #[.int .i64 a, .int .i64 b] w fun e w' => e = .returned (.int .i64 (dR a b)) ∧ ∃ n, w' = w.drewN n := by
  go_enter Try.func50, Try.ntmps50
  go_wp2_with (go_at_call 79; refine (div_all _ _ h0 h1 h2 h3 _).mono ?_; rintro e w' ⟨rfl, n, rfl⟩)
  go_ret
  exact ⟨rfl, _, rfl⟩
theorem floor_all (a b : Int) (h0 : -9223372036854775808 ≤ a) (h1 : a ≤ 9223372036854775807) (h2 : -9223372036854775808 ≤ b) (h3 : b ≤ 9223372036854775807) (w : World) :
    Calls Try.prog 95 #[.int .i64 a, .int .i64 b] w fun e w' => e = .returned (.int .i64 (dQ a b)) ∧ ∃ n, w' = w.drewN n := by
  go_enter Try.func95, Try.ntmps95
  go_wp2_with (go_at_call 79; refine (div_all _ _ h0 h1 h2 h3 _).mono ?_; rintro e w' ⟨rfl, n, rfl⟩)
  go_ret
  exact ⟨rfl, _, rfl⟩
theorem cmod7 (a : Int) (ha : I64 a) (w : World) :
    Calls Try.prog 50 #[.int .i64 a, .int .i64 7] w fun e w' => e = .returned (.int .i64 (a % 7)) ∧ ∃ n, w' = w.drewN n := by
  have h := mod_all a 7 ha.1 ha.2 (by omega) (by omega) w
  rw [dR_pos (by omega)] at h
  exact h
theorem cdiv (a b : Int) (ha : I64 a) (b0 : 0 < b) (b1 : b ≤ 146097) (w : World) :
    Calls Try.prog 79 #[.int .i64 a, .int .i64 b] w fun e w' => e = .returned (.tuple #[.int .i64 (a / b), .int .i64 (a % b), .int .i64 0]) ∧ ∃ n, w' = w.drewN n := by
  have h := div_all a b ha.1 ha.2 (by omega) (by omega) w
  rw [dQ_pos b0, dR_pos b0, dE_pos b0] at h
  exact h
end Go.Proofs.Ytaikeclfmmnelaa
/- Contracts of package interval (90116dd). INm, ISh: its tables, the names and the relations of intervals that share integers. -/
namespace Go.Proofs.Ytaikeclfmmnelaa

open Go.RowKit

set_option linter.unusedVariables false

def namesA : Array Value := #[.string (nmV 0), .string (nmV 1), .string (nmV 2), .string (nmV 3), .string (nmV 4), .string (nmV 5), .string (nmV 6), .string (nmV 7), .string (nmV 8), .string (nmV 9), .string (nmV 10), .string (nmV 11), .string (nmV 12)]
def shareA : Array Value := #[.int .i64 2, .int .i64 7, .int .i64 8, .int .i64 3, .int .i64 6, .int .i64 9, .int .i64 4, .int .i64 5, .int .i64 10]
def INm (w : World) : Prop := w.var? Try.prog "civiltime/interval.names" = some namesA
def ISh (w : World) : Prop := w.var? Try.prog "civiltime/interval.sharing" = some shareA
theorem iuvalid (a b : Int) (ha : I64 a) (hb : I64 b) (w : World) :
    Calls Try.prog 54 #[.agg #[.int .i64 a, .int .i64 b]] w fun e w' => e = .returned (.bool (ivB a b)) ∧ Below w.heap.size w w' := by
  have e : ivB a b = (decide (-4398046511104 ≤ a) && decide (a < b) && decide (b ≤ 4398046511104)) := by
    unfold ivB
    rw [Bool.eq_iff_iff]; simp only [Bool.and_eq_true, decide_eq_true_eq]; omega
  rw [e]
  clear e
  obtain ⟨x0, x1, xlt⟩ := Two.new (here (w.alloc (.cells #[.int .i64 a, .int .i64 b] 37)))
  obtain ⟨a0, a1⟩ := ha
  obtain ⟨b0, b1⟩ := hb
  cases p : decide (-4398046511104 ≤ a) <;> cases q : decide (a < b) <;> cases r : decide (b ≤ 4398046511104)
  all_goals
    go_enter Try.func54, Try.ntmps54
    go_wp2
    go_ret
    exact ⟨rfl, grow (here w) _⟩
set_option maxRecDepth 100000 in
set_option maxHeartbeats 1000000 in
theorem iulen (a b : Int) (ha : I64 a) (hb : I64 b) (w : World) :
    Calls Try.prog 56 #[.agg #[.int .i64 a, .int .i64 b]] w fun e w' => e = .returned (.int .i64 (lnV a b)) ∧ Below w.heap.size w w' := by
  have HVA := Lib.hid (fun w => iuvalid a b ha hb w)
  unfold lnV
  obtain ⟨a0, a1⟩ := ha
  obtain ⟨b0, b1⟩ := hb
  cases va : ivB a b
  · rw [va] at HVA
    clear va
    obtain ⟨w1, hw1⟩ : ∃ w1 : World, w.alloc (.cells #[.int .i64 (a), .int .i64 (b)] 37) = w1 := ⟨_, rfl⟩
    have s1 : w1.heap.size = w.heap.size + 1 := by rw [← hw1, size_two]
    have X1 : Two w1 (w.heap.size) (.int .i64 (a)) (.int .i64 (b)) := by rw [← hw1]; exact Two.new (here _)
    have A1 : Below w.heap.size w w1 := by rw [← hw1]; exact (grow (here w) _)
    replace X1 := Lib.hid X1
    replace A1 := Lib.hid A1
    obtain ⟨x0, x1, xl⟩ := X1.out
    go_enter Try.func56, Try.ntmps56
    go_wp2_with fail
    refine (HVA.out _).mono ?_
    rintro e w2 ⟨rfl, hb⟩
    clear x0 x1 xl
    have A2 := Lib.hid (down A1.out hb)
    have X2 := Lib.hid (X1.out.keep hb)
    clear hb A1 X1
    obtain ⟨x0, x1, xl⟩ := X2.out
    go_wp2
    go_ret
    exact ⟨rfl, A2.out⟩
  · rw [va] at HVA
    have q := ivB_iff.1 va
    clear va
    obtain ⟨q0, q1, q2⟩ := q
    obtain ⟨w1, hw1⟩ : ∃ w1 : World, w.alloc (.cells #[.int .i64 (a), .int .i64 (b)] 37) = w1 := ⟨_, rfl⟩
    have s1 : w1.heap.size = w.heap.size + 1 := by rw [← hw1, size_two]
    have X1 : Two w1 (w.heap.size) (.int .i64 (a)) (.int .i64 (b)) := by rw [← hw1]; exact Two.new (here _)
    have A1 : Below w.heap.size w w1 := by rw [← hw1]; exact (grow (here w) _)
    replace X1 := Lib.hid X1
    replace A1 := Lib.hid A1
    obtain ⟨x0, x1, xl⟩ := X1.out
    go_enter Try.func56, Try.ntmps56
    go_wp2_with fail
    refine (HVA.out _).mono ?_
    rintro e w2 ⟨rfl, hb⟩
    clear x0 x1 xl
    have A2 := Lib.hid (down A1.out hb)
    have X2 := Lib.hid (X1.out.keep hb)
    clear hb A1 X1
    obtain ⟨x0, x1, xl⟩ := X2.out
    go_wp2
    go_ret
    exact ⟨rfl, A2.out⟩
def cmpV (a b : Int) : Int := if a < b then -1 else if b < a then 1 else 0
theorem cmpV_lt {a b : Int} (h : a < b) : cmpV a b = -1 := by unfold cmpV; rw [if_pos h]
theorem cmpV_gt {a b : Int} (h : b < a) : cmpV a b = 1 := by unfold cmpV; rw [if_neg (by omega), if_pos h]
theorem cmpV_eq {a b : Int} (h : a = b) : cmpV a b = 0 := by unfold cmpV; rw [if_neg (by omega), if_neg (by omega)]
theorem iunan (a : Int) (ha : I64 a) (w : World) :
    Calls Try.prog 101 #[.int .i64 a] w fun e w' => e = .returned (.bool false) ∧ w = w' := by
  obtain ⟨a0, a1⟩ := ha
  have e : (a != a) = false := by simp
  go_enter Try.func101, Try.ntmps101
  go_wp2
  go_ret
  exact ⟨rfl, rfl⟩
theorem iucmp (a b : Int) (ha : I64 a) (hb : I64 b) (w : World) :
    Calls Try.prog 84 #[.int .i64 a, .int .i64 b] w fun e w' => e = .returned (.int .i64 (cmpV a b)) ∧ w = w' := by
  have HA := Lib.hid (fun w => iunan a ha w)
  have HB := Lib.hid (fun w => iunan b hb w)
  obtain ⟨a0, a1⟩ := ha
  obtain ⟨b0, b1⟩ := hb
  have go : ∀ p q : Bool, decide (a < b) = p → decide (b < a) = q → cmpV a b = (if p then -1 else if q then 1 else 0) := by
    rintro p q rfl rfl
    unfold cmpV
    simp
  cases p : decide (a < b) <;> cases q : decide (b < a)
  all_goals
    rw [go _ _ p q]
    clear go
    go_enter Try.func84, Try.ntmps84
    go_wp2_with (first | (with_reducible refine (HA.out _).mono ?_) | refine (HB.out _).mono ?_); rintro e w1 ⟨rfl, rfl⟩
    go_wp2_with (first | (with_reducible refine (HB.out _).mono ?_) | refine (HA.out _).mono ?_); rintro e w2 ⟨rfl, rfl⟩
    go_wp2
    go_ret
    exact ⟨rfl, rfl⟩
def isR (r : Int) : Bool := decide (0 ≤ r) && decide (r < 13)
theorem isR_iff {r : Int} : isR r = true ↔ 0 ≤ r ∧ r ≤ 12 := by unfold isR; simp; omega
set_option maxRecDepth 100000 in
set_option maxHeartbeats 1000000 in
theorem iumove (a b : Int) (ha : I64 a) (hb : I64 b) (n : Int) (hn : I64 n) (w : World) :
    Calls Try.prog 94 #[.agg #[.int .i64 a, .int .i64 b], .int .i64 n] w fun e w' => e = .returned (.tuple #[.agg #[.int .i64 (mvF a b n), .int .i64 (mvT a b n)], .int .i64 (mvE a b n)]) ∧ Below w.heap.size w w' := by
  have HVA := Lib.hid (fun w => iuvalid a b ha hb w)
  obtain ⟨a0, a1⟩ := ha
  obtain ⟨b0, b1⟩ := hb
  obtain ⟨n0, n1⟩ := hn
  cases va : ivB a b
  · rw [va] at HVA
    have e0 : mvE a b n = 1 := by unfold mvE; rw [va]; rfl
    rw [show mvF a b n = 0 by unfold mvF; rw [e0]; rfl, show mvT a b n = 0 by unfold mvT; rw [e0]; rfl, e0]
    clear e0
    clear va
    obtain ⟨w1, hw1⟩ : ∃ w1 : World, w.alloc (.cells #[.int .i64 (a), .int .i64 (b)] 37) = w1 := ⟨_, rfl⟩
    have s1 : w1.heap.size = w.heap.size + 1 := by rw [← hw1, size_two]
    obtain ⟨w2, hw2⟩ : ∃ w2 : World, w1.alloc (.cells #[.int .i64 (0), .int .i64 (0)] 37) = w2 := ⟨_, rfl⟩
    have s2 : w2.heap.size = w.heap.size + 2 := by rw [← hw2, size_two, s1]
    have X1 : Two w1 (w.heap.size) (.int .i64 (a)) (.int .i64 (b)) := by rw [← hw1]; exact Two.new (here _)
    have X2 : Two w2 (w.heap.size) (.int .i64 (a)) (.int .i64 (b)) := by rw [← hw2]; exact X1.keep (grow (here _) _)
    have R2 : Tuo w2 (w.heap.size + 1) (.int .i64 (0)) (.int .i64 (0)) := by rw [← s1, ← hw2]; exact Tuo.new _ _ _ _
    have A2 : Below w.heap.size w w2 := by rw [← hw2, ← hw1]; exact (grow (grow (here w) _) _)
    replace X2 := Lib.hid X2
    replace R2 := Lib.hid R2
    replace A2 := Lib.hid A2
    clear X1
    obtain ⟨x0, x1, xl⟩ := X2.out
    obtain ⟨⟨r0, r1, rl⟩, rf0, rf1⟩ := R2.out
    go_enter Try.func94, Try.ntmps94
    go_wp2_with fail
    refine (HVA.out _).mono ?_
    rintro e w3 ⟨rfl, hb⟩
    clear x0 x1 xl r0 r1 rl rf0 rf1
    have A3 := Lib.hid (down A2.out hb)
    have X3 := Lib.hid (X2.out.keep hb)
    have R3 := Lib.hid (R2.out.keep hb)
    clear hb A2 X2 R2
    obtain ⟨x0, x1, xl⟩ := X3.out
    obtain ⟨⟨r0, r1, rl⟩, rf0, rf1⟩ := R3.out
    obtain ⟨w4, hw4⟩ : ∃ w4 : World, w3.setCell ⟨w.heap.size + 1, 0, none⟩ (.int .i64 (0)) = w4 := ⟨_, rfl⟩
    obtain ⟨w5, hw5⟩ : ∃ w5 : World, w4.setCell ⟨w.heap.size + 1, 1, none⟩ (.int .i64 (0)) = w5 := ⟨_, rfl⟩
    have P4 : Tuo w4 (w.heap.size + 1) (.int .i64 (0)) (.int .i64 (0)) := by rw [← hw4]; exact R3.out.put0 _
    have R5 : Hid (Tuo w5 (w.heap.size + 1) (.int .i64 (0)) (.int .i64 (0))) := by rw [← hw5]; exact P4.put1 _
    have A5 : Hid (Below w.heap.size w w5) := by rw [← hw5, ← hw4]; exact (A3.out.setCell (by show _ ≤ w.heap.size + 1; omega) _).setCell (by show _ ≤ w.heap.size + 1; omega) _
    obtain ⟨⟨p30, p31, p3l⟩, p3f0, p3f1⟩ := P4
    obtain ⟨⟨q30, q31, q3l⟩, q3f0, q3f1⟩ := R5.out
    go_wp2
    exact bodyPost_ret (v := .tuple #[.agg #[.int .i64 (0), .int .i64 (0)], .int .i64 1]) (by simp [results, Try.results94, go_sem, q30, q31]) rfl ⟨rfl, A5.out⟩
  · rw [va] at HVA
    have q := ivB_iff.1 va
    by_cases z : -8796093022208 ≤ n ∧ n ≤ 8796093022208
    · obtain ⟨z0, z1⟩ := z
      have j : -9223372036854775808 ≤ a + n ∧ a + n ≤ 9223372036854775807 := by omega
      have j' : -9223372036854775808 ≤ b + n ∧ b + n ≤ 9223372036854775807 := by omega
      have HVC := Lib.hid (fun w => iuvalid (a + n) (b + n) ⟨by omega, by omega⟩ ⟨by omega, by omega⟩ w)
      cases vc : ivB (a + n) (b + n)
      · rw [vc] at HVC
        have e0 : mvE a b n = 2 := by unfold mvE; rw [va, vc]; rfl
        rw [show mvF a b n = 0 by unfold mvF; rw [e0]; rfl, show mvT a b n = 0 by unfold mvT; rw [e0]; rfl, e0]
        clear e0
        clear va vc q z0 z1
        obtain ⟨p, hp⟩ : ∃ p, a + n = p := ⟨_, rfl⟩
        obtain ⟨q', hq'⟩ : ∃ q', b + n = q' := ⟨_, rfl⟩
        rw [hp] at HVC j
        rw [hq'] at HVC j'
        obtain ⟨j0, j1⟩ := j
        obtain ⟨j2, j3⟩ := j'
        obtain ⟨w1, hw1⟩ : ∃ w1 : World, w.alloc (.cells #[.int .i64 (a), .int .i64 (b)] 37) = w1 := ⟨_, rfl⟩
        have s1 : w1.heap.size = w.heap.size + 1 := by rw [← hw1, size_two]
        obtain ⟨w2, hw2⟩ : ∃ w2 : World, w1.alloc (.cells #[.int .i64 (0), .int .i64 (0)] 37) = w2 := ⟨_, rfl⟩
        have s2 : w2.heap.size = w.heap.size + 2 := by rw [← hw2, size_two, s1]
        have X1 : Two w1 (w.heap.size) (.int .i64 (a)) (.int .i64 (b)) := by rw [← hw1]; exact Two.new (here _)
        have X2 : Two w2 (w.heap.size) (.int .i64 (a)) (.int .i64 (b)) := by rw [← hw2]; exact X1.keep (grow (here _) _)
        have R2 : Tuo w2 (w.heap.size + 1) (.int .i64 (0)) (.int .i64 (0)) := by rw [← s1, ← hw2]; exact Tuo.new _ _ _ _
        have A2 : Below w.heap.size w w2 := by rw [← hw2, ← hw1]; exact (grow (grow (here w) _) _)
        replace X2 := Lib.hid X2
        replace R2 := Lib.hid R2
        replace A2 := Lib.hid A2
        clear X1
        obtain ⟨x0, x1, xl⟩ := X2.out
        obtain ⟨⟨r0, r1, rl⟩, rf0, rf1⟩ := R2.out
        go_enter Try.func94, Try.ntmps94
        go_wp2_with fail
        refine (HVA.out _).mono ?_
        rintro e w3 ⟨rfl, hb⟩
        clear x0 x1 xl r0 r1 rl rf0 rf1
        have A3 := Lib.hid (down A2.out hb)
        have X3 := Lib.hid (X2.out.keep hb)
        have R3 := Lib.hid (R2.out.keep hb)
        clear hb A2 X2 R2
        obtain ⟨x0, x1, xl⟩ := X3.out
        obtain ⟨⟨r0, r1, rl⟩, rf0, rf1⟩ := R3.out
        obtain ⟨w4, hw4⟩ : ∃ w4 : World, w3.alloc (.cells #[.int .i64 (p), .int .i64 (q')] 37) = w4 := ⟨_, rfl⟩
        obtain ⟨B4, HB4⟩ : ∃ B, w3.heap.size = B := ⟨_, rfl⟩
        have S4 : Hid (Two w4 B4 (.int .i64 (p)) (.int .i64 (q'))) := by rw [← hw4, ← HB4]; exact Two.new (here _)
        have X4 := Lib.hid (X3.out.keep (show Below w3.heap.size w3 w4 by rw [← hw4]; exact grow (here _) _))
        have R4 := Lib.hid (R3.out.keep (show Below w3.heap.size w3 w4 by rw [← hw4]; exact grow (here _) _))
        have A4 : Hid (Below w.heap.size w w4) := by rw [← hw4]; exact grow A3.out _
        clear A3 X3 R3
        obtain ⟨nx0, nx1, nxl⟩ := X4.out
        obtain ⟨⟨nr0, nr1, nrl⟩, nrf0, nrf1⟩ := R4.out
        obtain ⟨ns0, ns1, nsl⟩ := S4.out
        go_wp2_with fail
        refine (HVC.out _).mono ?_
        rintro e w5 ⟨rfl, hb⟩
        clear x0 x1 xl r0 r1 rl rf0 rf1 nx0 nx1 nxl nr0 nr1 nrl nrf0 nrf1 ns0 ns1 nsl
        have A5 := Lib.hid (down A4.out hb)
        have X5 := Lib.hid (X4.out.keep hb)
        have R5 := Lib.hid (R4.out.keep hb)
        have S5 := Lib.hid (S4.out.keep hb)
        clear hb A4 X4 R4 S4
        obtain ⟨x0, x1, xl⟩ := X5.out
        obtain ⟨⟨r0, r1, rl⟩, rf0, rf1⟩ := R5.out
        obtain ⟨s0, s1, sl⟩ := S5.out
        obtain ⟨w6, hw6⟩ : ∃ w6 : World, w5.setCell ⟨w.heap.size + 1, 0, none⟩ (.int .i64 (0)) = w6 := ⟨_, rfl⟩
        obtain ⟨w7, hw7⟩ : ∃ w7 : World, w6.setCell ⟨w.heap.size + 1, 1, none⟩ (.int .i64 (0)) = w7 := ⟨_, rfl⟩
        have P6 : Tuo w6 (w.heap.size + 1) (.int .i64 (0)) (.int .i64 (0)) := by rw [← hw6]; exact R5.out.put0 _
        have R7 : Hid (Tuo w7 (w.heap.size + 1) (.int .i64 (0)) (.int .i64 (0))) := by rw [← hw7]; exact P6.put1 _
        have A7 : Hid (Below w.heap.size w w7) := by rw [← hw7, ← hw6]; exact (A5.out.setCell (by show _ ≤ w.heap.size + 1; omega) _).setCell (by show _ ≤ w.heap.size + 1; omega) _
        obtain ⟨⟨p50, p51, p5l⟩, p5f0, p5f1⟩ := P6
        obtain ⟨⟨q50, q51, q5l⟩, q5f0, q5f1⟩ := R7.out
        go_wp2
        exact bodyPost_ret (v := .tuple #[.agg #[.int .i64 (0), .int .i64 (0)], .int .i64 2]) (by simp [results, Try.results94, go_sem, q50, q51]) rfl ⟨rfl, A7.out⟩
      · rw [vc] at HVC
        have e0 : mvE a b n = 0 := by unfold mvE; rw [va, vc]; rfl
        rw [show mvF a b n = a + n by unfold mvF; rw [e0]; rfl, show mvT a b n = b + n by unfold mvT; rw [e0]; rfl, e0]
        clear va vc q z0 z1 e0
        obtain ⟨p, hp⟩ : ∃ p, a + n = p := ⟨_, rfl⟩
        obtain ⟨q', hq'⟩ : ∃ q', b + n = q' := ⟨_, rfl⟩
        rw [hp] at HVC j ⊢
        rw [hq'] at HVC j' ⊢
        obtain ⟨j0, j1⟩ := j
        obtain ⟨j2, j3⟩ := j'
        obtain ⟨w1, hw1⟩ : ∃ w1 : World, w.alloc (.cells #[.int .i64 (a), .int .i64 (b)] 37) = w1 := ⟨_, rfl⟩
        have s1 : w1.heap.size = w.heap.size + 1 := by rw [← hw1, size_two]
        obtain ⟨w2, hw2⟩ : ∃ w2 : World, w1.alloc (.cells #[.int .i64 (0), .int .i64 (0)] 37) = w2 := ⟨_, rfl⟩
        have s2 : w2.heap.size = w.heap.size + 2 := by rw [← hw2, size_two, s1]
        have X1 : Two w1 (w.heap.size) (.int .i64 (a)) (.int .i64 (b)) := by rw [← hw1]; exact Two.new (here _)
        have X2 : Two w2 (w.heap.size) (.int .i64 (a)) (.int .i64 (b)) := by rw [← hw2]; exact X1.keep (grow (here _) _)
        have R2 : Tuo w2 (w.heap.size + 1) (.int .i64 (0)) (.int .i64 (0)) := by rw [← s1, ← hw2]; exact Tuo.new _ _ _ _
        have A2 : Below w.heap.size w w2 := by rw [← hw2, ← hw1]; exact (grow (grow (here w) _) _)
        replace X2 := Lib.hid X2
        replace R2 := Lib.hid R2
        replace A2 := Lib.hid A2
        clear X1
        obtain ⟨x0, x1, xl⟩ := X2.out
        obtain ⟨⟨r0, r1, rl⟩, rf0, rf1⟩ := R2.out
        go_enter Try.func94, Try.ntmps94
        go_wp2_with fail
        refine (HVA.out _).mono ?_
        rintro e w3 ⟨rfl, hb⟩
        clear x0 x1 xl r0 r1 rl rf0 rf1
        have A3 := Lib.hid (down A2.out hb)
        have X3 := Lib.hid (X2.out.keep hb)
        have R3 := Lib.hid (R2.out.keep hb)
        clear hb A2 X2 R2
        obtain ⟨x0, x1, xl⟩ := X3.out
        obtain ⟨⟨r0, r1, rl⟩, rf0, rf1⟩ := R3.out
        obtain ⟨w4, hw4⟩ : ∃ w4 : World, w3.alloc (.cells #[.int .i64 (p), .int .i64 (q')] 37) = w4 := ⟨_, rfl⟩
        obtain ⟨B4, HB4⟩ : ∃ B, w3.heap.size = B := ⟨_, rfl⟩
        have S4 : Hid (Two w4 B4 (.int .i64 (p)) (.int .i64 (q'))) := by rw [← hw4, ← HB4]; exact Two.new (here _)
        have X4 := Lib.hid (X3.out.keep (show Below w3.heap.size w3 w4 by rw [← hw4]; exact grow (here _) _))
        have R4 := Lib.hid (R3.out.keep (show Below w3.heap.size w3 w4 by rw [← hw4]; exact grow (here _) _))
        have A4 : Hid (Below w.heap.size w w4) := by rw [← hw4]; exact grow A3.out _
        clear A3 X3 R3
        obtain ⟨nx0, nx1, nxl⟩ := X4.out
        obtain ⟨⟨nr0, nr1, nrl⟩, nrf0, nrf1⟩ := R4.out
        obtain ⟨ns0, ns1, nsl⟩ := S4.out
        go_wp2_with fail
        refine (HVC.out _).mono ?_
        rintro e w5 ⟨rfl, hb⟩
        clear x0 x1 xl r0 r1 rl rf0 rf1 nx0 nx1 nxl nr0 nr1 nrl nrf0 nrf1 ns0 ns1 nsl
        have A5 := Lib.hid (down A4.out hb)
        have X5 := Lib.hid (X4.out.keep hb)
        have R5 := Lib.hid (R4.out.keep hb)
        have S5 := Lib.hid (S4.out.keep hb)
        clear hb A4 X4 R4 S4
        obtain ⟨x0, x1, xl⟩ := X5.out
        obtain ⟨⟨r0, r1, rl⟩, rf0, rf1⟩ := R5.out
        obtain ⟨s0, s1, sl⟩ := S5.out
        obtain ⟨w6, hw6⟩ : ∃ w6 : World, w5.setCell ⟨w.heap.size + 1, 0, none⟩ (.int .i64 (p)) = w6 := ⟨_, rfl⟩
        obtain ⟨w7, hw7⟩ : ∃ w7 : World, w6.setCell ⟨w.heap.size + 1, 1, none⟩ (.int .i64 (q')) = w7 := ⟨_, rfl⟩
        have P6 : Tuo w6 (w.heap.size + 1) (.int .i64 (p)) (.int .i64 (0)) := by rw [← hw6]; exact R5.out.put0 _
        have R7 : Hid (Tuo w7 (w.heap.size + 1) (.int .i64 (p)) (.int .i64 (q'))) := by rw [← hw7]; exact P6.put1 _
        have A7 : Hid (Below w.heap.size w w7) := by rw [← hw7, ← hw6]; exact (A5.out.setCell (by show _ ≤ w.heap.size + 1; omega) _).setCell (by show _ ≤ w.heap.size + 1; omega) _
        obtain ⟨⟨p50, p51, p5l⟩, p5f0, p5f1⟩ := P6
        obtain ⟨⟨q50, q51, q5l⟩, q5f0, q5f1⟩ := R7.out
        go_wp2
        exact bodyPost_ret (v := .tuple #[.agg #[.int .i64 (p), .int .i64 (q')], .int .i64 0]) (by simp [results, Try.results94, go_sem, q50, q51]) rfl ⟨rfl, A7.out⟩
    · obtain ⟨p, hp⟩ : ∃ p, wrap64 (a + n) = p := ⟨_, rfl⟩
      obtain ⟨q', hq'⟩ : ∃ q', wrap64 (b + n) = q' := ⟨_, rfl⟩
      have hp2 := hp
      have hq2 := hq'
      have j : (-9223372036854775808 ≤ p ∧ p ≤ 9223372036854775807) ∧ ¬ (-4398046511104 ≤ p ∧ p ≤ 4398046511104) := by unfold wrap64 at hp; omega
      have j' : -9223372036854775808 ≤ q' ∧ q' ≤ 9223372036854775807 := by unfold wrap64 at hq'; omega
      have HVC := Lib.hid (fun w => iuvalid p q' j.1 j' w)
      have vq : ivB p q' = false := by
        rw [ivB_no]
        have : -4398046511104 ≤ q' ∧ q' ≤ 4398046511104 → False := by unfold wrap64 at hq'; omega
        omega
      rw [vq] at HVC
      have vc : ivB (a + n) (b + n) = false := by rw [ivB_no]; omega
      have e0 : mvE a b n = 2 := by unfold mvE; rw [va, vc]; rfl
      rw [show mvF a b n = 0 by unfold mvF; rw [e0]; rfl, show mvT a b n = 0 by unfold mvT; rw [e0]; rfl, e0]
      clear e0
      clear va vc q z vq hp2 hq2
      obtain ⟨⟨j0, j1⟩, -⟩ := j
      obtain ⟨j2, j3⟩ := j'
      obtain ⟨w1, hw1⟩ : ∃ w1 : World, w.alloc (.cells #[.int .i64 (a), .int .i64 (b)] 37) = w1 := ⟨_, rfl⟩
      have s1 : w1.heap.size = w.heap.size + 1 := by rw [← hw1, size_two]
      obtain ⟨w2, hw2⟩ : ∃ w2 : World, w1.alloc (.cells #[.int .i64 (0), .int .i64 (0)] 37) = w2 := ⟨_, rfl⟩
      have s2 : w2.heap.size = w.heap.size + 2 := by rw [← hw2, size_two, s1]
      have X1 : Two w1 (w.heap.size) (.int .i64 (a)) (.int .i64 (b)) := by rw [← hw1]; exact Two.new (here _)
      have X2 : Two w2 (w.heap.size) (.int .i64 (a)) (.int .i64 (b)) := by rw [← hw2]; exact X1.keep (grow (here _) _)
      have R2 : Tuo w2 (w.heap.size + 1) (.int .i64 (0)) (.int .i64 (0)) := by rw [← s1, ← hw2]; exact Tuo.new _ _ _ _
      have A2 : Below w.heap.size w w2 := by rw [← hw2, ← hw1]; exact (grow (grow (here w) _) _)
      replace X2 := Lib.hid X2
      replace R2 := Lib.hid R2
      replace A2 := Lib.hid A2
      clear X1
      obtain ⟨x0, x1, xl⟩ := X2.out
      obtain ⟨⟨r0, r1, rl⟩, rf0, rf1⟩ := R2.out
      go_enter Try.func94, Try.ntmps94
      go_wp2_with fail
      refine (HVA.out _).mono ?_
      rintro e w3 ⟨rfl, hb⟩
      clear x0 x1 xl r0 r1 rl rf0 rf1
      have A3 := Lib.hid (down A2.out hb)
      have X3 := Lib.hid (X2.out.keep hb)
      have R3 := Lib.hid (R2.out.keep hb)
      clear hb A2 X2 R2
      obtain ⟨x0, x1, xl⟩ := X3.out
      obtain ⟨⟨r0, r1, rl⟩, rf0, rf1⟩ := R3.out
      obtain ⟨w4, hw4⟩ : ∃ w4 : World, w3.alloc (.cells #[.int .i64 (p), .int .i64 (q')] 37) = w4 := ⟨_, rfl⟩
      obtain ⟨B4, HB4⟩ : ∃ B, w3.heap.size = B := ⟨_, rfl⟩
      have S4 : Hid (Two w4 B4 (.int .i64 (p)) (.int .i64 (q'))) := by rw [← hw4, ← HB4]; exact Two.new (here _)
      have X4 := Lib.hid (X3.out.keep (show Below w3.heap.size w3 w4 by rw [← hw4]; exact grow (here _) _))
      have R4 := Lib.hid (R3.out.keep (show Below w3.heap.size w3 w4 by rw [← hw4]; exact grow (here _) _))
      have A4 : Hid (Below w.heap.size w w4) := by rw [← hw4]; exact grow A3.out _
      clear A3 X3 R3
      obtain ⟨nx0, nx1, nxl⟩ := X4.out
      obtain ⟨⟨nr0, nr1, nrl⟩, nrf0, nrf1⟩ := R4.out
      obtain ⟨ns0, ns1, nsl⟩ := S4.out
      go_wp2_with fail
      refine (HVC.out _).mono ?_
      rintro e w5 ⟨rfl, hb⟩
      clear x0 x1 xl r0 r1 rl rf0 rf1 nx0 nx1 nxl nr0 nr1 nrl nrf0 nrf1 ns0 ns1 nsl
      have A5 := Lib.hid (down A4.out hb)
      have X5 := Lib.hid (X4.out.keep hb)
      have R5 := Lib.hid (R4.out.keep hb)
      have S5 := Lib.hid (S4.out.keep hb)
      clear hb A4 X4 R4 S4
      obtain ⟨x0, x1, xl⟩ := X5.out
      obtain ⟨⟨r0, r1, rl⟩, rf0, rf1⟩ := R5.out
      obtain ⟨s0, s1, sl⟩ := S5.out
      obtain ⟨w6, hw6⟩ : ∃ w6 : World, w5.setCell ⟨w.heap.size + 1, 0, none⟩ (.int .i64 (0)) = w6 := ⟨_, rfl⟩
      obtain ⟨w7, hw7⟩ : ∃ w7 : World, w6.setCell ⟨w.heap.size + 1, 1, none⟩ (.int .i64 (0)) = w7 := ⟨_, rfl⟩
      have P6 : Tuo w6 (w.heap.size + 1) (.int .i64 (0)) (.int .i64 (0)) := by rw [← hw6]; exact R5.out.put0 _
      have R7 : Hid (Tuo w7 (w.heap.size + 1) (.int .i64 (0)) (.int .i64 (0))) := by rw [← hw7]; exact P6.put1 _
      have A7 : Hid (Below w.heap.size w w7) := by rw [← hw7, ← hw6]; exact (A5.out.setCell (by show _ ≤ w.heap.size + 1; omega) _).setCell (by show _ ≤ w.heap.size + 1; omega) _
      obtain ⟨⟨p50, p51, p5l⟩, p5f0, p5f1⟩ := P6
      obtain ⟨⟨q50, q51, q5l⟩, q5f0, q5f1⟩ := R7.out
      go_wp2
      exact bodyPost_ret (v := .tuple #[.agg #[.int .i64 (0), .int .i64 (0)], .int .i64 2]) (by simp [results, Try.results94, go_sem, q50, q51]) rfl ⟨rfl, A7.out⟩
/-- A list of 13 cells, filled as far as k. -/
structure Fil (w : World) (b k : Nat) : Prop where
  c : ∀ j, j < 13 → w.cell? ⟨b, j, none⟩ = some (.int .i64 (if j < k then (j : Int) else 0))
  f : ∀ j, j < 13 → w.frozen? ⟨b, j, none⟩ = false
  lt : b < w.heap.size
theorem Fil.put {w : World} {b k : Nat} (h : Fil w b k) (hk : k < 13) : Fil (w.setCell ⟨b, k, none⟩ (.int .i64 (k : Int))) b (k + 1) := by
  refine ⟨fun j hj => ?_, fun j hj => by rw [World.frozen?_setCell]; exact h.f j hj, by rw [size_set]; exact h.lt⟩
  by_cases e : j = k
  · subst e
    rw [World.cell?_setCell_same w _ _ (h.c j hj), if_pos (by omega)]
  · rw [World.cell?_setCell_other (h := by intro q; simp at q), h.c j hj]
    by_cases l : j < k
    · rw [if_pos l, if_pos (by omega)]
    · rw [if_neg l, if_neg (by omega)]
end Go.Proofs.Ytaikeclfmmnelaa
/- A slice of int8. -/
namespace Go.Proofs.Ytaikeclfmmnelaa

open Go.RowKit
/-- What a slice of int8 holds. -/
def I8S (w : World) (v : Value) (zs : List Int) : Prop := Sl 0 w v zs.length (zs.map (Value.int .i8))
theorem I8S.keep {w w' : World} {v : Value} {zs : List Int} (h : I8S w v zs) (hb : Below w.heap.size w w') : I8S w' v zs := Sl.keep h hb
end Go.Proofs.Ytaikeclfmmnelaa
