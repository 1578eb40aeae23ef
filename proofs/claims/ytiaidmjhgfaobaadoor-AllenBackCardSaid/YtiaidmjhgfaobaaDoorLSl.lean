/- Slices of ints and of pairs: where they lie, what stays; slices.Equal, slices.Index, slices.Contains of ints. -/
import Derived.Test.YtiaidmjhgfaobaaDoorLGen

import Derived.Test.YtiaidmjhgfaobaaDoorProg

import Derived.WalkKit

import Derived.Outline

import Derived.BigQuiet

import Derived.Deep.QuietTactic

namespace Go.Proofs.YtiaidmjhgfaobaaDoor

open Go.RowKit

set_option linter.unusedVariables false

/-- Cells lie from a place on. -/
structure Lies (w : World) (b off : Nat) (xs : List Value) : Prop where
  lt : b < w.heap.size
  cell : ∀ (j : Nat) (u : Value), xs[j]? = some u → w.cell? ⟨b, off + j, none⟩ = some u
theorem Lies.keep {w w' : World} {b off : Nat} {xs : List Value} (h : Lies w b off xs) (hb : Below w.heap.size w w') : Lies w' b off xs := by
  have l := h.lt
  refine ⟨by have := hb.size; omega, fun j u hj => ?_⟩
  rw [hb.cell (p := ⟨b, off + j, none⟩) l]; exact h.cell j u hj
/-- A slice of n elements whose cells are xs, in a block from base on. -/
def Sl (base : Nat) (w : World) (v : Value) (n : Nat) (xs : List Value) : Prop :=
  (n = 0 ∧ ∃ ao c, v = .slice ao 0 c) ∨ ∃ b off c, v = .slice (some ⟨b, off, none⟩) n c ∧ base ≤ b ∧ Lies w b off xs
theorem Sl.keep {base : Nat} {w w' : World} {v : Value} {n : Nat} {xs : List Value} (h : Sl base w v n xs) (hb : Below w.heap.size w w') : Sl base w' v n xs := by
  rcases h with h | ⟨b, off, c, h, l, k⟩
  · exact .inl h
  · exact .inr ⟨b, off, c, h, l, k.keep hb⟩
theorem Sl.weak {base base' : Nat} {w : World} {v : Value} {n : Nat} {xs : List Value} (h : Sl base w v n xs) (hb : base' ≤ base) : Sl base' w v n xs := by
  rcases h with h | ⟨b, off, c, h, l, k⟩
  · exact .inl h
  · exact .inr ⟨b, off, c, h, Nat.le_trans hb l, k⟩
theorem Sl.far {base : Nat} {w : World} {v : Value} {n : Nat} {xs : List Value} (h : Sl base w v n xs) {b' o : Nat} (hb : b' < base) (u : Value) : Sl base (w.setCell ⟨b', o, none⟩ u) v n xs := by
  rcases h with h | ⟨b, off, c, h, l, k⟩
  · exact .inl h
  · refine .inr ⟨b, off, c, h, l, by rw [size_set]; exact k.lt, fun j x hj => ?_⟩
    rw [World.cell?_setCell_other (h := fun e => by have := congrArg Addr.block e; simp at this; omega)]
    exact k.cell j x hj
theorem Sl.none (base : Nat) (w : World) : Sl base w (.slice none 0 0) 0 [] := .inl ⟨rfl, _, _, rfl⟩
theorem Sl.shape {base : Nat} {w : World} {v : Value} {n : Nat} {xs : List Value} (h : Sl base w v n xs) : ∃ ao c, v = .slice ao n c := by
  rcases h with ⟨rfl, a, c, rfl⟩ | ⟨b, o, c, rfl, -⟩ <;> exact ⟨_, _, rfl⟩
theorem Sl.owns {w : World} {base : Nat} {e : TypeId} {size : Nat} {v : Value} {n : Nat} {xs : List Value} (h : w.ownsRow base e size v n xs) : Sl base w v n xs := by
  rcases h.2 with ⟨rfl, rfl⟩ | ⟨g, cap, cur, rfl, hb, hh, -, -, -, hx⟩
  · exact .inl ⟨rfl, _, _, rfl⟩
  · refine .inr ⟨g, 0, cap, rfl, hb, ?_, fun j u hj => ?_⟩
    · exact (h.lt g rfl).2
    · have := h.cells (g := g) rfl j u hj
      rw [Addr.add_lit, Nat.zero_add] at this
      rw [Nat.zero_add]; exact this
abbrev ints (zs : List Int) : List Value := zs.map (Value.int .i64)
def IntS (base : Nat) (w : World) (v : Value) (zs : List Int) : Prop := Sl base w v zs.length (ints zs)
/-- The cells of pairs of ints. -/
def pairs : List (Int × Int) → List Value
  | [] => []
  | p :: l => .int .i64 p.1 :: .int .i64 p.2 :: pairs l
def PairS (base : Nat) (w : World) (v : Value) (ps : List (Int × Int)) : Prop := Sl base w v ps.length (pairs ps)
theorem IntS.keep {base : Nat} {w w' : World} {v : Value} {zs : List Int} (h : IntS base w v zs) (hb : Below w.heap.size w w') : IntS base w' v zs := Sl.keep h hb
theorem PairS.keep {base : Nat} {w w' : World} {v : Value} {ps : List (Int × Int)} (h : PairS base w v ps) (hb : Below w.heap.size w w') : PairS base w' v ps := Sl.keep h hb
theorem ints_at {w : World} {b off : Nat} {zs : List Int} (h : Lies w b off (ints zs)) (j : Nat) (hj : j < zs.length) : w.cell? ⟨b, off + j, none⟩ = some (.int .i64 (zs.getD j 0)) := by
  refine h.cell j _ ?_
  simp [ints, List.getD_eq_getElem?_getD, hj]
theorem pairs_length (ps : List (Int × Int)) : (pairs ps).length = ps.length * 2 := by
  induction ps with
  | nil => rfl
  | cons p l ih => simp [pairs, ih]; omega
theorem pairs_append (a b : List (Int × Int)) : pairs (a ++ b) = pairs a ++ pairs b := by
  induction a with
  | nil => rfl
  | cons p l ih => simp [pairs, ih]
theorem pairs_get (ps : List (Int × Int)) (j : Nat) (hj : j < ps.length) : (pairs ps)[2 * j]? = some (.int .i64 (ps.getD j (0, 0)).1) ∧ (pairs ps)[2 * j + 1]? = some (.int .i64 (ps.getD j (0, 0)).2) := by
  induction ps generalizing j with
  | nil => exact absurd hj (Nat.not_lt_zero _)
  | cons p l ih =>
    cases j with
    | zero => exact ⟨rfl, rfl⟩
    | succ j =>
      have h := ih j (by simpa using hj)
      rw [show 2 * (j + 1) = 2 * j + 2 by omega, show 2 * j + 2 + 1 = 2 * j + 1 + 2 by omega]
      simpa [pairs] using h
theorem pairs_at {w : World} {b off : Nat} {ps : List (Int × Int)} (h : Lies w b off (pairs ps)) (j : Nat) (hj : j < ps.length) :
    w.cell? ⟨b, off + j * 2, none⟩ = some (.int .i64 (ps.getD j (0, 0)).1) ∧ w.cell? ⟨b, off + j * 2 + 1, none⟩ = some (.int .i64 (ps.getD j (0, 0)).2) := by
  have q := pairs_get ps j hj
  rw [Nat.mul_comm 2 j] at q
  exact ⟨h.cell _ _ q.1, by rw [Nat.add_assoc]; exact h.cell _ _ q.2⟩
theorem list_eq_of {α : Type} {d : α} {a b : List α} (l : a.length = b.length) (h : ∀ j, j < a.length → a.getD j d = b.getD j d) : a = b := by
  refine List.ext_getElem l fun j h1 h2 => ?_
  have := h j h1
  simpa [List.getD_eq_getElem?_getD, h1, h2] using this
theorem list_ne_of {α : Type} {d : α} {a b : List α} (j : Nat) (h : ¬ a.getD j d = b.getD j d) : ¬ a = b := fun e => h (by rw [e])
theorem eqi_len (v1 v2 : Option Addr) (n m c1 c2 : Nat) (h : ¬ n = m) (w : World) :
    Calls Tryd.prog 18 #[.slice v1 n c1, .slice v2 m c2] w fun e w' => e = .returned (.bool false) ∧ w = w' := by
  have k : ((n : Int) != (m : Int)) = true := by simp; omega
  go_enter Tryd.func18, Tryd.ntmps18
  go_wp2
  go_ret
  exact ⟨rfl, rfl⟩
theorem eqi_zero (v1 v2 : Option Addr) (c1 c2 : Nat) (w : World) :
    Calls Tryd.prog 18 #[.slice v1 0 c1, .slice v2 0 c2] w fun e w' => e = .returned (.bool true) ∧ w = w' := by
  go_enter Tryd.func18, Tryd.ntmps18
  go_wp2
  go_loop [13] (fun a => a = .int .i64 0) (fun _ => 0)
  case atStart => rfl
  case round =>
    subst hrel
    go_wp2
    go_ret
    exact ⟨rfl, rfl⟩
set_option maxHeartbeats 400000 in
theorem eqi_same (zs ys : List Int) (n b1 o1 c1 b2 o2 c2 : Nat) (l1 : zs.length = n) (l2 : ys.length = n) (hn : n ≤ 1099511627776) (w : World) (h1 : Lies w b1 o1 (ints zs)) (h2 : Lies w b2 o2 (ints ys)) :
    Calls Tryd.prog 18 #[.slice (some ⟨b1, o1, none⟩) n c1, .slice (some ⟨b2, o2, none⟩) n c2] w fun e w' => e = .returned (.bool (zs == ys)) ∧ ∃ q, w' = w.drewN q := by
  have C1 := Lib.hid (fun j (hj : j < n) => ints_at h1 j (by omega))
  have C2 := Lib.hid (fun j (hj : j < n) => ints_at h2 j (by omega))
  have L : Hid (zs.length = ys.length ∧ zs.length = n) := ⟨by omega, l1⟩
  clear l1 l2 h1 h2
  go_enter Tryd.func18, Tryd.ntmps18
  go_wp2
  go_loopw [13] (fun a wr => ∃ k q : Nat, k ≤ n ∧ a = .int .i64 k ∧ wr = w.drewN q ∧ Hid (∀ j, j < k → zs.getD j 0 = ys.getD j 0)) (fun a _ => n - (intOf a).toNat)
  case atStart => exact ⟨0, 0, Nat.zero_le _, rfl, rfl, fun j hj => absurd hj (Nat.not_lt_zero _)⟩
  case round =>
    obtain ⟨k, q, hk, rfl, rfl, HE⟩ := hrel
    by_cases z : k < n
    · have kz : decide ((k : Int) < (n : Int)) = true := decide_eq_true (by omega)
      have d1 := C1.out k z
      have d2 := C2.out k z
      by_cases e : zs.getD k 0 = ys.getD k 0
      · have HE' : Hid (∀ j, j < k + 1 → zs.getD j 0 = ys.getD j 0) := fun j hj => by
          rcases Nat.lt_or_ge j k with c | c
          · exact HE.out j c
          · obtain rfl : j = k := by omega
            exact e
        rw [← e] at d2
        clear e HE
        generalize zs.getD k 0 = x at *
        go_wp2
        go_quiet (fail)
        go_wp2
        go_roundw
        case rel => exact ⟨k + 1, _, by omega, by go_num, rfl, HE'⟩
        case measure => simp [intOf]; omega
      · have ke : (zs.getD k 0 != ys.getD k 0) = true := by simpa using e
        have hr : Hid ((zs == ys) = false) := by show _ = _; rw [beq_eq_false_iff_ne]; exact list_ne_of k e
        clear e HE
        generalize zs.getD k 0 = x at *
        generalize ys.getD k 0 = y at *
        go_wp2
        go_quiet (fail)
        go_wp2
        go_ret
        exact ⟨by rw [hr.out]; rfl, _, World.drewN_drewN _ _ _⟩
    · obtain rfl : k = n := by omega
      have hr : Hid ((zs == ys) = true) := by show _ = _; rw [beq_iff_eq]; exact list_eq_of L.out.1 (fun j hj => HE.out j (by have := L.out.2; omega))
      have kz : decide ((k : Int) < (k : Int)) = false := decide_eq_false (by omega)
      clear C1 C2 HE L z
      go_wp2
      go_ret
      exact ⟨by rw [hr.out]; rfl, _, rfl⟩
theorem eq_ints (zs ys : List Int) (v1 v2 : Value) (hn : zs.length ≤ 1099511627776) (w : World) {p1 p2 : Nat} (h1 : IntS p1 w v1 zs) (h2 : IntS p2 w v2 ys) :
    Calls Tryd.prog 18 #[v1, v2] w fun e w' => e = .returned (.bool (zs == ys)) ∧ ∃ q, w' = w.drewN q := by
  have nb : ¬ zs.length = ys.length → (zs == ys) = false := fun h => by rw [beq_eq_false_iff_ne]; exact fun e => h (by rw [e])
  rcases h1 with ⟨l1, a1, c1, rfl⟩ | ⟨b1, o1, c1, rfl, -, k1⟩
  · rcases h2 with ⟨l2, a2, c2, rfl⟩ | ⟨b2, o2, c2, rfl, -, k2⟩
    · rw [show zs = [] from List.eq_nil_of_length_eq_zero l1, show ys = [] from List.eq_nil_of_length_eq_zero l2]
      exact (eqi_zero a1 a2 c1 c2 w).mono fun _ _ ⟨he, hw⟩ => ⟨he, 0, hw ▸ rfl⟩
    · by_cases l2 : ys.length = 0
      · rw [l2, show zs = [] from List.eq_nil_of_length_eq_zero l1, show ys = [] from List.eq_nil_of_length_eq_zero l2]
        exact (eqi_zero a1 _ c1 c2 w).mono fun _ _ ⟨he, hw⟩ => ⟨he, 0, hw ▸ rfl⟩
      · rw [nb (by omega)]
        exact (eqi_len a1 _ 0 ys.length c1 c2 (by omega) w).mono fun _ _ ⟨he, hw⟩ => ⟨he, 0, hw ▸ rfl⟩
  · rcases h2 with ⟨l2, a2, c2, rfl⟩ | ⟨b2, o2, c2, rfl, -, k2⟩
    · by_cases l1 : zs.length = 0
      · rw [l1, show zs = [] from List.eq_nil_of_length_eq_zero l1, show ys = [] from List.eq_nil_of_length_eq_zero l2]
        exact (eqi_zero _ a2 c1 c2 w).mono fun _ _ ⟨he, hw⟩ => ⟨he, 0, hw ▸ rfl⟩
      · rw [nb (by omega)]
        exact (eqi_len _ a2 zs.length 0 c1 c2 l1 w).mono fun _ _ ⟨he, hw⟩ => ⟨he, 0, hw ▸ rfl⟩
    · by_cases l : zs.length = ys.length
      · rw [← l]
        exact eqi_same zs ys zs.length b1 o1 c1 b2 o2 c2 rfl l.symm hn w k1 k2
      · rw [nb l]
        exact (eqi_len _ _ zs.length ys.length c1 c2 l w).mono fun _ _ ⟨he, hw⟩ => ⟨he, 0, hw ▸ rfl⟩
end Go.Proofs.YtiaidmjhgfaobaaDoor
