/- Contracts of package allen: sets, single relations, and the visit of a set's relations by a function that is ranged over. -/
import Derived.RangeFuncNested
import Derived.RangeFuncBound
import Derived.RangeFuncCalls
import Derived.RangeFuncLeaves
import Derived.Shelf.Abstract
import Derived.Shelf.RegionOpen
import Derived.WalkKit
import Derived.OwnWalkIn
import Derived.TacticsInMore
import Derived.LoopNIn
import Derived.LoopIn
import Derived.Test.YtiaidmjhgfaobaaDoorAlPl
import Derived.Test.YtiaidmjhgfaobaaDoorLIvU
namespace Go.Proofs.YtiaidmjhgfaobaaDoor
open Go.RowKit Go.Shelf
set_option linter.unusedVariables false
attribute [local go_sem] Oper.semAt_some

theorem uaset (s : Int) (h : I64 s) (w : World) :
    Calls Tryd.prog 39 #[.int .i64 s] w fun e w' => e = .returned (.bool (isS s)) ∧ w = w' := by
  obtain ⟨h0, h1⟩ := h
  unfold isS
  cases p : decide (0 ≤ s) <;> cases q : decide (s ≤ 8191)
  all_goals
    go_enter Tryd.func39, Tryd.ntmps39
    go_wp2
    go_ret
    exact ⟨rfl, rfl⟩
theorem uarel (r : Int) (hr : I64 r) (w : World) :
    Calls Tryd.prog 47 #[.int .i64 r] w fun e w' => e = .returned (.bool (isR r)) ∧ w = w' := by
  obtain ⟨h0, h1⟩ := hr
  unfold isR
  cases p : decide (0 ≤ r) <;> cases q : decide (r < 13)
  all_goals
    go_enter Tryd.func47, Tryd.ntmps47
    go_wp2
    go_ret
    exact ⟨rfl, rfl⟩
theorem uahas (S r : Nat) (hS : S < 8192) (hr : r ≤ 12) (w : World) :
    Calls Tryd.prog 48 #[.int .i64 S, .int .i64 r] w fun e w' => e = .returned (.bool (S.testBit r)) ∧ w = w' := by
  have e := Lib.hid (al_has S r hS)
  have s0 : (S : Int) ≤ 8191 := by omega
  go_enter Tryd.func48, Tryd.ntmps48
  go_wp2
  go_ret
  exact ⟨by rw [← e.out]; rfl, rfl⟩
theorem uafull0 (w : World) :
    Calls Tryd.prog 38 #[] w fun e w' => e = .returned (.int .i64 8191) ∧ Below w.heap.size w w' := by
  go_enter Tryd.func38, Tryd.ntmps38
  go_wp2
  go_ret
  exact ⟨rfl, here w⟩

/-- The visitor's own cell is as it was. -/
def KpC (b : Nat) (v : Value) (W W' : World) : Prop := W.cell? ⟨b, 0, none⟩ = some v → W'.cell? ⟨b, 0, none⟩ = some v
theorem KpC.tr {b : Nat} {v : Value} {X Y Z : World} (h : KpC b v X Y) (k : KpC b v Y Z) : KpC b v X Z := fun c => k (h c)
theorem KpC.rf (b : Nat) (v : Value) (W : World) : KpC b v W W := fun c => c
theorem KpC.put {b : Nat} {v : Value} (W : World) (l : Nat) (o o' : Obj) (h : W.heap[l]? = some o) (hc : o.isCells = false) : KpC b v W (W.putObj l o') :=
  fun c => cell_kept c (grownBy_putObj' W l o') (fun r e => by cases e; exact ⟨o, h, hc⟩)
theorem KpC.set {b b' o : Nat} {v : Value} (W : World) (u : Value) (h : b ≠ b') : KpC b v W (W.setCell ⟨b', o, none⟩ u) :=
  fun c => by rw [World.cell?_setCell_other (h := fun e => h (congrArg Addr.block e).symm)]; exact c
theorem KpC.below {b : Nat} {v : Value} {W W' : World} (hb : Below W.heap.size W W') : KpC b v W W' :=
  fun c => by
    have l : b < W.heap.size := by
      rcases Nat.lt_or_ge b W.heap.size with h | h
      · exact h
      · rw [World.cell?, Array.getElem?_eq_none h] at c; cases c
    rw [hb.cell (p := ⟨b, 0, none⟩) l]; exact c
theorem KpC.alloc {b : Nat} {v : Value} (W : World) (o : Obj) : KpC b v W (W.alloc o) := KpC.below (grow (here W) o)
theorem KpC.drew {b : Nat} {v : Value} (W : World) : KpC b v W W.drew := fun c => c
/-- What lies below a call's start lies on behind it, whatever it is. -/
theorem keeps_below {B : Nat} {W W' : World} (hb : Below W.heap.size W W') : KeepsFrom B W W' :=
  ⟨hb.size, fun k o _ hk _ => (hb.block k (Array.getElem?_eq_some_iff.1 hk).1).trans hk⟩
theorem Boxed.below {W W' : World} {b : Nat} {t : TypeId} {v : Value} (h : Boxed W b t v) (hb : Below W.heap.size W W') : Boxed W' b t v := (hb.block b h.lt).trans h

set_option maxRecDepth 100000 in
set_option maxHeartbeats 1000000 in
/-- The visit: each relation of the set in its order, for whatever body that leaves the visitor's cell alone. -/
theorem mem1_in (n : Nat) (hn : 1 ≤ n) (l Bn S : Nat) (hS : S < 8192) (J Jx : List (Fin 13) → World → Prop)
    (hY : ∀ pre (x : Fin 13) W, J pre W → pre.length < 13 → YieldAt Fence.wide (n - 1) Tryd.prog l #[.int .i64 (x.val : Int)] W fun e W' =>
      (e = .returned (.bool true) ∧ J (pre ++ [x]) W' ∧ KpC Bn (.int .i64 S) W W') ∨ (e = .returned (.bool false) ∧ Jx (pre ++ [x]) W'))
    (W : World) (hBn : W.cell? ⟨Bn, 0, none⟩ = some (.int .i64 S)) (h0 : J [] W) :
    CallsIn Fence.wide n Tryd.prog 59 #[.func (.yield l) #[] #[], .pointer (some ⟨Bn, 0, none⟩)] W fun e W' => (∃ v, e = .returned v) ∧
      ((∃ ys, ys = mbK S 13 ∧ J ys W') ∨ (∃ pre, True ∧ Jx pre W')) := by
  refine callsIn_of_wp Tryd.func59 rfl trivial ?_ rfl
  simp only [Tryd.ntmps59, List.size_toArray, List.length_cons, List.length_nil, Nat.reduceAdd, Nat.reduceSub, Array.replicate_succ, Array.replicate_zero, List.push_toArray, List.append_toArray, List.nil_append, List.cons_append]
  gi_wp2
  gi_loopw [4] (fun i wr => ∃ k : Nat, k ≤ 13 ∧ i = .int .i64 k ∧ J (mbK S k) wr ∧ wr.cell? ⟨Bn, 0, none⟩ = some (.int .i64 S)) (fun i _ => 13 - (intOf i).toNat)
  case atStart => exact ⟨0, by omega, rfl, h0, hBn⟩
  case round =>
    obtain ⟨k, hk, rfl, hJs, hc⟩ := hrel
    by_cases z : k < 13
    · have kz : decide ((k : Int) < 13) = true := decide_eq_true (by omega)
      have HH := Lib.hid (fun w => uahas S k hS (by omega) w)
      cases b : S.testBit k
      · rw [b] at HH
        have rel := mb_no b
        gi_wp2_with (refine ⟨trivial, ?_⟩; gi_at_call 48; refine (callsIn_wide.2 (HH.out _)).mono ?_; rintro e w' ⟨rfl, rfl⟩)
        refine ⟨fun _ h => (by cases h), ?_⟩
        gi_wp2
        go_roundw
        case rel => exact ⟨k + 1, by omega, by go_num, by rw [rel]; exact hJs, hc⟩
        case measure => simp [intOf]; omega
      · rw [b] at HH
        have rel := mb_yes z b
        obtain ⟨fn, tmps, assign, body, hy, hR⟩ := hY _ ⟨k, z⟩ wr hJs (by have := mb_len S k; omega)
        dsimp only at hy
        gi_wp2_with (refine ⟨trivial, ?_⟩; gi_at_call 48; refine (callsIn_wide.2 (HH.out _)).mono ?_; rintro e w' ⟨rfl, rfl⟩)
        refine hR.mono ?_
        rintro e W3 (⟨rfl, hJ3, hk3⟩ | ⟨rfl, hJx3⟩)
        · have hc3 := hk3 hc
          gi_wp2
          go_roundw
          case rel => exact ⟨k + 1, by omega, by go_num, by rw [rel]; exact hJ3, hc3⟩
          case measure => simp [intOf]; omega
        · gi_wp2
          refine bodyPost_ret (results_none rfl _ _ _) rfl ?_
          exact ⟨⟨_, rfl⟩, .inr ⟨_, trivial, hJx3⟩⟩
    · have kz : decide ((k : Int) < 13) = false := decide_eq_false (by omega)
      obtain rfl : k = 13 := by omega
      gi_wp2
      go_end0
      exact ⟨⟨_, rfl⟩, .inl ⟨_, rfl, hJs⟩⟩
set_option maxHeartbeats 1000000 in
/-- members(set): the set is boxed; the function value captures the box. -/
theorem mem_in (n : Nat) (s : Int) (w : World) :
    CallsIn Fence.wide n Tryd.prog 40 #[.int .i64 s] w fun e w' => e = .returned (.func (.func 59) #[] #[.pointer (some ⟨w.heap.size, 0, none⟩)]) ∧ w' = w.alloc (.cells #[.int .i64 s] 3) := by
  refine callsIn_of_wp Tryd.func40 rfl trivial ?_ rfl
  simp only [Tryd.ntmps40, List.size_toArray, List.length_cons, List.length_nil, Nat.reduceAdd, Nat.reduceSub, Array.replicate_succ, Array.replicate_zero, List.push_toArray, List.append_toArray, List.nil_append, List.cons_append]
  gi_wp2
  go_ret
  exact ⟨rfl, rfl⟩
theorem mem_stops (n : Nat) (hn : 1 ≤ n) (Bn S : Nat) (hS : S < 8192) (w : World) (hc : w.cell? ⟨Bn, 0, none⟩ = some (.int .i64 S)) (hl : Bn < w.heap.size) :
    SeqStopsK Fence.wide n Tryd.prog 59 #[.pointer (some ⟨Bn, 0, none⟩)] (fun x : Fin 13 => #[Value.int .i64 (x.val : Int)]) (KpC Bn (.int .i64 S)) (fun ys => ys = mbK S 13) (fun _ => True) 13 w :=
  fun l J Jx W hW _ _ hY h0 => mem1_in n hn l Bn S hS J Jx hY W ((hW.cell (p := ⟨Bn, 0, none⟩) hl).trans hc) h0
end Go.Proofs.YtiaidmjhgfaobaaDoor
