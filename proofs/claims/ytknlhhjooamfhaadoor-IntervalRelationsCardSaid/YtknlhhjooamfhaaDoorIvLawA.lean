/- The walk of IntervalRelations. -/
import Derived.Test.YtknlhhjooamfhaaDoorIvAwake
import Derived.Test.YtknlhhjooamfhaaDoorIvN
import Derived.BigQuiet
import Derived.Deep.QuietTactic
import Derived.Deep.RegionHeld3
import Derived.Deep.Cut
import Derived.Outline
namespace Go.Proofs.YtknlhhjooamfhaaDoor
open Go.RowKit
set_option linter.unusedVariables false

theorem IntS.all (w : World) : IntS 0 (w.alloc (.cells #[.int .i64 0, .int .i64 1, .int .i64 2, .int .i64 3, .int .i64 4, .int .i64 5, .int .i64 6, .int .i64 7, .int .i64 8, .int .i64 9, .int .i64 10, .int .i64 11, .int .i64 12] 3)) (.slice (some ⟨w.heap.size, 0, none⟩) 13 13) [0, 1, 2, 3, 4, 5, 6, 7, 8, 9, 10, 11, 12] := by
  refine .inr ⟨w.heap.size, 0, 13, rfl, Nat.zero_le _, by simp, fun j u hj => ?_⟩
  rw [World.cell?_alloc_new]
  simpa [ints] using hj
set_option maxRecDepth 100000 in
set_option maxHeartbeats 4000000 in
theorem IntervalRelations.walk (a b c d r : Int) (ha : (Lit.int .i64 a).wf = true) (hb : (Lit.int .i64 b).wf = true) (hc : (Lit.int .i64 c).wf = true) (hd : (Lit.int .i64 d).wf = true) (hr : (Lit.int .i64 r).wf = true) (w : World) (ht : Tabs w) :
    Calls Tryd.prog 3 #[.agg #[.int .i64 a, .int .i64 b], .agg #[.int .i64 c, .int .i64 d], .int .i64 r] w fun e w' => e = .returned (.bool true) ∧ Below w.heap.size w w' := by
  replace ha := i64_wf ha
  replace hb := i64_wf hb
  replace hc := i64_wf hc
  replace hd := i64_wf hd
  replace hr := i64_wf hr
  have HO := fun w ht => uvof a b c d ha hb hc hd w ht
  have RO := fun w => rof a b c d ha hb hc hd w
  have HI := fun w ht => uvinv r hr w ht
  have RI := fun w => rinv r hr w
  have HA := fun w ht => uvall w ht
  have IA := Lib.hid (fun w => IntS.all w)
  have hln : Hid ([(0 : Int), 1, 2, 3, 4, 5, 6, 7, 8, 9, 10, 11, 12].length ≤ 1099511627776) := by show _ ≤ _; decide
  generalize [(0 : Int), 1, 2, 3, 4, 5, 6, 7, 8, 9, 10, 11, 12] = L at *
  generalize ofV a b c d = V at *
  generalize invV r = R at *
  clear ha hb hc hd hr
  have AW := Lib.hid (fun w ht => awake_all w ht)
  replace ht := Lib.hid ht
  go_enter Tryd.func3, Tryd.ntmps3
  go_wp2_with fail
  refine (AW.out _ (ht.out.below (grow (grow (here w) _) _))).mono ?_
  rintro e w1 ⟨rfl, hb⟩
  have A1 := Lib.hid (down (grow (grow (here w) _) _) hb)
  have X1 := Lib.hid (Two.fst hb)
  have Y1 := Lib.hid (Two.snd hb)
  clear hb
  obtain ⟨x1_0, x1_1, x1_z⟩ := X1.out
  obtain ⟨y1_0, y1_1, y1_z⟩ := Y1.out
  go_wp2
  replace HO := Lib.hid (fun W' (q : Below w1.heap.size w1 W') => HO W' (ht.out.below (down A1.out q)))
  replace HI := Lib.hid (fun W' (q : Below w1.heap.size w1 W') => HI W' (ht.out.below (down A1.out q)))
  replace HA := Lib.hid (fun W' (q : Below w1.heap.size w1 W') => HA W' (ht.out.below (down A1.out q)))
  replace RO := Lib.hid (fun W' (q : Below w1.heap.size w1 W') => RO W')
  replace RI := Lib.hid (fun W' (q : Below w1.heap.size w1 W') => RI W')
  have mk : ∀ W', Below w1.heap.size w1 W' → Below w1.heap.size w1 W' ∧ W'.cell? ⟨w.heap.size, 0, none⟩ = some (.int .i64 (a)) ∧ W'.cell? ⟨w.heap.size, 1, none⟩ = some (.int .i64 (b)) ∧ W'.cell? ⟨w.heap.size + 1, 0, none⟩ = some (.int .i64 (c)) ∧ W'.cell? ⟨w.heap.size + 1, 1, none⟩ = some (.int .i64 (d)) := fun W' q => ⟨q, (X1.out.keep q).c0, (X1.out.keep q).c1, (Y1.out.keep q).c0, (Y1.out.keep q).c1⟩
  have s1 := mk w1 (here w1)
  go_region_held3 (fun W' => Below w1.heap.size w1 W' ∧ W'.cell? ⟨w.heap.size, 0, none⟩ = some (.int .i64 (a)) ∧ W'.cell? ⟨w.heap.size, 1, none⟩ = some (.int .i64 (b)) ∧ W'.cell? ⟨w.heap.size + 1, 0, none⟩ = some (.int .i64 (c)) ∧ W'.cell? ⟨w.heap.size + 1, 1, none⟩ = some (.int .i64 (d))) (first | assumption | (exact mk _ (grow (And.left (by assumption)) _)) | (exact mk _ (Below.drew (And.left (by assumption)))) | (exact mk _ (below_drewN (And.left (by assumption)) _)))
    (first
     | (go_at_call 12; (with_reducible refine (HO.out _ (And.left (by assumption))).mono ?_); rintro e w' ⟨rfl, hb⟩; have hS := mk w' (down (And.left (by assumption)) hb))
     | (go_at_call 13; (with_reducible refine (RO.out _ (And.left (by assumption))).mono ?_); rintro e w' ⟨rfl, hb⟩; have hS := mk w' (down (And.left (by assumption)) hb))
     | (go_at_call 14; (with_reducible refine (HI.out _ (And.left (by assumption))).mono ?_); rintro e w' ⟨rfl, hb⟩; have hS := mk w' (down (And.left (by assumption)) hb))
     | (go_at_call 15; (with_reducible refine (RI.out _ (And.left (by assumption))).mono ?_); rintro e w' ⟨rfl, rfl⟩)
     | (go_at_call 17; (with_reducible refine (HA.out _ (And.left (by assumption))).mono ?_); rintro e w' ⟨⟨vPM, rfl, PM⟩, hb⟩; obtain ⟨oPM, cPM, rfl⟩ := Sl.shape PM; have hS := mk w' (down (And.left (by assumption)) hb))
     | (go_at_call 16; (first | (with_reducible refine (eq_ints L L _ _ hln.out _ (PM.keep (grow (here _) _)) (IA.out _)).mono ?_) | (with_reducible refine (eq_ints L L _ _ hln.out _ PM ((IA.out _).keep hb)).mono ?_)); rintro e w' ⟨rfl, nq, rfl⟩; rw [beq_self_eq_true]))
  all_goals
    go_wp2
    go_ret
    exact ⟨rfl, down A1.out (And.left (by assumption))⟩
end Go.Proofs.YtknlhhjooamfhaaDoor
