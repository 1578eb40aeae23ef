/- The examples of the chapter. -/
import Derived.Test.YtknlhhjooamfhaaDoorIvU
import Derived.Test.YtknlhhjooamfhaaDoorLSlP
import Derived.Test.YtknlhhjooamfhaaDoorIvS
import Derived.Test.YtknlhhjooamfhaaDoorIvT
import Derived.BigQuiet
import Derived.Deep.QuietTactic
import Derived.Deep.RegionHeld3
import Derived.Deep.Cut
import Derived.Outline
namespace Go.Proofs.YtknlhhjooamfhaaDoor
open Go.RowKit
set_option linter.unusedVariables false

theorem rof_span (a b : Int) (w : World) :
    Calls Tryd.prog 35 #[.int .i64 a, .int .i64 b] w fun e w' => e = .returned (.agg #[.int .i64 a, .int .i64 b]) ∧ Below w.heap.size w w' := by
  obtain ⟨w1, hw1⟩ : ∃ w1 : World, w.alloc (.cells #[.int .i64 0, .int .i64 0] 23) = w1 := ⟨_, rfl⟩
  have R1 : Tuo w1 w.heap.size (.int .i64 0) (.int .i64 0) := by rw [← hw1]; exact Tuo.new _ _ _ _
  obtain ⟨w2, hw2⟩ : ∃ w2 : World, w1.setCell ⟨w.heap.size, 0, none⟩ (.int .i64 a) = w2 := ⟨_, rfl⟩
  obtain ⟨w3, hw3⟩ : ∃ w3 : World, w2.setCell ⟨w.heap.size, 1, none⟩ (.int .i64 b) = w3 := ⟨_, rfl⟩
  have R2 : Tuo w2 w.heap.size (.int .i64 a) (.int .i64 0) := by rw [← hw2]; exact R1.put0 _
  have R3 : Tuo w3 w.heap.size (.int .i64 a) (.int .i64 b) := by rw [← hw3]; exact R2.put1 _
  have A3 : Hid (Below w.heap.size w w3) := by rw [← hw3, ← hw2, ← hw1]; exact ((grow (here w) _).setCell (Nat.le_refl _) _).setCell (Nat.le_refl _) _
  obtain ⟨⟨p0, p1, pl⟩, pf0, pf1⟩ := R1
  obtain ⟨⟨q0, q1, ql⟩, qf0, qf1⟩ := R2
  obtain ⟨⟨r0, r1, rl⟩, rf0, rf1⟩ := R3
  go_enter Tryd.func35, Tryd.ntmps35
  go_wp2
  exact bodyPost_ret (v := .agg #[.int .i64 a, .int .i64 b]) (by simp [results, Tryd.results35, go_sem, r0, r1]) rfl ⟨rfl, A3.out⟩
theorem PairS.two (w : World) (a b c d : Int) : PairS 0 (w.alloc (.cells #[.int .i64 a, .int .i64 b, .int .i64 c, .int .i64 d] 23)) (.slice (some ⟨w.heap.size, 0, none⟩) 2 2) [(a, b), (c, d)] := by
  refine .inr ⟨w.heap.size, 0, 2, rfl, Nat.zero_le _, by simp, fun j u hj => ?_⟩
  rw [World.cell?_alloc_new]
  simpa [pairs] using hj
set_option maxRecDepth 100000 in
set_option maxHeartbeats 4000000 in
theorem awake_all (w : World) (ht : Tabs w) :
    Calls Tryd.prog 11 #[] w fun e w' => e = .returned (.bool true) ∧ Below w.heap.size w w' := by
  have OF := Lib.hid (fun a b w => rof_span a b w)
  have O0 := fun w ht => uvof 0 4 2 6 ⟨by decide, by decide⟩ ⟨by decide, by decide⟩ ⟨by decide, by decide⟩ ⟨by decide, by decide⟩ w ht
  rw [show ofV 0 4 2 6 = 2 by decide] at O0
  have O1 := fun w ht => uvof 0 4 4 5 ⟨by decide, by decide⟩ ⟨by decide, by decide⟩ ⟨by decide, by decide⟩ ⟨by decide, by decide⟩ w ht
  rw [show ofV 0 4 4 5 = 1 by decide] at O1
  have O2 := fun w ht => uvof 0 4 0 4 ⟨by decide, by decide⟩ ⟨by decide, by decide⟩ ⟨by decide, by decide⟩ ⟨by decide, by decide⟩ w ht
  rw [show ofV 0 4 0 4 = 6 by decide] at O2
  have O3 := fun w ht => uvof 0 4 1 4 ⟨by decide, by decide⟩ ⟨by decide, by decide⟩ ⟨by decide, by decide⟩ ⟨by decide, by decide⟩ w ht
  rw [show ofV 0 4 1 4 = 7 by decide] at O3
  have MI := fun w ht => uvminus 0 10 3 5 ⟨by decide, by decide⟩ ⟨by decide, by decide⟩ ⟨by decide, by decide⟩ ⟨by decide, by decide⟩ w ht
  rw [show mnL 0 10 3 5 = [(0, 3), (5, 10)] by decide] at MI
  have NA := fun w ht => uvname 6 ⟨by decide, by decide⟩ w ht
  rw [show nmR 6 = ⟨#[101, 113, 117, 97, 108, 115]⟩ by rfl] at NA
  replace ht := Lib.hid ht
  go_enter Tryd.func11, Tryd.ntmps11
  go_wp2_with fail
  refine (OF.out 0 4 _).mono ?_
  rintro e w1 ⟨rfl, hb⟩
  have A1 := Lib.hid hb
  clear hb
  go_wp2
  obtain ⟨w2, hw2⟩ : ∃ w' : World, (w1.alloc (.cells #[.int .i64 (0), .int .i64 (4)] 23)) = w' := ⟨_, rfl⟩
  rw [hw2]
  have hb : Below (w1.alloc (.cells #[.int .i64 (0), .int .i64 (4)] 23)).heap.size (w1.alloc (.cells #[.int .i64 (0), .int .i64 (4)] 23)) w2 := by rw [hw2]; exact here _
  clear hw2
  have A2 := Lib.hid (down (grow A1.out _) hb)
  have T2 := Lib.hid (Two.new hb)
  clear hb A1
  obtain ⟨t2_0, t2_1, t2_z⟩ := T2.out
  go_wp2
  replace O0 := Lib.hid (fun W' (q : Below w2.heap.size w2 W') => O0 W' (ht.out.below (down A2.out q)))
  replace O1 := Lib.hid (fun W' (q : Below w2.heap.size w2 W') => O1 W' (ht.out.below (down A2.out q)))
  replace O2 := Lib.hid (fun W' (q : Below w2.heap.size w2 W') => O2 W' (ht.out.below (down A2.out q)))
  replace O3 := Lib.hid (fun W' (q : Below w2.heap.size w2 W') => O3 W' (ht.out.below (down A2.out q)))
  replace MI := Lib.hid (fun W' (q : Below w2.heap.size w2 W') => MI W' (ht.out.below (down A2.out q)))
  replace NA := Lib.hid (fun W' (q : Below w2.heap.size w2 W') => NA W' (ht.out.below (down A2.out q)))
  have mk : ∀ W', Below w2.heap.size w2 W' → Below w2.heap.size w2 W' ∧ W'.cell? ⟨w1.heap.size, 0, none⟩ = some (.int .i64 (0)) ∧ W'.cell? ⟨w1.heap.size, 1, none⟩ = some (.int .i64 (4)) := fun W' q => ⟨q, (T2.out.keep q).c0, (T2.out.keep q).c1⟩
  have s2 := mk w2 (here w2)
  go_region_held3 (fun W' => Below w2.heap.size w2 W' ∧ W'.cell? ⟨w1.heap.size, 0, none⟩ = some (.int .i64 (0)) ∧ W'.cell? ⟨w1.heap.size, 1, none⟩ = some (.int .i64 (4))) (first | assumption | (exact mk _ (grow (And.left (by assumption)) _)) | (exact mk _ (Below.drew (And.left (by assumption)))) | (exact mk _ (below_drewN (And.left (by assumption)) _)))
    (first
     | (go_at_call 35; (with_reducible refine (OF.out _ _ _).mono ?_); rintro e w' ⟨rfl, hb⟩; have hS := mk w' (down (And.left (by assumption)) hb); (try (replace PM := PM.keep hb)))
     | (go_at_call 12; (with_reducible refine (O0.out _ (And.left (by assumption))).mono ?_); rintro e w' ⟨rfl, hb⟩; have hS := mk w' (down (And.left (by assumption)) hb))
     | (go_at_call 12; (with_reducible refine (O1.out _ (And.left (by assumption))).mono ?_); rintro e w' ⟨rfl, hb⟩; have hS := mk w' (down (And.left (by assumption)) hb))
     | (go_at_call 12; (with_reducible refine (O2.out _ (And.left (by assumption))).mono ?_); rintro e w' ⟨rfl, hb⟩; have hS := mk w' (down (And.left (by assumption)) hb))
     | (go_at_call 12; (with_reducible refine (O3.out _ (And.left (by assumption))).mono ?_); rintro e w' ⟨rfl, hb⟩; have hS := mk w' (down (And.left (by assumption)) hb))
     | (go_at_call 23; (with_reducible refine (MI.out _ (And.left (by assumption))).mono ?_); rintro e w' ⟨⟨v, rfl, PM⟩, hb⟩; obtain ⟨vo, vc, rfl⟩ := Sl.shape PM; have hS := mk w' (down (And.left (by assumption)) hb))
     | (go_at_call 22; (refine (eq_pairs [(0, 3), (5, 10)] [(0, 3), (5, 10)] _ _ (by decide) _ (PM.keep (grow (here _) _)) (PairS.two _ 0 3 5 10)).mono ?_); rintro e w' ⟨rfl, nq, rfl⟩)
     | (go_at_call 33; (with_reducible refine (NA.out _ (And.left (by assumption))).mono ?_); rintro e w' ⟨rfl, hb⟩; have hS := mk w' (down (And.left (by assumption)) hb)))
  all_goals
    go_wp2
    go_ret
    exact ⟨rfl, down A2.out (And.left (by assumption))⟩
end Go.Proofs.YtknlhhjooamfhaaDoor
