/- The walk of IntervalParts. -/
import Derived.Test.YtknlhhjooamfhaaDoorIvAwake
import Derived.Test.YtknlhhjooamfhaaDoorIvS
import Derived.Test.YtknlhhjooamfhaaDoorIvT
import Derived.BigQuiet
import Derived.Deep.QuietTactic
import Derived.Deep.RegionHeld3
import Derived.Deep.Cut
import Derived.Outline
namespace Go.Proofs.YtknlhhjooamfhaaDoor
open Go.RowKit
set_option linter.unusedVariables false

set_option maxRecDepth 100000 in
set_option maxHeartbeats 4000000 in
theorem IntervalParts.walk (a b c d : Int) (ha : (Lit.int .i64 a).wf = true) (hb : (Lit.int .i64 b).wf = true) (hc : (Lit.int .i64 c).wf = true) (hd : (Lit.int .i64 d).wf = true) (w : World) (ht : Tabs w) :
    Calls Tryd.prog 4 #[.agg #[.int .i64 a, .int .i64 b], .agg #[.int .i64 c, .int .i64 d]] w fun e w' => e = .returned (.bool true) ∧ Below w.heap.size w w' := by
  replace ha := i64_wf ha
  replace hb := i64_wf hb
  replace hc := i64_wf hc
  replace hd := i64_wf hd
  have HM := fun w ht => uvmeet a b c d ha hb hc hd w ht
  have RM := fun w => rmeet a b c d ha hb hc hd w
  have HH := fun w ht => uvhull a b c d ha hb hc hd w ht
  have RH := fun w => rhull a b c d ha hb hc hd w
  have HN := fun w ht => uvminus a b c d ha hb hc hd w ht
  have RN := fun w => rminus a b c d ha hb hc hd w
  have hln : Hid ((mnL a b c d).length ≤ 1099511627776) := by
    show _ ≤ _
    unfold mnL mnA mnZ
    split
    · rw [List.length_append]; split <;> split <;> simp
    · simp
  generalize mtF a b c d = mf at *
  generalize mtT a b c d = mt at *
  generalize mtB a b c d = mb at *
  generalize hlF a b c d = lf at *
  generalize hlT a b c d = lt at *
  generalize hlE a b c d = le at *
  generalize mnL a b c d = L at *
  clear ha hb hc hd
  replace HM := Lib.hid HM
  replace RM := Lib.hid RM
  replace HH := Lib.hid HH
  replace RH := Lib.hid RH
  have AW := Lib.hid (fun w ht => awake_all w ht)
  replace ht := Lib.hid ht
  go_enter Tryd.func4, Tryd.ntmps4
  go_wp2_with fail
  refine (AW.out _ (ht.out.below (grow (grow (here w) _) _))).mono ?_
  rintro e w1 ⟨rfl, hb⟩
  have A1 := Lib.hid (down (grow (grow (here w) _) _) hb)
  have X1 := Lib.hid (Two.fst hb)
  have Y1 := Lib.hid (Two.snd hb)
  clear hb
  obtain ⟨x1_0, x1_1, x1_z⟩ := X1.out
  obtain ⟨y1_0, y1_1, y1_z⟩ := Y1.out
  go_wp2_with fail
  refine (HM.out _ (ht.out.below A1.out)).mono ?_
  rintro e w2 ⟨rfl, hb⟩
  have A2 := Lib.hid (down A1.out hb)
  have X2 := Lib.hid (X1.out.keep hb)
  have Y2 := Lib.hid (Y1.out.keep hb)
  clear hb A1 X1 Y1 x1_0 x1_1 x1_z y1_0 y1_1 y1_z
  obtain ⟨x2_0, x2_1, x2_z⟩ := X2.out
  obtain ⟨y2_0, y2_1, y2_z⟩ := Y2.out
  go_wp2_with fail
  refine (RM.out _).mono ?_
  rintro e w3 ⟨rfl, hb⟩
  have A3 := Lib.hid (down (grow A2.out _) hb)
  have X3 := Lib.hid ((X2.out.old _).keep hb)
  have Y3 := Lib.hid ((Y2.out.old _).keep hb)
  have M3 := Lib.hid (Two.new hb)
  clear hb A2 X2 Y2 x2_0 x2_1 x2_z y2_0 y2_1 y2_z
  obtain ⟨x3_0, x3_1, x3_z⟩ := X3.out
  obtain ⟨y3_0, y3_1, y3_z⟩ := Y3.out
  obtain ⟨m3_0, m3_1, m3_z⟩ := M3.out
  go_wp2_with fail
  refine (HH.out _ (ht.out.below (grow A3.out _))).mono ?_
  rintro e w4 ⟨rfl, hb⟩
  have A4 := Lib.hid (down (grow A3.out _) hb)
  have X4 := Lib.hid ((X3.out.old _).keep hb)
  have Y4 := Lib.hid ((Y3.out.old _).keep hb)
  have M4 := Lib.hid ((M3.out.old _).keep hb)
  have N4 := Lib.hid (Two.new hb)
  clear hb A3 X3 Y3 M3 x3_0 x3_1 x3_z y3_0 y3_1 y3_z m3_0 m3_1 m3_z
  obtain ⟨x4_0, x4_1, x4_z⟩ := X4.out
  obtain ⟨y4_0, y4_1, y4_z⟩ := Y4.out
  obtain ⟨m4_0, m4_1, m4_z⟩ := M4.out
  obtain ⟨n4_0, n4_1, n4_z⟩ := N4.out
  go_wp2_with fail
  refine (RH.out _).mono ?_
  rintro e w5 ⟨rfl, hb⟩
  have A5 := Lib.hid (down (grow A4.out _) hb)
  have X5 := Lib.hid ((X4.out.old _).keep hb)
  have Y5 := Lib.hid ((Y4.out.old _).keep hb)
  have M5 := Lib.hid ((M4.out.old _).keep hb)
  have N5 := Lib.hid ((N4.out.old _).keep hb)
  have H5 := Lib.hid (Two.new hb)
  clear hb A4 X4 Y4 M4 N4 x4_0 x4_1 x4_z y4_0 y4_1 y4_z m4_0 m4_1 m4_z n4_0 n4_1 n4_z
  obtain ⟨x5_0, x5_1, x5_z⟩ := X5.out
  obtain ⟨y5_0, y5_1, y5_z⟩ := Y5.out
  obtain ⟨m5_0, m5_1, m5_z⟩ := M5.out
  obtain ⟨n5_0, n5_1, n5_z⟩ := N5.out
  obtain ⟨h5_0, h5_1, h5_z⟩ := H5.out
  go_wp2
  obtain ⟨w6, hw6⟩ : ∃ w' : World, (w5.alloc (.cells #[.int .i64 (lf), .int .i64 (lt)] 23)) = w' := ⟨_, rfl⟩
  rw [hw6]
  have hb : Below (w5.alloc (.cells #[.int .i64 (lf), .int .i64 (lt)] 23)).heap.size (w5.alloc (.cells #[.int .i64 (lf), .int .i64 (lt)] 23)) w6 := by rw [hw6]; exact here _
  clear hw6
  have A6 := Lib.hid (down (grow A5.out _) hb)
  have X6 := Lib.hid ((X5.out.old _).keep hb)
  have Y6 := Lib.hid ((Y5.out.old _).keep hb)
  have M6 := Lib.hid ((M5.out.old _).keep hb)
  have N6 := Lib.hid ((N5.out.old _).keep hb)
  have H6 := Lib.hid ((H5.out.old _).keep hb)
  have G6 := Lib.hid (Two.new hb)
  clear hb A5 X5 Y5 M5 N5 H5 x5_0 x5_1 x5_z y5_0 y5_1 y5_z m5_0 m5_1 m5_z n5_0 n5_1 n5_z h5_0 h5_1 h5_z
  obtain ⟨x6_0, x6_1, x6_z⟩ := X6.out
  obtain ⟨y6_0, y6_1, y6_z⟩ := Y6.out
  obtain ⟨m6_0, m6_1, m6_z⟩ := M6.out
  obtain ⟨n6_0, n6_1, n6_z⟩ := N6.out
  obtain ⟨h6_0, h6_1, h6_z⟩ := H6.out
  obtain ⟨g6_0, g6_1, g6_z⟩ := G6.out
  go_wp2
  replace HN := Lib.hid (fun W' (q : Below w6.heap.size w6 W') => HN W' (ht.out.below (down A6.out q)))
  replace RN := Lib.hid (fun W' (q : Below w6.heap.size w6 W') => RN W')
  have mk : ∀ W', Below w6.heap.size w6 W' → Below w6.heap.size w6 W' ∧ W'.cell? ⟨w.heap.size, 0, none⟩ = some (.int .i64 (a)) ∧ W'.cell? ⟨w.heap.size, 1, none⟩ = some (.int .i64 (b)) ∧ W'.cell? ⟨w.heap.size + 1, 0, none⟩ = some (.int .i64 (c)) ∧ W'.cell? ⟨w.heap.size + 1, 1, none⟩ = some (.int .i64 (d)) ∧ W'.cell? ⟨w2.heap.size, 0, none⟩ = some (.int .i64 (mf)) ∧ W'.cell? ⟨w2.heap.size, 1, none⟩ = some (.int .i64 (mt)) ∧ W'.cell? ⟨w3.heap.size, 0, none⟩ = some (.int .i64 (mf)) ∧ W'.cell? ⟨w3.heap.size, 1, none⟩ = some (.int .i64 (mt)) ∧ W'.cell? ⟨w4.heap.size, 0, none⟩ = some (.int .i64 (lf)) ∧ W'.cell? ⟨w4.heap.size, 1, none⟩ = some (.int .i64 (lt)) ∧ W'.cell? ⟨w5.heap.size, 0, none⟩ = some (.int .i64 (lf)) ∧ W'.cell? ⟨w5.heap.size, 1, none⟩ = some (.int .i64 (lt)) := fun W' q => ⟨q, (X6.out.keep q).c0, (X6.out.keep q).c1, (Y6.out.keep q).c0, (Y6.out.keep q).c1, (M6.out.keep q).c0, (M6.out.keep q).c1, (N6.out.keep q).c0, (N6.out.keep q).c1, (H6.out.keep q).c0, (H6.out.keep q).c1, (G6.out.keep q).c0, (G6.out.keep q).c1⟩
  have s6 := mk w6 (here w6)
  go_region_held3 (fun W' => Below w6.heap.size w6 W' ∧ W'.cell? ⟨w.heap.size, 0, none⟩ = some (.int .i64 (a)) ∧ W'.cell? ⟨w.heap.size, 1, none⟩ = some (.int .i64 (b)) ∧ W'.cell? ⟨w.heap.size + 1, 0, none⟩ = some (.int .i64 (c)) ∧ W'.cell? ⟨w.heap.size + 1, 1, none⟩ = some (.int .i64 (d)) ∧ W'.cell? ⟨w2.heap.size, 0, none⟩ = some (.int .i64 (mf)) ∧ W'.cell? ⟨w2.heap.size, 1, none⟩ = some (.int .i64 (mt)) ∧ W'.cell? ⟨w3.heap.size, 0, none⟩ = some (.int .i64 (mf)) ∧ W'.cell? ⟨w3.heap.size, 1, none⟩ = some (.int .i64 (mt)) ∧ W'.cell? ⟨w4.heap.size, 0, none⟩ = some (.int .i64 (lf)) ∧ W'.cell? ⟨w4.heap.size, 1, none⟩ = some (.int .i64 (lt)) ∧ W'.cell? ⟨w5.heap.size, 0, none⟩ = some (.int .i64 (lf)) ∧ W'.cell? ⟨w5.heap.size, 1, none⟩ = some (.int .i64 (lt))) (first | assumption | (exact mk _ (grow (And.left (by assumption)) _)) | (exact mk _ (Below.drew (And.left (by assumption)))) | (exact mk _ (below_drewN (And.left (by assumption)) _)))
    (first
     | (go_at_call 23; (with_reducible refine (HN.out _ (And.left (by assumption))).mono ?_); rintro e w' ⟨⟨vPM, rfl, PM⟩, hb⟩; obtain ⟨oPM, cPM, rfl⟩ := Sl.shape PM; have hS := mk w' (down (And.left (by assumption)) hb))
     | (go_at_call 24; (with_reducible refine (RN.out _ (And.left (by assumption))).mono ?_); rintro e w' ⟨⟨vPN, rfl, PN⟩, hb⟩; replace PM := PM.keep hb; obtain ⟨oPN, cPN, rfl⟩ := Sl.shape PN; have hS := mk w' (down (And.left (by assumption)) hb))
     | (go_at_call 22; (refine (eq_pairs _ _ _ _ hln.out _ PM PN).mono ?_); rintro e w' ⟨rfl, nq, rfl⟩; rw [beq_self_eq_true]))
  all_goals
    go_wp2
    go_ret
    exact ⟨rfl, down A6.out (And.left (by assumption))⟩
end Go.Proofs.YtknlhhjooamfhaaDoor
