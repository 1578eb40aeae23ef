/- The walk of IntervalMoves. -/
import Derived.Test.YtknlhhjooamfhaaDoorIvAwake
import Derived.BigQuiet
import Derived.Deep.QuietTactic
import Derived.Deep.RegionHeld3
import Derived.Deep.Cut
import Derived.Outline
namespace Go.Proofs.YtknlhhjooamfhaaDoor
open Go.RowKit
set_option linter.unusedVariables false

set_option maxRecDepth 100000 in
set_option maxHeartbeats 4000000 in
theorem IntervalMoves.walk (a b c d n : Int) (ha : (Lit.int .i64 a).wf = true) (hb : (Lit.int .i64 b).wf = true) (hc : (Lit.int .i64 c).wf = true) (hd : (Lit.int .i64 d).wf = true) (hn : (Lit.int .i64 n).wf = true) (w : World) (ht : Tabs w) :
    Calls Tryd.prog 9 #[.agg #[.int .i64 a, .int .i64 b], .agg #[.int .i64 c, .int .i64 d], .int .i64 n] w fun e w' => e = .returned (.bool true) ∧ Below w.heap.size w w' := by
  replace ha := i64_wf ha
  replace hb := i64_wf hb
  replace hc := i64_wf hc
  replace hd := i64_wf hd
  replace hn := i64_wf hn
  have AW := Lib.hid (fun w ht => awake_all w ht)
  replace ht := Lib.hid ht
  have H0 := fun w ht => uvmove a b ha hb n hn w ht
  have H1 := fun w ht => uvmove c d hc hd n hn w ht
  by_cases e1 : mvE a b n = 0
  · by_cases e2 : mvE c d n = 0
    · obtain ⟨va, va'⟩ := mvE_ok.1 e1
      obtain ⟨vb, vb'⟩ := mvE_ok.1 e2
      have i1 := ivB_iff.1 va
      have i2 := ivB_iff.1 va'
      have i3 := ivB_iff.1 vb
      have i4 := ivB_iff.1 vb'
      have O1 := fun w ht => uvof (a + n) (b + n) (c + n) (d + n) ⟨by omega, by omega⟩ ⟨by omega, by omega⟩ ⟨by omega, by omega⟩ ⟨by omega, by omega⟩ w ht
      have O2 := fun w ht => uvof a b c d ha hb hc hd w ht
      have L1 := fun w ht => uvlen (a + n) (b + n) ⟨by omega, by omega⟩ ⟨by omega, by omega⟩ w ht
      have L2 := fun w ht => uvlen a b ha hb w ht
      have HB := fun w ht => uvmove (a + n) (b + n) ⟨by omega, by omega⟩ ⟨by omega, by omega⟩ (-n) ⟨by omega, by omega⟩ w ht
      have e3 : mvE (a + n) (b + n) (-n) = 0 := mvE_ok.2 ⟨va', by rw [show a + n + -n = a by omega, show b + n + -n = b by omega]; exact va⟩
      rw [ofV_in va' vb', ofW_move n i1.2.2 i3.2.2] at O1
      rw [ofV_in va vb] at O2
      rw [show lnV (a + n) (b + n) = lnV a b by unfold lnV; rw [va, va']; show b + n - (a + n) = b - a; omega] at L1
      rw [show mvF a b n = a + n by unfold mvF; rw [if_pos e1], show mvT a b n = b + n by unfold mvT; rw [if_pos e1], e1] at H0
      rw [show mvF c d n = c + n by unfold mvF; rw [if_pos e2], show mvT c d n = d + n by unfold mvT; rw [if_pos e2], e2] at H1
      rw [show mvF (a + n) (b + n) (-n) = a by unfold mvF; rw [if_pos e3]; omega, show mvT (a + n) (b + n) (-n) = b by unfold mvT; rw [if_pos e3]; omega, e3] at HB
      have n0 : -8796093022208 ≤ n ∧ n ≤ 8796093022208 := by omega
      obtain ⟨n0, n1⟩ := n0
      generalize ofW a b c d = r at *
      generalize lnV a b = l at *
      generalize a + n = p at *
      generalize b + n = q at *
      generalize c + n = p2 at *
      generalize d + n = q2 at *
      obtain ⟨m, hm⟩ : ∃ m, -n = m := ⟨_, rfl⟩
      rw [hm] at HB
      clear e1 e2 e3 va va' vb vb' i1 i2 i3 i4 ha hb hc hd hn
      replace H0 := Lib.hid H0
      replace H1 := Lib.hid H1
      replace HB := Lib.hid HB
      replace O1 := Lib.hid O1
      replace O2 := Lib.hid O2
      replace L1 := Lib.hid L1
      replace L2 := Lib.hid L2
      go_enter Tryd.func9, Tryd.ntmps9
      go_wp2_with fail
      refine (AW.out _ (ht.out.below (grow (grow (here w) _) _))).mono ?_
      rintro e w1 ⟨rfl, hb⟩
      have A1 := Lib.hid (down (grow (grow (here w) _) _) hb)
      have X1 := Lib.hid (Two.fst hb)
      have Y1 := Lib.hid (Two.snd hb)
      clear hb
      obtain ⟨x1_0, x1_1, x1_z⟩ := X1.out
      obtain ⟨y1_0, y1_1, y1_z⟩ := Y1.out
      go_wp2_with fail
      refine (H0.out _ (ht.out.below A1.out)).mono ?_
      rintro e w2 ⟨rfl, hb⟩
      have A2 := Lib.hid (down A1.out hb)
      have X2 := Lib.hid (X1.out.keep hb)
      have Y2 := Lib.hid (Y1.out.keep hb)
      clear hb A1 X1 Y1 x1_0 x1_1 x1_z y1_0 y1_1 y1_z
      obtain ⟨x2_0, x2_1, x2_z⟩ := X2.out
      obtain ⟨y2_0, y2_1, y2_z⟩ := Y2.out
      go_wp2_with fail
      refine (H1.out _ (ht.out.below (grow A2.out _))).mono ?_
      rintro e w3 ⟨rfl, hb⟩
      have A3 := Lib.hid (down (grow A2.out _) hb)
      have X3 := Lib.hid ((X2.out.old _).keep hb)
      have Y3 := Lib.hid ((Y2.out.old _).keep hb)
      have M3 := Lib.hid (Two.new hb)
      clear hb A2 X2 Y2 x2_0 x2_1 x2_z y2_0 y2_1 y2_z
      obtain ⟨x3_0, x3_1, x3_z⟩ := X3.out
      obtain ⟨y3_0, y3_1, y3_z⟩ := Y3.out
      obtain ⟨m3_0, m3_1, m3_z⟩ := M3.out
      go_wp2_with fail
      refine (HB.out _ (ht.out.below (grow A3.out _))).mono ?_
      rintro e w4 ⟨rfl, hb⟩
      have A4 := Lib.hid (down (grow A3.out _) hb)
      have X4 := Lib.hid ((X3.out.old _).keep hb)
      have Y4 := Lib.hid ((Y3.out.old _).keep hb)
      have M4 := Lib.hid ((M3.out.old _).keep hb)
      have N4 := Lib.hid (Two.new hb)
      clear hb A3 X3 Y3 M3 x3_0 x3_1 x3_z y3_0 y3_1 y3_z m3_0 m3_1 m3_z
      obtain ⟨x4_0, x4_1, x4_z⟩ := X4.out
      obtain ⟨y4_0, y4_1, y4_z⟩ := Y4.out
      obtain ⟨m4_0, m4_1, m4_z⟩ := M4.out
      obtain ⟨n4_0, n4_1, n4_z⟩ := N4.out
      go_wp2
      obtain ⟨w5, hw5⟩ : ∃ w' : World, (w4.alloc (.cells #[.int .i64 (a), .int .i64 (b)] 23)) = w' := ⟨_, rfl⟩
      rw [hw5]
      have hb : Below (w4.alloc (.cells #[.int .i64 (a), .int .i64 (b)] 23)).heap.size (w4.alloc (.cells #[.int .i64 (a), .int .i64 (b)] 23)) w5 := by rw [hw5]; exact here _
      clear hw5
      have A5 := Lib.hid (down (grow A4.out _) hb)
      have X5 := Lib.hid ((X4.out.old _).keep hb)
      have Y5 := Lib.hid ((Y4.out.old _).keep hb)
      have M5 := Lib.hid ((M4.out.old _).keep hb)
      have N5 := Lib.hid ((N4.out.old _).keep hb)
      have K5 := Lib.hid (Two.new hb)
      clear hb A4 X4 Y4 M4 N4 x4_0 x4_1 x4_z y4_0 y4_1 y4_z m4_0 m4_1 m4_z n4_0 n4_1 n4_z
      obtain ⟨x5_0, x5_1, x5_z⟩ := X5.out
      obtain ⟨y5_0, y5_1, y5_z⟩ := Y5.out
      obtain ⟨m5_0, m5_1, m5_z⟩ := M5.out
      obtain ⟨n5_0, n5_1, n5_z⟩ := N5.out
      obtain ⟨k5_0, k5_1, k5_z⟩ := K5.out
      have G1 : Hid (∀ x : Kept w5, _) := fun x => O1.out x.wd (ht.out.below (down A5.out x.ok))
      have G2 : Hid (∀ x : Kept w5, _) := fun x => O2.out x.wd (ht.out.below (down A5.out x.ok))
      have G3 : Hid (∀ x : Kept w5, _) := fun x => L1.out x.wd (ht.out.below (down A5.out x.ok))
      have G4 : Hid (∀ x : Kept w5, _) := fun x => L2.out x.wd (ht.out.below (down A5.out x.ok))
      have kx0 : ∀ x : Kept w5, x.wd.cell? ⟨w.heap.size, 0, none⟩ = some (.int .i64 (a)) := fun x => (X5.out.keep x.ok).c0
      have kx1 : ∀ x : Kept w5, x.wd.cell? ⟨w.heap.size, 1, none⟩ = some (.int .i64 (b)) := fun x => (X5.out.keep x.ok).c1
      have ky0 : ∀ x : Kept w5, x.wd.cell? ⟨w.heap.size + 1, 0, none⟩ = some (.int .i64 (c)) := fun x => (Y5.out.keep x.ok).c0
      have ky1 : ∀ x : Kept w5, x.wd.cell? ⟨w.heap.size + 1, 1, none⟩ = some (.int .i64 (d)) := fun x => (Y5.out.keep x.ok).c1
      have km0 : ∀ x : Kept w5, x.wd.cell? ⟨w2.heap.size, 0, none⟩ = some (.int .i64 (p)) := fun x => (M5.out.keep x.ok).c0
      have km1 : ∀ x : Kept w5, x.wd.cell? ⟨w2.heap.size, 1, none⟩ = some (.int .i64 (q)) := fun x => (M5.out.keep x.ok).c1
      have kn0 : ∀ x : Kept w5, x.wd.cell? ⟨w3.heap.size, 0, none⟩ = some (.int .i64 (p2)) := fun x => (N5.out.keep x.ok).c0
      have kn1 : ∀ x : Kept w5, x.wd.cell? ⟨w3.heap.size, 1, none⟩ = some (.int .i64 (q2)) := fun x => (N5.out.keep x.ok).c1
      have kk0 : ∀ x : Kept w5, x.wd.cell? ⟨w4.heap.size, 0, none⟩ = some (.int .i64 (a)) := fun x => (K5.out.keep x.ok).c0
      have kk1 : ∀ x : Kept w5, x.wd.cell? ⟨w4.heap.size, 1, none⟩ = some (.int .i64 (b)) := fun x => (K5.out.keep x.ok).c1
      refine wp_region_kept (by kernel_rfl) (by kernel_rfl) ?_
      repeat (go_big_quiet_step (first
        | (go_at_call 12; with_reducible exact kept_call _ (G1.out _))
        | (go_at_call 12; with_reducible exact kept_call _ (G2.out _))
        | (go_at_call 30; with_reducible exact kept_call _ (G3.out _))
        | (go_at_call 30; with_reducible exact kept_call _ (G4.out _))))
      refine wpQuiet_nil ?_
      intro w6 hx
      obtain ⟨⟨xx, hb⟩, hw⟩ := hx
      replace hw : w6 = xx := hw
      subst xx
      clear kx0 kx1 ky0 ky1 km0 km1 kn0 kn1 kk0 kk1
      have A6 := Lib.hid (down A5.out hb)
      have X6 := Lib.hid (X5.out.keep hb)
      have Y6 := Lib.hid (Y5.out.keep hb)
      have M6 := Lib.hid (M5.out.keep hb)
      have N6 := Lib.hid (N5.out.keep hb)
      have K6 := Lib.hid (K5.out.keep hb)
      clear hb A5 X5 Y5 M5 N5 K5 x5_0 x5_1 x5_z y5_0 y5_1 y5_z m5_0 m5_1 m5_z n5_0 n5_1 n5_z k5_0 k5_1 k5_z
      obtain ⟨x6_0, x6_1, x6_z⟩ := X6.out
      obtain ⟨y6_0, y6_1, y6_z⟩ := Y6.out
      obtain ⟨m6_0, m6_1, m6_z⟩ := M6.out
      obtain ⟨n6_0, n6_1, n6_z⟩ := N6.out
      obtain ⟨k6_0, k6_1, k6_z⟩ := K6.out
      go_wp2
      go_ret
      exact ⟨rfl, by first | exact A6.out | exact grow A6.out _ | exact below_drewN A6.out _ | exact grow (grow A6.out _) _ | exact grow (grow (grow A6.out _) _) _⟩
    · have k0 : (mvE a b n != 0) = false := by simpa using e1
      have k1 : (mvE c d n != 0) = true := by simpa using e2
      generalize mvE a b n = x1 at *
      generalize mvE c d n = x2 at *
      generalize mvF a b n = p at *
      generalize mvT a b n = q at *
      generalize mvF c d n = p2 at *
      generalize mvT c d n = q2 at *
      clear e1 e2 ha hb hc hd hn
      replace H0 := Lib.hid H0
      replace H1 := Lib.hid H1
      go_enter Tryd.func9, Tryd.ntmps9
      go_wp2_with fail
      refine (AW.out _ (ht.out.below (grow (grow (here w) _) _))).mono ?_
      rintro e w1 ⟨rfl, hb⟩
      have A1 := Lib.hid (down (grow (grow (here w) _) _) hb)
      have X1 := Lib.hid (Two.fst hb)
      have Y1 := Lib.hid (Two.snd hb)
      clear hb
      obtain ⟨x1_0, x1_1, x1_z⟩ := X1.out
      obtain ⟨y1_0, y1_1, y1_z⟩ := Y1.out
      go_wp2_with fail
      refine (H0.out _ (ht.out.below A1.out)).mono ?_
      rintro e w2 ⟨rfl, hb⟩
      have A2 := Lib.hid (down A1.out hb)
      have X2 := Lib.hid (X1.out.keep hb)
      have Y2 := Lib.hid (Y1.out.keep hb)
      clear hb A1 X1 Y1 x1_0 x1_1 x1_z y1_0 y1_1 y1_z
      obtain ⟨x2_0, x2_1, x2_z⟩ := X2.out
      obtain ⟨y2_0, y2_1, y2_z⟩ := Y2.out
      go_wp2_with fail
      refine (H1.out _ (ht.out.below (grow A2.out _))).mono ?_
      rintro e w3 ⟨rfl, hb⟩
      have A3 := Lib.hid (down (grow A2.out _) hb)
      have X3 := Lib.hid ((X2.out.old _).keep hb)
      have Y3 := Lib.hid ((Y2.out.old _).keep hb)
      have M3 := Lib.hid (Two.new hb)
      clear hb A2 X2 Y2 x2_0 x2_1 x2_z y2_0 y2_1 y2_z
      obtain ⟨x3_0, x3_1, x3_z⟩ := X3.out
      obtain ⟨y3_0, y3_1, y3_z⟩ := Y3.out
      obtain ⟨m3_0, m3_1, m3_z⟩ := M3.out
      go_wp2
      go_ret
      exact ⟨rfl, by first | exact A3.out | exact grow A3.out _ | exact below_drewN A3.out _ | exact grow (grow A3.out _) _ | exact grow (grow (grow A3.out _) _) _⟩
  · have k0 : (mvE a b n != 0) = true := by simpa using e1
    generalize mvE a b n = x1 at *
    generalize mvE c d n = x2 at *
    generalize mvF a b n = p at *
    generalize mvT a b n = q at *
    generalize mvF c d n = p2 at *
    generalize mvT c d n = q2 at *
    clear e1 ha hb hc hd hn
    replace H0 := Lib.hid H0
    replace H1 := Lib.hid H1
    go_enter Tryd.func9, Tryd.ntmps9
    go_wp2_with fail
    refine (AW.out _ (ht.out.below (grow (grow (here w) _) _))).mono ?_
    rintro e w1 ⟨rfl, hb⟩
    have A1 := Lib.hid (down (grow (grow (here w) _) _) hb)
    have X1 := Lib.hid (Two.fst hb)
    have Y1 := Lib.hid (Two.snd hb)
    clear hb
    obtain ⟨x1_0, x1_1, x1_z⟩ := X1.out
    obtain ⟨y1_0, y1_1, y1_z⟩ := Y1.out
    go_wp2_with fail
    refine (H0.out _ (ht.out.below A1.out)).mono ?_
    rintro e w2 ⟨rfl, hb⟩
    have A2 := Lib.hid (down A1.out hb)
    have X2 := Lib.hid (X1.out.keep hb)
    have Y2 := Lib.hid (Y1.out.keep hb)
    clear hb A1 X1 Y1 x1_0 x1_1 x1_z y1_0 y1_1 y1_z
    obtain ⟨x2_0, x2_1, x2_z⟩ := X2.out
    obtain ⟨y2_0, y2_1, y2_z⟩ := Y2.out
    go_wp2_with fail
    refine (H1.out _ (ht.out.below (grow A2.out _))).mono ?_
    rintro e w3 ⟨rfl, hb⟩
    have A3 := Lib.hid (down (grow A2.out _) hb)
    have X3 := Lib.hid ((X2.out.old _).keep hb)
    have Y3 := Lib.hid ((Y2.out.old _).keep hb)
    have M3 := Lib.hid (Two.new hb)
    clear hb A2 X2 Y2 x2_0 x2_1 x2_z y2_0 y2_1 y2_z
    obtain ⟨x3_0, x3_1, x3_z⟩ := X3.out
    obtain ⟨y3_0, y3_1, y3_z⟩ := Y3.out
    obtain ⟨m3_0, m3_1, m3_z⟩ := M3.out
    go_wp2
    go_ret
    exact ⟨rfl, by first | exact A3.out | exact grow A3.out _ | exact below_drewN A3.out _ | exact grow (grow A3.out _) _ | exact grow (grow (grow A3.out _) _) _⟩
end Go.Proofs.YtknlhhjooamfhaaDoor
