/- The walk of AllenSound. -/
import Derived.Test.YtiaidmjhgfaobaaDoorAlAwakes
import Derived.Test.YtiaidmjhgfaobaaDoorAlSnd
import Derived.Test.YtiaidmjhgfaobaaDoorAlTab
import Derived.BigQuiet
import Derived.Deep.QuietTactic
import Derived.Deep.RegionHeld3
import Derived.Deep.Cut
import Derived.Outline
namespace Go.Proofs.YtiaidmjhgfaobaaDoor
open Go.RowKit
set_option linter.unusedVariables false

set_option maxRecDepth 100000 in
set_option maxHeartbeats 4000000 in
theorem AllenSound.walk (a b c d e g : Int) (ha : (Lit.int .i64 a).wf = true) (hb : (Lit.int .i64 b).wf = true) (hc : (Lit.int .i64 c).wf = true) (hd : (Lit.int .i64 d).wf = true) (he : (Lit.int .i64 e).wf = true) (hg : (Lit.int .i64 g).wf = true) (w : World) (ht : Tabs w) :
    Calls Tryd.prog 8 #[.agg #[.int .i64 a, .int .i64 b], .agg #[.int .i64 c, .int .i64 d], .agg #[.int .i64 e, .int .i64 g]] w fun e w' => e = .returned (.bool true) ∧ Below w.heap.size w w' := by
  replace ha := i64_wf ha
  replace hb := i64_wf hb
  replace hc := i64_wf hc
  replace hd := i64_wf hd
  replace he := i64_wf he
  replace hg := i64_wf hg
  have O1 := fun w ht => iuof a b c d ha hb hc hd w ht
  have O2 := fun w ht => iuof c d e g hc hd he hg w ht
  have O3 := fun w ht => iuof a b e g ha hb he hg w ht
  have V1 := fun w => iuvalid a b ha hb w
  have V2 := fun w => iuvalid c d hc hd w
  have V3 := fun w => iuvalid e g he hg w
  have AW := Lib.hid (fun w ht => awake_all w ht)
  replace ht := Lib.hid ht
  cases va : ivB a b
  · rw [ofV_out (by rw [va]; rfl)] at O1 O3
    rw [va] at V1
    generalize ofV c d e g = y at *
    clear V2 V3 va ha hb hc hd he hg
    replace O1 := Lib.hid O1
    replace O2 := Lib.hid O2
    replace O3 := Lib.hid O3
    replace V1 := Lib.hid V1
    go_enter Tryd.func8, Tryd.ntmps8
    go_wp2_with fail
    refine (AW.out _ (ht.out.below (grow (grow (grow (here w) _) _) _))).mono ?_
    rintro e w1 ⟨rfl, hb⟩
    have A1 := Lib.hid (down (grow (grow (grow (here w) _) _) _) hb)
    have X1 := Lib.hid (Two.fst3 hb)
    have Y1 := Lib.hid (Two.snd3 hb)
    have Z1 := Lib.hid (Two.trd3 hb)
    clear hb
    obtain ⟨x1_0, x1_1, x1_z⟩ := X1.out
    obtain ⟨y1_0, y1_1, y1_z⟩ := Y1.out
    obtain ⟨z1_0, z1_1, z1_z⟩ := Z1.out
    go_wp2
    obtain ⟨w2, hw2⟩ : ∃ w' : World, w1 = w' := ⟨_, rfl⟩
    rw [hw2]
    have hb : Below w1.heap.size w1 w2 := by rw [hw2]; exact here _
    clear hw2
    have A2 := Lib.hid (down A1.out hb)
    have X2 := Lib.hid (X1.out.keep hb)
    have Y2 := Lib.hid (Y1.out.keep hb)
    have Z2 := Lib.hid (Z1.out.keep hb)
    clear hb A1 X1 Y1 Z1 x1_0 x1_1 x1_z y1_0 y1_1 y1_z z1_0 z1_1 z1_z
    obtain ⟨x2_0, x2_1, x2_z⟩ := X2.out
    obtain ⟨y2_0, y2_1, y2_z⟩ := Y2.out
    obtain ⟨z2_0, z2_1, z2_z⟩ := Z2.out
    have G0 : Hid (∀ x : Kept w2, _) := fun x => O1.out x.wd (ht.out.below (down A2.out x.ok)).sh
    have G1 : Hid (∀ x : Kept w2, _) := fun x => O2.out x.wd (ht.out.below (down A2.out x.ok)).sh
    have G2 : Hid (∀ x : Kept w2, _) := fun x => O3.out x.wd (ht.out.below (down A2.out x.ok)).sh
    have kx0 : ∀ x : Kept w2, x.wd.cell? ⟨w.heap.size, 0, none⟩ = some (.int .i64 (a)) := fun x => (X2.out.keep x.ok).c0
    have kx1 : ∀ x : Kept w2, x.wd.cell? ⟨w.heap.size, 1, none⟩ = some (.int .i64 (b)) := fun x => (X2.out.keep x.ok).c1
    have ky0 : ∀ x : Kept w2, x.wd.cell? ⟨w.heap.size + 1, 0, none⟩ = some (.int .i64 (c)) := fun x => (Y2.out.keep x.ok).c0
    have ky1 : ∀ x : Kept w2, x.wd.cell? ⟨w.heap.size + 1, 1, none⟩ = some (.int .i64 (d)) := fun x => (Y2.out.keep x.ok).c1
    have kz0 : ∀ x : Kept w2, x.wd.cell? ⟨w.heap.size + 2, 0, none⟩ = some (.int .i64 (e)) := fun x => (Z2.out.keep x.ok).c0
    have kz1 : ∀ x : Kept w2, x.wd.cell? ⟨w.heap.size + 2, 1, none⟩ = some (.int .i64 (g)) := fun x => (Z2.out.keep x.ok).c1
    refine wp_region_kept (by kernel_rfl) (by kernel_rfl) ?_
    repeat (go_big_quiet_step (first
      | (go_at_call 34; with_reducible exact kept_call _ (G0.out _))
      | (go_at_call 34; with_reducible exact kept_call _ (G1.out _))
      | (go_at_call 34; with_reducible exact kept_call _ (G2.out _))))
    refine wpQuiet_nil ?_
    intro w3 hx
    obtain ⟨⟨xx, hb⟩, hw⟩ := hx
    replace hw : w3 = xx := hw
    subst xx
    clear kx0 kx1 ky0 ky1 kz0 kz1
    have A3 := Lib.hid (down A2.out hb)
    have X3 := Lib.hid (X2.out.keep hb)
    have Y3 := Lib.hid (Y2.out.keep hb)
    have Z3 := Lib.hid (Z2.out.keep hb)
    clear hb A2 X2 Y2 Z2 x2_0 x2_1 x2_z y2_0 y2_1 y2_z z2_0 z2_1 z2_z
    obtain ⟨x3_0, x3_1, x3_z⟩ := X3.out
    obtain ⟨y3_0, y3_1, y3_z⟩ := Y3.out
    obtain ⟨z3_0, z3_1, z3_z⟩ := Z3.out
    go_wp2_with fail
    refine (V1.out _).mono ?_
    rintro e w4 ⟨rfl, hb⟩
    have A4 := Lib.hid (down A3.out hb)
    have X4 := Lib.hid (X3.out.keep hb)
    have Y4 := Lib.hid (Y3.out.keep hb)
    have Z4 := Lib.hid (Z3.out.keep hb)
    clear hb A3 X3 Y3 Z3 x3_0 x3_1 x3_z y3_0 y3_1 y3_z z3_0 z3_1 z3_z
    obtain ⟨x4_0, x4_1, x4_z⟩ := X4.out
    obtain ⟨y4_0, y4_1, y4_z⟩ := Y4.out
    obtain ⟨z4_0, z4_1, z4_z⟩ := Z4.out
    go_wp2
    go_ret
    exact ⟨rfl, by first | exact A4.out | exact grow A4.out _ | exact below_drewN A4.out _ | exact grow (grow A4.out _) _ | exact grow (grow (grow A4.out _) _) _⟩
  · cases vb : ivB c d
    · rw [ofV_out (by rw [vb, Bool.and_false])] at O1
      rw [ofV_out (by rw [vb]; rfl)] at O2
      rw [va] at V1
      rw [vb] at V2
      generalize ofV a b e g = y at *
      clear V3 va vb ha hb hc hd he hg
      replace O1 := Lib.hid O1
      replace O2 := Lib.hid O2
      replace O3 := Lib.hid O3
      replace V1 := Lib.hid V1
      replace V2 := Lib.hid V2
      go_enter Tryd.func8, Tryd.ntmps8
      go_wp2_with fail
      refine (AW.out _ (ht.out.below (grow (grow (grow (here w) _) _) _))).mono ?_
      rintro e w1 ⟨rfl, hb⟩
      have A1 := Lib.hid (down (grow (grow (grow (here w) _) _) _) hb)
      have X1 := Lib.hid (Two.fst3 hb)
      have Y1 := Lib.hid (Two.snd3 hb)
      have Z1 := Lib.hid (Two.trd3 hb)
      clear hb
      obtain ⟨x1_0, x1_1, x1_z⟩ := X1.out
      obtain ⟨y1_0, y1_1, y1_z⟩ := Y1.out
      obtain ⟨z1_0, z1_1, z1_z⟩ := Z1.out
      go_wp2
      obtain ⟨w2, hw2⟩ : ∃ w' : World, w1 = w' := ⟨_, rfl⟩
      rw [hw2]
      have hb : Below w1.heap.size w1 w2 := by rw [hw2]; exact here _
      clear hw2
      have A2 := Lib.hid (down A1.out hb)
      have X2 := Lib.hid (X1.out.keep hb)
      have Y2 := Lib.hid (Y1.out.keep hb)
      have Z2 := Lib.hid (Z1.out.keep hb)
      clear hb A1 X1 Y1 Z1 x1_0 x1_1 x1_z y1_0 y1_1 y1_z z1_0 z1_1 z1_z
      obtain ⟨x2_0, x2_1, x2_z⟩ := X2.out
      obtain ⟨y2_0, y2_1, y2_z⟩ := Y2.out
      obtain ⟨z2_0, z2_1, z2_z⟩ := Z2.out
      have G0 : Hid (∀ x : Kept w2, _) := fun x => O1.out x.wd (ht.out.below (down A2.out x.ok)).sh
      have G1 : Hid (∀ x : Kept w2, _) := fun x => O2.out x.wd (ht.out.below (down A2.out x.ok)).sh
      have G2 : Hid (∀ x : Kept w2, _) := fun x => O3.out x.wd (ht.out.below (down A2.out x.ok)).sh
      have kx0 : ∀ x : Kept w2, x.wd.cell? ⟨w.heap.size, 0, none⟩ = some (.int .i64 (a)) := fun x => (X2.out.keep x.ok).c0
      have kx1 : ∀ x : Kept w2, x.wd.cell? ⟨w.heap.size, 1, none⟩ = some (.int .i64 (b)) := fun x => (X2.out.keep x.ok).c1
      have ky0 : ∀ x : Kept w2, x.wd.cell? ⟨w.heap.size + 1, 0, none⟩ = some (.int .i64 (c)) := fun x => (Y2.out.keep x.ok).c0
      have ky1 : ∀ x : Kept w2, x.wd.cell? ⟨w.heap.size + 1, 1, none⟩ = some (.int .i64 (d)) := fun x => (Y2.out.keep x.ok).c1
      have kz0 : ∀ x : Kept w2, x.wd.cell? ⟨w.heap.size + 2, 0, none⟩ = some (.int .i64 (e)) := fun x => (Z2.out.keep x.ok).c0
      have kz1 : ∀ x : Kept w2, x.wd.cell? ⟨w.heap.size + 2, 1, none⟩ = some (.int .i64 (g)) := fun x => (Z2.out.keep x.ok).c1
      refine wp_region_kept (by kernel_rfl) (by kernel_rfl) ?_
      repeat (go_big_quiet_step (first
        | (go_at_call 34; with_reducible exact kept_call _ (G0.out _))
        | (go_at_call 34; with_reducible exact kept_call _ (G1.out _))
        | (go_at_call 34; with_reducible exact kept_call _ (G2.out _))))
      refine wpQuiet_nil ?_
      intro w3 hx
      obtain ⟨⟨xx, hb⟩, hw⟩ := hx
      replace hw : w3 = xx := hw
      subst xx
      clear kx0 kx1 ky0 ky1 kz0 kz1
      have A3 := Lib.hid (down A2.out hb)
      have X3 := Lib.hid (X2.out.keep hb)
      have Y3 := Lib.hid (Y2.out.keep hb)
      have Z3 := Lib.hid (Z2.out.keep hb)
      clear hb A2 X2 Y2 Z2 x2_0 x2_1 x2_z y2_0 y2_1 y2_z z2_0 z2_1 z2_z
      obtain ⟨x3_0, x3_1, x3_z⟩ := X3.out
      obtain ⟨y3_0, y3_1, y3_z⟩ := Y3.out
      obtain ⟨z3_0, z3_1, z3_z⟩ := Z3.out
      go_wp2_with fail
      refine (V1.out _).mono ?_
      rintro e w4 ⟨rfl, hb⟩
      have A4 := Lib.hid (down A3.out hb)
      have X4 := Lib.hid (X3.out.keep hb)
      have Y4 := Lib.hid (Y3.out.keep hb)
      have Z4 := Lib.hid (Z3.out.keep hb)
      clear hb A3 X3 Y3 Z3 x3_0 x3_1 x3_z y3_0 y3_1 y3_z z3_0 z3_1 z3_z
      obtain ⟨x4_0, x4_1, x4_z⟩ := X4.out
      obtain ⟨y4_0, y4_1, y4_z⟩ := Y4.out
      obtain ⟨z4_0, z4_1, z4_z⟩ := Z4.out
      go_wp2_with fail
      refine (V2.out _).mono ?_
      rintro e w5 ⟨rfl, hb⟩
      have A5 := Lib.hid (down A4.out hb)
      have X5 := Lib.hid (X4.out.keep hb)
      have Y5 := Lib.hid (Y4.out.keep hb)
      have Z5 := Lib.hid (Z4.out.keep hb)
      clear hb A4 X4 Y4 Z4 x4_0 x4_1 x4_z y4_0 y4_1 y4_z z4_0 z4_1 z4_z
      obtain ⟨x5_0, x5_1, x5_z⟩ := X5.out
      obtain ⟨y5_0, y5_1, y5_z⟩ := Y5.out
      obtain ⟨z5_0, z5_1, z5_z⟩ := Z5.out
      go_wp2
      go_ret
      exact ⟨rfl, by first | exact A5.out | exact grow A5.out _ | exact below_drewN A5.out _ | exact grow (grow A5.out _) _ | exact grow (grow (grow A5.out _) _) _⟩
    · cases vc : ivB e g
      · have bd := ofV_bd a b c d
        rw [ofV_out (by rw [vc, Bool.and_false])] at O2 O3
        rw [va] at V1
        rw [vb] at V2
        rw [vc] at V3
        generalize ofV a b c d = y at *
        have k0 : (decide (y < 0) || true) = true := Bool.or_true _
        clear va vb vc ha hb hc hd he hg
        cases k1 : decide (y < 0)
        all_goals
          replace O1 := Lib.hid O1
          replace O2 := Lib.hid O2
          replace O3 := Lib.hid O3
          replace V1 := Lib.hid V1
          replace V2 := Lib.hid V2
          replace V3 := Lib.hid V3
          go_enter Tryd.func8, Tryd.ntmps8
          go_wp2_with fail
          refine (AW.out _ (ht.out.below (grow (grow (grow (here w) _) _) _))).mono ?_
          rintro e w1 ⟨rfl, hb⟩
          have A1 := Lib.hid (down (grow (grow (grow (here w) _) _) _) hb)
          have X1 := Lib.hid (Two.fst3 hb)
          have Y1 := Lib.hid (Two.snd3 hb)
          have Z1 := Lib.hid (Two.trd3 hb)
          clear hb
          obtain ⟨x1_0, x1_1, x1_z⟩ := X1.out
          obtain ⟨y1_0, y1_1, y1_z⟩ := Y1.out
          obtain ⟨z1_0, z1_1, z1_z⟩ := Z1.out
          go_wp2
          obtain ⟨w2, hw2⟩ : ∃ w' : World, w1 = w' := ⟨_, rfl⟩
          rw [hw2]
          have hb : Below w1.heap.size w1 w2 := by rw [hw2]; exact here _
          clear hw2
          have A2 := Lib.hid (down A1.out hb)
          have X2 := Lib.hid (X1.out.keep hb)
          have Y2 := Lib.hid (Y1.out.keep hb)
          have Z2 := Lib.hid (Z1.out.keep hb)
          clear hb A1 X1 Y1 Z1 x1_0 x1_1 x1_z y1_0 y1_1 y1_z z1_0 z1_1 z1_z
          obtain ⟨x2_0, x2_1, x2_z⟩ := X2.out
          obtain ⟨y2_0, y2_1, y2_z⟩ := Y2.out
          obtain ⟨z2_0, z2_1, z2_z⟩ := Z2.out
          have G0 : Hid (∀ x : Kept w2, _) := fun x => O1.out x.wd (ht.out.below (down A2.out x.ok)).sh
          have G1 : Hid (∀ x : Kept w2, _) := fun x => O2.out x.wd (ht.out.below (down A2.out x.ok)).sh
          have G2 : Hid (∀ x : Kept w2, _) := fun x => O3.out x.wd (ht.out.below (down A2.out x.ok)).sh
          have kx0 : ∀ x : Kept w2, x.wd.cell? ⟨w.heap.size, 0, none⟩ = some (.int .i64 (a)) := fun x => (X2.out.keep x.ok).c0
          have kx1 : ∀ x : Kept w2, x.wd.cell? ⟨w.heap.size, 1, none⟩ = some (.int .i64 (b)) := fun x => (X2.out.keep x.ok).c1
          have ky0 : ∀ x : Kept w2, x.wd.cell? ⟨w.heap.size + 1, 0, none⟩ = some (.int .i64 (c)) := fun x => (Y2.out.keep x.ok).c0
          have ky1 : ∀ x : Kept w2, x.wd.cell? ⟨w.heap.size + 1, 1, none⟩ = some (.int .i64 (d)) := fun x => (Y2.out.keep x.ok).c1
          have kz0 : ∀ x : Kept w2, x.wd.cell? ⟨w.heap.size + 2, 0, none⟩ = some (.int .i64 (e)) := fun x => (Z2.out.keep x.ok).c0
          have kz1 : ∀ x : Kept w2, x.wd.cell? ⟨w.heap.size + 2, 1, none⟩ = some (.int .i64 (g)) := fun x => (Z2.out.keep x.ok).c1
          refine wp_region_kept (by kernel_rfl) (by kernel_rfl) ?_
          repeat (go_big_quiet_step (first
            | (go_at_call 34; with_reducible exact kept_call _ (G0.out _))
            | (go_at_call 34; with_reducible exact kept_call _ (G1.out _))
            | (go_at_call 34; with_reducible exact kept_call _ (G2.out _))))
          refine wpQuiet_nil ?_
          intro w3 hx
          obtain ⟨⟨xx, hb⟩, hw⟩ := hx
          replace hw : w3 = xx := hw
          subst xx
          clear kx0 kx1 ky0 ky1 kz0 kz1
          have A3 := Lib.hid (down A2.out hb)
          have X3 := Lib.hid (X2.out.keep hb)
          have Y3 := Lib.hid (Y2.out.keep hb)
          have Z3 := Lib.hid (Z2.out.keep hb)
          clear hb A2 X2 Y2 Z2 x2_0 x2_1 x2_z y2_0 y2_1 y2_z z2_0 z2_1 z2_z
          obtain ⟨x3_0, x3_1, x3_z⟩ := X3.out
          obtain ⟨y3_0, y3_1, y3_z⟩ := Y3.out
          obtain ⟨z3_0, z3_1, z3_z⟩ := Z3.out
          go_wp2_with fail
          refine (V1.out _).mono ?_
          rintro e w4 ⟨rfl, hb⟩
          have A4 := Lib.hid (down A3.out hb)
          have X4 := Lib.hid (X3.out.keep hb)
          have Y4 := Lib.hid (Y3.out.keep hb)
          have Z4 := Lib.hid (Z3.out.keep hb)
          clear hb A3 X3 Y3 Z3 x3_0 x3_1 x3_z y3_0 y3_1 y3_z z3_0 z3_1 z3_z
          obtain ⟨x4_0, x4_1, x4_z⟩ := X4.out
          obtain ⟨y4_0, y4_1, y4_z⟩ := Y4.out
          obtain ⟨z4_0, z4_1, z4_z⟩ := Z4.out
          go_wp2_with fail
          refine (V2.out _).mono ?_
          rintro e w5 ⟨rfl, hb⟩
          have A5 := Lib.hid (down A4.out hb)
          have X5 := Lib.hid (X4.out.keep hb)
          have Y5 := Lib.hid (Y4.out.keep hb)
          have Z5 := Lib.hid (Z4.out.keep hb)
          clear hb A4 X4 Y4 Z4 x4_0 x4_1 x4_z y4_0 y4_1 y4_z z4_0 z4_1 z4_z
          obtain ⟨x5_0, x5_1, x5_z⟩ := X5.out
          obtain ⟨y5_0, y5_1, y5_z⟩ := Y5.out
          obtain ⟨z5_0, z5_1, z5_z⟩ := Z5.out
          go_wp2_with fail
          refine (V3.out _).mono ?_
          rintro e w6 ⟨rfl, hb⟩
          have A6 := Lib.hid (down A5.out hb)
          have X6 := Lib.hid (X5.out.keep hb)
          have Y6 := Lib.hid (Y5.out.keep hb)
          have Z6 := Lib.hid (Z5.out.keep hb)
          clear hb A5 X5 Y5 Z5 x5_0 x5_1 x5_z y5_0 y5_1 y5_z z5_0 z5_1 z5_z
          obtain ⟨x6_0, x6_1, x6_z⟩ := X6.out
          obtain ⟨y6_0, y6_1, y6_z⟩ := Y6.out
          obtain ⟨z6_0, z6_1, z6_z⟩ := Z6.out
          go_wp2
          go_ret
          exact ⟨rfl, by first | exact A6.out | exact grow A6.out _ | exact below_drewN A6.out _ | exact grow (grow A6.out _) _ | exact grow (grow (grow A6.out _) _) _⟩
      · have p := ivB_iff.1 va
        have q := ivB_iff.1 vb
        have r := ivB_iff.1 vc
        rw [ofV_in va vb] at O1
        rw [ofV_in vb vc] at O2
        rw [ofV_in va vc] at O3
        have b1 := ofW_bd p.2.2 q.2.2
        have b2 := ofW_bd q.2.2 r.2.2
        have b3 := ofW_bd p.2.2 r.2.2
        have i1 := ofW_inv p.2.2 r.2.2
        obtain ⟨x, hx⟩ : ∃ x : Nat, ofW a b c d = x := ⟨(ofW a b c d).toNat, by omega⟩
        obtain ⟨y, hy⟩ : ∃ y : Nat, ofW c d e g = y := ⟨(ofW c d e g).toNat, by omega⟩
        obtain ⟨z, hz⟩ : ∃ z : Nat, ofW a b e g = z := ⟨(ofW a b e g).toNat, by omega⟩
        have x12 : x ≤ 12 := by omega
        have y12 : y ≤ 12 := by omega
        have z12 : z ≤ 12 := by omega
        have px := pow_lt x12
        have py := pow_lt y12
        have sd := cm_sound p.2.2 q.2.2 r.2.2 (A := 2 ^ x) (B := 2 ^ y) (by rw [hx]; rw [bit_pow]; simp) (by rw [hy]; rw [bit_pow]; simp)
        rw [hz] at sd
        replace sd : (cmI (2 ^ x) (2 ^ y) 15).testBit z = true := sd
        have lS := cmI_lt (2 ^ x) (2 ^ y) 15 (Nat.le_refl _)
        have is (n : Nat) (h : n < 8192) : isS (n : Int) = true := isS_iff.2 (by omega)
        have HB := fun w ht => uabasic x y ⟨by omega, by omega⟩ ⟨by omega, by omega⟩ w ht
        rw [show baS (x : Int) (y : Int) = (cmI (2 ^ x) (2 ^ y) 15 : Int) by rw [baS_yes x12 y12]; unfold cmS; rw [is _ px, is _ py]; rfl] at HB
        generalize cmI (2 ^ x) (2 ^ y) 15 = S at *
        have HI := fun w ht => uainv S ⟨by omega, by omega⟩ w ht
        rw [show ivS (S : Int) = (ivK S 13 : Int) by unfold ivS; rw [is _ lS]; rfl] at HI
        have lN := ivK_lt S 13
        have H1 := fun w ht => uaholds S a b e g ⟨by omega, by omega⟩ ha hb he hg w ht
        rw [show hoB (S : Int) a b e g = true by unfold hoB; rw [is _ lS, va, vc, hz]; exact sd] at H1
        have H2 := fun w ht => uaholds (ivK S 13 : Nat) e g a b ⟨by omega, by omega⟩ he hg ha hb w ht
        rw [show hoB (ivK S 13 : Nat) e g a b = true by unfold hoB; rw [is _ lN, va, vc, i1, hz]; show (ivK S 13).testBit (12 - (z : Int)).toNat = true; rw [show (12 - (z : Int)).toNat = 12 - z by omega, inv_bit (by omega), show 12 - (12 - z) = z by omega]; exact sd] at H2
        have mx : (2 ^ x : Nat).testBit x = true := by rw [bit_pow]; simp
        have k1 := al_pow x12
        obtain ⟨M, hM⟩ : ∃ M : Nat, 2 ^ x = M := ⟨_, rfl⟩
        rw [hM] at mx k1 px
        have H3 := fun w ht => uaholds M a b c d ⟨by omega, by omega⟩ ha hb hc hd w ht
        rw [show hoB (M : Nat) a b c d = true by unfold hoB; rw [is _ px, va, vb, hx]; exact mx] at H3
        have k0 := al_has S z lS
        rw [sd] at k0
        rw [hx] at O1
        rw [hy] at O2
        rw [hz] at O3
        generalize ivK S 13 = N at *
        have n0 : decide ((x : Int) < 0) = false := decide_eq_false (by omega)
        have n1 : decide ((y : Int) < 0) = false := decide_eq_false (by omega)
        have n2 : decide ((z : Int) < 0) = false := decide_eq_false (by omega)
        clear sd is p q r b1 b2 b3 i1 hx hy hz va vb vc V1 V2 V3 ha hb hc hd he hg hM py mx
        replace O1 := Lib.hid O1
        replace O2 := Lib.hid O2
        replace O3 := Lib.hid O3
        replace HB := Lib.hid HB
        replace HI := Lib.hid HI
        replace H1 := Lib.hid H1
        replace H2 := Lib.hid H2
        replace H3 := Lib.hid H3
        go_enter Tryd.func8, Tryd.ntmps8
        go_wp2_with fail
        refine (AW.out _ (ht.out.below (grow (grow (grow (here w) _) _) _))).mono ?_
        rintro e w1 ⟨rfl, hb⟩
        have A1 := Lib.hid (down (grow (grow (grow (here w) _) _) _) hb)
        have X1 := Lib.hid (Two.fst3 hb)
        have Y1 := Lib.hid (Two.snd3 hb)
        have Z1 := Lib.hid (Two.trd3 hb)
        clear hb
        obtain ⟨x1_0, x1_1, x1_z⟩ := X1.out
        obtain ⟨y1_0, y1_1, y1_z⟩ := Y1.out
        obtain ⟨z1_0, z1_1, z1_z⟩ := Z1.out
        go_wp2
        obtain ⟨w2, hw2⟩ : ∃ w' : World, w1 = w' := ⟨_, rfl⟩
        rw [hw2]
        have hb : Below w1.heap.size w1 w2 := by rw [hw2]; exact here _
        clear hw2
        have A2 := Lib.hid (down A1.out hb)
        have X2 := Lib.hid (X1.out.keep hb)
        have Y2 := Lib.hid (Y1.out.keep hb)
        have Z2 := Lib.hid (Z1.out.keep hb)
        clear hb A1 X1 Y1 Z1 x1_0 x1_1 x1_z y1_0 y1_1 y1_z z1_0 z1_1 z1_z
        obtain ⟨x2_0, x2_1, x2_z⟩ := X2.out
        obtain ⟨y2_0, y2_1, y2_z⟩ := Y2.out
        obtain ⟨z2_0, z2_1, z2_z⟩ := Z2.out
        have G0 : Hid (∀ x : Kept w2, _) := fun x => O1.out x.wd (ht.out.below (down A2.out x.ok)).sh
        have G1 : Hid (∀ x : Kept w2, _) := fun x => O2.out x.wd (ht.out.below (down A2.out x.ok)).sh
        have G2 : Hid (∀ x : Kept w2, _) := fun x => O3.out x.wd (ht.out.below (down A2.out x.ok)).sh
        have kx0 : ∀ x : Kept w2, x.wd.cell? ⟨w.heap.size, 0, none⟩ = some (.int .i64 (a)) := fun x => (X2.out.keep x.ok).c0
        have kx1 : ∀ x : Kept w2, x.wd.cell? ⟨w.heap.size, 1, none⟩ = some (.int .i64 (b)) := fun x => (X2.out.keep x.ok).c1
        have ky0 : ∀ x : Kept w2, x.wd.cell? ⟨w.heap.size + 1, 0, none⟩ = some (.int .i64 (c)) := fun x => (Y2.out.keep x.ok).c0
        have ky1 : ∀ x : Kept w2, x.wd.cell? ⟨w.heap.size + 1, 1, none⟩ = some (.int .i64 (d)) := fun x => (Y2.out.keep x.ok).c1
        have kz0 : ∀ x : Kept w2, x.wd.cell? ⟨w.heap.size + 2, 0, none⟩ = some (.int .i64 (e)) := fun x => (Z2.out.keep x.ok).c0
        have kz1 : ∀ x : Kept w2, x.wd.cell? ⟨w.heap.size + 2, 1, none⟩ = some (.int .i64 (g)) := fun x => (Z2.out.keep x.ok).c1
        refine wp_region_kept (by kernel_rfl) (by kernel_rfl) ?_
        repeat (go_big_quiet_step (first
          | (go_at_call 34; with_reducible exact kept_call _ (G0.out _))
          | (go_at_call 34; with_reducible exact kept_call _ (G1.out _))
          | (go_at_call 34; with_reducible exact kept_call _ (G2.out _))))
        refine wpQuiet_nil ?_
        intro w3 hx
        obtain ⟨⟨xx, hb⟩, hw⟩ := hx
        replace hw : w3 = xx := hw
        subst xx
        clear kx0 kx1 ky0 ky1 kz0 kz1
        have A3 := Lib.hid (down A2.out hb)
        have X3 := Lib.hid (X2.out.keep hb)
        have Y3 := Lib.hid (Y2.out.keep hb)
        have Z3 := Lib.hid (Z2.out.keep hb)
        clear hb A2 X2 Y2 Z2 x2_0 x2_1 x2_z y2_0 y2_1 y2_z z2_0 z2_1 z2_z
        obtain ⟨x3_0, x3_1, x3_z⟩ := X3.out
        obtain ⟨y3_0, y3_1, y3_z⟩ := Y3.out
        obtain ⟨z3_0, z3_1, z3_z⟩ := Z3.out
        go_wp2_with fail
        refine (HB.out _ (ht.out.below A3.out)).mono ?_
        rintro e w4 ⟨rfl, hb⟩
        have A4 := Lib.hid (down A3.out hb)
        have X4 := Lib.hid (X3.out.keep hb)
        have Y4 := Lib.hid (Y3.out.keep hb)
        have Z4 := Lib.hid (Z3.out.keep hb)
        clear hb A3 X3 Y3 Z3 x3_0 x3_1 x3_z y3_0 y3_1 y3_z z3_0 z3_1 z3_z
        obtain ⟨x4_0, x4_1, x4_z⟩ := X4.out
        obtain ⟨y4_0, y4_1, y4_z⟩ := Y4.out
        obtain ⟨z4_0, z4_1, z4_z⟩ := Z4.out
        go_wp2
        obtain ⟨w5, hw5⟩ : ∃ w' : World, w4 = w' := ⟨_, rfl⟩
        rw [hw5]
        have hb : Below w4.heap.size w4 w5 := by rw [hw5]; exact here _
        clear hw5
        have A5 := Lib.hid (down A4.out hb)
        have X5 := Lib.hid (X4.out.keep hb)
        have Y5 := Lib.hid (Y4.out.keep hb)
        have Z5 := Lib.hid (Z4.out.keep hb)
        clear hb A4 X4 Y4 Z4 x4_0 x4_1 x4_z y4_0 y4_1 y4_z z4_0 z4_1 z4_z
        obtain ⟨x5_0, x5_1, x5_z⟩ := X5.out
        obtain ⟨y5_0, y5_1, y5_z⟩ := Y5.out
        obtain ⟨z5_0, z5_1, z5_z⟩ := Z5.out
        have G3 : Hid (∀ x : Kept w5, _) := fun x => H1.out x.wd (ht.out.below (down A5.out x.ok))
        have G4 : Hid (∀ x : Kept w5, _) := fun x => HI.out x.wd (ht.out.below (down A5.out x.ok))
        have G5 : Hid (∀ x : Kept w5, _) := fun x => H2.out x.wd (ht.out.below (down A5.out x.ok))
        have G6 : Hid (∀ x : Kept w5, _) := fun x => H3.out x.wd (ht.out.below (down A5.out x.ok))
        have kx0 : ∀ x : Kept w5, x.wd.cell? ⟨w.heap.size, 0, none⟩ = some (.int .i64 (a)) := fun x => (X5.out.keep x.ok).c0
        have kx1 : ∀ x : Kept w5, x.wd.cell? ⟨w.heap.size, 1, none⟩ = some (.int .i64 (b)) := fun x => (X5.out.keep x.ok).c1
        have ky0 : ∀ x : Kept w5, x.wd.cell? ⟨w.heap.size + 1, 0, none⟩ = some (.int .i64 (c)) := fun x => (Y5.out.keep x.ok).c0
        have ky1 : ∀ x : Kept w5, x.wd.cell? ⟨w.heap.size + 1, 1, none⟩ = some (.int .i64 (d)) := fun x => (Y5.out.keep x.ok).c1
        have kz0 : ∀ x : Kept w5, x.wd.cell? ⟨w.heap.size + 2, 0, none⟩ = some (.int .i64 (e)) := fun x => (Z5.out.keep x.ok).c0
        have kz1 : ∀ x : Kept w5, x.wd.cell? ⟨w.heap.size + 2, 1, none⟩ = some (.int .i64 (g)) := fun x => (Z5.out.keep x.ok).c1
        refine wp_region_kept (by kernel_rfl) (by kernel_rfl) ?_
        repeat (go_big_quiet_step (first
          | (go_at_call 23; with_reducible exact kept_call _ (G3.out _))
          | (go_at_call 16; first | (with_reducible exact kept_call _ (G4.out _)) | exact kept_call _ (G4.out _))
          | (go_at_call 23; with_reducible exact kept_call _ (G5.out _))
          | (go_at_call 23; with_reducible exact kept_call _ (G6.out _))))
        refine wpQuiet_nil ?_
        intro w6 hx
        obtain ⟨⟨xx, hb⟩, hw⟩ := hx
        replace hw : w6 = xx := hw
        subst xx
        clear kx0 kx1 ky0 ky1 kz0 kz1
        have A6 := Lib.hid (down A5.out hb)
        have X6 := Lib.hid (X5.out.keep hb)
        have Y6 := Lib.hid (Y5.out.keep hb)
        have Z6 := Lib.hid (Z5.out.keep hb)
        clear hb A5 X5 Y5 Z5 x5_0 x5_1 x5_z y5_0 y5_1 y5_z z5_0 z5_1 z5_z
        obtain ⟨x6_0, x6_1, x6_z⟩ := X6.out
        obtain ⟨y6_0, y6_1, y6_z⟩ := Y6.out
        obtain ⟨z6_0, z6_1, z6_z⟩ := Z6.out
        go_wp2
        go_ret
        exact ⟨rfl, by first | exact A6.out | exact grow A6.out _ | exact below_drewN A6.out _ | exact grow (grow A6.out _) _ | exact grow (grow (grow A6.out _) _) _⟩
end Go.Proofs.YtiaidmjhgfaobaaDoor
