/- The walk of AllenBasics. -/
import Derived.Test.YtiaidmjhgfaobaaDoorAlAwakes
import Derived.BigQuiet
import Derived.Deep.QuietTactic
import Derived.Deep.RegionHeld3
import Derived.Deep.Cut
import Derived.Outline
namespace Go.Proofs.YtiaidmjhgfaobaaDoor
open Go.RowKit
set_option linter.unusedVariables false

set_option maxRecDepth 100000 in
set_option maxHeartbeats 4000000 in
theorem AllenBasics.walk (r q s a b c d : Int) (hr : (Lit.int .i64 r).wf = true) (hq : (Lit.int .i64 q).wf = true) (hs : (Lit.int .i64 s).wf = true) (ha : (Lit.int .i64 a).wf = true) (hb : (Lit.int .i64 b).wf = true) (hc : (Lit.int .i64 c).wf = true) (hd : (Lit.int .i64 d).wf = true) (w : World) (ht : Tabs w) :
    Calls Tryd.prog 4 #[.int .i64 r, .int .i64 q, .int .i64 s, .agg #[.int .i64 a, .int .i64 b], .agg #[.int .i64 c, .int .i64 d]] w fun e w' => e = .returned (.bool true) ∧ Below w.heap.size w w' := by
  replace hr := i64_wf hr
  replace hq := i64_wf hq
  replace hs := i64_wf hs
  replace ha := i64_wf ha
  replace hb := i64_wf hb
  replace hc := i64_wf hc
  replace hd := i64_wf hd
  have HB := fun w ht => uabasic r q hr hq w ht
  have RB := fun w => rabasic r q hr hq w
  have HH := fun w ht => uaholds s a b c d hs ha hb hc hd w ht
  have RH := fun w => raholds s a b c d hs ha hb hc hd w
  generalize baS r q = V at *
  generalize hoB s a b c d = T at *
  have k0 : (V == V) = true := beq_self_eq_true V
  clear hr hq hs ha hb hc hd
  have AW := Lib.hid (fun w ht => awake_all w ht)
  replace ht := Lib.hid ht
  cases T
  all_goals
    replace HB := Lib.hid HB
    replace RB := Lib.hid RB
    replace HH := Lib.hid HH
    replace RH := Lib.hid RH
    go_enter Tryd.func4, Tryd.ntmps4
    go_wp2_with fail
    refine (AW.out _ (ht.out.below (grow (grow (here w) _) _))).mono ?_
    rintro e w1 ⟨rfl, hb⟩
    have A1 := Lib.hid (down (grow (grow (here w) _) _) hb)
    have X1 := Lib.hid (Two.fst hb)
    have Y1 := Lib.hid (Two.snd hb)
    clear hb
    obtain ⟨x1_0, x1_1, x1_z⟩ := X1.out
    obtain ⟨y1_0, y1_1, y1_z⟩ := Y1.out
    go_wp2
    obtain ⟨w2, hw2⟩ : ∃ w' : World, w1 = w' := ⟨_, rfl⟩
    rw [hw2]
    have hb : Below w1.heap.size w1 w2 := by rw [hw2]; exact here _
    clear hw2
    have A2 := Lib.hid (down A1.out hb)
    have X2 := Lib.hid (X1.out.keep hb)
    have Y2 := Lib.hid (Y1.out.keep hb)
    clear hb A1 X1 Y1 x1_0 x1_1 x1_z y1_0 y1_1 y1_z
    obtain ⟨x2_0, x2_1, x2_z⟩ := X2.out
    obtain ⟨y2_0, y2_1, y2_z⟩ := Y2.out
    have G0 : Hid (∀ x : Kept w2, _) := fun x => HB.out x.wd (ht.out.below (down A2.out x.ok))
    have G1 : Hid (∀ x : Kept w2, _) := fun x => RB.out x.wd
    have G2 : Hid (∀ x : Kept w2, _) := fun x => HH.out x.wd (ht.out.below (down A2.out x.ok))
    have G3 : Hid (∀ x : Kept w2, _) := fun x => RH.out x.wd
    have kx0 : ∀ x : Kept w2, x.wd.cell? ⟨w.heap.size, 0, none⟩ = some (.int .i64 (a)) := fun x => (X2.out.keep x.ok).c0
    have kx1 : ∀ x : Kept w2, x.wd.cell? ⟨w.heap.size, 1, none⟩ = some (.int .i64 (b)) := fun x => (X2.out.keep x.ok).c1
    have ky0 : ∀ x : Kept w2, x.wd.cell? ⟨w.heap.size + 1, 0, none⟩ = some (.int .i64 (c)) := fun x => (Y2.out.keep x.ok).c0
    have ky1 : ∀ x : Kept w2, x.wd.cell? ⟨w.heap.size + 1, 1, none⟩ = some (.int .i64 (d)) := fun x => (Y2.out.keep x.ok).c1
    refine wp_region_kept (by kernel_rfl) (by kernel_rfl) ?_
    repeat (go_big_quiet_step (first
      | (go_at_call 21; first | (with_reducible exact kept_call _ (G0.out _)) | exact kept_call _ (G0.out _))
      | (go_at_call 22; first | (with_reducible exact kept_call _ (G1.out _)) | exact kept_call _ (G1.out _))
      | (go_at_call 23; first | (with_reducible exact kept_call _ (G2.out _)) | exact kept_call _ (G2.out _))
      | (go_at_call 24; first | (with_reducible exact kept_call _ (G3.out _)) | exact kept_call _ (G3.out _))))
    refine wpQuiet_nil ?_
    intro w3 hx
    obtain ⟨⟨xx, hb⟩, hw⟩ := hx
    replace hw : w3 = xx := hw
    subst xx
    clear kx0 kx1 ky0 ky1
    have A3 := Lib.hid (down A2.out hb)
    have X3 := Lib.hid (X2.out.keep hb)
    have Y3 := Lib.hid (Y2.out.keep hb)
    clear hb A2 X2 Y2 x2_0 x2_1 x2_z y2_0 y2_1 y2_z
    obtain ⟨x3_0, x3_1, x3_z⟩ := X3.out
    obtain ⟨y3_0, y3_1, y3_z⟩ := Y3.out
    go_wp2
    go_ret
    exact ⟨rfl, by first | exact A3.out | exact grow A3.out _ | exact below_drewN A3.out _ | exact grow (grow A3.out _) _ | exact grow (grow (grow A3.out _) _) _⟩
end Go.Proofs.YtiaidmjhgfaobaaDoor
