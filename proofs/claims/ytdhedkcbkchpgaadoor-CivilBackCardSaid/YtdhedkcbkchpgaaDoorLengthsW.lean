/- The walk of CivilLengths: the Go text returns true, at every input. -/
import Derived.Test.YtdhedkcbkchpgaaDoorAwake
namespace Go.Proofs.YtdhedkcbkchpgaaDoor
open Go.RowKit
set_option linter.unusedVariables false

theorem i64_wf {n : Int} (h : (Lit.int .i64 n).wf = true) : I64 n := bounds_i64 h
namespace CivilLengths
set_option maxRecDepth 100000 in
set_option maxHeartbeats 2000000 in
theorem walk (y m d n : Int) (hy : (Lit.int .i64 y).wf = true) (hm : (Lit.int .i64 m).wf = true) (hd : (Lit.int .i64 d).wf = true) (hn : (Lit.int .i64 n).wf = true) (w : World) (ht : Lens w) :
    Calls Tryd.prog 3 #[.agg #[.int .i64 y, .int .i64 m, .int .i64 d], .int .i64 n] w fun e w' => e = .returned (.bool true) ∧ Below w.heap.size w w' := by
  replace hy := i64_wf hy
  replace hm := i64_wf hm
  replace hd := i64_wf hd
  replace hn := i64_wf hn
  have HV := Lib.hid (fun w ht => cvalid y m d hy hm hd w ht)
  have RV := Lib.hid (fun w => refvalid y m d hy hm hd w)
  have HP := Lib.hid (fun w => cleap y hy w)
  have RP := Lib.hid (fun w => refleap y hy.1 hy.2 w)
  have HL := Lib.hid (fun w ht => clen y m hy hm w ht)
  have RL := Lib.hid (fun w => reflen y m hy.1 hy.2 hm.1 hm.2 w)
  have HW := Lib.hid (fun w => cweekday n hn w)
  have RW := Lib.hid (fun w => refweekday n hn.1 hn.2 w)
  have HY := Lib.hid (fun w ht => cyearday y m d hy hm hd w ht)
  have RY := Lib.hid (fun w => refyearday y m d hy hm hd w)
  generalize vld y m d = V at *
  generalize leapB y = P at *
  generalize lenM y m = L at *
  generalize wkd n = W at *
  generalize ydy y m d = Y at *
  clear hy hm hd hn
  replace ht := Lib.hid ht
  go_enter Tryd.func3, Tryd.ntmps3
  go_wp2_with fail
  refine (awake_all _ (lens_alloc ht.out _)).mono ?_
  rintro e w1 ⟨rfl, hb⟩
  have A1 := Lib.hid (down (grow (here w) _) hb)
  have B1 := Lib.hid (Box.new hb)
  have HT : Hid (∀ x : Kept w1, Lens x.wd) := fun x => lens_below ht.out (down A1.out x.ok)
  have k0 : ∀ x : Kept w1, x.wd.cell? ⟨w.heap.size, 0, none⟩ = some (.int .i64 y) := fun x => (B1.out.keep x.ok).c0
  have k1 : ∀ x : Kept w1, x.wd.cell? ⟨w.heap.size, 1, none⟩ = some (.int .i64 m) := fun x => (B1.out.keep x.ok).c1
  have k2 : ∀ x : Kept w1, x.wd.cell? ⟨w.heap.size, 2, none⟩ = some (.int .i64 d) := fun x => (B1.out.keep x.ok).c2
  clear hb
  go_wp2
  refine wp_region_kept (by kernel_rfl) (by kernel_rfl) ?_
  repeat (go_big_quiet_step (first
    | (go_at_call 15; exact kept_call _ (HV.out _ (HT.out _)))
    | (go_at_call 16; exact kept_call _ (RV.out _))
    | (go_at_call 17; exact kept_same _ (HP.out _))
    | (go_at_call 18; exact kept_same _ (RP.out _))
    | (go_at_call 19; exact kept_same _ (HL.out _ (HT.out _)))
    | (go_at_call 20; exact kept_same _ (RL.out _))
    | (go_at_call 21; exact kept_drew _ (HW.out _))
    | (go_at_call 22; exact kept_same _ (RW.out _))
    | (go_at_call 23; exact kept_call _ (HY.out _ (HT.out _)))
    | (go_at_call 24; exact kept_call _ (RY.out _))))
  refine wpQuiet_nil ?_
  intro _ hx
  obtain ⟨⟨w2, hb2⟩, hw⟩ := hx
  subst hw
  go_wp2
  go_ret
  exact ⟨rfl, down A1.out hb2⟩
end CivilLengths
end Go.Proofs.YtdhedkcbkchpgaaDoor
