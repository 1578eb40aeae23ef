/- Contracts of civil.Text, hasLayout, Parse. -/
import Derived.Test.YtehbegjocdahmaaGreatDoorLCivA

import Derived.Test.YtehbegjocdahmaaGreatDoorLIntT

import Derived.Test.YtehbegjocdahmaaGreatDoorLIntP

namespace Go.Proofs.YtehbegjocdahmaaGreatDoor

open Go.RowKit

set_option linter.unusedVariables false

theorem ctext_no (y m d : Int) (hy : I64 y) (hm : I64 m) (hd : I64 d) (h : vld y m d = false) (w : World) (ht : Lens w) :
    Calls Tryz.prog 15 #[.agg #[.int .i64 y, .int .i64 m, .int .i64 d]] w fun e w' => e = .returned (.string ⟨#[]⟩) ∧ Below w.heap.size w w' := by
  have HV := fun w ht => cvalid y m d hy hm hd w ht
  rw [h] at HV
  replace HV := Lib.hid HV
  replace ht := Lib.hid ht
  clear h
  go_enter Tryz.func15, Tryz.ntmps15
  go_wp2_with fail
  refine (HV.out _ (lens_alloc ht.out _)).mono ?_
  rintro e w1 ⟨rfl, hb⟩
  have A1 := Lib.hid (down (grow (here w) _) hb)
  clear hb
  go_wp2
  go_ret
  exact ⟨rfl, A1.out⟩
set_option maxHeartbeats 1000000 in
theorem ctext_yes (y m d : Int) (h : vld y m d = true) (w : World) (ht : Lens w) (hp : Tab w) :
    Calls Tryz.prog 15 #[.agg #[.int .i64 y, .int .i64 m, .int .i64 d]] w fun e w' => e = .returned (.string ⟨(textD y m d).toArray⟩) ∧ Below w.heap.size w w' := by
  obtain ⟨y0, y1, m0, m1, d0, d1⟩ := vld_bd h
  have HV := fun w ht => cvalid y m d ⟨by omega, by omega⟩ ⟨by omega, by omega⟩ ⟨by omega, by omega⟩ w ht
  rw [h] at HV
  replace HV := Lib.hid HV
  have HY : Hid (∀ w, Tab w → Calls Tryz.prog 16 #[.int .i64 y, .int .i64 4] w fun e w' => e = .returned (.string ⟨(digL 4 y).toArray⟩) ∧ Below w.heap.size w w') := fun w ht => ctext y 3 (by omega) (by omega) (by omega) w ht
  have HM : Hid (∀ w, Tab w → Calls Tryz.prog 16 #[.int .i64 m, .int .i64 2] w fun e w' => e = .returned (.string ⟨(digL 2 m).toArray⟩) ∧ Below w.heap.size w w') := fun w ht => ctext m 1 (by omega) (by omega) (by omega) w ht
  have HD : Hid (∀ w, Tab w → Calls Tryz.prog 16 #[.int .i64 d, .int .i64 2] w fun e w' => e = .returned (.string ⟨(digL 2 d).toArray⟩) ∧ Below w.heap.size w w') := fun w ht => ctext d 1 (by omega) (by omega) (by omega) w ht
  have HT : Hid (textD y m d = digL 4 y ++ [45] ++ digL 2 m ++ [45] ++ digL 2 d) := by show _ = _; unfold textD; rw [if_pos h]
  have ly := digL_length 4 y
  have lm := digL_length 2 m
  have ld := digL_length 2 d
  generalize digL 4 y = a at *
  generalize digL 2 m = b at *
  generalize digL 2 d = c at *
  have ly' : a.length ≤ 4 := by omega
  have lm' : b.length ≤ 2 := by omega
  have ld' : c.length ≤ 2 := by omega
  replace ht := Lib.hid ht
  replace hp := Lib.hid hp
  clear ly lm ld h
  go_enter Tryz.func15, Tryz.ntmps15
  go_wp2_with fail
  refine (HV.out _ (lens_alloc ht.out _)).mono ?_
  rintro e w1 ⟨rfl, hb⟩
  have A1 := Lib.hid (down (grow (here w) _) hb)
  have B1 := Lib.hid (Box.new hb)
  have HP : Hid (∀ x : Kept w1, Tab x.wd) := fun x => tab_below hp.out (down A1.out x.ok)
  have k0 : ∀ x : Kept w1, x.wd.cell? ⟨w.heap.size, 0, none⟩ = some (.int .i64 y) := fun x => (B1.out.keep x.ok).c0
  have k1 : ∀ x : Kept w1, x.wd.cell? ⟨w.heap.size, 1, none⟩ = some (.int .i64 m) := fun x => (B1.out.keep x.ok).c1
  have k2 : ∀ x : Kept w1, x.wd.cell? ⟨w.heap.size, 2, none⟩ = some (.int .i64 d) := fun x => (B1.out.keep x.ok).c2
  clear hb
  go_wp2
  refine wp_region_kept (by kernel_rfl) (by kernel_rfl) ?_
  repeat (go_big_quiet_step ((go_at_call 16; first | (with_reducible exact kept_call _ (HY.out _ (HP.out _))) | (with_reducible exact kept_call _ (HM.out _ (HP.out _))) | exact kept_call _ (HD.out _ (HP.out _)))))
  refine wpQuiet_nil ?_
  intro _ hx
  obtain ⟨⟨w2, hb2⟩, hw⟩ := hx
  subst hw
  go_wp2
  go_ret
  refine ⟨?_, down A1.out hb2⟩
  rw [HT.out, ← ba_append, ← ba_append, ← ba_append, ← ba_append]
  rfl
theorem ctextd (y m d : Int) (hy : I64 y) (hm : I64 m) (hd : I64 d) (w : World) (ht : Lens w) (hp : Tab w) :
    Calls Tryz.prog 15 #[.agg #[.int .i64 y, .int .i64 m, .int .i64 d]] w fun e w' => e = .returned (.string ⟨(textD y m d).toArray⟩) ∧ Below w.heap.size w w' := by
  by_cases h : vld y m d = true
  · exact ctext_yes y m d h w ht hp
  · have e : textD y m d = [] := by unfold textD; rw [if_neg h]
    rw [e]
    exact ctext_no y m d hy hm hd (by simpa using h) w ht
end Go.Proofs.YtehbegjocdahmaaGreatDoor
