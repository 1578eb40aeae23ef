/- The contract of clock.Text. -/
import Derived.Test.YtehbegjocdahmaaGreatDoorCkB

import Derived.Test.YtehbegjocdahmaaGreatDoorCkTxt

import Derived.Test.YtehbegjocdahmaaGreatDoorLCivT

namespace Go.Proofs.YtehbegjocdahmaaGreatDoor

open Go.RowKit

set_option linter.unusedVariables false

theorem ktext_bad (y o d h m s : Int) (hy : I64 y) (ho : I64 o) (hd : I64 d) (hh : I64 h) (hm : I64 m) (hs : I64 s) (v : (vld y o d && vldT h m s) = false) (w : World) (ht : Lens w) :
    Calls Tryz.prog 5 #[.agg #[.int .i64 y, .int .i64 o, .int .i64 d, .int .i64 h, .int .i64 m, .int .i64 s]] w fun e w' => e = .returned (.string ⟨#[]⟩) ∧ Below w.heap.size w w' := by
  have HV := fun w ht => kvm y o d h m s hy ho hd hh hm hs w ht
  rw [v] at HV
  replace HV := Lib.hid HV
  replace ht := Lib.hid ht
  clear v
  go_enter Tryz.func5, Tryz.ntmps5
  go_wp2_with fail
  refine (HV.out _ (lens_alloc ht.out _)).mono ?_
  rintro e w1 ⟨rfl, hb⟩
  have A1 := Lib.hid (down (grow (here w) _) hb)
  clear hb
  go_wp2
  go_ret
  exact ⟨rfl, A1.out⟩
set_option maxRecDepth 100000 in
set_option maxHeartbeats 2000000 in
theorem ktext_good (y o d h m s : Int) (v : vld y o d = true) (t : vldT h m s = true) (w : World) (ht : Lens w) (hp : Tab w) :
    Calls Tryz.prog 5 #[.agg #[.int .i64 y, .int .i64 o, .int .i64 d, .int .i64 h, .int .i64 m, .int .i64 s]] w fun e w' => e = .returned (.string ⟨(textM y o d h m s).toArray⟩) ∧ Below w.heap.size w w' := by
  obtain ⟨y0, y1, m0, m1, d0, d1⟩ := vld_bd v
  obtain ⟨⟨t0, t1⟩, ⟨t2, t3⟩, t4, t5⟩ := vldT_iff.1 t
  have HV := fun w ht => kvm y o d h m s ⟨by omega, by omega⟩ ⟨by omega, by omega⟩ ⟨by omega, by omega⟩ ⟨by omega, by omega⟩ ⟨by omega, by omega⟩ ⟨by omega, by omega⟩ w ht
  rw [v, t] at HV
  replace HV := Lib.hid HV
  have HD := Lib.hid (fun w ht hp => ctext_yes y o d v w ht hp)
  have HH : Hid (∀ w, Tab w → Calls Tryz.prog 16 #[.int .i64 h, .int .i64 2] w fun e w' => e = .returned (.string ⟨(digL 2 h).toArray⟩) ∧ Below w.heap.size w w') := fun w ht => ctext h 1 (by omega) (by omega) (by omega) w ht
  have HM : Hid (∀ w, Tab w → Calls Tryz.prog 16 #[.int .i64 m, .int .i64 2] w fun e w' => e = .returned (.string ⟨(digL 2 m).toArray⟩) ∧ Below w.heap.size w w') := fun w ht => ctext m 1 (by omega) (by omega) (by omega) w ht
  have HS : Hid (∀ w, Tab w → Calls Tryz.prog 16 #[.int .i64 s, .int .i64 2] w fun e w' => e = .returned (.string ⟨(digL 2 s).toArray⟩) ∧ Below w.heap.size w w') := fun w ht => ctext s 1 (by omega) (by omega) (by omega) w ht
  have HT : Hid (textM y o d h m s = textD y o d ++ [84] ++ digL 2 h ++ [58] ++ digL 2 m ++ [58] ++ digL 2 s) := by
    show _ = _; unfold textM; rw [v, t]; show textD y o d ++ [84] ++ timT h m s = _; unfold timT; simp only [List.append_assoc]
  have lD : (textD y o d).length ≤ 10 := by unfold textD; rw [if_pos v]; simp [digL_length]
  have l1 := digL_length 2 h
  have l2 := digL_length 2 m
  have l3 := digL_length 2 s
  generalize textD y o d = D at *
  generalize digL 2 h = a at *
  generalize digL 2 m = b at *
  generalize digL 2 s = c at *
  have l1' : a.length ≤ 2 := by omega
  have l2' : b.length ≤ 2 := by omega
  have l3' : c.length ≤ 2 := by omega
  replace ht := Lib.hid ht
  replace hp := Lib.hid hp
  clear l1 l2 l3 v t
  go_enter Tryz.func5, Tryz.ntmps5
  go_wp2_with fail
  refine (HV.out _ (lens_alloc ht.out _)).mono ?_
  rintro e w1 ⟨rfl, hb⟩
  have A1 := Lib.hid (down (grow (here w) _) hb)
  have B1 := Lib.hid (Six.new hb)
  have HPT : Hid (∀ x : Kept w1, Tab x.wd) := fun x => tab_below hp.out (down A1.out x.ok)
  have HPL : Hid (∀ x : Kept w1, Lens x.wd) := fun x => lens_below ht.out (down A1.out x.ok)
  have k0 : ∀ x : Kept w1, x.wd.cell? ⟨w.heap.size, 0, none⟩ = some (.int .i64 y) := fun x => (B1.out.keep x.ok).c0
  have k1 : ∀ x : Kept w1, x.wd.cell? ⟨w.heap.size, 1, none⟩ = some (.int .i64 o) := fun x => (B1.out.keep x.ok).c1
  have k2 : ∀ x : Kept w1, x.wd.cell? ⟨w.heap.size, 2, none⟩ = some (.int .i64 d) := fun x => (B1.out.keep x.ok).c2
  have k3 : ∀ x : Kept w1, x.wd.cell? ⟨w.heap.size, 3, none⟩ = some (.int .i64 h) := fun x => (B1.out.keep x.ok).c3
  have k4 : ∀ x : Kept w1, x.wd.cell? ⟨w.heap.size, 4, none⟩ = some (.int .i64 m) := fun x => (B1.out.keep x.ok).c4
  have k5 : ∀ x : Kept w1, x.wd.cell? ⟨w.heap.size, 5, none⟩ = some (.int .i64 s) := fun x => (B1.out.keep x.ok).c5
  clear hb
  go_wp2
  refine wp_region_kept (by kernel_rfl) (by kernel_rfl) ?_
  repeat (go_big_quiet_step (first
    | (go_at_call 15; exact kept_call _ (HD.out _ (HPL.out _) (HPT.out _)))
    | (go_at_call 16; first | (with_reducible exact kept_call _ (HH.out _ (HPT.out _))) | (with_reducible exact kept_call _ (HM.out _ (HPT.out _))) | exact kept_call _ (HS.out _ (HPT.out _)))))
  refine wpQuiet_nil ?_
  intro _ hx
  obtain ⟨⟨w2, hb2⟩, hw⟩ := hx
  subst hw
  go_wp2
  go_ret
  refine ⟨?_, down A1.out hb2⟩
  rw [HT.out]
  simp only [← ba_append]
  rfl
end Go.Proofs.YtehbegjocdahmaaGreatDoor
