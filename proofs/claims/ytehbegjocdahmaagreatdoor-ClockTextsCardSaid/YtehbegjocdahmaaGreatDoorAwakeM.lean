/- The examples of the chapter. -/
import Derived.Test.YtehbegjocdahmaaGreatDoorFrameM

import Derived.Test.YtehbegjocdahmaaGreatDoorCkR

import Derived.Test.YtehbegjocdahmaaGreatDoorCkT

import Derived.Test.YtehbegjocdahmaaGreatDoorCkQ

import Derived.Test.YtehbegjocdahmaaGreatDoorCkF

namespace Go.Proofs.YtehbegjocdahmaaGreatDoor

open Go.RowKit

set_option linter.unusedVariables false

theorem ex_mom (w : World) : Calls Tryz.prog 10 #[.int .i64 1772323199] w fun e w' => e = .returned (.tuple #[.agg #[.int .i64 2026, .int .i64 2, .int .i64 28, .int .i64 23, .int .i64 59, .int .i64 59], .int .i64 0]) ∧ Below w.heap.size w w' :=
  kmom_yes 1772323199 2026 2 28 23 59 59 (by decide) (by decide) (by decide +kernel) w
theorem ex_pd (w : World) (hu : Units w) : Calls Tryz.prog 11 #[.string ⟨#[80, 84, 57, 48, 77]⟩] w fun e w' => e = .returned (.tuple #[.int .i64 5400, .int .i64 0]) ∧ ∃ m, w' = w.drewN m := by
  have h := kpd ⟨#[80, 84, 57, 48, 77]⟩ (by decide) w hu
  rw [show durV (⟨#[80, 84, 57, 48, 77]⟩ : ByteArray).data.toList = 5400 by decide +kernel, show durE (⟨#[80, 84, 57, 48, 77]⟩ : ByteArray).data.toList = 0 by decide +kernel] at h
  exact h
theorem ex_round (w : World) : Calls Tryz.prog 12 #[.int .i64 100, .int .i64 60, .int .i64 3] w fun e w' => e = .returned (.tuple #[.int .i64 120, .int .i64 0]) ∧ ∃ m, w' = w.drewN m := by
  have h := kround 100 60 3 ⟨by decide, by decide⟩ ⟨by decide, by decide⟩ ⟨by decide, by decide⟩ w
  rw [show rV 100 60 3 = 120 by decide +kernel, show rE 100 60 3 = 0 by decide +kernel] at h
  exact h
theorem ex_text (w : World) (ht : Lens w) (hp : Tab w) : Calls Tryz.prog 5 #[.agg #[.int .i64 2026, .int .i64 2, .int .i64 28, .int .i64 23, .int .i64 59, .int .i64 59]] w fun e w' => e = .returned (.string ⟨#[50, 48, 50, 54, 45, 48, 50, 45, 50, 56, 84, 50, 51, 58, 53, 57, 58, 53, 57]⟩) ∧ Below w.heap.size w w' := by
  have h := ktext_good 2026 2 28 23 59 59 (by decide) (by decide) w ht hp
  rw [show textM 2026 2 28 23 59 59 = [50, 48, 50, 54, 45, 48, 50, 45, 50, 56, 84, 50, 51, 58, 53, 57, 58, 53, 57] by decide +kernel] at h
  exact h
theorem ex_dur (w : World) (hu : Units w) (hp : Tab w) : Calls Tryz.prog 13 #[.int .i64 172805] w fun e w' => e = .returned (.string ⟨#[80, 50, 68, 84, 53, 83]⟩) ∧ Below w.heap.size w w' := by
  have h := kdur 172805 ⟨by decide, by decide⟩ w hu hp
  have e : durL 172805 = [80, 50, 68, 84, 53, 83] := by
    have d2 : Lib.decDigits 2 = [50] := by rw [dec_small (by omega)]; decide
    have d5 : Lib.decDigits 5 = [53] := by rw [dec_small (by omega)]; decide
    have p0 : partL (172805 / 86400) 68 = [50, 68] := by
      unfold partL; rw [if_neg (by decide), show ((172805 : Int) / 86400).toNat = 2 by decide, d2]; rfl
    have p1 : partL (172805 / 3600 % 24) 72 = [] := by unfold partL; rw [if_pos (by decide)]
    have p2 : partL (172805 / 60 % 60) 77 = [] := by unfold partL; rw [if_pos (by decide)]
    have p3 : partL (172805 % 60) 83 = [53, 83] := by
      unfold partL; rw [if_neg (by decide), show ((172805 : Int) % 60).toNat = 5 by decide, d5]; rfl
    unfold durL bodyL restL
    rw [if_pos (by decide), if_neg (by decide), if_neg (by decide), if_neg (by decide), p0, p1, p2, p3]; rfl
  rw [e] at h
  exact h
set_option maxRecDepth 100000 in
set_option maxHeartbeats 2000000 in
theorem awake_all (w : World) (hl : Listed w) :
    Calls Tryz.prog 4 #[] w fun e w' => e = .returned (.bool true) ∧ Below w.heap.size w w' := by
  replace hl := Lib.hid hl
  have HP := Lib.hid (fun w hu => ex_pd w hu)
  have HR := Lib.hid (fun w => ex_round w)
  have HT := Lib.hid (fun w ht hp => ex_text w ht hp)
  have HD := Lib.hid (fun w hu hp => ex_dur w hu hp)
  go_enter Tryz.func4, Tryz.ntmps4
  go_wp2_with fail
  refine (ex_mom _).mono ?_
  rintro e w1 ⟨rfl, hb⟩
  have L1 := hl.out.keep hb
  have A2 := Lib.hid (grow hb (.cells #[.int .i64 2026, .int .i64 2, .int .i64 28, .int .i64 23, .int .i64 59, .int .i64 59] 27))
  have L2 := Lib.hid (L1.old (.cells #[.int .i64 2026, .int .i64 2, .int .i64 28, .int .i64 23, .int .i64 59, .int .i64 59] 27))
  have S2 := Lib.hid (Six.new (here (w1.alloc (.cells #[.int .i64 2026, .int .i64 2, .int .i64 28, .int .i64 23, .int .i64 59, .int .i64 59] 27))))
  obtain ⟨w2, hw2⟩ : ∃ w2, w1.alloc (.cells #[.int .i64 2026, .int .i64 2, .int .i64 28, .int .i64 23, .int .i64 59, .int .i64 59] 27) = w2 := ⟨_, rfl⟩
  rw [hw2] at A2 L2 S2
  clear hb L1
  go_wp2_with fail
  clear hw2
  refine (HP.out _ L2.out.units).mono ?_
  rintro e w3 ⟨rfl, m, rfl⟩
  go_wp2_with fail
  refine (HR.out _).mono ?_
  rintro e w3 ⟨rfl, m2, rfl⟩
  obtain ⟨w3, hw3⟩ : ∃ w3, w2.drewN (m + m2) = w3 := ⟨_, rfl⟩
  have A3 := Lib.hid (below_drewN A2.out (m + m2))
  have L3 := Lib.hid (L2.out.drewN (m + m2))
  have S3 := Lib.hid (S2.out.drewN (m + m2))
  rw [hw3] at A3 L3 S3
  try rw [hw3]
  obtain ⟨g0, g1, g2, g3, g4, g5, gz⟩ := S3.out
  go_wp2_with fail
  try clear hw3
  refine (HT.out _ L3.out.lens L3.out.tab).mono ?_
  rintro e w4 ⟨rfl, hb⟩
  have A4 := Lib.hid (down A3.out hb)
  have L4 := Lib.hid (L3.out.keep hb)
  clear hb
  go_wp2_with fail
  refine (HD.out _ L4.out.units L4.out.tab).mono ?_
  rintro e w5 ⟨rfl, hb⟩
  have A5 := Lib.hid (down A4.out hb)
  clear hb
  go_wp2
  go_ret
  exact ⟨rfl, A5.out⟩
end Go.Proofs.YtehbegjocdahmaaGreatDoor
