/- Contracts of civiltimeref02: digits, Text, number, Form. -/
import Derived.Test.YtehbegjocdahmaaGreatDoorProg

import Derived.Test.YtehbegjocdahmaaGreatDoorLRefA

import Derived.Test.YtehbegjocdahmaaGreatDoorLDig

import Derived.WalkLawsBesides

import Derived.WalkSpells

namespace Go.Proofs.YtehbegjocdahmaaGreatDoor

open Go.RowKit

set_option linter.unusedVariables false

set_option maxHeartbeats 400000 in
theorem refdigits (n : Int) (k : Nat) (n0 : 0 ≤ n) (n1 : n ≤ 1000000) (k1 : k ≤ 10) (w : World) :
    Calls Tryz.prog 43 #[.int .i64 n, .int .i64 k] w fun e w' => e = .returned (.string ⟨(digL k n).toArray⟩) ∧ w = w' := by
  go_enter Tryz.func43, Tryz.ntmps43
  go_wp2
  go_loop [0, 5, 6] (fun a s i => ∃ (j : Nat) (x : Int) (l : List UInt8), j ≤ k ∧ 0 ≤ x ∧ x ≤ 1000000 ∧ l.length ≤ 10 ∧ Hid (digL (k - j) x ++ l = digL k n ∧ l.length = j) ∧ a = .int .i64 x ∧ s = .string ⟨l.toArray⟩ ∧ i = .int .i64 j) (fun _ _ i => k - (intOf i).toNat)
  case atStart => exact ⟨0, n, [], Nat.zero_le _, n0, n1, by simp, ⟨by simp, rfl⟩, rfl, rfl, rfl⟩
  case round =>
    obtain ⟨j, x, l, hj, x0, x1, hl, HI, rfl, rfl, rfl⟩ := hrel
    by_cases z : j < k
    · have kz : decide ((j : Int) < (k : Int)) = true := decide_eq_true (by omega)
      obtain ⟨D, hD⟩ : ∃ D, x % 10 = D := ⟨_, rfl⟩
      have D0 : 0 ≤ D := by omega
      have D1 : D ≤ 9 := by omega
      have HS : Hid (digL (k - (j + 1)) (x / 10) ++ (dgt D :: l) = digL k n ∧ (dgt D :: l).length = j + 1) := by
        obtain ⟨h, h2⟩ := HI.out
        refine ⟨?_, by rw [List.length_cons, h2]⟩
        rw [← h, show k - j = (k - (j + 1)) + 1 by omega]
        show _ = (digL (k - (j + 1)) (x / 10) ++ [dgt (x % 10)]) ++ l
        rw [hD, List.append_assoc]; rfl
      have hl2 : l.length + 1 ≤ 10 := by have := HI.out.2; omega
      clear HI
      have he := enc_digit D0 D1
      have kj : ((j : Int) + 1).toNat = j + 1 := by omega
      go_wp2
      go_round
      case rel => exact ⟨j + 1, x / 10, dgt D :: l, by omega, by omega, by omega, by rw [List.length_cons]; exact hl2, HS, rfl, str_cons _ _, by go_num⟩
      case measure => simp [intOf]; omega
    · have kz : decide ((j : Int) < (k : Int)) = false := decide_eq_false (by omega)
      have HE : Hid (digL k n = l) := by
        obtain ⟨h, h2⟩ := HI.out
        show digL k n = l
        rw [← h, show k - j = 0 by omega]; rfl
      clear HI
      go_wp2
      go_ret
      exact ⟨by rw [HE.out]; rfl, rfl⟩
theorem reftext_no (y m d : Int) (hy : I64 y) (hm : I64 m) (hd : I64 d) (h : vld y m d = false) (w : World) :
    Calls Tryz.prog 22 #[.agg #[.int .i64 y, .int .i64 m, .int .i64 d]] w fun e w' => e = .returned (.string ⟨#[]⟩) ∧ Below w.heap.size w w' := by
  have HV := fun w => refvalid y m d hy hm hd w
  rw [h] at HV
  replace HV := Lib.hid HV
  go_enter Tryz.func22, Tryz.ntmps22
  go_wp2_with fail
  refine (HV.out _).mono ?_
  rintro e w1 ⟨rfl, hb⟩
  have hb2 := box_below hb
  obtain ⟨c0, c1, c2⟩ := box_cells hb
  go_wp2
  go_ret
  exact ⟨rfl, hb2⟩
set_option maxHeartbeats 1000000 in
theorem reftext_yes (y m d : Int) (h : vld y m d = true) (w : World) :
    Calls Tryz.prog 22 #[.agg #[.int .i64 y, .int .i64 m, .int .i64 d]] w fun e w' => e = .returned (.string ⟨(textD y m d).toArray⟩) ∧ Below w.heap.size w w' := by
  obtain ⟨y0, y1, m0, m1, d0, d1⟩ := vld_bd h
  have HV := fun w => refvalid y m d ⟨by omega, by omega⟩ ⟨by omega, by omega⟩ ⟨by omega, by omega⟩ w
  have HY := Lib.hid (fun w => refdigits y 4 (by omega) (by omega) (by omega) w)
  have HM := Lib.hid (fun w => refdigits m 2 (by omega) (by omega) (by omega) w)
  have HD := Lib.hid (fun w => refdigits d 2 (by omega) (by omega) (by omega) w)
  have HT : Hid (textD y m d = digL 4 y ++ [45] ++ digL 2 m ++ [45] ++ digL 2 d) := by show _ = _; unfold textD; rw [if_pos h]
  rw [h] at HV
  replace HV := Lib.hid HV
  have ly := digL_length 4 y
  have lm := digL_length 2 m
  have ld := digL_length 2 d
  generalize digL 4 y = a at *
  generalize digL 2 m = b at *
  generalize digL 2 d = c at *
  have ly' : a.length ≤ 4 := by omega
  have lm' : b.length ≤ 2 := by omega
  have ld' : c.length ≤ 2 := by omega
  clear ly lm ld h
  go_enter Tryz.func22, Tryz.ntmps22
  go_wp2_with fail
  refine (HV.out _).mono ?_
  rintro e w1 ⟨rfl, hb⟩
  have hb2 := box_below hb
  obtain ⟨c0, c1, c2⟩ := box_cells hb
  clear hb HV
  go_wp2_with fail
  go_quiet ((go_at_call 43; first | (with_reducible exact qleft (HY.out _)) | (with_reducible exact qleft (HM.out _)) | exact qleft (HD.out _)))
  go_wp2
  go_ret
  refine ⟨?_, below_drewN hb2 _⟩
  rw [HT.out, ← ba_append, ← ba_append, ← ba_append, ← ba_append]
  rfl
theorem reftext (y m d : Int) (hy : I64 y) (hm : I64 m) (hd : I64 d) (w : World) :
    Calls Tryz.prog 22 #[.agg #[.int .i64 y, .int .i64 m, .int .i64 d]] w fun e w' => e = .returned (.string ⟨(textD y m d).toArray⟩) ∧ Below w.heap.size w w' := by
  by_cases h : vld y m d = true
  · exact reftext_yes y m d h w
  · have e : textD y m d = [] := by unfold textD; rw [if_neg h]
    rw [e]
    exact reftext_no y m d hy hm hd (by simpa using h) w
end Go.Proofs.YtehbegjocdahmaaGreatDoor
