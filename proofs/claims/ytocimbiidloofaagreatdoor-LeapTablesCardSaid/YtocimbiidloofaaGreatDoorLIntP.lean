/- Contracts of integer.isDecimal and Parse (ShelfTwo: strconv_Atoi_ok, _range_var, strings_TrimPrefix). -/
import Derived.Test.YtocimbiidloofaaGreatDoorShelfTwo

import Derived.Test.YtocimbiidloofaaGreatDoorLDig

import Derived.Test.YtocimbiidloofaaGreatDoorLGen

import Derived.OpenShut

namespace Go.Proofs.YtocimbiidloofaaGreatDoor

open Go.RowKit

set_option linter.unusedVariables false

set_option maxHeartbeats 400000 in
theorem isDec_all (s : ByteArray) (hs : s.size ≤ maxLen) (w : World) :
    Calls Tryz.prog 68 #[.string s] w fun e w' => e = .returned (.bool (isDecL s.data.toList)) ∧ w = w' := by
  have HT := Lib.hid (fun w => Tryz.strings_TrimPrefix s ⟨#[45]⟩ w)
  have hd : (Lib.trimPrefix s.data.toList [45]).length ≤ maxLen := by
    have : s.data.toList.length ≤ maxLen := by simpa using hs
    unfold Lib.trimPrefix; split
    · simp only [List.length_drop]; omega
    · exact this
  unfold isDecL
  have e45 : ((⟨#[45]⟩ : ByteArray).data.toList) = [45] := rfl
  rw [e45] at HT
  obtain ⟨D, hD⟩ : ∃ D : ByteArray, D = ⟨(Lib.trimPrefix s.data.toList [45]).toArray⟩ := ⟨_, rfl⟩
  have hDl : Lib.trimPrefix s.data.toList [45] = D.data.toList := by rw [hD]
  have hDs : D.size ≤ maxLen := by rw [hD]; simpa [ByteArray.size] using hd
  rw [← hD] at HT
  rw [hDl]
  clear hD hDl hd e45
  unfold maxLen at hDs
  go_enter Tryz.func68, Tryz.ntmps68
  go_wp2_with fail
  refine (HT.out _).mono ?_
  rintro e w' ⟨rfl, rfl⟩
  go_wp2
  go_loop [9, 4] (fun i _ => ∃ k : Nat, k ≤ D.size ∧ i = .int .i64 k ∧ Upto D.data.toList k) (fun i _ => D.size - (intOf i).toNat)
  case atStart => exact ⟨0, Nat.zero_le _, rfl, rfl⟩
  case round =>
    obtain ⟨k, hk, rfl, HU⟩ := hrel
    by_cases hlt : k < D.size
    · have HU' := Lib.hid (upto_step hlt HU)
      have HN := Lib.hid (upto_no hlt)
      clear HU
      go_wp2
      · go_ret
        exact ⟨by rw [HN.out (by omega)]; rfl, rfl⟩
      · go_round
        case rel => exact ⟨k + 1, by omega, by go_num, HU'.out (by omega)⟩
        case measure => simp [intOf]; omega
      · go_ret
        exact ⟨by rw [HN.out (by omega)]; rfl, rfl⟩
    · have hf : digsB D.data.toList = !D.toList.isEmpty := by
        rw [ByteArray.toList_eq]
        have : D.data.toList.take k = D.data.toList := List.take_of_length_le (by simpa using (show D.size ≤ k by omega))
        unfold Upto at HU
        rw [this] at HU
        unfold digsB; rw [HU, Bool.and_true]
      replace hf := Lib.hid hf
      clear HU
      go_wp2
      go_ret
      exact ⟨by rw [hf.out]; rfl, rfl⟩
/-- The listed sentinel of strconv: an error value, whichever. -/
def Ev (w : World) : Prop := ∃ tp p, w.var? Tryz.prog "strconv.ErrRange" = some #[.iface tp p]
set_option maxHeartbeats 400000 in
theorem parse_all (s : ByteArray) (hs : s.size ≤ maxLen) (w : World) (hev : Ev w) :
    Calls Tryz.prog 51 #[.string s] w fun e w' => e = .returned (.tuple #[.int .i64 (pV s.data.toList), .int .i64 (pE s.data.toList)]) ∧ Below w.heap.size w w' := by
  have hl : s.data.toList.length = s.size := Array.length_toList
  have hs' := hs
  unfold maxLen at hs'
  unfold pV pE
  by_cases h30 : 30 < s.data.toList.length
  · rw [if_pos h30, if_pos h30]
    have k : decide ((30 : Int) < (s.size : Int)) = true := decide_eq_true (by omega)
    clear hl h30
    go_enter Tryz.func51, Tryz.ntmps51
    go_wp2
    go_ret2
    exact ⟨rfl, Below.refl _ _⟩
  · rw [if_neg h30, if_neg h30]
    have k : decide ((30 : Int) < (s.size : Int)) = false := decide_eq_false (by omega)
    have k30 : s.size ≤ 30 := by omega
    have HD := Lib.hid (fun w => isDec_all s hs w)
    clear hl h30
    by_cases hd : isDecL s.data.toList = true
    · rw [if_pos hd, if_pos hd]
      rw [hd] at HD
      have ha := atoi_num hd
      by_cases hf : fits (num s.data.toList) = true
      · have q := fits_iff.1 hf
        rw [xV_in q, xE_in q]
        rw [if_pos hf] at ha
        have HA := Lib.hid (fun w => Tryz.strconv_Atoi_ok s (by omega) _ ha w)
        generalize num s.data.toList = v at *
        clear ha hf hd q
        go_enter Tryz.func51, Tryz.ntmps51
        go_wp2_with fail
        refine (HD.out _).mono ?_
        rintro e w' ⟨rfl, rfl⟩
        go_wp2_with fail
        refine (HA.out _).mono ?_
        rintro e w2 ⟨rfl, hw⟩
        have hb : Below w.heap.size w w2 := by
          rcases hw with rfl | ⟨t, rfl⟩
          · exact Below.refl _ _
          · exact Lib.bytesWorld_below _ _ _
        clear hw
        go_wp2
        go_ret2
        exact ⟨rfl, hb⟩
      · have q := mt fits_iff.2 hf
        rw [xV_out q, xE_out q]
        rw [if_neg hf] at ha
        obtain ⟨tp, p, hp⟩ := hev
        have HA := Lib.hid (Tryz.strconv_Atoi_range_var s (by omega) ha tp p w hp)
        clear ha hf hd q hp
        go_enter Tryz.func51, Tryz.ntmps51
        go_wp2_with fail
        refine (HD.out _).mono ?_
        rintro e w' ⟨rfl, rfl⟩
        go_wp2_with fail
        refine HA.out.mono ?_
        rintro e w2 ⟨N, rfl, -, -, hb⟩
        go_wp2
        go_ret2
        exact ⟨rfl, hb⟩
    · rw [if_neg hd, if_neg hd]
      rw [Bool.not_eq_true] at hd
      rw [hd] at HD
      clear hd
      go_enter Tryz.func51, Tryz.ntmps51
      go_wp2_with fail
      refine (HD.out _).mono ?_
      rintro e w' ⟨rfl, rfl⟩
      go_wp2
      go_ret2
      exact ⟨rfl, Below.refl _ _⟩
theorem gErr : Tryz.prog.globalNamed "strconv.ErrRange" = some 4 := by kernel_rfl
theorem ev_below {w w' : World} (h : Ev w) (hb : Below w.heap.size w w') : Ev w' := by
  obtain ⟨tp, p, h⟩ := h
  exact ⟨tp, p, Joins.var_stays gErr h hb (Nat.le_refl _)⟩
/-- integer.Parse of one to four digits. -/
theorem cnumber (s : ByteArray) (h0 : 0 < s.size) (hs : s.size ≤ 4) (hd : s.data.toList.all isDig = true) (w : World) (hev : Ev w) :
    Calls Tryz.prog 51 #[.string s] w fun e w' => e = .returned (.tuple #[.int .i64 (valD 0 s.data.toList), .int .i64 0]) ∧ Below w.heap.size w w' := by
  have hl : s.data.toList.length = s.size := Array.length_toList
  have h := parse_all s (by unfold maxLen; omega) w hev
  have b := valD_four hd (by omega)
  obtain ⟨c, r, e⟩ : ∃ c r, s.data.toList = c :: r := by
    cases hh : s.data.toList with
    | nil => rw [hh] at hl; simp at hl; omega
    | cons c r => exact ⟨c, r, rfl⟩
  have d : 48 ≤ c.toNat := by rw [e, List.all_cons, Bool.and_eq_true] at hd; exact (isDig_iff.1 hd.1).1
  have hc : c ≠ 45 := fun x => by rw [x] at d; exact absurd d (by decide)
  have i : isDecL s.data.toList = true := by
    unfold isDecL digsB
    rw [e, trim_cons, if_neg hc, ← e, hd, e]; rfl
  have n : num s.data.toList = valD 0 s.data.toList := by
    rw [e, num_pos r hc, ← e, val_valD _ _ hd]; rfl
  have f : pV s.data.toList = valD 0 s.data.toList ∧ pE s.data.toList = 0 := by
    unfold pV pE
    rw [if_neg (by omega), if_pos i, if_neg (by omega), if_pos i, n]
    exact ⟨xV_in ⟨by omega, by omega⟩, xE_in ⟨by omega, by omega⟩⟩
  rw [f.1, f.2] at h
  exact h
end Go.Proofs.YtocimbiidloofaaGreatDoor
