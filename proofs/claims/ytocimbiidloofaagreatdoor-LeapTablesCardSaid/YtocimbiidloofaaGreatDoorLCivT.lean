/- Contracts of civil.Text, hasLayout, Parse. -/
import Derived.Test.YtocimbiidloofaaGreatDoorLCivA

import Derived.Test.YtocimbiidloofaaGreatDoorLIntT

import Derived.Test.YtocimbiidloofaaGreatDoorLIntP

namespace Go.Proofs.YtocimbiidloofaaGreatDoor

open Go.RowKit

set_option linter.unusedVariables false

theorem ctext_no (y m d : Int) (hy : I64 y) (hm : I64 m) (hd : I64 d) (h : vld y m d = false) (w : World) (ht : Lens w) :
    Calls Tryz.prog 16 #[.agg #[.int .i64 y, .int .i64 m, .int .i64 d]] w fun e w' => e = .returned (.string ⟨#[]⟩) ∧ Below w.heap.size w w' := by
  have HV := fun w ht => cvalid y m d hy hm hd w ht
  rw [h] at HV
  replace HV := Lib.hid HV
  replace ht := Lib.hid ht
  clear h
  go_enter Tryz.func16, Tryz.ntmps16
  go_wp2_with fail
  refine (HV.out _ (lens_alloc ht.out _)).mono ?_
  rintro e w1 ⟨rfl, hb⟩
  have A1 := Lib.hid (down (grow (here w) _) hb)
  clear hb
  go_wp2
  go_ret
  exact ⟨rfl, A1.out⟩
set_option maxHeartbeats 1000000 in
theorem ctext_yes (y m d : Int) (h : vld y m d = true) (w : World) (ht : Lens w) (hp : Tab w) :
    Calls Tryz.prog 16 #[.agg #[.int .i64 y, .int .i64 m, .int .i64 d]] w fun e w' => e = .returned (.string ⟨(textD y m d).toArray⟩) ∧ Below w.heap.size w w' := by
  obtain ⟨y0, y1, m0, m1, d0, d1⟩ := vld_bd h
  have HV := fun w ht => cvalid y m d ⟨by omega, by omega⟩ ⟨by omega, by omega⟩ ⟨by omega, by omega⟩ w ht
  rw [h] at HV
  replace HV := Lib.hid HV
  have HY : Hid (∀ w, Tab w → Calls Tryz.prog 32 #[.int .i64 y, .int .i64 4] w fun e w' => e = .returned (.string ⟨(digL 4 y).toArray⟩) ∧ Below w.heap.size w w') := fun w ht => ctext y 3 (by omega) (by omega) (by omega) w ht
  have HM : Hid (∀ w, Tab w → Calls Tryz.prog 32 #[.int .i64 m, .int .i64 2] w fun e w' => e = .returned (.string ⟨(digL 2 m).toArray⟩) ∧ Below w.heap.size w w') := fun w ht => ctext m 1 (by omega) (by omega) (by omega) w ht
  have HD : Hid (∀ w, Tab w → Calls Tryz.prog 32 #[.int .i64 d, .int .i64 2] w fun e w' => e = .returned (.string ⟨(digL 2 d).toArray⟩) ∧ Below w.heap.size w w') := fun w ht => ctext d 1 (by omega) (by omega) (by omega) w ht
  have HT : Hid (textD y m d = digL 4 y ++ [45] ++ digL 2 m ++ [45] ++ digL 2 d) := by show _ = _; unfold textD; rw [if_pos h]
  have ly := digL_length 4 y
  have lm := digL_length 2 m
  have ld := digL_length 2 d
  generalize digL 4 y = a at *
  generalize digL 2 m = b at *
  generalize digL 2 d = c at *
  have ly' : a.length ≤ 4 := by omega
  have lm' : b.length ≤ 2 := by omega
  have ld' : c.length ≤ 2 := by omega
  replace ht := Lib.hid ht
  replace hp := Lib.hid hp
  clear ly lm ld h
  go_enter Tryz.func16, Tryz.ntmps16
  go_wp2_with fail
  refine (HV.out _ (lens_alloc ht.out _)).mono ?_
  rintro e w1 ⟨rfl, hb⟩
  have A1 := Lib.hid (down (grow (here w) _) hb)
  have B1 := Lib.hid (Box.new hb)
  have HP : Hid (∀ x : Kept w1, Tab x.wd) := fun x => tab_below hp.out (down A1.out x.ok)
  have k0 : ∀ x : Kept w1, x.wd.cell? ⟨w.heap.size, 0, none⟩ = some (.int .i64 y) := fun x => (B1.out.keep x.ok).c0
  have k1 : ∀ x : Kept w1, x.wd.cell? ⟨w.heap.size, 1, none⟩ = some (.int .i64 m) := fun x => (B1.out.keep x.ok).c1
  have k2 : ∀ x : Kept w1, x.wd.cell? ⟨w.heap.size, 2, none⟩ = some (.int .i64 d) := fun x => (B1.out.keep x.ok).c2
  clear hb
  go_wp2
  refine wp_region_kept (by kernel_rfl) (by kernel_rfl) ?_
  repeat (go_big_quiet_step ((go_at_call 32; first | (with_reducible exact kept_call _ (HY.out _ (HP.out _))) | (with_reducible exact kept_call _ (HM.out _ (HP.out _))) | exact kept_call _ (HD.out _ (HP.out _)))))
  refine wpQuiet_nil ?_
  intro _ hx
  obtain ⟨⟨w2, hb2⟩, hw⟩ := hx
  subst hw
  go_wp2
  go_ret
  refine ⟨?_, down A1.out hb2⟩
  rw [HT.out, ← ba_append, ← ba_append, ← ba_append, ← ba_append]
  rfl
theorem ctextd (y m d : Int) (hy : I64 y) (hm : I64 m) (hd : I64 d) (w : World) (ht : Lens w) (hp : Tab w) :
    Calls Tryz.prog 16 #[.agg #[.int .i64 y, .int .i64 m, .int .i64 d]] w fun e w' => e = .returned (.string ⟨(textD y m d).toArray⟩) ∧ Below w.heap.size w w' := by
  by_cases h : vld y m d = true
  · exact ctext_yes y m d h w ht hp
  · have e : textD y m d = [] := by unfold textD; rw [if_neg h]
    rw [e]
    exact ctext_no y m d hy hm hd (by simpa using h) w ht
set_option maxRecDepth 100000 in
set_option maxHeartbeats 4000000 in
theorem clayout (s : ByteArray) (hs : s.size ≤ maxLen) (w : World) :
    Calls Tryz.prog 50 #[.string s] w fun e w' => e = .returned (.bool (formL s.data.toList)) ∧ w = w' := by
  unfold maxLen at hs
  have hl : s.data.toList.length = s.size := Array.length_toList
  by_cases h : s.size = 10
  · have kh : ((s.size : Int) != 10) = false := by simp; omega
    have k10 : s.size ≤ 10 := by omega
    have k11 : 10 ≤ s.size := by omega
    rw [h] at hl
    replace h := Lib.hid h
    replace hl := Lib.hid hl
    go_enter Tryz.func50, Tryz.ntmps50
    go_wp2
    go_loop [8, 3, 4] (fun i _ _ => ∃ k : Nat, k ≤ 10 ∧ Hid (FormUpto s.data.toList k) ∧ i = .int .i64 k) (fun i _ _ => 10 - (intOf i).toNat)
    case atStart => exact ⟨0, Nat.zero_le _, by intro i hi; omega, rfl⟩
    case round =>
      obtain ⟨k, hk, HU, rfl⟩ := hrel
      by_cases hlt : k < 10
      · have hlt' : k < s.size := by omega
        have HN : Hid (formAt s.data.toList k = false → formL s.data.toList = false) := form_no hlt
        have HS : Hid (formAt s.data.toList k = true → FormUpto s.data.toList (k + 1)) := by
          intro e i hi
          rcases Nat.lt_or_ge i k with z | z
          · exact HU.out i z
          · obtain rfl : i = k := by omega
            exact e
        have HA : Hid (formAt s.data.toList k = if k = 4 ∨ k = 7 then s[k] == 45 else isDig s[k]) := by
          show formAt _ k = _; unfold formAt; rw [at_getD hlt']
        clear HU
        have hd : (48 ≤ s[k].toNat ∧ s[k].toNat ≤ 57) ∨ s[k].toNat = 45 ∨ (s[k].toNat < 48 ∧ s[k].toNat ≠ 45) ∨ 57 < s[k].toNat := by omega
        rcases hd with ⟨q0, q1⟩ | q | ⟨q0, q1⟩ | q0
        · -- a digit
          by_cases p : k = 4 ∨ k = 7
          · have HE := Lib.hid (HN.out (by rw [HA.out, if_pos p, beq_eq_false_iff_ne]; intro x; rw [x] at q0; exact absurd q0 (by decide)))
            clear HN HA HS
            rcases p with rfl | rfl
            all_goals
              go_wp2
              go_ret
              exact ⟨by rw [HE.out]; rfl, rfl⟩
          · have HE := Lib.hid (HS.out (by rw [HA.out, if_neg p]; exact isDig_iff.2 ⟨q0, q1⟩))
            clear HN HA HS
            have c : k = 0 ∨ k = 1 ∨ k = 2 ∨ k = 3 ∨ k = 5 ∨ k = 6 ∨ k = 8 ∨ k = 9 := by omega
            clear p
            rcases c with rfl | rfl | rfl | rfl | rfl | rfl | rfl | rfl
            all_goals
              go_wp2
              go_round
              case rel => exact ⟨_, by omega, HE.out, rfl⟩
              case measure => simp [intOf]
        · -- a minus sign
          have k1 : decide (48 ≤ (s[k].toNat : Int)) = false := decide_eq_false (by omega)
          by_cases p : k = 4 ∨ k = 7
          · have HE := Lib.hid (HS.out (by rw [HA.out, if_pos p, beq_iff_eq]; exact UInt8.toNat_inj.1 q))
            have kq : (((s[k].toNat : Nat) : Int) != 45) = false := by rw [q]; rfl
            have hy := fun h => lay_at k h
            rw [if_pos p] at hy
            have q' := Lib.hid q
            clear HN HA HS q
            rcases p with rfl | rfl
            all_goals
              go_wp2
              go_round
              case rel => exact ⟨_, by omega, HE.out, rfl⟩
              case measure => simp [intOf]
          · have HE := Lib.hid (HN.out (by rw [HA.out, if_neg p, ← Bool.not_eq_true, isDig_iff]; omega))
            have kq : (((s[k].toNat : Nat) : Int) != 48) = true := by rw [q]; rfl
            have hy := fun h => lay_at k h
            rw [if_neg p] at hy
            clear HN HA HS q
            have c : k = 0 ∨ k = 1 ∨ k = 2 ∨ k = 3 ∨ k = 5 ∨ k = 6 ∨ k = 8 ∨ k = 9 := by omega
            clear p
            rcases c with rfl | rfl | rfl | rfl | rfl | rfl | rfl | rfl
            all_goals
              go_wp2
              go_ret
              exact ⟨by rw [HE.out]; rfl, rfl⟩
        · -- below the digits
          have k1 : decide (48 ≤ (s[k].toNat : Int)) = false := decide_eq_false (by omega)
          have HE := Lib.hid (HN.out (by
            rw [HA.out]
            by_cases p : k = 4 ∨ k = 7
            · rw [if_pos p, beq_eq_false_iff_ne]; intro x; rw [x] at q1; exact q1 rfl
            · rw [if_neg p, ← Bool.not_eq_true, isDig_iff]; omega))
          have kq : (((s[k].toNat : Nat) : Int) != 48) = true := by simp; omega
          have kr : (((s[k].toNat : Nat) : Int) != 45) = true := by simp; omega
          clear HN HA HS q1
          by_cases p : k = 4 ∨ k = 7
          · have hy := fun h => lay_at k h
            rw [if_pos p] at hy
            clear p
            go_wp2
            go_ret
            exact ⟨by rw [HE.out]; rfl, rfl⟩
          · have hy := fun h => lay_at k h
            rw [if_neg p] at hy
            clear p
            go_wp2
            go_ret
            exact ⟨by rw [HE.out]; rfl, rfl⟩
        · -- above the digits
          have k1 : decide (48 ≤ (s[k].toNat : Int)) = true := decide_eq_true (by omega)
          have k2 : decide ((s[k].toNat : Int) ≤ 57) = false := decide_eq_false (by omega)
          have HE := Lib.hid (HN.out (by
            rw [HA.out]
            by_cases p : k = 4 ∨ k = 7
            · rw [if_pos p, beq_eq_false_iff_ne]; intro x; rw [x] at q0; exact absurd q0 (by decide)
            · rw [if_neg p, ← Bool.not_eq_true, isDig_iff]; omega))
          have kq : (((s[k].toNat : Nat) : Int) != 48) = true := by simp; omega
          have kr : (((s[k].toNat : Nat) : Int) != 45) = true := by simp; omega
          clear HN HA HS
          by_cases p : k = 4 ∨ k = 7
          · have hy := fun h => lay_at k h
            rw [if_pos p] at hy
            clear p
            go_wp2
            go_ret
            exact ⟨by rw [HE.out]; rfl, rfl⟩
          · have hy := fun h => lay_at k h
            rw [if_neg p] at hy
            clear p
            go_wp2
            go_ret
            exact ⟨by rw [HE.out]; rfl, rfl⟩
      · have HF : Hid (formL s.data.toList = true) := by
          obtain rfl : k = 10 := by omega
          exact form_yes hl.out HU.out
        clear HU
        go_wp2
        go_ret
        exact ⟨by rw [HF.out]; rfl, rfl⟩
  · have kh : ((s.size : Int) != 10) = true := by simp; omega
    have e : Hid (formL s.data.toList = false) := by show formL _ = false; unfold formL; rw [hl, decide_eq_false h, Bool.false_and]
    clear hl h
    go_enter Tryz.func50, Tryz.ntmps50
    go_wp2
    go_ret
    exact ⟨by rw [e.out]; rfl, rfl⟩
theorem cparse_form (s : ByteArray) (hs : s.size ≤ maxLen) (h : formL s.data.toList = false) (w : World) :
    Calls Tryz.prog 34 #[.string s] w fun e w' => e = .returned (.tuple #[.agg #[.int .i64 0, .int .i64 0, .int .i64 0], .int .i64 3]) ∧ Below w.heap.size w w' := by
  have HF := fun w => clayout s hs w
  rw [h] at HF
  replace HF := Lib.hid HF
  clear h
  go_enter Tryz.func34, Tryz.ntmps34
  go_wp2_with fail
  refine (HF.out _).mono ?_
  rintro e w' ⟨rfl, rfl⟩
  go_wp2
  exact bodyPost_ret (v := .tuple #[.agg #[.int .i64 0, .int .i64 0, .int .i64 0], .int .i64 3]) (by simp [results, Tryz.results34, go_sem]) rfl ⟨rfl, grow (here _) _⟩
set_option maxRecDepth 100000 in
set_option maxHeartbeats 1000000 in
theorem cparse_some (s : ByteArray) (h : formL s.data.toList = true) (b : Bool) (Y M D : Int) (hb : vld (yearOf s.data.toList) (monOf s.data.toList) (dayOf s.data.toList) = b)
    (hY : yearOf s.data.toList = Y) (hM : monOf s.data.toList = M) (hD : dayOf s.data.toList = D) (w : World) (ht : Lens w) (hev : Ev w) :
    Calls Tryz.prog 34 #[.string s] w fun e w' => e = .returned (.tuple #[.agg #[.int .i64 (if b then Y else 0), .int .i64 (if b then M else 0), .int .i64 (if b then D else 0)], .int .i64 (if b then 0 else 1)]) ∧ Below w.heap.size w w' := by
  obtain ⟨hz, ⟨z1, g1, v1⟩, ⟨z2, g2, v2⟩, ⟨z3, g3, v3⟩⟩ := parts_text h
  have HF := fun w => clayout s (by rw [hz]; unfold maxLen; omega) w
  rw [h] at HF
  replace HF := Lib.hid HF
  have HA := fun w hev => cnumber (s.extract 0 4) (by omega) (by omega) g1 w hev
  have HB := fun w hev => cnumber (s.extract 5 7) (by omega) (by omega) g2 w hev
  have HC := fun w hev => cnumber (s.extract 8 s.size) (by omega) (by omega) g3 w hev
  have b1 := valD_four g1 (by rw [show (s.extract 0 4).data.toList.length = (s.extract 0 4).size from Array.length_toList]; omega)
  have b2 := valD_four g2 (by rw [show (s.extract 5 7).data.toList.length = (s.extract 5 7).size from Array.length_toList]; omega)
  have b3 := valD_four g3 (by rw [show (s.extract 8 s.size).data.toList.length = (s.extract 8 s.size).size from Array.length_toList]; omega)
  rw [v1, hY] at HA b1
  rw [v2, hM] at HB b2
  rw [v3, hD] at HC b3
  rw [hY, hM, hD] at hb
  have HV := fun w ht => cvalid Y M D ⟨by omega, by omega⟩ ⟨by omega, by omega⟩ ⟨by omega, by omega⟩ w ht
  rw [hb] at HV
  replace HA := Lib.hid HA
  replace HB := Lib.hid HB
  replace HC := Lib.hid HC
  replace HV := Lib.hid HV
  have s10 : s.size ≤ 10 := by omega
  have s11 : 10 ≤ s.size := by omega
  replace ht := Lib.hid ht
  replace hev := Lib.hid hev
  clear h hb hY hM hD z1 g1 v1 z2 g2 v2 z3 g3 v3 hz
  cases b
  all_goals
    go_enter Tryz.func34, Tryz.ntmps34
    go_wp2_with fail
    refine (HF.out _).mono ?_
    rintro e w' ⟨rfl, rfl⟩
    go_wp2_with fail
    refine (HA.out _ (ev_below hev.out (grow (here w) _))).mono ?_
    rintro e w1 ⟨rfl, hb⟩
    have A1 := Lib.hid (down (grow (here w) _) hb)
    have B1 := Lib.hid (Box.new hb)
    have F1 := Lib.hid (Free.new hb)
    clear hb
    go_wp2_with fail
    refine (HB.out _ (ev_below hev.out A1.out)).mono ?_
    rintro e w2 ⟨rfl, hb⟩
    have A2 := Lib.hid (down A1.out hb)
    have B2 := Lib.hid (B1.out.keep hb)
    have F2 := Lib.hid (F1.out.keep B1.out.lt hb)
    clear hb A1 B1 F1
    go_wp2_with fail
    refine (HC.out _ (ev_below hev.out A2.out)).mono ?_
    rintro e w3 ⟨rfl, hb⟩
    have A3 := Lib.hid (down A2.out hb)
    have B3 := Lib.hid (B2.out.keep hb)
    have F3 := Lib.hid (F2.out.keep B2.out.lt hb)
    clear hb A2 B2 F2
    go_wp2_with fail
    refine (HV.out _ (lens_below ht.out (grow A3.out _))).mono ?_
    rintro e w4 ⟨rfl, hb⟩
    have A4 := Lib.hid (down (grow A3.out _) hb)
    have B4 := Lib.hid ((B3.out.old _).keep hb)
    have C4 := Lib.hid (Box.new hb)
    have F4 := Lib.hid ((F3.out.keep B3.out.lt (grow (here _) _)).keep (B3.out.old _).lt hb)
    clear hb A3 B3 F3
    obtain ⟨c0, c1, c2, zc⟩ := B4.out
    obtain ⟨d0, d1, d2, zd⟩ := C4.out
    obtain ⟨f0, f1, f2⟩ := F4.out
    go_wp2
  · exact bodyPost_ret (v := .tuple #[.agg #[.int .i64 0, .int .i64 0, .int .i64 0], .int .i64 1]) (by simp [results, Tryz.results34, go_sem, c0, c1, c2]) rfl ⟨rfl, ((A4.out.setCell (Nat.le_refl _) _).setCell (Nat.le_refl _) _).setCell (Nat.le_refl _) _⟩
  · exact bodyPost_ret (v := .tuple #[.agg #[.int .i64 Y, .int .i64 M, .int .i64 D], .int .i64 0]) (by simp [results, Tryz.results34, go_sem, c0, c1, c2]) rfl ⟨rfl, ((A4.out.setCell (Nat.le_refl _) _).setCell (Nat.le_refl _) _).setCell (Nat.le_refl _) _⟩
end Go.Proofs.YtocimbiidloofaaGreatDoor
