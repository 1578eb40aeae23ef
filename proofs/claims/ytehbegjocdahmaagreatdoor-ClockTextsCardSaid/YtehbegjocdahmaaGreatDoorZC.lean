/- Contracts of the reference's number, form, two, Text. -/
import Derived.Test.YtehbegjocdahmaaGreatDoorZA

import Derived.Test.YtehbegjocdahmaaGreatDoorLRefT

import Derived.Laws.BytesArg

namespace Go.Proofs.YtehbegjocdahmaaGreatDoor

open Go.RowKit

set_option linter.unusedVariables false

theorem dig_at {t : ByteArray} (h : t.data.toList.all isDig = true) : ∀ k (hk : k < t.size), 48 ≤ t[k].toNat ∧ t[k].toNat ≤ 57 := fun k hk => by
  have hm : t[k] ∈ t.data.toList := by
    have : t[k] = t.data.toList[k]'(by simpa using hk) := rfl
    rw [this]; exact List.getElem_mem _
  exact isDig_iff.1 (List.all_eq_true.1 h _ hm)
set_option maxHeartbeats 400000 in
theorem rnumber (s : ByteArray) (hs : s.size ≤ 4) (hd : ∀ k (h : k < s.size), 48 ≤ s[k].toNat ∧ s[k].toNat ≤ 57) (w : World) :
    Calls Tryz.prog 25 #[.string s] w fun e w' => e = .returned (.int .i64 (valD 0 s.data.toList)) ∧ w = w' := by
  replace hd := Lib.hid hd
  go_enter Tryz.func25, Tryz.ntmps25
  go_wp2
  go_loop [3, 4] (fun a i => ∃ (k : Nat) (n : Int), k ≤ s.size ∧ 0 ≤ n ∧ n ≤ 10000 ∧ Hid (NumRel s k n) ∧ a = .int .i64 n ∧ i = .int .i64 k) (fun _ i => s.size - (intOf i).toNat)
  case atStart => exact ⟨0, 0, Nat.zero_le _, by omega, by omega, ⟨rfl, by omega, by decide⟩, rfl, rfl⟩
  case round =>
    obtain ⟨k, n, hk, n0, n1, HN, rfl, rfl⟩ := hrel
    by_cases hlt : k < s.size
    · obtain ⟨c0, c1⟩ := hd.out k hlt
      have HS : Hid (NumRel s (k + 1) (10 * n + ((s[k].toNat : Int) - 48))) := by
        obtain ⟨a, b, c⟩ := HN.out
        refine ⟨by rw [valD_snoc hlt, ← a], by omega, ?_⟩
        rw [Int.pow_succ]; omega
      have hb : 10 * n + ((s[k].toNat : Int) - 48) ≤ 10000 := by
        obtain ⟨-, -, c⟩ := HS.out
        have q : k = 0 ∨ k = 1 ∨ k = 2 ∨ k = 3 := by omega
        have p : (10 : Int) ^ (k + 1) ≤ 10000 := by rcases q with rfl | rfl | rfl | rfl <;> decide
        omega
      clear HN
      go_wp2
      go_round
      case rel => exact ⟨k + 1, 10 * n + ((s[k].toNat : Int) - 48), by omega, by omega, hb, HS, rfl, by go_num⟩
      case measure => simp [intOf]; omega
    · have HE : Hid (valD 0 s.data.toList = n) := by
        obtain ⟨a, -, -⟩ := HN.out
        show valD 0 s.data.toList = n
        rw [a, List.take_of_length_le (by simpa using (show s.size ≤ k by omega))]
      clear HN
      go_wp2
      go_ret
      exact ⟨by rw [HE.out]; rfl, rfl⟩
theorem mfC_cases (k : Nat) : (k = 4 ∨ k = 7) ∧ mfC k = 45 ∨ k = 10 ∧ mfC k = 84 ∨ (k = 13 ∨ k = 16) ∧ mfC k = 58 ∨ (k ≠ 4 ∧ k ≠ 7 ∧ k ≠ 10 ∧ k ≠ 13 ∧ k ≠ 16) ∧ mfC k = 48 := by
  unfold mfC
  by_cases a : k = 4 ∨ k = 7
  · rw [if_pos a]; exact .inl ⟨a, rfl⟩
  · rw [if_neg a]
    by_cases b : k = 10
    · rw [if_pos b]; exact .inr (.inl ⟨b, rfl⟩)
    · rw [if_neg b]
      by_cases c : k = 13 ∨ k = 16
      · rw [if_pos c]; exact .inr (.inr (.inl ⟨c, rfl⟩))
      · rw [if_neg c]; exact .inr (.inr (.inr ⟨by omega, rfl⟩))
set_option maxRecDepth 100000 in
set_option maxHeartbeats 4000000 in
theorem rform (s : ByteArray) (hs : s.size ≤ maxLen) (w : World) :
    Calls Tryz.prog 24 #[.string s] w fun e w' => e = .returned (.bool (mfL s.data.toList)) ∧ w = w' := by
  unfold maxLen at hs
  have hl : s.data.toList.length = s.size := Array.length_toList
  by_cases h : s.size = 19
  · have kh : ((s.size : Int) != 19) = false := by simp; omega
    have k10 : s.size ≤ 19 := by omega
    have k11 : 19 ≤ s.size := by omega
    rw [h] at hl
    replace h := Lib.hid h
    replace hl := Lib.hid hl
    go_enter Tryz.func24, Tryz.ntmps24
    go_wp2
    go_loop [3] (fun i => ∃ k : Nat, k ≤ 19 ∧ Hid (MfUpto s.data.toList k) ∧ i = .int .i64 k) (fun i => 19 - (intOf i).toNat)
    case atStart => exact ⟨0, Nat.zero_le _, by intro i hi; omega, rfl⟩
    case round =>
      obtain ⟨k, hk, HU, rfl⟩ := hrel
      by_cases hlt : k < 19
      · have hlt' : k < s.size := by omega
        have kz : decide ((k : Int) < 19) = true := decide_eq_true (by omega)
        have HN : Hid (mfAt s.data.toList k = false → mfL s.data.toList = false) := mf_no hlt
        have HS : Hid (mfAt s.data.toList k = true → MfUpto s.data.toList (k + 1)) := mf_step HU.out
        have HA : Hid (mfAt s.data.toList k = (if mfC k = 48 then isDig s[k] else ((s[k].toNat : Int) == mfC k))) := mfAt_eq hlt'
        clear HU
        rcases mfC_cases k with ⟨q, c⟩ | ⟨q, c⟩ | ⟨q, c⟩ | ⟨⟨q1, q2, q3, q4, q5⟩, c⟩
        · rw [c, if_neg (by decide)] at HA
          by_cases e : ((s[k].toNat : Int) == 45) = true
          · have kq : ((s[k].toNat : Int) != 45) = false := by rw [bne, e]; rfl
            have HE := Lib.hid (HS.out (by rw [HA.out]; exact e))
            clear HN HA HS e c
            rcases q with rfl | rfl
            all_goals
              go_wp2
              go_round
              case rel => exact ⟨_, by omega, HE.out, rfl⟩
              case measure => simp [intOf]
          · rw [Bool.not_eq_true] at e
            have kq : ((s[k].toNat : Int) != 45) = true := by rw [bne, e]; rfl
            have HE := Lib.hid (HN.out (by rw [HA.out]; exact e))
            clear HN HA HS e c
            rcases q with rfl | rfl
            all_goals
              go_wp2
              go_ret
              exact ⟨by rw [HE.out]; rfl, rfl⟩
        · rw [c, if_neg (by decide)] at HA
          subst q
          by_cases e : ((s[10].toNat : Int) == 84) = true
          · have kq : ((s[10].toNat : Int) != 84) = false := by rw [bne, e]; rfl
            have HE := Lib.hid (HS.out (by rw [HA.out]; exact e))
            clear HN HA HS e c
            go_wp2
            go_round
            case rel => exact ⟨_, by omega, HE.out, rfl⟩
            case measure => simp [intOf]
          · rw [Bool.not_eq_true] at e
            have kq : ((s[10].toNat : Int) != 84) = true := by rw [bne, e]; rfl
            have HE := Lib.hid (HN.out (by rw [HA.out]; exact e))
            clear HN HA HS e c
            go_wp2
            go_ret
            exact ⟨by rw [HE.out]; rfl, rfl⟩
        · rw [c, if_neg (by decide)] at HA
          by_cases e : ((s[k].toNat : Int) == 58) = true
          · have kq : ((s[k].toNat : Int) != 58) = false := by rw [bne, e]; rfl
            have HE := Lib.hid (HS.out (by rw [HA.out]; exact e))
            clear HN HA HS e c
            rcases q with rfl | rfl
            all_goals
              go_wp2
              go_round
              case rel => exact ⟨_, by omega, HE.out, rfl⟩
              case measure => simp [intOf]
          · rw [Bool.not_eq_true] at e
            have kq : ((s[k].toNat : Int) != 58) = true := by rw [bne, e]; rfl
            have HE := Lib.hid (HN.out (by rw [HA.out]; exact e))
            clear HN HA HS e c
            rcases q with rfl | rfl
            all_goals
              go_wp2
              go_ret
              exact ⟨by rw [HE.out]; rfl, rfl⟩
        · rw [c, if_pos rfl] at HA
          have y1 : ((k : Int) == 4) = false := by simp; omega
          have y2 : ((k : Int) == 7) = false := by simp; omega
          have y3 : ((k : Int) == 10) = false := by simp; omega
          have y4 : ((k : Int) == 13) = false := by simp; omega
          have y5 : ((k : Int) == 16) = false := by simp; omega
          have HD := fun w => rdigit s[k] w
          by_cases d : isDig s[k] = true
          · rw [d] at HD
            replace HD := Lib.hid HD
            have HE := Lib.hid (HS.out (by rw [HA.out]; exact d))
            clear HN HA HS d c
            go_wp2_with fail
            refine (HD.out _).mono ?_
            rintro e w1 ⟨rfl, rfl⟩
            go_wp2
            go_round
            case rel => exact ⟨k + 1, by omega, HE.out, by go_num⟩
            case measure => simp [intOf]; omega
          · rw [Bool.not_eq_true] at d
            rw [d] at HD
            replace HD := Lib.hid HD
            have HE := Lib.hid (HN.out (by rw [HA.out]; exact d))
            clear HN HA HS d c
            go_wp2_with fail
            refine (HD.out _).mono ?_
            rintro e w1 ⟨rfl, rfl⟩
            go_wp2
            go_ret
            exact ⟨by rw [HE.out]; rfl, rfl⟩
      · have kz : decide ((k : Int) < 19) = false := decide_eq_false (by omega)
        have HF : Hid (mfL s.data.toList = true) := by
          obtain rfl : k = 19 := by omega
          exact mf_yes hl.out HU.out
        clear HU
        go_wp2
        go_ret
        exact ⟨by rw [HF.out]; rfl, rfl⟩
  · have kh : ((s.size : Int) != 19) = true := by simp; omega
    have e : Hid (mfL s.data.toList = false) := by show mfL _ = false; unfold mfL; rw [hl, decide_eq_false h, Bool.false_and]
    clear hl h
    go_enter Tryz.func24, Tryz.ntmps24
    go_wp2
    go_ret
    exact ⟨by rw [e.out]; rfl, rfl⟩
theorem rtwo (n : Int) (n0 : 0 ≤ n) (n1 : n ≤ 99) (w : World) :
    Calls Tryz.prog 23 #[.int .i64 n] w fun e w' => e = .returned (.string ⟨(digL 2 n).toArray⟩) ∧ Below w.heap.size w w' := by
  rw [digL_two]
  obtain ⟨D, hD⟩ : ∃ D, n / 10 % 10 = D := ⟨_, rfl⟩
  obtain ⟨E, hE⟩ : ∃ D, n % 10 = D := ⟨_, rfl⟩
  have D0 : 0 ≤ D := by omega
  have D1 : D ≤ 9 := by omega
  have E0 : 0 ≤ E := by omega
  have E1 : E ≤ 9 := by omega
  rw [hD, hE]
  have hc := run_convert_bytes_arg (P := Tryz.prog) (w.alloc (.cells #[.int .u8 (48 + D), .int .u8 (48 + E)] 5)) 74 5 Tryz.underlying74 Tryz.underlying5 w.heap.size 0 2 2 [48 + D, 48 + E] rfl (fun i hi => by
    have c : i = 0 ∨ i = 1 := by omega
    rcases c with rfl | rfl <;> (rw [World.cell?_alloc_new]; rfl)) 9 Tryz.underlying9
  have hs : strOfNums [48 + D, 48 + E] = ⟨#[dgt D, dgt E]⟩ := by
    show (⟨#[UInt8.ofNat (48 + D).toNat, UInt8.ofNat (48 + E).toNat]⟩ : ByteArray) = ⟨#[UInt8.ofNat (48 + D.toNat), UInt8.ofNat (48 + E.toNat)]⟩
    rw [show (48 + D).toNat = 48 + D.toNat by omega, show (48 + E).toNat = 48 + E.toNat by omega]
  rw [hs] at hc
  go_enter Tryz.func23, Tryz.ntmps23
  go_wp2
  go_ret
  exact ⟨rfl, grow (here w) _⟩
set_option maxRecDepth 100000 in
set_option maxHeartbeats 2000000 in
theorem rtext_good (y o d h m s : Int) (v : vld y o d = true) (t : vldT h m s = true) (w : World) :
    Calls Tryz.prog 8 #[.agg #[.int .i64 y, .int .i64 o, .int .i64 d, .int .i64 h, .int .i64 m, .int .i64 s]] w fun e w' => e = .returned (.string ⟨(textM y o d h m s).toArray⟩) ∧ Below w.heap.size w w' := by
  obtain ⟨⟨t0, t1⟩, ⟨t2, t3⟩, t4, t5⟩ := vldT_iff.1 t
  have HD := Lib.hid (fun w => reftext_yes y o d v w)
  have HH := Lib.hid (fun w => rtwo h (by omega) (by omega) w)
  have HM := Lib.hid (fun w => rtwo m (by omega) (by omega) w)
  have HS := Lib.hid (fun w => rtwo s (by omega) (by omega) w)
  have HT : Hid (textM y o d h m s = textD y o d ++ [84] ++ digL 2 h ++ [58] ++ digL 2 m ++ [58] ++ digL 2 s) := by
    show _ = _; unfold textM; rw [v, t]; show textD y o d ++ [84] ++ timT h m s = _; unfold timT; simp only [List.append_assoc]
  have lD : (textD y o d).length ≤ 10 := by unfold textD; rw [if_pos v]; simp [digL_length]
  have l1 := digL_length 2 h
  have l2 := digL_length 2 m
  have l3 := digL_length 2 s
  generalize textD y o d = D at *
  generalize digL 2 h = a at *
  generalize digL 2 m = b at *
  generalize digL 2 s = c at *
  have l1' : a.length ≤ 2 := by omega
  have l2' : b.length ≤ 2 := by omega
  have l3' : c.length ≤ 2 := by omega
  clear l1 l2 l3 v t
  go_enter Tryz.func8, Tryz.ntmps8
  obtain ⟨w1, hw1⟩ : ∃ w1 : World, w.alloc (.cells #[.int .i64 y, .int .i64 o, .int .i64 d, .int .i64 h, .int .i64 m, .int .i64 s] 27) = w1 := ⟨_, rfl⟩
  have A1 : Hid (Below w.heap.size w w1) := by rw [← hw1]; exact grow (here w) _
  have B1 : Hid (Six w1 w.heap.size (.int .i64 y) (.int .i64 o) (.int .i64 d) (.int .i64 h) (.int .i64 m) (.int .i64 s)) := by rw [← hw1]; exact Six.new (here _)
  have k0 : ∀ x : Kept w1, x.wd.cell? ⟨w.heap.size, 0, none⟩ = some (.int .i64 y) := fun x => (B1.out.keep x.ok).c0
  have k1 : ∀ x : Kept w1, x.wd.cell? ⟨w.heap.size, 1, none⟩ = some (.int .i64 o) := fun x => (B1.out.keep x.ok).c1
  have k2 : ∀ x : Kept w1, x.wd.cell? ⟨w.heap.size, 2, none⟩ = some (.int .i64 d) := fun x => (B1.out.keep x.ok).c2
  have k3 : ∀ x : Kept w1, x.wd.cell? ⟨w.heap.size, 3, none⟩ = some (.int .i64 h) := fun x => (B1.out.keep x.ok).c3
  have k4 : ∀ x : Kept w1, x.wd.cell? ⟨w.heap.size, 4, none⟩ = some (.int .i64 m) := fun x => (B1.out.keep x.ok).c4
  have k5 : ∀ x : Kept w1, x.wd.cell? ⟨w.heap.size, 5, none⟩ = some (.int .i64 s) := fun x => (B1.out.keep x.ok).c5
  go_wp2
  clear hw1
  refine wp_region_kept (by kernel_rfl) (by kernel_rfl) ?_
  repeat (go_big_quiet_step (first
    | (go_at_call 22; exact kept_call _ (HD.out _))
    | (go_at_call 23; first | (with_reducible exact kept_call _ (HH.out _)) | (with_reducible exact kept_call _ (HM.out _)) | exact kept_call _ (HS.out _))))
  refine wpQuiet_nil ?_
  intro _ hx
  obtain ⟨⟨w2, hb2⟩, hw⟩ := hx
  subst hw
  go_wp2
  go_ret
  refine ⟨?_, down A1.out hb2⟩
  rw [HT.out]
  simp only [← ba_append]
  rfl
end Go.Proofs.YtehbegjocdahmaaGreatDoor
