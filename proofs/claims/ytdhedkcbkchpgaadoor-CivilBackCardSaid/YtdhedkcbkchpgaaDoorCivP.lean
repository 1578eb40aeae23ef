/- Contracts of package civil's hasLayout and Parse. -/
import Derived.Test.YtdhedkcbkchpgaaDoorCivT
namespace Go.Proofs.YtdhedkcbkchpgaaDoor
open Go.RowKit
set_option linter.unusedVariables false

/-- The form of a text, any digit standing for 0. -/
theorem lay_at (k : Nat) (h : k < (⟨#[48, 48, 48, 48, 45, 48, 48, 45, 48, 48]⟩ : ByteArray).size) : ((⟨#[48, 48, 48, 48, 45, 48, 48, 45, 48, 48]⟩ : ByteArray)[k]'h).toNat = if k = 4 ∨ k = 7 then 45 else 48 := by
  have h' : k < 10 := h
  have c : k = 0 ∨ k = 1 ∨ k = 2 ∨ k = 3 ∨ k = 4 ∨ k = 5 ∨ k = 6 ∨ k = 7 ∨ k = 8 ∨ k = 9 := by omega
  rcases c with rfl | rfl | rfl | rfl | rfl | rfl | rfl | rfl | rfl | rfl <;> rfl
set_option maxRecDepth 100000 in
set_option maxHeartbeats 4000000 in
theorem clayout (s : ByteArray) (hs : s.size ≤ maxLen) (w : World) :
    Calls Tryd.prog 45 #[.string s] w fun e w' => e = .returned (.bool (formL s.data.toList)) ∧ w = w' := by
  unfold maxLen at hs
  have hl : s.data.toList.length = s.size := Array.length_toList
  by_cases h : s.size = 10
  · have kh : ((s.size : Int) != 10) = false := by simp; omega
    have k10 : s.size ≤ 10 := by omega
    have k11 : 10 ≤ s.size := by omega
    rw [h] at hl
    replace h := Lib.hid h
    replace hl := Lib.hid hl
    go_enter Tryd.func45, Tryd.ntmps45
    go_wp2
    go_loop [8, 3, 4] (fun i _ _ => ∃ k : Nat, k ≤ 10 ∧ Hid (FormUpto s.data.toList k) ∧ i = .int .i64 k) (fun i _ _ => 10 - (intOf i).toNat)
    case atStart => exact ⟨0, Nat.zero_le _, by intro i hi; omega, rfl⟩
    case round =>
      obtain ⟨k, hk, HU, rfl⟩ := hrel
      by_cases hlt : k < 10
      · have hlt' : k < s.size := by omega
        have HN : Hid (formAt s.data.toList k = false → formL s.data.toList = false) := form_no hlt
        have HS : Hid (formAt s.data.toList k = true → FormUpto s.data.toList (k + 1)) := by
          intro e i hi
          rcases Nat.lt_or_ge i k with z | z
          · exact HU.out i z
          · obtain rfl : i = k := by omega
            exact e
        have HA : Hid (formAt s.data.toList k = if k = 4 ∨ k = 7 then s[k] == 45 else isDig s[k]) := by
          show formAt _ k = _; unfold formAt; rw [at_getD hlt']
        clear HU
        have hd : (48 ≤ s[k].toNat ∧ s[k].toNat ≤ 57) ∨ s[k].toNat = 45 ∨ (s[k].toNat < 48 ∧ s[k].toNat ≠ 45) ∨ 57 < s[k].toNat := by omega
        rcases hd with ⟨q0, q1⟩ | q | ⟨q0, q1⟩ | q0
        · -- a digit
          by_cases p : k = 4 ∨ k = 7
          · have HE := Lib.hid (HN.out (by rw [HA.out, if_pos p, beq_eq_false_iff_ne]; intro x; rw [x] at q0; exact absurd q0 (by decide)))
            clear HN HA HS
            rcases p with rfl | rfl
            all_goals
              go_wp2
              go_ret
              exact ⟨by rw [HE.out]; rfl, rfl⟩
          · have HE := Lib.hid (HS.out (by rw [HA.out, if_neg p]; exact isDig_iff.2 ⟨q0, q1⟩))
            clear HN HA HS
            have c : k = 0 ∨ k = 1 ∨ k = 2 ∨ k = 3 ∨ k = 5 ∨ k = 6 ∨ k = 8 ∨ k = 9 := by omega
            clear p
            rcases c with rfl | rfl | rfl | rfl | rfl | rfl | rfl | rfl
            all_goals
              go_wp2
              go_round
              case rel => exact ⟨_, by omega, HE.out, rfl⟩
              case measure => simp [intOf]
        · -- a minus sign
          have k1 : decide (48 ≤ (s[k].toNat : Int)) = false := decide_eq_false (by omega)
          by_cases p : k = 4 ∨ k = 7
          · have HE := Lib.hid (HS.out (by rw [HA.out, if_pos p, beq_iff_eq]; exact UInt8.toNat_inj.1 q))
            have kq : (((s[k].toNat : Nat) : Int) != 45) = false := by rw [q]; rfl
            have hy := fun h => lay_at k h
            rw [if_pos p] at hy
            have q' := Lib.hid q
            clear HN HA HS q
            rcases p with rfl | rfl
            all_goals
              go_wp2
              go_round
              case rel => exact ⟨_, by omega, HE.out, rfl⟩
              case measure => simp [intOf]
          · have HE := Lib.hid (HN.out (by rw [HA.out, if_neg p, ← Bool.not_eq_true, isDig_iff]; omega))
            have kq : (((s[k].toNat : Nat) : Int) != 48) = true := by rw [q]; rfl
            have hy := fun h => lay_at k h
            rw [if_neg p] at hy
            clear HN HA HS q
            have c : k = 0 ∨ k = 1 ∨ k = 2 ∨ k = 3 ∨ k = 5 ∨ k = 6 ∨ k = 8 ∨ k = 9 := by omega
            clear p
            rcases c with rfl | rfl | rfl | rfl | rfl | rfl | rfl | rfl
            all_goals
              go_wp2
              go_ret
              exact ⟨by rw [HE.out]; rfl, rfl⟩
        · -- below the digits
          have k1 : decide (48 ≤ (s[k].toNat : Int)) = false := decide_eq_false (by omega)
          have HE := Lib.hid (HN.out (by
            rw [HA.out]
            by_cases p : k = 4 ∨ k = 7
            · rw [if_pos p, beq_eq_false_iff_ne]; intro x; rw [x] at q1; exact q1 rfl
            · rw [if_neg p, ← Bool.not_eq_true, isDig_iff]; omega))
          have kq : (((s[k].toNat : Nat) : Int) != 48) = true := by simp; omega
          have kr : (((s[k].toNat : Nat) : Int) != 45) = true := by simp; omega
          clear HN HA HS q1
          by_cases p : k = 4 ∨ k = 7
          · have hy := fun h => lay_at k h
            rw [if_pos p] at hy
            clear p
            go_wp2
            go_ret
            exact ⟨by rw [HE.out]; rfl, rfl⟩
          · have hy := fun h => lay_at k h
            rw [if_neg p] at hy
            clear p
            go_wp2
            go_ret
            exact ⟨by rw [HE.out]; rfl, rfl⟩
        · -- above the digits
          have k1 : decide (48 ≤ (s[k].toNat : Int)) = true := decide_eq_true (by omega)
          have k2 : decide ((s[k].toNat : Int) ≤ 57) = false := decide_eq_false (by omega)
          have HE := Lib.hid (HN.out (by
            rw [HA.out]
            by_cases p : k = 4 ∨ k = 7
            · rw [if_pos p, beq_eq_false_iff_ne]; intro x; rw [x] at q0; exact absurd q0 (by decide)
            · rw [if_neg p, ← Bool.not_eq_true, isDig_iff]; omega))
          have kq : (((s[k].toNat : Nat) : Int) != 48) = true := by simp; omega
          have kr : (((s[k].toNat : Nat) : Int) != 45) = true := by simp; omega
          clear HN HA HS
          by_cases p : k = 4 ∨ k = 7
          · have hy := fun h => lay_at k h
            rw [if_pos p] at hy
            clear p
            go_wp2
            go_ret
            exact ⟨by rw [HE.out]; rfl, rfl⟩
          · have hy := fun h => lay_at k h
            rw [if_neg p] at hy
            clear p
            go_wp2
            go_ret
            exact ⟨by rw [HE.out]; rfl, rfl⟩
      · have HF : Hid (formL s.data.toList = true) := by
          obtain rfl : k = 10 := by omega
          exact form_yes hl.out HU.out
        clear HU
        go_wp2
        go_ret
        exact ⟨by rw [HF.out]; rfl, rfl⟩
  · have kh : ((s.size : Int) != 10) = true := by simp; omega
    have e : Hid (formL s.data.toList = false) := by show formL _ = false; unfold formL; rw [hl, decide_eq_false h, Bool.false_and]
    clear hl h
    go_enter Tryd.func45, Tryd.ntmps45
    go_wp2
    go_ret
    exact ⟨by rw [e.out]; rfl, rfl⟩
end Go.Proofs.YtdhedkcbkchpgaaDoor
