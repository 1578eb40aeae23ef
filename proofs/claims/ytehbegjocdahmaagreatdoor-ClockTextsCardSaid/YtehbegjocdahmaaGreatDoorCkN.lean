/- Contracts of clock.isDigit, number, and of the reference's digit, size. -/
import Derived.Test.YtehbegjocdahmaaGreatDoorCkCut

import Derived.Test.YtehbegjocdahmaaGreatDoorCkTxt

import Derived.Test.YtehbegjocdahmaaGreatDoorCkA

import Derived.WalkSpells

namespace Go.Proofs.YtehbegjocdahmaaGreatDoor

open Go.RowKit

set_option linter.unusedVariables false

theorem tw_take (p : UInt8 → Bool) (l : List UInt8) : l.takeWhile p = l.take (l.takeWhile p).length := by
  have e := List.takeWhile_append_dropWhile (p := p) (l := l)
  conv => rhs; rw [← e]
  rw [List.take_left']
  rw [e]
theorem dw_drop (p : UInt8 → Bool) (l : List UInt8) : l.dropWhile p = l.drop (l.takeWhile p).length := by
  have e := List.takeWhile_append_dropWhile (p := p) (l := l)
  conv => rhs; rw [← e]
  rw [List.drop_left']
  rw [e]
theorem tw_upto {p : UInt8 → Bool} : ∀ {l : List UInt8} {k : Nat}, (l.take k).all p = true → (∀ h : k < l.length, p l[k] = false) → l.takeWhile p = l.take k
  | [], k, _, _ => by simp
  | c :: r, 0, _, h => by
    have := h (by simp)
    rw [List.takeWhile_cons, if_neg (by simpa using this)]; rfl
  | c :: r, k + 1, a, h => by
    rw [List.take_succ_cons, List.all_cons, Bool.and_eq_true] at a
    rw [List.takeWhile_cons, if_pos a.1, List.take_succ_cons, tw_upto a.2 (fun x => h (by simpa using x))]
def NRel (s : ByteArray) (k : Nat) (n : Int) : Prop := (s.data.toList.take k).all isDig = true ∧ n = capV (s.data.toList.take k)
theorem n_start (s : ByteArray) : NRel s 0 0 := ⟨by simp, by simp [capV, valD]⟩
theorem n_step {s : ByteArray} {k : Nat} {n : Int} (h : k < s.size) (r : NRel s k n) (d : isDig s[k] = true) :
    NRel s (k + 1) (min (10 * n + ((s[k].toNat : Int) - 48)) 4398046511105) := by
  obtain ⟨a, b⟩ := r
  obtain ⟨d0, d1⟩ := isDig_iff.1 d
  refine ⟨by rw [take_snoc s k h, List.all_append, a]; simp [d], ?_⟩
  have p := valD_pos a
  unfold capV at *
  rw [valD_snoc h, b]
  generalize valD 0 (s.data.toList.take k) = v at *
  split <;> split <;> omega
theorem n_bd {s : ByteArray} {k : Nat} {n : Int} (r : NRel s k n) : 0 ≤ n ∧ n ≤ 4398046511105 := by
  obtain ⟨a, b⟩ := r
  have p := valD_pos a
  unfold capV at b
  split at b <;> omega
theorem n_stop {s : ByteArray} {k : Nat} {n : Int} (hk : k ≤ s.size) (r : NRel s k n) (h : ∀ x : k < s.size, isDig s[k] = false) :
    capV (s.data.toList.takeWhile isDig) = n ∧ (s.data.toList.takeWhile isDig).length = k := by
  obtain ⟨a, b⟩ := r
  have hl : s.data.toList.length = s.size := Array.length_toList
  have e : s.data.toList.takeWhile isDig = s.data.toList.take k := tw_upto a (fun x => by have := h (by omega); rw [Array.getElem_toList]; exact this)
  rw [e]
  exact ⟨b.symm, by rw [List.length_take]; omega⟩
theorem kdigit (c : UInt8) (w : World) :
    Calls Tryz.prog 40 #[.int .u8 (c.toNat : Int)] w fun e w' => e = .returned (.bool (isDig c)) ∧ w = w' := by
  have e : isDig c = (decide ((48 : Int) ≤ (c.toNat : Int)) && decide ((c.toNat : Int) ≤ 57)) := by
    rw [Bool.eq_iff_iff, isDig_iff]; simp only [Bool.and_eq_true, decide_eq_true_eq]; omega
  rw [e]
  obtain ⟨a, ha⟩ : ∃ a, decide ((48 : Int) ≤ (c.toNat : Int)) = a := ⟨_, rfl⟩
  obtain ⟨b, hb⟩ : ∃ a, decide ((c.toNat : Int) ≤ 57) = a := ⟨_, rfl⟩
  rw [ha, hb]
  clear e
  cases a <;> cases b
  all_goals
    go_enter Tryz.func40, Tryz.ntmps40
    go_wp2
    go_ret
    exact ⟨rfl, rfl⟩
theorem rdigit (c : UInt8) (w : World) :
    Calls Tryz.prog 44 #[.int .u8 (c.toNat : Int)] w fun e w' => e = .returned (.bool (isDig c)) ∧ w = w' := by
  have e : isDig c = (decide ((48 : Int) ≤ (c.toNat : Int)) && decide ((c.toNat : Int) ≤ 57)) := by
    rw [Bool.eq_iff_iff, isDig_iff]; simp only [Bool.and_eq_true, decide_eq_true_eq]; omega
  rw [e]
  obtain ⟨a, ha⟩ : ∃ a, decide ((48 : Int) ≤ (c.toNat : Int)) = a := ⟨_, rfl⟩
  obtain ⟨b, hb⟩ : ∃ a, decide ((c.toNat : Int) ≤ 57) = a := ⟨_, rfl⟩
  rw [ha, hb]
  clear e
  cases a <;> cases b
  all_goals
    go_enter Tryz.func44, Tryz.ntmps44
    go_wp2
    go_ret
    exact ⟨rfl, rfl⟩
set_option maxHeartbeats 1000000 in
theorem knum (s : ByteArray) (hs : s.size ≤ 1000000) (w : World) :
    Calls Tryz.prog 52 #[.string s] w fun e w' => e = .returned (.tuple #[.int .i64 (capV (s.data.toList.takeWhile isDig)), .int .i64 ((s.data.toList.takeWhile isDig).length : Int)]) ∧ w = w' := by
  go_enter Tryz.func52, Tryz.ntmps52
  go_wp2
  go_loop [2, 3] (fun a i => ∃ (k : Nat) (n : Int), k ≤ s.size ∧ 0 ≤ n ∧ n ≤ 4398046511105 ∧ Hid (NRel s k n) ∧ a = .int .i64 n ∧ i = .int .i64 k) (fun _ i => s.size - (intOf i).toNat)
  case atStart => exact ⟨0, 0, Nat.zero_le _, by omega, by omega, Lib.hid (n_start s), rfl, rfl⟩
  case round =>
    obtain ⟨k, n, hk, n0, n1, HN, rfl, rfl⟩ := hrel
    by_cases hlt : k < s.size
    · have kz : decide ((k : Int) < (s.size : Int)) = true := decide_eq_true (by omega)
      have HD := fun w => kdigit s[k] w
      by_cases d : isDig s[k] = true
      · rw [d] at HD
        replace HD := Lib.hid HD
        have HS := n_step hlt HN.out d
        obtain ⟨c0, c1⟩ := isDig_iff.1 d
        obtain ⟨a, ha⟩ : ∃ a, min (10 * n + ((s[k].toNat : Int) - 48)) 4398046511105 = a := ⟨_, rfl⟩
        rw [ha] at HS
        obtain ⟨a0, a1⟩ := n_bd HS
        replace HS := Lib.hid HS
        clear HN d
        go_wp2_with fail
        refine (HD.out _).mono ?_
        rintro e w1 ⟨rfl, rfl⟩
        go_wp2
        go_round
        case rel => exact ⟨k + 1, a, by omega, by omega, by omega, HS, rfl, by go_num⟩
        case measure => simp [intOf]; omega
      · rw [Bool.not_eq_true] at d
        rw [d] at HD
        replace HD := Lib.hid HD
        have HE := Lib.hid (n_stop hk HN.out (fun _ => d))
        clear HN d
        go_wp2_with fail
        refine (HD.out _).mono ?_
        rintro e w1 ⟨rfl, rfl⟩
        go_wp2
        go_ret2
        exact ⟨by rw [HE.out.1, HE.out.2]; rfl, rfl⟩
    · have kz : decide ((k : Int) < (s.size : Int)) = false := decide_eq_false (by omega)
      have HE := Lib.hid (n_stop hk HN.out (fun x => absurd x hlt))
      clear HN
      go_wp2
      go_ret2
      exact ⟨by rw [HE.out.1, HE.out.2]; rfl, rfl⟩
end Go.Proofs.YtehbegjocdahmaaGreatDoor
