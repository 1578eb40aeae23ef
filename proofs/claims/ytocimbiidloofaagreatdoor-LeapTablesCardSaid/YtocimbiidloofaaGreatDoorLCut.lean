/- strings.Cut at one byte. -/
import Derived.Test.YtocimbiidloofaaGreatDoorLGen

import Derived.Test.YtocimbiidloofaaGreatDoorShelfThree

import Derived.Test.YtocimbiidloofaaGreatDoorProg

import Derived.WalkKit

namespace Go.Proofs.YtocimbiidloofaaGreatDoor

open Go.RowKit

set_option linter.unusedVariables false

theorem ib_no (c : UInt8) : ∀ l : List UInt8, (∀ j, j < l.length → ¬ l.getD j 0 = c) → Lib.indexByte l c = -1
  | [], _ => rfl
  | a :: r, h => by
    have h0 : ¬ a = c := by simpa using h 0 (by simp)
    have ih := ib_no c r (fun j hj => by simpa using h (j + 1) (by simpa using hj))
    unfold Lib.indexByte
    rw [if_neg (by simpa using h0), ih, if_pos (by decide)]
theorem ib_yes (c : UInt8) : ∀ (l : List UInt8) (i : Nat), i < l.length → (∀ j, j < i → ¬ l.getD j 0 = c) → l.getD i 0 = c → Lib.indexByte l c = i
  | [], i, hi, _, _ => by simp at hi
  | a :: r, 0, _, _, e => by
    have h0 : a = c := by simpa using e
    unfold Lib.indexByte
    rw [if_pos (by simpa using h0)]; rfl
  | a :: r, i + 1, hi, f, e => by
    have h0 : ¬ a = c := by simpa using f 0 (by omega)
    have ih := ib_yes c r i (by simpa using hi) (fun j hj => by simpa using f (j + 1) (by omega)) (by simpa using e)
    unfold Lib.indexByte
    rw [if_neg (by simpa using h0), ih, if_neg (by simp)]; omega
/-- The first place of a byte. -/
theorem first_at (c : UInt8) : ∀ l : List UInt8, (∀ j, j < l.length → ¬ l.getD j 0 = c) ∨ ∃ i, i < l.length ∧ (∀ j, j < i → ¬ l.getD j 0 = c) ∧ l.getD i 0 = c
  | [] => .inl (fun j hj => by simp at hj)
  | a :: r => by
    by_cases h0 : a = c
    · exact .inr ⟨0, by simp, fun j hj => absurd hj (Nat.not_lt_zero _), by simpa using h0⟩
    · rcases first_at c r with h | ⟨i, hi, f, e⟩
      · refine .inl fun j hj => ?_
        cases j with
        | zero => simpa using h0
        | succ j => simpa using h j (by simpa using hj)
      · refine .inr ⟨i + 1, by simpa using hi, fun j hj => ?_, by simpa using e⟩
        cases j with
        | zero => simpa using h0
        | succ j => simpa using f j (by omega)
set_option maxHeartbeats 1000000 in
theorem cut_no (s : ByteArray) (hs : s.size ≤ 1000000) (c : UInt8) (h : ∀ j, j < s.data.toList.length → ¬ s.data.toList.getD j 0 = c) (w : World) :
    Calls Tryz.prog 33 #[.string s, .string ⟨#[c]⟩] w fun e w' => e = .returned (.tuple #[.string s, .string ⟨#[]⟩, .bool false]) ∧ ∃ m, w' = w.drewN m := by
  have HI := fun w => Tryz.stringslite_Index_one s c w
  rw [ib_no c _ h] at HI
  replace HI := Lib.hid HI
  clear h
  have key : Hid (∀ w, Calls Tryz.prog 49 #[.string s, .string ⟨#[c]⟩] w fun e w' => e = .returned (.tuple #[.string s, .string ⟨#[]⟩, .bool false]) ∧ ∃ m, w' = w.drewN m) := by
    intro w
    go_enter Tryz.func49, Tryz.ntmps49
    go_wp2_with fail
    refine (HI.out _).mono ?_
    rintro e w' ⟨rfl, rfl⟩
    go_wp2
    go_ret3
    exact ⟨rfl, 0, rfl⟩
  clear HI
  go_enter Tryz.func33, Tryz.ntmps33
  go_wp2_with fail
  refine (key.out _).mono ?_
  rintro e w' ⟨rfl, m, rfl⟩
  go_wp2
  go_ret3
  exact ⟨rfl, _, rfl⟩
set_option maxHeartbeats 1000000 in
theorem cut_yes (s : ByteArray) (hs : s.size ≤ 1000000) (c : UInt8) (i : Nat) (hi : i < s.data.toList.length) (f : ∀ j, j < i → ¬ s.data.toList.getD j 0 = c) (e : s.data.toList.getD i 0 = c) (w : World) :
    Calls Tryz.prog 33 #[.string s, .string ⟨#[c]⟩] w fun e w' => e = .returned (.tuple #[.string (s.extract 0 i), .string (s.extract (i + 1) s.size), .bool true]) ∧ ∃ m, w' = w.drewN m := by
  have HI := fun w => Tryz.stringslite_Index_one s c w
  rw [ib_yes c _ i hi f e] at HI
  replace HI := Lib.hid HI
  have hl : s.data.toList.length = s.size := Array.length_toList
  have i0 : i + 1 ≤ s.size := by omega
  clear f e hi hl
  have key : Hid (∀ w, Calls Tryz.prog 49 #[.string s, .string ⟨#[c]⟩] w fun e w' => e = .returned (.tuple #[.string (s.extract 0 i), .string (s.extract (i + 1) s.size), .bool true]) ∧ ∃ m, w' = w.drewN m) := by
    intro w
    go_enter Tryz.func49, Tryz.ntmps49
    go_wp2_with fail
    refine (HI.out _).mono ?_
    rintro e w' ⟨rfl, rfl⟩
    go_wp2
    go_quiet (fail)
    go_wp2
    go_ret3
    exact ⟨rfl, _, rfl⟩
  clear HI
  go_enter Tryz.func33, Tryz.ntmps33
  go_wp2_with fail
  refine (key.out _).mono ?_
  rintro e w' ⟨rfl, m, rfl⟩
  go_wp2
  go_ret3
  exact ⟨rfl, _, rfl⟩
end Go.Proofs.YtocimbiidloofaaGreatDoor
