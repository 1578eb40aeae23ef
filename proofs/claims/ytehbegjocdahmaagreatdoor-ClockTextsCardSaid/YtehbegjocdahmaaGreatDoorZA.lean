/- Contracts of clock.hasLayout, and of the closure in clock.Parse. -/
import Derived.Test.YtehbegjocdahmaaGreatDoorCkB

import Derived.Test.YtehbegjocdahmaaGreatDoorCkN

import Derived.Test.YtehbegjocdahmaaGreatDoorLIntP

namespace Go.Proofs.YtehbegjocdahmaaGreatDoor

open Go.RowKit

set_option linter.unusedVariables false

/-- The byte that the form has at a place. -/
def mfC (k : Nat) : Int := if k = 4 ∨ k = 7 then 45 else if k = 10 then 84 else if k = 13 ∨ k = 16 then 58 else 48
theorem lay19 (k : Nat) (h : k < (⟨#[48, 48, 48, 48, 45, 48, 48, 45, 48, 48, 84, 48, 48, 58, 48, 48, 58, 48, 48]⟩ : ByteArray).size) :
    ((((⟨#[48, 48, 48, 48, 45, 48, 48, 45, 48, 48, 84, 48, 48, 58, 48, 48, 58, 48, 48]⟩ : ByteArray)[k]'h).toNat : Nat) : Int) = mfC k := by
  have c : k = 0 ∨ k = 1 ∨ k = 2 ∨ k = 3 ∨ k = 4 ∨ k = 5 ∨ k = 6 ∨ k = 7 ∨ k = 8 ∨ k = 9 ∨ k = 10 ∨ k = 11 ∨ k = 12 ∨ k = 13 ∨ k = 14 ∨ k = 15 ∨ k = 16 ∨ k = 17 ∨ k = 18 := by
    have : k < 19 := h
    omega
  rcases c with rfl | rfl | rfl | rfl | rfl | rfl | rfl | rfl | rfl | rfl | rfl | rfl | rfl | rfl | rfl | rfl | rfl | rfl | rfl <;> rfl
theorem mfC_bd (k : Nat) : 45 ≤ mfC k ∧ mfC k ≤ 84 := by unfold mfC; split <;> (try split) <;> (try split) <;> omega
theorem mfAt_eq {s : ByteArray} {k : Nat} (h : k < s.size) : mfAt s.data.toList k = (if mfC k = 48 then isDig s[k] else ((s[k].toNat : Int) == mfC k)) := by
  have e : ∀ d : UInt8, (s[k] == d) = ((s[k].toNat : Int) == (d.toNat : Int)) := by
    intro d; rw [Bool.eq_iff_iff, beq_iff_eq, beq_iff_eq, ← UInt8.toNat_inj]; omega
  unfold mfAt mfC
  rw [at_getD h]
  by_cases a : k = 4 ∨ k = 7
  · rw [if_pos a, if_pos a, if_neg (by decide)]; exact e 45
  · rw [if_neg a, if_neg a]
    by_cases b : k = 10
    · rw [if_pos b, if_pos b, if_neg (by decide)]; exact e 84
    · rw [if_neg b, if_neg b]
      by_cases c : k = 13 ∨ k = 16
      · rw [if_pos c, if_pos c, if_neg (by decide)]; exact e 58
      · rw [if_neg c, if_neg c, if_pos rfl]
theorem mf_step {l : List UInt8} {k : Nat} (h : MfUpto l k) (e : mfAt l k = true) : MfUpto l (k + 1) := by
  intro i hi
  rcases Nat.lt_or_ge i k with z | z
  · exact h i z
  · obtain rfl : i = k := by omega
    exact e
set_option maxRecDepth 100000 in
set_option maxHeartbeats 4000000 in
theorem kmlay (s : ByteArray) (hs : s.size ≤ maxLen) (w : World) :
    Calls Tryz.prog 19 #[.string s] w fun e w' => e = .returned (.bool (mfL s.data.toList)) ∧ ∃ m, w' = w.drewN m := by
  unfold maxLen at hs
  have hl : s.data.toList.length = s.size := Array.length_toList
  by_cases h : s.size = 19
  · have kh : ((s.size : Int) != 19) = false := by simp; omega
    have k10 : s.size ≤ 19 := by omega
    have k11 : 19 ≤ s.size := by omega
    rw [h] at hl
    replace h := Lib.hid h
    replace hl := Lib.hid hl
    go_enter Tryz.func19, Tryz.ntmps19
    go_wp2
    go_loopw [7] (fun i wr => ∃ k : Nat, k ≤ 19 ∧ Hid (MfUpto s.data.toList k) ∧ i = .int .i64 k ∧ ∃ m, wr = w.drewN m) (fun i _ => 19 - (intOf i).toNat)
    case atStart => exact ⟨0, Nat.zero_le _, by intro i hi; omega, rfl, 0, rfl⟩
    case round =>
      obtain ⟨k, hk, HU, rfl, m, rfl⟩ := hrel
      by_cases hlt : k < 19
      · have hlt' : k < s.size := by omega
        have kz : decide ((k : Int) < 19) = true := decide_eq_true (by omega)
        have HN : Hid (mfAt s.data.toList k = false → mfL s.data.toList = false) := mf_no hlt
        have HS : Hid (mfAt s.data.toList k = true → MfUpto s.data.toList (k + 1)) := mf_step HU.out
        have HA : Hid (mfAt s.data.toList k = (if mfC k = 48 then isDig s[k] else ((s[k].toNat : Int) == mfC k))) := mfAt_eq hlt'
        have hy := fun h => lay19 k h
        have cb := mfC_bd k
        generalize mfC k = C at *
        obtain ⟨cb0, cb1⟩ := cb
        have HD := fun w => kdigit s[k] w
        clear HU
        by_cases q : ((s[k].toNat : Int) == C) = true
        · have ok : mfAt s.data.toList k = true := by
            rw [HA.out]
            by_cases c : C = 48
            · rw [if_pos c, isDig_iff]
              have : (s[k].toNat : Int) = C := by simpa using q
              omega
            · rw [if_neg c]; exact q
          have HE := Lib.hid (HS.out ok)
          clear HN HA HS ok HD
          go_wp2
          go_quiet (fail)
          go_wp2
          go_roundw
          case rel => exact ⟨k + 1, by omega, HE.out, by go_num, _, rfl⟩
          case measure => simp [intOf]; omega
        · rw [Bool.not_eq_true] at q
          by_cases c : C = 48
          · have cc : (C != 48) = false := by rw [c]; rfl
            rw [if_pos c] at HA
            by_cases d : isDig s[k] = true
            · rw [d] at HD
              replace HD := Lib.hid HD
              have HE := Lib.hid (HS.out (by rw [HA.out]; exact d))
              clear HN HA HS d c
              go_wp2
              go_quiet (fail)
              go_wp2_with fail
              refine (HD.out _).mono ?_
              rintro e w1 ⟨rfl, rfl⟩
              go_wp2
              go_roundw
              case rel => exact ⟨k + 1, by omega, HE.out, by go_num, _, rfl⟩
              case measure => simp [intOf]; omega
            · rw [Bool.not_eq_true] at d
              rw [d] at HD
              replace HD := Lib.hid HD
              have HE := Lib.hid (HN.out (by rw [HA.out]; exact d))
              clear HN HA HS d c
              go_wp2
              go_quiet (fail)
              go_wp2_with fail
              refine (HD.out _).mono ?_
              rintro e w1 ⟨rfl, rfl⟩
              go_wp2
              go_ret
              exact ⟨by rw [HE.out]; rfl, _, rfl⟩
          · have cc : (C != 48) = true := by simpa using c
            rw [if_neg c] at HA
            have HE := Lib.hid (HN.out (by rw [HA.out]; exact q))
            clear HN HA HS c HD
            go_wp2
            go_quiet (fail)
            go_wp2
            go_ret
            exact ⟨by rw [HE.out]; rfl, _, rfl⟩
      · have kz : decide ((k : Int) < 19) = false := decide_eq_false (by omega)
        have HF : Hid (mfL s.data.toList = true) := by
          obtain rfl : k = 19 := by omega
          exact mf_yes hl.out HU.out
        clear HU
        go_wp2
        go_ret
        exact ⟨by rw [HF.out]; rfl, _, rfl⟩
  · have kh : ((s.size : Int) != 19) = true := by simp; omega
    have e : Hid (mfL s.data.toList = false) := by show mfL _ = false; unfold mfL; rw [hl, decide_eq_false h, Bool.false_and]
    clear hl h
    go_enter Tryz.func19, Tryz.ntmps19
    go_wp2
    go_ret
    exact ⟨by rw [e.out]; rfl, 0, rfl⟩
/-- A variable of one cell. -/
structure One (w : World) (b : Nat) (v : Value) : Prop where
  c : w.cell? ⟨b, 0, none⟩ = some v
  lt : b < w.heap.size
theorem One.keep {w w' : World} {b : Nat} {v : Value} (h : One w b v) (hb : Below w.heap.size w w') : One w' b v :=
  ⟨by rw [hb.cell (p := ⟨b, 0, none⟩) h.lt]; exact h.c, by have := h.lt; have := hb.size; omega⟩
theorem One.new {w w' : World} {v : Value} {t : TypeId} (hb : Below (w.alloc (.cells #[v] t)).heap.size (w.alloc (.cells #[v] t)) w') : One w' w.heap.size v := by
  have hs : w.heap.size < (w.alloc (.cells #[v] t)).heap.size := by simp
  have := hb.size
  refine ⟨?_, by simp at this; omega⟩
  rw [hb.cell (p := ⟨w.heap.size, 0, none⟩) hs, World.cell?_alloc_new]; rfl
theorem One.old {w : World} {b : Nat} {v : Value} (h : One w b v) (o : Obj) : One (w.alloc o) b v := h.keep (grow (here w) o)
theorem One.drewN {w : World} {b : Nat} {v : Value} (h : One w b v) (n : Nat) : One (w.drewN n) b v := h.keep (below_drewN (here w) n)
/-- The closure reads a number of the text. -/
theorem kfield (s : ByteArray) (h : mfL s.data.toList = true) (a n b : Nat) (n0 : 0 < n) (n4 : n ≤ 4) (ha : a + n ≤ 19) (hn : ∀ i, i < n → a + i ≠ 4 ∧ a + i ≠ 7 ∧ a + i ≠ 10 ∧ a + i ≠ 13 ∧ a + i ≠ 16) (w : World) (hb : One w b (.string s)) (hev : Ev w) :
    Calls Tryz.prog 20 #[.int .i64 a, .int .i64 n, .pointer (some ⟨b, 0, none⟩)] w fun e w' => e = .returned (.int .i64 (fld s.data.toList a n)) ∧ Below w.heap.size w w' := by
  obtain ⟨hl, -⟩ := mf_of h
  have hz : s.size = 19 := by rw [← hl]; exact Array.length_toList.symm
  obtain ⟨p, q⟩ := mf_fld h a n ha hn
  have e1 : (s.extract a (a + n)).data.toList = (s.data.toList.drop a).take n := by rw [Lib.extract_data]; congr 1; omega
  have z1 : (s.extract a (a + n)).size = n := (Array.length_toList (xs := (s.extract a (a + n)).data)).symm.trans (by rw [e1]; exact q)
  have HP := cnumber (s.extract a (a + n)) (by omega) (by omega) (by rw [e1]; exact p) w hev
  rw [e1] at HP
  unfold fld
  generalize valD 0 ((s.data.toList.drop a).take n) = V at *
  obtain ⟨c, cz⟩ := hb
  replace HP := Lib.hid HP
  have s19 : s.size ≤ 19 := by omega
  have s20 : 19 ≤ s.size := by omega
  clear p q e1 z1 hn h hl hz
  go_enter Tryz.func20, Tryz.ntmps20
  go_wp2_with fail
  refine HP.out.mono ?_
  rintro e w1 ⟨rfl, hb⟩
  replace hb := Lib.hid hb
  go_wp2
  go_ret
  exact ⟨rfl, hb.out⟩
end Go.Proofs.YtehbegjocdahmaaGreatDoor
