/- The contract of clock.Duration, at every number. -/
import Derived.Test.YtehbegjocdahmaaGreatDoorCkD

namespace Go.Proofs.YtehbegjocdahmaaGreatDoor

open Go.RowKit

set_option linter.unusedVariables false

set_option maxRecDepth 100000 in
set_option maxHeartbeats 1000000 in
theorem kdur (n : Int) (hn : I64 n) (w : World) (hu : Units w) (hp : Tab w) :
    Calls Tryz.prog 13 #[.int .i64 n] w fun e w' => e = .returned (.string ⟨(durL n).toArray⟩) ∧ Below w.heap.size w w' := by
  have HL := fun w => kline n hn w
  cases hl : linB n
  · rw [hl] at HL
    replace HL := Lib.hid HL
    have e : durL n = [] := by unfold durL; rw [hl]; rfl
    rw [e]
    clear hl e hu hp
    go_enter Tryz.func13, Tryz.ntmps13
    go_wp2_with fail
    refine (HL.out _).mono ?_
    rintro e w1 ⟨rfl, rfl⟩
    go_wp2
    go_ret
    exact ⟨rfl, here _⟩
  · obtain ⟨l0, l1⟩ := linB_iff.1 hl
    by_cases z : n = 0
    · subst z
      rw [hl] at HL
      replace HL := Lib.hid HL
      clear hl hu hp
      go_enter Tryz.func13, Tryz.ntmps13
      go_wp2_with fail
      refine (HL.out _).mono ?_
      rintro e w1 ⟨rfl, rfl⟩
      go_wp2
      go_ret
      exact ⟨rfl, here _⟩
    · by_cases s : n < 0
      · have e : durL n = [45] ++ (80 :: bodyL (-n)) := by unfold durL; rw [if_pos hl, if_neg z, if_pos s, if_pos s]; rfl
        rw [e]
        have HP := fun w hu hp => kdur_pos (-n) (by omega) (by omega) w hu hp
        rw [hl] at HL
        replace HL := Lib.hid HL
        have bl : (80 :: bodyL (-n)).length ≤ 100 := by
          have q0 : (partL (-n / 86400) 68).length ≤ 14 ∧ (partL (-n / 3600 % 24) 72).length ≤ 14 ∧ (partL (-n / 60 % 60) 77).length ≤ 14 ∧ (partL (-n % 60) 83).length ≤ 14 := by
            have k : ∀ (x : Int) (c : UInt8), 0 ≤ x → x ≤ 4398046511104 → (partL x c).length ≤ 14 := by
              intro x c x0 x1
              unfold partL
              split
              · simp
              · have : (Lib.decDigits x.toNat).length ≤ 13 := (digL_dec 12 x.toNat (by omega)).1
                rw [List.length_append, List.length_singleton]; omega
            exact ⟨k _ _ (by omega) (by omega), k _ _ (by omega) (by omega), k _ _ (by omega) (by omega), k _ _ (by omega) (by omega)⟩
          rw [List.length_cons]
          unfold bodyL restL
          rw [List.length_append]
          split
          · simp only [List.length_nil]; omega
          · simp only [List.length_cons, List.length_append]; omega
        generalize 80 :: bodyL (-n) = D at *
        replace HP := Lib.hid HP
        replace hu := Lib.hid hu
        replace hp := Lib.hid hp
        have k0 : (n == 0) = false := by simpa using z
        have k1 : decide (n < 0) = true := decide_eq_true s
        clear hl e z
        go_enter Tryz.func13, Tryz.ntmps13
        go_wp2_with fail
        refine (HL.out _).mono ?_
        rintro e w1 ⟨rfl, rfl⟩
        go_wp2_with fail
        refine (HP.out _ hu.out hp.out).mono ?_
        rintro e w1 ⟨rfl, hb⟩
        replace hb := Lib.hid hb
        go_wp2
        go_ret
        exact ⟨by show Ending.returned (.string ((⟨[45].toArray⟩ : ByteArray) ++ ⟨D.toArray⟩)) = _; rw [ba_append]; rfl, hb.out⟩
      · have e : durL n = 80 :: bodyL n := by unfold durL; rw [if_pos hl, if_neg z, if_neg s, if_neg s]; rfl
        rw [e]
        exact kdur_pos n (by omega) l1 w hu hp
end Go.Proofs.YtehbegjocdahmaaGreatDoor
