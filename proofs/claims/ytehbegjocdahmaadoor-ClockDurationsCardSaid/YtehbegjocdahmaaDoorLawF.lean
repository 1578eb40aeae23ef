/- The walk of ClockDurations: the Go text returns true, at every input. -/
import Derived.Test.YtehbegjocdahmaaDoorAwakeM
import Derived.Test.YtehbegjocdahmaaDoorCkJ
import Derived.Test.YtehbegjocdahmaaDoorCkE
namespace Go.Proofs.YtehbegjocdahmaaDoor
open Go.RowKit
set_option linter.unusedVariables false

theorem durL_len (n : Int) : (durL n).length ≤ 100 := by
  unfold durL
  by_cases hl : linB n = true
  · obtain ⟨l0, l1⟩ := linB_iff.1 hl
    rw [if_pos hl]
    by_cases z : n = 0
    · rw [if_pos z]; simp
    · rw [if_neg z]
      obtain ⟨a, ha⟩ : ∃ a, (if n < 0 then -n else n) = a := ⟨_, rfl⟩
      have a0 : 0 < a := by rw [← ha]; split <;> omega
      have a1 : a ≤ 4398046511104 := by rw [← ha]; split <;> omega
      rw [ha, List.length_append]
      have b0 := partL_len (x := a / 86400) (c := 68) (by omega) (by omega)
      have b1 := partL_len (x := a / 3600 % 24) (c := 72) (by omega) (by omega)
      have b2 := partL_len (x := a / 60 % 60) (c := 77) (by omega) (by omega)
      have b3 := partL_len (x := a % 60) (c := 83) (by omega) (by omega)
      have hb : (bodyL a).length ≤ 60 := by
        unfold bodyL restL
        rw [List.length_append]
        split
        · simp only [List.length_nil]; omega
        · simp only [List.length_cons, List.length_append]; omega
      have hh : (if n < 0 then ([45, 80] : List UInt8) else [80]).length ≤ 2 := by split <;> simp
      omega
  · rw [if_neg hl]; simp
namespace ClockDurations
set_option maxRecDepth 100000 in
set_option maxHeartbeats 2000000 in
theorem long (n : Int) (s : ByteArray) (hs : s.size ≤ maxLen) (h : 200 < s.size) (w : World) (hl : Listed w) :
    Calls Tryd.prog 8 #[.int .i64 n, .string s] w fun e w' => e = .returned (.bool true) ∧ Below w.heap.size w w' := by
  unfold maxLen at hs
  have k : decide (200 < (s.size : Int)) = true := decide_eq_true (by omega)
  replace hl := Lib.hid hl
  go_enter Tryd.func8, Tryd.ntmps8
  go_wp2_with fail
  refine (awake_all _ hl.out).mono ?_
  rintro e w1 ⟨rfl, A1⟩
  replace A1 := Lib.hid A1
  go_wp2
  go_ret
  exact ⟨rfl, A1.out⟩
set_option maxRecDepth 100000 in
set_option maxHeartbeats 2000000 in
theorem short (n : Int) (hn : I64 n) (s : ByteArray) (h : s.size ≤ 200) (w : World) (hl : Listed w) :
    Calls Tryd.prog 8 #[.int .i64 n, .string s] w fun e w' => e = .returned (.bool true) ∧ Below w.heap.size w w' := by
  have k : decide (200 < (s.size : Int)) = false := decide_eq_false (by omega)
  have HD := fun w hu hp => kdur n hn w hu hp
  have RD := fun w => rdur n hn w
  have HL := fun w => rline n hn w
  have dl := durL_len n
  rw [← size_of] at dl
  have back := fun x : linB n = true => dur_back x
  have e1 : durL n = (⟨(durL n).toArray⟩ : ByteArray).data.toList := rfl
  rw [e1] at back
  have HB := fun w hu => kpd ⟨(durL n).toArray⟩ (by omega) w hu
  clear e1
  obtain ⟨S, hS⟩ : ∃ S : ByteArray, (⟨(durL n).toArray⟩ : ByteArray) = S := ⟨_, rfl⟩
  rw [hS] at HD RD dl back HB
  have HP := Lib.hid (fun w hu => kpd s (by omega) w hu)
  have RP := Lib.hid (fun w => rpd s (by omega) w)
  generalize durV s.data.toList = V at *
  have eb : durE s.data.toList = 0 ∨ durE s.data.toList = 3 ∨ durE s.data.toList = 9 := by
    unfold durE
    cases durP s.data.toList with
    | none => exact .inr (.inl rfl)
    | some x => show (if 4398046511104 < x then (9 : Int) else 0) = 0 ∨ (if 4398046511104 < x then (9 : Int) else 0) = 3 ∨ (if 4398046511104 < x then (9 : Int) else 0) = 9; split <;> omega
  generalize durE s.data.toList = E at *
  have e0 : 0 ≤ E := by omega
  have e9 : E ≤ 9 := by omega
  replace HD := Lib.hid HD
  replace RD := Lib.hid RD
  replace hl := Lib.hid hl
  clear hS eb hn
  cases b : linB n
  · rw [b] at HL
    replace HL := Lib.hid HL
    clear HB back b
    go_enter Tryd.func8, Tryd.ntmps8
    go_wp2_with fail
    refine (awake_all _ hl.out).mono ?_
    rintro e w1 ⟨rfl, A1⟩
    have L1 := Lib.hid (hl.out.keep A1)
    replace A1 := Lib.hid A1
    go_wp2_with fail
    refine (HD.out _ L1.out.units L1.out.tab).mono ?_
    rintro e w2 ⟨rfl, hb⟩
    have A2 := Lib.hid (down A1.out hb)
    have L2 := Lib.hid (L1.out.keep hb)
    clear hb A1 L1
    go_wp2_with fail
    refine (RD.out _).mono ?_
    rintro e w3 ⟨rfl, hb⟩
    have A3 := Lib.hid (down A2.out hb)
    have L3 := Lib.hid (L2.out.keep hb)
    clear hb A2 L2
    go_wp2_with fail
    refine (HL.out _).mono ?_
    rintro e w4 ⟨rfl, rfl⟩
    go_wp2_with fail
    refine (HP.out _ L3.out.units).mono ?_
    rintro e w4 ⟨rfl, m, rfl⟩
    go_wp2_with fail
    refine (RP.out _).mono ?_
    rintro e w4 ⟨rfl, rfl⟩
    go_wp2
    go_ret
    exact ⟨rfl, below_drewN A3.out _⟩
  · rw [b] at HL
    replace HL := Lib.hid HL
    obtain ⟨v1, v2⟩ := back b
    rw [v1, v2] at HB
    replace HB := Lib.hid HB
    clear back b v1 v2
    go_enter Tryd.func8, Tryd.ntmps8
    go_wp2_with fail
    refine (awake_all _ hl.out).mono ?_
    rintro e w1 ⟨rfl, A1⟩
    have L1 := Lib.hid (hl.out.keep A1)
    replace A1 := Lib.hid A1
    go_wp2_with fail
    refine (HD.out _ L1.out.units L1.out.tab).mono ?_
    rintro e w2 ⟨rfl, hb⟩
    have A2 := Lib.hid (down A1.out hb)
    have L2 := Lib.hid (L1.out.keep hb)
    clear hb A1 L1
    go_wp2_with fail
    refine (RD.out _).mono ?_
    rintro e w3 ⟨rfl, hb⟩
    have A3 := Lib.hid (down A2.out hb)
    have L3 := Lib.hid (L2.out.keep hb)
    clear hb A2 L2
    go_wp2_with fail
    refine (HL.out _).mono ?_
    rintro e w4 ⟨rfl, rfl⟩
    go_wp2_with fail
    refine (HB.out _ L3.out.units).mono ?_
    rintro e w4 ⟨rfl, m, rfl⟩
    go_wp2_with fail
    refine (HP.out _ (L3.out.drewN m).units).mono ?_
    rintro e w4 ⟨rfl, m2, rfl⟩
    go_wp2_with fail
    refine (RP.out _).mono ?_
    rintro e w4 ⟨rfl, rfl⟩
    go_wp2
    go_ret
    exact ⟨rfl, below_drewN A3.out _⟩
theorem walk (n : Int) (s : ByteArray) (hn : (Lit.int .i64 n).wf = true) (hs : s.size ≤ maxLen) (w : World) (hl : Listed w) :
    Calls Tryd.prog 8 #[.int .i64 n, .string s] w fun e w' => e = .returned (.bool true) ∧ Below w.heap.size w w' := by
  by_cases h : 200 < s.size
  · exact long n s hs h w hl
  · exact short n (i64_wf hn) s (by omega) w hl
end ClockDurations
end Go.Proofs.YtehbegjocdahmaaDoor
