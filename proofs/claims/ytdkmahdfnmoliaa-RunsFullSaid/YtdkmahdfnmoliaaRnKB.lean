/- Contracts of package runs: Equal, limited, end, isInside. -/
import Derived.Test.YtdkmahdfnmoliaaRnKA
import Derived.Test.YtdkmahdfnmoliaaRnV
import Derived.Deep.RegionWith
import Derived.Deep.RegionHeld3
namespace Go.Proofs.Ytdkmahdfnmoliaa
open Go.RowKit
set_option linter.unusedVariables false

set_option maxRecDepth 100000 in
set_option maxHeartbeats 1000000 in
theorem ruequal (va vb : Value) (A B : List Sp) (hA : A.length ≤ maxLen) (hB : B.length ≤ maxLen) {ba bb : Nat} (w : World) (a : PairS ba w va A) (b : PairS bb w vb B) :
    Calls Try.prog 16 #[va, vb] w fun e w' => e = .returned (.bool (vaB A && vaB B && decide (A = B))) ∧ Below w.heap.size w w' := by
  rw [eq_and]
  have HV := ruvalid va A hA w a
  cases p : vaB A
  · rw [p] at HV
    clear p hA hB a b
    rw [Bool.false_and]
    go_enter Try.func16, Try.ntmps16
    go_wp2_with fail
    refine HV.mono ?_
    rintro e w1 ⟨rfl, hb⟩
    replace hb := Lib.hid hb
    go_wp2
    go_ret
    exact ⟨rfl, hb.out⟩
  · rw [p] at HV
    have hl := va_len p
    have EQ := Lib.hid (fun w1 (hb : Below w.heap.size w w1) => eq_pairs A B va vb (by omega) w1 (a.keep hb) (b.keep hb))
    rw [Bool.true_and]
    generalize (A == B) = R at *
    clear p hA hB a b hl
    go_enter Try.func16, Try.ntmps16
    go_wp2_with fail
    refine HV.mono ?_
    rintro e w1 ⟨rfl, hb⟩
    go_wp2_with fail
    refine (EQ.out _ hb).mono ?_
    rintro e w2 ⟨rfl, q, rfl⟩
    have A2 := Lib.hid (below_drewN hb q)
    clear hb EQ
    go_wp2
    go_ret
    exact ⟨rfl, A2.out⟩
theorem rulimited (o : Option Addr) (n c : Nat) (hn : n ≤ maxLen) (w : World) :
    Calls Try.prog 54 #[.slice o n c] w fun e w' => e = .returned (if 2000 < n then .tuple #[.slice none 0 0, .int .i64 5] else .tuple #[.slice o n c, .int .i64 0]) ∧ w = w' := by
  unfold maxLen at hn
  by_cases l : 2000 < n
  · rw [if_pos l]
    have kl : decide (2000 < (n : Int)) = true := decide_eq_true (by omega)
    clear l
    go_enter Try.func54, Try.ntmps54
    go_wp2
    go_ret2
    exact ⟨rfl, rfl⟩
  · rw [if_neg l]
    have kl : decide (2000 < (n : Int)) = false := decide_eq_false (by omega)
    clear l
    go_enter Try.func54, Try.ntmps54
    go_wp2
    go_ret2
    exact ⟨rfl, rfl⟩
theorem ruinside (i : Nat) (hi : i ≤ 100000) (w : World) :
    Calls Try.prog 75 #[.int .i64 i] w fun e w' => e = .returned (.bool (decide (i % 2 = 1))) ∧ w = w' := by
  obtain ⟨m, hm⟩ : ∃ m, i = 2 * m ∨ i = 2 * m + 1 := ⟨i / 2, by omega⟩
  rcases hm with rfl | rfl
  · have e1 : decide (2 * m % 2 = 1) = false := decide_eq_false (by omega)
    have t1 : ((2 * m : Nat) : Int) % 2 = 0 := by omega
    have t1' : (((2 * m : Nat) : Int).tmod 2) = 0 := by rw [Int.tmod_eq_emod_of_nonneg (by omega)]; omega
    rw [e1]
    generalize ((2 * m : Nat) : Int) = z at *
    go_enter Try.func75, Try.ntmps75
    go_wp2
    go_ret
    exact ⟨rfl, rfl⟩
  · have e1 : decide ((2 * m + 1) % 2 = 1) = true := decide_eq_true (by omega)
    have t1 : ((2 * m + 1 : Nat) : Int) % 2 = 1 := by omega
    have t1' : (((2 * m + 1 : Nat) : Int).tmod 2) = 1 := by rw [Int.tmod_eq_emod_of_nonneg (by omega)]; omega
    rw [e1]
    generalize ((2 * m + 1 : Nat) : Int) = z at *
    go_enter Try.func75, Try.ntmps75
    go_wp2
    go_ret
    exact ⟨rfl, rfl⟩
set_option maxRecDepth 100000 in
set_option maxHeartbeats 1000000 in
theorem ruend (v : Value) (A : List Sp) (va : vaB A = true) (i : Nat) (hi : i ≤ 2 * A.length) {base : Nat} (w : World) (h : PairS base w v A) :
    Calls Try.prog 74 #[v, .int .i64 i] w fun e w' => e = .returned (.int .i64 (edL A i)) ∧ w = w' := by
  have hl := va_len va
  obtain ⟨o, c, rfl⟩ := prs_shape h
  have HP := Lib.hid h
  clear h va
  by_cases z : 2 * A.length ≤ i
  · have kz : decide (2 * (A.length : Int) ≤ (i : Int)) = true := decide_eq_true (by omega)
    rw [ed_off z]
    clear z
    generalize A.length = n at *
    go_enter Try.func74, Try.ntmps74
    go_wp2
    go_ret
    exact ⟨rfl, rfl⟩
  have kz : decide (2 * (A.length : Int) ≤ (i : Int)) = false := decide_eq_false (by omega)
  obtain ⟨m, hm⟩ : ∃ m, i = 2 * m ∨ i = 2 * m + 1 := ⟨i / 2, by omega⟩
  obtain ⟨b, off, rfl, bl, cs⟩ := prs_here HP.out (show m < A.length by omega)
  obtain ⟨c0, c1⟩ := cs m (by omega)
  have ml : m < A.length := by omega
  rcases hm with rfl | rfl
  · have t1 : ((2 * m : Nat) : Int) % 2 = 0 := by omega
    have t1' : (((2 * m : Nat) : Int).tmod 2) = 0 := by rw [Int.tmod_eq_emod_of_nonneg (by omega)]; omega
    have t2 : ((2 * m : Nat) : Int) / 2 = m := by omega
    have t2' : (((2 * m : Nat) : Int).tdiv 2) = m := by rw [Int.tdiv_eq_ediv_of_nonneg (by omega)]; omega
    rw [ed_even ml]
    have b0 : (0 : Int) ≤ ((2 * m : Nat) : Int) := by omega
    have b1 : ((2 * m : Nat) : Int) ≤ 4000 := by omega
    clear cs HP c1 z
    generalize (A.getD m (0, 0)).1 = x at *
    generalize ((2 * m : Nat) : Int) = y at *
    generalize A.length = n at *
    go_enter Try.func74, Try.ntmps74
    go_wp2
    go_ret
    exact ⟨rfl, rfl⟩
  · have t1 : ((2 * m + 1 : Nat) : Int) % 2 = 1 := by omega
    have t1' : (((2 * m + 1 : Nat) : Int).tmod 2) = 1 := by rw [Int.tmod_eq_emod_of_nonneg (by omega)]; omega
    have t2 : ((2 * m + 1 : Nat) : Int) / 2 = m := by omega
    have t2' : (((2 * m + 1 : Nat) : Int).tdiv 2) = m := by rw [Int.tdiv_eq_ediv_of_nonneg (by omega)]; omega
    rw [ed_odd ml]
    have b0 : (0 : Int) ≤ ((2 * m + 1 : Nat) : Int) := by omega
    have b1 : ((2 * m + 1 : Nat) : Int) ≤ 4000 := by omega
    clear cs HP c0 z
    generalize (A.getD m (0, 0)).2 = x at *
    generalize ((2 * m + 1 : Nat) : Int) = y at *
    generalize A.length = n at *
    go_enter Try.func74, Try.ntmps74
    go_wp2
    go_ret
    exact ⟨rfl, rfl⟩
end Go.Proofs.Ytdkmahdfnmoliaa
