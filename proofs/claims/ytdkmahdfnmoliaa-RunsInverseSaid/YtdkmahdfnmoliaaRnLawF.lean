/- Law 12: RunsInverse. -/
import Derived.Test.YtdkmahdfnmoliaaRnK
import Derived.Test.YtdkmahdfnmoliaaRnL
import Derived.Test.YtdkmahdfnmoliaaRnLawH
import Derived.BigQuiet
import Derived.Deep.QuietTactic
namespace Go.Proofs.Ytdkmahdfnmoliaa
open Go.RowKit
set_option linter.unusedVariables false
set_option linter.unusedSimpArgs false

theorem in_line {A : List Sp} (h : vaB A = true) {y : Int} (i : inB A y = true) : I64 y := by
  obtain ⟨p, hp, a, b⟩ := inB_iff.1 i
  have := va_ln h p hp
  exact ⟨by omega, by omega⟩
set_option maxRecDepth 100000 in
set_option maxHeartbeats 4000000 in
theorem rlinverse (va : Value) (A : List Sp) (hA : A.length ≤ maxLen) (x n : Int) (hx : I64 x) (hn : I64 n) (cpa : CapS va) {ba : Nat} (w : World) (a : PairS ba w va A) :
    Calls Try.prog 8 #[va, .int .i64 x, .int .i64 n] w fun e w' => e = .returned (.bool true) ∧ Below w.heap.size w w' := by
  have AW := Lib.hid (fun W => rawake W)
  obtain ⟨oa, ca, rfl⟩ := prs_shape a
  have GR := Lib.hid (fun w t => rgr1 oa A.length ca hA w t)
  have A0 : Hid (Below w.heap.size w w) := here w
  have PA0 := Lib.hid a
  clear a
  have HV := Lib.hid (fun W (p : PairS ba W (.slice oa A.length ca) A) => ruvalid _ A hA W p)
  cases g : decide (80 < A.length)
  · rw [g] at GR
    cases v : vaB A
    · rw [v] at HV
      clear g v hx hn hA
      go_enter Try.func8, Try.ntmps8
      go_wp2_with fail
      refine (AW.out _).mono ?_
      rintro e w1 ⟨rfl, hb⟩
      have A1 := Lib.hid (down A0.out hb)
      have PA1 := Lib.hid (PA0.out.keep hb)
      clear hb A0 PA0
      go_wp2_with fail
      refine (GR.out _ _).mono ?_
      rintro e x0 ⟨rfl, rfl⟩
      obtain ⟨w2, hw2⟩ : ∃ w' : World, w1.alloc (.cells #[.slice oa A.length ca] 22) = w' := ⟨_, rfl⟩
      rw [hw2]
      have hb : Below w1.heap.size w1 w2 := by rw [← hw2]; exact grow (here _) _
      clear hw2
      have A2 := Lib.hid (down A1.out hb)
      have PA2 := Lib.hid (PA1.out.keep hb)
      clear hb A1 PA1
      go_wp2_with fail
      refine (HV.out _ PA2.out).mono ?_
      rintro e w3 ⟨rfl, hb⟩
      have A3 := Lib.hid (down A2.out hb)
      have PA3 := Lib.hid (PA2.out.keep hb)
      clear hb A2 PA2
      go_wp2
      go_ret
      exact ⟨rfl, A3.out⟩
    · rw [v] at HV
      have N1 := Lib.hid (fun W (p : PairS ba W (.slice oa A.length ca) A) => by have h := runth _ A hA n hn W p; rw [v, if_pos rfl] at h; exact h)
      have HR := Lib.hid (fun W (p : PairS ba W (.slice oa A.length ca) A) => by have h := rurank _ A hA x hx cpa W p; rw [v, if_pos rfl] at h; exact h)
      have HX := Lib.hid (fun W (p : PairS ba W (.slice oa A.length ca) A) => by have h := runext _ A hA x hx W p; rw [v, if_pos rfl, if_pos rfl] at h; exact h)
      have HI := Lib.hid (fun W (p : PairS ba W (.slice oa A.length ca) A) => by have h := ruhas _ A hA x hx W p; rw [v, Bool.true_and] at h; exact h)
      have rk := rk_le x (fun p hp => (va_cn v).lt p hp)
      have ms := few_ms (few_of v)
      have N2 := Lib.hid (fun W (p : PairS ba W (.slice oa A.length ca) A) => by have h := runth _ A hA (rkL A x) ⟨by omega, by omega⟩ W p; rw [v, if_pos rfl, decide_eq_false (show ¬ rkL A x < 0 by omega), Bool.false_or] at h; exact h)
      obtain ⟨r, hr⟩ : ∃ r, rkL A x = r := ⟨_, rfl⟩
      cases k : (nextL A x).2
      · obtain ⟨e1, e2, e3⟩ := next_no (va_cn v) k
        rw [e1] at HX
        rw [e2, decide_eq_true (Int.le_refl _), if_pos rfl] at N2
        rw [e2] at HR
        by_cases nn : 0 ≤ n ∧ n < msL A
        · obtain ⟨n0, n1⟩ := nn
          obtain ⟨i1, i2⟩ := nth_in (va_cn v) n0 n1
          rw [decide_eq_false (show ¬ n < 0 by omega), decide_eq_false (show ¬ msL A ≤ n by omega), Bool.or_false, if_neg (by simp)] at N1
          have R1 := Lib.hid (fun W (p : PairS ba W (.slice oa A.length ca) A) => by have h := rurank _ A hA (nthL A n) (in_line v i1) cpa W p; rw [v, if_pos rfl, i2] at h; exact h)
          have I1 := Lib.hid (fun W (p : PairS ba W (.slice oa A.length ca) A) => by have h := ruhas _ A hA (nthL A n) (in_line v i1) W p; rw [v, i1, Bool.true_and] at h; exact h)
          generalize nthL A n = y at *
          generalize msL A = m at *
          clear g v hx hn hA i1 i2 e1 e2 e3 k rk ms n0 n1 hr HI cpa
          go_enter Try.func8, Try.ntmps8
          go_wp2_with fail
          refine (AW.out _).mono ?_
          rintro e w1 ⟨rfl, hb⟩
          have A1 := Lib.hid (down A0.out hb)
          have PA1 := Lib.hid (PA0.out.keep hb)
          clear hb A0 PA0
          go_wp2_with fail
          refine (GR.out _ _).mono ?_
          rintro e x0 ⟨rfl, rfl⟩
          obtain ⟨w2, hw2⟩ : ∃ w' : World, w1.alloc (.cells #[.slice oa A.length ca] 22) = w' := ⟨_, rfl⟩
          rw [hw2]
          have hb : Below w1.heap.size w1 w2 := by rw [← hw2]; exact grow (here _) _
          clear hw2
          have A2 := Lib.hid (down A1.out hb)
          have PA2 := Lib.hid (PA1.out.keep hb)
          clear hb A1 PA1
          go_wp2_with fail
          refine (HV.out _ PA2.out).mono ?_
          rintro e w3 ⟨rfl, hb⟩
          have A3 := Lib.hid (down A2.out hb)
          have PA3 := Lib.hid (PA2.out.keep hb)
          clear hb A2 PA2
          go_wp2_with fail
          refine (N1.out _ PA3.out).mono ?_
          rintro e w4 ⟨rfl, hb⟩
          have A4 := Lib.hid (down A3.out hb)
          have PA4 := Lib.hid (PA3.out.keep hb)
          clear hb A3 PA3
          go_wp2_with fail
          refine (R1.out _ PA4.out).mono ?_
          rintro e w5 ⟨rfl, hb⟩
          have A5 := Lib.hid (down A4.out hb)
          have PA5 := Lib.hid (PA4.out.keep hb)
          clear hb A4 PA4
          go_wp2_with fail
          refine (I1.out _ PA5.out).mono ?_
          rintro e w6 ⟨rfl, hb⟩
          have A6 := Lib.hid (down A5.out hb)
          have PA6 := Lib.hid (PA5.out.keep hb)
          clear hb A5 PA5
          go_wp2_with fail
          refine (HR.out _ PA6.out).mono ?_
          rintro e w7 ⟨rfl, hb⟩
          have A7 := Lib.hid (down A6.out hb)
          have PA7 := Lib.hid (PA6.out.keep hb)
          clear hb A6 PA6
          go_wp2_with fail
          refine (N2.out _ PA7.out).mono ?_
          rintro e w8 ⟨rfl, hb⟩
          have A8 := Lib.hid (down A7.out hb)
          have PA8 := Lib.hid (PA7.out.keep hb)
          clear hb A7 PA7
          go_wp2_with fail
          refine (HX.out _ PA8.out).mono ?_
          rintro e w9 ⟨rfl, hb⟩
          have A9 := Lib.hid (down A8.out hb)
          have PA9 := Lib.hid (PA8.out.keep hb)
          clear hb A8 PA8
          go_wp2
          go_ret
          exact ⟨rfl, A9.out⟩
        · rw [show (decide (n < 0) || decide (msL A ≤ n)) = true by rw [Bool.or_eq_true, decide_eq_true_iff, decide_eq_true_iff]; omega, if_pos rfl] at N1
          generalize msL A = m at *
          clear g v hx hn hA e1 e2 e3 k rk ms hr HI nn cpa
          go_enter Try.func8, Try.ntmps8
          go_wp2_with fail
          refine (AW.out _).mono ?_
          rintro e w1 ⟨rfl, hb⟩
          have A1 := Lib.hid (down A0.out hb)
          have PA1 := Lib.hid (PA0.out.keep hb)
          clear hb A0 PA0
          go_wp2_with fail
          refine (GR.out _ _).mono ?_
          rintro e x0 ⟨rfl, rfl⟩
          obtain ⟨w2, hw2⟩ : ∃ w' : World, w1.alloc (.cells #[.slice oa A.length ca] 22) = w' := ⟨_, rfl⟩
          rw [hw2]
          have hb : Below w1.heap.size w1 w2 := by rw [← hw2]; exact grow (here _) _
          clear hw2
          have A2 := Lib.hid (down A1.out hb)
          have PA2 := Lib.hid (PA1.out.keep hb)
          clear hb A1 PA1
          go_wp2_with fail
          refine (HV.out _ PA2.out).mono ?_
          rintro e w3 ⟨rfl, hb⟩
          have A3 := Lib.hid (down A2.out hb)
          have PA3 := Lib.hid (PA2.out.keep hb)
          clear hb A2 PA2
          go_wp2_with fail
          refine (N1.out _ PA3.out).mono ?_
          rintro e w4 ⟨rfl, hb⟩
          have A4 := Lib.hid (down A3.out hb)
          have PA4 := Lib.hid (PA3.out.keep hb)
          clear hb A3 PA3
          go_wp2_with fail
          refine (HR.out _ PA4.out).mono ?_
          rintro e w5 ⟨rfl, hb⟩
          have A5 := Lib.hid (down A4.out hb)
          have PA5 := Lib.hid (PA4.out.keep hb)
          clear hb A4 PA4
          go_wp2_with fail
          refine (N2.out _ PA5.out).mono ?_
          rintro e w6 ⟨rfl, hb⟩
          have A6 := Lib.hid (down A5.out hb)
          have PA6 := Lib.hid (PA5.out.keep hb)
          clear hb A5 PA5
          go_wp2_with fail
          refine (HX.out _ PA6.out).mono ?_
          rintro e w7 ⟨rfl, hb⟩
          have A7 := Lib.hid (down A6.out hb)
          have PA7 := Lib.hid (PA6.out.keep hb)
          clear hb A6 PA6
          go_wp2
          go_ret
          exact ⟨rfl, A7.out⟩
      · obtain ⟨e1, e2, e3, e4, e5⟩ := next_yes (va_cn v) (va_ln v) k
        rw [k] at HX
        rw [decide_eq_false (show ¬ msL A ≤ rkL A x by omega), if_neg (by simp), e4] at N2
        rw [e5] at HI
        rw [hr] at HR N2
        generalize (nextL A x).1 = z at *
        have kz : decide (x ≤ z) = true := decide_eq_true e1
        have kb : (z == x) = decide (z = x) := by by_cases q : z = x <;> simp [q]
        generalize decide (z = x) = d at *
        by_cases nn : 0 ≤ n ∧ n < msL A
        · obtain ⟨n0, n1⟩ := nn
          obtain ⟨i1, i2⟩ := nth_in (va_cn v) n0 n1
          rw [decide_eq_false (show ¬ n < 0 by omega), decide_eq_false (show ¬ msL A ≤ n by omega), Bool.or_false, if_neg (by simp)] at N1
          have R1 := Lib.hid (fun W (p : PairS ba W (.slice oa A.length ca) A) => by have h := rurank _ A hA (nthL A n) (in_line v i1) cpa W p; rw [v, if_pos rfl, i2] at h; exact h)
          have I1 := Lib.hid (fun W (p : PairS ba W (.slice oa A.length ca) A) => by have h := ruhas _ A hA (nthL A n) (in_line v i1) W p; rw [v, i1, Bool.true_and] at h; exact h)
          generalize nthL A n = y at *
          clear g v hx hn hA i1 i2 e1 e2 e3 e4 e5 k rk ms n0 n1 hr cpa
          go_enter Try.func8, Try.ntmps8
          go_wp2_with fail
          refine (AW.out _).mono ?_
          rintro e w1 ⟨rfl, hb⟩
          have A1 := Lib.hid (down A0.out hb)
          have PA1 := Lib.hid (PA0.out.keep hb)
          clear hb A0 PA0
          go_wp2_with fail
          refine (GR.out _ _).mono ?_
          rintro e x0 ⟨rfl, rfl⟩
          obtain ⟨w2, hw2⟩ : ∃ w' : World, w1.alloc (.cells #[.slice oa A.length ca] 22) = w' := ⟨_, rfl⟩
          rw [hw2]
          have hb : Below w1.heap.size w1 w2 := by rw [← hw2]; exact grow (here _) _
          clear hw2
          have A2 := Lib.hid (down A1.out hb)
          have PA2 := Lib.hid (PA1.out.keep hb)
          clear hb A1 PA1
          go_wp2_with fail
          refine (HV.out _ PA2.out).mono ?_
          rintro e w3 ⟨rfl, hb⟩
          have A3 := Lib.hid (down A2.out hb)
          have PA3 := Lib.hid (PA2.out.keep hb)
          clear hb A2 PA2
          go_wp2_with fail
          refine (N1.out _ PA3.out).mono ?_
          rintro e w4 ⟨rfl, hb⟩
          have A4 := Lib.hid (down A3.out hb)
          have PA4 := Lib.hid (PA3.out.keep hb)
          clear hb A3 PA3
          go_wp2_with fail
          refine (R1.out _ PA4.out).mono ?_
          rintro e w5 ⟨rfl, hb⟩
          have A5 := Lib.hid (down A4.out hb)
          have PA5 := Lib.hid (PA4.out.keep hb)
          clear hb A4 PA4
          go_wp2_with fail
          refine (I1.out _ PA5.out).mono ?_
          rintro e w6 ⟨rfl, hb⟩
          have A6 := Lib.hid (down A5.out hb)
          have PA6 := Lib.hid (PA5.out.keep hb)
          clear hb A5 PA5
          go_wp2_with fail
          refine (HR.out _ PA6.out).mono ?_
          rintro e w7 ⟨rfl, hb⟩
          have A7 := Lib.hid (down A6.out hb)
          have PA7 := Lib.hid (PA6.out.keep hb)
          clear hb A6 PA6
          go_wp2_with fail
          refine (N2.out _ PA7.out).mono ?_
          rintro e w8 ⟨rfl, hb⟩
          have A8 := Lib.hid (down A7.out hb)
          have PA8 := Lib.hid (PA7.out.keep hb)
          clear hb A7 PA7
          go_wp2_with fail
          refine (HX.out _ PA8.out).mono ?_
          rintro e w9 ⟨rfl, hb⟩
          have A9 := Lib.hid (down A8.out hb)
          have PA9 := Lib.hid (PA8.out.keep hb)
          clear hb A8 PA8
          go_wp2_with fail
          refine (HI.out _ PA9.out).mono ?_
          rintro e w10 ⟨rfl, hb⟩
          have A10 := Lib.hid (down A9.out hb)
          have PA10 := Lib.hid (PA9.out.keep hb)
          clear hb A9 PA9
          go_wp2
          go_ret
          exact ⟨rfl, A10.out⟩
        · rw [show (decide (n < 0) || decide (msL A ≤ n)) = true by rw [Bool.or_eq_true, decide_eq_true_iff, decide_eq_true_iff]; omega, if_pos rfl] at N1
          clear g v hx hn hA e1 e2 e3 e4 e5 k rk ms hr nn cpa
          go_enter Try.func8, Try.ntmps8
          go_wp2_with fail
          refine (AW.out _).mono ?_
          rintro e w1 ⟨rfl, hb⟩
          have A1 := Lib.hid (down A0.out hb)
          have PA1 := Lib.hid (PA0.out.keep hb)
          clear hb A0 PA0
          go_wp2_with fail
          refine (GR.out _ _).mono ?_
          rintro e x0 ⟨rfl, rfl⟩
          obtain ⟨w2, hw2⟩ : ∃ w' : World, w1.alloc (.cells #[.slice oa A.length ca] 22) = w' := ⟨_, rfl⟩
          rw [hw2]
          have hb : Below w1.heap.size w1 w2 := by rw [← hw2]; exact grow (here _) _
          clear hw2
          have A2 := Lib.hid (down A1.out hb)
          have PA2 := Lib.hid (PA1.out.keep hb)
          clear hb A1 PA1
          go_wp2_with fail
          refine (HV.out _ PA2.out).mono ?_
          rintro e w3 ⟨rfl, hb⟩
          have A3 := Lib.hid (down A2.out hb)
          have PA3 := Lib.hid (PA2.out.keep hb)
          clear hb A2 PA2
          go_wp2_with fail
          refine (N1.out _ PA3.out).mono ?_
          rintro e w4 ⟨rfl, hb⟩
          have A4 := Lib.hid (down A3.out hb)
          have PA4 := Lib.hid (PA3.out.keep hb)
          clear hb A3 PA3
          go_wp2_with fail
          refine (HR.out _ PA4.out).mono ?_
          rintro e w5 ⟨rfl, hb⟩
          have A5 := Lib.hid (down A4.out hb)
          have PA5 := Lib.hid (PA4.out.keep hb)
          clear hb A4 PA4
          go_wp2_with fail
          refine (N2.out _ PA5.out).mono ?_
          rintro e w6 ⟨rfl, hb⟩
          have A6 := Lib.hid (down A5.out hb)
          have PA6 := Lib.hid (PA5.out.keep hb)
          clear hb A5 PA5
          go_wp2_with fail
          refine (HX.out _ PA6.out).mono ?_
          rintro e w7 ⟨rfl, hb⟩
          have A7 := Lib.hid (down A6.out hb)
          have PA7 := Lib.hid (PA6.out.keep hb)
          clear hb A6 PA6
          go_wp2_with fail
          refine (HI.out _ PA7.out).mono ?_
          rintro e w8 ⟨rfl, hb⟩
          have A8 := Lib.hid (down A7.out hb)
          have PA8 := Lib.hid (PA7.out.keep hb)
          clear hb A7 PA7
          go_wp2
          go_ret
          exact ⟨rfl, A8.out⟩
  · rw [g] at GR
    clear g hx hn hA HV
    go_enter Try.func8, Try.ntmps8
    go_wp2_with fail
    refine (AW.out _).mono ?_
    rintro e w1 ⟨rfl, hb⟩
    have A1 := Lib.hid (down A0.out hb)
    have PA1 := Lib.hid (PA0.out.keep hb)
    clear hb A0 PA0
    go_wp2_with fail
    refine (GR.out _ _).mono ?_
    rintro e x0 ⟨rfl, rfl⟩
    obtain ⟨w2, hw2⟩ : ∃ w' : World, w1.alloc (.cells #[.slice oa A.length ca] 22) = w' := ⟨_, rfl⟩
    rw [hw2]
    have hb : Below w1.heap.size w1 w2 := by rw [← hw2]; exact grow (here _) _
    clear hw2
    have A2 := Lib.hid (down A1.out hb)
    have PA2 := Lib.hid (PA1.out.keep hb)
    clear hb A1 PA1
    go_wp2
    go_ret
    exact ⟨rfl, A2.out⟩
end Go.Proofs.Ytdkmahdfnmoliaa
