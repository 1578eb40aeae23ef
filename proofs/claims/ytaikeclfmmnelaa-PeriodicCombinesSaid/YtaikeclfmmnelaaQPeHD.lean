/- Law 13: the closure of PeriodicCombines. -/
import Derived.Test.YtaikeclfmmnelaaQGI
namespace Go.Proofs.Ytaikeclfmmnelaa

open Go.RowKit

set_option linter.unusedVariables false

set_option maxRecDepth 100000 in
set_option maxHeartbeats 2000000 in
theorem rpclo (va vb : Value) (P Q : Int) (A B : List Sp) (hA : A.length ≤ 1000000) (e f : Int) {ba bb : Nat} (w : World) (a : PairS ba w va A) (b : PairS bb w vb B) :
    Calls Try.prog 23 #[.agg #[.int .i64 P, va], .int .i64 e, .agg #[.int .i64 Q, vb], .int .i64 f] w fun e' w' => e' = .returned (.bool (decide (e = f) && decide (P = Q) && decide (A = B))) ∧ Below w.heap.size w w' := by
  have A1 := Lib.hid (grow (grow (here w) (.cells #[.int .i64 P, va] 24)) (.cells #[.int .i64 Q, vb] 24))
  have TA := Lib.hid (Two.fst (here ((w.alloc (.cells #[.int .i64 P, va] 24)).alloc (.cells #[.int .i64 Q, vb] 24))))
  have TB := Lib.hid (Two.snd (here ((w.alloc (.cells #[.int .i64 P, va] 24)).alloc (.cells #[.int .i64 Q, vb] 24))))
  have HS : Hid (Calls Try.prog 22 #[va, vb] ((w.alloc (.cells #[.int .i64 P, va] 24)).alloc (.cells #[.int .i64 Q, vb] 24)) fun e w' => e = .returned (.bool (decide (A = B))) ∧ Below ((w.alloc (.cells #[.int .i64 P, va] 24)).alloc (.cells #[.int .i64 Q, vb] 24)).heap.size ((w.alloc (.cells #[.int .i64 P, va] 24)).alloc (.cells #[.int .i64 Q, vb] 24)) w') := (eq_pairs A B va vb (by omega) _ (a.keep A1.out) (b.keep A1.out)).mono (by
    rintro e w' ⟨e1, d, rfl⟩
    refine ⟨?_, below_drewN (here _) d⟩
    rw [e1]
    congr 2
    rw [Bool.eq_iff_iff, beq_iff_eq, decide_eq_true_iff])
  clear a b
  obtain ⟨t0, t1, tl⟩ := TA.out
  obtain ⟨u0, u1, ul⟩ := TB.out
  by_cases p : e = f
  · have kp : (e == f) = true := by rw [beq_iff_eq]; exact p
    by_cases q : P = Q
    · have kq : (P == Q) = true := by rw [beq_iff_eq]; exact q
      rw [decide_eq_true p, decide_eq_true q, Bool.true_and, Bool.true_and]
      generalize decide (A = B) = D at *
      clear p q
      go_enter Try.func23, Try.ntmps23
      go_wp2_with fail
      refine HS.out.mono ?_
      rintro e' w4 ⟨rfl, hb⟩
      have A4 := Lib.hid (down A1.out hb)
      go_wp2
      go_ret
      exact ⟨rfl, A4.out⟩
    · have kq : (P == Q) = false := by rw [beq_eq_false_iff_ne]; exact q
      rw [decide_eq_false q, Bool.and_false, Bool.false_and]
      clear p q
      go_enter Try.func23, Try.ntmps23
      go_wp2
      go_ret
      exact ⟨rfl, A1.out⟩
  · have kp : (e == f) = false := by rw [beq_eq_false_iff_ne]; exact p
    rw [decide_eq_false p, Bool.false_and, Bool.false_and]
    clear p
    go_enter Try.func23, Try.ntmps23
    go_wp2
    go_ret
    exact ⟨rfl, A1.out⟩
end Go.Proofs.Ytaikeclfmmnelaa
