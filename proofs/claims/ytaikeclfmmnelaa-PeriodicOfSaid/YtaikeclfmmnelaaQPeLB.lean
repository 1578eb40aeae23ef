/- Law 13: PeriodicOf. -/
import Derived.Test.YtaikeclfmmnelaaQPeHC
import Derived.Test.YtaikeclfmmnelaaQGI
import Derived.BigQuiet
import Derived.Deep.QuietTactic
import Derived.Deep.RegionWith
namespace Go.Proofs.Ytaikeclfmmnelaa
open Go.RowKit
set_option linter.unusedVariables false
set_option linter.unusedSimpArgs false

set_option maxRecDepth 100000 in
set_option maxHeartbeats 4000000 in
theorem plof (P : Int) (hP : I64 P) (va : Value) (A : List Sp) (hA : A.length ≤ maxLen) {ba : Nat} (w : World) (a : PairS ba w va A) :
    Calls Try.prog 4 #[.int .i64 P, va] w fun e w' => e = .returned (.bool true) ∧ Below w.heap.size w w' := by
  have AW := Lib.hid (fun W => rpawake W)
  obtain ⟨oa, ca, rfl⟩ := prs_shape a
  have AF_0 := Lib.hid (here w)
  have Sa_0 := Lib.hid (a.keep AF_0.out)
  clear a
  have mx : A.length ≤ 9223372036854775807 := by unfold maxLen at hA; omega
  cases ga : decide (40 < (A.length : Int))
  · have UO := Lib.hid (fun W (p : PairS ba W (.slice oa A.length ca) A) => by have h := upof _ P A hA hP W p; exact h)
    have RO := Lib.hid (fun W (p : PairS ba W (.slice oa A.length ca) A) => by have h := rpof _ P A hA hP W p; exact h)
    have EQ := Lib.hid (fun W b1 b2 v1 v2 (p : PairS b1 W v1 (ofR P A).1.2) (q : PairS b2 W v2 (ofR P A).1.2) => sl_eq v1 v2 _ (of_len2 P A) W p q)
    obtain ⟨e0, e1⟩ := of_er P A
    generalize ofR P A = r at *
    obtain ⟨⟨Q, L⟩, E⟩ := r
    have k1 : (E == E) = true := beq_self_eq_true E
    have k2 : (Q == Q) = true := beq_self_eq_true Q
    clear hA hP
    go_enter Try.func4, Try.ntmps4
    go_wp2_with fail
    refine (AW.out _).mono ?_
    rintro e w1 ⟨rfl, hb⟩
    have AF_1 := Lib.hid (down AF_0.out hb)
    have Sa_1 := Lib.hid (Sa_0.out.keep hb)
    clear hb AF_0 Sa_0
    go_wp2_with fail
    refine (UO.out _ Sa_1.out).mono ?_
    rintro e w2 ⟨⟨v1, rfl, p⟩, hb⟩
    obtain ⟨o1, c1, rfl⟩ := Sl.shape p
    have AF_2 := Lib.hid (down AF_1.out hb)
    have Sa_2 := Lib.hid (Sa_1.out.keep hb)
    clear hb AF_1 Sa_1
    have S1_2 := Lib.hid p
    clear p
    have gb := grow (here w2) (.cells #[.int .i64 Q, .slice o1 L.length c1] 24)
    have T1_3 := Lib.hid (Two.new (t := 24) (x := .int .i64 Q) (y := .slice o1 L.length c1) (here (w2.alloc (.cells #[.int .i64 Q, .slice o1 L.length c1] 24))))
    have AF_3 := Lib.hid (down AF_2.out gb)
    have Sa_3 := Lib.hid (Sa_2.out.keep gb)
    have S1_3 := Lib.hid (S1_2.out.keep gb)
    clear gb AF_2 Sa_2 S1_2
    obtain ⟨T1r0, T1r1, T1r2⟩ := T1_3.out
    go_wp2_with fail
    clear T1r0 T1r1 T1r2
    generalize (w2.alloc (.cells #[.int .i64 Q, .slice o1 L.length c1] 24)) = w3 at *
    refine (RO.out _ Sa_3.out).mono ?_
    rintro e w4 ⟨⟨v2, rfl, p⟩, hb⟩
    obtain ⟨o2, c2, rfl⟩ := Sl.shape p
    have AF_4 := Lib.hid (down AF_3.out hb)
    have T1_4 := Lib.hid (T1_3.out.keep hb)
    have Sa_4 := Lib.hid (Sa_3.out.keep hb)
    have S1_4 := Lib.hid (S1_3.out.keep hb)
    clear hb AF_3 T1_3 Sa_3 S1_3
    have S2_4 := Lib.hid p
    clear p
    have gb := grow (here w4) (.cells #[.int .i64 Q, .slice o2 L.length c2] 24)
    have T2_5 := Lib.hid (Two.new (t := 24) (x := .int .i64 Q) (y := .slice o2 L.length c2) (here (w4.alloc (.cells #[.int .i64 Q, .slice o2 L.length c2] 24))))
    have AF_5 := Lib.hid (down AF_4.out gb)
    have T1_5 := Lib.hid (T1_4.out.keep gb)
    have Sa_5 := Lib.hid (Sa_4.out.keep gb)
    have S1_5 := Lib.hid (S1_4.out.keep gb)
    have S2_5 := Lib.hid (S2_4.out.keep gb)
    clear gb AF_4 T1_4 Sa_4 S1_4 S2_4
    obtain ⟨T1r0, T1r1, T1r2⟩ := T1_5.out
    obtain ⟨T2r0, T2r1, T2r2⟩ := T2_5.out
    go_wp2_with fail
    clear T1r0 T1r1 T1r2 T2r0 T2r1 T2r2
    generalize (w4.alloc (.cells #[.int .i64 Q, .slice o2 L.length c2] 24)) = w5 at *
    refine (EQ.out _ _ _ _ _ S1_5.out S2_5.out).mono ?_
    rintro e w6 ⟨rfl, hb⟩
    have AF_6 := Lib.hid (down AF_5.out hb)
    have T1_6 := Lib.hid (T1_5.out.keep hb)
    have T2_6 := Lib.hid (T2_5.out.keep hb)
    have Sa_6 := Lib.hid (Sa_5.out.keep hb)
    have S1_6 := Lib.hid (S1_5.out.keep hb)
    have S2_6 := Lib.hid (S2_5.out.keep hb)
    clear hb AF_5 T1_5 T2_5 Sa_5 S1_5 S2_5
    obtain ⟨T1r0, T1r1, T1r2⟩ := T1_6.out
    obtain ⟨T2r0, T2r1, T2r2⟩ := T2_6.out
    go_wp2
    go_ret
    exact ⟨rfl, AF_6.out⟩
  · clear hA hP
    go_enter Try.func4, Try.ntmps4
    go_wp2_with fail
    refine (AW.out _).mono ?_
    rintro e w1 ⟨rfl, hb⟩
    have AF_1 := Lib.hid (down AF_0.out hb)
    have Sa_1 := Lib.hid (Sa_0.out.keep hb)
    clear hb AF_0 Sa_0
    go_wp2_with fail
    refine (AW.out _).mono ?_
    rintro e w2 ⟨rfl, hb⟩
    have AF_2 := Lib.hid (down AF_1.out hb)
    have Sa_2 := Lib.hid (Sa_1.out.keep hb)
    clear hb AF_1 Sa_1
    go_wp2
    go_ret
    exact ⟨rfl, AF_2.out⟩
end Go.Proofs.Ytaikeclfmmnelaa
