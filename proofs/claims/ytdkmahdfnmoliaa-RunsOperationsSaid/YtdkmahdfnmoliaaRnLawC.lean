/- Law 12: RunsOperations. -/
import Derived.Test.YtdkmahdfnmoliaaRnK
import Derived.Test.YtdkmahdfnmoliaaRnY
import Derived.BigQuiet
import Derived.Deep.QuietTactic
namespace Go.Proofs.Ytdkmahdfnmoliaa
open Go.RowKit
set_option linter.unusedVariables false
set_option linter.unusedSimpArgs false

set_option maxRecDepth 100000 in
set_option maxHeartbeats 1000000 in
theorem rlcheck (v u : Value) (L : List Sp) (hL : L.length ≤ maxLen) (e : Int) {b b' : Nat} (w : World) (p : PairS b w v L) (q : PairS b' w u L) :
    Calls Try.prog 21 #[v, .int .i64 e, u, .int .i64 e] w fun e w' => e = .returned (.bool true) ∧ Below w.heap.size w w' := by
  have SM := rnsame v u L L hL hL w p q
  rw [decide_eq_true rfl] at SM
  have k : (e == e) = true := beq_self_eq_true e
  clear p q hL
  go_enter Try.func21, Try.ntmps21
  go_wp2_with fail
  refine SM.mono ?_
  rintro e w1 ⟨rfl, hb⟩
  replace hb := Lib.hid hb
  go_wp2
  go_ret
  exact ⟨rfl, hb.out⟩
set_option maxRecDepth 100000 in
set_option maxHeartbeats 4000000 in
theorem rloperations (va vb : Value) (A B : List Sp) (hA : A.length ≤ maxLen) (hB : B.length ≤ maxLen) (x y : Int) (hx : I64 x) (hy : I64 y) {ba bb : Nat} (w : World) (a : PairS ba w va A) (b : PairS bb w vb B) :
    Calls Try.prog 5 #[va, vb, .agg #[.int .i64 x, .int .i64 y]] w fun e w' => e = .returned (.bool true) ∧ Below w.heap.size w w' := by
  have AW := Lib.hid (fun W => rawake W)
  obtain ⟨oa, ca, rfl⟩ := prs_shape a
  obtain ⟨ob, cb, rfl⟩ := prs_shape b
  have GR := Lib.hid (fun w t => rgr2 oa A.length ca hA ob B.length cb hB w t)
  obtain ⟨w0, hw0⟩ : ∃ w' : World, w.alloc (.cells #[.int .i64 x, .int .i64 y] 33) = w' := ⟨_, rfl⟩
  have A0 : Hid (Below w.heap.size w w0) := by show Below _ _ _; rw [← hw0]; exact grow (here w) _
  have X0 : Hid (Two w0 w.heap.size (.int .i64 x) (.int .i64 y)) := by show Two _ _ _ _; rw [← hw0]; exact Two.new (here _)
  have PA0 := Lib.hid (a.keep (show Below w.heap.size w w0 by rw [← hw0]; exact grow (here w) _))
  have PB0 := Lib.hid (b.keep (show Below w.heap.size w w0 by rw [← hw0]; exact grow (here w) _))
  clear a b
  have H1 := Lib.hid (fun W (p : PairS ba W (.slice oa A.length ca) A) (q : PairS bb W (.slice ob B.length cb) B) => ruunion _ _ A B hA hB W p q)
  have R1 := Lib.hid (fun W (p : PairS ba W (.slice oa A.length ca) A) (q : PairS bb W (.slice ob B.length cb) B) => rnapply 1 _ _ A B hA hB W p q)
  have K1 := Lib.hid (fun W (b b' : Nat) (v u : Value) (p : PairS b W v (ruAp 1 A B).1) (q : PairS b' W u (ruAp 1 A B).1) => rlcheck v u _ (small_max (Nat.le_trans (ap_len 1 A B) (by decide))) (ruAp 1 A B).2 W p q)
  have H2 := Lib.hid (fun W (p : PairS ba W (.slice oa A.length ca) A) (q : PairS bb W (.slice ob B.length cb) B) => rumeet _ _ A B hA hB W p q)
  have R2 := Lib.hid (fun W (p : PairS ba W (.slice oa A.length ca) A) (q : PairS bb W (.slice ob B.length cb) B) => rnapply 2 _ _ A B hA hB W p q)
  have K2 := Lib.hid (fun W (b b' : Nat) (v u : Value) (p : PairS b W v (ruAp 2 A B).1) (q : PairS b' W u (ruAp 2 A B).1) => rlcheck v u _ (small_max (Nat.le_trans (ap_len 2 A B) (by decide))) (ruAp 2 A B).2 W p q)
  have H3 := Lib.hid (fun W (p : PairS ba W (.slice oa A.length ca) A) (q : PairS bb W (.slice ob B.length cb) B) => ruminus _ _ A B hA hB W p q)
  have R3 := Lib.hid (fun W (p : PairS ba W (.slice oa A.length ca) A) (q : PairS bb W (.slice ob B.length cb) B) => rnapply 3 _ _ A B hA hB W p q)
  have K3 := Lib.hid (fun W (b b' : Nat) (v u : Value) (p : PairS b W v (ruAp 3 A B).1) (q : PairS b' W u (ruAp 3 A B).1) => rlcheck v u _ (small_max (Nat.le_trans (ap_len 3 A B) (by decide))) (ruAp 3 A B).2 W p q)
  have H4 := Lib.hid (fun W (p : PairS ba W (.slice oa A.length ca) A) (q : PairS bb W (.slice ob B.length cb) B) => rueither _ _ A B hA hB W p q)
  have R4 := Lib.hid (fun W (p : PairS ba W (.slice oa A.length ca) A) (q : PairS bb W (.slice ob B.length cb) B) => rnapply 4 _ _ A B hA hB W p q)
  have K4 := Lib.hid (fun W (b b' : Nat) (v u : Value) (p : PairS b W v (ruAp 4 A B).1) (q : PairS b' W u (ruAp 4 A B).1) => rlcheck v u _ (small_max (Nat.le_trans (ap_len 4 A B) (by decide))) (ruAp 4 A B).2 W p q)
  have H5 := Lib.hid (fun W (p : PairS ba W (.slice oa A.length ca) A) => runot _ A hA x y hx hy W p)
  have R5 := Lib.hid (fun W (p : PairS ba W (.slice oa A.length ca) A) => rnnot _ A hA x y W p)
  have K5 := Lib.hid (fun W (b b' : Nat) (v u : Value) (p : PairS b W v (ruNot A (x, y)).1) (q : PairS b' W u (ruNot A (x, y)).1) => rlcheck v u _ (small_max (Nat.le_trans (not_len A (x, y)) (by decide))) (ruNot A (x, y)).2 W p q)
  generalize ruAp 1 A B = R1' at *
  generalize ruAp 2 A B = R2' at *
  generalize ruAp 3 A B = R3' at *
  generalize ruAp 4 A B = R4' at *
  generalize ruNot A (x, y) = R5' at *
  clear hx hy hA hB
  cases g : (decide (80 < A.length) || decide (80 < B.length))
  · rw [g] at GR
    clear g
    go_enter Try.func5, Try.ntmps5
    go_wp2_with fail
    refine (AW.out _).mono ?_
    rintro e w1 ⟨rfl, hb⟩
    clear hw0
    have A1 := Lib.hid (down A0.out hb)
    have PA1 := Lib.hid (PA0.out.keep hb)
    have PB1 := Lib.hid (PB0.out.keep hb)
    have X1 := Lib.hid (X0.out.keep hb)
    clear hb A0 PA0 PB0 X0
    go_wp2_with fail
    refine (GR.out _ _).mono ?_
    rintro e x0 ⟨rfl, rfl⟩
    obtain ⟨w2, hw2⟩ : ∃ w' : World, w1.alloc (.cells #[.slice oa A.length ca, .slice ob B.length cb] 22) = w' := ⟨_, rfl⟩
    rw [hw2]
    have hb : Below w1.heap.size w1 w2 := by rw [← hw2]; exact grow (here _) _
    clear hw2
    have A2 := Lib.hid (down A1.out hb)
    have PA2 := Lib.hid (PA1.out.keep hb)
    have PB2 := Lib.hid (PB1.out.keep hb)
    have X2 := Lib.hid (X1.out.keep hb)
    clear hb A1 PA1 PB1 X1
    go_wp2_with fail
    refine (H1.out _ PA2.out PB2.out).mono ?_
    rintro e w3 ⟨⟨v1, rfl, V, -⟩, hb⟩
    have A3 := Lib.hid (down A2.out hb)
    have PA3 := Lib.hid (PA2.out.keep hb)
    have PB3 := Lib.hid (PB2.out.keep hb)
    have X3 := Lib.hid (X2.out.keep hb)
    clear hb A2 PA2 PB2 X2
    replace V := Lib.hid V
    have V3 := V
    clear V
    go_wp2_with fail
    refine (R1.out _ PA3.out PB3.out).mono ?_
    rintro e w4 ⟨⟨u1, rfl, U⟩, hb⟩
    have A4 := Lib.hid (down A3.out hb)
    have PA4 := Lib.hid (PA3.out.keep hb)
    have PB4 := Lib.hid (PB3.out.keep hb)
    have V4 := Lib.hid (V3.out.keep hb)
    have X4 := Lib.hid (X3.out.keep hb)
    clear hb A3 PA3 PB3 V3 X3
    replace U := Lib.hid U
    have U4 := U
    clear U
    go_wp2_with fail
    refine (K1.out _ _ _ _ _ V4.out U4.out).mono ?_
    rintro e w5 ⟨rfl, hb⟩
    have A5 := Lib.hid (down A4.out hb)
    have PA5 := Lib.hid (PA4.out.keep hb)
    have PB5 := Lib.hid (PB4.out.keep hb)
    have V5 := Lib.hid (V4.out.keep hb)
    have U5 := Lib.hid (U4.out.keep hb)
    have X5 := Lib.hid (X4.out.keep hb)
    clear hb A4 PA4 PB4 V4 U4 X4
    clear V5 U5
    go_wp2_with fail
    refine (H2.out _ PA5.out PB5.out).mono ?_
    rintro e w6 ⟨⟨v2, rfl, V, -⟩, hb⟩
    have A6 := Lib.hid (down A5.out hb)
    have PA6 := Lib.hid (PA5.out.keep hb)
    have PB6 := Lib.hid (PB5.out.keep hb)
    have X6 := Lib.hid (X5.out.keep hb)
    clear hb A5 PA5 PB5 X5
    replace V := Lib.hid V
    have V6 := V
    clear V
    go_wp2_with fail
    refine (R2.out _ PA6.out PB6.out).mono ?_
    rintro e w7 ⟨⟨u2, rfl, U⟩, hb⟩
    have A7 := Lib.hid (down A6.out hb)
    have PA7 := Lib.hid (PA6.out.keep hb)
    have PB7 := Lib.hid (PB6.out.keep hb)
    have V7 := Lib.hid (V6.out.keep hb)
    have X7 := Lib.hid (X6.out.keep hb)
    clear hb A6 PA6 PB6 V6 X6
    replace U := Lib.hid U
    have U7 := U
    clear U
    go_wp2_with fail
    refine (K2.out _ _ _ _ _ V7.out U7.out).mono ?_
    rintro e w8 ⟨rfl, hb⟩
    have A8 := Lib.hid (down A7.out hb)
    have PA8 := Lib.hid (PA7.out.keep hb)
    have PB8 := Lib.hid (PB7.out.keep hb)
    have V8 := Lib.hid (V7.out.keep hb)
    have U8 := Lib.hid (U7.out.keep hb)
    have X8 := Lib.hid (X7.out.keep hb)
    clear hb A7 PA7 PB7 V7 U7 X7
    clear V8 U8
    go_wp2_with fail
    refine (H3.out _ PA8.out PB8.out).mono ?_
    rintro e w9 ⟨⟨v3, rfl, V, -⟩, hb⟩
    have A9 := Lib.hid (down A8.out hb)
    have PA9 := Lib.hid (PA8.out.keep hb)
    have PB9 := Lib.hid (PB8.out.keep hb)
    have X9 := Lib.hid (X8.out.keep hb)
    clear hb A8 PA8 PB8 X8
    replace V := Lib.hid V
    have V9 := V
    clear V
    go_wp2_with fail
    refine (R3.out _ PA9.out PB9.out).mono ?_
    rintro e w10 ⟨⟨u3, rfl, U⟩, hb⟩
    have A10 := Lib.hid (down A9.out hb)
    have PA10 := Lib.hid (PA9.out.keep hb)
    have PB10 := Lib.hid (PB9.out.keep hb)
    have V10 := Lib.hid (V9.out.keep hb)
    have X10 := Lib.hid (X9.out.keep hb)
    clear hb A9 PA9 PB9 V9 X9
    replace U := Lib.hid U
    have U10 := U
    clear U
    go_wp2_with fail
    refine (K3.out _ _ _ _ _ V10.out U10.out).mono ?_
    rintro e w11 ⟨rfl, hb⟩
    have A11 := Lib.hid (down A10.out hb)
    have PA11 := Lib.hid (PA10.out.keep hb)
    have PB11 := Lib.hid (PB10.out.keep hb)
    have V11 := Lib.hid (V10.out.keep hb)
    have U11 := Lib.hid (U10.out.keep hb)
    have X11 := Lib.hid (X10.out.keep hb)
    clear hb A10 PA10 PB10 V10 U10 X10
    clear V11 U11
    go_wp2_with fail
    refine (H4.out _ PA11.out PB11.out).mono ?_
    rintro e w12 ⟨⟨v4, rfl, V, -⟩, hb⟩
    have A12 := Lib.hid (down A11.out hb)
    have PA12 := Lib.hid (PA11.out.keep hb)
    have PB12 := Lib.hid (PB11.out.keep hb)
    have X12 := Lib.hid (X11.out.keep hb)
    clear hb A11 PA11 PB11 X11
    replace V := Lib.hid V
    have V12 := V
    clear V
    go_wp2_with fail
    refine (R4.out _ PA12.out PB12.out).mono ?_
    rintro e w13 ⟨⟨u4, rfl, U⟩, hb⟩
    have A13 := Lib.hid (down A12.out hb)
    have PA13 := Lib.hid (PA12.out.keep hb)
    have PB13 := Lib.hid (PB12.out.keep hb)
    have V13 := Lib.hid (V12.out.keep hb)
    have X13 := Lib.hid (X12.out.keep hb)
    clear hb A12 PA12 PB12 V12 X12
    replace U := Lib.hid U
    have U13 := U
    clear U
    go_wp2_with fail
    refine (K4.out _ _ _ _ _ V13.out U13.out).mono ?_
    rintro e w14 ⟨rfl, hb⟩
    have A14 := Lib.hid (down A13.out hb)
    have PA14 := Lib.hid (PA13.out.keep hb)
    have PB14 := Lib.hid (PB13.out.keep hb)
    have V14 := Lib.hid (V13.out.keep hb)
    have U14 := Lib.hid (U13.out.keep hb)
    have X14 := Lib.hid (X13.out.keep hb)
    clear hb A13 PA13 PB13 V13 U13 X13
    clear V14 U14
    obtain ⟨Xc0, Xc1, Xcl⟩ := X14.out
    go_wp2_with fail
    refine (H5.out _ PA14.out).mono ?_
    rintro e w15 ⟨⟨v5, rfl, V, -⟩, hb⟩
    clear Xc0 Xc1 Xcl
    have A15 := Lib.hid (down A14.out hb)
    have PA15 := Lib.hid (PA14.out.keep hb)
    have PB15 := Lib.hid (PB14.out.keep hb)
    have X15 := Lib.hid (X14.out.keep hb)
    clear hb A14 PA14 PB14 X14
    replace V := Lib.hid V
    have V15 := V
    clear V
    obtain ⟨Xc0, Xc1, Xcl⟩ := X15.out
    go_wp2_with fail
    refine (R5.out _ PA15.out).mono ?_
    rintro e w16 ⟨⟨u5, rfl, U⟩, hb⟩
    clear Xc0 Xc1 Xcl
    have A16 := Lib.hid (down A15.out hb)
    have PA16 := Lib.hid (PA15.out.keep hb)
    have PB16 := Lib.hid (PB15.out.keep hb)
    have V16 := Lib.hid (V15.out.keep hb)
    have X16 := Lib.hid (X15.out.keep hb)
    clear hb A15 PA15 PB15 V15 X15
    replace U := Lib.hid U
    have U16 := U
    clear U
    go_wp2_with fail
    refine (K5.out _ _ _ _ _ V16.out U16.out).mono ?_
    rintro e w17 ⟨rfl, hb⟩
    have A17 := Lib.hid (down A16.out hb)
    have PA17 := Lib.hid (PA16.out.keep hb)
    have PB17 := Lib.hid (PB16.out.keep hb)
    have V17 := Lib.hid (V16.out.keep hb)
    have U17 := Lib.hid (U16.out.keep hb)
    have X17 := Lib.hid (X16.out.keep hb)
    clear hb A16 PA16 PB16 V16 U16 X16
    go_wp2
    go_ret
    exact ⟨rfl, A17.out⟩
  · rw [g] at GR
    clear g H1 H2 H3 H4 H5 R1 R2 R3 R4 R5 K1 K2 K3 K4 K5
    go_enter Try.func5, Try.ntmps5
    go_wp2_with fail
    refine (AW.out _).mono ?_
    rintro e w1 ⟨rfl, hb⟩
    clear hw0
    have A1 := Lib.hid (down A0.out hb)
    have PA1 := Lib.hid (PA0.out.keep hb)
    have PB1 := Lib.hid (PB0.out.keep hb)
    have X1 := Lib.hid (X0.out.keep hb)
    clear hb A0 PA0 PB0 X0
    go_wp2_with fail
    refine (GR.out _ _).mono ?_
    rintro e x0 ⟨rfl, rfl⟩
    obtain ⟨w2, hw2⟩ : ∃ w' : World, w1.alloc (.cells #[.slice oa A.length ca, .slice ob B.length cb] 22) = w' := ⟨_, rfl⟩
    rw [hw2]
    have hb : Below w1.heap.size w1 w2 := by rw [← hw2]; exact grow (here _) _
    clear hw2
    have A2 := Lib.hid (down A1.out hb)
    have PA2 := Lib.hid (PA1.out.keep hb)
    have PB2 := Lib.hid (PB1.out.keep hb)
    have X2 := Lib.hid (X1.out.keep hb)
    clear hb A1 PA1 PB1 X1
    go_wp2
    go_ret
    exact ⟨rfl, A2.out⟩
end Go.Proofs.Ytdkmahdfnmoliaa
