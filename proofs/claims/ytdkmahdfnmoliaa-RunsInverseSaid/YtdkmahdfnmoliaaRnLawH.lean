/- Law 12: RunsMeasures. -/
import Derived.Test.YtdkmahdfnmoliaaRnK
import Derived.BigQuiet
import Derived.Deep.QuietTactic
namespace Go.Proofs.Ytdkmahdfnmoliaa
open Go.RowKit
set_option linter.unusedVariables false
set_option linter.unusedSimpArgs false

theorem rk_le : ∀ {L : List Sp} (x : Int), (∀ p, p ∈ L → p.1 < p.2) → 0 ≤ rkL L x ∧ rkL L x ≤ msL L
  | [], _, _ => ⟨Int.le_refl _, Int.le_refl _⟩
  | p :: L, x, h => by
    obtain ⟨a, b⟩ := rk_le (L := L) x (fun q hq => h q (List.mem_cons_of_mem _ hq))
    have c := h p List.mem_cons_self
    rw [rkL, msL]
    unfold clS
    split <;> (try split) <;> omega
theorem va_nums {A : List Sp} (h : vaB A = true) (x : Int) : (0 ≤ msL A ∧ msL A ≤ 17592186044416000) ∧ 0 ≤ rkL A x ∧ rkL A x ≤ 17592186044416000 := by
  have a := few_ms (few_of h)
  have b := rk_le x (fun p hp => (va_cn h).lt p hp)
  exact ⟨a, b.1, by omega⟩
set_option maxRecDepth 100000 in
set_option maxHeartbeats 1000000 in
theorem rlrank (v : Value) (L : List Sp) (hL : L.length ≤ maxLen) (cp : CapS v) (x : Int) (hx : I64 x) (g : Nat) {b : Nat} (w : World) (bx : One w g (.int .i64 x)) (p : PairS b w v L) :
    Calls Try.prog 42 #[v, .pointer (some ⟨g, 0, none⟩)] w fun e w' => e = .returned (.int .i64 (if vaB L then rkL L x else 0)) ∧ Below w.heap.size w w' := by
  have RK := rurank v L hL x hx cp w p
  generalize (if vaB L then rkL L x else 0) = r at *
  obtain ⟨c0, cl⟩ := bx
  clear p hL cp
  go_enter Try.func42, Try.ntmps42
  go_wp2_with fail
  refine RK.mono ?_
  rintro e w1 ⟨rfl, hb⟩
  replace hb := Lib.hid hb
  go_wp2
  go_ret
  exact ⟨rfl, hb.out⟩
set_option maxRecDepth 100000 in
set_option maxHeartbeats 4000000 in
theorem rlmeasures (va vb : Value) (A B : List Sp) (hA : A.length ≤ maxLen) (hB : B.length ≤ maxLen) (x : Int) (hx : I64 x) (cpa : CapS va) (cpb : CapS vb) {ba bb : Nat} (w : World) (a : PairS ba w va A) (b : PairS bb w vb B) :
    Calls Try.prog 10 #[va, vb, .int .i64 x] w fun e w' => e = .returned (.bool true) ∧ Below w.heap.size w w' := by
  have AW := Lib.hid (fun W => rawake W)
  obtain ⟨oa, ca, rfl⟩ := prs_shape a
  obtain ⟨ob, cb, rfl⟩ := prs_shape b
  have GR := Lib.hid (fun w t => rgr2 oa A.length ca hA ob B.length cb hB w t)
  obtain ⟨w0, hw0⟩ : ∃ w' : World, w.alloc (.cells #[.int .i64 x] 3) = w' := ⟨_, rfl⟩
  have A0 : Hid (Below w.heap.size w w0) := by show Below _ _ _; rw [← hw0]; exact grow (here w) _
  have Z0 : Hid (One w0 w.heap.size (.int .i64 x)) := by show One _ _ _; rw [← hw0]; exact One.new (here _)
  have PA0 := Lib.hid (a.keep (show Below w.heap.size w w0 by rw [← hw0]; exact grow (here w) _))
  have PB0 := Lib.hid (b.keep (show Below w.heap.size w w0 by rw [← hw0]; exact grow (here w) _))
  clear a b
  have CA := Lib.hid cpa
  have CB := Lib.hid cpb
  clear cpa cpb
  have H1 := Lib.hid (fun W (p : PairS ba W (.slice oa A.length ca) A) (q : PairS bb W (.slice ob B.length cb) B) => ruunion _ _ A B hA hB W p q)
  have H2 := Lib.hid (fun W (p : PairS ba W (.slice oa A.length ca) A) (q : PairS bb W (.slice ob B.length cb) B) => rumeet _ _ A B hA hB W p q)
  have H3 := Lib.hid (fun W (p : PairS ba W (.slice oa A.length ca) A) (q : PairS bb W (.slice ob B.length cb) B) => ruminus _ _ A B hA hB W p q)
  cases g : (decide (80 < A.length) || decide (80 < B.length))
  · rw [g] at GR
    rw [Bool.or_eq_false_iff, decide_eq_false_iff_not, decide_eq_false_iff_not] at g
    have f1 := ap_fate 1 (A := A) (B := B) (by omega) (by omega)
    have f2 := ap_fate 2 (A := A) (B := B) (by omega) (by omega)
    have f3 := ap_fate 3 (A := A) (B := B) (by omega) (by omega)
    cases v : (vaB A && vaB B)
    · rw [v, if_neg (by simp)] at f1 f2 f3
      rw [f1] at H1
      rw [f2] at H2
      rw [f3] at H3
      clear g v f1 f2 f3 hA hB hx CA CB
      go_enter Try.func10, Try.ntmps10
      go_wp2_with fail
      refine (AW.out _).mono ?_
      rintro e w1 ⟨rfl, hb⟩
      clear hw0
      have A1 := Lib.hid (down A0.out hb)
      have PA1 := Lib.hid (PA0.out.keep hb)
      have PB1 := Lib.hid (PB0.out.keep hb)
      have Z1 := Lib.hid (Z0.out.keep hb)
      clear hb A0 PA0 PB0 Z0
      go_wp2_with fail
      refine (GR.out _ _).mono ?_
      rintro e x0 ⟨rfl, rfl⟩
      obtain ⟨w2, hw2⟩ : ∃ w' : World, w1.alloc (.cells #[.slice oa A.length ca, .slice ob B.length cb] 22) = w' := ⟨_, rfl⟩
      rw [hw2]
      have hb : Below w1.heap.size w1 w2 := by rw [← hw2]; exact grow (here _) _
      clear hw2
      have A2 := Lib.hid (down A1.out hb)
      have PA2 := Lib.hid (PA1.out.keep hb)
      have PB2 := Lib.hid (PB1.out.keep hb)
      have Z2 := Lib.hid (Z1.out.keep hb)
      clear hb A1 PA1 PB1 Z1
      go_wp2_with fail
      refine (H1.out _ PA2.out PB2.out).mono ?_
      rintro e w3 ⟨⟨v1, rfl, U, Cv1⟩, hb⟩
      have A3 := Lib.hid (down A2.out hb)
      have PA3 := Lib.hid (PA2.out.keep hb)
      have PB3 := Lib.hid (PB2.out.keep hb)
      have Z3 := Lib.hid (Z2.out.keep hb)
      clear hb A2 PA2 PB2 Z2
      replace U := Lib.hid U
      have U3 := U
      clear U
      go_wp2_with fail
      refine (H2.out _ PA3.out PB3.out).mono ?_
      rintro e w4 ⟨⟨v2, rfl, M, Cv2⟩, hb⟩
      have A4 := Lib.hid (down A3.out hb)
      have PA4 := Lib.hid (PA3.out.keep hb)
      have PB4 := Lib.hid (PB3.out.keep hb)
      have U4 := Lib.hid (U3.out.keep hb)
      have Z4 := Lib.hid (Z3.out.keep hb)
      clear hb A3 PA3 PB3 U3 Z3
      replace M := Lib.hid M
      have M4 := M
      clear M
      go_wp2_with fail
      refine (H3.out _ PA4.out PB4.out).mono ?_
      rintro e w5 ⟨⟨v3, rfl, D, Cv3⟩, hb⟩
      have A5 := Lib.hid (down A4.out hb)
      have PA5 := Lib.hid (PA4.out.keep hb)
      have PB5 := Lib.hid (PB4.out.keep hb)
      have U5 := Lib.hid (U4.out.keep hb)
      have M5 := Lib.hid (M4.out.keep hb)
      have Z5 := Lib.hid (Z4.out.keep hb)
      clear hb A4 PA4 PB4 U4 M4 Z4
      replace D := Lib.hid D
      have D5 := D
      clear D
      go_wp2
      go_ret
      exact ⟨rfl, A5.out⟩
    · rw [v, if_pos rfl] at f1 f2 f3
      obtain ⟨vA, vB⟩ := Bool.and_eq_true_iff.1 v
      obtain ⟨-, -, vU, -⟩ := ap_ok f1
      obtain ⟨-, -, vM, -⟩ := ap_ok f2
      obtain ⟨-, -, vD, -⟩ := ap_ok f3
      obtain ⟨m1, m2, m3, m4⟩ := ms_all f1 f2 f3 x
      have lU := small_max (Nat.le_trans (ap_len 1 A B) (by decide))
      have lM := small_max (Nat.le_trans (ap_len 2 A B) (by decide))
      have lD := small_max (Nat.le_trans (ap_len 3 A B) (by decide))
      rw [f1] at H1
      rw [f2] at H2
      rw [f3] at H3
      have SA := Lib.hid (fun W b v (p : PairS b W v A) => by have h := rumeasure v A hA W p; rw [vA, if_pos rfl] at h; exact h)
      have RA := Lib.hid (fun W b v (c : CapS v) (z : One W w.heap.size (.int .i64 x)) (p : PairS b W v A) => by have h := rlrank v A hA c x hx w.heap.size W z p; rw [vA, if_pos rfl] at h; exact h)
      have SB := Lib.hid (fun W b v (p : PairS b W v B) => by have h := rumeasure v B hB W p; rw [vB, if_pos rfl] at h; exact h)
      have RB := Lib.hid (fun W b v (c : CapS v) (z : One W w.heap.size (.int .i64 x)) (p : PairS b W v B) => by have h := rlrank v B hB c x hx w.heap.size W z p; rw [vB, if_pos rfl] at h; exact h)
      have SU := Lib.hid (fun W b v (p : PairS b W v (ruAp 1 A B).1) => by have h := rumeasure v (ruAp 1 A B).1 lU W p; rw [vU, if_pos rfl] at h; exact h)
      have RU := Lib.hid (fun W b v (c : CapS v) (z : One W w.heap.size (.int .i64 x)) (p : PairS b W v (ruAp 1 A B).1) => by have h := rlrank v (ruAp 1 A B).1 lU c x hx w.heap.size W z p; rw [vU, if_pos rfl] at h; exact h)
      have SM := Lib.hid (fun W b v (p : PairS b W v (ruAp 2 A B).1) => by have h := rumeasure v (ruAp 2 A B).1 lM W p; rw [vM, if_pos rfl] at h; exact h)
      have RM := Lib.hid (fun W b v (c : CapS v) (z : One W w.heap.size (.int .i64 x)) (p : PairS b W v (ruAp 2 A B).1) => by have h := rlrank v (ruAp 2 A B).1 lM c x hx w.heap.size W z p; rw [vM, if_pos rfl] at h; exact h)
      have SD := Lib.hid (fun W b v (p : PairS b W v (ruAp 3 A B).1) => by have h := rumeasure v (ruAp 3 A B).1 lD W p; rw [vD, if_pos rfl] at h; exact h)
      have RD := Lib.hid (fun W b v (c : CapS v) (z : One W w.heap.size (.int .i64 x)) (p : PairS b W v (ruAp 3 A B).1) => by have h := rlrank v (ruAp 3 A B).1 lD c x hx w.heap.size W z p; rw [vD, if_pos rfl] at h; exact h)
      obtain ⟨⟨a0, a1⟩, a2, a3⟩ := va_nums vA x
      obtain ⟨⟨b0, b1⟩, b2, b3⟩ := va_nums vB x
      obtain ⟨⟨c0, c1⟩, c2, c3⟩ := va_nums vU x
      obtain ⟨⟨d0, d1⟩, d2, d3⟩ := va_nums vM x
      obtain ⟨⟨e0, e1⟩, e2, e3⟩ := va_nums vD x
      generalize (ruAp 1 A B).1 = U' at *
      generalize (ruAp 2 A B).1 = M' at *
      generalize (ruAp 3 A B).1 = D' at *
      generalize msL A = mA at *
      generalize msL B = mB at *
      generalize msL U' = mU at *
      generalize msL M' = mM at *
      generalize msL D' = mD at *
      generalize rkL A x = rA at *
      generalize rkL B x = rB at *
      generalize rkL U' x = rU at *
      generalize rkL M' x = rM at *
      generalize rkL D' x = rD at *
      obtain ⟨s1, hs1⟩ : ∃ s, mA + mB = s := ⟨_, rfl⟩
      obtain ⟨s2, hs2⟩ : ∃ s, rA + rB = s := ⟨_, rfl⟩
      rw [hs1] at m1
      rw [hs2] at m3
      clear g v f1 f2 f3 hA hB hx vA vB vU vM vD lU lM lD
      go_enter Try.func10, Try.ntmps10
      go_wp2_with fail
      refine (AW.out _).mono ?_
      rintro e w1 ⟨rfl, hb⟩
      clear hw0
      have A1 := Lib.hid (down A0.out hb)
      have PA1 := Lib.hid (PA0.out.keep hb)
      have PB1 := Lib.hid (PB0.out.keep hb)
      have Z1 := Lib.hid (Z0.out.keep hb)
      clear hb A0 PA0 PB0 Z0
      go_wp2_with fail
      refine (GR.out _ _).mono ?_
      rintro e x0 ⟨rfl, rfl⟩
      obtain ⟨w2, hw2⟩ : ∃ w' : World, w1.alloc (.cells #[.slice oa A.length ca, .slice ob B.length cb] 22) = w' := ⟨_, rfl⟩
      rw [hw2]
      have hb : Below w1.heap.size w1 w2 := by rw [← hw2]; exact grow (here _) _
      clear hw2
      have A2 := Lib.hid (down A1.out hb)
      have PA2 := Lib.hid (PA1.out.keep hb)
      have PB2 := Lib.hid (PB1.out.keep hb)
      have Z2 := Lib.hid (Z1.out.keep hb)
      clear hb A1 PA1 PB1 Z1
      go_wp2_with fail
      refine (H1.out _ PA2.out PB2.out).mono ?_
      rintro e w3 ⟨⟨v1, rfl, U, Cv1⟩, hb⟩
      have A3 := Lib.hid (down A2.out hb)
      have PA3 := Lib.hid (PA2.out.keep hb)
      have PB3 := Lib.hid (PB2.out.keep hb)
      have Z3 := Lib.hid (Z2.out.keep hb)
      clear hb A2 PA2 PB2 Z2
      replace U := Lib.hid U
      have U3 := U
      clear U
      go_wp2_with fail
      refine (H2.out _ PA3.out PB3.out).mono ?_
      rintro e w4 ⟨⟨v2, rfl, M, Cv2⟩, hb⟩
      have A4 := Lib.hid (down A3.out hb)
      have PA4 := Lib.hid (PA3.out.keep hb)
      have PB4 := Lib.hid (PB3.out.keep hb)
      have U4 := Lib.hid (U3.out.keep hb)
      have Z4 := Lib.hid (Z3.out.keep hb)
      clear hb A3 PA3 PB3 U3 Z3
      replace M := Lib.hid M
      have M4 := M
      clear M
      go_wp2_with fail
      refine (H3.out _ PA4.out PB4.out).mono ?_
      rintro e w5 ⟨⟨v3, rfl, D, Cv3⟩, hb⟩
      have A5 := Lib.hid (down A4.out hb)
      have PA5 := Lib.hid (PA4.out.keep hb)
      have PB5 := Lib.hid (PB4.out.keep hb)
      have U5 := Lib.hid (U4.out.keep hb)
      have M5 := Lib.hid (M4.out.keep hb)
      have Z5 := Lib.hid (Z4.out.keep hb)
      clear hb A4 PA4 PB4 U4 M4 Z4
      replace D := Lib.hid D
      have D5 := D
      clear D
      replace Cv1 := Lib.hid Cv1
      replace Cv2 := Lib.hid Cv2
      replace Cv3 := Lib.hid Cv3
      go_wp2_with fail
      refine (SU.out _ _ _ U5.out).mono ?_
      rintro e w6 ⟨rfl, hb⟩
      have A6 := Lib.hid (down A5.out hb)
      have PA6 := Lib.hid (PA5.out.keep hb)
      have PB6 := Lib.hid (PB5.out.keep hb)
      have U6 := Lib.hid (U5.out.keep hb)
      have M6 := Lib.hid (M5.out.keep hb)
      have D6 := Lib.hid (D5.out.keep hb)
      have Z6 := Lib.hid (Z5.out.keep hb)
      clear hb A5 PA5 PB5 U5 M5 D5 Z5
      go_wp2_with fail
      refine (SM.out _ _ _ M6.out).mono ?_
      rintro e w7 ⟨rfl, hb⟩
      have A7 := Lib.hid (down A6.out hb)
      have PA7 := Lib.hid (PA6.out.keep hb)
      have PB7 := Lib.hid (PB6.out.keep hb)
      have U7 := Lib.hid (U6.out.keep hb)
      have M7 := Lib.hid (M6.out.keep hb)
      have D7 := Lib.hid (D6.out.keep hb)
      have Z7 := Lib.hid (Z6.out.keep hb)
      clear hb A6 PA6 PB6 U6 M6 D6 Z6
      go_wp2_with fail
      refine (SA.out _ _ _ PA7.out).mono ?_
      rintro e w8 ⟨rfl, hb⟩
      have A8 := Lib.hid (down A7.out hb)
      have PA8 := Lib.hid (PA7.out.keep hb)
      have PB8 := Lib.hid (PB7.out.keep hb)
      have U8 := Lib.hid (U7.out.keep hb)
      have M8 := Lib.hid (M7.out.keep hb)
      have D8 := Lib.hid (D7.out.keep hb)
      have Z8 := Lib.hid (Z7.out.keep hb)
      clear hb A7 PA7 PB7 U7 M7 D7 Z7
      go_wp2_with fail
      refine (SB.out _ _ _ PB8.out).mono ?_
      rintro e w9 ⟨rfl, hb⟩
      have A9 := Lib.hid (down A8.out hb)
      have PA9 := Lib.hid (PA8.out.keep hb)
      have PB9 := Lib.hid (PB8.out.keep hb)
      have U9 := Lib.hid (U8.out.keep hb)
      have M9 := Lib.hid (M8.out.keep hb)
      have D9 := Lib.hid (D8.out.keep hb)
      have Z9 := Lib.hid (Z8.out.keep hb)
      clear hb A8 PA8 PB8 U8 M8 D8 Z8
      go_wp2_with fail
      refine (SD.out _ _ _ D9.out).mono ?_
      rintro e w10 ⟨rfl, hb⟩
      have A10 := Lib.hid (down A9.out hb)
      have PA10 := Lib.hid (PA9.out.keep hb)
      have PB10 := Lib.hid (PB9.out.keep hb)
      have U10 := Lib.hid (U9.out.keep hb)
      have M10 := Lib.hid (M9.out.keep hb)
      have D10 := Lib.hid (D9.out.keep hb)
      have Z10 := Lib.hid (Z9.out.keep hb)
      clear hb A9 PA9 PB9 U9 M9 D9 Z9
      go_wp2_with fail
      refine (SM.out _ _ _ M10.out).mono ?_
      rintro e w11 ⟨rfl, hb⟩
      have A11 := Lib.hid (down A10.out hb)
      have PA11 := Lib.hid (PA10.out.keep hb)
      have PB11 := Lib.hid (PB10.out.keep hb)
      have U11 := Lib.hid (U10.out.keep hb)
      have M11 := Lib.hid (M10.out.keep hb)
      have D11 := Lib.hid (D10.out.keep hb)
      have Z11 := Lib.hid (Z10.out.keep hb)
      clear hb A10 PA10 PB10 U10 M10 D10 Z10
      go_wp2_with fail
      refine (SA.out _ _ _ PA11.out).mono ?_
      rintro e w12 ⟨rfl, hb⟩
      have A12 := Lib.hid (down A11.out hb)
      have PA12 := Lib.hid (PA11.out.keep hb)
      have PB12 := Lib.hid (PB11.out.keep hb)
      have U12 := Lib.hid (U11.out.keep hb)
      have M12 := Lib.hid (M11.out.keep hb)
      have D12 := Lib.hid (D11.out.keep hb)
      have Z12 := Lib.hid (Z11.out.keep hb)
      clear hb A11 PA11 PB11 U11 M11 D11 Z11
      go_wp2_with fail
      refine (RU.out _ _ _ Cv1.out Z12.out U12.out).mono ?_
      rintro e w13 ⟨rfl, hb⟩
      have A13 := Lib.hid (down A12.out hb)
      have PA13 := Lib.hid (PA12.out.keep hb)
      have PB13 := Lib.hid (PB12.out.keep hb)
      have U13 := Lib.hid (U12.out.keep hb)
      have M13 := Lib.hid (M12.out.keep hb)
      have D13 := Lib.hid (D12.out.keep hb)
      have Z13 := Lib.hid (Z12.out.keep hb)
      clear hb A12 PA12 PB12 U12 M12 D12 Z12
      go_wp2_with fail
      refine (RM.out _ _ _ Cv2.out Z13.out M13.out).mono ?_
      rintro e w14 ⟨rfl, hb⟩
      have A14 := Lib.hid (down A13.out hb)
      have PA14 := Lib.hid (PA13.out.keep hb)
      have PB14 := Lib.hid (PB13.out.keep hb)
      have U14 := Lib.hid (U13.out.keep hb)
      have M14 := Lib.hid (M13.out.keep hb)
      have D14 := Lib.hid (D13.out.keep hb)
      have Z14 := Lib.hid (Z13.out.keep hb)
      clear hb A13 PA13 PB13 U13 M13 D13 Z13
      go_wp2_with fail
      refine (RA.out _ _ _ CA.out Z14.out PA14.out).mono ?_
      rintro e w15 ⟨rfl, hb⟩
      have A15 := Lib.hid (down A14.out hb)
      have PA15 := Lib.hid (PA14.out.keep hb)
      have PB15 := Lib.hid (PB14.out.keep hb)
      have U15 := Lib.hid (U14.out.keep hb)
      have M15 := Lib.hid (M14.out.keep hb)
      have D15 := Lib.hid (D14.out.keep hb)
      have Z15 := Lib.hid (Z14.out.keep hb)
      clear hb A14 PA14 PB14 U14 M14 D14 Z14
      go_wp2_with fail
      refine (RB.out _ _ _ CB.out Z15.out PB15.out).mono ?_
      rintro e w16 ⟨rfl, hb⟩
      have A16 := Lib.hid (down A15.out hb)
      have PA16 := Lib.hid (PA15.out.keep hb)
      have PB16 := Lib.hid (PB15.out.keep hb)
      have U16 := Lib.hid (U15.out.keep hb)
      have M16 := Lib.hid (M15.out.keep hb)
      have D16 := Lib.hid (D15.out.keep hb)
      have Z16 := Lib.hid (Z15.out.keep hb)
      clear hb A15 PA15 PB15 U15 M15 D15 Z15
      go_wp2_with fail
      refine (RD.out _ _ _ Cv3.out Z16.out D16.out).mono ?_
      rintro e w17 ⟨rfl, hb⟩
      have A17 := Lib.hid (down A16.out hb)
      have PA17 := Lib.hid (PA16.out.keep hb)
      have PB17 := Lib.hid (PB16.out.keep hb)
      have U17 := Lib.hid (U16.out.keep hb)
      have M17 := Lib.hid (M16.out.keep hb)
      have D17 := Lib.hid (D16.out.keep hb)
      have Z17 := Lib.hid (Z16.out.keep hb)
      clear hb A16 PA16 PB16 U16 M16 D16 Z16
      go_wp2_with fail
      refine (RM.out _ _ _ Cv2.out Z17.out M17.out).mono ?_
      rintro e w18 ⟨rfl, hb⟩
      have A18 := Lib.hid (down A17.out hb)
      have PA18 := Lib.hid (PA17.out.keep hb)
      have PB18 := Lib.hid (PB17.out.keep hb)
      have U18 := Lib.hid (U17.out.keep hb)
      have M18 := Lib.hid (M17.out.keep hb)
      have D18 := Lib.hid (D17.out.keep hb)
      have Z18 := Lib.hid (Z17.out.keep hb)
      clear hb A17 PA17 PB17 U17 M17 D17 Z17
      go_wp2_with fail
      refine (RA.out _ _ _ CA.out Z18.out PA18.out).mono ?_
      rintro e w19 ⟨rfl, hb⟩
      have A19 := Lib.hid (down A18.out hb)
      have PA19 := Lib.hid (PA18.out.keep hb)
      have PB19 := Lib.hid (PB18.out.keep hb)
      have U19 := Lib.hid (U18.out.keep hb)
      have M19 := Lib.hid (M18.out.keep hb)
      have D19 := Lib.hid (D18.out.keep hb)
      have Z19 := Lib.hid (Z18.out.keep hb)
      clear hb A18 PA18 PB18 U18 M18 D18 Z18
      go_wp2
      go_ret
      exact ⟨rfl, A19.out⟩
  · rw [g] at GR
    clear g H1 H2 H3 hx CA CB
    go_enter Try.func10, Try.ntmps10
    go_wp2_with fail
    refine (AW.out _).mono ?_
    rintro e w1 ⟨rfl, hb⟩
    clear hw0
    have A1 := Lib.hid (down A0.out hb)
    have PA1 := Lib.hid (PA0.out.keep hb)
    have PB1 := Lib.hid (PB0.out.keep hb)
    have Z1 := Lib.hid (Z0.out.keep hb)
    clear hb A0 PA0 PB0 Z0
    go_wp2_with fail
    refine (GR.out _ _).mono ?_
    rintro e x0 ⟨rfl, rfl⟩
    obtain ⟨w2, hw2⟩ : ∃ w' : World, w1.alloc (.cells #[.slice oa A.length ca, .slice ob B.length cb] 22) = w' := ⟨_, rfl⟩
    rw [hw2]
    have hb : Below w1.heap.size w1 w2 := by rw [← hw2]; exact grow (here _) _
    clear hw2
    have A2 := Lib.hid (down A1.out hb)
    have PA2 := Lib.hid (PA1.out.keep hb)
    have PB2 := Lib.hid (PB1.out.keep hb)
    have Z2 := Lib.hid (Z1.out.keep hb)
    clear hb A1 PA1 PB1 Z1
    go_wp2
    go_ret
    exact ⟨rfl, A2.out⟩
end Go.Proofs.Ytdkmahdfnmoliaa
