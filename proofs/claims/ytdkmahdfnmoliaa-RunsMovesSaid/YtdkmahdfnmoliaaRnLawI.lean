/- Law 12: RunsMoves. -/
import Derived.Test.YtdkmahdfnmoliaaRnK
import Derived.Test.YtdkmahdfnmoliaaRnZ
import Derived.Test.YtdkmahdfnmoliaaRnL
import Derived.BigQuiet
import Derived.Deep.QuietTactic
namespace Go.Proofs.Ytdkmahdfnmoliaa
open Go.RowKit
set_option linter.unusedVariables false
set_option linter.unusedSimpArgs false

set_option maxRecDepth 100000 in
set_option maxHeartbeats 8000000 in
theorem rlmoves (va vb : Value) (A B : List Sp) (hA : A.length ≤ maxLen) (hB : B.length ≤ maxLen) (n x : Int) (hn : I64 n) (hx : I64 x) {ba bb : Nat} (w : World) (a : PairS ba w va A) (b : PairS bb w vb B) :
    Calls Try.prog 11 #[va, vb, .int .i64 n, .int .i64 x] w fun e w' => e = .returned (.bool true) ∧ Below w.heap.size w w' := by
  have AW := Lib.hid (fun W => rawake W)
  obtain ⟨oa, ca, rfl⟩ := prs_shape a
  obtain ⟨ob, cb, rfl⟩ := prs_shape b
  have GR := Lib.hid (fun w t => rgr2 oa A.length ca hA ob B.length cb hB w t)
  have A0 : Hid (Below w.heap.size w w) := here w
  have PA0 := Lib.hid a
  have PB0 := Lib.hid b
  clear a b
  have HM := Lib.hid (fun W (p : PairS ba W (.slice oa A.length ca) A) => rumove _ A hA n hn W p)
  have RM := Lib.hid (fun W (p : PairS ba W (.slice oa A.length ca) A) => rnmove _ A hA n hn W p)
  cases g : (decide (80 < A.length) || decide (80 < B.length))
  · rw [g] at GR
    rw [Bool.or_eq_false_iff, decide_eq_false_iff_not, decide_eq_false_iff_not] at g
    have lM := small_max (Nat.le_trans (mo_len A n) (by omega))
    have HS := Lib.hid (fun W b b' v u (p : PairS b W v (moV A n).1) (q : PairS b' W u (moV A n).1) => by have h := rnsame v u _ _ lM lM W p q; rw [decide_eq_true rfl] at h; exact h)
    by_cases e0 : (moV A n).2 = 0
    · obtain ⟨b1, b2, b3, b4, b5, b6, b7⟩ := mo_back e0
      have lM' : (moV A n).1.length ≤ 80 := Nat.le_trans (mo_len A n) (by omega)
      have HB := Lib.hid (fun W b v (p : PairS b W v (moV A n).1) => by have h := rumove v _ lM (-n) ⟨by omega, by omega⟩ W p; rw [b1] at h; exact h)
      have HE := Lib.hid (fun W b v (p : PairS b W v A) (q : PairS ba W (.slice oa A.length ca) A) => by have h := ruequal v _ A A hA hA W p q; rw [b3, decide_eq_true rfl] at h; exact h)
      have SM := Lib.hid (fun W b v (p : PairS b W v (moV A n).1) => by have h := rumeasure v _ lM W p; rw [b4, if_pos rfl, b2] at h; exact h)
      have SA := Lib.hid (fun W (p : PairS ba W (.slice oa A.length ca) A) => by have h := rumeasure _ A hA W p; rw [b3, if_pos rfl] at h; exact h)
      have HU := Lib.hid (fun W (p : PairS ba W (.slice oa A.length ca) A) (q : PairS bb W (.slice ob B.length cb) B) => ruunion _ _ A B hA hB W p q)
      have HV := Lib.hid (fun W (q : PairS bb W (.slice ob B.length cb) B) => rumove _ B hB n hn W q)
      have fin : (ruAp 1 A B).2 = 0 → (moV B n).2 = 0 → Hid ((∀ W b v, PairS b W v (ruAp 1 A B).1 → Calls Try.prog 43 #[v, .int .i64 n] W fun e w' => (∃ v', e = .returned (.tuple #[v', .int .i64 0]) ∧ PairS W.heap.size w' v' (moV (ruAp 1 A B).1 n).1) ∧ Below W.heap.size W w') ∧
          (∀ W b b' v u, PairS b W v (moV A n).1 → PairS b' W u (moV B n).1 → Calls Try.prog 22 #[v, u] W fun e w' => (∃ v', e = .returned (.tuple #[v', .int .i64 0]) ∧ PairS W.heap.size w' v' (ruAp 1 (moV A n).1 (moV B n).1).1 ∧ CapS v') ∧ Below W.heap.size W w') ∧
          (∀ W b b' v u, PairS b W v (moV (ruAp 1 A B).1 n).1 → PairS b' W u (ruAp 1 (moV A n).1 (moV B n).1).1 → Calls Try.prog 16 #[v, u] W fun e w' => e = .returned (.bool true) ∧ Below W.heap.size W w')) := fun h1 h2 => by
        obtain ⟨m1, m2, m3, m4⟩ := mo_union (n := n) (by omega) (by omega) e0 h2 h1
        refine ⟨fun W b v p => ?_, fun W b b' v u p q => ?_, fun W b b' v u p q => ?_⟩
        · have h := rumove v _ (small_max (Nat.le_trans (ap_len 1 A B) (by decide))) n hn W p
          rw [m1] at h; exact h
        · have h := ruunion v u _ _ lM (small_max (Nat.le_trans (mo_len B n) (by omega))) W p q
          rw [m2] at h; exact h
        · have q' := q
          rw [← m3] at q'
          have h := ruequal v u _ _ (small_max (Nat.le_trans (mo_len _ n) (Nat.le_trans (ap_len 1 A B) (by decide)))) (small_max (Nat.le_trans (mo_len _ n) (Nat.le_trans (ap_len 1 A B) (by decide)))) W p q'
          rw [m4, decide_eq_true rfl] at h; exact h
      have IN : -4398046511104 ≤ x → x ≤ 4398046511104 → Hid ((∀ W b v, PairS b W v (moV A n).1 → Calls Try.prog 29 #[v, .int .i64 (x + n)] W fun e w' => e = .returned (.bool (inB A x)) ∧ Below W.heap.size W w') ∧ (∀ W, PairS ba W (.slice oa A.length ca) A → Calls Try.prog 29 #[.slice oa A.length ca, .int .i64 x] W fun e w' => e = .returned (.bool (inB A x)) ∧ Below W.heap.size W w')) := fun x0 x1 => by
        refine ⟨fun W b v p => ?_, fun W p => ?_⟩
        · have h := ruhas v _ lM (x + n) ⟨by omega, by omega⟩ W p
          rw [b4, b5, Bool.true_and] at h; exact h
        · have h := ruhas _ A hA x hx W p
          rw [b3, Bool.true_and] at h; exact h
      rw [e0] at HM RM
      have er1 := ap_err 1 A B
      have er2 := mo_err B n
      have XB : Hid (I64 n) := hn
      obtain ⟨X0, X1⟩ := hx
      clear b1 b2 b3 b4 b5 lM lM' e0 g hA hB hn
      generalize moV B n = R2 at *
      obtain ⟨V2, f2⟩ := R2
      generalize ruAp 1 A B = R1 at *
      obtain ⟨V1, f1⟩ := R1
      replace er1 : 0 ≤ f1 ∧ f1 ≤ 5 := er1
      replace er2 : 0 ≤ f2 ∧ f2 ≤ 2 := er2
      replace fin : f1 = 0 → f2 = 0 → _ := fin
      generalize (moV A n).1 = M0 at *
      generalize inB A x = d at *
      generalize msL A = mm at *
      by_cases k1 : f1 = 0
      · subst k1
        by_cases k2 : f2 = 0
        · subst k2
          obtain ⟨HW, HY, HZ⟩ := (fin rfl rfl).out
          replace HW := Lib.hid HW
          replace HY := Lib.hid HY
          replace HZ := Lib.hid HZ
          clear fin er1 er2
          by_cases x0 : -4398046511104 ≤ x
          · by_cases x1 : x ≤ 4398046511104
            · obtain ⟨IM, IA⟩ := (IN x0 x1).out
              replace IM := Lib.hid IM
              replace IA := Lib.hid IA
              have q0 := decide_eq_true x0
              have q1 := decide_eq_true x1
              clear IN
              go_enter Try.func11, Try.ntmps11
              go_wp2_with fail
              refine (AW.out _).mono ?_
              rintro e w1 ⟨rfl, hb⟩
              have A1 := Lib.hid (down A0.out hb)
              have PA1 := Lib.hid (PA0.out.keep hb)
              have PB1 := Lib.hid (PB0.out.keep hb)
              clear hb A0 PA0 PB0
              go_wp2_with fail
              refine (GR.out _ _).mono ?_
              rintro e x0 ⟨rfl, rfl⟩
              obtain ⟨w2, hw2⟩ : ∃ w' : World, w1.alloc (.cells #[.slice oa A.length ca, .slice ob B.length cb] 22) = w' := ⟨_, rfl⟩
              rw [hw2]
              have hb : Below w1.heap.size w1 w2 := by rw [← hw2]; exact grow (here _) _
              clear hw2
              have A2 := Lib.hid (down A1.out hb)
              have PA2 := Lib.hid (PA1.out.keep hb)
              have PB2 := Lib.hid (PB1.out.keep hb)
              clear hb A1 PA1 PB1
              go_wp2_with fail
              refine (HM.out _ PA2.out).mono ?_
              rintro e w3 ⟨⟨v1, rfl, M⟩, hb⟩
              have A3 := Lib.hid (down A2.out hb)
              have PA3 := Lib.hid (PA2.out.keep hb)
              have PB3 := Lib.hid (PB2.out.keep hb)
              clear hb A2 PA2 PB2
              replace M := Lib.hid M
              have M3 := M
              clear M
              go_wp2_with fail
              refine (RM.out _ PA3.out).mono ?_
              rintro e w4 ⟨⟨v2, rfl, N⟩, hb⟩
              have A4 := Lib.hid (down A3.out hb)
              have PA4 := Lib.hid (PA3.out.keep hb)
              have PB4 := Lib.hid (PB3.out.keep hb)
              have M4 := Lib.hid (M3.out.keep hb)
              clear hb A3 PA3 PB3 M3
              replace N := Lib.hid N
              have N4 := N
              clear N
              go_wp2_with fail
              refine (HS.out _ _ _ _ _ M4.out N4.out).mono ?_
              rintro e w5 ⟨rfl, hb⟩
              have A5 := Lib.hid (down A4.out hb)
              have PA5 := Lib.hid (PA4.out.keep hb)
              have PB5 := Lib.hid (PB4.out.keep hb)
              have M5 := Lib.hid (M4.out.keep hb)
              have N5 := Lib.hid (N4.out.keep hb)
              clear hb A4 PA4 PB4 M4 N4
              clear N5
              go_wp2_with fail
              refine (HB.out _ _ _ M5.out).mono ?_
              rintro e w6 ⟨⟨v3, rfl, K⟩, hb⟩
              have A6 := Lib.hid (down A5.out hb)
              have PA6 := Lib.hid (PA5.out.keep hb)
              have PB6 := Lib.hid (PB5.out.keep hb)
              have M6 := Lib.hid (M5.out.keep hb)
              clear hb A5 PA5 PB5 M5
              replace K := Lib.hid K
              have K6 := K
              clear K
              go_wp2_with fail
              refine (HE.out _ _ _ K6.out PA6.out).mono ?_
              rintro e w7 ⟨rfl, hb⟩
              have A7 := Lib.hid (down A6.out hb)
              have PA7 := Lib.hid (PA6.out.keep hb)
              have PB7 := Lib.hid (PB6.out.keep hb)
              have M7 := Lib.hid (M6.out.keep hb)
              have K7 := Lib.hid (K6.out.keep hb)
              clear hb A6 PA6 PB6 M6 K6
              clear K7
              go_wp2_with fail
              refine (SM.out _ _ _ M7.out).mono ?_
              rintro e w8 ⟨rfl, hb⟩
              have A8 := Lib.hid (down A7.out hb)
              have PA8 := Lib.hid (PA7.out.keep hb)
              have PB8 := Lib.hid (PB7.out.keep hb)
              have M8 := Lib.hid (M7.out.keep hb)
              clear hb A7 PA7 PB7 M7
              go_wp2_with fail
              refine (SA.out _ PA8.out).mono ?_
              rintro e w9 ⟨rfl, hb⟩
              have A9 := Lib.hid (down A8.out hb)
              have PA9 := Lib.hid (PA8.out.keep hb)
              have PB9 := Lib.hid (PB8.out.keep hb)
              have M9 := Lib.hid (M8.out.keep hb)
              clear hb A8 PA8 PB8 M8
              go_wp2_with fail
              refine (IM.out _ _ _ M9.out).mono ?_
              rintro e w10 ⟨rfl, hb⟩
              have A10 := Lib.hid (down A9.out hb)
              have PA10 := Lib.hid (PA9.out.keep hb)
              have PB10 := Lib.hid (PB9.out.keep hb)
              have M10 := Lib.hid (M9.out.keep hb)
              clear hb A9 PA9 PB9 M9
              go_wp2_with fail
              refine (IA.out _ PA10.out).mono ?_
              rintro e w11 ⟨rfl, hb⟩
              have A11 := Lib.hid (down A10.out hb)
              have PA11 := Lib.hid (PA10.out.keep hb)
              have PB11 := Lib.hid (PB10.out.keep hb)
              have M11 := Lib.hid (M10.out.keep hb)
              clear hb A10 PA10 PB10 M10
              go_wp2_with fail
              refine (HU.out _ PA11.out PB11.out).mono ?_
              rintro e w12 ⟨⟨v4, rfl, U, -⟩, hb⟩
              have A12 := Lib.hid (down A11.out hb)
              have PA12 := Lib.hid (PA11.out.keep hb)
              have PB12 := Lib.hid (PB11.out.keep hb)
              have M12 := Lib.hid (M11.out.keep hb)
              clear hb A11 PA11 PB11 M11
              replace U := Lib.hid U
              have U12 := U
              clear U
              go_wp2_with fail
              refine (HV.out _ PB12.out).mono ?_
              rintro e w13 ⟨⟨v5, rfl, V⟩, hb⟩
              have A13 := Lib.hid (down A12.out hb)
              have PA13 := Lib.hid (PA12.out.keep hb)
              have PB13 := Lib.hid (PB12.out.keep hb)
              have M13 := Lib.hid (M12.out.keep hb)
              have U13 := Lib.hid (U12.out.keep hb)
              clear hb A12 PA12 PB12 M12 U12
              replace V := Lib.hid V
              have V13 := V
              clear V
              go_wp2_with fail
              refine (HW.out _ _ _ U13.out).mono ?_
              rintro e w14 ⟨⟨v6, rfl, X⟩, hb⟩
              have A14 := Lib.hid (down A13.out hb)
              have PA14 := Lib.hid (PA13.out.keep hb)
              have PB14 := Lib.hid (PB13.out.keep hb)
              have M14 := Lib.hid (M13.out.keep hb)
              have U14 := Lib.hid (U13.out.keep hb)
              have V14 := Lib.hid (V13.out.keep hb)
              clear hb A13 PA13 PB13 M13 U13 V13
              replace X := Lib.hid X
              have X14 := X
              clear X
              go_wp2_with fail
              refine (HY.out _ _ _ _ _ M14.out V14.out).mono ?_
              rintro e w15 ⟨⟨v7, rfl, Y, -⟩, hb⟩
              have A15 := Lib.hid (down A14.out hb)
              have PA15 := Lib.hid (PA14.out.keep hb)
              have PB15 := Lib.hid (PB14.out.keep hb)
              have M15 := Lib.hid (M14.out.keep hb)
              have U15 := Lib.hid (U14.out.keep hb)
              have V15 := Lib.hid (V14.out.keep hb)
              have X15 := Lib.hid (X14.out.keep hb)
              clear hb A14 PA14 PB14 M14 U14 V14 X14
              replace Y := Lib.hid Y
              have Y15 := Y
              clear Y
              go_wp2_with fail
              refine (HZ.out _ _ _ _ _ X15.out Y15.out).mono ?_
              rintro e w16 ⟨rfl, hb⟩
              have A16 := Lib.hid (down A15.out hb)
              have PA16 := Lib.hid (PA15.out.keep hb)
              have PB16 := Lib.hid (PB15.out.keep hb)
              have M16 := Lib.hid (M15.out.keep hb)
              have U16 := Lib.hid (U15.out.keep hb)
              have V16 := Lib.hid (V15.out.keep hb)
              have X16 := Lib.hid (X15.out.keep hb)
              have Y16 := Lib.hid (Y15.out.keep hb)
              clear hb A15 PA15 PB15 M15 U15 V15 X15 Y15
              go_wp2
              go_ret
              exact ⟨rfl, A16.out⟩
            · have q0 := decide_eq_true x0
              have q1 := decide_eq_false x1
              clear IN
              go_enter Try.func11, Try.ntmps11
              go_wp2_with fail
              refine (AW.out _).mono ?_
              rintro e w1 ⟨rfl, hb⟩
              have A1 := Lib.hid (down A0.out hb)
              have PA1 := Lib.hid (PA0.out.keep hb)
              have PB1 := Lib.hid (PB0.out.keep hb)
              clear hb A0 PA0 PB0
              go_wp2_with fail
              refine (GR.out _ _).mono ?_
              rintro e x0 ⟨rfl, rfl⟩
              obtain ⟨w2, hw2⟩ : ∃ w' : World, w1.alloc (.cells #[.slice oa A.length ca, .slice ob B.length cb] 22) = w' := ⟨_, rfl⟩
              rw [hw2]
              have hb : Below w1.heap.size w1 w2 := by rw [← hw2]; exact grow (here _) _
              clear hw2
              have A2 := Lib.hid (down A1.out hb)
              have PA2 := Lib.hid (PA1.out.keep hb)
              have PB2 := Lib.hid (PB1.out.keep hb)
              clear hb A1 PA1 PB1
              go_wp2_with fail
              refine (HM.out _ PA2.out).mono ?_
              rintro e w3 ⟨⟨v1, rfl, M⟩, hb⟩
              have A3 := Lib.hid (down A2.out hb)
              have PA3 := Lib.hid (PA2.out.keep hb)
              have PB3 := Lib.hid (PB2.out.keep hb)
              clear hb A2 PA2 PB2
              replace M := Lib.hid M
              have M3 := M
              clear M
              go_wp2_with fail
              refine (RM.out _ PA3.out).mono ?_
              rintro e w4 ⟨⟨v2, rfl, N⟩, hb⟩
              have A4 := Lib.hid (down A3.out hb)
              have PA4 := Lib.hid (PA3.out.keep hb)
              have PB4 := Lib.hid (PB3.out.keep hb)
              have M4 := Lib.hid (M3.out.keep hb)
              clear hb A3 PA3 PB3 M3
              replace N := Lib.hid N
              have N4 := N
              clear N
              go_wp2_with fail
              refine (HS.out _ _ _ _ _ M4.out N4.out).mono ?_
              rintro e w5 ⟨rfl, hb⟩
              have A5 := Lib.hid (down A4.out hb)
              have PA5 := Lib.hid (PA4.out.keep hb)
              have PB5 := Lib.hid (PB4.out.keep hb)
              have M5 := Lib.hid (M4.out.keep hb)
              have N5 := Lib.hid (N4.out.keep hb)
              clear hb A4 PA4 PB4 M4 N4
              clear N5
              go_wp2_with fail
              refine (HB.out _ _ _ M5.out).mono ?_
              rintro e w6 ⟨⟨v3, rfl, K⟩, hb⟩
              have A6 := Lib.hid (down A5.out hb)
              have PA6 := Lib.hid (PA5.out.keep hb)
              have PB6 := Lib.hid (PB5.out.keep hb)
              have M6 := Lib.hid (M5.out.keep hb)
              clear hb A5 PA5 PB5 M5
              replace K := Lib.hid K
              have K6 := K
              clear K
              go_wp2_with fail
              refine (HE.out _ _ _ K6.out PA6.out).mono ?_
              rintro e w7 ⟨rfl, hb⟩
              have A7 := Lib.hid (down A6.out hb)
              have PA7 := Lib.hid (PA6.out.keep hb)
              have PB7 := Lib.hid (PB6.out.keep hb)
              have M7 := Lib.hid (M6.out.keep hb)
              have K7 := Lib.hid (K6.out.keep hb)
              clear hb A6 PA6 PB6 M6 K6
              clear K7
              go_wp2_with fail
              refine (SM.out _ _ _ M7.out).mono ?_
              rintro e w8 ⟨rfl, hb⟩
              have A8 := Lib.hid (down A7.out hb)
              have PA8 := Lib.hid (PA7.out.keep hb)
              have PB8 := Lib.hid (PB7.out.keep hb)
              have M8 := Lib.hid (M7.out.keep hb)
              clear hb A7 PA7 PB7 M7
              go_wp2_with fail
              refine (SA.out _ PA8.out).mono ?_
              rintro e w9 ⟨rfl, hb⟩
              have A9 := Lib.hid (down A8.out hb)
              have PA9 := Lib.hid (PA8.out.keep hb)
              have PB9 := Lib.hid (PB8.out.keep hb)
              have M9 := Lib.hid (M8.out.keep hb)
              clear hb A8 PA8 PB8 M8
              go_wp2_with fail
              refine (HU.out _ PA9.out PB9.out).mono ?_
              rintro e w10 ⟨⟨v4, rfl, U, -⟩, hb⟩
              have A10 := Lib.hid (down A9.out hb)
              have PA10 := Lib.hid (PA9.out.keep hb)
              have PB10 := Lib.hid (PB9.out.keep hb)
              have M10 := Lib.hid (M9.out.keep hb)
              clear hb A9 PA9 PB9 M9
              replace U := Lib.hid U
              have U10 := U
              clear U
              go_wp2_with fail
              refine (HV.out _ PB10.out).mono ?_
              rintro e w11 ⟨⟨v5, rfl, V⟩, hb⟩
              have A11 := Lib.hid (down A10.out hb)
              have PA11 := Lib.hid (PA10.out.keep hb)
              have PB11 := Lib.hid (PB10.out.keep hb)
              have M11 := Lib.hid (M10.out.keep hb)
              have U11 := Lib.hid (U10.out.keep hb)
              clear hb A10 PA10 PB10 M10 U10
              replace V := Lib.hid V
              have V11 := V
              clear V
              go_wp2_with fail
              refine (HW.out _ _ _ U11.out).mono ?_
              rintro e w12 ⟨⟨v6, rfl, X⟩, hb⟩
              have A12 := Lib.hid (down A11.out hb)
              have PA12 := Lib.hid (PA11.out.keep hb)
              have PB12 := Lib.hid (PB11.out.keep hb)
              have M12 := Lib.hid (M11.out.keep hb)
              have U12 := Lib.hid (U11.out.keep hb)
              have V12 := Lib.hid (V11.out.keep hb)
              clear hb A11 PA11 PB11 M11 U11 V11
              replace X := Lib.hid X
              have X12 := X
              clear X
              go_wp2_with fail
              refine (HY.out _ _ _ _ _ M12.out V12.out).mono ?_
              rintro e w13 ⟨⟨v7, rfl, Y, -⟩, hb⟩
              have A13 := Lib.hid (down A12.out hb)
              have PA13 := Lib.hid (PA12.out.keep hb)
              have PB13 := Lib.hid (PB12.out.keep hb)
              have M13 := Lib.hid (M12.out.keep hb)
              have U13 := Lib.hid (U12.out.keep hb)
              have V13 := Lib.hid (V12.out.keep hb)
              have X13 := Lib.hid (X12.out.keep hb)
              clear hb A12 PA12 PB12 M12 U12 V12 X12
              replace Y := Lib.hid Y
              have Y13 := Y
              clear Y
              go_wp2_with fail
              refine (HZ.out _ _ _ _ _ X13.out Y13.out).mono ?_
              rintro e w14 ⟨rfl, hb⟩
              have A14 := Lib.hid (down A13.out hb)
              have PA14 := Lib.hid (PA13.out.keep hb)
              have PB14 := Lib.hid (PB13.out.keep hb)
              have M14 := Lib.hid (M13.out.keep hb)
              have U14 := Lib.hid (U13.out.keep hb)
              have V14 := Lib.hid (V13.out.keep hb)
              have X14 := Lib.hid (X13.out.keep hb)
              have Y14 := Lib.hid (Y13.out.keep hb)
              clear hb A13 PA13 PB13 M13 U13 V13 X13 Y13
              go_wp2
              go_ret
              exact ⟨rfl, A14.out⟩
          · have q0 := decide_eq_false x0
            clear IN
            go_enter Try.func11, Try.ntmps11
            go_wp2_with fail
            refine (AW.out _).mono ?_
            rintro e w1 ⟨rfl, hb⟩
            have A1 := Lib.hid (down A0.out hb)
            have PA1 := Lib.hid (PA0.out.keep hb)
            have PB1 := Lib.hid (PB0.out.keep hb)
            clear hb A0 PA0 PB0
            go_wp2_with fail
            refine (GR.out _ _).mono ?_
            rintro e x0 ⟨rfl, rfl⟩
            obtain ⟨w2, hw2⟩ : ∃ w' : World, w1.alloc (.cells #[.slice oa A.length ca, .slice ob B.length cb] 22) = w' := ⟨_, rfl⟩
            rw [hw2]
            have hb : Below w1.heap.size w1 w2 := by rw [← hw2]; exact grow (here _) _
            clear hw2
            have A2 := Lib.hid (down A1.out hb)
            have PA2 := Lib.hid (PA1.out.keep hb)
            have PB2 := Lib.hid (PB1.out.keep hb)
            clear hb A1 PA1 PB1
            go_wp2_with fail
            refine (HM.out _ PA2.out).mono ?_
            rintro e w3 ⟨⟨v1, rfl, M⟩, hb⟩
            have A3 := Lib.hid (down A2.out hb)
            have PA3 := Lib.hid (PA2.out.keep hb)
            have PB3 := Lib.hid (PB2.out.keep hb)
            clear hb A2 PA2 PB2
            replace M := Lib.hid M
            have M3 := M
            clear M
            go_wp2_with fail
            refine (RM.out _ PA3.out).mono ?_
            rintro e w4 ⟨⟨v2, rfl, N⟩, hb⟩
            have A4 := Lib.hid (down A3.out hb)
            have PA4 := Lib.hid (PA3.out.keep hb)
            have PB4 := Lib.hid (PB3.out.keep hb)
            have M4 := Lib.hid (M3.out.keep hb)
            clear hb A3 PA3 PB3 M3
            replace N := Lib.hid N
            have N4 := N
            clear N
            go_wp2_with fail
            refine (HS.out _ _ _ _ _ M4.out N4.out).mono ?_
            rintro e w5 ⟨rfl, hb⟩
            have A5 := Lib.hid (down A4.out hb)
            have PA5 := Lib.hid (PA4.out.keep hb)
            have PB5 := Lib.hid (PB4.out.keep hb)
            have M5 := Lib.hid (M4.out.keep hb)
            have N5 := Lib.hid (N4.out.keep hb)
            clear hb A4 PA4 PB4 M4 N4
            clear N5
            go_wp2_with fail
            refine (HB.out _ _ _ M5.out).mono ?_
            rintro e w6 ⟨⟨v3, rfl, K⟩, hb⟩
            have A6 := Lib.hid (down A5.out hb)
            have PA6 := Lib.hid (PA5.out.keep hb)
            have PB6 := Lib.hid (PB5.out.keep hb)
            have M6 := Lib.hid (M5.out.keep hb)
            clear hb A5 PA5 PB5 M5
            replace K := Lib.hid K
            have K6 := K
            clear K
            go_wp2_with fail
            refine (HE.out _ _ _ K6.out PA6.out).mono ?_
            rintro e w7 ⟨rfl, hb⟩
            have A7 := Lib.hid (down A6.out hb)
            have PA7 := Lib.hid (PA6.out.keep hb)
            have PB7 := Lib.hid (PB6.out.keep hb)
            have M7 := Lib.hid (M6.out.keep hb)
            have K7 := Lib.hid (K6.out.keep hb)
            clear hb A6 PA6 PB6 M6 K6
            clear K7
            go_wp2_with fail
            refine (SM.out _ _ _ M7.out).mono ?_
            rintro e w8 ⟨rfl, hb⟩
            have A8 := Lib.hid (down A7.out hb)
            have PA8 := Lib.hid (PA7.out.keep hb)
            have PB8 := Lib.hid (PB7.out.keep hb)
            have M8 := Lib.hid (M7.out.keep hb)
            clear hb A7 PA7 PB7 M7
            go_wp2_with fail
            refine (SA.out _ PA8.out).mono ?_
            rintro e w9 ⟨rfl, hb⟩
            have A9 := Lib.hid (down A8.out hb)
            have PA9 := Lib.hid (PA8.out.keep hb)
            have PB9 := Lib.hid (PB8.out.keep hb)
            have M9 := Lib.hid (M8.out.keep hb)
            clear hb A8 PA8 PB8 M8
            go_wp2_with fail
            refine (HU.out _ PA9.out PB9.out).mono ?_
            rintro e w10 ⟨⟨v4, rfl, U, -⟩, hb⟩
            have A10 := Lib.hid (down A9.out hb)
            have PA10 := Lib.hid (PA9.out.keep hb)
            have PB10 := Lib.hid (PB9.out.keep hb)
            have M10 := Lib.hid (M9.out.keep hb)
            clear hb A9 PA9 PB9 M9
            replace U := Lib.hid U
            have U10 := U
            clear U
            go_wp2_with fail
            refine (HV.out _ PB10.out).mono ?_
            rintro e w11 ⟨⟨v5, rfl, V⟩, hb⟩
            have A11 := Lib.hid (down A10.out hb)
            have PA11 := Lib.hid (PA10.out.keep hb)
            have PB11 := Lib.hid (PB10.out.keep hb)
            have M11 := Lib.hid (M10.out.keep hb)
            have U11 := Lib.hid (U10.out.keep hb)
            clear hb A10 PA10 PB10 M10 U10
            replace V := Lib.hid V
            have V11 := V
            clear V
            go_wp2_with fail
            refine (HW.out _ _ _ U11.out).mono ?_
            rintro e w12 ⟨⟨v6, rfl, X⟩, hb⟩
            have A12 := Lib.hid (down A11.out hb)
            have PA12 := Lib.hid (PA11.out.keep hb)
            have PB12 := Lib.hid (PB11.out.keep hb)
            have M12 := Lib.hid (M11.out.keep hb)
            have U12 := Lib.hid (U11.out.keep hb)
            have V12 := Lib.hid (V11.out.keep hb)
            clear hb A11 PA11 PB11 M11 U11 V11
            replace X := Lib.hid X
            have X12 := X
            clear X
            go_wp2_with fail
            refine (HY.out _ _ _ _ _ M12.out V12.out).mono ?_
            rintro e w13 ⟨⟨v7, rfl, Y, -⟩, hb⟩
            have A13 := Lib.hid (down A12.out hb)
            have PA13 := Lib.hid (PA12.out.keep hb)
            have PB13 := Lib.hid (PB12.out.keep hb)
            have M13 := Lib.hid (M12.out.keep hb)
            have U13 := Lib.hid (U12.out.keep hb)
            have V13 := Lib.hid (V12.out.keep hb)
            have X13 := Lib.hid (X12.out.keep hb)
            clear hb A12 PA12 PB12 M12 U12 V12 X12
            replace Y := Lib.hid Y
            have Y13 := Y
            clear Y
            go_wp2_with fail
            refine (HZ.out _ _ _ _ _ X13.out Y13.out).mono ?_
            rintro e w14 ⟨rfl, hb⟩
            have A14 := Lib.hid (down A13.out hb)
            have PA14 := Lib.hid (PA13.out.keep hb)
            have PB14 := Lib.hid (PB13.out.keep hb)
            have M14 := Lib.hid (M13.out.keep hb)
            have U14 := Lib.hid (U13.out.keep hb)
            have V14 := Lib.hid (V13.out.keep hb)
            have X14 := Lib.hid (X13.out.keep hb)
            have Y14 := Lib.hid (Y13.out.keep hb)
            clear hb A13 PA13 PB13 M13 U13 V13 X13 Y13
            go_wp2
            go_ret
            exact ⟨rfl, A14.out⟩
        · have k3 : (f2 != 0) = true := by rw [bne_iff_ne]; exact k2
          clear fin er1
          by_cases x0 : -4398046511104 ≤ x
          · by_cases x1 : x ≤ 4398046511104
            · obtain ⟨IM, IA⟩ := (IN x0 x1).out
              replace IM := Lib.hid IM
              replace IA := Lib.hid IA
              have q0 := decide_eq_true x0
              have q1 := decide_eq_true x1
              clear IN k2
              go_enter Try.func11, Try.ntmps11
              go_wp2_with fail
              refine (AW.out _).mono ?_
              rintro e w1 ⟨rfl, hb⟩
              have A1 := Lib.hid (down A0.out hb)
              have PA1 := Lib.hid (PA0.out.keep hb)
              have PB1 := Lib.hid (PB0.out.keep hb)
              clear hb A0 PA0 PB0
              go_wp2_with fail
              refine (GR.out _ _).mono ?_
              rintro e x0 ⟨rfl, rfl⟩
              obtain ⟨w2, hw2⟩ : ∃ w' : World, w1.alloc (.cells #[.slice oa A.length ca, .slice ob B.length cb] 22) = w' := ⟨_, rfl⟩
              rw [hw2]
              have hb : Below w1.heap.size w1 w2 := by rw [← hw2]; exact grow (here _) _
              clear hw2
              have A2 := Lib.hid (down A1.out hb)
              have PA2 := Lib.hid (PA1.out.keep hb)
              have PB2 := Lib.hid (PB1.out.keep hb)
              clear hb A1 PA1 PB1
              go_wp2_with fail
              refine (HM.out _ PA2.out).mono ?_
              rintro e w3 ⟨⟨v1, rfl, M⟩, hb⟩
              have A3 := Lib.hid (down A2.out hb)
              have PA3 := Lib.hid (PA2.out.keep hb)
              have PB3 := Lib.hid (PB2.out.keep hb)
              clear hb A2 PA2 PB2
              replace M := Lib.hid M
              have M3 := M
              clear M
              go_wp2_with fail
              refine (RM.out _ PA3.out).mono ?_
              rintro e w4 ⟨⟨v2, rfl, N⟩, hb⟩
              have A4 := Lib.hid (down A3.out hb)
              have PA4 := Lib.hid (PA3.out.keep hb)
              have PB4 := Lib.hid (PB3.out.keep hb)
              have M4 := Lib.hid (M3.out.keep hb)
              clear hb A3 PA3 PB3 M3
              replace N := Lib.hid N
              have N4 := N
              clear N
              go_wp2_with fail
              refine (HS.out _ _ _ _ _ M4.out N4.out).mono ?_
              rintro e w5 ⟨rfl, hb⟩
              have A5 := Lib.hid (down A4.out hb)
              have PA5 := Lib.hid (PA4.out.keep hb)
              have PB5 := Lib.hid (PB4.out.keep hb)
              have M5 := Lib.hid (M4.out.keep hb)
              have N5 := Lib.hid (N4.out.keep hb)
              clear hb A4 PA4 PB4 M4 N4
              clear N5
              go_wp2_with fail
              refine (HB.out _ _ _ M5.out).mono ?_
              rintro e w6 ⟨⟨v3, rfl, K⟩, hb⟩
              have A6 := Lib.hid (down A5.out hb)
              have PA6 := Lib.hid (PA5.out.keep hb)
              have PB6 := Lib.hid (PB5.out.keep hb)
              have M6 := Lib.hid (M5.out.keep hb)
              clear hb A5 PA5 PB5 M5
              replace K := Lib.hid K
              have K6 := K
              clear K
              go_wp2_with fail
              refine (HE.out _ _ _ K6.out PA6.out).mono ?_
              rintro e w7 ⟨rfl, hb⟩
              have A7 := Lib.hid (down A6.out hb)
              have PA7 := Lib.hid (PA6.out.keep hb)
              have PB7 := Lib.hid (PB6.out.keep hb)
              have M7 := Lib.hid (M6.out.keep hb)
              have K7 := Lib.hid (K6.out.keep hb)
              clear hb A6 PA6 PB6 M6 K6
              clear K7
              go_wp2_with fail
              refine (SM.out _ _ _ M7.out).mono ?_
              rintro e w8 ⟨rfl, hb⟩
              have A8 := Lib.hid (down A7.out hb)
              have PA8 := Lib.hid (PA7.out.keep hb)
              have PB8 := Lib.hid (PB7.out.keep hb)
              have M8 := Lib.hid (M7.out.keep hb)
              clear hb A7 PA7 PB7 M7
              go_wp2_with fail
              refine (SA.out _ PA8.out).mono ?_
              rintro e w9 ⟨rfl, hb⟩
              have A9 := Lib.hid (down A8.out hb)
              have PA9 := Lib.hid (PA8.out.keep hb)
              have PB9 := Lib.hid (PB8.out.keep hb)
              have M9 := Lib.hid (M8.out.keep hb)
              clear hb A8 PA8 PB8 M8
              go_wp2_with fail
              refine (IM.out _ _ _ M9.out).mono ?_
              rintro e w10 ⟨rfl, hb⟩
              have A10 := Lib.hid (down A9.out hb)
              have PA10 := Lib.hid (PA9.out.keep hb)
              have PB10 := Lib.hid (PB9.out.keep hb)
              have M10 := Lib.hid (M9.out.keep hb)
              clear hb A9 PA9 PB9 M9
              go_wp2_with fail
              refine (IA.out _ PA10.out).mono ?_
              rintro e w11 ⟨rfl, hb⟩
              have A11 := Lib.hid (down A10.out hb)
              have PA11 := Lib.hid (PA10.out.keep hb)
              have PB11 := Lib.hid (PB10.out.keep hb)
              have M11 := Lib.hid (M10.out.keep hb)
              clear hb A10 PA10 PB10 M10
              go_wp2_with fail
              refine (HU.out _ PA11.out PB11.out).mono ?_
              rintro e w12 ⟨⟨v4, rfl, U, -⟩, hb⟩
              have A12 := Lib.hid (down A11.out hb)
              have PA12 := Lib.hid (PA11.out.keep hb)
              have PB12 := Lib.hid (PB11.out.keep hb)
              have M12 := Lib.hid (M11.out.keep hb)
              clear hb A11 PA11 PB11 M11
              replace U := Lib.hid U
              have U12 := U
              clear U
              go_wp2_with fail
              refine (HV.out _ PB12.out).mono ?_
              rintro e w13 ⟨⟨v5, rfl, V⟩, hb⟩
              have A13 := Lib.hid (down A12.out hb)
              have PA13 := Lib.hid (PA12.out.keep hb)
              have PB13 := Lib.hid (PB12.out.keep hb)
              have M13 := Lib.hid (M12.out.keep hb)
              have U13 := Lib.hid (U12.out.keep hb)
              clear hb A12 PA12 PB12 M12 U12
              replace V := Lib.hid V
              have V13 := V
              clear V
              go_wp2
              go_ret
              exact ⟨rfl, A13.out⟩
            · have q0 := decide_eq_true x0
              have q1 := decide_eq_false x1
              clear IN k2
              go_enter Try.func11, Try.ntmps11
              go_wp2_with fail
              refine (AW.out _).mono ?_
              rintro e w1 ⟨rfl, hb⟩
              have A1 := Lib.hid (down A0.out hb)
              have PA1 := Lib.hid (PA0.out.keep hb)
              have PB1 := Lib.hid (PB0.out.keep hb)
              clear hb A0 PA0 PB0
              go_wp2_with fail
              refine (GR.out _ _).mono ?_
              rintro e x0 ⟨rfl, rfl⟩
              obtain ⟨w2, hw2⟩ : ∃ w' : World, w1.alloc (.cells #[.slice oa A.length ca, .slice ob B.length cb] 22) = w' := ⟨_, rfl⟩
              rw [hw2]
              have hb : Below w1.heap.size w1 w2 := by rw [← hw2]; exact grow (here _) _
              clear hw2
              have A2 := Lib.hid (down A1.out hb)
              have PA2 := Lib.hid (PA1.out.keep hb)
              have PB2 := Lib.hid (PB1.out.keep hb)
              clear hb A1 PA1 PB1
              go_wp2_with fail
              refine (HM.out _ PA2.out).mono ?_
              rintro e w3 ⟨⟨v1, rfl, M⟩, hb⟩
              have A3 := Lib.hid (down A2.out hb)
              have PA3 := Lib.hid (PA2.out.keep hb)
              have PB3 := Lib.hid (PB2.out.keep hb)
              clear hb A2 PA2 PB2
              replace M := Lib.hid M
              have M3 := M
              clear M
              go_wp2_with fail
              refine (RM.out _ PA3.out).mono ?_
              rintro e w4 ⟨⟨v2, rfl, N⟩, hb⟩
              have A4 := Lib.hid (down A3.out hb)
              have PA4 := Lib.hid (PA3.out.keep hb)
              have PB4 := Lib.hid (PB3.out.keep hb)
              have M4 := Lib.hid (M3.out.keep hb)
              clear hb A3 PA3 PB3 M3
              replace N := Lib.hid N
              have N4 := N
              clear N
              go_wp2_with fail
              refine (HS.out _ _ _ _ _ M4.out N4.out).mono ?_
              rintro e w5 ⟨rfl, hb⟩
              have A5 := Lib.hid (down A4.out hb)
              have PA5 := Lib.hid (PA4.out.keep hb)
              have PB5 := Lib.hid (PB4.out.keep hb)
              have M5 := Lib.hid (M4.out.keep hb)
              have N5 := Lib.hid (N4.out.keep hb)
              clear hb A4 PA4 PB4 M4 N4
              clear N5
              go_wp2_with fail
              refine (HB.out _ _ _ M5.out).mono ?_
              rintro e w6 ⟨⟨v3, rfl, K⟩, hb⟩
              have A6 := Lib.hid (down A5.out hb)
              have PA6 := Lib.hid (PA5.out.keep hb)
              have PB6 := Lib.hid (PB5.out.keep hb)
              have M6 := Lib.hid (M5.out.keep hb)
              clear hb A5 PA5 PB5 M5
              replace K := Lib.hid K
              have K6 := K
              clear K
              go_wp2_with fail
              refine (HE.out _ _ _ K6.out PA6.out).mono ?_
              rintro e w7 ⟨rfl, hb⟩
              have A7 := Lib.hid (down A6.out hb)
              have PA7 := Lib.hid (PA6.out.keep hb)
              have PB7 := Lib.hid (PB6.out.keep hb)
              have M7 := Lib.hid (M6.out.keep hb)
              have K7 := Lib.hid (K6.out.keep hb)
              clear hb A6 PA6 PB6 M6 K6
              clear K7
              go_wp2_with fail
              refine (SM.out _ _ _ M7.out).mono ?_
              rintro e w8 ⟨rfl, hb⟩
              have A8 := Lib.hid (down A7.out hb)
              have PA8 := Lib.hid (PA7.out.keep hb)
              have PB8 := Lib.hid (PB7.out.keep hb)
              have M8 := Lib.hid (M7.out.keep hb)
              clear hb A7 PA7 PB7 M7
              go_wp2_with fail
              refine (SA.out _ PA8.out).mono ?_
              rintro e w9 ⟨rfl, hb⟩
              have A9 := Lib.hid (down A8.out hb)
              have PA9 := Lib.hid (PA8.out.keep hb)
              have PB9 := Lib.hid (PB8.out.keep hb)
              have M9 := Lib.hid (M8.out.keep hb)
              clear hb A8 PA8 PB8 M8
              go_wp2_with fail
              refine (HU.out _ PA9.out PB9.out).mono ?_
              rintro e w10 ⟨⟨v4, rfl, U, -⟩, hb⟩
              have A10 := Lib.hid (down A9.out hb)
              have PA10 := Lib.hid (PA9.out.keep hb)
              have PB10 := Lib.hid (PB9.out.keep hb)
              have M10 := Lib.hid (M9.out.keep hb)
              clear hb A9 PA9 PB9 M9
              replace U := Lib.hid U
              have U10 := U
              clear U
              go_wp2_with fail
              refine (HV.out _ PB10.out).mono ?_
              rintro e w11 ⟨⟨v5, rfl, V⟩, hb⟩
              have A11 := Lib.hid (down A10.out hb)
              have PA11 := Lib.hid (PA10.out.keep hb)
              have PB11 := Lib.hid (PB10.out.keep hb)
              have M11 := Lib.hid (M10.out.keep hb)
              have U11 := Lib.hid (U10.out.keep hb)
              clear hb A10 PA10 PB10 M10 U10
              replace V := Lib.hid V
              have V11 := V
              clear V
              go_wp2
              go_ret
              exact ⟨rfl, A11.out⟩
          · have q0 := decide_eq_false x0
            clear IN k2
            go_enter Try.func11, Try.ntmps11
            go_wp2_with fail
            refine (AW.out _).mono ?_
            rintro e w1 ⟨rfl, hb⟩
            have A1 := Lib.hid (down A0.out hb)
            have PA1 := Lib.hid (PA0.out.keep hb)
            have PB1 := Lib.hid (PB0.out.keep hb)
            clear hb A0 PA0 PB0
            go_wp2_with fail
            refine (GR.out _ _).mono ?_
            rintro e x0 ⟨rfl, rfl⟩
            obtain ⟨w2, hw2⟩ : ∃ w' : World, w1.alloc (.cells #[.slice oa A.length ca, .slice ob B.length cb] 22) = w' := ⟨_, rfl⟩
            rw [hw2]
            have hb : Below w1.heap.size w1 w2 := by rw [← hw2]; exact grow (here _) _
            clear hw2
            have A2 := Lib.hid (down A1.out hb)
            have PA2 := Lib.hid (PA1.out.keep hb)
            have PB2 := Lib.hid (PB1.out.keep hb)
            clear hb A1 PA1 PB1
            go_wp2_with fail
            refine (HM.out _ PA2.out).mono ?_
            rintro e w3 ⟨⟨v1, rfl, M⟩, hb⟩
            have A3 := Lib.hid (down A2.out hb)
            have PA3 := Lib.hid (PA2.out.keep hb)
            have PB3 := Lib.hid (PB2.out.keep hb)
            clear hb A2 PA2 PB2
            replace M := Lib.hid M
            have M3 := M
            clear M
            go_wp2_with fail
            refine (RM.out _ PA3.out).mono ?_
            rintro e w4 ⟨⟨v2, rfl, N⟩, hb⟩
            have A4 := Lib.hid (down A3.out hb)
            have PA4 := Lib.hid (PA3.out.keep hb)
            have PB4 := Lib.hid (PB3.out.keep hb)
            have M4 := Lib.hid (M3.out.keep hb)
            clear hb A3 PA3 PB3 M3
            replace N := Lib.hid N
            have N4 := N
            clear N
            go_wp2_with fail
            refine (HS.out _ _ _ _ _ M4.out N4.out).mono ?_
            rintro e w5 ⟨rfl, hb⟩
            have A5 := Lib.hid (down A4.out hb)
            have PA5 := Lib.hid (PA4.out.keep hb)
            have PB5 := Lib.hid (PB4.out.keep hb)
            have M5 := Lib.hid (M4.out.keep hb)
            have N5 := Lib.hid (N4.out.keep hb)
            clear hb A4 PA4 PB4 M4 N4
            clear N5
            go_wp2_with fail
            refine (HB.out _ _ _ M5.out).mono ?_
            rintro e w6 ⟨⟨v3, rfl, K⟩, hb⟩
            have A6 := Lib.hid (down A5.out hb)
            have PA6 := Lib.hid (PA5.out.keep hb)
            have PB6 := Lib.hid (PB5.out.keep hb)
            have M6 := Lib.hid (M5.out.keep hb)
            clear hb A5 PA5 PB5 M5
            replace K := Lib.hid K
            have K6 := K
            clear K
            go_wp2_with fail
            refine (HE.out _ _ _ K6.out PA6.out).mono ?_
            rintro e w7 ⟨rfl, hb⟩
            have A7 := Lib.hid (down A6.out hb)
            have PA7 := Lib.hid (PA6.out.keep hb)
            have PB7 := Lib.hid (PB6.out.keep hb)
            have M7 := Lib.hid (M6.out.keep hb)
            have K7 := Lib.hid (K6.out.keep hb)
            clear hb A6 PA6 PB6 M6 K6
            clear K7
            go_wp2_with fail
            refine (SM.out _ _ _ M7.out).mono ?_
            rintro e w8 ⟨rfl, hb⟩
            have A8 := Lib.hid (down A7.out hb)
            have PA8 := Lib.hid (PA7.out.keep hb)
            have PB8 := Lib.hid (PB7.out.keep hb)
            have M8 := Lib.hid (M7.out.keep hb)
            clear hb A7 PA7 PB7 M7
            go_wp2_with fail
            refine (SA.out _ PA8.out).mono ?_
            rintro e w9 ⟨rfl, hb⟩
            have A9 := Lib.hid (down A8.out hb)
            have PA9 := Lib.hid (PA8.out.keep hb)
            have PB9 := Lib.hid (PB8.out.keep hb)
            have M9 := Lib.hid (M8.out.keep hb)
            clear hb A8 PA8 PB8 M8
            go_wp2_with fail
            refine (HU.out _ PA9.out PB9.out).mono ?_
            rintro e w10 ⟨⟨v4, rfl, U, -⟩, hb⟩
            have A10 := Lib.hid (down A9.out hb)
            have PA10 := Lib.hid (PA9.out.keep hb)
            have PB10 := Lib.hid (PB9.out.keep hb)
            have M10 := Lib.hid (M9.out.keep hb)
            clear hb A9 PA9 PB9 M9
            replace U := Lib.hid U
            have U10 := U
            clear U
            go_wp2_with fail
            refine (HV.out _ PB10.out).mono ?_
            rintro e w11 ⟨⟨v5, rfl, V⟩, hb⟩
            have A11 := Lib.hid (down A10.out hb)
            have PA11 := Lib.hid (PA10.out.keep hb)
            have PB11 := Lib.hid (PB10.out.keep hb)
            have M11 := Lib.hid (M10.out.keep hb)
            have U11 := Lib.hid (U10.out.keep hb)
            clear hb A10 PA10 PB10 M10 U10
            replace V := Lib.hid V
            have V11 := V
            clear V
            go_wp2
            go_ret
            exact ⟨rfl, A11.out⟩
      · have k3 : (f1 != 0) = true := by rw [bne_iff_ne]; exact k1
        clear fin er2
        by_cases x0 : -4398046511104 ≤ x
        · by_cases x1 : x ≤ 4398046511104
          · obtain ⟨IM, IA⟩ := (IN x0 x1).out
            replace IM := Lib.hid IM
            replace IA := Lib.hid IA
            have q0 := decide_eq_true x0
            have q1 := decide_eq_true x1
            clear IN k1
            go_enter Try.func11, Try.ntmps11
            go_wp2_with fail
            refine (AW.out _).mono ?_
            rintro e w1 ⟨rfl, hb⟩
            have A1 := Lib.hid (down A0.out hb)
            have PA1 := Lib.hid (PA0.out.keep hb)
            have PB1 := Lib.hid (PB0.out.keep hb)
            clear hb A0 PA0 PB0
            go_wp2_with fail
            refine (GR.out _ _).mono ?_
            rintro e x0 ⟨rfl, rfl⟩
            obtain ⟨w2, hw2⟩ : ∃ w' : World, w1.alloc (.cells #[.slice oa A.length ca, .slice ob B.length cb] 22) = w' := ⟨_, rfl⟩
            rw [hw2]
            have hb : Below w1.heap.size w1 w2 := by rw [← hw2]; exact grow (here _) _
            clear hw2
            have A2 := Lib.hid (down A1.out hb)
            have PA2 := Lib.hid (PA1.out.keep hb)
            have PB2 := Lib.hid (PB1.out.keep hb)
            clear hb A1 PA1 PB1
            go_wp2_with fail
            refine (HM.out _ PA2.out).mono ?_
            rintro e w3 ⟨⟨v1, rfl, M⟩, hb⟩
            have A3 := Lib.hid (down A2.out hb)
            have PA3 := Lib.hid (PA2.out.keep hb)
            have PB3 := Lib.hid (PB2.out.keep hb)
            clear hb A2 PA2 PB2
            replace M := Lib.hid M
            have M3 := M
            clear M
            go_wp2_with fail
            refine (RM.out _ PA3.out).mono ?_
            rintro e w4 ⟨⟨v2, rfl, N⟩, hb⟩
            have A4 := Lib.hid (down A3.out hb)
            have PA4 := Lib.hid (PA3.out.keep hb)
            have PB4 := Lib.hid (PB3.out.keep hb)
            have M4 := Lib.hid (M3.out.keep hb)
            clear hb A3 PA3 PB3 M3
            replace N := Lib.hid N
            have N4 := N
            clear N
            go_wp2_with fail
            refine (HS.out _ _ _ _ _ M4.out N4.out).mono ?_
            rintro e w5 ⟨rfl, hb⟩
            have A5 := Lib.hid (down A4.out hb)
            have PA5 := Lib.hid (PA4.out.keep hb)
            have PB5 := Lib.hid (PB4.out.keep hb)
            have M5 := Lib.hid (M4.out.keep hb)
            have N5 := Lib.hid (N4.out.keep hb)
            clear hb A4 PA4 PB4 M4 N4
            clear N5
            go_wp2_with fail
            refine (HB.out _ _ _ M5.out).mono ?_
            rintro e w6 ⟨⟨v3, rfl, K⟩, hb⟩
            have A6 := Lib.hid (down A5.out hb)
            have PA6 := Lib.hid (PA5.out.keep hb)
            have PB6 := Lib.hid (PB5.out.keep hb)
            have M6 := Lib.hid (M5.out.keep hb)
            clear hb A5 PA5 PB5 M5
            replace K := Lib.hid K
            have K6 := K
            clear K
            go_wp2_with fail
            refine (HE.out _ _ _ K6.out PA6.out).mono ?_
            rintro e w7 ⟨rfl, hb⟩
            have A7 := Lib.hid (down A6.out hb)
            have PA7 := Lib.hid (PA6.out.keep hb)
            have PB7 := Lib.hid (PB6.out.keep hb)
            have M7 := Lib.hid (M6.out.keep hb)
            have K7 := Lib.hid (K6.out.keep hb)
            clear hb A6 PA6 PB6 M6 K6
            clear K7
            go_wp2_with fail
            refine (SM.out _ _ _ M7.out).mono ?_
            rintro e w8 ⟨rfl, hb⟩
            have A8 := Lib.hid (down A7.out hb)
            have PA8 := Lib.hid (PA7.out.keep hb)
            have PB8 := Lib.hid (PB7.out.keep hb)
            have M8 := Lib.hid (M7.out.keep hb)
            clear hb A7 PA7 PB7 M7
            go_wp2_with fail
            refine (SA.out _ PA8.out).mono ?_
            rintro e w9 ⟨rfl, hb⟩
            have A9 := Lib.hid (down A8.out hb)
            have PA9 := Lib.hid (PA8.out.keep hb)
            have PB9 := Lib.hid (PB8.out.keep hb)
            have M9 := Lib.hid (M8.out.keep hb)
            clear hb A8 PA8 PB8 M8
            go_wp2_with fail
            refine (IM.out _ _ _ M9.out).mono ?_
            rintro e w10 ⟨rfl, hb⟩
            have A10 := Lib.hid (down A9.out hb)
            have PA10 := Lib.hid (PA9.out.keep hb)
            have PB10 := Lib.hid (PB9.out.keep hb)
            have M10 := Lib.hid (M9.out.keep hb)
            clear hb A9 PA9 PB9 M9
            go_wp2_with fail
            refine (IA.out _ PA10.out).mono ?_
            rintro e w11 ⟨rfl, hb⟩
            have A11 := Lib.hid (down A10.out hb)
            have PA11 := Lib.hid (PA10.out.keep hb)
            have PB11 := Lib.hid (PB10.out.keep hb)
            have M11 := Lib.hid (M10.out.keep hb)
            clear hb A10 PA10 PB10 M10
            go_wp2_with fail
            refine (HU.out _ PA11.out PB11.out).mono ?_
            rintro e w12 ⟨⟨v4, rfl, U, -⟩, hb⟩
            have A12 := Lib.hid (down A11.out hb)
            have PA12 := Lib.hid (PA11.out.keep hb)
            have PB12 := Lib.hid (PB11.out.keep hb)
            have M12 := Lib.hid (M11.out.keep hb)
            clear hb A11 PA11 PB11 M11
            replace U := Lib.hid U
            have U12 := U
            clear U
            go_wp2_with fail
            refine (HV.out _ PB12.out).mono ?_
            rintro e w13 ⟨⟨v5, rfl, V⟩, hb⟩
            have A13 := Lib.hid (down A12.out hb)
            have PA13 := Lib.hid (PA12.out.keep hb)
            have PB13 := Lib.hid (PB12.out.keep hb)
            have M13 := Lib.hid (M12.out.keep hb)
            have U13 := Lib.hid (U12.out.keep hb)
            clear hb A12 PA12 PB12 M12 U12
            replace V := Lib.hid V
            have V13 := V
            clear V
            go_wp2
            go_ret
            exact ⟨rfl, A13.out⟩
          · have q0 := decide_eq_true x0
            have q1 := decide_eq_false x1
            clear IN k1
            go_enter Try.func11, Try.ntmps11
            go_wp2_with fail
            refine (AW.out _).mono ?_
            rintro e w1 ⟨rfl, hb⟩
            have A1 := Lib.hid (down A0.out hb)
            have PA1 := Lib.hid (PA0.out.keep hb)
            have PB1 := Lib.hid (PB0.out.keep hb)
            clear hb A0 PA0 PB0
            go_wp2_with fail
            refine (GR.out _ _).mono ?_
            rintro e x0 ⟨rfl, rfl⟩
            obtain ⟨w2, hw2⟩ : ∃ w' : World, w1.alloc (.cells #[.slice oa A.length ca, .slice ob B.length cb] 22) = w' := ⟨_, rfl⟩
            rw [hw2]
            have hb : Below w1.heap.size w1 w2 := by rw [← hw2]; exact grow (here _) _
            clear hw2
            have A2 := Lib.hid (down A1.out hb)
            have PA2 := Lib.hid (PA1.out.keep hb)
            have PB2 := Lib.hid (PB1.out.keep hb)
            clear hb A1 PA1 PB1
            go_wp2_with fail
            refine (HM.out _ PA2.out).mono ?_
            rintro e w3 ⟨⟨v1, rfl, M⟩, hb⟩
            have A3 := Lib.hid (down A2.out hb)
            have PA3 := Lib.hid (PA2.out.keep hb)
            have PB3 := Lib.hid (PB2.out.keep hb)
            clear hb A2 PA2 PB2
            replace M := Lib.hid M
            have M3 := M
            clear M
            go_wp2_with fail
            refine (RM.out _ PA3.out).mono ?_
            rintro e w4 ⟨⟨v2, rfl, N⟩, hb⟩
            have A4 := Lib.hid (down A3.out hb)
            have PA4 := Lib.hid (PA3.out.keep hb)
            have PB4 := Lib.hid (PB3.out.keep hb)
            have M4 := Lib.hid (M3.out.keep hb)
            clear hb A3 PA3 PB3 M3
            replace N := Lib.hid N
            have N4 := N
            clear N
            go_wp2_with fail
            refine (HS.out _ _ _ _ _ M4.out N4.out).mono ?_
            rintro e w5 ⟨rfl, hb⟩
            have A5 := Lib.hid (down A4.out hb)
            have PA5 := Lib.hid (PA4.out.keep hb)
            have PB5 := Lib.hid (PB4.out.keep hb)
            have M5 := Lib.hid (M4.out.keep hb)
            have N5 := Lib.hid (N4.out.keep hb)
            clear hb A4 PA4 PB4 M4 N4
            clear N5
            go_wp2_with fail
            refine (HB.out _ _ _ M5.out).mono ?_
            rintro e w6 ⟨⟨v3, rfl, K⟩, hb⟩
            have A6 := Lib.hid (down A5.out hb)
            have PA6 := Lib.hid (PA5.out.keep hb)
            have PB6 := Lib.hid (PB5.out.keep hb)
            have M6 := Lib.hid (M5.out.keep hb)
            clear hb A5 PA5 PB5 M5
            replace K := Lib.hid K
            have K6 := K
            clear K
            go_wp2_with fail
            refine (HE.out _ _ _ K6.out PA6.out).mono ?_
            rintro e w7 ⟨rfl, hb⟩
            have A7 := Lib.hid (down A6.out hb)
            have PA7 := Lib.hid (PA6.out.keep hb)
            have PB7 := Lib.hid (PB6.out.keep hb)
            have M7 := Lib.hid (M6.out.keep hb)
            have K7 := Lib.hid (K6.out.keep hb)
            clear hb A6 PA6 PB6 M6 K6
            clear K7
            go_wp2_with fail
            refine (SM.out _ _ _ M7.out).mono ?_
            rintro e w8 ⟨rfl, hb⟩
            have A8 := Lib.hid (down A7.out hb)
            have PA8 := Lib.hid (PA7.out.keep hb)
            have PB8 := Lib.hid (PB7.out.keep hb)
            have M8 := Lib.hid (M7.out.keep hb)
            clear hb A7 PA7 PB7 M7
            go_wp2_with fail
            refine (SA.out _ PA8.out).mono ?_
            rintro e w9 ⟨rfl, hb⟩
            have A9 := Lib.hid (down A8.out hb)
            have PA9 := Lib.hid (PA8.out.keep hb)
            have PB9 := Lib.hid (PB8.out.keep hb)
            have M9 := Lib.hid (M8.out.keep hb)
            clear hb A8 PA8 PB8 M8
            go_wp2_with fail
            refine (HU.out _ PA9.out PB9.out).mono ?_
            rintro e w10 ⟨⟨v4, rfl, U, -⟩, hb⟩
            have A10 := Lib.hid (down A9.out hb)
            have PA10 := Lib.hid (PA9.out.keep hb)
            have PB10 := Lib.hid (PB9.out.keep hb)
            have M10 := Lib.hid (M9.out.keep hb)
            clear hb A9 PA9 PB9 M9
            replace U := Lib.hid U
            have U10 := U
            clear U
            go_wp2_with fail
            refine (HV.out _ PB10.out).mono ?_
            rintro e w11 ⟨⟨v5, rfl, V⟩, hb⟩
            have A11 := Lib.hid (down A10.out hb)
            have PA11 := Lib.hid (PA10.out.keep hb)
            have PB11 := Lib.hid (PB10.out.keep hb)
            have M11 := Lib.hid (M10.out.keep hb)
            have U11 := Lib.hid (U10.out.keep hb)
            clear hb A10 PA10 PB10 M10 U10
            replace V := Lib.hid V
            have V11 := V
            clear V
            go_wp2
            go_ret
            exact ⟨rfl, A11.out⟩
        · have q0 := decide_eq_false x0
          clear IN k1
          go_enter Try.func11, Try.ntmps11
          go_wp2_with fail
          refine (AW.out _).mono ?_
          rintro e w1 ⟨rfl, hb⟩
          have A1 := Lib.hid (down A0.out hb)
          have PA1 := Lib.hid (PA0.out.keep hb)
          have PB1 := Lib.hid (PB0.out.keep hb)
          clear hb A0 PA0 PB0
          go_wp2_with fail
          refine (GR.out _ _).mono ?_
          rintro e x0 ⟨rfl, rfl⟩
          obtain ⟨w2, hw2⟩ : ∃ w' : World, w1.alloc (.cells #[.slice oa A.length ca, .slice ob B.length cb] 22) = w' := ⟨_, rfl⟩
          rw [hw2]
          have hb : Below w1.heap.size w1 w2 := by rw [← hw2]; exact grow (here _) _
          clear hw2
          have A2 := Lib.hid (down A1.out hb)
          have PA2 := Lib.hid (PA1.out.keep hb)
          have PB2 := Lib.hid (PB1.out.keep hb)
          clear hb A1 PA1 PB1
          go_wp2_with fail
          refine (HM.out _ PA2.out).mono ?_
          rintro e w3 ⟨⟨v1, rfl, M⟩, hb⟩
          have A3 := Lib.hid (down A2.out hb)
          have PA3 := Lib.hid (PA2.out.keep hb)
          have PB3 := Lib.hid (PB2.out.keep hb)
          clear hb A2 PA2 PB2
          replace M := Lib.hid M
          have M3 := M
          clear M
          go_wp2_with fail
          refine (RM.out _ PA3.out).mono ?_
          rintro e w4 ⟨⟨v2, rfl, N⟩, hb⟩
          have A4 := Lib.hid (down A3.out hb)
          have PA4 := Lib.hid (PA3.out.keep hb)
          have PB4 := Lib.hid (PB3.out.keep hb)
          have M4 := Lib.hid (M3.out.keep hb)
          clear hb A3 PA3 PB3 M3
          replace N := Lib.hid N
          have N4 := N
          clear N
          go_wp2_with fail
          refine (HS.out _ _ _ _ _ M4.out N4.out).mono ?_
          rintro e w5 ⟨rfl, hb⟩
          have A5 := Lib.hid (down A4.out hb)
          have PA5 := Lib.hid (PA4.out.keep hb)
          have PB5 := Lib.hid (PB4.out.keep hb)
          have M5 := Lib.hid (M4.out.keep hb)
          have N5 := Lib.hid (N4.out.keep hb)
          clear hb A4 PA4 PB4 M4 N4
          clear N5
          go_wp2_with fail
          refine (HB.out _ _ _ M5.out).mono ?_
          rintro e w6 ⟨⟨v3, rfl, K⟩, hb⟩
          have A6 := Lib.hid (down A5.out hb)
          have PA6 := Lib.hid (PA5.out.keep hb)
          have PB6 := Lib.hid (PB5.out.keep hb)
          have M6 := Lib.hid (M5.out.keep hb)
          clear hb A5 PA5 PB5 M5
          replace K := Lib.hid K
          have K6 := K
          clear K
          go_wp2_with fail
          refine (HE.out _ _ _ K6.out PA6.out).mono ?_
          rintro e w7 ⟨rfl, hb⟩
          have A7 := Lib.hid (down A6.out hb)
          have PA7 := Lib.hid (PA6.out.keep hb)
          have PB7 := Lib.hid (PB6.out.keep hb)
          have M7 := Lib.hid (M6.out.keep hb)
          have K7 := Lib.hid (K6.out.keep hb)
          clear hb A6 PA6 PB6 M6 K6
          clear K7
          go_wp2_with fail
          refine (SM.out _ _ _ M7.out).mono ?_
          rintro e w8 ⟨rfl, hb⟩
          have A8 := Lib.hid (down A7.out hb)
          have PA8 := Lib.hid (PA7.out.keep hb)
          have PB8 := Lib.hid (PB7.out.keep hb)
          have M8 := Lib.hid (M7.out.keep hb)
          clear hb A7 PA7 PB7 M7
          go_wp2_with fail
          refine (SA.out _ PA8.out).mono ?_
          rintro e w9 ⟨rfl, hb⟩
          have A9 := Lib.hid (down A8.out hb)
          have PA9 := Lib.hid (PA8.out.keep hb)
          have PB9 := Lib.hid (PB8.out.keep hb)
          have M9 := Lib.hid (M8.out.keep hb)
          clear hb A8 PA8 PB8 M8
          go_wp2_with fail
          refine (HU.out _ PA9.out PB9.out).mono ?_
          rintro e w10 ⟨⟨v4, rfl, U, -⟩, hb⟩
          have A10 := Lib.hid (down A9.out hb)
          have PA10 := Lib.hid (PA9.out.keep hb)
          have PB10 := Lib.hid (PB9.out.keep hb)
          have M10 := Lib.hid (M9.out.keep hb)
          clear hb A9 PA9 PB9 M9
          replace U := Lib.hid U
          have U10 := U
          clear U
          go_wp2_with fail
          refine (HV.out _ PB10.out).mono ?_
          rintro e w11 ⟨⟨v5, rfl, V⟩, hb⟩
          have A11 := Lib.hid (down A10.out hb)
          have PA11 := Lib.hid (PA10.out.keep hb)
          have PB11 := Lib.hid (PB10.out.keep hb)
          have M11 := Lib.hid (M10.out.keep hb)
          have U11 := Lib.hid (U10.out.keep hb)
          clear hb A10 PA10 PB10 M10 U10
          replace V := Lib.hid V
          have V11 := V
          clear V
          go_wp2
          go_ret
          exact ⟨rfl, A11.out⟩
    · have k3 : ((moV A n).2 != 0) = true := by rw [bne_iff_ne]; exact e0
      have er := mo_err A n
      clear g lM e0 hx hn hA hB
      generalize moV A n = R1 at *
      obtain ⟨V1, f1⟩ := R1
      replace k3 : (f1 != 0) = true := k3
      replace er : 0 ≤ f1 ∧ f1 ≤ 2 := er
      go_enter Try.func11, Try.ntmps11
      go_wp2_with fail
      refine (AW.out _).mono ?_
      rintro e w1 ⟨rfl, hb⟩
      have A1 := Lib.hid (down A0.out hb)
      have PA1 := Lib.hid (PA0.out.keep hb)
      have PB1 := Lib.hid (PB0.out.keep hb)
      clear hb A0 PA0 PB0
      go_wp2_with fail
      refine (GR.out _ _).mono ?_
      rintro e x0 ⟨rfl, rfl⟩
      obtain ⟨w2, hw2⟩ : ∃ w' : World, w1.alloc (.cells #[.slice oa A.length ca, .slice ob B.length cb] 22) = w' := ⟨_, rfl⟩
      rw [hw2]
      have hb : Below w1.heap.size w1 w2 := by rw [← hw2]; exact grow (here _) _
      clear hw2
      have A2 := Lib.hid (down A1.out hb)
      have PA2 := Lib.hid (PA1.out.keep hb)
      have PB2 := Lib.hid (PB1.out.keep hb)
      clear hb A1 PA1 PB1
      go_wp2_with fail
      refine (HM.out _ PA2.out).mono ?_
      rintro e w3 ⟨⟨v1, rfl, M⟩, hb⟩
      have A3 := Lib.hid (down A2.out hb)
      have PA3 := Lib.hid (PA2.out.keep hb)
      have PB3 := Lib.hid (PB2.out.keep hb)
      clear hb A2 PA2 PB2
      replace M := Lib.hid M
      have M3 := M
      clear M
      go_wp2_with fail
      refine (RM.out _ PA3.out).mono ?_
      rintro e w4 ⟨⟨v2, rfl, N⟩, hb⟩
      have A4 := Lib.hid (down A3.out hb)
      have PA4 := Lib.hid (PA3.out.keep hb)
      have PB4 := Lib.hid (PB3.out.keep hb)
      have M4 := Lib.hid (M3.out.keep hb)
      clear hb A3 PA3 PB3 M3
      replace N := Lib.hid N
      have N4 := N
      clear N
      go_wp2_with fail
      refine (HS.out _ _ _ _ _ M4.out N4.out).mono ?_
      rintro e w5 ⟨rfl, hb⟩
      have A5 := Lib.hid (down A4.out hb)
      have PA5 := Lib.hid (PA4.out.keep hb)
      have PB5 := Lib.hid (PB4.out.keep hb)
      have M5 := Lib.hid (M4.out.keep hb)
      have N5 := Lib.hid (N4.out.keep hb)
      clear hb A4 PA4 PB4 M4 N4
      clear N5
      go_wp2
      go_ret
      exact ⟨rfl, A5.out⟩
  · rw [g] at GR
    clear g hx hn HM RM hA hB
    go_enter Try.func11, Try.ntmps11
    go_wp2_with fail
    refine (AW.out _).mono ?_
    rintro e w1 ⟨rfl, hb⟩
    have A1 := Lib.hid (down A0.out hb)
    have PA1 := Lib.hid (PA0.out.keep hb)
    have PB1 := Lib.hid (PB0.out.keep hb)
    clear hb A0 PA0 PB0
    go_wp2_with fail
    refine (GR.out _ _).mono ?_
    rintro e x0 ⟨rfl, rfl⟩
    obtain ⟨w2, hw2⟩ : ∃ w' : World, w1.alloc (.cells #[.slice oa A.length ca, .slice ob B.length cb] 22) = w' := ⟨_, rfl⟩
    rw [hw2]
    have hb : Below w1.heap.size w1 w2 := by rw [← hw2]; exact grow (here _) _
    clear hw2
    have A2 := Lib.hid (down A1.out hb)
    have PA2 := Lib.hid (PA1.out.keep hb)
    have PB2 := Lib.hid (PB1.out.keep hb)
    clear hb A1 PA1 PB1
    go_wp2
    go_ret
    exact ⟨rfl, A2.out⟩
end Go.Proofs.Ytdkmahdfnmoliaa
