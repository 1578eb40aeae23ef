/- Law 13: PeriodicWithin. -/
import Derived.Test.YtaikeclfmmnelaaQPeHC
import Derived.Test.YtaikeclfmmnelaaQGI
import Derived.Test.YtaikeclfmmnelaaQPeKK
import Derived.BigQuiet
import Derived.Deep.QuietTactic
import Derived.Deep.RegionWith
namespace Go.Proofs.Ytaikeclfmmnelaa
open Go.RowKit
set_option linter.unusedVariables false
set_option linter.unusedSimpArgs false

set_option maxRecDepth 100000 in
set_option maxHeartbeats 4000000 in
theorem plwithin (va : Value) (Pa : Int) (A : List Sp) (hA : A.length ≤ maxLen) (hPa : I64 Pa) (vb : Value) (Pb : Int) (B : List Sp) (hB : B.length ≤ maxLen) (hPb : I64 Pb) {ba bb : Nat} (w : World) (a : PairS ba w va A) (b : PairS bb w vb B) :
    Calls Try.prog 11 #[.agg #[.int .i64 Pa, va], .agg #[.int .i64 Pb, vb]] w fun e w' => e = .returned (.bool true) ∧ Below w.heap.size w w' := by
  have AW := Lib.hid (fun W => rpawake W)
  obtain ⟨oa, ca, rfl⟩ := prs_shape a
  have LOa := Lib.hid (fun W => rlong Pa oa A.length ca W)
  obtain ⟨ob, cb, rfl⟩ := prs_shape b
  have LOb := Lib.hid (fun W => rlong Pb ob B.length cb W)
  have AF_0 := Lib.hid (grow (grow (here w) (.cells #[.int .i64 Pa, .slice oa A.length ca] 24)) (.cells #[.int .i64 Pb, .slice ob B.length cb] 24))
  have Ta_0 := Lib.hid (Two.fst (here ((w.alloc (.cells #[.int .i64 Pa, .slice oa A.length ca] 24)).alloc (.cells #[.int .i64 Pb, .slice ob B.length cb] 24))))
  have Tb_0 := Lib.hid (Two.snd (here ((w.alloc (.cells #[.int .i64 Pa, .slice oa A.length ca] 24)).alloc (.cells #[.int .i64 Pb, .slice ob B.length cb] 24))))
  have Sa_0 := Lib.hid (a.keep AF_0.out)
  have Sb_0 := Lib.hid (b.keep AF_0.out)
  clear a b
  cases ga : decide (40 < (A.length : Int))
  · rw [ga] at LOa
    cases gb : decide (40 < (B.length : Int))
    · rw [gb] at LOb
      have WI := Lib.hid (fun W (p : PairS ba W (.slice oa A.length ca) A) (q : PairS bb W (.slice ob B.length cb) B) => by have h := upwithin _ _ Pa Pb A B hA hB hPa hPb W p q; exact h)
      have MI := Lib.hid (fun W (p : PairS ba W (.slice oa A.length ca) A) (q : PairS bb W (.slice ob B.length cb) B) => by have h := upminus _ _ Pa Pb A B hA hB hPa hPb W p q; exact h)
      have ME := Lib.hid (fun W (p : PairS ba W (.slice oa A.length ca) A) (q : PairS bb W (.slice ob B.length cb) B) => by have h := upmeet _ _ Pa Pb A B hA hB hPa hPb W p q; exact h)
      have UN := Lib.hid (fun W (p : PairS ba W (.slice oa A.length ca) A) (q : PairS bb W (.slice ob B.length cb) B) => by have h := upunion _ _ Pa Pb A B hA hB hPa hPb W p q; exact h)
      obtain ⟨e30, e31⟩ := co_er 3 Pa A Pb B
      obtain ⟨e20, e21⟩ := co_er 2 Pa A Pb B
      obtain ⟨e10, e11⟩ := co_er 1 Pa A Pb B
      have l2 := co_len 2 Pa A Pb B
      have l1 := co_len 1 Pa A Pb B
      have l3 := co_len 3 Pa A Pb B
      have i2 := fun h => co_i64 (k := 2) (P := Pa) (A := A) (Q := Pb) (B := B) (by omega) (by omega) h
      have i1 := fun h => co_i64 (k := 1) (P := Pa) (A := A) (Q := Pb) (B := B) (by omega) (by omega) h
      have z2 := fun (h : (coR 2 Pa A Pb B).2 = 0) (k : (coR 3 (coR 2 Pa A Pb B).1.1 (coR 2 Pa A Pb B).1.2 Pa A).2 = 0) => co_none k (fun x hx => by
        have := (co_ok (k := 2) (by omega) (by omega) h).2.2.2 x
        rw [hx] at this
        exact (Bool.and_eq_true_iff.1 (show (hsP Pa A x && hsP Pb B x) = true from this.symm)).1)
      have z1 := fun (h : (coR 1 Pa A Pb B).2 = 0) (k : (coR 3 Pb B (coR 1 Pa A Pb B).1.1 (coR 1 Pa A Pb B).1.2).2 = 0) => co_none k (fun x hx => by
        rw [(co_ok (k := 1) (by omega) (by omega) h).2.2.2 x]
        show (hsP Pa A x || hsP Pb B x) = true
        rw [hx, Bool.or_true])
      generalize coR 3 Pa A Pb B = r3 at *
      generalize coR 2 Pa A Pb B = r2 at *
      generalize coR 1 Pa A Pb B = r1 at *
      obtain ⟨⟨M3, L3⟩, E3⟩ := r3
      obtain ⟨⟨M2, L2⟩, E2⟩ := r2
      obtain ⟨⟨M1, L1⟩, E1⟩ := r1
      have k3 : (E3 == E3) = true := beq_self_eq_true E3
      have l3' : L3.length ≤ 2000 := l3
      by_cases e3 : E3 = 0
      · subst e3
        rw [decide_eq_true rfl, Bool.true_and] at WI
        obtain ⟨z, hz⟩ : ∃ z, decide (L3.length = 0) = z := ⟨_, rfl⟩
        have kz : ((L3.length : Int) == 0) = z := by rw [← hz, Bool.eq_iff_iff, beq_iff_eq, decide_eq_true_iff]; omega
        have kn : (z != z) = false := by cases z <;> rfl
        replace WI : Hid (∀ W, PairS ba W (.slice oa A.length ca) A → PairS bb W (.slice ob B.length cb) B → Calls Try.prog 42 #[.agg #[.int .i64 Pa, .slice oa A.length ca], .agg #[.int .i64 Pb, .slice ob B.length cb]] W fun e w' => e = .returned (.tuple #[.bool z, .int .i64 0]) ∧ Below W.heap.size W w') := by
          rw [← hz]; exact WI
        have WM : Hid (E2 = 0 → ∃ (E : Int) (u : Bool), 0 ≤ E ∧ E ≤ 9 ∧ (E = 0 → u = true) ∧ ∀ W b2 v2, PairS b2 W v2 L2 → PairS ba W (.slice oa A.length ca) A → Calls Try.prog 42 #[.agg #[.int .i64 M2, v2], .agg #[.int .i64 Pa, .slice oa A.length ca]] W fun e w' => e = .returned (.tuple #[.bool u, .int .i64 E]) ∧ Below W.heap.size W w') := fun h => by
          refine ⟨_, _, (co_er 3 M2 L2 Pa A).1, (co_er 3 M2 L2 Pa A).2, fun k => ?_, fun W b2 v2 p q => upwithin v2 _ M2 Pa L2 A (le_mx (show L2.length ≤ 1000000 from Nat.le_trans l2 (by decide))) hA (i2 h) hPa W p q⟩
          rw [decide_eq_true k, decide_eq_true (z2 h k)]; rfl
        have WU : Hid (E1 = 0 → ∃ (E : Int) (u : Bool), 0 ≤ E ∧ E ≤ 9 ∧ (E = 0 → u = true) ∧ ∀ W b1 v1, PairS bb W (.slice ob B.length cb) B → PairS b1 W v1 L1 → Calls Try.prog 42 #[.agg #[.int .i64 Pb, .slice ob B.length cb], .agg #[.int .i64 M1, v1]] W fun e w' => e = .returned (.tuple #[.bool u, .int .i64 E]) ∧ Below W.heap.size W w') := fun h => by
          refine ⟨_, _, (co_er 3 Pb B M1 L1).1, (co_er 3 Pb B M1 L1).2, fun k => ?_, fun W b1 v1 p q => upwithin _ v1 Pb M1 B L1 hB (le_mx (show L1.length ≤ 1000000 from Nat.le_trans l1 (by decide))) hPb (i1 h) W p q⟩
          rw [decide_eq_true k, decide_eq_true (z1 h k)]; rfl
        clear ga gb hA hB hPa hPb hz i1 i2 z1 z2 l1 l2 l3
        go_enter Try.func11, Try.ntmps11
        obtain ⟨Tar0, Tar1, Tar2⟩ := Ta_0.out
        obtain ⟨Tbr0, Tbr1, Tbr2⟩ := Tb_0.out
        go_wp2_with fail
        clear Tar0 Tar1 Tar2 Tbr0 Tbr1 Tbr2
        generalize ((w.alloc (.cells #[.int .i64 Pa, .slice oa A.length ca] 24)).alloc (.cells #[.int .i64 Pb, .slice ob B.length cb] 24)) = w0 at *
        refine (AW.out _).mono ?_
        rintro e w1 ⟨rfl, hb⟩
        have AF_1 := Lib.hid (down AF_0.out hb)
        have Ta_1 := Lib.hid (Ta_0.out.keep hb)
        have Tb_1 := Lib.hid (Tb_0.out.keep hb)
        have Sa_1 := Lib.hid (Sa_0.out.keep hb)
        have Sb_1 := Lib.hid (Sb_0.out.keep hb)
        clear hb AF_0 Ta_0 Tb_0 Sa_0 Sb_0
        obtain ⟨Tar0, Tar1, Tar2⟩ := Ta_1.out
        obtain ⟨Tbr0, Tbr1, Tbr2⟩ := Tb_1.out
        go_wp2_with fail
        clear Tar0 Tar1 Tar2 Tbr0 Tbr1 Tbr2
        refine (LOa.out _).mono ?_
        rintro e w2 ⟨rfl, hb⟩
        have AF_2 := Lib.hid (down AF_1.out hb)
        have Ta_2 := Lib.hid (Ta_1.out.keep hb)
        have Tb_2 := Lib.hid (Tb_1.out.keep hb)
        have Sa_2 := Lib.hid (Sa_1.out.keep hb)
        have Sb_2 := Lib.hid (Sb_1.out.keep hb)
        clear hb AF_1 Ta_1 Tb_1 Sa_1 Sb_1
        obtain ⟨Tar0, Tar1, Tar2⟩ := Ta_2.out
        obtain ⟨Tbr0, Tbr1, Tbr2⟩ := Tb_2.out
        go_wp2_with fail
        clear Tar0 Tar1 Tar2 Tbr0 Tbr1 Tbr2
        refine (LOb.out _).mono ?_
        rintro e w3 ⟨rfl, hb⟩
        have AF_3 := Lib.hid (down AF_2.out hb)
        have Ta_3 := Lib.hid (Ta_2.out.keep hb)
        have Tb_3 := Lib.hid (Tb_2.out.keep hb)
        have Sa_3 := Lib.hid (Sa_2.out.keep hb)
        have Sb_3 := Lib.hid (Sb_2.out.keep hb)
        clear hb AF_2 Ta_2 Tb_2 Sa_2 Sb_2
        obtain ⟨Tar0, Tar1, Tar2⟩ := Ta_3.out
        obtain ⟨Tbr0, Tbr1, Tbr2⟩ := Tb_3.out
        go_wp2_with fail
        clear Tar0 Tar1 Tar2 Tbr0 Tbr1 Tbr2
        refine (WI.out _ Sa_3.out Sb_3.out).mono ?_
        rintro e w4 ⟨rfl, hb⟩
        have AF_4 := Lib.hid (down AF_3.out hb)
        have Ta_4 := Lib.hid (Ta_3.out.keep hb)
        have Tb_4 := Lib.hid (Tb_3.out.keep hb)
        have Sa_4 := Lib.hid (Sa_3.out.keep hb)
        have Sb_4 := Lib.hid (Sb_3.out.keep hb)
        clear hb AF_3 Ta_3 Tb_3 Sa_3 Sb_3
        obtain ⟨Tar0, Tar1, Tar2⟩ := Ta_4.out
        obtain ⟨Tbr0, Tbr1, Tbr2⟩ := Tb_4.out
        go_wp2_with fail
        clear Tar0 Tar1 Tar2 Tbr0 Tbr1 Tbr2
        refine (MI.out _ Sa_4.out Sb_4.out).mono ?_
        rintro e w5 ⟨⟨v3, rfl, p⟩, hb⟩
        obtain ⟨o3, c3, rfl⟩ := Sl.shape p
        have AF_5 := Lib.hid (down AF_4.out hb)
        have Ta_5 := Lib.hid (Ta_4.out.keep hb)
        have Tb_5 := Lib.hid (Tb_4.out.keep hb)
        have Sa_5 := Lib.hid (Sa_4.out.keep hb)
        have Sb_5 := Lib.hid (Sb_4.out.keep hb)
        clear hb AF_4 Ta_4 Tb_4 Sa_4 Sb_4
        have S3_5 := Lib.hid p
        clear p
        have gb := grow (here w5) (.cells #[.int .i64 M3, .slice o3 L3.length c3] 24)
        have T3_6 := Lib.hid (Two.new (t := 24) (x := .int .i64 M3) (y := .slice o3 L3.length c3) (here (w5.alloc (.cells #[.int .i64 M3, .slice o3 L3.length c3] 24))))
        have AF_6 := Lib.hid (down AF_5.out gb)
        have Ta_6 := Lib.hid (Ta_5.out.keep gb)
        have Tb_6 := Lib.hid (Tb_5.out.keep gb)
        have Sa_6 := Lib.hid (Sa_5.out.keep gb)
        have Sb_6 := Lib.hid (Sb_5.out.keep gb)
        have S3_6 := Lib.hid (S3_5.out.keep gb)
        clear gb AF_5 Ta_5 Tb_5 Sa_5 Sb_5 S3_5
        obtain ⟨Tar0, Tar1, Tar2⟩ := Ta_6.out
        obtain ⟨Tbr0, Tbr1, Tbr2⟩ := Tb_6.out
        obtain ⟨T3r0, T3r1, T3r2⟩ := T3_6.out
        go_wp2_with fail
        clear Tar0 Tar1 Tar2 Tbr0 Tbr1 Tbr2 T3r0 T3r1 T3r2
        generalize (w5.alloc (.cells #[.int .i64 M3, .slice o3 L3.length c3] 24)) = w6 at *
        refine (ME.out _ Sa_6.out Sb_6.out).mono ?_
        rintro e w7 ⟨⟨v2, rfl, p⟩, hb⟩
        obtain ⟨o2, c2, rfl⟩ := Sl.shape p
        have AF_7 := Lib.hid (down AF_6.out hb)
        have Ta_7 := Lib.hid (Ta_6.out.keep hb)
        have Tb_7 := Lib.hid (Tb_6.out.keep hb)
        have T3_7 := Lib.hid (T3_6.out.keep hb)
        have Sa_7 := Lib.hid (Sa_6.out.keep hb)
        have Sb_7 := Lib.hid (Sb_6.out.keep hb)
        have S3_7 := Lib.hid (S3_6.out.keep hb)
        clear hb AF_6 Ta_6 Tb_6 T3_6 Sa_6 Sb_6 S3_6
        have S2_7 := Lib.hid p
        clear p
        have gb := grow (here w7) (.cells #[.int .i64 M2, .slice o2 L2.length c2] 24)
        have T2_8 := Lib.hid (Two.new (t := 24) (x := .int .i64 M2) (y := .slice o2 L2.length c2) (here (w7.alloc (.cells #[.int .i64 M2, .slice o2 L2.length c2] 24))))
        have AF_8 := Lib.hid (down AF_7.out gb)
        have Ta_8 := Lib.hid (Ta_7.out.keep gb)
        have Tb_8 := Lib.hid (Tb_7.out.keep gb)
        have T3_8 := Lib.hid (T3_7.out.keep gb)
        have Sa_8 := Lib.hid (Sa_7.out.keep gb)
        have Sb_8 := Lib.hid (Sb_7.out.keep gb)
        have S3_8 := Lib.hid (S3_7.out.keep gb)
        have S2_8 := Lib.hid (S2_7.out.keep gb)
        clear gb AF_7 Ta_7 Tb_7 T3_7 Sa_7 Sb_7 S3_7 S2_7
        obtain ⟨Tar0, Tar1, Tar2⟩ := Ta_8.out
        obtain ⟨Tbr0, Tbr1, Tbr2⟩ := Tb_8.out
        obtain ⟨T3r0, T3r1, T3r2⟩ := T3_8.out
        obtain ⟨T2r0, T2r1, T2r2⟩ := T2_8.out
        go_wp2_with fail
        clear Tar0 Tar1 Tar2 Tbr0 Tbr1 Tbr2 T3r0 T3r1 T3r2 T2r0 T2r1 T2r2
        generalize (w7.alloc (.cells #[.int .i64 M2, .slice o2 L2.length c2] 24)) = w8 at *
        refine (UN.out _ Sa_8.out Sb_8.out).mono ?_
        rintro e w9 ⟨⟨v1, rfl, p⟩, hb⟩
        obtain ⟨o1, c1, rfl⟩ := Sl.shape p
        have AF_9 := Lib.hid (down AF_8.out hb)
        have Ta_9 := Lib.hid (Ta_8.out.keep hb)
        have Tb_9 := Lib.hid (Tb_8.out.keep hb)
        have T3_9 := Lib.hid (T3_8.out.keep hb)
        have T2_9 := Lib.hid (T2_8.out.keep hb)
        have Sa_9 := Lib.hid (Sa_8.out.keep hb)
        have Sb_9 := Lib.hid (Sb_8.out.keep hb)
        have S3_9 := Lib.hid (S3_8.out.keep hb)
        have S2_9 := Lib.hid (S2_8.out.keep hb)
        clear hb AF_8 Ta_8 Tb_8 T3_8 T2_8 Sa_8 Sb_8 S3_8 S2_8
        have S1_9 := Lib.hid p
        clear p
        have gb := grow (here w9) (.cells #[.int .i64 M1, .slice o1 L1.length c1] 24)
        have T1_10 := Lib.hid (Two.new (t := 24) (x := .int .i64 M1) (y := .slice o1 L1.length c1) (here (w9.alloc (.cells #[.int .i64 M1, .slice o1 L1.length c1] 24))))
        have AF_10 := Lib.hid (down AF_9.out gb)
        have Ta_10 := Lib.hid (Ta_9.out.keep gb)
        have Tb_10 := Lib.hid (Tb_9.out.keep gb)
        have T3_10 := Lib.hid (T3_9.out.keep gb)
        have T2_10 := Lib.hid (T2_9.out.keep gb)
        have Sa_10 := Lib.hid (Sa_9.out.keep gb)
        have Sb_10 := Lib.hid (Sb_9.out.keep gb)
        have S3_10 := Lib.hid (S3_9.out.keep gb)
        have S2_10 := Lib.hid (S2_9.out.keep gb)
        have S1_10 := Lib.hid (S1_9.out.keep gb)
        clear gb AF_9 Ta_9 Tb_9 T3_9 T2_9 Sa_9 Sb_9 S3_9 S2_9 S1_9
        by_cases e2 : E2 = 0
        · by_cases e1 : E1 = 0
          · obtain ⟨E4, u4, f40, f41, t4, XM⟩ := WM.out e2
            obtain ⟨E5, u5, f50, f51, t5, XU⟩ := WU.out e1
            subst e1
            subst e2
            replace XM := Lib.hid XM
            replace XU := Lib.hid XU
            clear WM WU
            obtain ⟨Tar0, Tar1, Tar2⟩ := Ta_10.out
            obtain ⟨Tbr0, Tbr1, Tbr2⟩ := Tb_10.out
            obtain ⟨T3r0, T3r1, T3r2⟩ := T3_10.out
            obtain ⟨T2r0, T2r1, T2r2⟩ := T2_10.out
            obtain ⟨T1r0, T1r1, T1r2⟩ := T1_10.out
            go_wp2_with fail
            clear Tar0 Tar1 Tar2 Tbr0 Tbr1 Tbr2 T3r0 T3r1 T3r2 T2r0 T2r1 T2r2 T1r0 T1r1 T1r2
            generalize (w9.alloc (.cells #[.int .i64 M1, .slice o1 L1.length c1] 24)) = w10 at *
            refine (XM.out _ _ _ S2_10.out Sa_10.out).mono ?_
            rintro e w11 ⟨rfl, hb⟩
            have AF_11 := Lib.hid (down AF_10.out hb)
            have Ta_11 := Lib.hid (Ta_10.out.keep hb)
            have Tb_11 := Lib.hid (Tb_10.out.keep hb)
            have T3_11 := Lib.hid (T3_10.out.keep hb)
            have T2_11 := Lib.hid (T2_10.out.keep hb)
            have T1_11 := Lib.hid (T1_10.out.keep hb)
            have Sa_11 := Lib.hid (Sa_10.out.keep hb)
            have Sb_11 := Lib.hid (Sb_10.out.keep hb)
            have S3_11 := Lib.hid (S3_10.out.keep hb)
            have S2_11 := Lib.hid (S2_10.out.keep hb)
            have S1_11 := Lib.hid (S1_10.out.keep hb)
            clear hb AF_10 Ta_10 Tb_10 T3_10 T2_10 T1_10 Sa_10 Sb_10 S3_10 S2_10 S1_10
            obtain ⟨Tar0, Tar1, Tar2⟩ := Ta_11.out
            obtain ⟨Tbr0, Tbr1, Tbr2⟩ := Tb_11.out
            obtain ⟨T3r0, T3r1, T3r2⟩ := T3_11.out
            obtain ⟨T2r0, T2r1, T2r2⟩ := T2_11.out
            obtain ⟨T1r0, T1r1, T1r2⟩ := T1_11.out
            go_wp2_with fail
            clear Tar0 Tar1 Tar2 Tbr0 Tbr1 Tbr2 T3r0 T3r1 T3r2 T2r0 T2r1 T2r2 T1r0 T1r1 T1r2
            refine (XU.out _ _ _ Sb_11.out S1_11.out).mono ?_
            rintro e w12 ⟨rfl, hb⟩
            have AF_12 := Lib.hid (down AF_11.out hb)
            have Ta_12 := Lib.hid (Ta_11.out.keep hb)
            have Tb_12 := Lib.hid (Tb_11.out.keep hb)
            have T3_12 := Lib.hid (T3_11.out.keep hb)
            have T2_12 := Lib.hid (T2_11.out.keep hb)
            have T1_12 := Lib.hid (T1_11.out.keep hb)
            have Sa_12 := Lib.hid (Sa_11.out.keep hb)
            have Sb_12 := Lib.hid (Sb_11.out.keep hb)
            have S3_12 := Lib.hid (S3_11.out.keep hb)
            have S2_12 := Lib.hid (S2_11.out.keep hb)
            have S1_12 := Lib.hid (S1_11.out.keep hb)
            clear hb AF_11 Ta_11 Tb_11 T3_11 T2_11 T1_11 Sa_11 Sb_11 S3_11 S2_11 S1_11
            by_cases e4 : E4 = 0
            · obtain rfl := t4 e4
              subst e4
              by_cases e5 : E5 = 0
              · obtain rfl := t5 e5
                subst e5
                obtain ⟨Tar0, Tar1, Tar2⟩ := Ta_12.out
                obtain ⟨Tbr0, Tbr1, Tbr2⟩ := Tb_12.out
                obtain ⟨T3r0, T3r1, T3r2⟩ := T3_12.out
                obtain ⟨T2r0, T2r1, T2r2⟩ := T2_12.out
                obtain ⟨T1r0, T1r1, T1r2⟩ := T1_12.out
                go_wp2
                go_ret
                exact ⟨rfl, AF_12.out⟩
              · have k5 : (E5 != 0) = true := by rw [bne_iff_ne]; exact e5
                obtain ⟨Tar0, Tar1, Tar2⟩ := Ta_12.out
                obtain ⟨Tbr0, Tbr1, Tbr2⟩ := Tb_12.out
                obtain ⟨T3r0, T3r1, T3r2⟩ := T3_12.out
                obtain ⟨T2r0, T2r1, T2r2⟩ := T2_12.out
                obtain ⟨T1r0, T1r1, T1r2⟩ := T1_12.out
                go_wp2
                go_ret
                exact ⟨rfl, AF_12.out⟩
            · have k4 : (E4 != 0) = true := by rw [bne_iff_ne]; exact e4
              by_cases e5 : E5 = 0
              · obtain rfl := t5 e5
                subst e5
                obtain ⟨Tar0, Tar1, Tar2⟩ := Ta_12.out
                obtain ⟨Tbr0, Tbr1, Tbr2⟩ := Tb_12.out
                obtain ⟨T3r0, T3r1, T3r2⟩ := T3_12.out
                obtain ⟨T2r0, T2r1, T2r2⟩ := T2_12.out
                obtain ⟨T1r0, T1r1, T1r2⟩ := T1_12.out
                go_wp2
                go_ret
                exact ⟨rfl, AF_12.out⟩
              · have k5 : (E5 != 0) = true := by rw [bne_iff_ne]; exact e5
                obtain ⟨Tar0, Tar1, Tar2⟩ := Ta_12.out
                obtain ⟨Tbr0, Tbr1, Tbr2⟩ := Tb_12.out
                obtain ⟨T3r0, T3r1, T3r2⟩ := T3_12.out
                obtain ⟨T2r0, T2r1, T2r2⟩ := T2_12.out
                obtain ⟨T1r0, T1r1, T1r2⟩ := T1_12.out
                go_wp2
                go_ret
                exact ⟨rfl, AF_12.out⟩
          · have k1 : (E1 != 0) = true := by rw [bne_iff_ne]; exact e1
            subst e2
            obtain ⟨Tar0, Tar1, Tar2⟩ := Ta_10.out
            obtain ⟨Tbr0, Tbr1, Tbr2⟩ := Tb_10.out
            obtain ⟨T3r0, T3r1, T3r2⟩ := T3_10.out
            obtain ⟨T2r0, T2r1, T2r2⟩ := T2_10.out
            obtain ⟨T1r0, T1r1, T1r2⟩ := T1_10.out
            go_wp2
            go_ret
            exact ⟨rfl, AF_10.out⟩
        · have k2 : (E2 != 0) = true := by rw [bne_iff_ne]; exact e2
          obtain ⟨Tar0, Tar1, Tar2⟩ := Ta_10.out
          obtain ⟨Tbr0, Tbr1, Tbr2⟩ := Tb_10.out
          obtain ⟨T3r0, T3r1, T3r2⟩ := T3_10.out
          obtain ⟨T2r0, T2r1, T2r2⟩ := T2_10.out
          obtain ⟨T1r0, T1r1, T1r2⟩ := T1_10.out
          go_wp2
          go_ret
          exact ⟨rfl, AF_10.out⟩
      · rw [decide_eq_false e3, Bool.false_and] at WI
        have k4 : (E3 != 0) = true := by rw [bne_iff_ne]; exact e3
        have k5 : (E3 == 0) = false := by rw [beq_eq_false_iff_ne]; exact e3
        have k6 : (E3 != E3) = false := by rw [bne, k3]; rfl
        clear ga gb hA hB hPa hPb i1 i2 z1 z2 l1 l2 l3 ME UN
        go_enter Try.func11, Try.ntmps11
        obtain ⟨Tar0, Tar1, Tar2⟩ := Ta_0.out
        obtain ⟨Tbr0, Tbr1, Tbr2⟩ := Tb_0.out
        go_wp2_with fail
        clear Tar0 Tar1 Tar2 Tbr0 Tbr1 Tbr2
        generalize ((w.alloc (.cells #[.int .i64 Pa, .slice oa A.length ca] 24)).alloc (.cells #[.int .i64 Pb, .slice ob B.length cb] 24)) = w0 at *
        refine (AW.out _).mono ?_
        rintro e w1 ⟨rfl, hb⟩
        have AF_1 := Lib.hid (down AF_0.out hb)
        have Ta_1 := Lib.hid (Ta_0.out.keep hb)
        have Tb_1 := Lib.hid (Tb_0.out.keep hb)
        have Sa_1 := Lib.hid (Sa_0.out.keep hb)
        have Sb_1 := Lib.hid (Sb_0.out.keep hb)
        clear hb AF_0 Ta_0 Tb_0 Sa_0 Sb_0
        obtain ⟨Tar0, Tar1, Tar2⟩ := Ta_1.out
        obtain ⟨Tbr0, Tbr1, Tbr2⟩ := Tb_1.out
        go_wp2_with fail
        clear Tar0 Tar1 Tar2 Tbr0 Tbr1 Tbr2
        refine (LOa.out _).mono ?_
        rintro e w2 ⟨rfl, hb⟩
        have AF_2 := Lib.hid (down AF_1.out hb)
        have Ta_2 := Lib.hid (Ta_1.out.keep hb)
        have Tb_2 := Lib.hid (Tb_1.out.keep hb)
        have Sa_2 := Lib.hid (Sa_1.out.keep hb)
        have Sb_2 := Lib.hid (Sb_1.out.keep hb)
        clear hb AF_1 Ta_1 Tb_1 Sa_1 Sb_1
        obtain ⟨Tar0, Tar1, Tar2⟩ := Ta_2.out
        obtain ⟨Tbr0, Tbr1, Tbr2⟩ := Tb_2.out
        go_wp2_with fail
        clear Tar0 Tar1 Tar2 Tbr0 Tbr1 Tbr2
        refine (LOb.out _).mono ?_
        rintro e w3 ⟨rfl, hb⟩
        have AF_3 := Lib.hid (down AF_2.out hb)
        have Ta_3 := Lib.hid (Ta_2.out.keep hb)
        have Tb_3 := Lib.hid (Tb_2.out.keep hb)
        have Sa_3 := Lib.hid (Sa_2.out.keep hb)
        have Sb_3 := Lib.hid (Sb_2.out.keep hb)
        clear hb AF_2 Ta_2 Tb_2 Sa_2 Sb_2
        obtain ⟨Tar0, Tar1, Tar2⟩ := Ta_3.out
        obtain ⟨Tbr0, Tbr1, Tbr2⟩ := Tb_3.out
        go_wp2_with fail
        clear Tar0 Tar1 Tar2 Tbr0 Tbr1 Tbr2
        refine (WI.out _ Sa_3.out Sb_3.out).mono ?_
        rintro e w4 ⟨rfl, hb⟩
        have AF_4 := Lib.hid (down AF_3.out hb)
        have Ta_4 := Lib.hid (Ta_3.out.keep hb)
        have Tb_4 := Lib.hid (Tb_3.out.keep hb)
        have Sa_4 := Lib.hid (Sa_3.out.keep hb)
        have Sb_4 := Lib.hid (Sb_3.out.keep hb)
        clear hb AF_3 Ta_3 Tb_3 Sa_3 Sb_3
        obtain ⟨Tar0, Tar1, Tar2⟩ := Ta_4.out
        obtain ⟨Tbr0, Tbr1, Tbr2⟩ := Tb_4.out
        go_wp2_with fail
        clear Tar0 Tar1 Tar2 Tbr0 Tbr1 Tbr2
        refine (MI.out _ Sa_4.out Sb_4.out).mono ?_
        rintro e w5 ⟨⟨v3, rfl, p⟩, hb⟩
        obtain ⟨o3, c3, rfl⟩ := Sl.shape p
        have AF_5 := Lib.hid (down AF_4.out hb)
        have Ta_5 := Lib.hid (Ta_4.out.keep hb)
        have Tb_5 := Lib.hid (Tb_4.out.keep hb)
        have Sa_5 := Lib.hid (Sa_4.out.keep hb)
        have Sb_5 := Lib.hid (Sb_4.out.keep hb)
        clear hb AF_4 Ta_4 Tb_4 Sa_4 Sb_4
        have S3_5 := Lib.hid p
        clear p
        have gb := grow (here w5) (.cells #[.int .i64 M3, .slice o3 L3.length c3] 24)
        have T3_6 := Lib.hid (Two.new (t := 24) (x := .int .i64 M3) (y := .slice o3 L3.length c3) (here (w5.alloc (.cells #[.int .i64 M3, .slice o3 L3.length c3] 24))))
        have AF_6 := Lib.hid (down AF_5.out gb)
        have Ta_6 := Lib.hid (Ta_5.out.keep gb)
        have Tb_6 := Lib.hid (Tb_5.out.keep gb)
        have Sa_6 := Lib.hid (Sa_5.out.keep gb)
        have Sb_6 := Lib.hid (Sb_5.out.keep gb)
        have S3_6 := Lib.hid (S3_5.out.keep gb)
        clear gb AF_5 Ta_5 Tb_5 Sa_5 Sb_5 S3_5
        obtain ⟨Tar0, Tar1, Tar2⟩ := Ta_6.out
        obtain ⟨Tbr0, Tbr1, Tbr2⟩ := Tb_6.out
        obtain ⟨T3r0, T3r1, T3r2⟩ := T3_6.out
        go_wp2
        go_ret
        exact ⟨rfl, AF_6.out⟩
    · rw [gb] at LOb
      clear ga gb hA hB hPa hPb
      go_enter Try.func11, Try.ntmps11
      obtain ⟨Tar0, Tar1, Tar2⟩ := Ta_0.out
      obtain ⟨Tbr0, Tbr1, Tbr2⟩ := Tb_0.out
      go_wp2_with fail
      clear Tar0 Tar1 Tar2 Tbr0 Tbr1 Tbr2
      generalize ((w.alloc (.cells #[.int .i64 Pa, .slice oa A.length ca] 24)).alloc (.cells #[.int .i64 Pb, .slice ob B.length cb] 24)) = w0 at *
      refine (AW.out _).mono ?_
      rintro e w1 ⟨rfl, hb⟩
      have AF_1 := Lib.hid (down AF_0.out hb)
      have Ta_1 := Lib.hid (Ta_0.out.keep hb)
      have Tb_1 := Lib.hid (Tb_0.out.keep hb)
      have Sa_1 := Lib.hid (Sa_0.out.keep hb)
      have Sb_1 := Lib.hid (Sb_0.out.keep hb)
      clear hb AF_0 Ta_0 Tb_0 Sa_0 Sb_0
      obtain ⟨Tar0, Tar1, Tar2⟩ := Ta_1.out
      obtain ⟨Tbr0, Tbr1, Tbr2⟩ := Tb_1.out
      go_wp2_with fail
      clear Tar0 Tar1 Tar2 Tbr0 Tbr1 Tbr2
      refine (LOa.out _).mono ?_
      rintro e w2 ⟨rfl, hb⟩
      have AF_2 := Lib.hid (down AF_1.out hb)
      have Ta_2 := Lib.hid (Ta_1.out.keep hb)
      have Tb_2 := Lib.hid (Tb_1.out.keep hb)
      have Sa_2 := Lib.hid (Sa_1.out.keep hb)
      have Sb_2 := Lib.hid (Sb_1.out.keep hb)
      clear hb AF_1 Ta_1 Tb_1 Sa_1 Sb_1
      obtain ⟨Tar0, Tar1, Tar2⟩ := Ta_2.out
      obtain ⟨Tbr0, Tbr1, Tbr2⟩ := Tb_2.out
      go_wp2_with fail
      clear Tar0 Tar1 Tar2 Tbr0 Tbr1 Tbr2
      refine (LOb.out _).mono ?_
      rintro e w3 ⟨rfl, hb⟩
      have AF_3 := Lib.hid (down AF_2.out hb)
      have Ta_3 := Lib.hid (Ta_2.out.keep hb)
      have Tb_3 := Lib.hid (Tb_2.out.keep hb)
      have Sa_3 := Lib.hid (Sa_2.out.keep hb)
      have Sb_3 := Lib.hid (Sb_2.out.keep hb)
      clear hb AF_2 Ta_2 Tb_2 Sa_2 Sb_2
      obtain ⟨Tar0, Tar1, Tar2⟩ := Ta_3.out
      obtain ⟨Tbr0, Tbr1, Tbr2⟩ := Tb_3.out
      go_wp2_with fail
      clear Tar0 Tar1 Tar2 Tbr0 Tbr1 Tbr2
      refine (AW.out _).mono ?_
      rintro e w4 ⟨rfl, hb⟩
      have AF_4 := Lib.hid (down AF_3.out hb)
      have Ta_4 := Lib.hid (Ta_3.out.keep hb)
      have Tb_4 := Lib.hid (Tb_3.out.keep hb)
      have Sa_4 := Lib.hid (Sa_3.out.keep hb)
      have Sb_4 := Lib.hid (Sb_3.out.keep hb)
      clear hb AF_3 Ta_3 Tb_3 Sa_3 Sb_3
      obtain ⟨Tar0, Tar1, Tar2⟩ := Ta_4.out
      obtain ⟨Tbr0, Tbr1, Tbr2⟩ := Tb_4.out
      go_wp2
      go_ret
      exact ⟨rfl, AF_4.out⟩
  · rw [ga] at LOa
    clear ga hA hB hPa hPb
    go_enter Try.func11, Try.ntmps11
    obtain ⟨Tar0, Tar1, Tar2⟩ := Ta_0.out
    obtain ⟨Tbr0, Tbr1, Tbr2⟩ := Tb_0.out
    go_wp2_with fail
    clear Tar0 Tar1 Tar2 Tbr0 Tbr1 Tbr2
    generalize ((w.alloc (.cells #[.int .i64 Pa, .slice oa A.length ca] 24)).alloc (.cells #[.int .i64 Pb, .slice ob B.length cb] 24)) = w0 at *
    refine (AW.out _).mono ?_
    rintro e w1 ⟨rfl, hb⟩
    have AF_1 := Lib.hid (down AF_0.out hb)
    have Ta_1 := Lib.hid (Ta_0.out.keep hb)
    have Tb_1 := Lib.hid (Tb_0.out.keep hb)
    have Sa_1 := Lib.hid (Sa_0.out.keep hb)
    have Sb_1 := Lib.hid (Sb_0.out.keep hb)
    clear hb AF_0 Ta_0 Tb_0 Sa_0 Sb_0
    obtain ⟨Tar0, Tar1, Tar2⟩ := Ta_1.out
    obtain ⟨Tbr0, Tbr1, Tbr2⟩ := Tb_1.out
    go_wp2_with fail
    clear Tar0 Tar1 Tar2 Tbr0 Tbr1 Tbr2
    refine (LOa.out _).mono ?_
    rintro e w2 ⟨rfl, hb⟩
    have AF_2 := Lib.hid (down AF_1.out hb)
    have Ta_2 := Lib.hid (Ta_1.out.keep hb)
    have Tb_2 := Lib.hid (Tb_1.out.keep hb)
    have Sa_2 := Lib.hid (Sa_1.out.keep hb)
    have Sb_2 := Lib.hid (Sb_1.out.keep hb)
    clear hb AF_1 Ta_1 Tb_1 Sa_1 Sb_1
    obtain ⟨Tar0, Tar1, Tar2⟩ := Ta_2.out
    obtain ⟨Tbr0, Tbr1, Tbr2⟩ := Tb_2.out
    go_wp2_with fail
    clear Tar0 Tar1 Tar2 Tbr0 Tbr1 Tbr2
    refine (AW.out _).mono ?_
    rintro e w3 ⟨rfl, hb⟩
    have AF_3 := Lib.hid (down AF_2.out hb)
    have Ta_3 := Lib.hid (Ta_2.out.keep hb)
    have Tb_3 := Lib.hid (Tb_2.out.keep hb)
    have Sa_3 := Lib.hid (Sa_2.out.keep hb)
    have Sb_3 := Lib.hid (Sb_2.out.keep hb)
    clear hb AF_2 Ta_2 Tb_2 Sa_2 Sb_2
    obtain ⟨Tar0, Tar1, Tar2⟩ := Ta_3.out
    obtain ⟨Tbr0, Tbr1, Tbr2⟩ := Tb_3.out
    go_wp2
    go_ret
    exact ⟨rfl, AF_3.out⟩
end Go.Proofs.Ytaikeclfmmnelaa
