/- Law 13: PeriodicCombines. -/
import Derived.Test.YtaikeclfmmnelaaQPeHC
import Derived.Test.YtaikeclfmmnelaaQPeHD
import Derived.Test.YtaikeclfmmnelaaQGI
import Derived.Test.YtaikeclfmmnelaaQPeKK
import Derived.Test.YtaikeclfmmnelaaQGH
import Derived.StillTailTactics
import Derived.BigQuiet
import Derived.Deep.QuietTactic
import Derived.Deep.RegionWith
namespace Go.Proofs.Ytaikeclfmmnelaa
open Go.RowKit
set_option linter.unusedVariables false
set_option linter.unusedSimpArgs false

theorem clo_same (v1 v2 : Value) (D E : Int) (L : List Sp) (hL : L.length ≤ 2000) {b1 b2 : Nat} (W : World) (p : PairS b1 W v1 L) (q : PairS b2 W v2 L) :
    Calls Try.prog 23 #[.agg #[.int .i64 D, v1], .int .i64 E, .agg #[.int .i64 D, v2], .int .i64 E] W fun e w' => e = .returned (.bool true) ∧ Below W.heap.size W w' := by
  have h := rpclo v1 v2 D D L L (by omega) E E W p q
  have e : (decide (E = E) && decide (D = D) && decide (L = L)) = true := by simp
  rw [e] at h
  exact h
set_option maxRecDepth 100000 in
set_option maxHeartbeats 8000000 in
theorem plcombines (va : Value) (Pa : Int) (A : List Sp) (hA : A.length ≤ maxLen) (hPa : I64 Pa) (vb : Value) (Pb : Int) (B : List Sp) (hB : B.length ≤ maxLen) (hPb : I64 Pb) (n : Int) (hn : I64 n) {ba bb : Nat} (w : World) (a : PairS ba w va A) (b : PairS bb w vb B) :
    Calls Try.prog 5 #[.agg #[.int .i64 Pa, va], .agg #[.int .i64 Pb, vb], .int .i64 n] w fun e w' => e = .returned (.bool true) ∧ Below w.heap.size w w' := by
  have AW := Lib.hid (fun W => rpawake W)
  obtain ⟨oa, ca, rfl⟩ := prs_shape a
  have LOa := Lib.hid (fun W => rlong Pa oa A.length ca W)
  obtain ⟨ob, cb, rfl⟩ := prs_shape b
  have LOb := Lib.hid (fun W => rlong Pb ob B.length cb W)
  have AF_0 := Lib.hid (grow (grow (here w) (.cells #[.int .i64 Pa, .slice oa A.length ca] 24)) (.cells #[.int .i64 Pb, .slice ob B.length cb] 24))
  have Ta_0 := Lib.hid (Two.fst (here ((w.alloc (.cells #[.int .i64 Pa, .slice oa A.length ca] 24)).alloc (.cells #[.int .i64 Pb, .slice ob B.length cb] 24))))
  have Tb_0 := Lib.hid (Two.snd (here ((w.alloc (.cells #[.int .i64 Pa, .slice oa A.length ca] 24)).alloc (.cells #[.int .i64 Pb, .slice ob B.length cb] 24))))
  have Sa_0 := Lib.hid (a.keep AF_0.out)
  have Sb_0 := Lib.hid (b.keep AF_0.out)
  clear a b
  cases ga : decide (40 < (A.length : Int))
  · rw [ga] at LOa
    cases gb : decide (40 < (B.length : Int))
    · rw [gb] at LOb
      have U0 := Lib.hid (fun W (p : PairS ba W (.slice oa A.length ca) A) (q : PairS bb W (.slice ob B.length cb) B) => by have h := upunion _ _ Pa Pb A B hA hB hPa hPb W p q; exact h)
      have R0 := Lib.hid (fun W (p : PairS ba W (.slice oa A.length ca) A) (q : PairS bb W (.slice ob B.length cb) B) => by have h := rpcombine 0 (by omega) (by omega) _ _ Pa Pb A B hA hB hPa hPb W p q; rw [show (0 : Int) + 1 = 1 from rfl] at h; exact h)
      have Q0 := Lib.hid (fun W b1 b2 v1 v2 (p : PairS b1 W v1 (coR 1 Pa A Pb B).1.2) (q : PairS b2 W v2 (coR 1 Pa A Pb B).1.2) => clo_same v1 v2 (coR 1 Pa A Pb B).1.1 (coR 1 Pa A Pb B).2 _ (co_len _ _ _ _ _) W p q)
      obtain ⟨e00, e01⟩ := co_er 1 Pa A Pb B
      have U1 := Lib.hid (fun W (p : PairS ba W (.slice oa A.length ca) A) (q : PairS bb W (.slice ob B.length cb) B) => by have h := upmeet _ _ Pa Pb A B hA hB hPa hPb W p q; exact h)
      have R1 := Lib.hid (fun W (p : PairS ba W (.slice oa A.length ca) A) (q : PairS bb W (.slice ob B.length cb) B) => by have h := rpcombine 1 (by omega) (by omega) _ _ Pa Pb A B hA hB hPa hPb W p q; rw [show (1 : Int) + 1 = 2 from rfl] at h; exact h)
      have Q1 := Lib.hid (fun W b1 b2 v1 v2 (p : PairS b1 W v1 (coR 2 Pa A Pb B).1.2) (q : PairS b2 W v2 (coR 2 Pa A Pb B).1.2) => clo_same v1 v2 (coR 2 Pa A Pb B).1.1 (coR 2 Pa A Pb B).2 _ (co_len _ _ _ _ _) W p q)
      obtain ⟨e10, e11⟩ := co_er 2 Pa A Pb B
      have U2 := Lib.hid (fun W (p : PairS ba W (.slice oa A.length ca) A) (q : PairS bb W (.slice ob B.length cb) B) => by have h := upminus _ _ Pa Pb A B hA hB hPa hPb W p q; exact h)
      have R2 := Lib.hid (fun W (p : PairS ba W (.slice oa A.length ca) A) (q : PairS bb W (.slice ob B.length cb) B) => by have h := rpcombine 2 (by omega) (by omega) _ _ Pa Pb A B hA hB hPa hPb W p q; rw [show (2 : Int) + 1 = 3 from rfl] at h; exact h)
      have Q2 := Lib.hid (fun W b1 b2 v1 v2 (p : PairS b1 W v1 (coR 3 Pa A Pb B).1.2) (q : PairS b2 W v2 (coR 3 Pa A Pb B).1.2) => clo_same v1 v2 (coR 3 Pa A Pb B).1.1 (coR 3 Pa A Pb B).2 _ (co_len _ _ _ _ _) W p q)
      obtain ⟨e20, e21⟩ := co_er 3 Pa A Pb B
      have NO := Lib.hid (fun W (p : PairS ba W (.slice oa A.length ca) A) => by have h := upnot _ Pa A hA hPa W p; exact h)
      have RN := Lib.hid (fun W (p : PairS ba W (.slice oa A.length ca) A) => by have h := rpnot _ Pa A hA hPa W p; exact h)
      have MO := Lib.hid (fun W (p : PairS ba W (.slice oa A.length ca) A) => by have h := upmove _ Pa A hA hPa n hn W p; exact h)
      have RM := Lib.hid (fun W (p : PairS ba W (.slice oa A.length ca) A) => by have h := rpmove _ Pa A hA hPa n hn W p; exact h)
      have Q4 := Lib.hid (fun W b1 b2 v1 v2 (p : PairS b1 W v1 (noR Pa A).1.2) (q : PairS b2 W v2 (noR Pa A).1.2) => clo_same v1 v2 (noR Pa A).1.1 (noR Pa A).2 _ (no_len Pa A) W p q)
      obtain ⟨e40, e41⟩ := no_er Pa A
      have Q5 := Lib.hid (fun W b1 b2 v1 v2 (p : PairS b1 W v1 (mvR Pa A n).1.2) (q : PairS b2 W v2 (mvR Pa A n).1.2) => clo_same v1 v2 (mvR Pa A n).1.1 (mvR Pa A n).2 _ (mv_len Pa A n) W p q)
      obtain ⟨e50, e51⟩ := mv_er Pa A n
      generalize coR 1 Pa A Pb B = r0 at *
      obtain ⟨⟨D0, L0⟩, E0⟩ := r0
      generalize coR 2 Pa A Pb B = r1 at *
      obtain ⟨⟨D1, L1⟩, E1⟩ := r1
      generalize coR 3 Pa A Pb B = r2 at *
      obtain ⟨⟨D2, L2⟩, E2⟩ := r2
      generalize noR Pa A = r4 at *
      obtain ⟨⟨D4, L4⟩, E4⟩ := r4
      generalize mvR Pa A n = r5 at *
      obtain ⟨⟨D5, L5⟩, E5⟩ := r5
      clear ga gb hA hB hPa hPb
      go_enter Try.func5, Try.ntmps5
      obtain ⟨Tar0, Tar1, Tar2⟩ := Ta_0.out
      obtain ⟨Tbr0, Tbr1, Tbr2⟩ := Tb_0.out
      go_wp2_with fail
      clear Tar0 Tar1 Tar2 Tbr0 Tbr1 Tbr2
      generalize ((w.alloc (.cells #[.int .i64 Pa, .slice oa A.length ca] 24)).alloc (.cells #[.int .i64 Pb, .slice ob B.length cb] 24)) = w0 at *
      refine (AW.out _).mono ?_
      rintro e w1 ⟨rfl, hb⟩
      have AF_1 := Lib.hid (down AF_0.out hb)
      have Ta_1 := Lib.hid (Ta_0.out.keep hb)
      have Tb_1 := Lib.hid (Tb_0.out.keep hb)
      have Sa_1 := Lib.hid (Sa_0.out.keep hb)
      have Sb_1 := Lib.hid (Sb_0.out.keep hb)
      clear hb AF_0 Ta_0 Tb_0 Sa_0 Sb_0
      obtain ⟨Tar0, Tar1, Tar2⟩ := Ta_1.out
      obtain ⟨Tbr0, Tbr1, Tbr2⟩ := Tb_1.out
      go_wp2_with fail
      clear Tar0 Tar1 Tar2 Tbr0 Tbr1 Tbr2
      refine (LOa.out _).mono ?_
      rintro e w2 ⟨rfl, hb⟩
      have AF_2 := Lib.hid (down AF_1.out hb)
      have Ta_2 := Lib.hid (Ta_1.out.keep hb)
      have Tb_2 := Lib.hid (Tb_1.out.keep hb)
      have Sa_2 := Lib.hid (Sa_1.out.keep hb)
      have Sb_2 := Lib.hid (Sb_1.out.keep hb)
      clear hb AF_1 Ta_1 Tb_1 Sa_1 Sb_1
      obtain ⟨Tar0, Tar1, Tar2⟩ := Ta_2.out
      obtain ⟨Tbr0, Tbr1, Tbr2⟩ := Tb_2.out
      go_wp2_with fail
      clear Tar0 Tar1 Tar2 Tbr0 Tbr1 Tbr2
      refine (LOb.out _).mono ?_
      rintro e w3 ⟨rfl, hb⟩
      have AF_3 := Lib.hid (down AF_2.out hb)
      have Ta_3 := Lib.hid (Ta_2.out.keep hb)
      have Tb_3 := Lib.hid (Tb_2.out.keep hb)
      have Sa_3 := Lib.hid (Sa_2.out.keep hb)
      have Sb_3 := Lib.hid (Sb_2.out.keep hb)
      clear hb AF_2 Ta_2 Tb_2 Sa_2 Sb_2
      obtain ⟨g, hg⟩ : ∃ g, w3.heap.size = g := ⟨_, rfl⟩
      have gb := grow (here w3) (.cells #[.func (.func 24) #[] #[], .func (.func 25) #[] #[], .func (.func 26) #[] #[]] 40)
      have AF_g := Lib.hid (down AF_3.out gb)
      have Ta_g := Lib.hid (Ta_3.out.keep gb)
      have Tb_g := Lib.hid (Tb_3.out.keep gb)
      have Sa_g := Lib.hid (Sa_3.out.keep gb)
      have Sb_g := Lib.hid (Sb_3.out.keep gb)
      have FN : Hid ((w3.alloc (.cells #[.func (.func 24) #[] #[], .func (.func 25) #[] #[], .func (.func 26) #[] #[]] 40)).cell? ⟨g, 0, none⟩ = some (.func (.func 24) #[] #[]) ∧ (w3.alloc (.cells #[.func (.func 24) #[] #[], .func (.func 25) #[] #[], .func (.func 26) #[] #[]] 40)).cell? ⟨g, 1, none⟩ = some (.func (.func 25) #[] #[]) ∧ (w3.alloc (.cells #[.func (.func 24) #[] #[], .func (.func 25) #[] #[], .func (.func 26) #[] #[]] 40)).cell? ⟨g, 2, none⟩ = some (.func (.func 26) #[] #[]) ∧ g < (w3.alloc (.cells #[.func (.func 24) #[] #[], .func (.func 25) #[] #[], .func (.func 26) #[] #[]] 40)).heap.size) := by
        show _ ∧ _ ∧ _ ∧ _
        rw [← hg, World.cell?_alloc_new, World.cell?_alloc_new, World.cell?_alloc_new]
        exact ⟨rfl, rfl, rfl, by simp⟩
      obtain ⟨Tar0, Tar1, Tar2⟩ := Ta_3.out
      obtain ⟨Tbr0, Tbr1, Tbr2⟩ := Tb_3.out
      go_wp2
      clear Tar0 Tar1 Tar2 Tbr0 Tbr1 Tbr2 gb AF_3 Ta_3 Tb_3 Sa_3 Sb_3
      generalize (w3.alloc (.cells #[.func (.func 24) #[] #[], .func (.func 25) #[] #[], .func (.func 26) #[] #[]] 40)) = wg at *
      have L0 := Lib.hid (here wg)
      go_loopw [35] (fun t wr => ∃ (k : Int), 0 ≤ k ∧ k ≤ 3 ∧ t = .int .i64 k ∧ Hid (Below wg.heap.size wg wr)) (fun t _ => (3 - intOf t).toNat)
      case atStart => exact ⟨0, by omega, by omega, rfl, L0⟩
      case round =>
        obtain ⟨k, k0, k3, rfl, AF_20⟩ := hrel
        clear L0
        have hb := AF_20.out
        rcases (show k = 0 ∨ k = 1 ∨ k = 2 ∨ k = 3 by omega) with rfl | rfl | rfl | rfl
        · have Ta_20 := Lib.hid (Ta_g.out.keep hb)
          have Tb_20 := Lib.hid (Tb_g.out.keep hb)
          have Sa_20 := Lib.hid (Sa_g.out.keep hb)
          have Sb_20 := Lib.hid (Sb_g.out.keep hb)
          obtain ⟨f0, f1, f2, fl⟩ := FN.out
          rw [← hb.cell (p := ⟨g, 0, none⟩) fl] at f0
          rw [← hb.cell (p := ⟨g, 1, none⟩) fl] at f1
          rw [← hb.cell (p := ⟨g, 2, none⟩) fl] at f2
          have fl2 : g < wr.heap.size := by have := hb.size; omega
          have ky : True := trivial
          obtain ⟨Tar0, Tar1, Tar2⟩ := Ta_20.out
          obtain ⟨Tbr0, Tbr1, Tbr2⟩ := Tb_20.out
          go_wp2_with fail
          clear Tar0 Tar1 Tar2 Tbr0 Tbr1 Tbr2
          clear f0 f1 f2 fl fl2 hb ky
          refine (U0.out _ Sa_20.out Sb_20.out).mono ?_
          rintro e w21 ⟨⟨v1, rfl, p⟩, hb⟩
          obtain ⟨o1, c1, rfl⟩ := Sl.shape p
          have AF_21 := Lib.hid (down AF_20.out hb)
          have Ta_21 := Lib.hid (Ta_20.out.keep hb)
          have Tb_21 := Lib.hid (Tb_20.out.keep hb)
          have Sa_21 := Lib.hid (Sa_20.out.keep hb)
          have Sb_21 := Lib.hid (Sb_20.out.keep hb)
          clear hb AF_20 Ta_20 Tb_20 Sa_20 Sb_20
          have S1_21 := Lib.hid p
          clear p
          have gb := grow (here w21) (.cells #[.int .i64 D0, .slice o1 L0.length c1] 24)
          have T1_22 := Lib.hid (Two.new (t := 24) (x := .int .i64 D0) (y := .slice o1 L0.length c1) (here (w21.alloc (.cells #[.int .i64 D0, .slice o1 L0.length c1] 24))))
          have AF_22 := Lib.hid (down AF_21.out gb)
          have Ta_22 := Lib.hid (Ta_21.out.keep gb)
          have Tb_22 := Lib.hid (Tb_21.out.keep gb)
          have Sa_22 := Lib.hid (Sa_21.out.keep gb)
          have Sb_22 := Lib.hid (Sb_21.out.keep gb)
          have S1_22 := Lib.hid (S1_21.out.keep gb)
          clear gb AF_21 Ta_21 Tb_21 Sa_21 Sb_21 S1_21
          obtain ⟨Tar0, Tar1, Tar2⟩ := Ta_22.out
          obtain ⟨Tbr0, Tbr1, Tbr2⟩ := Tb_22.out
          obtain ⟨T1r0, T1r1, T1r2⟩ := T1_22.out
          go_wp2_with fail
          clear Tar0 Tar1 Tar2 Tbr0 Tbr1 Tbr2 T1r0 T1r1 T1r2
          generalize (w21.alloc (.cells #[.int .i64 D0, .slice o1 L0.length c1] 24)) = w22 at *
          refine (R0.out _ Sa_22.out Sb_22.out).mono ?_
          rintro e w23 ⟨⟨v2, rfl, p⟩, hb⟩
          obtain ⟨o2, c2, rfl⟩ := Sl.shape p
          have AF_23 := Lib.hid (down AF_22.out hb)
          have Ta_23 := Lib.hid (Ta_22.out.keep hb)
          have Tb_23 := Lib.hid (Tb_22.out.keep hb)
          have T1_23 := Lib.hid (T1_22.out.keep hb)
          have Sa_23 := Lib.hid (Sa_22.out.keep hb)
          have Sb_23 := Lib.hid (Sb_22.out.keep hb)
          have S1_23 := Lib.hid (S1_22.out.keep hb)
          clear hb AF_22 Ta_22 Tb_22 T1_22 Sa_22 Sb_22 S1_22
          have S2_23 := Lib.hid p
          clear p
          have gb := grow (here w23) (.cells #[.int .i64 D0, .slice o2 L0.length c2] 24)
          have T2_24 := Lib.hid (Two.new (t := 24) (x := .int .i64 D0) (y := .slice o2 L0.length c2) (here (w23.alloc (.cells #[.int .i64 D0, .slice o2 L0.length c2] 24))))
          have AF_24 := Lib.hid (down AF_23.out gb)
          have Ta_24 := Lib.hid (Ta_23.out.keep gb)
          have Tb_24 := Lib.hid (Tb_23.out.keep gb)
          have T1_24 := Lib.hid (T1_23.out.keep gb)
          have Sa_24 := Lib.hid (Sa_23.out.keep gb)
          have Sb_24 := Lib.hid (Sb_23.out.keep gb)
          have S1_24 := Lib.hid (S1_23.out.keep gb)
          have S2_24 := Lib.hid (S2_23.out.keep gb)
          clear gb AF_23 Ta_23 Tb_23 T1_23 Sa_23 Sb_23 S1_23 S2_23
          obtain ⟨Tar0, Tar1, Tar2⟩ := Ta_24.out
          obtain ⟨Tbr0, Tbr1, Tbr2⟩ := Tb_24.out
          obtain ⟨T1r0, T1r1, T1r2⟩ := T1_24.out
          obtain ⟨T2r0, T2r1, T2r2⟩ := T2_24.out
          go_wp2_with fail
          clear Tar0 Tar1 Tar2 Tbr0 Tbr1 Tbr2 T1r0 T1r1 T1r2 T2r0 T2r1 T2r2
          generalize (w23.alloc (.cells #[.int .i64 D0, .slice o2 L0.length c2] 24)) = w24 at *
          refine (Q0.out _ _ _ _ _ S1_24.out S2_24.out).mono ?_
          rintro e w25 ⟨rfl, hb⟩
          have AF_25 := Lib.hid (down AF_24.out hb)
          have Ta_25 := Lib.hid (Ta_24.out.keep hb)
          have Tb_25 := Lib.hid (Tb_24.out.keep hb)
          have T1_25 := Lib.hid (T1_24.out.keep hb)
          have T2_25 := Lib.hid (T2_24.out.keep hb)
          have Sa_25 := Lib.hid (Sa_24.out.keep hb)
          have Sb_25 := Lib.hid (Sb_24.out.keep hb)
          have S1_25 := Lib.hid (S1_24.out.keep hb)
          have S2_25 := Lib.hid (S2_24.out.keep hb)
          clear hb AF_24 Ta_24 Tb_24 T1_24 T2_24 Sa_24 Sb_24 S1_24 S2_24
          go_wp2
          go_roundw
          case rel => exact ⟨1, by omega, by omega, by first | rfl | go_num, AF_25⟩
          case measure => simp [intOf]
        · have Ta_20 := Lib.hid (Ta_g.out.keep hb)
          have Tb_20 := Lib.hid (Tb_g.out.keep hb)
          have Sa_20 := Lib.hid (Sa_g.out.keep hb)
          have Sb_20 := Lib.hid (Sb_g.out.keep hb)
          obtain ⟨f0, f1, f2, fl⟩ := FN.out
          rw [← hb.cell (p := ⟨g, 0, none⟩) fl] at f0
          rw [← hb.cell (p := ⟨g, 1, none⟩) fl] at f1
          rw [← hb.cell (p := ⟨g, 2, none⟩) fl] at f2
          have fl2 : g < wr.heap.size := by have := hb.size; omega
          have ky : True := trivial
          obtain ⟨Tar0, Tar1, Tar2⟩ := Ta_20.out
          obtain ⟨Tbr0, Tbr1, Tbr2⟩ := Tb_20.out
          go_wp2_with fail
          clear Tar0 Tar1 Tar2 Tbr0 Tbr1 Tbr2
          clear f0 f1 f2 fl fl2 hb ky
          refine (U1.out _ Sa_20.out Sb_20.out).mono ?_
          rintro e w21 ⟨⟨v1, rfl, p⟩, hb⟩
          obtain ⟨o1, c1, rfl⟩ := Sl.shape p
          have AF_21 := Lib.hid (down AF_20.out hb)
          have Ta_21 := Lib.hid (Ta_20.out.keep hb)
          have Tb_21 := Lib.hid (Tb_20.out.keep hb)
          have Sa_21 := Lib.hid (Sa_20.out.keep hb)
          have Sb_21 := Lib.hid (Sb_20.out.keep hb)
          clear hb AF_20 Ta_20 Tb_20 Sa_20 Sb_20
          have S1_21 := Lib.hid p
          clear p
          have gb := grow (here w21) (.cells #[.int .i64 D1, .slice o1 L1.length c1] 24)
          have T1_22 := Lib.hid (Two.new (t := 24) (x := .int .i64 D1) (y := .slice o1 L1.length c1) (here (w21.alloc (.cells #[.int .i64 D1, .slice o1 L1.length c1] 24))))
          have AF_22 := Lib.hid (down AF_21.out gb)
          have Ta_22 := Lib.hid (Ta_21.out.keep gb)
          have Tb_22 := Lib.hid (Tb_21.out.keep gb)
          have Sa_22 := Lib.hid (Sa_21.out.keep gb)
          have Sb_22 := Lib.hid (Sb_21.out.keep gb)
          have S1_22 := Lib.hid (S1_21.out.keep gb)
          clear gb AF_21 Ta_21 Tb_21 Sa_21 Sb_21 S1_21
          obtain ⟨Tar0, Tar1, Tar2⟩ := Ta_22.out
          obtain ⟨Tbr0, Tbr1, Tbr2⟩ := Tb_22.out
          obtain ⟨T1r0, T1r1, T1r2⟩ := T1_22.out
          go_wp2_with fail
          clear Tar0 Tar1 Tar2 Tbr0 Tbr1 Tbr2 T1r0 T1r1 T1r2
          generalize (w21.alloc (.cells #[.int .i64 D1, .slice o1 L1.length c1] 24)) = w22 at *
          refine (R1.out _ Sa_22.out Sb_22.out).mono ?_
          rintro e w23 ⟨⟨v2, rfl, p⟩, hb⟩
          obtain ⟨o2, c2, rfl⟩ := Sl.shape p
          have AF_23 := Lib.hid (down AF_22.out hb)
          have Ta_23 := Lib.hid (Ta_22.out.keep hb)
          have Tb_23 := Lib.hid (Tb_22.out.keep hb)
          have T1_23 := Lib.hid (T1_22.out.keep hb)
          have Sa_23 := Lib.hid (Sa_22.out.keep hb)
          have Sb_23 := Lib.hid (Sb_22.out.keep hb)
          have S1_23 := Lib.hid (S1_22.out.keep hb)
          clear hb AF_22 Ta_22 Tb_22 T1_22 Sa_22 Sb_22 S1_22
          have S2_23 := Lib.hid p
          clear p
          have gb := grow (here w23) (.cells #[.int .i64 D1, .slice o2 L1.length c2] 24)
          have T2_24 := Lib.hid (Two.new (t := 24) (x := .int .i64 D1) (y := .slice o2 L1.length c2) (here (w23.alloc (.cells #[.int .i64 D1, .slice o2 L1.length c2] 24))))
          have AF_24 := Lib.hid (down AF_23.out gb)
          have Ta_24 := Lib.hid (Ta_23.out.keep gb)
          have Tb_24 := Lib.hid (Tb_23.out.keep gb)
          have T1_24 := Lib.hid (T1_23.out.keep gb)
          have Sa_24 := Lib.hid (Sa_23.out.keep gb)
          have Sb_24 := Lib.hid (Sb_23.out.keep gb)
          have S1_24 := Lib.hid (S1_23.out.keep gb)
          have S2_24 := Lib.hid (S2_23.out.keep gb)
          clear gb AF_23 Ta_23 Tb_23 T1_23 Sa_23 Sb_23 S1_23 S2_23
          obtain ⟨Tar0, Tar1, Tar2⟩ := Ta_24.out
          obtain ⟨Tbr0, Tbr1, Tbr2⟩ := Tb_24.out
          obtain ⟨T1r0, T1r1, T1r2⟩ := T1_24.out
          obtain ⟨T2r0, T2r1, T2r2⟩ := T2_24.out
          go_wp2_with fail
          clear Tar0 Tar1 Tar2 Tbr0 Tbr1 Tbr2 T1r0 T1r1 T1r2 T2r0 T2r1 T2r2
          generalize (w23.alloc (.cells #[.int .i64 D1, .slice o2 L1.length c2] 24)) = w24 at *
          refine (Q1.out _ _ _ _ _ S1_24.out S2_24.out).mono ?_
          rintro e w25 ⟨rfl, hb⟩
          have AF_25 := Lib.hid (down AF_24.out hb)
          have Ta_25 := Lib.hid (Ta_24.out.keep hb)
          have Tb_25 := Lib.hid (Tb_24.out.keep hb)
          have T1_25 := Lib.hid (T1_24.out.keep hb)
          have T2_25 := Lib.hid (T2_24.out.keep hb)
          have Sa_25 := Lib.hid (Sa_24.out.keep hb)
          have Sb_25 := Lib.hid (Sb_24.out.keep hb)
          have S1_25 := Lib.hid (S1_24.out.keep hb)
          have S2_25 := Lib.hid (S2_24.out.keep hb)
          clear hb AF_24 Ta_24 Tb_24 T1_24 T2_24 Sa_24 Sb_24 S1_24 S2_24
          go_wp2
          go_roundw
          case rel => exact ⟨2, by omega, by omega, by first | rfl | go_num, AF_25⟩
          case measure => simp [intOf]
        · have Ta_20 := Lib.hid (Ta_g.out.keep hb)
          have Tb_20 := Lib.hid (Tb_g.out.keep hb)
          have Sa_20 := Lib.hid (Sa_g.out.keep hb)
          have Sb_20 := Lib.hid (Sb_g.out.keep hb)
          obtain ⟨f0, f1, f2, fl⟩ := FN.out
          rw [← hb.cell (p := ⟨g, 0, none⟩) fl] at f0
          rw [← hb.cell (p := ⟨g, 1, none⟩) fl] at f1
          rw [← hb.cell (p := ⟨g, 2, none⟩) fl] at f2
          have fl2 : g < wr.heap.size := by have := hb.size; omega
          have ky : True := trivial
          obtain ⟨Tar0, Tar1, Tar2⟩ := Ta_20.out
          obtain ⟨Tbr0, Tbr1, Tbr2⟩ := Tb_20.out
          go_wp2_with fail
          clear Tar0 Tar1 Tar2 Tbr0 Tbr1 Tbr2
          clear f0 f1 f2 fl fl2 hb ky
          refine (U2.out _ Sa_20.out Sb_20.out).mono ?_
          rintro e w21 ⟨⟨v1, rfl, p⟩, hb⟩
          obtain ⟨o1, c1, rfl⟩ := Sl.shape p
          have AF_21 := Lib.hid (down AF_20.out hb)
          have Ta_21 := Lib.hid (Ta_20.out.keep hb)
          have Tb_21 := Lib.hid (Tb_20.out.keep hb)
          have Sa_21 := Lib.hid (Sa_20.out.keep hb)
          have Sb_21 := Lib.hid (Sb_20.out.keep hb)
          clear hb AF_20 Ta_20 Tb_20 Sa_20 Sb_20
          have S1_21 := Lib.hid p
          clear p
          have gb := grow (here w21) (.cells #[.int .i64 D2, .slice o1 L2.length c1] 24)
          have T1_22 := Lib.hid (Two.new (t := 24) (x := .int .i64 D2) (y := .slice o1 L2.length c1) (here (w21.alloc (.cells #[.int .i64 D2, .slice o1 L2.length c1] 24))))
          have AF_22 := Lib.hid (down AF_21.out gb)
          have Ta_22 := Lib.hid (Ta_21.out.keep gb)
          have Tb_22 := Lib.hid (Tb_21.out.keep gb)
          have Sa_22 := Lib.hid (Sa_21.out.keep gb)
          have Sb_22 := Lib.hid (Sb_21.out.keep gb)
          have S1_22 := Lib.hid (S1_21.out.keep gb)
          clear gb AF_21 Ta_21 Tb_21 Sa_21 Sb_21 S1_21
          obtain ⟨Tar0, Tar1, Tar2⟩ := Ta_22.out
          obtain ⟨Tbr0, Tbr1, Tbr2⟩ := Tb_22.out
          obtain ⟨T1r0, T1r1, T1r2⟩ := T1_22.out
          go_wp2_with fail
          clear Tar0 Tar1 Tar2 Tbr0 Tbr1 Tbr2 T1r0 T1r1 T1r2
          generalize (w21.alloc (.cells #[.int .i64 D2, .slice o1 L2.length c1] 24)) = w22 at *
          refine (R2.out _ Sa_22.out Sb_22.out).mono ?_
          rintro e w23 ⟨⟨v2, rfl, p⟩, hb⟩
          obtain ⟨o2, c2, rfl⟩ := Sl.shape p
          have AF_23 := Lib.hid (down AF_22.out hb)
          have Ta_23 := Lib.hid (Ta_22.out.keep hb)
          have Tb_23 := Lib.hid (Tb_22.out.keep hb)
          have T1_23 := Lib.hid (T1_22.out.keep hb)
          have Sa_23 := Lib.hid (Sa_22.out.keep hb)
          have Sb_23 := Lib.hid (Sb_22.out.keep hb)
          have S1_23 := Lib.hid (S1_22.out.keep hb)
          clear hb AF_22 Ta_22 Tb_22 T1_22 Sa_22 Sb_22 S1_22
          have S2_23 := Lib.hid p
          clear p
          have gb := grow (here w23) (.cells #[.int .i64 D2, .slice o2 L2.length c2] 24)
          have T2_24 := Lib.hid (Two.new (t := 24) (x := .int .i64 D2) (y := .slice o2 L2.length c2) (here (w23.alloc (.cells #[.int .i64 D2, .slice o2 L2.length c2] 24))))
          have AF_24 := Lib.hid (down AF_23.out gb)
          have Ta_24 := Lib.hid (Ta_23.out.keep gb)
          have Tb_24 := Lib.hid (Tb_23.out.keep gb)
          have T1_24 := Lib.hid (T1_23.out.keep gb)
          have Sa_24 := Lib.hid (Sa_23.out.keep gb)
          have Sb_24 := Lib.hid (Sb_23.out.keep gb)
          have S1_24 := Lib.hid (S1_23.out.keep gb)
          have S2_24 := Lib.hid (S2_23.out.keep gb)
          clear gb AF_23 Ta_23 Tb_23 T1_23 Sa_23 Sb_23 S1_23 S2_23
          obtain ⟨Tar0, Tar1, Tar2⟩ := Ta_24.out
          obtain ⟨Tbr0, Tbr1, Tbr2⟩ := Tb_24.out
          obtain ⟨T1r0, T1r1, T1r2⟩ := T1_24.out
          obtain ⟨T2r0, T2r1, T2r2⟩ := T2_24.out
          go_wp2_with fail
          clear Tar0 Tar1 Tar2 Tbr0 Tbr1 Tbr2 T1r0 T1r1 T1r2 T2r0 T2r1 T2r2
          generalize (w23.alloc (.cells #[.int .i64 D2, .slice o2 L2.length c2] 24)) = w24 at *
          refine (Q2.out _ _ _ _ _ S1_24.out S2_24.out).mono ?_
          rintro e w25 ⟨rfl, hb⟩
          have AF_25 := Lib.hid (down AF_24.out hb)
          have Ta_25 := Lib.hid (Ta_24.out.keep hb)
          have Tb_25 := Lib.hid (Tb_24.out.keep hb)
          have T1_25 := Lib.hid (T1_24.out.keep hb)
          have T2_25 := Lib.hid (T2_24.out.keep hb)
          have Sa_25 := Lib.hid (Sa_24.out.keep hb)
          have Sb_25 := Lib.hid (Sb_24.out.keep hb)
          have S1_25 := Lib.hid (S1_24.out.keep hb)
          have S2_25 := Lib.hid (S2_24.out.keep hb)
          clear hb AF_24 Ta_24 Tb_24 T1_24 T2_24 Sa_24 Sb_24 S1_24 S2_24
          go_wp2
          go_roundw
          case rel => exact ⟨3, by omega, by omega, by first | rfl | go_num, AF_25⟩
          case measure => simp [intOf]
        · have Ta_40 := Lib.hid (Ta_g.out.keep hb)
          have Tb_40 := Lib.hid (Tb_g.out.keep hb)
          have Sa_40 := Lib.hid (Sa_g.out.keep hb)
          have Sb_40 := Lib.hid (Sb_g.out.keep hb)
          have AF_40 := Lib.hid (down AF_g.out hb)
          clear hb
          obtain ⟨Tar0, Tar1, Tar2⟩ := Ta_40.out
          obtain ⟨Tbr0, Tbr1, Tbr2⟩ := Tb_40.out
          go_wp2_with fail
          clear Tar0 Tar1 Tar2 Tbr0 Tbr1 Tbr2
          refine (NO.out _ Sa_40.out).mono ?_
          rintro e w41 ⟨⟨v1, rfl, p, Cv1⟩, hb⟩
          obtain ⟨o1, c1, rfl⟩ := Sl.shape p
          replace Cv1 := Lib.hid Cv1
          have AF_41 := Lib.hid (down AF_40.out hb)
          have Ta_41 := Lib.hid (Ta_40.out.keep hb)
          have Tb_41 := Lib.hid (Tb_40.out.keep hb)
          have Sa_41 := Lib.hid (Sa_40.out.keep hb)
          have Sb_41 := Lib.hid (Sb_40.out.keep hb)
          clear hb AF_40 Ta_40 Tb_40 Sa_40 Sb_40
          have S1_41 := Lib.hid p
          clear p
          have gb := grow (here w41) (.cells #[.int .i64 D4, .slice o1 L4.length c1] 24)
          have T1_42 := Lib.hid (Two.new (t := 24) (x := .int .i64 D4) (y := .slice o1 L4.length c1) (here (w41.alloc (.cells #[.int .i64 D4, .slice o1 L4.length c1] 24))))
          have AF_42 := Lib.hid (down AF_41.out gb)
          have Ta_42 := Lib.hid (Ta_41.out.keep gb)
          have Tb_42 := Lib.hid (Tb_41.out.keep gb)
          have Sa_42 := Lib.hid (Sa_41.out.keep gb)
          have Sb_42 := Lib.hid (Sb_41.out.keep gb)
          have S1_42 := Lib.hid (S1_41.out.keep gb)
          clear gb AF_41 Ta_41 Tb_41 Sa_41 Sb_41 S1_41
          obtain ⟨Tar0, Tar1, Tar2⟩ := Ta_42.out
          obtain ⟨Tbr0, Tbr1, Tbr2⟩ := Tb_42.out
          obtain ⟨T1r0, T1r1, T1r2⟩ := T1_42.out
          go_wp2_with fail
          clear Tar0 Tar1 Tar2 Tbr0 Tbr1 Tbr2 T1r0 T1r1 T1r2
          generalize (w41.alloc (.cells #[.int .i64 D4, .slice o1 L4.length c1] 24)) = w42 at *
          refine (RN.out _ Sa_42.out).mono ?_
          rintro e w43 ⟨⟨v2, rfl, p⟩, hb⟩
          obtain ⟨o2, c2, rfl⟩ := Sl.shape p
          have AF_43 := Lib.hid (down AF_42.out hb)
          have Ta_43 := Lib.hid (Ta_42.out.keep hb)
          have Tb_43 := Lib.hid (Tb_42.out.keep hb)
          have T1_43 := Lib.hid (T1_42.out.keep hb)
          have Sa_43 := Lib.hid (Sa_42.out.keep hb)
          have Sb_43 := Lib.hid (Sb_42.out.keep hb)
          have S1_43 := Lib.hid (S1_42.out.keep hb)
          clear hb AF_42 Ta_42 Tb_42 T1_42 Sa_42 Sb_42 S1_42
          have S2_43 := Lib.hid p
          clear p
          have gb := grow (here w43) (.cells #[.int .i64 D4, .slice o2 L4.length c2] 24)
          have T2_44 := Lib.hid (Two.new (t := 24) (x := .int .i64 D4) (y := .slice o2 L4.length c2) (here (w43.alloc (.cells #[.int .i64 D4, .slice o2 L4.length c2] 24))))
          have AF_44 := Lib.hid (down AF_43.out gb)
          have Ta_44 := Lib.hid (Ta_43.out.keep gb)
          have Tb_44 := Lib.hid (Tb_43.out.keep gb)
          have T1_44 := Lib.hid (T1_43.out.keep gb)
          have Sa_44 := Lib.hid (Sa_43.out.keep gb)
          have Sb_44 := Lib.hid (Sb_43.out.keep gb)
          have S1_44 := Lib.hid (S1_43.out.keep gb)
          have S2_44 := Lib.hid (S2_43.out.keep gb)
          clear gb AF_43 Ta_43 Tb_43 T1_43 Sa_43 Sb_43 S1_43 S2_43
          obtain ⟨Tar0, Tar1, Tar2⟩ := Ta_44.out
          obtain ⟨Tbr0, Tbr1, Tbr2⟩ := Tb_44.out
          obtain ⟨T1r0, T1r1, T1r2⟩ := T1_44.out
          obtain ⟨T2r0, T2r1, T2r2⟩ := T2_44.out
          go_wp2_with fail
          clear Tar0 Tar1 Tar2 Tbr0 Tbr1 Tbr2 T1r0 T1r1 T1r2 T2r0 T2r1 T2r2
          generalize (w43.alloc (.cells #[.int .i64 D4, .slice o2 L4.length c2] 24)) = w44 at *
          refine (MO.out _ Sa_44.out).mono ?_
          rintro e w45 ⟨⟨v3, rfl, p⟩, hb⟩
          obtain ⟨o3, c3, rfl⟩ := Sl.shape p
          have AF_45 := Lib.hid (down AF_44.out hb)
          have Ta_45 := Lib.hid (Ta_44.out.keep hb)
          have Tb_45 := Lib.hid (Tb_44.out.keep hb)
          have T1_45 := Lib.hid (T1_44.out.keep hb)
          have T2_45 := Lib.hid (T2_44.out.keep hb)
          have Sa_45 := Lib.hid (Sa_44.out.keep hb)
          have Sb_45 := Lib.hid (Sb_44.out.keep hb)
          have S1_45 := Lib.hid (S1_44.out.keep hb)
          have S2_45 := Lib.hid (S2_44.out.keep hb)
          clear hb AF_44 Ta_44 Tb_44 T1_44 T2_44 Sa_44 Sb_44 S1_44 S2_44
          have S3_45 := Lib.hid p
          clear p
          have gb := grow (here w45) (.cells #[.int .i64 D5, .slice o3 L5.length c3] 24)
          have T3_46 := Lib.hid (Two.new (t := 24) (x := .int .i64 D5) (y := .slice o3 L5.length c3) (here (w45.alloc (.cells #[.int .i64 D5, .slice o3 L5.length c3] 24))))
          have AF_46 := Lib.hid (down AF_45.out gb)
          have Ta_46 := Lib.hid (Ta_45.out.keep gb)
          have Tb_46 := Lib.hid (Tb_45.out.keep gb)
          have T1_46 := Lib.hid (T1_45.out.keep gb)
          have T2_46 := Lib.hid (T2_45.out.keep gb)
          have Sa_46 := Lib.hid (Sa_45.out.keep gb)
          have Sb_46 := Lib.hid (Sb_45.out.keep gb)
          have S1_46 := Lib.hid (S1_45.out.keep gb)
          have S2_46 := Lib.hid (S2_45.out.keep gb)
          have S3_46 := Lib.hid (S3_45.out.keep gb)
          clear gb AF_45 Ta_45 Tb_45 T1_45 T2_45 Sa_45 Sb_45 S1_45 S2_45 S3_45
          obtain ⟨Tar0, Tar1, Tar2⟩ := Ta_46.out
          obtain ⟨Tbr0, Tbr1, Tbr2⟩ := Tb_46.out
          obtain ⟨T1r0, T1r1, T1r2⟩ := T1_46.out
          obtain ⟨T2r0, T2r1, T2r2⟩ := T2_46.out
          obtain ⟨T3r0, T3r1, T3r2⟩ := T3_46.out
          go_wp2_with fail
          clear Tar0 Tar1 Tar2 Tbr0 Tbr1 Tbr2 T1r0 T1r1 T1r2 T2r0 T2r1 T2r2 T3r0 T3r1 T3r2
          generalize (w45.alloc (.cells #[.int .i64 D5, .slice o3 L5.length c3] 24)) = w46 at *
          refine (RM.out _ Sa_46.out).mono ?_
          rintro e w47 ⟨⟨v4, rfl, p⟩, hb⟩
          obtain ⟨o4, c4, rfl⟩ := Sl.shape p
          have AF_47 := Lib.hid (down AF_46.out hb)
          have Ta_47 := Lib.hid (Ta_46.out.keep hb)
          have Tb_47 := Lib.hid (Tb_46.out.keep hb)
          have T1_47 := Lib.hid (T1_46.out.keep hb)
          have T2_47 := Lib.hid (T2_46.out.keep hb)
          have T3_47 := Lib.hid (T3_46.out.keep hb)
          have Sa_47 := Lib.hid (Sa_46.out.keep hb)
          have Sb_47 := Lib.hid (Sb_46.out.keep hb)
          have S1_47 := Lib.hid (S1_46.out.keep hb)
          have S2_47 := Lib.hid (S2_46.out.keep hb)
          have S3_47 := Lib.hid (S3_46.out.keep hb)
          clear hb AF_46 Ta_46 Tb_46 T1_46 T2_46 T3_46 Sa_46 Sb_46 S1_46 S2_46 S3_46
          have S4_47 := Lib.hid p
          clear p
          have gb := grow (here w47) (.cells #[.int .i64 D5, .slice o4 L5.length c4] 24)
          have T4_48 := Lib.hid (Two.new (t := 24) (x := .int .i64 D5) (y := .slice o4 L5.length c4) (here (w47.alloc (.cells #[.int .i64 D5, .slice o4 L5.length c4] 24))))
          have AF_48 := Lib.hid (down AF_47.out gb)
          have Ta_48 := Lib.hid (Ta_47.out.keep gb)
          have Tb_48 := Lib.hid (Tb_47.out.keep gb)
          have T1_48 := Lib.hid (T1_47.out.keep gb)
          have T2_48 := Lib.hid (T2_47.out.keep gb)
          have T3_48 := Lib.hid (T3_47.out.keep gb)
          have Sa_48 := Lib.hid (Sa_47.out.keep gb)
          have Sb_48 := Lib.hid (Sb_47.out.keep gb)
          have S1_48 := Lib.hid (S1_47.out.keep gb)
          have S2_48 := Lib.hid (S2_47.out.keep gb)
          have S3_48 := Lib.hid (S3_47.out.keep gb)
          have S4_48 := Lib.hid (S4_47.out.keep gb)
          clear gb AF_47 Ta_47 Tb_47 T1_47 T2_47 T3_47 Sa_47 Sb_47 S1_47 S2_47 S3_47 S4_47
          obtain ⟨Tar0, Tar1, Tar2⟩ := Ta_48.out
          obtain ⟨Tbr0, Tbr1, Tbr2⟩ := Tb_48.out
          obtain ⟨T1r0, T1r1, T1r2⟩ := T1_48.out
          obtain ⟨T2r0, T2r1, T2r2⟩ := T2_48.out
          obtain ⟨T3r0, T3r1, T3r2⟩ := T3_48.out
          obtain ⟨T4r0, T4r1, T4r2⟩ := T4_48.out
          go_wp2_with fail
          clear Tar0 Tar1 Tar2 Tbr0 Tbr1 Tbr2 T1r0 T1r1 T1r2 T2r0 T2r1 T2r2 T3r0 T3r1 T3r2 T4r0 T4r1 T4r2
          generalize (w47.alloc (.cells #[.int .i64 D5, .slice o4 L5.length c4] 24)) = w48 at *
          refine (Q4.out _ _ _ _ _ S1_48.out S2_48.out).mono ?_
          rintro e w49 ⟨rfl, hb⟩
          have AF_49 := Lib.hid (down AF_48.out hb)
          have Ta_49 := Lib.hid (Ta_48.out.keep hb)
          have Tb_49 := Lib.hid (Tb_48.out.keep hb)
          have T1_49 := Lib.hid (T1_48.out.keep hb)
          have T2_49 := Lib.hid (T2_48.out.keep hb)
          have T3_49 := Lib.hid (T3_48.out.keep hb)
          have T4_49 := Lib.hid (T4_48.out.keep hb)
          have Sa_49 := Lib.hid (Sa_48.out.keep hb)
          have Sb_49 := Lib.hid (Sb_48.out.keep hb)
          have S1_49 := Lib.hid (S1_48.out.keep hb)
          have S2_49 := Lib.hid (S2_48.out.keep hb)
          have S3_49 := Lib.hid (S3_48.out.keep hb)
          have S4_49 := Lib.hid (S4_48.out.keep hb)
          clear hb AF_48 Ta_48 Tb_48 T1_48 T2_48 T3_48 T4_48 Sa_48 Sb_48 S1_48 S2_48 S3_48 S4_48
          obtain ⟨Tar0, Tar1, Tar2⟩ := Ta_49.out
          obtain ⟨Tbr0, Tbr1, Tbr2⟩ := Tb_49.out
          obtain ⟨T1r0, T1r1, T1r2⟩ := T1_49.out
          obtain ⟨T2r0, T2r1, T2r2⟩ := T2_49.out
          obtain ⟨T3r0, T3r1, T3r2⟩ := T3_49.out
          obtain ⟨T4r0, T4r1, T4r2⟩ := T4_49.out
          go_wp2_with fail
          clear Tar0 Tar1 Tar2 Tbr0 Tbr1 Tbr2 T1r0 T1r1 T1r2 T2r0 T2r1 T2r2 T3r0 T3r1 T3r2 T4r0 T4r1 T4r2
          refine (Q5.out _ _ _ _ _ S3_49.out S4_49.out).mono ?_
          rintro e w50 ⟨rfl, hb⟩
          have AF_50 := Lib.hid (down AF_49.out hb)
          have Ta_50 := Lib.hid (Ta_49.out.keep hb)
          have Tb_50 := Lib.hid (Tb_49.out.keep hb)
          have T1_50 := Lib.hid (T1_49.out.keep hb)
          have T2_50 := Lib.hid (T2_49.out.keep hb)
          have T3_50 := Lib.hid (T3_49.out.keep hb)
          have T4_50 := Lib.hid (T4_49.out.keep hb)
          have Sa_50 := Lib.hid (Sa_49.out.keep hb)
          have Sb_50 := Lib.hid (Sb_49.out.keep hb)
          have S1_50 := Lib.hid (S1_49.out.keep hb)
          have S2_50 := Lib.hid (S2_49.out.keep hb)
          have S3_50 := Lib.hid (S3_49.out.keep hb)
          have S4_50 := Lib.hid (S4_49.out.keep hb)
          clear hb AF_49 Ta_49 Tb_49 T1_49 T2_49 T3_49 T4_49 Sa_49 Sb_49 S1_49 S2_49 S3_49 S4_49
          obtain ⟨Tar0, Tar1, Tar2⟩ := Ta_50.out
          obtain ⟨Tbr0, Tbr1, Tbr2⟩ := Tb_50.out
          obtain ⟨T1r0, T1r1, T1r2⟩ := T1_50.out
          obtain ⟨T2r0, T2r1, T2r2⟩ := T2_50.out
          obtain ⟨T3r0, T3r1, T3r2⟩ := T3_50.out
          obtain ⟨T4r0, T4r1, T4r2⟩ := T4_50.out
          go_wp2
          go_ret
          exact ⟨rfl, AF_50.out⟩
    · rw [gb] at LOb
      clear ga gb hA hB hPa hPb
      go_enter Try.func5, Try.ntmps5
      obtain ⟨Tar0, Tar1, Tar2⟩ := Ta_0.out
      obtain ⟨Tbr0, Tbr1, Tbr2⟩ := Tb_0.out
      go_wp2_with fail
      clear Tar0 Tar1 Tar2 Tbr0 Tbr1 Tbr2
      generalize ((w.alloc (.cells #[.int .i64 Pa, .slice oa A.length ca] 24)).alloc (.cells #[.int .i64 Pb, .slice ob B.length cb] 24)) = w0 at *
      refine (AW.out _).mono ?_
      rintro e w1 ⟨rfl, hb⟩
      have AF_1 := Lib.hid (down AF_0.out hb)
      have Ta_1 := Lib.hid (Ta_0.out.keep hb)
      have Tb_1 := Lib.hid (Tb_0.out.keep hb)
      have Sa_1 := Lib.hid (Sa_0.out.keep hb)
      have Sb_1 := Lib.hid (Sb_0.out.keep hb)
      clear hb AF_0 Ta_0 Tb_0 Sa_0 Sb_0
      obtain ⟨Tar0, Tar1, Tar2⟩ := Ta_1.out
      obtain ⟨Tbr0, Tbr1, Tbr2⟩ := Tb_1.out
      go_wp2_with fail
      clear Tar0 Tar1 Tar2 Tbr0 Tbr1 Tbr2
      refine (LOa.out _).mono ?_
      rintro e w2 ⟨rfl, hb⟩
      have AF_2 := Lib.hid (down AF_1.out hb)
      have Ta_2 := Lib.hid (Ta_1.out.keep hb)
      have Tb_2 := Lib.hid (Tb_1.out.keep hb)
      have Sa_2 := Lib.hid (Sa_1.out.keep hb)
      have Sb_2 := Lib.hid (Sb_1.out.keep hb)
      clear hb AF_1 Ta_1 Tb_1 Sa_1 Sb_1
      obtain ⟨Tar0, Tar1, Tar2⟩ := Ta_2.out
      obtain ⟨Tbr0, Tbr1, Tbr2⟩ := Tb_2.out
      go_wp2_with fail
      clear Tar0 Tar1 Tar2 Tbr0 Tbr1 Tbr2
      refine (LOb.out _).mono ?_
      rintro e w3 ⟨rfl, hb⟩
      have AF_3 := Lib.hid (down AF_2.out hb)
      have Ta_3 := Lib.hid (Ta_2.out.keep hb)
      have Tb_3 := Lib.hid (Tb_2.out.keep hb)
      have Sa_3 := Lib.hid (Sa_2.out.keep hb)
      have Sb_3 := Lib.hid (Sb_2.out.keep hb)
      clear hb AF_2 Ta_2 Tb_2 Sa_2 Sb_2
      obtain ⟨Tar0, Tar1, Tar2⟩ := Ta_3.out
      obtain ⟨Tbr0, Tbr1, Tbr2⟩ := Tb_3.out
      go_wp2_with fail
      clear Tar0 Tar1 Tar2 Tbr0 Tbr1 Tbr2
      refine (AW.out _).mono ?_
      rintro e w4 ⟨rfl, hb⟩
      have AF_4 := Lib.hid (down AF_3.out hb)
      have Ta_4 := Lib.hid (Ta_3.out.keep hb)
      have Tb_4 := Lib.hid (Tb_3.out.keep hb)
      have Sa_4 := Lib.hid (Sa_3.out.keep hb)
      have Sb_4 := Lib.hid (Sb_3.out.keep hb)
      clear hb AF_3 Ta_3 Tb_3 Sa_3 Sb_3
      obtain ⟨Tar0, Tar1, Tar2⟩ := Ta_4.out
      obtain ⟨Tbr0, Tbr1, Tbr2⟩ := Tb_4.out
      go_wp2
      go_ret
      exact ⟨rfl, AF_4.out⟩
  · rw [ga] at LOa
    clear ga hA hB hPa hPb
    go_enter Try.func5, Try.ntmps5
    obtain ⟨Tar0, Tar1, Tar2⟩ := Ta_0.out
    obtain ⟨Tbr0, Tbr1, Tbr2⟩ := Tb_0.out
    go_wp2_with fail
    clear Tar0 Tar1 Tar2 Tbr0 Tbr1 Tbr2
    generalize ((w.alloc (.cells #[.int .i64 Pa, .slice oa A.length ca] 24)).alloc (.cells #[.int .i64 Pb, .slice ob B.length cb] 24)) = w0 at *
    refine (AW.out _).mono ?_
    rintro e w1 ⟨rfl, hb⟩
    have AF_1 := Lib.hid (down AF_0.out hb)
    have Ta_1 := Lib.hid (Ta_0.out.keep hb)
    have Tb_1 := Lib.hid (Tb_0.out.keep hb)
    have Sa_1 := Lib.hid (Sa_0.out.keep hb)
    have Sb_1 := Lib.hid (Sb_0.out.keep hb)
    clear hb AF_0 Ta_0 Tb_0 Sa_0 Sb_0
    obtain ⟨Tar0, Tar1, Tar2⟩ := Ta_1.out
    obtain ⟨Tbr0, Tbr1, Tbr2⟩ := Tb_1.out
    go_wp2_with fail
    clear Tar0 Tar1 Tar2 Tbr0 Tbr1 Tbr2
    refine (LOa.out _).mono ?_
    rintro e w2 ⟨rfl, hb⟩
    have AF_2 := Lib.hid (down AF_1.out hb)
    have Ta_2 := Lib.hid (Ta_1.out.keep hb)
    have Tb_2 := Lib.hid (Tb_1.out.keep hb)
    have Sa_2 := Lib.hid (Sa_1.out.keep hb)
    have Sb_2 := Lib.hid (Sb_1.out.keep hb)
    clear hb AF_1 Ta_1 Tb_1 Sa_1 Sb_1
    obtain ⟨Tar0, Tar1, Tar2⟩ := Ta_2.out
    obtain ⟨Tbr0, Tbr1, Tbr2⟩ := Tb_2.out
    go_wp2_with fail
    clear Tar0 Tar1 Tar2 Tbr0 Tbr1 Tbr2
    refine (AW.out _).mono ?_
    rintro e w3 ⟨rfl, hb⟩
    have AF_3 := Lib.hid (down AF_2.out hb)
    have Ta_3 := Lib.hid (Ta_2.out.keep hb)
    have Tb_3 := Lib.hid (Tb_2.out.keep hb)
    have Sa_3 := Lib.hid (Sa_2.out.keep hb)
    have Sb_3 := Lib.hid (Sb_2.out.keep hb)
    clear hb AF_2 Ta_2 Tb_2 Sa_2 Sb_2
    obtain ⟨Tar0, Tar1, Tar2⟩ := Ta_3.out
    obtain ⟨Tbr0, Tbr1, Tbr2⟩ := Tb_3.out
    go_wp2
    go_ret
    exact ⟨rfl, AF_3.out⟩
end Go.Proofs.Ytaikeclfmmnelaa
