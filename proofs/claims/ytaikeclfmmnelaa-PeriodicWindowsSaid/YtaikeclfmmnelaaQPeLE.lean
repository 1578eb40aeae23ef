/- Law 13: PeriodicWindows. -/
import Derived.Test.YtaikeclfmmnelaaQPeHC
import Derived.Test.YtaikeclfmmnelaaQGI
import Derived.Test.YtaikeclfmmnelaaQPeKI
import Derived.Test.YtaikeclfmmnelaaQGF
import Derived.BigQuiet
import Derived.Deep.QuietTactic
import Derived.Deep.RegionWith
namespace Go.Proofs.Ytaikeclfmmnelaa
open Go.RowKit
set_option linter.unusedVariables false
set_option linter.unusedSimpArgs false

set_option maxRecDepth 100000 in
set_option maxHeartbeats 4000000 in
theorem plwindows (va : Value) (Pa : Int) (A : List Sp) (hA : A.length ≤ maxLen) (hPa : I64 Pa) (cpa : CapS va) (x y : Int) (hx : I64 x) (hy : I64 y) {ba : Nat} (w : World) (a : PairS ba w va A) :
    Calls Try.prog 8 #[.agg #[.int .i64 Pa, va], .agg #[.int .i64 x, .int .i64 y]] w fun e w' => e = .returned (.bool true) ∧ Below w.heap.size w w' := by
  have AW := Lib.hid (fun W => rpawake W)
  obtain ⟨oa, ca, rfl⟩ := prs_shape a
  have LOa := Lib.hid (fun W => rlong Pa oa A.length ca W)
  have AF_0 := Lib.hid (grow (grow (here w) (.cells #[.int .i64 Pa, .slice oa A.length ca] 24)) (.cells #[.int .i64 x, .int .i64 y] 37))
  have Ta_0 := Lib.hid (Two.fst (here ((w.alloc (.cells #[.int .i64 Pa, .slice oa A.length ca] 24)).alloc (.cells #[.int .i64 x, .int .i64 y] 37))))
  have Tx_0 := Lib.hid (Two.snd (here ((w.alloc (.cells #[.int .i64 Pa, .slice oa A.length ca] 24)).alloc (.cells #[.int .i64 x, .int .i64 y] 37))))
  have Sa_0 := Lib.hid (a.keep AF_0.out)
  clear a
  have CP := Lib.hid cpa
  cases ga : decide (40 < (A.length : Int))
  · rw [ga] at LOa
    have UW := Lib.hid (fun W (p : PairS ba W (.slice oa A.length ca) A) => by have h := upwindow _ Pa A hA hPa x y W p; exact h)
    have RW := Lib.hid (fun W (p : PairS ba W (.slice oa A.length ca) A) => by have h := rpwindow _ Pa A hA hPa x y hx hy W p; exact h)
    have UC := Lib.hid (fun W (p : PairS ba W (.slice oa A.length ca) A) => by have h := upcount _ Pa A hA hPa CP.out x y W p; exact h)
    have RV := Lib.hid (fun W (p : PairS ba W (.slice oa A.length ca) A) => by have h := rpvalid _ Pa A hA hPa W p; exact h)
    have RS := Lib.hid (fun W => rpspan x y W)
    have RC : pvB Pa A = true → spB (x, y) = true → Hid (∀ W, PairS ba W (.slice oa A.length ca) A → Calls Try.prog 38 #[.agg #[.int .i64 Pa, .slice oa A.length ca], .agg #[.int .i64 x, .int .i64 y]] W fun e w' => e = .returned (.int .i64 (blV Pa A y - blV Pa A x)) ∧ Below W.heap.size W w') := fun h s W p => rpcount _ Pa A (pv_iff.1 h) x y s W p
    have wl := wv_len Pa A x y
    obtain ⟨e0, e1⟩ := wv_er Pa A x y
    have EQ := Lib.hid (fun W b1 b2 v1 v2 (p : PairS b1 W v1 (wvR Pa A x y).1) (q : PairS b2 W v2 (wvR Pa A x y).1) => sl_eq v1 v2 _ wl W p q)
    have okf : pvB Pa A = true → spB (x, y) = true → (wvR Pa A x y).2 = 0 → Hid (vaB (wvR Pa A x y).1 = true ∧ msL (wvR Pa A x y).1 = blV Pa A y - blV Pa A x) := fun h s z => wv_ok h s z
    replace UW : Hid (∀ W, PairS ba W (.slice oa A.length ca) A → Calls Try.prog 34 #[.agg #[.int .i64 Pa, .slice oa A.length ca], .agg #[.int .i64 x, .int .i64 y]] W fun e w' => (∃ v', e = .returned (.tuple #[v', .int .i64 (wvR Pa A x y).2]) ∧ PairS W.heap.size w' v' (wvR Pa A x y).1) ∧ Below W.heap.size W w') := UW
    obtain ⟨r, hr⟩ : ∃ r, wvR Pa A x y = r := ⟨_, rfl⟩
    rw [hr] at UW RW EQ okf e0 e1 wl
    clear hr
    obtain ⟨L, E⟩ := r
    have wl' : L.length ≤ 2000 := wl
    have k1 : (E != E) = false := by rw [bne, beq_self_eq_true]; rfl
    cases p : pvB Pa A
    · rw [p] at UC RV
      rw [Bool.false_and, if_neg (by simp)] at UC
      clear RC okf p ga hA hx hy hPa CP cpa wl RS
      go_enter Try.func8, Try.ntmps8
      obtain ⟨Tar0, Tar1, Tar2⟩ := Ta_0.out
      obtain ⟨Txr0, Txr1, Txr2⟩ := Tx_0.out
      go_wp2_with fail
      clear Tar0 Tar1 Tar2 Txr0 Txr1 Txr2
      generalize ((w.alloc (.cells #[.int .i64 Pa, .slice oa A.length ca] 24)).alloc (.cells #[.int .i64 x, .int .i64 y] 37)) = w0 at *
      refine (AW.out _).mono ?_
      rintro e w1 ⟨rfl, hb⟩
      have AF_1 := Lib.hid (down AF_0.out hb)
      have Ta_1 := Lib.hid (Ta_0.out.keep hb)
      have Tx_1 := Lib.hid (Tx_0.out.keep hb)
      have Sa_1 := Lib.hid (Sa_0.out.keep hb)
      clear hb AF_0 Ta_0 Tx_0 Sa_0
      obtain ⟨Tar0, Tar1, Tar2⟩ := Ta_1.out
      obtain ⟨Txr0, Txr1, Txr2⟩ := Tx_1.out
      go_wp2_with fail
      clear Tar0 Tar1 Tar2 Txr0 Txr1 Txr2
      refine (LOa.out _).mono ?_
      rintro e w2 ⟨rfl, hb⟩
      have AF_2 := Lib.hid (down AF_1.out hb)
      have Ta_2 := Lib.hid (Ta_1.out.keep hb)
      have Tx_2 := Lib.hid (Tx_1.out.keep hb)
      have Sa_2 := Lib.hid (Sa_1.out.keep hb)
      clear hb AF_1 Ta_1 Tx_1 Sa_1
      obtain ⟨Tar0, Tar1, Tar2⟩ := Ta_2.out
      obtain ⟨Txr0, Txr1, Txr2⟩ := Tx_2.out
      go_wp2_with fail
      clear Tar0 Tar1 Tar2 Txr0 Txr1 Txr2
      refine (UW.out _ Sa_2.out).mono ?_
      rintro e w3 ⟨⟨v1, rfl, p⟩, hb⟩
      have AF_3 := Lib.hid (down AF_2.out hb)
      have Ta_3 := Lib.hid (Ta_2.out.keep hb)
      have Tx_3 := Lib.hid (Tx_2.out.keep hb)
      have Sa_3 := Lib.hid (Sa_2.out.keep hb)
      clear hb AF_2 Ta_2 Tx_2 Sa_2
      have S1_3 := Lib.hid p
      clear p
      obtain ⟨Tar0, Tar1, Tar2⟩ := Ta_3.out
      obtain ⟨Txr0, Txr1, Txr2⟩ := Tx_3.out
      go_wp2_with fail
      clear Tar0 Tar1 Tar2 Txr0 Txr1 Txr2
      refine (UC.out _ Sa_3.out).mono ?_
      rintro e w4 ⟨rfl, hb⟩
      have AF_4 := Lib.hid (down AF_3.out hb)
      have Ta_4 := Lib.hid (Ta_3.out.keep hb)
      have Tx_4 := Lib.hid (Tx_3.out.keep hb)
      have Sa_4 := Lib.hid (Sa_3.out.keep hb)
      have S1_4 := Lib.hid (S1_3.out.keep hb)
      clear hb AF_3 Ta_3 Tx_3 Sa_3 S1_3
      obtain ⟨Tar0, Tar1, Tar2⟩ := Ta_4.out
      obtain ⟨Txr0, Txr1, Txr2⟩ := Tx_4.out
      go_wp2_with fail
      clear Tar0 Tar1 Tar2 Txr0 Txr1 Txr2
      refine (RW.out _ Sa_4.out).mono ?_
      rintro e w5 ⟨⟨v2, rfl, p⟩, hb⟩
      have AF_5 := Lib.hid (down AF_4.out hb)
      have Ta_5 := Lib.hid (Ta_4.out.keep hb)
      have Tx_5 := Lib.hid (Tx_4.out.keep hb)
      have Sa_5 := Lib.hid (Sa_4.out.keep hb)
      have S1_5 := Lib.hid (S1_4.out.keep hb)
      clear hb AF_4 Ta_4 Tx_4 Sa_4 S1_4
      have S2_5 := Lib.hid p
      clear p
      obtain ⟨Tar0, Tar1, Tar2⟩ := Ta_5.out
      obtain ⟨Txr0, Txr1, Txr2⟩ := Tx_5.out
      go_wp2_with fail
      clear Tar0 Tar1 Tar2 Txr0 Txr1 Txr2
      refine (EQ.out _ _ _ _ _ S1_5.out S2_5.out).mono ?_
      rintro e w6 ⟨rfl, hb⟩
      have AF_6 := Lib.hid (down AF_5.out hb)
      have Ta_6 := Lib.hid (Ta_5.out.keep hb)
      have Tx_6 := Lib.hid (Tx_5.out.keep hb)
      have Sa_6 := Lib.hid (Sa_5.out.keep hb)
      have S1_6 := Lib.hid (S1_5.out.keep hb)
      have S2_6 := Lib.hid (S2_5.out.keep hb)
      clear hb AF_5 Ta_5 Tx_5 Sa_5 S1_5 S2_5
      obtain ⟨Tar0, Tar1, Tar2⟩ := Ta_6.out
      obtain ⟨Txr0, Txr1, Txr2⟩ := Tx_6.out
      go_wp2_with fail
      clear Tar0 Tar1 Tar2 Txr0 Txr1 Txr2
      refine (RV.out _ Sa_6.out).mono ?_
      rintro e w7 ⟨rfl, hb⟩
      have AF_7 := Lib.hid (down AF_6.out hb)
      have Ta_7 := Lib.hid (Ta_6.out.keep hb)
      have Tx_7 := Lib.hid (Tx_6.out.keep hb)
      have Sa_7 := Lib.hid (Sa_6.out.keep hb)
      have S1_7 := Lib.hid (S1_6.out.keep hb)
      have S2_7 := Lib.hid (S2_6.out.keep hb)
      clear hb AF_6 Ta_6 Tx_6 Sa_6 S1_6 S2_6
      obtain ⟨Tar0, Tar1, Tar2⟩ := Ta_7.out
      obtain ⟨Txr0, Txr1, Txr2⟩ := Tx_7.out
      go_wp2
      go_ret
      exact ⟨rfl, AF_7.out⟩
    · cases s : spB (x, y)
      · rw [p, s] at UC
        rw [p] at RV
        rw [Bool.true_and, if_neg (by simp)] at UC
        rw [s] at RS
        clear RC okf p s ga hA hx hy hPa CP cpa wl
        go_enter Try.func8, Try.ntmps8
        obtain ⟨Tar0, Tar1, Tar2⟩ := Ta_0.out
        obtain ⟨Txr0, Txr1, Txr2⟩ := Tx_0.out
        go_wp2_with fail
        clear Tar0 Tar1 Tar2 Txr0 Txr1 Txr2
        generalize ((w.alloc (.cells #[.int .i64 Pa, .slice oa A.length ca] 24)).alloc (.cells #[.int .i64 x, .int .i64 y] 37)) = w0 at *
        refine (AW.out _).mono ?_
        rintro e w1 ⟨rfl, hb⟩
        have AF_1 := Lib.hid (down AF_0.out hb)
        have Ta_1 := Lib.hid (Ta_0.out.keep hb)
        have Tx_1 := Lib.hid (Tx_0.out.keep hb)
        have Sa_1 := Lib.hid (Sa_0.out.keep hb)
        clear hb AF_0 Ta_0 Tx_0 Sa_0
        obtain ⟨Tar0, Tar1, Tar2⟩ := Ta_1.out
        obtain ⟨Txr0, Txr1, Txr2⟩ := Tx_1.out
        go_wp2_with fail
        clear Tar0 Tar1 Tar2 Txr0 Txr1 Txr2
        refine (LOa.out _).mono ?_
        rintro e w2 ⟨rfl, hb⟩
        have AF_2 := Lib.hid (down AF_1.out hb)
        have Ta_2 := Lib.hid (Ta_1.out.keep hb)
        have Tx_2 := Lib.hid (Tx_1.out.keep hb)
        have Sa_2 := Lib.hid (Sa_1.out.keep hb)
        clear hb AF_1 Ta_1 Tx_1 Sa_1
        obtain ⟨Tar0, Tar1, Tar2⟩ := Ta_2.out
        obtain ⟨Txr0, Txr1, Txr2⟩ := Tx_2.out
        go_wp2_with fail
        clear Tar0 Tar1 Tar2 Txr0 Txr1 Txr2
        refine (UW.out _ Sa_2.out).mono ?_
        rintro e w3 ⟨⟨v1, rfl, p⟩, hb⟩
        have AF_3 := Lib.hid (down AF_2.out hb)
        have Ta_3 := Lib.hid (Ta_2.out.keep hb)
        have Tx_3 := Lib.hid (Tx_2.out.keep hb)
        have Sa_3 := Lib.hid (Sa_2.out.keep hb)
        clear hb AF_2 Ta_2 Tx_2 Sa_2
        have S1_3 := Lib.hid p
        clear p
        obtain ⟨Tar0, Tar1, Tar2⟩ := Ta_3.out
        obtain ⟨Txr0, Txr1, Txr2⟩ := Tx_3.out
        go_wp2_with fail
        clear Tar0 Tar1 Tar2 Txr0 Txr1 Txr2
        refine (UC.out _ Sa_3.out).mono ?_
        rintro e w4 ⟨rfl, hb⟩
        have AF_4 := Lib.hid (down AF_3.out hb)
        have Ta_4 := Lib.hid (Ta_3.out.keep hb)
        have Tx_4 := Lib.hid (Tx_3.out.keep hb)
        have Sa_4 := Lib.hid (Sa_3.out.keep hb)
        have S1_4 := Lib.hid (S1_3.out.keep hb)
        clear hb AF_3 Ta_3 Tx_3 Sa_3 S1_3
        obtain ⟨Tar0, Tar1, Tar2⟩ := Ta_4.out
        obtain ⟨Txr0, Txr1, Txr2⟩ := Tx_4.out
        go_wp2_with fail
        clear Tar0 Tar1 Tar2 Txr0 Txr1 Txr2
        refine (RW.out _ Sa_4.out).mono ?_
        rintro e w5 ⟨⟨v2, rfl, p⟩, hb⟩
        have AF_5 := Lib.hid (down AF_4.out hb)
        have Ta_5 := Lib.hid (Ta_4.out.keep hb)
        have Tx_5 := Lib.hid (Tx_4.out.keep hb)
        have Sa_5 := Lib.hid (Sa_4.out.keep hb)
        have S1_5 := Lib.hid (S1_4.out.keep hb)
        clear hb AF_4 Ta_4 Tx_4 Sa_4 S1_4
        have S2_5 := Lib.hid p
        clear p
        obtain ⟨Tar0, Tar1, Tar2⟩ := Ta_5.out
        obtain ⟨Txr0, Txr1, Txr2⟩ := Tx_5.out
        go_wp2_with fail
        clear Tar0 Tar1 Tar2 Txr0 Txr1 Txr2
        refine (EQ.out _ _ _ _ _ S1_5.out S2_5.out).mono ?_
        rintro e w6 ⟨rfl, hb⟩
        have AF_6 := Lib.hid (down AF_5.out hb)
        have Ta_6 := Lib.hid (Ta_5.out.keep hb)
        have Tx_6 := Lib.hid (Tx_5.out.keep hb)
        have Sa_6 := Lib.hid (Sa_5.out.keep hb)
        have S1_6 := Lib.hid (S1_5.out.keep hb)
        have S2_6 := Lib.hid (S2_5.out.keep hb)
        clear hb AF_5 Ta_5 Tx_5 Sa_5 S1_5 S2_5
        obtain ⟨Tar0, Tar1, Tar2⟩ := Ta_6.out
        obtain ⟨Txr0, Txr1, Txr2⟩ := Tx_6.out
        go_wp2_with fail
        clear Tar0 Tar1 Tar2 Txr0 Txr1 Txr2
        refine (RV.out _ Sa_6.out).mono ?_
        rintro e w7 ⟨rfl, hb⟩
        have AF_7 := Lib.hid (down AF_6.out hb)
        have Ta_7 := Lib.hid (Ta_6.out.keep hb)
        have Tx_7 := Lib.hid (Tx_6.out.keep hb)
        have Sa_7 := Lib.hid (Sa_6.out.keep hb)
        have S1_7 := Lib.hid (S1_6.out.keep hb)
        have S2_7 := Lib.hid (S2_6.out.keep hb)
        clear hb AF_6 Ta_6 Tx_6 Sa_6 S1_6 S2_6
        obtain ⟨Tar0, Tar1, Tar2⟩ := Ta_7.out
        obtain ⟨Txr0, Txr1, Txr2⟩ := Tx_7.out
        go_wp2_with fail
        clear Tar0 Tar1 Tar2 Txr0 Txr1 Txr2
        refine (RS.out _).mono ?_
        rintro e w8 ⟨rfl, hb⟩
        have AF_8 := Lib.hid (down AF_7.out hb)
        have Ta_8 := Lib.hid (Ta_7.out.keep hb)
        have Tx_8 := Lib.hid (Tx_7.out.keep hb)
        have Sa_8 := Lib.hid (Sa_7.out.keep hb)
        have S1_8 := Lib.hid (S1_7.out.keep hb)
        have S2_8 := Lib.hid (S2_7.out.keep hb)
        clear hb AF_7 Ta_7 Tx_7 Sa_7 S1_7 S2_7
        obtain ⟨Tar0, Tar1, Tar2⟩ := Ta_8.out
        obtain ⟨Txr0, Txr1, Txr2⟩ := Tx_8.out
        go_wp2
        go_ret
        exact ⟨rfl, AF_8.out⟩
      · replace RC := RC p s
        rw [p, s] at UC
        rw [p] at RV
        rw [Bool.true_and, if_pos rfl] at UC
        rw [s] at RS
        obtain ⟨d, hd⟩ : ∃ d, blV Pa A y - blV Pa A x = d := ⟨_, rfl⟩
        rw [hd] at UC RC okf
        have kd : (d == d) = true := beq_self_eq_true d
        by_cases ez : E = 0
        · obtain ⟨va', ms⟩ := (okf p s ez).out
          have va' : vaB L = true := va'
          have ms : msL L = d := ms
          have MS := Lib.hid (fun W b v (p : PairS b W v L) => by have h := rumeasure v L (le_mx (by omega)) W p; rw [va', if_pos rfl, ms] at h; exact h)
          have LV := Lib.hid (fun W b v (p : PairS b W v L) => by have h := ruvalid v L (le_mx (by omega)) W p; rw [va'] at h; exact h)
          subst ez
          clear p s ga hA hx hy hPa CP cpa wl okf va' ms hd
          go_enter Try.func8, Try.ntmps8
          obtain ⟨Tar0, Tar1, Tar2⟩ := Ta_0.out
          obtain ⟨Txr0, Txr1, Txr2⟩ := Tx_0.out
          go_wp2_with fail
          clear Tar0 Tar1 Tar2 Txr0 Txr1 Txr2
          generalize ((w.alloc (.cells #[.int .i64 Pa, .slice oa A.length ca] 24)).alloc (.cells #[.int .i64 x, .int .i64 y] 37)) = w0 at *
          refine (AW.out _).mono ?_
          rintro e w1 ⟨rfl, hb⟩
          have AF_1 := Lib.hid (down AF_0.out hb)
          have Ta_1 := Lib.hid (Ta_0.out.keep hb)
          have Tx_1 := Lib.hid (Tx_0.out.keep hb)
          have Sa_1 := Lib.hid (Sa_0.out.keep hb)
          clear hb AF_0 Ta_0 Tx_0 Sa_0
          obtain ⟨Tar0, Tar1, Tar2⟩ := Ta_1.out
          obtain ⟨Txr0, Txr1, Txr2⟩ := Tx_1.out
          go_wp2_with fail
          clear Tar0 Tar1 Tar2 Txr0 Txr1 Txr2
          refine (LOa.out _).mono ?_
          rintro e w2 ⟨rfl, hb⟩
          have AF_2 := Lib.hid (down AF_1.out hb)
          have Ta_2 := Lib.hid (Ta_1.out.keep hb)
          have Tx_2 := Lib.hid (Tx_1.out.keep hb)
          have Sa_2 := Lib.hid (Sa_1.out.keep hb)
          clear hb AF_1 Ta_1 Tx_1 Sa_1
          obtain ⟨Tar0, Tar1, Tar2⟩ := Ta_2.out
          obtain ⟨Txr0, Txr1, Txr2⟩ := Tx_2.out
          go_wp2_with fail
          clear Tar0 Tar1 Tar2 Txr0 Txr1 Txr2
          refine (UW.out _ Sa_2.out).mono ?_
          rintro e w3 ⟨⟨v1, rfl, p⟩, hb⟩
          have AF_3 := Lib.hid (down AF_2.out hb)
          have Ta_3 := Lib.hid (Ta_2.out.keep hb)
          have Tx_3 := Lib.hid (Tx_2.out.keep hb)
          have Sa_3 := Lib.hid (Sa_2.out.keep hb)
          clear hb AF_2 Ta_2 Tx_2 Sa_2
          have S1_3 := Lib.hid p
          clear p
          obtain ⟨Tar0, Tar1, Tar2⟩ := Ta_3.out
          obtain ⟨Txr0, Txr1, Txr2⟩ := Tx_3.out
          go_wp2_with fail
          clear Tar0 Tar1 Tar2 Txr0 Txr1 Txr2
          refine (UC.out _ Sa_3.out).mono ?_
          rintro e w4 ⟨rfl, hb⟩
          have AF_4 := Lib.hid (down AF_3.out hb)
          have Ta_4 := Lib.hid (Ta_3.out.keep hb)
          have Tx_4 := Lib.hid (Tx_3.out.keep hb)
          have Sa_4 := Lib.hid (Sa_3.out.keep hb)
          have S1_4 := Lib.hid (S1_3.out.keep hb)
          clear hb AF_3 Ta_3 Tx_3 Sa_3 S1_3
          obtain ⟨Tar0, Tar1, Tar2⟩ := Ta_4.out
          obtain ⟨Txr0, Txr1, Txr2⟩ := Tx_4.out
          go_wp2_with fail
          clear Tar0 Tar1 Tar2 Txr0 Txr1 Txr2
          refine (RW.out _ Sa_4.out).mono ?_
          rintro e w5 ⟨⟨v2, rfl, p⟩, hb⟩
          have AF_5 := Lib.hid (down AF_4.out hb)
          have Ta_5 := Lib.hid (Ta_4.out.keep hb)
          have Tx_5 := Lib.hid (Tx_4.out.keep hb)
          have Sa_5 := Lib.hid (Sa_4.out.keep hb)
          have S1_5 := Lib.hid (S1_4.out.keep hb)
          clear hb AF_4 Ta_4 Tx_4 Sa_4 S1_4
          have S2_5 := Lib.hid p
          clear p
          obtain ⟨Tar0, Tar1, Tar2⟩ := Ta_5.out
          obtain ⟨Txr0, Txr1, Txr2⟩ := Tx_5.out
          go_wp2_with fail
          clear Tar0 Tar1 Tar2 Txr0 Txr1 Txr2
          refine (EQ.out _ _ _ _ _ S1_5.out S2_5.out).mono ?_
          rintro e w6 ⟨rfl, hb⟩
          have AF_6 := Lib.hid (down AF_5.out hb)
          have Ta_6 := Lib.hid (Ta_5.out.keep hb)
          have Tx_6 := Lib.hid (Tx_5.out.keep hb)
          have Sa_6 := Lib.hid (Sa_5.out.keep hb)
          have S1_6 := Lib.hid (S1_5.out.keep hb)
          have S2_6 := Lib.hid (S2_5.out.keep hb)
          clear hb AF_5 Ta_5 Tx_5 Sa_5 S1_5 S2_5
          obtain ⟨Tar0, Tar1, Tar2⟩ := Ta_6.out
          obtain ⟨Txr0, Txr1, Txr2⟩ := Tx_6.out
          go_wp2_with fail
          clear Tar0 Tar1 Tar2 Txr0 Txr1 Txr2
          refine (RV.out _ Sa_6.out).mono ?_
          rintro e w7 ⟨rfl, hb⟩
          have AF_7 := Lib.hid (down AF_6.out hb)
          have Ta_7 := Lib.hid (Ta_6.out.keep hb)
          have Tx_7 := Lib.hid (Tx_6.out.keep hb)
          have Sa_7 := Lib.hid (Sa_6.out.keep hb)
          have S1_7 := Lib.hid (S1_6.out.keep hb)
          have S2_7 := Lib.hid (S2_6.out.keep hb)
          clear hb AF_6 Ta_6 Tx_6 Sa_6 S1_6 S2_6
          obtain ⟨Tar0, Tar1, Tar2⟩ := Ta_7.out
          obtain ⟨Txr0, Txr1, Txr2⟩ := Tx_7.out
          go_wp2_with fail
          clear Tar0 Tar1 Tar2 Txr0 Txr1 Txr2
          refine (RS.out _).mono ?_
          rintro e w8 ⟨rfl, hb⟩
          have AF_8 := Lib.hid (down AF_7.out hb)
          have Ta_8 := Lib.hid (Ta_7.out.keep hb)
          have Tx_8 := Lib.hid (Tx_7.out.keep hb)
          have Sa_8 := Lib.hid (Sa_7.out.keep hb)
          have S1_8 := Lib.hid (S1_7.out.keep hb)
          have S2_8 := Lib.hid (S2_7.out.keep hb)
          clear hb AF_7 Ta_7 Tx_7 Sa_7 S1_7 S2_7
          obtain ⟨Tar0, Tar1, Tar2⟩ := Ta_8.out
          obtain ⟨Txr0, Txr1, Txr2⟩ := Tx_8.out
          go_wp2_with fail
          clear Tar0 Tar1 Tar2 Txr0 Txr1 Txr2
          refine (RC.out _ Sa_8.out).mono ?_
          rintro e w9 ⟨rfl, hb⟩
          have AF_9 := Lib.hid (down AF_8.out hb)
          have Ta_9 := Lib.hid (Ta_8.out.keep hb)
          have Tx_9 := Lib.hid (Tx_8.out.keep hb)
          have Sa_9 := Lib.hid (Sa_8.out.keep hb)
          have S1_9 := Lib.hid (S1_8.out.keep hb)
          have S2_9 := Lib.hid (S2_8.out.keep hb)
          clear hb AF_8 Ta_8 Tx_8 Sa_8 S1_8 S2_8
          obtain ⟨Tar0, Tar1, Tar2⟩ := Ta_9.out
          obtain ⟨Txr0, Txr1, Txr2⟩ := Tx_9.out
          go_wp2_with fail
          clear Tar0 Tar1 Tar2 Txr0 Txr1 Txr2
          refine (MS.out _ _ _ S1_9.out).mono ?_
          rintro e w10 ⟨rfl, hb⟩
          have AF_10 := Lib.hid (down AF_9.out hb)
          have Ta_10 := Lib.hid (Ta_9.out.keep hb)
          have Tx_10 := Lib.hid (Tx_9.out.keep hb)
          have Sa_10 := Lib.hid (Sa_9.out.keep hb)
          have S1_10 := Lib.hid (S1_9.out.keep hb)
          have S2_10 := Lib.hid (S2_9.out.keep hb)
          clear hb AF_9 Ta_9 Tx_9 Sa_9 S1_9 S2_9
          obtain ⟨Tar0, Tar1, Tar2⟩ := Ta_10.out
          obtain ⟨Txr0, Txr1, Txr2⟩ := Tx_10.out
          go_wp2_with fail
          clear Tar0 Tar1 Tar2 Txr0 Txr1 Txr2
          refine (LV.out _ _ _ S1_10.out).mono ?_
          rintro e w11 ⟨rfl, hb⟩
          have AF_11 := Lib.hid (down AF_10.out hb)
          have Ta_11 := Lib.hid (Ta_10.out.keep hb)
          have Tx_11 := Lib.hid (Tx_10.out.keep hb)
          have Sa_11 := Lib.hid (Sa_10.out.keep hb)
          have S1_11 := Lib.hid (S1_10.out.keep hb)
          have S2_11 := Lib.hid (S2_10.out.keep hb)
          clear hb AF_10 Ta_10 Tx_10 Sa_10 S1_10 S2_10
          obtain ⟨Tar0, Tar1, Tar2⟩ := Ta_11.out
          obtain ⟨Txr0, Txr1, Txr2⟩ := Tx_11.out
          go_wp2
          go_ret
          exact ⟨rfl, AF_11.out⟩
        · have k2 : (E != 0) = true := by rw [bne_iff_ne]; exact ez
          clear p s ga hA hx hy hPa CP cpa wl okf hd
          go_enter Try.func8, Try.ntmps8
          obtain ⟨Tar0, Tar1, Tar2⟩ := Ta_0.out
          obtain ⟨Txr0, Txr1, Txr2⟩ := Tx_0.out
          go_wp2_with fail
          clear Tar0 Tar1 Tar2 Txr0 Txr1 Txr2
          generalize ((w.alloc (.cells #[.int .i64 Pa, .slice oa A.length ca] 24)).alloc (.cells #[.int .i64 x, .int .i64 y] 37)) = w0 at *
          refine (AW.out _).mono ?_
          rintro e w1 ⟨rfl, hb⟩
          have AF_1 := Lib.hid (down AF_0.out hb)
          have Ta_1 := Lib.hid (Ta_0.out.keep hb)
          have Tx_1 := Lib.hid (Tx_0.out.keep hb)
          have Sa_1 := Lib.hid (Sa_0.out.keep hb)
          clear hb AF_0 Ta_0 Tx_0 Sa_0
          obtain ⟨Tar0, Tar1, Tar2⟩ := Ta_1.out
          obtain ⟨Txr0, Txr1, Txr2⟩ := Tx_1.out
          go_wp2_with fail
          clear Tar0 Tar1 Tar2 Txr0 Txr1 Txr2
          refine (LOa.out _).mono ?_
          rintro e w2 ⟨rfl, hb⟩
          have AF_2 := Lib.hid (down AF_1.out hb)
          have Ta_2 := Lib.hid (Ta_1.out.keep hb)
          have Tx_2 := Lib.hid (Tx_1.out.keep hb)
          have Sa_2 := Lib.hid (Sa_1.out.keep hb)
          clear hb AF_1 Ta_1 Tx_1 Sa_1
          obtain ⟨Tar0, Tar1, Tar2⟩ := Ta_2.out
          obtain ⟨Txr0, Txr1, Txr2⟩ := Tx_2.out
          go_wp2_with fail
          clear Tar0 Tar1 Tar2 Txr0 Txr1 Txr2
          refine (UW.out _ Sa_2.out).mono ?_
          rintro e w3 ⟨⟨v1, rfl, p⟩, hb⟩
          have AF_3 := Lib.hid (down AF_2.out hb)
          have Ta_3 := Lib.hid (Ta_2.out.keep hb)
          have Tx_3 := Lib.hid (Tx_2.out.keep hb)
          have Sa_3 := Lib.hid (Sa_2.out.keep hb)
          clear hb AF_2 Ta_2 Tx_2 Sa_2
          have S1_3 := Lib.hid p
          clear p
          obtain ⟨Tar0, Tar1, Tar2⟩ := Ta_3.out
          obtain ⟨Txr0, Txr1, Txr2⟩ := Tx_3.out
          go_wp2_with fail
          clear Tar0 Tar1 Tar2 Txr0 Txr1 Txr2
          refine (UC.out _ Sa_3.out).mono ?_
          rintro e w4 ⟨rfl, hb⟩
          have AF_4 := Lib.hid (down AF_3.out hb)
          have Ta_4 := Lib.hid (Ta_3.out.keep hb)
          have Tx_4 := Lib.hid (Tx_3.out.keep hb)
          have Sa_4 := Lib.hid (Sa_3.out.keep hb)
          have S1_4 := Lib.hid (S1_3.out.keep hb)
          clear hb AF_3 Ta_3 Tx_3 Sa_3 S1_3
          obtain ⟨Tar0, Tar1, Tar2⟩ := Ta_4.out
          obtain ⟨Txr0, Txr1, Txr2⟩ := Tx_4.out
          go_wp2_with fail
          clear Tar0 Tar1 Tar2 Txr0 Txr1 Txr2
          refine (RW.out _ Sa_4.out).mono ?_
          rintro e w5 ⟨⟨v2, rfl, p⟩, hb⟩
          have AF_5 := Lib.hid (down AF_4.out hb)
          have Ta_5 := Lib.hid (Ta_4.out.keep hb)
          have Tx_5 := Lib.hid (Tx_4.out.keep hb)
          have Sa_5 := Lib.hid (Sa_4.out.keep hb)
          have S1_5 := Lib.hid (S1_4.out.keep hb)
          clear hb AF_4 Ta_4 Tx_4 Sa_4 S1_4
          have S2_5 := Lib.hid p
          clear p
          obtain ⟨Tar0, Tar1, Tar2⟩ := Ta_5.out
          obtain ⟨Txr0, Txr1, Txr2⟩ := Tx_5.out
          go_wp2_with fail
          clear Tar0 Tar1 Tar2 Txr0 Txr1 Txr2
          refine (EQ.out _ _ _ _ _ S1_5.out S2_5.out).mono ?_
          rintro e w6 ⟨rfl, hb⟩
          have AF_6 := Lib.hid (down AF_5.out hb)
          have Ta_6 := Lib.hid (Ta_5.out.keep hb)
          have Tx_6 := Lib.hid (Tx_5.out.keep hb)
          have Sa_6 := Lib.hid (Sa_5.out.keep hb)
          have S1_6 := Lib.hid (S1_5.out.keep hb)
          have S2_6 := Lib.hid (S2_5.out.keep hb)
          clear hb AF_5 Ta_5 Tx_5 Sa_5 S1_5 S2_5
          obtain ⟨Tar0, Tar1, Tar2⟩ := Ta_6.out
          obtain ⟨Txr0, Txr1, Txr2⟩ := Tx_6.out
          go_wp2_with fail
          clear Tar0 Tar1 Tar2 Txr0 Txr1 Txr2
          refine (RV.out _ Sa_6.out).mono ?_
          rintro e w7 ⟨rfl, hb⟩
          have AF_7 := Lib.hid (down AF_6.out hb)
          have Ta_7 := Lib.hid (Ta_6.out.keep hb)
          have Tx_7 := Lib.hid (Tx_6.out.keep hb)
          have Sa_7 := Lib.hid (Sa_6.out.keep hb)
          have S1_7 := Lib.hid (S1_6.out.keep hb)
          have S2_7 := Lib.hid (S2_6.out.keep hb)
          clear hb AF_6 Ta_6 Tx_6 Sa_6 S1_6 S2_6
          obtain ⟨Tar0, Tar1, Tar2⟩ := Ta_7.out
          obtain ⟨Txr0, Txr1, Txr2⟩ := Tx_7.out
          go_wp2_with fail
          clear Tar0 Tar1 Tar2 Txr0 Txr1 Txr2
          refine (RS.out _).mono ?_
          rintro e w8 ⟨rfl, hb⟩
          have AF_8 := Lib.hid (down AF_7.out hb)
          have Ta_8 := Lib.hid (Ta_7.out.keep hb)
          have Tx_8 := Lib.hid (Tx_7.out.keep hb)
          have Sa_8 := Lib.hid (Sa_7.out.keep hb)
          have S1_8 := Lib.hid (S1_7.out.keep hb)
          have S2_8 := Lib.hid (S2_7.out.keep hb)
          clear hb AF_7 Ta_7 Tx_7 Sa_7 S1_7 S2_7
          obtain ⟨Tar0, Tar1, Tar2⟩ := Ta_8.out
          obtain ⟨Txr0, Txr1, Txr2⟩ := Tx_8.out
          go_wp2_with fail
          clear Tar0 Tar1 Tar2 Txr0 Txr1 Txr2
          refine (RC.out _ Sa_8.out).mono ?_
          rintro e w9 ⟨rfl, hb⟩
          have AF_9 := Lib.hid (down AF_8.out hb)
          have Ta_9 := Lib.hid (Ta_8.out.keep hb)
          have Tx_9 := Lib.hid (Tx_8.out.keep hb)
          have Sa_9 := Lib.hid (Sa_8.out.keep hb)
          have S1_9 := Lib.hid (S1_8.out.keep hb)
          have S2_9 := Lib.hid (S2_8.out.keep hb)
          clear hb AF_8 Ta_8 Tx_8 Sa_8 S1_8 S2_8
          obtain ⟨Tar0, Tar1, Tar2⟩ := Ta_9.out
          obtain ⟨Txr0, Txr1, Txr2⟩ := Tx_9.out
          go_wp2
          go_ret
          exact ⟨rfl, AF_9.out⟩
  · rw [ga] at LOa
    clear ga hA hx hy hPa CP cpa
    go_enter Try.func8, Try.ntmps8
    obtain ⟨Tar0, Tar1, Tar2⟩ := Ta_0.out
    obtain ⟨Txr0, Txr1, Txr2⟩ := Tx_0.out
    go_wp2_with fail
    clear Tar0 Tar1 Tar2 Txr0 Txr1 Txr2
    generalize ((w.alloc (.cells #[.int .i64 Pa, .slice oa A.length ca] 24)).alloc (.cells #[.int .i64 x, .int .i64 y] 37)) = w0 at *
    refine (AW.out _).mono ?_
    rintro e w1 ⟨rfl, hb⟩
    have AF_1 := Lib.hid (down AF_0.out hb)
    have Ta_1 := Lib.hid (Ta_0.out.keep hb)
    have Tx_1 := Lib.hid (Tx_0.out.keep hb)
    have Sa_1 := Lib.hid (Sa_0.out.keep hb)
    clear hb AF_0 Ta_0 Tx_0 Sa_0
    obtain ⟨Tar0, Tar1, Tar2⟩ := Ta_1.out
    obtain ⟨Txr0, Txr1, Txr2⟩ := Tx_1.out
    go_wp2_with fail
    clear Tar0 Tar1 Tar2 Txr0 Txr1 Txr2
    refine (LOa.out _).mono ?_
    rintro e w2 ⟨rfl, hb⟩
    have AF_2 := Lib.hid (down AF_1.out hb)
    have Ta_2 := Lib.hid (Ta_1.out.keep hb)
    have Tx_2 := Lib.hid (Tx_1.out.keep hb)
    have Sa_2 := Lib.hid (Sa_1.out.keep hb)
    clear hb AF_1 Ta_1 Tx_1 Sa_1
    obtain ⟨Tar0, Tar1, Tar2⟩ := Ta_2.out
    obtain ⟨Txr0, Txr1, Txr2⟩ := Tx_2.out
    go_wp2_with fail
    clear Tar0 Tar1 Tar2 Txr0 Txr1 Txr2
    refine (AW.out _).mono ?_
    rintro e w3 ⟨rfl, hb⟩
    have AF_3 := Lib.hid (down AF_2.out hb)
    have Ta_3 := Lib.hid (Ta_2.out.keep hb)
    have Tx_3 := Lib.hid (Tx_2.out.keep hb)
    have Sa_3 := Lib.hid (Sa_2.out.keep hb)
    clear hb AF_2 Ta_2 Tx_2 Sa_2
    obtain ⟨Tar0, Tar1, Tar2⟩ := Ta_3.out
    obtain ⟨Txr0, Txr1, Txr2⟩ := Tx_3.out
    go_wp2
    go_ret
    exact ⟨rfl, AF_3.out⟩
end Go.Proofs.Ytaikeclfmmnelaa
