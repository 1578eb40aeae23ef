/- Law 13: PeriodicPoints. -/
import Derived.Test.YtaikeclfmmnelaaQPeHC
import Derived.Test.YtaikeclfmmnelaaQGI
import Derived.Test.YtaikeclfmmnelaaQPeLK
import Derived.Test.YtaikeclfmmnelaaQPeKK
import Derived.Test.YtaikeclfmmnelaaQGH
import Derived.Test.YtaikeclfmmnelaaQGF
import Derived.Test.YtaikeclfmmnelaaQPeB
import Derived.StillTailTactics
import Derived.Deep.Cut
import Derived.Deep.CutRange
import Derived.BigQuiet
import Derived.Deep.QuietTactic
import Derived.Deep.RegionWith
namespace Go.Proofs.Ytaikeclfmmnelaa
open Go.RowKit
set_option linter.unusedVariables false
set_option linter.unusedSimpArgs false

theorem kp1 (p q : Bool) : kpB 1 p q = (p || q) := by unfold kpB; simp
theorem kp2 (p q : Bool) : kpB 2 p q = (p && q) := by unfold kpB; simp
theorem kp3 (p q : Bool) : kpB 3 p q = (p && !q) := by unfold kpB; simp
theorem has_co {k P : Int} {A : List Sp} {Q : Int} {B : List Sp} (k1 : 1 ≤ k) (k3 : k ≤ 3) (h : (coR k P A Q B).2 = 0) (v : Value) (y : Int) (hy : I64 y) {b : Nat} (W : World) (p : PairS b W v (coR k P A Q B).1.2) :
    Calls Try.prog 16 #[.agg #[.int .i64 (coR k P A Q B).1.1, v], .int .i64 y] W fun e w' => e = .returned (.bool (kpB k (hsP P A y) (hsP Q B y))) ∧ Below W.heap.size W w' := by
  obtain ⟨-, -, pv, f⟩ := co_ok k1 k3 h
  have l := pv.len
  have r := uphas v _ _ (le_mx (by omega)) (co_i64 k1 k3 h) y hy W p
  rw [pv_iff.2 pv, f, Bool.true_and] at r
  exact r
theorem has_no {P : Int} {A : List Sp} (h : pvB P A = true) (l : A.length ≤ 40) (v : Value) (y : Int) (hy : I64 y) {b : Nat} (W : World) (p : PairS b W v (noR P A).1.2) :
    Calls Try.prog 16 #[.agg #[.int .i64 (noR P A).1.1, v], .int .i64 y] W fun e w' => e = .returned (.bool (!hsP P A y)) ∧ Below W.heap.size W w' := by
  obtain ⟨-, pv, f⟩ := no_fine h l
  have l' := pv.len
  have r := uphas v _ _ (le_mx (by omega)) (no_i64 h l) y hy W p
  rw [pv_iff.2 pv, f, Bool.true_and] at r
  exact r
theorem has_mv {P : Int} {A : List Sp} {n : Int} (h : pvB P A = true) (vn : nvB n = true) (l : A.length ≤ 40) (v : Value) (y : Int) (hy : I64 (y + n)) {b : Nat} (W : World) (p : PairS b W v (mvR P A n).1.2) :
    Calls Try.prog 16 #[.agg #[.int .i64 (mvR P A n).1.1, v], .int .i64 (y + n)] W fun e w' => e = .returned (.bool (hsP P A y)) ∧ Below W.heap.size W w' := by
  obtain ⟨-, pv, f⟩ := mv_fine h vn l
  have l' := pv.len
  have r := uphas v _ _ (le_mx (by omega)) (mv_i64 h vn l) (y + n) hy W p
  rw [pv_iff.2 pv, f, Bool.true_and, show y + n - n = y by omega] at r
  exact r
set_option maxRecDepth 100000 in
set_option maxHeartbeats 16000000 in
theorem plpoints (va : Value) (Pa : Int) (A : List Sp) (hA : A.length ≤ maxLen) (hPa : I64 Pa) (vb : Value) (Pb : Int) (B : List Sp) (hB : B.length ≤ maxLen) (hPb : I64 Pb) (n : Int) (hn : I64 n) (x : Int) (hx : I64 x) {ba bb : Nat} (w : World) (a : PairS ba w va A) (b : PairS bb w vb B) :
    Calls Try.prog 6 #[.agg #[.int .i64 Pa, va], .agg #[.int .i64 Pb, vb], .int .i64 n, .int .i64 x] w fun e w' => e = .returned (.bool true) ∧ Below w.heap.size w w' := by
  have AW := Lib.hid (fun W => rpawake W)
  obtain ⟨oa, ca, rfl⟩ := prs_shape a
  have LOa := Lib.hid (fun W => rlong Pa oa A.length ca W)
  obtain ⟨ob, cb, rfl⟩ := prs_shape b
  have LOb := Lib.hid (fun W => rlong Pb ob B.length cb W)
  have AF_0 := Lib.hid (grow (grow (here w) (.cells #[.int .i64 Pa, .slice oa A.length ca] 24)) (.cells #[.int .i64 Pb, .slice ob B.length cb] 24))
  have Ta_0 := Lib.hid (Two.fst (here ((w.alloc (.cells #[.int .i64 Pa, .slice oa A.length ca] 24)).alloc (.cells #[.int .i64 Pb, .slice ob B.length cb] 24))))
  have Tb_0 := Lib.hid (Two.snd (here ((w.alloc (.cells #[.int .i64 Pa, .slice oa A.length ca] 24)).alloc (.cells #[.int .i64 Pb, .slice ob B.length cb] 24))))
  have Sa_0 := Lib.hid (a.keep AF_0.out)
  have Sb_0 := Lib.hid (b.keep AF_0.out)
  clear a b
  cases ga : decide (40 < (A.length : Int))
  · rw [ga] at LOa
    have la : Hid (A.length ≤ 40) := by have := of_decide_eq_false ga; show _ ≤ _; omega
    cases gb : decide (40 < (B.length : Int))
    · rw [gb] at LOb
      have lb : Hid (B.length ≤ 40) := by have := of_decide_eq_false gb; show _ ≤ _; omega
      have UVa := Lib.hid (fun W (p : PairS ba W (.slice oa A.length ca) A) => by have h := upvalid _ Pa A hA hPa W p; exact h)
      have UVb := Lib.hid (fun W (p : PairS bb W (.slice ob B.length cb) B) => by have h := upvalid _ Pb B hB hPb W p; exact h)
      have LN := Lib.hid (fun W => rline n W)
      have LX := Lib.hid (fun W => rline x W)
      cases p : pvB Pa A
      · rw [p] at UVa
        clear p ga gb hA hB hPa hPb hn hx
        go_enter Try.func6, Try.ntmps6
        obtain ⟨Tar0, Tar1, Tar2⟩ := Ta_0.out
        obtain ⟨Tbr0, Tbr1, Tbr2⟩ := Tb_0.out
        go_wp2_with fail
        clear Tar0 Tar1 Tar2 Tbr0 Tbr1 Tbr2
        generalize ((w.alloc (.cells #[.int .i64 Pa, .slice oa A.length ca] 24)).alloc (.cells #[.int .i64 Pb, .slice ob B.length cb] 24)) = w0 at *
        refine (AW.out _).mono ?_
        rintro e w1 ⟨rfl, hb⟩
        have AF_1 := Lib.hid (down AF_0.out hb)
        have Ta_1 := Lib.hid (Ta_0.out.keep hb)
        have Tb_1 := Lib.hid (Tb_0.out.keep hb)
        have Sa_1 := Lib.hid (Sa_0.out.keep hb)
        have Sb_1 := Lib.hid (Sb_0.out.keep hb)
        clear hb AF_0 Ta_0 Tb_0 Sa_0 Sb_0
        obtain ⟨Tar0, Tar1, Tar2⟩ := Ta_1.out
        obtain ⟨Tbr0, Tbr1, Tbr2⟩ := Tb_1.out
        go_wp2_with fail
        clear Tar0 Tar1 Tar2 Tbr0 Tbr1 Tbr2
        refine (LOa.out _).mono ?_
        rintro e w2 ⟨rfl, hb⟩
        have AF_2 := Lib.hid (down AF_1.out hb)
        have Ta_2 := Lib.hid (Ta_1.out.keep hb)
        have Tb_2 := Lib.hid (Tb_1.out.keep hb)
        have Sa_2 := Lib.hid (Sa_1.out.keep hb)
        have Sb_2 := Lib.hid (Sb_1.out.keep hb)
        clear hb AF_1 Ta_1 Tb_1 Sa_1 Sb_1
        obtain ⟨Tar0, Tar1, Tar2⟩ := Ta_2.out
        obtain ⟨Tbr0, Tbr1, Tbr2⟩ := Tb_2.out
        go_wp2_with fail
        clear Tar0 Tar1 Tar2 Tbr0 Tbr1 Tbr2
        refine (LOb.out _).mono ?_
        rintro e w3 ⟨rfl, hb⟩
        have AF_3 := Lib.hid (down AF_2.out hb)
        have Ta_3 := Lib.hid (Ta_2.out.keep hb)
        have Tb_3 := Lib.hid (Tb_2.out.keep hb)
        have Sa_3 := Lib.hid (Sa_2.out.keep hb)
        have Sb_3 := Lib.hid (Sb_2.out.keep hb)
        clear hb AF_2 Ta_2 Tb_2 Sa_2 Sb_2
        obtain ⟨Tar0, Tar1, Tar2⟩ := Ta_3.out
        obtain ⟨Tbr0, Tbr1, Tbr2⟩ := Tb_3.out
        go_wp2_with fail
        clear Tar0 Tar1 Tar2 Tbr0 Tbr1 Tbr2
        refine (UVa.out _ Sa_3.out).mono ?_
        rintro e w4 ⟨rfl, hb⟩
        have AF_4 := Lib.hid (down AF_3.out hb)
        have Ta_4 := Lib.hid (Ta_3.out.keep hb)
        have Tb_4 := Lib.hid (Tb_3.out.keep hb)
        have Sa_4 := Lib.hid (Sa_3.out.keep hb)
        have Sb_4 := Lib.hid (Sb_3.out.keep hb)
        clear hb AF_3 Ta_3 Tb_3 Sa_3 Sb_3
        obtain ⟨Tar0, Tar1, Tar2⟩ := Ta_4.out
        obtain ⟨Tbr0, Tbr1, Tbr2⟩ := Tb_4.out
        go_wp2_with fail
        clear Tar0 Tar1 Tar2 Tbr0 Tbr1 Tbr2
        refine (AW.out _).mono ?_
        rintro e w5 ⟨rfl, hb⟩
        have AF_5 := Lib.hid (down AF_4.out hb)
        have Ta_5 := Lib.hid (Ta_4.out.keep hb)
        have Tb_5 := Lib.hid (Tb_4.out.keep hb)
        have Sa_5 := Lib.hid (Sa_4.out.keep hb)
        have Sb_5 := Lib.hid (Sb_4.out.keep hb)
        clear hb AF_4 Ta_4 Tb_4 Sa_4 Sb_4
        obtain ⟨Tar0, Tar1, Tar2⟩ := Ta_5.out
        obtain ⟨Tbr0, Tbr1, Tbr2⟩ := Tb_5.out
        go_wp2
        go_ret
        exact ⟨rfl, AF_5.out⟩
      · cases q : pvB Pb B
        · rw [p] at UVa
          rw [q] at UVb
          clear p q ga gb hA hB hPa hPb hn hx
          go_enter Try.func6, Try.ntmps6
          obtain ⟨Tar0, Tar1, Tar2⟩ := Ta_0.out
          obtain ⟨Tbr0, Tbr1, Tbr2⟩ := Tb_0.out
          go_wp2_with fail
          clear Tar0 Tar1 Tar2 Tbr0 Tbr1 Tbr2
          generalize ((w.alloc (.cells #[.int .i64 Pa, .slice oa A.length ca] 24)).alloc (.cells #[.int .i64 Pb, .slice ob B.length cb] 24)) = w0 at *
          refine (AW.out _).mono ?_
          rintro e w1 ⟨rfl, hb⟩
          have AF_1 := Lib.hid (down AF_0.out hb)
          have Ta_1 := Lib.hid (Ta_0.out.keep hb)
          have Tb_1 := Lib.hid (Tb_0.out.keep hb)
          have Sa_1 := Lib.hid (Sa_0.out.keep hb)
          have Sb_1 := Lib.hid (Sb_0.out.keep hb)
          clear hb AF_0 Ta_0 Tb_0 Sa_0 Sb_0
          obtain ⟨Tar0, Tar1, Tar2⟩ := Ta_1.out
          obtain ⟨Tbr0, Tbr1, Tbr2⟩ := Tb_1.out
          go_wp2_with fail
          clear Tar0 Tar1 Tar2 Tbr0 Tbr1 Tbr2
          refine (LOa.out _).mono ?_
          rintro e w2 ⟨rfl, hb⟩
          have AF_2 := Lib.hid (down AF_1.out hb)
          have Ta_2 := Lib.hid (Ta_1.out.keep hb)
          have Tb_2 := Lib.hid (Tb_1.out.keep hb)
          have Sa_2 := Lib.hid (Sa_1.out.keep hb)
          have Sb_2 := Lib.hid (Sb_1.out.keep hb)
          clear hb AF_1 Ta_1 Tb_1 Sa_1 Sb_1
          obtain ⟨Tar0, Tar1, Tar2⟩ := Ta_2.out
          obtain ⟨Tbr0, Tbr1, Tbr2⟩ := Tb_2.out
          go_wp2_with fail
          clear Tar0 Tar1 Tar2 Tbr0 Tbr1 Tbr2
          refine (LOb.out _).mono ?_
          rintro e w3 ⟨rfl, hb⟩
          have AF_3 := Lib.hid (down AF_2.out hb)
          have Ta_3 := Lib.hid (Ta_2.out.keep hb)
          have Tb_3 := Lib.hid (Tb_2.out.keep hb)
          have Sa_3 := Lib.hid (Sa_2.out.keep hb)
          have Sb_3 := Lib.hid (Sb_2.out.keep hb)
          clear hb AF_2 Ta_2 Tb_2 Sa_2 Sb_2
          obtain ⟨Tar0, Tar1, Tar2⟩ := Ta_3.out
          obtain ⟨Tbr0, Tbr1, Tbr2⟩ := Tb_3.out
          go_wp2_with fail
          clear Tar0 Tar1 Tar2 Tbr0 Tbr1 Tbr2
          refine (UVa.out _ Sa_3.out).mono ?_
          rintro e w4 ⟨rfl, hb⟩
          have AF_4 := Lib.hid (down AF_3.out hb)
          have Ta_4 := Lib.hid (Ta_3.out.keep hb)
          have Tb_4 := Lib.hid (Tb_3.out.keep hb)
          have Sa_4 := Lib.hid (Sa_3.out.keep hb)
          have Sb_4 := Lib.hid (Sb_3.out.keep hb)
          clear hb AF_3 Ta_3 Tb_3 Sa_3 Sb_3
          obtain ⟨Tar0, Tar1, Tar2⟩ := Ta_4.out
          obtain ⟨Tbr0, Tbr1, Tbr2⟩ := Tb_4.out
          go_wp2_with fail
          clear Tar0 Tar1 Tar2 Tbr0 Tbr1 Tbr2
          refine (UVb.out _ Sb_4.out).mono ?_
          rintro e w5 ⟨rfl, hb⟩
          have AF_5 := Lib.hid (down AF_4.out hb)
          have Ta_5 := Lib.hid (Ta_4.out.keep hb)
          have Tb_5 := Lib.hid (Tb_4.out.keep hb)
          have Sa_5 := Lib.hid (Sa_4.out.keep hb)
          have Sb_5 := Lib.hid (Sb_4.out.keep hb)
          clear hb AF_4 Ta_4 Tb_4 Sa_4 Sb_4
          obtain ⟨Tar0, Tar1, Tar2⟩ := Ta_5.out
          obtain ⟨Tbr0, Tbr1, Tbr2⟩ := Tb_5.out
          go_wp2_with fail
          clear Tar0 Tar1 Tar2 Tbr0 Tbr1 Tbr2
          refine (AW.out _).mono ?_
          rintro e w6 ⟨rfl, hb⟩
          have AF_6 := Lib.hid (down AF_5.out hb)
          have Ta_6 := Lib.hid (Ta_5.out.keep hb)
          have Tb_6 := Lib.hid (Tb_5.out.keep hb)
          have Sa_6 := Lib.hid (Sa_5.out.keep hb)
          have Sb_6 := Lib.hid (Sb_5.out.keep hb)
          clear hb AF_5 Ta_5 Tb_5 Sa_5 Sb_5
          obtain ⟨Tar0, Tar1, Tar2⟩ := Ta_6.out
          obtain ⟨Tbr0, Tbr1, Tbr2⟩ := Tb_6.out
          go_wp2
          go_ret
          exact ⟨rfl, AF_6.out⟩
        · cases vn : nvB n
          · rw [p] at UVa
            rw [q] at UVb
            rw [vn] at LN
            clear p q ga gb hA hB hPa hPb hn hx vn
            go_enter Try.func6, Try.ntmps6
            obtain ⟨Tar0, Tar1, Tar2⟩ := Ta_0.out
            obtain ⟨Tbr0, Tbr1, Tbr2⟩ := Tb_0.out
            go_wp2_with fail
            clear Tar0 Tar1 Tar2 Tbr0 Tbr1 Tbr2
            generalize ((w.alloc (.cells #[.int .i64 Pa, .slice oa A.length ca] 24)).alloc (.cells #[.int .i64 Pb, .slice ob B.length cb] 24)) = w0 at *
            refine (AW.out _).mono ?_
            rintro e w1 ⟨rfl, hb⟩
            have AF_1 := Lib.hid (down AF_0.out hb)
            have Ta_1 := Lib.hid (Ta_0.out.keep hb)
            have Tb_1 := Lib.hid (Tb_0.out.keep hb)
            have Sa_1 := Lib.hid (Sa_0.out.keep hb)
            have Sb_1 := Lib.hid (Sb_0.out.keep hb)
            clear hb AF_0 Ta_0 Tb_0 Sa_0 Sb_0
            obtain ⟨Tar0, Tar1, Tar2⟩ := Ta_1.out
            obtain ⟨Tbr0, Tbr1, Tbr2⟩ := Tb_1.out
            go_wp2_with fail
            clear Tar0 Tar1 Tar2 Tbr0 Tbr1 Tbr2
            refine (LOa.out _).mono ?_
            rintro e w2 ⟨rfl, hb⟩
            have AF_2 := Lib.hid (down AF_1.out hb)
            have Ta_2 := Lib.hid (Ta_1.out.keep hb)
            have Tb_2 := Lib.hid (Tb_1.out.keep hb)
            have Sa_2 := Lib.hid (Sa_1.out.keep hb)
            have Sb_2 := Lib.hid (Sb_1.out.keep hb)
            clear hb AF_1 Ta_1 Tb_1 Sa_1 Sb_1
            obtain ⟨Tar0, Tar1, Tar2⟩ := Ta_2.out
            obtain ⟨Tbr0, Tbr1, Tbr2⟩ := Tb_2.out
            go_wp2_with fail
            clear Tar0 Tar1 Tar2 Tbr0 Tbr1 Tbr2
            refine (LOb.out _).mono ?_
            rintro e w3 ⟨rfl, hb⟩
            have AF_3 := Lib.hid (down AF_2.out hb)
            have Ta_3 := Lib.hid (Ta_2.out.keep hb)
            have Tb_3 := Lib.hid (Tb_2.out.keep hb)
            have Sa_3 := Lib.hid (Sa_2.out.keep hb)
            have Sb_3 := Lib.hid (Sb_2.out.keep hb)
            clear hb AF_2 Ta_2 Tb_2 Sa_2 Sb_2
            obtain ⟨Tar0, Tar1, Tar2⟩ := Ta_3.out
            obtain ⟨Tbr0, Tbr1, Tbr2⟩ := Tb_3.out
            go_wp2_with fail
            clear Tar0 Tar1 Tar2 Tbr0 Tbr1 Tbr2
            refine (UVa.out _ Sa_3.out).mono ?_
            rintro e w4 ⟨rfl, hb⟩
            have AF_4 := Lib.hid (down AF_3.out hb)
            have Ta_4 := Lib.hid (Ta_3.out.keep hb)
            have Tb_4 := Lib.hid (Tb_3.out.keep hb)
            have Sa_4 := Lib.hid (Sa_3.out.keep hb)
            have Sb_4 := Lib.hid (Sb_3.out.keep hb)
            clear hb AF_3 Ta_3 Tb_3 Sa_3 Sb_3
            obtain ⟨Tar0, Tar1, Tar2⟩ := Ta_4.out
            obtain ⟨Tbr0, Tbr1, Tbr2⟩ := Tb_4.out
            go_wp2_with fail
            clear Tar0 Tar1 Tar2 Tbr0 Tbr1 Tbr2
            refine (UVb.out _ Sb_4.out).mono ?_
            rintro e w5 ⟨rfl, hb⟩
            have AF_5 := Lib.hid (down AF_4.out hb)
            have Ta_5 := Lib.hid (Ta_4.out.keep hb)
            have Tb_5 := Lib.hid (Tb_4.out.keep hb)
            have Sa_5 := Lib.hid (Sa_4.out.keep hb)
            have Sb_5 := Lib.hid (Sb_4.out.keep hb)
            clear hb AF_4 Ta_4 Tb_4 Sa_4 Sb_4
            obtain ⟨Tar0, Tar1, Tar2⟩ := Ta_5.out
            obtain ⟨Tbr0, Tbr1, Tbr2⟩ := Tb_5.out
            go_wp2_with fail
            clear Tar0 Tar1 Tar2 Tbr0 Tbr1 Tbr2
            refine (LN.out _).mono ?_
            rintro e w6 ⟨rfl, hb⟩
            have AF_6 := Lib.hid (down AF_5.out hb)
            have Ta_6 := Lib.hid (Ta_5.out.keep hb)
            have Tb_6 := Lib.hid (Tb_5.out.keep hb)
            have Sa_6 := Lib.hid (Sa_5.out.keep hb)
            have Sb_6 := Lib.hid (Sb_5.out.keep hb)
            clear hb AF_5 Ta_5 Tb_5 Sa_5 Sb_5
            obtain ⟨Tar0, Tar1, Tar2⟩ := Ta_6.out
            obtain ⟨Tbr0, Tbr1, Tbr2⟩ := Tb_6.out
            go_wp2_with fail
            clear Tar0 Tar1 Tar2 Tbr0 Tbr1 Tbr2
            refine (AW.out _).mono ?_
            rintro e w7 ⟨rfl, hb⟩
            have AF_7 := Lib.hid (down AF_6.out hb)
            have Ta_7 := Lib.hid (Ta_6.out.keep hb)
            have Tb_7 := Lib.hid (Tb_6.out.keep hb)
            have Sa_7 := Lib.hid (Sa_6.out.keep hb)
            have Sb_7 := Lib.hid (Sb_6.out.keep hb)
            clear hb AF_6 Ta_6 Tb_6 Sa_6 Sb_6
            obtain ⟨Tar0, Tar1, Tar2⟩ := Ta_7.out
            obtain ⟨Tbr0, Tbr1, Tbr2⟩ := Tb_7.out
            go_wp2
            go_ret
            exact ⟨rfl, AF_7.out⟩
          · cases vx : nvB x
            · rw [p] at UVa
              rw [q] at UVb
              rw [vn] at LN
              rw [vx] at LX
              clear p q ga gb hA hB hPa hPb hn hx vn vx
              go_enter Try.func6, Try.ntmps6
              obtain ⟨Tar0, Tar1, Tar2⟩ := Ta_0.out
              obtain ⟨Tbr0, Tbr1, Tbr2⟩ := Tb_0.out
              go_wp2_with fail
              clear Tar0 Tar1 Tar2 Tbr0 Tbr1 Tbr2
              generalize ((w.alloc (.cells #[.int .i64 Pa, .slice oa A.length ca] 24)).alloc (.cells #[.int .i64 Pb, .slice ob B.length cb] 24)) = w0 at *
              refine (AW.out _).mono ?_
              rintro e w1 ⟨rfl, hb⟩
              have AF_1 := Lib.hid (down AF_0.out hb)
              have Ta_1 := Lib.hid (Ta_0.out.keep hb)
              have Tb_1 := Lib.hid (Tb_0.out.keep hb)
              have Sa_1 := Lib.hid (Sa_0.out.keep hb)
              have Sb_1 := Lib.hid (Sb_0.out.keep hb)
              clear hb AF_0 Ta_0 Tb_0 Sa_0 Sb_0
              obtain ⟨Tar0, Tar1, Tar2⟩ := Ta_1.out
              obtain ⟨Tbr0, Tbr1, Tbr2⟩ := Tb_1.out
              go_wp2_with fail
              clear Tar0 Tar1 Tar2 Tbr0 Tbr1 Tbr2
              refine (LOa.out _).mono ?_
              rintro e w2 ⟨rfl, hb⟩
              have AF_2 := Lib.hid (down AF_1.out hb)
              have Ta_2 := Lib.hid (Ta_1.out.keep hb)
              have Tb_2 := Lib.hid (Tb_1.out.keep hb)
              have Sa_2 := Lib.hid (Sa_1.out.keep hb)
              have Sb_2 := Lib.hid (Sb_1.out.keep hb)
              clear hb AF_1 Ta_1 Tb_1 Sa_1 Sb_1
              obtain ⟨Tar0, Tar1, Tar2⟩ := Ta_2.out
              obtain ⟨Tbr0, Tbr1, Tbr2⟩ := Tb_2.out
              go_wp2_with fail
              clear Tar0 Tar1 Tar2 Tbr0 Tbr1 Tbr2
              refine (LOb.out _).mono ?_
              rintro e w3 ⟨rfl, hb⟩
              have AF_3 := Lib.hid (down AF_2.out hb)
              have Ta_3 := Lib.hid (Ta_2.out.keep hb)
              have Tb_3 := Lib.hid (Tb_2.out.keep hb)
              have Sa_3 := Lib.hid (Sa_2.out.keep hb)
              have Sb_3 := Lib.hid (Sb_2.out.keep hb)
              clear hb AF_2 Ta_2 Tb_2 Sa_2 Sb_2
              obtain ⟨Tar0, Tar1, Tar2⟩ := Ta_3.out
              obtain ⟨Tbr0, Tbr1, Tbr2⟩ := Tb_3.out
              go_wp2_with fail
              clear Tar0 Tar1 Tar2 Tbr0 Tbr1 Tbr2
              refine (UVa.out _ Sa_3.out).mono ?_
              rintro e w4 ⟨rfl, hb⟩
              have AF_4 := Lib.hid (down AF_3.out hb)
              have Ta_4 := Lib.hid (Ta_3.out.keep hb)
              have Tb_4 := Lib.hid (Tb_3.out.keep hb)
              have Sa_4 := Lib.hid (Sa_3.out.keep hb)
              have Sb_4 := Lib.hid (Sb_3.out.keep hb)
              clear hb AF_3 Ta_3 Tb_3 Sa_3 Sb_3
              obtain ⟨Tar0, Tar1, Tar2⟩ := Ta_4.out
              obtain ⟨Tbr0, Tbr1, Tbr2⟩ := Tb_4.out
              go_wp2_with fail
              clear Tar0 Tar1 Tar2 Tbr0 Tbr1 Tbr2
              refine (UVb.out _ Sb_4.out).mono ?_
              rintro e w5 ⟨rfl, hb⟩
              have AF_5 := Lib.hid (down AF_4.out hb)
              have Ta_5 := Lib.hid (Ta_4.out.keep hb)
              have Tb_5 := Lib.hid (Tb_4.out.keep hb)
              have Sa_5 := Lib.hid (Sa_4.out.keep hb)
              have Sb_5 := Lib.hid (Sb_4.out.keep hb)
              clear hb AF_4 Ta_4 Tb_4 Sa_4 Sb_4
              obtain ⟨Tar0, Tar1, Tar2⟩ := Ta_5.out
              obtain ⟨Tbr0, Tbr1, Tbr2⟩ := Tb_5.out
              go_wp2_with fail
              clear Tar0 Tar1 Tar2 Tbr0 Tbr1 Tbr2
              refine (LN.out _).mono ?_
              rintro e w6 ⟨rfl, hb⟩
              have AF_6 := Lib.hid (down AF_5.out hb)
              have Ta_6 := Lib.hid (Ta_5.out.keep hb)
              have Tb_6 := Lib.hid (Tb_5.out.keep hb)
              have Sa_6 := Lib.hid (Sa_5.out.keep hb)
              have Sb_6 := Lib.hid (Sb_5.out.keep hb)
              clear hb AF_5 Ta_5 Tb_5 Sa_5 Sb_5
              obtain ⟨Tar0, Tar1, Tar2⟩ := Ta_6.out
              obtain ⟨Tbr0, Tbr1, Tbr2⟩ := Tb_6.out
              go_wp2_with fail
              clear Tar0 Tar1 Tar2 Tbr0 Tbr1 Tbr2
              refine (LX.out _).mono ?_
              rintro e w7 ⟨rfl, hb⟩
              have AF_7 := Lib.hid (down AF_6.out hb)
              have Ta_7 := Lib.hid (Ta_6.out.keep hb)
              have Tb_7 := Lib.hid (Tb_6.out.keep hb)
              have Sa_7 := Lib.hid (Sa_6.out.keep hb)
              have Sb_7 := Lib.hid (Sb_6.out.keep hb)
              clear hb AF_6 Ta_6 Tb_6 Sa_6 Sb_6
              obtain ⟨Tar0, Tar1, Tar2⟩ := Ta_7.out
              obtain ⟨Tbr0, Tbr1, Tbr2⟩ := Tb_7.out
              go_wp2_with fail
              clear Tar0 Tar1 Tar2 Tbr0 Tbr1 Tbr2
              refine (AW.out _).mono ?_
              rintro e w8 ⟨rfl, hb⟩
              have AF_8 := Lib.hid (down AF_7.out hb)
              have Ta_8 := Lib.hid (Ta_7.out.keep hb)
              have Tb_8 := Lib.hid (Tb_7.out.keep hb)
              have Sa_8 := Lib.hid (Sa_7.out.keep hb)
              have Sb_8 := Lib.hid (Sb_7.out.keep hb)
              clear hb AF_7 Ta_7 Tb_7 Sa_7 Sb_7
              obtain ⟨Tar0, Tar1, Tar2⟩ := Ta_8.out
              obtain ⟨Tbr0, Tbr1, Tbr2⟩ := Tb_8.out
              go_wp2
              go_ret
              exact ⟨rfl, AF_8.out⟩
            · have FX : Hid (∀ y, I64 y → ∀ t, y + n = t → I64 t → ∃ p q : Bool, Hid (∀ W, PairS ba W (.slice oa A.length ca) A → Calls Try.prog 16 #[.agg #[.int .i64 Pa, .slice oa A.length ca], .int .i64 y] W fun e w' => e = .returned (.bool (p)) ∧ Below W.heap.size W w') ∧ Hid (∀ W, PairS bb W (.slice ob B.length cb) B → Calls Try.prog 16 #[.agg #[.int .i64 Pb, .slice ob B.length cb], .int .i64 y] W fun e w' => e = .returned (.bool (q)) ∧ Below W.heap.size W w') ∧
                  Hid ((coR 1 Pa A Pb B).2 = 0 → (∀ W b v, PairS b W v (coR 1 Pa A Pb B).1.2 → Calls Try.prog 16 #[.agg #[.int .i64 (coR 1 Pa A Pb B).1.1, v], .int .i64 y] W fun e w' => e = .returned (.bool (p || q)) ∧ Below W.heap.size W w')) ∧ Hid ((coR 2 Pa A Pb B).2 = 0 → (∀ W b v, PairS b W v (coR 2 Pa A Pb B).1.2 → Calls Try.prog 16 #[.agg #[.int .i64 (coR 2 Pa A Pb B).1.1, v], .int .i64 y] W fun e w' => e = .returned (.bool (p && q)) ∧ Below W.heap.size W w')) ∧ Hid ((coR 3 Pa A Pb B).2 = 0 → (∀ W b v, PairS b W v (coR 3 Pa A Pb B).1.2 → Calls Try.prog 16 #[.agg #[.int .i64 (coR 3 Pa A Pb B).1.1, v], .int .i64 y] W fun e w' => e = .returned (.bool (p && !q)) ∧ Below W.heap.size W w')) ∧
                  Hid (∀ W b v, PairS b W v (noR Pa A).1.2 → Calls Try.prog 16 #[.agg #[.int .i64 (noR Pa A).1.1, v], .int .i64 y] W fun e w' => e = .returned (.bool (!p)) ∧ Below W.heap.size W w') ∧ Hid (∀ W b v, PairS b W v (mvR Pa A n).1.2 → Calls Try.prog 16 #[.agg #[.int .i64 (mvR Pa A n).1.1, v], .int .i64 t] W fun e w' => e = .returned (.bool (p)) ∧ Below W.heap.size W w')) := fun y hy t ht htI => by
                refine ⟨hsP Pa A y, hsP Pb B y, fun W h => ?_, fun W h => ?_, fun e W b v h => ?_, fun e W b v h => ?_, fun e W b v h => ?_, fun W b v h => has_no p la.out v y hy W h, fun W b v h => ?_⟩
                · have r := uphas _ Pa A hA hPa y hy W h
                  rw [p, Bool.true_and] at r; exact r
                · have r := uphas _ Pb B hB hPb y hy W h
                  rw [q, Bool.true_and] at r; exact r
                · have r := has_co (by omega) (by omega) e v y hy W h
                  rw [kp1] at r; exact r
                · have r := has_co (by omega) (by omega) e v y hy W h
                  rw [kp2] at r; exact r
                · have r := has_co (by omega) (by omega) e v y hy W h
                  rw [kp3] at r; exact r
                · subst ht
                  exact has_mv p vn la.out v y htI W h
              obtain ⟨x0, x1⟩ := nv_bd vx
              obtain ⟨n0, n1⟩ := nv_bd vn
              replace x0 := Lib.hid x0
              replace x1 := Lib.hid x1
              replace n0 := Lib.hid n0
              replace n1 := Lib.hid n1
              have pva := Lib.hid (pv_iff.1 p)
              have pvb := Lib.hid (pv_iff.1 q)
              have U1 := Lib.hid (fun W (p : PairS ba W (.slice oa A.length ca) A) (q : PairS bb W (.slice ob B.length cb) B) => by have h := upunion _ _ Pa Pb A B hA hB hPa hPb W p q; exact h)
              have U2 := Lib.hid (fun W (p : PairS ba W (.slice oa A.length ca) A) (q : PairS bb W (.slice ob B.length cb) B) => by have h := upmeet _ _ Pa Pb A B hA hB hPa hPb W p q; exact h)
              have U3 := Lib.hid (fun W (p : PairS ba W (.slice oa A.length ca) A) (q : PairS bb W (.slice ob B.length cb) B) => by have h := upminus _ _ Pa Pb A B hA hB hPa hPb W p q; exact h)
              have NO := Lib.hid (fun W (h : PairS ba W (.slice oa A.length ca) A) => by have r := upnot _ Pa A hA hPa W h; rw [(no_fine p la.out).1] at r; exact r)
              have MV := Lib.hid (fun W (h : PairS ba W (.slice oa A.length ca) A) => by have r := upmove _ Pa A hA hPa n hn W h; rw [(mv_fine p vn la.out).1] at r; exact r)
              rw [p] at UVa
              rw [q] at UVb
              rw [vn] at LN
              rw [vx] at LX
              obtain ⟨e10, e11⟩ := co_er 1 Pa A Pb B
              generalize coR 1 Pa A Pb B = r1 at *
              obtain ⟨⟨D1, L1⟩, E1⟩ := r1
              obtain ⟨e20, e21⟩ := co_er 2 Pa A Pb B
              generalize coR 2 Pa A Pb B = r2 at *
              obtain ⟨⟨D2, L2⟩, E2⟩ := r2
              obtain ⟨e30, e31⟩ := co_er 3 Pa A Pb B
              generalize coR 3 Pa A Pb B = r3 at *
              obtain ⟨⟨D3, L3⟩, E3⟩ := r3
              generalize noR Pa A = r4 at *
              obtain ⟨⟨D4, L4⟩, E4⟩ := r4
              generalize mvR Pa A n = r5 at *
              obtain ⟨⟨D5, L5⟩, E5⟩ := r5
              clear p q ga gb hA hB hPa hPb hn hx vn vx
              go_enter Try.func6, Try.ntmps6
              obtain ⟨Tar0, Tar1, Tar2⟩ := Ta_0.out
              obtain ⟨Tbr0, Tbr1, Tbr2⟩ := Tb_0.out
              go_wp2_with fail
              clear Tar0 Tar1 Tar2 Tbr0 Tbr1 Tbr2
              generalize ((w.alloc (.cells #[.int .i64 Pa, .slice oa A.length ca] 24)).alloc (.cells #[.int .i64 Pb, .slice ob B.length cb] 24)) = w0 at *
              refine (AW.out _).mono ?_
              rintro e w1 ⟨rfl, hb⟩
              have AF_1 := Lib.hid (down AF_0.out hb)
              have Ta_1 := Lib.hid (Ta_0.out.keep hb)
              have Tb_1 := Lib.hid (Tb_0.out.keep hb)
              have Sa_1 := Lib.hid (Sa_0.out.keep hb)
              have Sb_1 := Lib.hid (Sb_0.out.keep hb)
              clear hb AF_0 Ta_0 Tb_0 Sa_0 Sb_0
              obtain ⟨Tar0, Tar1, Tar2⟩ := Ta_1.out
              obtain ⟨Tbr0, Tbr1, Tbr2⟩ := Tb_1.out
              go_wp2_with fail
              clear Tar0 Tar1 Tar2 Tbr0 Tbr1 Tbr2
              refine (LOa.out _).mono ?_
              rintro e w2 ⟨rfl, hb⟩
              have AF_2 := Lib.hid (down AF_1.out hb)
              have Ta_2 := Lib.hid (Ta_1.out.keep hb)
              have Tb_2 := Lib.hid (Tb_1.out.keep hb)
              have Sa_2 := Lib.hid (Sa_1.out.keep hb)
              have Sb_2 := Lib.hid (Sb_1.out.keep hb)
              clear hb AF_1 Ta_1 Tb_1 Sa_1 Sb_1
              obtain ⟨Tar0, Tar1, Tar2⟩ := Ta_2.out
              obtain ⟨Tbr0, Tbr1, Tbr2⟩ := Tb_2.out
              go_wp2_with fail
              clear Tar0 Tar1 Tar2 Tbr0 Tbr1 Tbr2
              refine (LOb.out _).mono ?_
              rintro e w3 ⟨rfl, hb⟩
              have AF_3 := Lib.hid (down AF_2.out hb)
              have Ta_3 := Lib.hid (Ta_2.out.keep hb)
              have Tb_3 := Lib.hid (Tb_2.out.keep hb)
              have Sa_3 := Lib.hid (Sa_2.out.keep hb)
              have Sb_3 := Lib.hid (Sb_2.out.keep hb)
              clear hb AF_2 Ta_2 Tb_2 Sa_2 Sb_2
              obtain ⟨Tar0, Tar1, Tar2⟩ := Ta_3.out
              obtain ⟨Tbr0, Tbr1, Tbr2⟩ := Tb_3.out
              go_wp2_with fail
              clear Tar0 Tar1 Tar2 Tbr0 Tbr1 Tbr2
              refine (UVa.out _ Sa_3.out).mono ?_
              rintro e w4 ⟨rfl, hb⟩
              have AF_4 := Lib.hid (down AF_3.out hb)
              have Ta_4 := Lib.hid (Ta_3.out.keep hb)
              have Tb_4 := Lib.hid (Tb_3.out.keep hb)
              have Sa_4 := Lib.hid (Sa_3.out.keep hb)
              have Sb_4 := Lib.hid (Sb_3.out.keep hb)
              clear hb AF_3 Ta_3 Tb_3 Sa_3 Sb_3
              obtain ⟨Tar0, Tar1, Tar2⟩ := Ta_4.out
              obtain ⟨Tbr0, Tbr1, Tbr2⟩ := Tb_4.out
              go_wp2_with fail
              clear Tar0 Tar1 Tar2 Tbr0 Tbr1 Tbr2
              refine (UVb.out _ Sb_4.out).mono ?_
              rintro e w5 ⟨rfl, hb⟩
              have AF_5 := Lib.hid (down AF_4.out hb)
              have Ta_5 := Lib.hid (Ta_4.out.keep hb)
              have Tb_5 := Lib.hid (Tb_4.out.keep hb)
              have Sa_5 := Lib.hid (Sa_4.out.keep hb)
              have Sb_5 := Lib.hid (Sb_4.out.keep hb)
              clear hb AF_4 Ta_4 Tb_4 Sa_4 Sb_4
              obtain ⟨Tar0, Tar1, Tar2⟩ := Ta_5.out
              obtain ⟨Tbr0, Tbr1, Tbr2⟩ := Tb_5.out
              go_wp2_with fail
              clear Tar0 Tar1 Tar2 Tbr0 Tbr1 Tbr2
              refine (LN.out _).mono ?_
              rintro e w6 ⟨rfl, hb⟩
              have AF_6 := Lib.hid (down AF_5.out hb)
              have Ta_6 := Lib.hid (Ta_5.out.keep hb)
              have Tb_6 := Lib.hid (Tb_5.out.keep hb)
              have Sa_6 := Lib.hid (Sa_5.out.keep hb)
              have Sb_6 := Lib.hid (Sb_5.out.keep hb)
              clear hb AF_5 Ta_5 Tb_5 Sa_5 Sb_5
              obtain ⟨Tar0, Tar1, Tar2⟩ := Ta_6.out
              obtain ⟨Tbr0, Tbr1, Tbr2⟩ := Tb_6.out
              go_wp2_with fail
              clear Tar0 Tar1 Tar2 Tbr0 Tbr1 Tbr2
              refine (LX.out _).mono ?_
              rintro e w7 ⟨rfl, hb⟩
              have AF_7 := Lib.hid (down AF_6.out hb)
              have Ta_7 := Lib.hid (Ta_6.out.keep hb)
              have Tb_7 := Lib.hid (Tb_6.out.keep hb)
              have Sa_7 := Lib.hid (Sa_6.out.keep hb)
              have Sb_7 := Lib.hid (Sb_6.out.keep hb)
              clear hb AF_6 Ta_6 Tb_6 Sa_6 Sb_6
              obtain ⟨Tar0, Tar1, Tar2⟩ := Ta_7.out
              obtain ⟨Tbr0, Tbr1, Tbr2⟩ := Tb_7.out
              go_wp2_with fail
              clear Tar0 Tar1 Tar2 Tbr0 Tbr1 Tbr2
              refine (U1.out _ Sa_7.out Sb_7.out).mono ?_
              rintro e w8 ⟨⟨vu, rfl, p⟩, hb⟩
              obtain ⟨ou, cu, rfl⟩ := Sl.shape p
              have AF_8 := Lib.hid (down AF_7.out hb)
              have Ta_8 := Lib.hid (Ta_7.out.keep hb)
              have Tb_8 := Lib.hid (Tb_7.out.keep hb)
              have Sa_8 := Lib.hid (Sa_7.out.keep hb)
              have Sb_8 := Lib.hid (Sb_7.out.keep hb)
              clear hb AF_7 Ta_7 Tb_7 Sa_7 Sb_7
              have Su_8 := Lib.hid p
              clear p
              have gb := grow (here w8) (.cells #[.int .i64 D1, .slice ou L1.length cu] 24)
              have Tu_9 := Lib.hid (Two.new (t := 24) (x := .int .i64 D1) (y := .slice ou L1.length cu) (here (w8.alloc (.cells #[.int .i64 D1, .slice ou L1.length cu] 24))))
              have AF_9 := Lib.hid (down AF_8.out gb)
              have Ta_9 := Lib.hid (Ta_8.out.keep gb)
              have Tb_9 := Lib.hid (Tb_8.out.keep gb)
              have Sa_9 := Lib.hid (Sa_8.out.keep gb)
              have Sb_9 := Lib.hid (Sb_8.out.keep gb)
              have Su_9 := Lib.hid (Su_8.out.keep gb)
              clear gb AF_8 Ta_8 Tb_8 Sa_8 Sb_8 Su_8
              obtain ⟨Tar0, Tar1, Tar2⟩ := Ta_9.out
              obtain ⟨Tbr0, Tbr1, Tbr2⟩ := Tb_9.out
              obtain ⟨Tur0, Tur1, Tur2⟩ := Tu_9.out
              go_wp2_with fail
              clear Tar0 Tar1 Tar2 Tbr0 Tbr1 Tbr2 Tur0 Tur1 Tur2
              generalize (w8.alloc (.cells #[.int .i64 D1, .slice ou L1.length cu] 24)) = w9 at *
              refine (U2.out _ Sa_9.out Sb_9.out).mono ?_
              rintro e w10 ⟨⟨vm, rfl, p⟩, hb⟩
              obtain ⟨om, cm, rfl⟩ := Sl.shape p
              have AF_10 := Lib.hid (down AF_9.out hb)
              have Ta_10 := Lib.hid (Ta_9.out.keep hb)
              have Tb_10 := Lib.hid (Tb_9.out.keep hb)
              have Tu_10 := Lib.hid (Tu_9.out.keep hb)
              have Sa_10 := Lib.hid (Sa_9.out.keep hb)
              have Sb_10 := Lib.hid (Sb_9.out.keep hb)
              have Su_10 := Lib.hid (Su_9.out.keep hb)
              clear hb AF_9 Ta_9 Tb_9 Tu_9 Sa_9 Sb_9 Su_9
              have Sm_10 := Lib.hid p
              clear p
              have gb := grow (here w10) (.cells #[.int .i64 D2, .slice om L2.length cm] 24)
              have Tm_11 := Lib.hid (Two.new (t := 24) (x := .int .i64 D2) (y := .slice om L2.length cm) (here (w10.alloc (.cells #[.int .i64 D2, .slice om L2.length cm] 24))))
              have AF_11 := Lib.hid (down AF_10.out gb)
              have Ta_11 := Lib.hid (Ta_10.out.keep gb)
              have Tb_11 := Lib.hid (Tb_10.out.keep gb)
              have Tu_11 := Lib.hid (Tu_10.out.keep gb)
              have Sa_11 := Lib.hid (Sa_10.out.keep gb)
              have Sb_11 := Lib.hid (Sb_10.out.keep gb)
              have Su_11 := Lib.hid (Su_10.out.keep gb)
              have Sm_11 := Lib.hid (Sm_10.out.keep gb)
              clear gb AF_10 Ta_10 Tb_10 Tu_10 Sa_10 Sb_10 Su_10 Sm_10
              obtain ⟨Tar0, Tar1, Tar2⟩ := Ta_11.out
              obtain ⟨Tbr0, Tbr1, Tbr2⟩ := Tb_11.out
              obtain ⟨Tur0, Tur1, Tur2⟩ := Tu_11.out
              obtain ⟨Tmr0, Tmr1, Tmr2⟩ := Tm_11.out
              go_wp2_with fail
              clear Tar0 Tar1 Tar2 Tbr0 Tbr1 Tbr2 Tur0 Tur1 Tur2 Tmr0 Tmr1 Tmr2
              generalize (w10.alloc (.cells #[.int .i64 D2, .slice om L2.length cm] 24)) = w11 at *
              refine (U3.out _ Sa_11.out Sb_11.out).mono ?_
              rintro e w12 ⟨⟨vd, rfl, p⟩, hb⟩
              obtain ⟨od, cd, rfl⟩ := Sl.shape p
              have AF_12 := Lib.hid (down AF_11.out hb)
              have Ta_12 := Lib.hid (Ta_11.out.keep hb)
              have Tb_12 := Lib.hid (Tb_11.out.keep hb)
              have Tu_12 := Lib.hid (Tu_11.out.keep hb)
              have Tm_12 := Lib.hid (Tm_11.out.keep hb)
              have Sa_12 := Lib.hid (Sa_11.out.keep hb)
              have Sb_12 := Lib.hid (Sb_11.out.keep hb)
              have Su_12 := Lib.hid (Su_11.out.keep hb)
              have Sm_12 := Lib.hid (Sm_11.out.keep hb)
              clear hb AF_11 Ta_11 Tb_11 Tu_11 Tm_11 Sa_11 Sb_11 Su_11 Sm_11
              have Sd_12 := Lib.hid p
              clear p
              have gb := grow (here w12) (.cells #[.int .i64 D3, .slice od L3.length cd] 24)
              have Td_13 := Lib.hid (Two.new (t := 24) (x := .int .i64 D3) (y := .slice od L3.length cd) (here (w12.alloc (.cells #[.int .i64 D3, .slice od L3.length cd] 24))))
              have AF_13 := Lib.hid (down AF_12.out gb)
              have Ta_13 := Lib.hid (Ta_12.out.keep gb)
              have Tb_13 := Lib.hid (Tb_12.out.keep gb)
              have Tu_13 := Lib.hid (Tu_12.out.keep gb)
              have Tm_13 := Lib.hid (Tm_12.out.keep gb)
              have Sa_13 := Lib.hid (Sa_12.out.keep gb)
              have Sb_13 := Lib.hid (Sb_12.out.keep gb)
              have Su_13 := Lib.hid (Su_12.out.keep gb)
              have Sm_13 := Lib.hid (Sm_12.out.keep gb)
              have Sd_13 := Lib.hid (Sd_12.out.keep gb)
              clear gb AF_12 Ta_12 Tb_12 Tu_12 Tm_12 Sa_12 Sb_12 Su_12 Sm_12 Sd_12
              obtain ⟨Tar0, Tar1, Tar2⟩ := Ta_13.out
              obtain ⟨Tbr0, Tbr1, Tbr2⟩ := Tb_13.out
              obtain ⟨Tur0, Tur1, Tur2⟩ := Tu_13.out
              obtain ⟨Tmr0, Tmr1, Tmr2⟩ := Tm_13.out
              obtain ⟨Tdr0, Tdr1, Tdr2⟩ := Td_13.out
              go_wp2_with fail
              clear Tar0 Tar1 Tar2 Tbr0 Tbr1 Tbr2 Tur0 Tur1 Tur2 Tmr0 Tmr1 Tmr2 Tdr0 Tdr1 Tdr2
              generalize (w12.alloc (.cells #[.int .i64 D3, .slice od L3.length cd] 24)) = w13 at *
              refine (NO.out _ Sa_13.out).mono ?_
              rintro e w14 ⟨⟨vc, rfl, p, Cvc⟩, hb⟩
              obtain ⟨oc, cc, rfl⟩ := Sl.shape p
              replace Cvc := Lib.hid Cvc
              have AF_14 := Lib.hid (down AF_13.out hb)
              have Ta_14 := Lib.hid (Ta_13.out.keep hb)
              have Tb_14 := Lib.hid (Tb_13.out.keep hb)
              have Tu_14 := Lib.hid (Tu_13.out.keep hb)
              have Tm_14 := Lib.hid (Tm_13.out.keep hb)
              have Td_14 := Lib.hid (Td_13.out.keep hb)
              have Sa_14 := Lib.hid (Sa_13.out.keep hb)
              have Sb_14 := Lib.hid (Sb_13.out.keep hb)
              have Su_14 := Lib.hid (Su_13.out.keep hb)
              have Sm_14 := Lib.hid (Sm_13.out.keep hb)
              have Sd_14 := Lib.hid (Sd_13.out.keep hb)
              clear hb AF_13 Ta_13 Tb_13 Tu_13 Tm_13 Td_13 Sa_13 Sb_13 Su_13 Sm_13 Sd_13
              have Sc_14 := Lib.hid p
              clear p
              have gb := grow (here w14) (.cells #[.int .i64 D4, .slice oc L4.length cc] 24)
              have Tc_15 := Lib.hid (Two.new (t := 24) (x := .int .i64 D4) (y := .slice oc L4.length cc) (here (w14.alloc (.cells #[.int .i64 D4, .slice oc L4.length cc] 24))))
              have AF_15 := Lib.hid (down AF_14.out gb)
              have Ta_15 := Lib.hid (Ta_14.out.keep gb)
              have Tb_15 := Lib.hid (Tb_14.out.keep gb)
              have Tu_15 := Lib.hid (Tu_14.out.keep gb)
              have Tm_15 := Lib.hid (Tm_14.out.keep gb)
              have Td_15 := Lib.hid (Td_14.out.keep gb)
              have Sa_15 := Lib.hid (Sa_14.out.keep gb)
              have Sb_15 := Lib.hid (Sb_14.out.keep gb)
              have Su_15 := Lib.hid (Su_14.out.keep gb)
              have Sm_15 := Lib.hid (Sm_14.out.keep gb)
              have Sd_15 := Lib.hid (Sd_14.out.keep gb)
              have Sc_15 := Lib.hid (Sc_14.out.keep gb)
              clear gb AF_14 Ta_14 Tb_14 Tu_14 Tm_14 Td_14 Sa_14 Sb_14 Su_14 Sm_14 Sd_14 Sc_14
              obtain ⟨Tar0, Tar1, Tar2⟩ := Ta_15.out
              obtain ⟨Tbr0, Tbr1, Tbr2⟩ := Tb_15.out
              obtain ⟨Tur0, Tur1, Tur2⟩ := Tu_15.out
              obtain ⟨Tmr0, Tmr1, Tmr2⟩ := Tm_15.out
              obtain ⟨Tdr0, Tdr1, Tdr2⟩ := Td_15.out
              obtain ⟨Tcr0, Tcr1, Tcr2⟩ := Tc_15.out
              go_wp2_with fail
              clear Tar0 Tar1 Tar2 Tbr0 Tbr1 Tbr2 Tur0 Tur1 Tur2 Tmr0 Tmr1 Tmr2 Tdr0 Tdr1 Tdr2 Tcr0 Tcr1 Tcr2
              generalize (w14.alloc (.cells #[.int .i64 D4, .slice oc L4.length cc] 24)) = w15 at *
              refine (MV.out _ Sa_15.out).mono ?_
              rintro e w16 ⟨⟨vv, rfl, p⟩, hb⟩
              obtain ⟨ov, cv, rfl⟩ := Sl.shape p
              have AF_16 := Lib.hid (down AF_15.out hb)
              have Ta_16 := Lib.hid (Ta_15.out.keep hb)
              have Tb_16 := Lib.hid (Tb_15.out.keep hb)
              have Tu_16 := Lib.hid (Tu_15.out.keep hb)
              have Tm_16 := Lib.hid (Tm_15.out.keep hb)
              have Td_16 := Lib.hid (Td_15.out.keep hb)
              have Tc_16 := Lib.hid (Tc_15.out.keep hb)
              have Sa_16 := Lib.hid (Sa_15.out.keep hb)
              have Sb_16 := Lib.hid (Sb_15.out.keep hb)
              have Su_16 := Lib.hid (Su_15.out.keep hb)
              have Sm_16 := Lib.hid (Sm_15.out.keep hb)
              have Sd_16 := Lib.hid (Sd_15.out.keep hb)
              have Sc_16 := Lib.hid (Sc_15.out.keep hb)
              clear hb AF_15 Ta_15 Tb_15 Tu_15 Tm_15 Td_15 Tc_15 Sa_15 Sb_15 Su_15 Sm_15 Sd_15 Sc_15
              have Sv_16 := Lib.hid p
              clear p
              have gb := grow (here w16) (.cells #[.int .i64 D5, .slice ov L5.length cv] 24)
              have Tv_17 := Lib.hid (Two.new (t := 24) (x := .int .i64 D5) (y := .slice ov L5.length cv) (here (w16.alloc (.cells #[.int .i64 D5, .slice ov L5.length cv] 24))))
              have AF_17 := Lib.hid (down AF_16.out gb)
              have Ta_17 := Lib.hid (Ta_16.out.keep gb)
              have Tb_17 := Lib.hid (Tb_16.out.keep gb)
              have Tu_17 := Lib.hid (Tu_16.out.keep gb)
              have Tm_17 := Lib.hid (Tm_16.out.keep gb)
              have Td_17 := Lib.hid (Td_16.out.keep gb)
              have Tc_17 := Lib.hid (Tc_16.out.keep gb)
              have Sa_17 := Lib.hid (Sa_16.out.keep gb)
              have Sb_17 := Lib.hid (Sb_16.out.keep gb)
              have Su_17 := Lib.hid (Su_16.out.keep gb)
              have Sm_17 := Lib.hid (Sm_16.out.keep gb)
              have Sd_17 := Lib.hid (Sd_16.out.keep gb)
              have Sc_17 := Lib.hid (Sc_16.out.keep gb)
              have Sv_17 := Lib.hid (Sv_16.out.keep gb)
              clear gb AF_16 Ta_16 Tb_16 Tu_16 Tm_16 Td_16 Tc_16 Sa_16 Sb_16 Su_16 Sm_16 Sd_16 Sc_16 Sv_16
              obtain ⟨Tar0, Tar1, Tar2⟩ := Ta_17.out
              obtain ⟨Tbr0, Tbr1, Tbr2⟩ := Tb_17.out
              obtain ⟨Tur0, Tur1, Tur2⟩ := Tu_17.out
              obtain ⟨Tmr0, Tmr1, Tmr2⟩ := Tm_17.out
              obtain ⟨Tdr0, Tdr1, Tdr2⟩ := Td_17.out
              obtain ⟨Tcr0, Tcr1, Tcr2⟩ := Tc_17.out
              obtain ⟨Tvr0, Tvr1, Tvr2⟩ := Tv_17.out
              go_wp2_with fail
              clear Tar0 Tar1 Tar2 Tbr0 Tbr1 Tbr2 Tur0 Tur1 Tur2 Tmr0 Tmr1 Tmr2 Tdr0 Tdr1 Tdr2 Tcr0 Tcr1 Tcr2 Tvr0 Tvr1 Tvr2
              have hz : (w16.alloc (.cells #[.int .i64 D5, .slice ov L5.length cv] 24)).heap.size = w16.heap.size + 1 := by simp
              generalize (w16.alloc (.cells #[.int .i64 D5, .slice ov L5.length cv] 24)) = w17 at *
              rw [← hz]
              have NE := rpnear2 Pa Pb _ _ A B x x0.out x1.out w17 pva.out pvb.out la.out lb.out Sa_17.out Sb_17.out
              refine NE.mono ?_
              rintro e w18 ⟨⟨vi, M, rfl, I, lM, nr⟩, hb⟩
              clear NE hz
              have AF_18 := Lib.hid (down AF_17.out hb)
              have Ta_18 := Lib.hid (Ta_17.out.keep hb)
              have Tb_18 := Lib.hid (Tb_17.out.keep hb)
              have Tu_18 := Lib.hid (Tu_17.out.keep hb)
              have Tm_18 := Lib.hid (Tm_17.out.keep hb)
              have Td_18 := Lib.hid (Td_17.out.keep hb)
              have Tc_18 := Lib.hid (Tc_17.out.keep hb)
              have Tv_18 := Lib.hid (Tv_17.out.keep hb)
              have Sa_18 := Lib.hid (Sa_17.out.keep hb)
              have Sb_18 := Lib.hid (Sb_17.out.keep hb)
              have Su_18 := Lib.hid (Su_17.out.keep hb)
              have Sm_18 := Lib.hid (Sm_17.out.keep hb)
              have Sd_18 := Lib.hid (Sd_17.out.keep hb)
              have Sc_18 := Lib.hid (Sc_17.out.keep hb)
              have Sv_18 := Lib.hid (Sv_17.out.keep hb)
              clear hb AF_17 Ta_17 Tb_17 Tu_17 Tm_17 Td_17 Tc_17 Tv_17 Sa_17 Sb_17 Su_17 Sm_17 Sd_17 Sc_17 Sv_17
              have I_18 := Lib.hid I
              clear I
              replace nr := Lib.hid nr
              obtain ⟨oi, ci, rfl⟩ := peh_shape I_18.out
              obtain ⟨m, hm⟩ : ∃ m, M.length = m := ⟨_, rfl⟩
              have lm : m ≤ 401 := by omega
              have L0 := Lib.hid (here w18)
              go_wp2
              go_loopw [95] (fun t wr => ∃ (k : Nat), k ≤ m ∧ t = .int .i64 k ∧ Hid (Below w18.heap.size w18 wr)) (fun t _ => m - (intOf t).toNat)
              case atStart => exact ⟨0, Nat.zero_le _, rfl, L0⟩
              case round =>
                obtain ⟨k, hk, rfl, BR⟩ := hrel
                clear L0
                have hb := BR.out
                have Ta_60 := Lib.hid (Ta_18.out.keep hb)
                have Tb_60 := Lib.hid (Tb_18.out.keep hb)
                have Tu_60 := Lib.hid (Tu_18.out.keep hb)
                have Tm_60 := Lib.hid (Tm_18.out.keep hb)
                have Td_60 := Lib.hid (Td_18.out.keep hb)
                have Tc_60 := Lib.hid (Tc_18.out.keep hb)
                have Tv_60 := Lib.hid (Tv_18.out.keep hb)
                have Sa_60 := Lib.hid (Sa_18.out.keep hb)
                have Sb_60 := Lib.hid (Sb_18.out.keep hb)
                have Su_60 := Lib.hid (Su_18.out.keep hb)
                have Sm_60 := Lib.hid (Sm_18.out.keep hb)
                have Sd_60 := Lib.hid (Sd_18.out.keep hb)
                have Sc_60 := Lib.hid (Sc_18.out.keep hb)
                have Sv_60 := Lib.hid (Sv_18.out.keep hb)
                have I_60 := Lib.hid (I_18.out.keep hb)
                clear hb
                have AF_60 := BR
                clear BR
                by_cases z : k < m
                · have kz : decide ((k : Int) < (m : Int)) = true := decide_eq_true (by omega)
                  obtain ⟨bi, off, rfl, bl, cs⟩ := peh_here I_60.out (show k < M.length by omega)
                  have c0 := cs k (by omega)
                  obtain ⟨y0, y1⟩ := nr.out k (by omega)
                  clear cs
                  generalize M.getD k 0 = y at *
                  obtain ⟨t, hyn⟩ : ∃ t, y + n = t := ⟨_, rfl⟩
                  have n0' := n0.out
                  have n1' := n1.out
                  obtain ⟨p, q, HA, HB, HU, HM, HD, HC, HV⟩ := FX.out y ⟨by omega, by omega⟩ t hyn ⟨by omega, by omega⟩
                  have a0 : ∀ x' : Kept wr, x'.wd.cell? ⟨w.heap.size, 0, none⟩ = some (.int .i64 Pa) := fun x' => (Ta_60.out.keep x'.ok).c0
                  have a1 : ∀ x' : Kept wr, x'.wd.cell? ⟨w.heap.size, 1, none⟩ = some (.slice oa A.length ca) := fun x' => (Ta_60.out.keep x'.ok).c1
                  have b0 : ∀ x' : Kept wr, x'.wd.cell? ⟨w.heap.size + 1, 0, none⟩ = some (.int .i64 Pb) := fun x' => (Tb_60.out.keep x'.ok).c0
                  have b1 : ∀ x' : Kept wr, x'.wd.cell? ⟨w.heap.size + 1, 1, none⟩ = some (.slice ob B.length cb) := fun x' => (Tb_60.out.keep x'.ok).c1
                  have GA : Hid (∀ x' : Kept wr, _) := fun x' => HA.out x'.wd (Sa_60.out.keep x'.ok)
                  have GB : Hid (∀ x' : Kept wr, _) := fun x' => HB.out x'.wd (Sb_60.out.keep x'.ok)
                  go_wp2
                  refine wp_region_kept (by kernel_rfl) (by kernel_rfl) ?_
                  repeat (go_big_quiet_step ((go_at_call 16; first | (with_reducible exact kept_call _ (GA.out _)) | (with_reducible exact kept_call _ (GB.out _)))))
                  refine wpQuiet_nil ?_
                  intro w61 hx
                  obtain ⟨⟨x3, hb⟩, hw⟩ := hx
                  replace hw : w61 = x3 := hw
                  subst x3
                  clear a0 a1 b0 b1 GA GB c0 bl
                  have Tu_61 := Lib.hid (Tu_60.out.keep hb)
                  have Tm_61 := Lib.hid (Tm_60.out.keep hb)
                  have Td_61 := Lib.hid (Td_60.out.keep hb)
                  have Tc_61 := Lib.hid (Tc_60.out.keep hb)
                  have Tv_61 := Lib.hid (Tv_60.out.keep hb)
                  have Su_61 := Lib.hid (Su_60.out.keep hb)
                  have Sm_61 := Lib.hid (Sm_60.out.keep hb)
                  have Sd_61 := Lib.hid (Sd_60.out.keep hb)
                  have Sc_61 := Lib.hid (Sc_60.out.keep hb)
                  have Sv_61 := Lib.hid (Sv_60.out.keep hb)
                  have AF_61 := Lib.hid (down AF_60.out hb)
                  clear hb HA HB Ta_60 Tb_60 Tu_60 Tm_60 Td_60 Tc_60 Tv_60 Sa_60 Sb_60 Su_60 Sm_60 Sd_60 Sc_60 Sv_60 I_60 AF_60
                  have AN := AF_61
                  clear AF_61
                  go_upto_region 14 with fail
                  go_cut [95, 145] from 95 to 160 (fun s95 s145 wx => s95 = .int .i64 (k : Int) ∧ s145 = .bool false ∧ Hid (Below w61.heap.size w61 wx))
                  case first =>
                    have AF_61 := Lib.hid (here w61)
                    clear HC HV Tc_61 Tv_61 Sc_61 Sv_61 AN
                    cases p <;> cases q
                    all_goals
                      by_cases e1 : E1 = 0
                      · have ke1 : (E1 == 0) = true := by rw [beq_iff_eq]; exact e1
                        replace HU := HU.out e1
                        replace HU := Lib.hid HU
                        clear e1
                        by_cases e2 : E2 = 0
                        · have ke2 : (E2 == 0) = true := by rw [beq_iff_eq]; exact e2
                          replace HM := HM.out e2
                          replace HM := Lib.hid HM
                          clear e2
                          by_cases e3 : E3 = 0
                          · have ke3 : (E3 == 0) = true := by rw [beq_iff_eq]; exact e3
                            replace HD := HD.out e3
                            replace HD := Lib.hid HD
                            clear e3
                            obtain ⟨Tur0, Tur1, Tur2⟩ := Tu_61.out
                            obtain ⟨Tmr0, Tmr1, Tmr2⟩ := Tm_61.out
                            obtain ⟨Tdr0, Tdr1, Tdr2⟩ := Td_61.out
                            go_wp2_with fail
                            clear Tur0 Tur1 Tur2 Tmr0 Tmr1 Tmr2 Tdr0 Tdr1 Tdr2
                            refine (HU.out _ _ _ Su_61.out).mono ?_
                            rintro e w62 ⟨rfl, hb⟩
                            have AF_62 := Lib.hid (down AF_61.out hb)
                            have Tu_62 := Lib.hid (Tu_61.out.keep hb)
                            have Tm_62 := Lib.hid (Tm_61.out.keep hb)
                            have Td_62 := Lib.hid (Td_61.out.keep hb)
                            have Su_62 := Lib.hid (Su_61.out.keep hb)
                            have Sm_62 := Lib.hid (Sm_61.out.keep hb)
                            have Sd_62 := Lib.hid (Sd_61.out.keep hb)
                            clear hb AF_61 Tu_61 Tm_61 Td_61 Su_61 Sm_61 Sd_61
                            obtain ⟨Tur0, Tur1, Tur2⟩ := Tu_62.out
                            obtain ⟨Tmr0, Tmr1, Tmr2⟩ := Tm_62.out
                            obtain ⟨Tdr0, Tdr1, Tdr2⟩ := Td_62.out
                            go_wp2_with fail
                            clear Tur0 Tur1 Tur2 Tmr0 Tmr1 Tmr2 Tdr0 Tdr1 Tdr2
                            refine (HM.out _ _ _ Sm_62.out).mono ?_
                            rintro e w63 ⟨rfl, hb⟩
                            have AF_63 := Lib.hid (down AF_62.out hb)
                            have Tu_63 := Lib.hid (Tu_62.out.keep hb)
                            have Tm_63 := Lib.hid (Tm_62.out.keep hb)
                            have Td_63 := Lib.hid (Td_62.out.keep hb)
                            have Su_63 := Lib.hid (Su_62.out.keep hb)
                            have Sm_63 := Lib.hid (Sm_62.out.keep hb)
                            have Sd_63 := Lib.hid (Sd_62.out.keep hb)
                            clear hb AF_62 Tu_62 Tm_62 Td_62 Su_62 Sm_62 Sd_62
                            obtain ⟨Tur0, Tur1, Tur2⟩ := Tu_63.out
                            obtain ⟨Tmr0, Tmr1, Tmr2⟩ := Tm_63.out
                            obtain ⟨Tdr0, Tdr1, Tdr2⟩ := Td_63.out
                            go_wp2_with fail
                            clear Tur0 Tur1 Tur2 Tmr0 Tmr1 Tmr2 Tdr0 Tdr1 Tdr2
                            refine (HD.out _ _ _ Sd_63.out).mono ?_
                            rintro e w64 ⟨rfl, hb⟩
                            have AF_64 := Lib.hid (down AF_63.out hb)
                            have Tu_64 := Lib.hid (Tu_63.out.keep hb)
                            have Tm_64 := Lib.hid (Tm_63.out.keep hb)
                            have Td_64 := Lib.hid (Td_63.out.keep hb)
                            have Su_64 := Lib.hid (Su_63.out.keep hb)
                            have Sm_64 := Lib.hid (Sm_63.out.keep hb)
                            have Sd_64 := Lib.hid (Sd_63.out.keep hb)
                            clear hb AF_63 Tu_63 Tm_63 Td_63 Su_63 Sm_63 Sd_63
                            go_wp2_with fail
                            go_meet
                            exact ⟨rfl, rfl, AF_64⟩
                          · have ke3 : (E3 == 0) = false := by rw [beq_eq_false_iff_ne]; exact e3
                            clear e3 HD
                            obtain ⟨Tur0, Tur1, Tur2⟩ := Tu_61.out
                            obtain ⟨Tmr0, Tmr1, Tmr2⟩ := Tm_61.out
                            obtain ⟨Tdr0, Tdr1, Tdr2⟩ := Td_61.out
                            go_wp2_with fail
                            clear Tur0 Tur1 Tur2 Tmr0 Tmr1 Tmr2 Tdr0 Tdr1 Tdr2
                            refine (HU.out _ _ _ Su_61.out).mono ?_
                            rintro e w62 ⟨rfl, hb⟩
                            have AF_62 := Lib.hid (down AF_61.out hb)
                            have Tu_62 := Lib.hid (Tu_61.out.keep hb)
                            have Tm_62 := Lib.hid (Tm_61.out.keep hb)
                            have Td_62 := Lib.hid (Td_61.out.keep hb)
                            have Su_62 := Lib.hid (Su_61.out.keep hb)
                            have Sm_62 := Lib.hid (Sm_61.out.keep hb)
                            have Sd_62 := Lib.hid (Sd_61.out.keep hb)
                            clear hb AF_61 Tu_61 Tm_61 Td_61 Su_61 Sm_61 Sd_61
                            obtain ⟨Tur0, Tur1, Tur2⟩ := Tu_62.out
                            obtain ⟨Tmr0, Tmr1, Tmr2⟩ := Tm_62.out
                            obtain ⟨Tdr0, Tdr1, Tdr2⟩ := Td_62.out
                            go_wp2_with fail
                            clear Tur0 Tur1 Tur2 Tmr0 Tmr1 Tmr2 Tdr0 Tdr1 Tdr2
                            refine (HM.out _ _ _ Sm_62.out).mono ?_
                            rintro e w63 ⟨rfl, hb⟩
                            have AF_63 := Lib.hid (down AF_62.out hb)
                            have Tu_63 := Lib.hid (Tu_62.out.keep hb)
                            have Tm_63 := Lib.hid (Tm_62.out.keep hb)
                            have Td_63 := Lib.hid (Td_62.out.keep hb)
                            have Su_63 := Lib.hid (Su_62.out.keep hb)
                            have Sm_63 := Lib.hid (Sm_62.out.keep hb)
                            have Sd_63 := Lib.hid (Sd_62.out.keep hb)
                            clear hb AF_62 Tu_62 Tm_62 Td_62 Su_62 Sm_62 Sd_62
                            go_wp2_with fail
                            go_meet
                            exact ⟨rfl, rfl, AF_63⟩
                        · have ke2 : (E2 == 0) = false := by rw [beq_eq_false_iff_ne]; exact e2
                          clear e2 HM
                          by_cases e3 : E3 = 0
                          · have ke3 : (E3 == 0) = true := by rw [beq_iff_eq]; exact e3
                            replace HD := HD.out e3
                            replace HD := Lib.hid HD
                            clear e3
                            obtain ⟨Tur0, Tur1, Tur2⟩ := Tu_61.out
                            obtain ⟨Tmr0, Tmr1, Tmr2⟩ := Tm_61.out
                            obtain ⟨Tdr0, Tdr1, Tdr2⟩ := Td_61.out
                            go_wp2_with fail
                            clear Tur0 Tur1 Tur2 Tmr0 Tmr1 Tmr2 Tdr0 Tdr1 Tdr2
                            refine (HU.out _ _ _ Su_61.out).mono ?_
                            rintro e w62 ⟨rfl, hb⟩
                            have AF_62 := Lib.hid (down AF_61.out hb)
                            have Tu_62 := Lib.hid (Tu_61.out.keep hb)
                            have Tm_62 := Lib.hid (Tm_61.out.keep hb)
                            have Td_62 := Lib.hid (Td_61.out.keep hb)
                            have Su_62 := Lib.hid (Su_61.out.keep hb)
                            have Sm_62 := Lib.hid (Sm_61.out.keep hb)
                            have Sd_62 := Lib.hid (Sd_61.out.keep hb)
                            clear hb AF_61 Tu_61 Tm_61 Td_61 Su_61 Sm_61 Sd_61
                            obtain ⟨Tur0, Tur1, Tur2⟩ := Tu_62.out
                            obtain ⟨Tmr0, Tmr1, Tmr2⟩ := Tm_62.out
                            obtain ⟨Tdr0, Tdr1, Tdr2⟩ := Td_62.out
                            go_wp2_with fail
                            clear Tur0 Tur1 Tur2 Tmr0 Tmr1 Tmr2 Tdr0 Tdr1 Tdr2
                            refine (HD.out _ _ _ Sd_62.out).mono ?_
                            rintro e w63 ⟨rfl, hb⟩
                            have AF_63 := Lib.hid (down AF_62.out hb)
                            have Tu_63 := Lib.hid (Tu_62.out.keep hb)
                            have Tm_63 := Lib.hid (Tm_62.out.keep hb)
                            have Td_63 := Lib.hid (Td_62.out.keep hb)
                            have Su_63 := Lib.hid (Su_62.out.keep hb)
                            have Sm_63 := Lib.hid (Sm_62.out.keep hb)
                            have Sd_63 := Lib.hid (Sd_62.out.keep hb)
                            clear hb AF_62 Tu_62 Tm_62 Td_62 Su_62 Sm_62 Sd_62
                            go_wp2_with fail
                            go_meet
                            exact ⟨rfl, rfl, AF_63⟩
                          · have ke3 : (E3 == 0) = false := by rw [beq_eq_false_iff_ne]; exact e3
                            clear e3 HD
                            obtain ⟨Tur0, Tur1, Tur2⟩ := Tu_61.out
                            obtain ⟨Tmr0, Tmr1, Tmr2⟩ := Tm_61.out
                            obtain ⟨Tdr0, Tdr1, Tdr2⟩ := Td_61.out
                            go_wp2_with fail
                            clear Tur0 Tur1 Tur2 Tmr0 Tmr1 Tmr2 Tdr0 Tdr1 Tdr2
                            refine (HU.out _ _ _ Su_61.out).mono ?_
                            rintro e w62 ⟨rfl, hb⟩
                            have AF_62 := Lib.hid (down AF_61.out hb)
                            have Tu_62 := Lib.hid (Tu_61.out.keep hb)
                            have Tm_62 := Lib.hid (Tm_61.out.keep hb)
                            have Td_62 := Lib.hid (Td_61.out.keep hb)
                            have Su_62 := Lib.hid (Su_61.out.keep hb)
                            have Sm_62 := Lib.hid (Sm_61.out.keep hb)
                            have Sd_62 := Lib.hid (Sd_61.out.keep hb)
                            clear hb AF_61 Tu_61 Tm_61 Td_61 Su_61 Sm_61 Sd_61
                            go_wp2_with fail
                            go_meet
                            exact ⟨rfl, rfl, AF_62⟩
                      · have ke1 : (E1 == 0) = false := by rw [beq_eq_false_iff_ne]; exact e1
                        clear e1 HU
                        by_cases e2 : E2 = 0
                        · have ke2 : (E2 == 0) = true := by rw [beq_iff_eq]; exact e2
                          replace HM := HM.out e2
                          replace HM := Lib.hid HM
                          clear e2
                          by_cases e3 : E3 = 0
                          · have ke3 : (E3 == 0) = true := by rw [beq_iff_eq]; exact e3
                            replace HD := HD.out e3
                            replace HD := Lib.hid HD
                            clear e3
                            obtain ⟨Tur0, Tur1, Tur2⟩ := Tu_61.out
                            obtain ⟨Tmr0, Tmr1, Tmr2⟩ := Tm_61.out
                            obtain ⟨Tdr0, Tdr1, Tdr2⟩ := Td_61.out
                            go_wp2_with fail
                            clear Tur0 Tur1 Tur2 Tmr0 Tmr1 Tmr2 Tdr0 Tdr1 Tdr2
                            refine (HM.out _ _ _ Sm_61.out).mono ?_
                            rintro e w62 ⟨rfl, hb⟩
                            have AF_62 := Lib.hid (down AF_61.out hb)
                            have Tu_62 := Lib.hid (Tu_61.out.keep hb)
                            have Tm_62 := Lib.hid (Tm_61.out.keep hb)
                            have Td_62 := Lib.hid (Td_61.out.keep hb)
                            have Su_62 := Lib.hid (Su_61.out.keep hb)
                            have Sm_62 := Lib.hid (Sm_61.out.keep hb)
                            have Sd_62 := Lib.hid (Sd_61.out.keep hb)
                            clear hb AF_61 Tu_61 Tm_61 Td_61 Su_61 Sm_61 Sd_61
                            obtain ⟨Tur0, Tur1, Tur2⟩ := Tu_62.out
                            obtain ⟨Tmr0, Tmr1, Tmr2⟩ := Tm_62.out
                            obtain ⟨Tdr0, Tdr1, Tdr2⟩ := Td_62.out
                            go_wp2_with fail
                            clear Tur0 Tur1 Tur2 Tmr0 Tmr1 Tmr2 Tdr0 Tdr1 Tdr2
                            refine (HD.out _ _ _ Sd_62.out).mono ?_
                            rintro e w63 ⟨rfl, hb⟩
                            have AF_63 := Lib.hid (down AF_62.out hb)
                            have Tu_63 := Lib.hid (Tu_62.out.keep hb)
                            have Tm_63 := Lib.hid (Tm_62.out.keep hb)
                            have Td_63 := Lib.hid (Td_62.out.keep hb)
                            have Su_63 := Lib.hid (Su_62.out.keep hb)
                            have Sm_63 := Lib.hid (Sm_62.out.keep hb)
                            have Sd_63 := Lib.hid (Sd_62.out.keep hb)
                            clear hb AF_62 Tu_62 Tm_62 Td_62 Su_62 Sm_62 Sd_62
                            go_wp2_with fail
                            go_meet
                            exact ⟨rfl, rfl, AF_63⟩
                          · have ke3 : (E3 == 0) = false := by rw [beq_eq_false_iff_ne]; exact e3
                            clear e3 HD
                            obtain ⟨Tur0, Tur1, Tur2⟩ := Tu_61.out
                            obtain ⟨Tmr0, Tmr1, Tmr2⟩ := Tm_61.out
                            obtain ⟨Tdr0, Tdr1, Tdr2⟩ := Td_61.out
                            go_wp2_with fail
                            clear Tur0 Tur1 Tur2 Tmr0 Tmr1 Tmr2 Tdr0 Tdr1 Tdr2
                            refine (HM.out _ _ _ Sm_61.out).mono ?_
                            rintro e w62 ⟨rfl, hb⟩
                            have AF_62 := Lib.hid (down AF_61.out hb)
                            have Tu_62 := Lib.hid (Tu_61.out.keep hb)
                            have Tm_62 := Lib.hid (Tm_61.out.keep hb)
                            have Td_62 := Lib.hid (Td_61.out.keep hb)
                            have Su_62 := Lib.hid (Su_61.out.keep hb)
                            have Sm_62 := Lib.hid (Sm_61.out.keep hb)
                            have Sd_62 := Lib.hid (Sd_61.out.keep hb)
                            clear hb AF_61 Tu_61 Tm_61 Td_61 Su_61 Sm_61 Sd_61
                            go_wp2_with fail
                            go_meet
                            exact ⟨rfl, rfl, AF_62⟩
                        · have ke2 : (E2 == 0) = false := by rw [beq_eq_false_iff_ne]; exact e2
                          clear e2 HM
                          by_cases e3 : E3 = 0
                          · have ke3 : (E3 == 0) = true := by rw [beq_iff_eq]; exact e3
                            replace HD := HD.out e3
                            replace HD := Lib.hid HD
                            clear e3
                            obtain ⟨Tur0, Tur1, Tur2⟩ := Tu_61.out
                            obtain ⟨Tmr0, Tmr1, Tmr2⟩ := Tm_61.out
                            obtain ⟨Tdr0, Tdr1, Tdr2⟩ := Td_61.out
                            go_wp2_with fail
                            clear Tur0 Tur1 Tur2 Tmr0 Tmr1 Tmr2 Tdr0 Tdr1 Tdr2
                            refine (HD.out _ _ _ Sd_61.out).mono ?_
                            rintro e w62 ⟨rfl, hb⟩
                            have AF_62 := Lib.hid (down AF_61.out hb)
                            have Tu_62 := Lib.hid (Tu_61.out.keep hb)
                            have Tm_62 := Lib.hid (Tm_61.out.keep hb)
                            have Td_62 := Lib.hid (Td_61.out.keep hb)
                            have Su_62 := Lib.hid (Su_61.out.keep hb)
                            have Sm_62 := Lib.hid (Sm_61.out.keep hb)
                            have Sd_62 := Lib.hid (Sd_61.out.keep hb)
                            clear hb AF_61 Tu_61 Tm_61 Td_61 Su_61 Sm_61 Sd_61
                            go_wp2_with fail
                            go_meet
                            exact ⟨rfl, rfl, AF_62⟩
                          · have ke3 : (E3 == 0) = false := by rw [beq_eq_false_iff_ne]; exact e3
                            clear e3 HD
                            go_wp2_with fail
                            go_meet
                            exact ⟨rfl, rfl, AF_61⟩
                  case rest =>
                    obtain ⟨rfl, rfl, hb⟩ := hcut
                    replace hb := hb.out
                    have Tc_70 := Lib.hid (Tc_61.out.keep hb)
                    have Tv_70 := Lib.hid (Tv_61.out.keep hb)
                    have Sc_70 := Lib.hid (Sc_61.out.keep hb)
                    have Sv_70 := Lib.hid (Sv_61.out.keep hb)
                    have AF_70 := Lib.hid (down AN.out hb)
                    clear hb HU HM HD Tc_61 Tv_61 Sc_61 Sv_61 Tu_61 Tm_61 Td_61 Su_61 Sm_61 Sd_61 AN
                    have kq1 : ((!p) == p) = false := by cases p <;> rfl
                    have kq2 : (p != p) = false := by cases p <;> rfl
                    obtain ⟨Tcr0, Tcr1, Tcr2⟩ := Tc_70.out
                    obtain ⟨Tvr0, Tvr1, Tvr2⟩ := Tv_70.out
                    go_wp2_with fail
                    clear Tcr0 Tcr1 Tcr2 Tvr0 Tvr1 Tvr2
                    refine (HC.out _ _ _ Sc_70.out).mono ?_
                    rintro e w71 ⟨rfl, hb⟩
                    have AF_71 := Lib.hid (down AF_70.out hb)
                    have Tc_71 := Lib.hid (Tc_70.out.keep hb)
                    have Tv_71 := Lib.hid (Tv_70.out.keep hb)
                    have Sc_71 := Lib.hid (Sc_70.out.keep hb)
                    have Sv_71 := Lib.hid (Sv_70.out.keep hb)
                    clear hb AF_70 Tc_70 Tv_70 Sc_70 Sv_70
                    obtain ⟨Tcr0, Tcr1, Tcr2⟩ := Tc_71.out
                    obtain ⟨Tvr0, Tvr1, Tvr2⟩ := Tv_71.out
                    go_wp2_with fail
                    clear Tcr0 Tcr1 Tcr2 Tvr0 Tvr1 Tvr2
                    refine (HV.out _ _ _ Sv_71.out).mono ?_
                    rintro e w72 ⟨rfl, hb⟩
                    have AF_72 := Lib.hid (down AF_71.out hb)
                    have Tc_72 := Lib.hid (Tc_71.out.keep hb)
                    have Tv_72 := Lib.hid (Tv_71.out.keep hb)
                    have Sc_72 := Lib.hid (Sc_71.out.keep hb)
                    have Sv_72 := Lib.hid (Sv_71.out.keep hb)
                    clear hb AF_71 Tc_71 Tv_71 Sc_71 Sv_71
                    go_wp2
                    go_roundw
                    case rel =>
                      have RR := AF_72
                      first | exact ⟨k + 1, by omega, by first | rfl | go_num, RR⟩ | ((repeat apply Exists.intro); exact ⟨⟨k + 1, by omega, by first | rfl | go_num, RR⟩, rfl⟩)
                    case measure => simp [intOf]; omega
                · have kz : decide ((k : Int) < (m : Int)) = false := decide_eq_false (by omega)
                  have A9 := Lib.hid (down AF_18.out AF_60.out)
                  clear Ta_60 Tb_60 Tu_60 Tm_60 Td_60 Tc_60 Tv_60 Sa_60 Sb_60 Su_60 Sm_60 Sd_60 Sc_60 Sv_60 I_60 AF_60
                  go_wp2
                  go_ret
                  exact ⟨rfl, A9.out⟩
    · rw [gb] at LOb
      clear ga gb hA hB hPa hPb hn hx
      go_enter Try.func6, Try.ntmps6
      obtain ⟨Tar0, Tar1, Tar2⟩ := Ta_0.out
      obtain ⟨Tbr0, Tbr1, Tbr2⟩ := Tb_0.out
      go_wp2_with fail
      clear Tar0 Tar1 Tar2 Tbr0 Tbr1 Tbr2
      generalize ((w.alloc (.cells #[.int .i64 Pa, .slice oa A.length ca] 24)).alloc (.cells #[.int .i64 Pb, .slice ob B.length cb] 24)) = w0 at *
      refine (AW.out _).mono ?_
      rintro e w1 ⟨rfl, hb⟩
      have AF_1 := Lib.hid (down AF_0.out hb)
      have Ta_1 := Lib.hid (Ta_0.out.keep hb)
      have Tb_1 := Lib.hid (Tb_0.out.keep hb)
      have Sa_1 := Lib.hid (Sa_0.out.keep hb)
      have Sb_1 := Lib.hid (Sb_0.out.keep hb)
      clear hb AF_0 Ta_0 Tb_0 Sa_0 Sb_0
      obtain ⟨Tar0, Tar1, Tar2⟩ := Ta_1.out
      obtain ⟨Tbr0, Tbr1, Tbr2⟩ := Tb_1.out
      go_wp2_with fail
      clear Tar0 Tar1 Tar2 Tbr0 Tbr1 Tbr2
      refine (LOa.out _).mono ?_
      rintro e w2 ⟨rfl, hb⟩
      have AF_2 := Lib.hid (down AF_1.out hb)
      have Ta_2 := Lib.hid (Ta_1.out.keep hb)
      have Tb_2 := Lib.hid (Tb_1.out.keep hb)
      have Sa_2 := Lib.hid (Sa_1.out.keep hb)
      have Sb_2 := Lib.hid (Sb_1.out.keep hb)
      clear hb AF_1 Ta_1 Tb_1 Sa_1 Sb_1
      obtain ⟨Tar0, Tar1, Tar2⟩ := Ta_2.out
      obtain ⟨Tbr0, Tbr1, Tbr2⟩ := Tb_2.out
      go_wp2_with fail
      clear Tar0 Tar1 Tar2 Tbr0 Tbr1 Tbr2
      refine (LOb.out _).mono ?_
      rintro e w3 ⟨rfl, hb⟩
      have AF_3 := Lib.hid (down AF_2.out hb)
      have Ta_3 := Lib.hid (Ta_2.out.keep hb)
      have Tb_3 := Lib.hid (Tb_2.out.keep hb)
      have Sa_3 := Lib.hid (Sa_2.out.keep hb)
      have Sb_3 := Lib.hid (Sb_2.out.keep hb)
      clear hb AF_2 Ta_2 Tb_2 Sa_2 Sb_2
      obtain ⟨Tar0, Tar1, Tar2⟩ := Ta_3.out
      obtain ⟨Tbr0, Tbr1, Tbr2⟩ := Tb_3.out
      go_wp2_with fail
      clear Tar0 Tar1 Tar2 Tbr0 Tbr1 Tbr2
      refine (AW.out _).mono ?_
      rintro e w4 ⟨rfl, hb⟩
      have AF_4 := Lib.hid (down AF_3.out hb)
      have Ta_4 := Lib.hid (Ta_3.out.keep hb)
      have Tb_4 := Lib.hid (Tb_3.out.keep hb)
      have Sa_4 := Lib.hid (Sa_3.out.keep hb)
      have Sb_4 := Lib.hid (Sb_3.out.keep hb)
      clear hb AF_3 Ta_3 Tb_3 Sa_3 Sb_3
      obtain ⟨Tar0, Tar1, Tar2⟩ := Ta_4.out
      obtain ⟨Tbr0, Tbr1, Tbr2⟩ := Tb_4.out
      go_wp2
      go_ret
      exact ⟨rfl, AF_4.out⟩
  · rw [ga] at LOa
    clear ga hA hB hPa hPb hn hx
    go_enter Try.func6, Try.ntmps6
    obtain ⟨Tar0, Tar1, Tar2⟩ := Ta_0.out
    obtain ⟨Tbr0, Tbr1, Tbr2⟩ := Tb_0.out
    go_wp2_with fail
    clear Tar0 Tar1 Tar2 Tbr0 Tbr1 Tbr2
    generalize ((w.alloc (.cells #[.int .i64 Pa, .slice oa A.length ca] 24)).alloc (.cells #[.int .i64 Pb, .slice ob B.length cb] 24)) = w0 at *
    refine (AW.out _).mono ?_
    rintro e w1 ⟨rfl, hb⟩
    have AF_1 := Lib.hid (down AF_0.out hb)
    have Ta_1 := Lib.hid (Ta_0.out.keep hb)
    have Tb_1 := Lib.hid (Tb_0.out.keep hb)
    have Sa_1 := Lib.hid (Sa_0.out.keep hb)
    have Sb_1 := Lib.hid (Sb_0.out.keep hb)
    clear hb AF_0 Ta_0 Tb_0 Sa_0 Sb_0
    obtain ⟨Tar0, Tar1, Tar2⟩ := Ta_1.out
    obtain ⟨Tbr0, Tbr1, Tbr2⟩ := Tb_1.out
    go_wp2_with fail
    clear Tar0 Tar1 Tar2 Tbr0 Tbr1 Tbr2
    refine (LOa.out _).mono ?_
    rintro e w2 ⟨rfl, hb⟩
    have AF_2 := Lib.hid (down AF_1.out hb)
    have Ta_2 := Lib.hid (Ta_1.out.keep hb)
    have Tb_2 := Lib.hid (Tb_1.out.keep hb)
    have Sa_2 := Lib.hid (Sa_1.out.keep hb)
    have Sb_2 := Lib.hid (Sb_1.out.keep hb)
    clear hb AF_1 Ta_1 Tb_1 Sa_1 Sb_1
    obtain ⟨Tar0, Tar1, Tar2⟩ := Ta_2.out
    obtain ⟨Tbr0, Tbr1, Tbr2⟩ := Tb_2.out
    go_wp2_with fail
    clear Tar0 Tar1 Tar2 Tbr0 Tbr1 Tbr2
    refine (AW.out _).mono ?_
    rintro e w3 ⟨rfl, hb⟩
    have AF_3 := Lib.hid (down AF_2.out hb)
    have Ta_3 := Lib.hid (Ta_2.out.keep hb)
    have Tb_3 := Lib.hid (Tb_2.out.keep hb)
    have Sa_3 := Lib.hid (Sa_2.out.keep hb)
    have Sb_3 := Lib.hid (Sb_2.out.keep hb)
    clear hb AF_2 Ta_2 Tb_2 Sa_2 Sb_2
    obtain ⟨Tar0, Tar1, Tar2⟩ := Ta_3.out
    obtain ⟨Tbr0, Tbr1, Tbr2⟩ := Tb_3.out
    go_wp2
    go_ret
    exact ⟨rfl, AF_3.out⟩
end Go.Proofs.Ytaikeclfmmnelaa
