/- Law 13: PeriodicValid. -/
import Derived.Test.YtaikeclfmmnelaaQPeHC
import Derived.Test.YtaikeclfmmnelaaQGI
import Derived.Test.YtaikeclfmmnelaaQPeD
import Derived.Test.YtaikeclfmmnelaaQGF
import Derived.BigQuiet
import Derived.Deep.QuietTactic
import Derived.Deep.RegionWith
namespace Go.Proofs.Ytaikeclfmmnelaa
open Go.RowKit
set_option linter.unusedVariables false
set_option linter.unusedSimpArgs false

set_option maxRecDepth 100000 in
set_option maxHeartbeats 4000000 in
theorem plvalid (va : Value) (Pa : Int) (A : List Sp) (hA : A.length ≤ maxLen) (hPa : I64 Pa) (vb : Value) (Pb : Int) (B : List Sp) (hB : B.length ≤ maxLen) (hPb : I64 Pb) (x : Int) (hx : I64 x) {ba bb : Nat} (w : World) (a : PairS ba w va A) (b : PairS bb w vb B) :
    Calls Try.prog 3 #[.agg #[.int .i64 Pa, va], .agg #[.int .i64 Pb, vb], .int .i64 x] w fun e w' => e = .returned (.bool true) ∧ Below w.heap.size w w' := by
  have AW := Lib.hid (fun W => rpawake W)
  obtain ⟨oa, ca, rfl⟩ := prs_shape a
  have LOa := Lib.hid (fun W => rlong Pa oa A.length ca W)
  obtain ⟨ob, cb, rfl⟩ := prs_shape b
  have LOb := Lib.hid (fun W => rlong Pb ob B.length cb W)
  have AF_0 := Lib.hid (grow (grow (here w) (.cells #[.int .i64 Pa, .slice oa A.length ca] 24)) (.cells #[.int .i64 Pb, .slice ob B.length cb] 24))
  have Ta_0 := Lib.hid (Two.fst (here ((w.alloc (.cells #[.int .i64 Pa, .slice oa A.length ca] 24)).alloc (.cells #[.int .i64 Pb, .slice ob B.length cb] 24))))
  have Tb_0 := Lib.hid (Two.snd (here ((w.alloc (.cells #[.int .i64 Pa, .slice oa A.length ca] 24)).alloc (.cells #[.int .i64 Pb, .slice ob B.length cb] 24))))
  have Sa_0 := Lib.hid (a.keep AF_0.out)
  have Sb_0 := Lib.hid (b.keep AF_0.out)
  clear a b
  cases ga : decide (40 < (A.length : Int))
  · rw [ga] at LOa
    cases gb : decide (40 < (B.length : Int))
    · rw [gb] at LOb
      have gt := of_decide_eq_false ga
      have RVa := Lib.hid (fun W (p : PairS ba W (.slice oa A.length ca) A) => by have h := rpvalid _ Pa A hA hPa W p; exact h)
      have RVb := Lib.hid (fun W (p : PairS bb W (.slice ob B.length cb) B) => by have h := rpvalid _ Pb B hB hPb W p; exact h)
      have UV := Lib.hid (fun W (p : PairS ba W (.slice oa A.length ca) A) => by have h := upvalid _ Pa A hA hPa W p; exact h)
      have UH := Lib.hid (fun W (p : PairS ba W (.slice oa A.length ca) A) => by have h := uphas _ Pa A hA hPa x hx W p; exact h)
      have UE := Lib.hid (fun W (p : PairS ba W (.slice oa A.length ca) A) (q : PairS bb W (.slice ob B.length cb) B) => by have h := upequal _ _ Pa Pb A B hA hPa hPb W p q; exact h)
      have RE := Lib.hid (fun W (p : PairS ba W (.slice oa A.length ca) A) (q : PairS bb W (.slice ob B.length cb) B) => by have h := rpequal _ _ Pa Pb A B hA hB W p q; exact h)
      have eb : (A == B) = decide (A = B) := by rw [Bool.eq_iff_iff, beq_iff_eq, decide_eq_true_iff]
      rw [eb] at UE
      have same : pvB Pa A = true → pvB Pb B = false → (decide (Pa = Pb) && decide (A = B)) = false := fun h1 h2 => by
        rw [← Bool.not_eq_true]
        intro h
        rw [Bool.and_eq_true, decide_eq_true_iff, decide_eq_true_iff] at h
        obtain ⟨rfl, rfl⟩ := h
        rw [h1] at h2; cases h2
      cases p : pvB Pa A
      · rw [p] at RVa UV UH UE
        simp only [Bool.false_and] at UH UE
        generalize pvB Pb B = q at *
        clear RE eb same p ga gb gt hA hB hx hPa hPb
        cases q
        all_goals
          go_enter Try.func3, Try.ntmps3
          obtain ⟨Tar0, Tar1, Tar2⟩ := Ta_0.out
          obtain ⟨Tbr0, Tbr1, Tbr2⟩ := Tb_0.out
          go_wp2_with fail
          clear Tar0 Tar1 Tar2 Tbr0 Tbr1 Tbr2
          generalize ((w.alloc (.cells #[.int .i64 Pa, .slice oa A.length ca] 24)).alloc (.cells #[.int .i64 Pb, .slice ob B.length cb] 24)) = w0 at *
          refine (AW.out _).mono ?_
          rintro e w1 ⟨rfl, hb⟩
          have AF_1 := Lib.hid (down AF_0.out hb)
          have Ta_1 := Lib.hid (Ta_0.out.keep hb)
          have Tb_1 := Lib.hid (Tb_0.out.keep hb)
          have Sa_1 := Lib.hid (Sa_0.out.keep hb)
          have Sb_1 := Lib.hid (Sb_0.out.keep hb)
          clear hb AF_0 Ta_0 Tb_0 Sa_0 Sb_0
          obtain ⟨Tar0, Tar1, Tar2⟩ := Ta_1.out
          obtain ⟨Tbr0, Tbr1, Tbr2⟩ := Tb_1.out
          go_wp2_with fail
          clear Tar0 Tar1 Tar2 Tbr0 Tbr1 Tbr2
          refine (LOa.out _).mono ?_
          rintro e w2 ⟨rfl, hb⟩
          have AF_2 := Lib.hid (down AF_1.out hb)
          have Ta_2 := Lib.hid (Ta_1.out.keep hb)
          have Tb_2 := Lib.hid (Tb_1.out.keep hb)
          have Sa_2 := Lib.hid (Sa_1.out.keep hb)
          have Sb_2 := Lib.hid (Sb_1.out.keep hb)
          clear hb AF_1 Ta_1 Tb_1 Sa_1 Sb_1
          obtain ⟨Tar0, Tar1, Tar2⟩ := Ta_2.out
          obtain ⟨Tbr0, Tbr1, Tbr2⟩ := Tb_2.out
          go_wp2_with fail
          clear Tar0 Tar1 Tar2 Tbr0 Tbr1 Tbr2
          refine (LOb.out _).mono ?_
          rintro e w3 ⟨rfl, hb⟩
          have AF_3 := Lib.hid (down AF_2.out hb)
          have Ta_3 := Lib.hid (Ta_2.out.keep hb)
          have Tb_3 := Lib.hid (Tb_2.out.keep hb)
          have Sa_3 := Lib.hid (Sa_2.out.keep hb)
          have Sb_3 := Lib.hid (Sb_2.out.keep hb)
          clear hb AF_2 Ta_2 Tb_2 Sa_2 Sb_2
          have hS := Below.drew (here w3)
          obtain ⟨Tar0, Tar1, Tar2⟩ := Ta_3.out
          obtain ⟨Tbr0, Tbr1, Tbr2⟩ := Tb_3.out
          go_wp2
          go_region_with (first | (go_at_call 14; (with_reducible refine (RVa.out _ (Sa_3.out.keep hS)).mono ?_); rintro e w' ⟨rfl, hb⟩; replace hS := down hS hb; have Tar0 := (Ta_3.out.keep hS).c0; have Tar1 := (Ta_3.out.keep hS).c1; have Tar2 := (Ta_3.out.keep hS).lt; have Tbr0 := (Tb_3.out.keep hS).c0; have Tbr1 := (Tb_3.out.keep hS).c1; have Tbr2 := (Tb_3.out.keep hS).lt; clear hb) | (go_at_call 14; (with_reducible refine (RVb.out _ (Sb_3.out.keep hS)).mono ?_); rintro e w' ⟨rfl, hb⟩; replace hS := down hS hb; have Tar0 := (Ta_3.out.keep hS).c0; have Tar1 := (Ta_3.out.keep hS).c1; have Tar2 := (Ta_3.out.keep hS).lt; have Tbr0 := (Tb_3.out.keep hS).c0; have Tbr1 := (Tb_3.out.keep hS).c1; have Tbr2 := (Tb_3.out.keep hS).lt; clear hb))
          all_goals
            go_wp2_with (first | (go_at_call 15; (with_reducible refine (UV.out _ (Sa_3.out.keep hS)).mono ?_); rintro e w' ⟨rfl, hb⟩; replace hS := down hS hb; have Tar0 := (Ta_3.out.keep hS).c0; have Tar1 := (Ta_3.out.keep hS).c1; have Tar2 := (Ta_3.out.keep hS).lt; have Tbr0 := (Tb_3.out.keep hS).c0; have Tbr1 := (Tb_3.out.keep hS).c1; have Tbr2 := (Tb_3.out.keep hS).lt; clear hb) | (go_at_call 16; (with_reducible refine (UH.out _ (Sa_3.out.keep hS)).mono ?_); rintro e w' ⟨rfl, hb⟩; replace hS := down hS hb; have Tar0 := (Ta_3.out.keep hS).c0; have Tar1 := (Ta_3.out.keep hS).c1; have Tar2 := (Ta_3.out.keep hS).lt; have Tbr0 := (Tb_3.out.keep hS).c0; have Tbr1 := (Tb_3.out.keep hS).c1; have Tbr2 := (Tb_3.out.keep hS).lt; clear hb) | (go_at_call 18; (with_reducible refine (UE.out _ (Sa_3.out.keep hS) (Sb_3.out.keep hS)).mono ?_); rintro e w' ⟨rfl, hb⟩; replace hS := down hS hb; have Tar0 := (Ta_3.out.keep hS).c0; have Tar1 := (Ta_3.out.keep hS).c1; have Tar2 := (Ta_3.out.keep hS).lt; have Tbr0 := (Tb_3.out.keep hS).c0; have Tbr1 := (Tb_3.out.keep hS).c1; have Tbr2 := (Tb_3.out.keep hS).lt; clear hb) | (go_at_call 19; (with_reducible refine (RE.out _ (Sa_3.out.keep hS) (Sb_3.out.keep hS)).mono ?_); rintro e w' ⟨rfl, hb⟩; replace hS := down hS hb; have Tar0 := (Ta_3.out.keep hS).c0; have Tar1 := (Ta_3.out.keep hS).c1; have Tar2 := (Ta_3.out.keep hS).lt; have Tbr0 := (Tb_3.out.keep hS).c0; have Tbr1 := (Tb_3.out.keep hS).c1; have Tbr2 := (Tb_3.out.keep hS).lt; clear hb))
            go_ret
            exact ⟨rfl, down AF_3.out hS⟩
      · have pv := pv_iff.1 p
        have p0 := pv.p0
        have p1 := pv.p1
        have RH := Lib.hid (fun W (p : PairS ba W (.slice oa A.length ca) A) => by have h := rphas _ Pa A hA (by omega) (by omega) x hx W p; exact h)
        replace same := same p
        rw [p] at RVa UV UH UE
        simp only [Bool.true_and] at UH UE
        generalize pvB Pb B = q at *
        generalize (decide (Pa = Pb) && decide (A = B)) = E at *
        generalize hsP Pa A x = h at *
        clear eb p ga gb gt hA hB hx hPa hPb pv p0 p1
        cases q
        · obtain rfl := same rfl
          clear same
          cases h
          all_goals
            go_enter Try.func3, Try.ntmps3
            obtain ⟨Tar0, Tar1, Tar2⟩ := Ta_0.out
            obtain ⟨Tbr0, Tbr1, Tbr2⟩ := Tb_0.out
            go_wp2_with fail
            clear Tar0 Tar1 Tar2 Tbr0 Tbr1 Tbr2
            generalize ((w.alloc (.cells #[.int .i64 Pa, .slice oa A.length ca] 24)).alloc (.cells #[.int .i64 Pb, .slice ob B.length cb] 24)) = w0 at *
            refine (AW.out _).mono ?_
            rintro e w1 ⟨rfl, hb⟩
            have AF_1 := Lib.hid (down AF_0.out hb)
            have Ta_1 := Lib.hid (Ta_0.out.keep hb)
            have Tb_1 := Lib.hid (Tb_0.out.keep hb)
            have Sa_1 := Lib.hid (Sa_0.out.keep hb)
            have Sb_1 := Lib.hid (Sb_0.out.keep hb)
            clear hb AF_0 Ta_0 Tb_0 Sa_0 Sb_0
            obtain ⟨Tar0, Tar1, Tar2⟩ := Ta_1.out
            obtain ⟨Tbr0, Tbr1, Tbr2⟩ := Tb_1.out
            go_wp2_with fail
            clear Tar0 Tar1 Tar2 Tbr0 Tbr1 Tbr2
            refine (LOa.out _).mono ?_
            rintro e w2 ⟨rfl, hb⟩
            have AF_2 := Lib.hid (down AF_1.out hb)
            have Ta_2 := Lib.hid (Ta_1.out.keep hb)
            have Tb_2 := Lib.hid (Tb_1.out.keep hb)
            have Sa_2 := Lib.hid (Sa_1.out.keep hb)
            have Sb_2 := Lib.hid (Sb_1.out.keep hb)
            clear hb AF_1 Ta_1 Tb_1 Sa_1 Sb_1
            obtain ⟨Tar0, Tar1, Tar2⟩ := Ta_2.out
            obtain ⟨Tbr0, Tbr1, Tbr2⟩ := Tb_2.out
            go_wp2_with fail
            clear Tar0 Tar1 Tar2 Tbr0 Tbr1 Tbr2
            refine (LOb.out _).mono ?_
            rintro e w3 ⟨rfl, hb⟩
            have AF_3 := Lib.hid (down AF_2.out hb)
            have Ta_3 := Lib.hid (Ta_2.out.keep hb)
            have Tb_3 := Lib.hid (Tb_2.out.keep hb)
            have Sa_3 := Lib.hid (Sa_2.out.keep hb)
            have Sb_3 := Lib.hid (Sb_2.out.keep hb)
            clear hb AF_2 Ta_2 Tb_2 Sa_2 Sb_2
            have hS := Below.drew (here w3)
            obtain ⟨Tar0, Tar1, Tar2⟩ := Ta_3.out
            obtain ⟨Tbr0, Tbr1, Tbr2⟩ := Tb_3.out
            go_wp2
            go_region_with (first | (go_at_call 14; (with_reducible refine (RVa.out _ (Sa_3.out.keep hS)).mono ?_); rintro e w' ⟨rfl, hb⟩; replace hS := down hS hb; have Tar0 := (Ta_3.out.keep hS).c0; have Tar1 := (Ta_3.out.keep hS).c1; have Tar2 := (Ta_3.out.keep hS).lt; have Tbr0 := (Tb_3.out.keep hS).c0; have Tbr1 := (Tb_3.out.keep hS).c1; have Tbr2 := (Tb_3.out.keep hS).lt; clear hb) | (go_at_call 14; (with_reducible refine (RVb.out _ (Sb_3.out.keep hS)).mono ?_); rintro e w' ⟨rfl, hb⟩; replace hS := down hS hb; have Tar0 := (Ta_3.out.keep hS).c0; have Tar1 := (Ta_3.out.keep hS).c1; have Tar2 := (Ta_3.out.keep hS).lt; have Tbr0 := (Tb_3.out.keep hS).c0; have Tbr1 := (Tb_3.out.keep hS).c1; have Tbr2 := (Tb_3.out.keep hS).lt; clear hb))
            all_goals
              go_wp2_with (first | (go_at_call 15; (with_reducible refine (UV.out _ (Sa_3.out.keep hS)).mono ?_); rintro e w' ⟨rfl, hb⟩; replace hS := down hS hb; have Tar0 := (Ta_3.out.keep hS).c0; have Tar1 := (Ta_3.out.keep hS).c1; have Tar2 := (Ta_3.out.keep hS).lt; have Tbr0 := (Tb_3.out.keep hS).c0; have Tbr1 := (Tb_3.out.keep hS).c1; have Tbr2 := (Tb_3.out.keep hS).lt; clear hb) | (go_at_call 16; (with_reducible refine (UH.out _ (Sa_3.out.keep hS)).mono ?_); rintro e w' ⟨rfl, hb⟩; replace hS := down hS hb; have Tar0 := (Ta_3.out.keep hS).c0; have Tar1 := (Ta_3.out.keep hS).c1; have Tar2 := (Ta_3.out.keep hS).lt; have Tbr0 := (Tb_3.out.keep hS).c0; have Tbr1 := (Tb_3.out.keep hS).c1; have Tbr2 := (Tb_3.out.keep hS).lt; clear hb) | (go_at_call 17; (with_reducible refine (RH.out _ (Sa_3.out.keep hS)).mono ?_); rintro e w' ⟨rfl, hb⟩; replace hS := down hS hb; have Tar0 := (Ta_3.out.keep hS).c0; have Tar1 := (Ta_3.out.keep hS).c1; have Tar2 := (Ta_3.out.keep hS).lt; have Tbr0 := (Tb_3.out.keep hS).c0; have Tbr1 := (Tb_3.out.keep hS).c1; have Tbr2 := (Tb_3.out.keep hS).lt; clear hb) | (go_at_call 18; (with_reducible refine (UE.out _ (Sa_3.out.keep hS) (Sb_3.out.keep hS)).mono ?_); rintro e w' ⟨rfl, hb⟩; replace hS := down hS hb; have Tar0 := (Ta_3.out.keep hS).c0; have Tar1 := (Ta_3.out.keep hS).c1; have Tar2 := (Ta_3.out.keep hS).lt; have Tbr0 := (Tb_3.out.keep hS).c0; have Tbr1 := (Tb_3.out.keep hS).c1; have Tbr2 := (Tb_3.out.keep hS).lt; clear hb) | (go_at_call 19; (with_reducible refine (RE.out _ (Sa_3.out.keep hS) (Sb_3.out.keep hS)).mono ?_); rintro e w' ⟨rfl, hb⟩; replace hS := down hS hb; have Tar0 := (Ta_3.out.keep hS).c0; have Tar1 := (Ta_3.out.keep hS).c1; have Tar2 := (Ta_3.out.keep hS).lt; have Tbr0 := (Tb_3.out.keep hS).c0; have Tbr1 := (Tb_3.out.keep hS).c1; have Tbr2 := (Tb_3.out.keep hS).lt; clear hb))
              go_ret
              exact ⟨rfl, down AF_3.out hS⟩
        · clear same
          cases E
          all_goals
            cases h
            all_goals
              go_enter Try.func3, Try.ntmps3
              obtain ⟨Tar0, Tar1, Tar2⟩ := Ta_0.out
              obtain ⟨Tbr0, Tbr1, Tbr2⟩ := Tb_0.out
              go_wp2_with fail
              clear Tar0 Tar1 Tar2 Tbr0 Tbr1 Tbr2
              generalize ((w.alloc (.cells #[.int .i64 Pa, .slice oa A.length ca] 24)).alloc (.cells #[.int .i64 Pb, .slice ob B.length cb] 24)) = w0 at *
              refine (AW.out _).mono ?_
              rintro e w1 ⟨rfl, hb⟩
              have AF_1 := Lib.hid (down AF_0.out hb)
              have Ta_1 := Lib.hid (Ta_0.out.keep hb)
              have Tb_1 := Lib.hid (Tb_0.out.keep hb)
              have Sa_1 := Lib.hid (Sa_0.out.keep hb)
              have Sb_1 := Lib.hid (Sb_0.out.keep hb)
              clear hb AF_0 Ta_0 Tb_0 Sa_0 Sb_0
              obtain ⟨Tar0, Tar1, Tar2⟩ := Ta_1.out
              obtain ⟨Tbr0, Tbr1, Tbr2⟩ := Tb_1.out
              go_wp2_with fail
              clear Tar0 Tar1 Tar2 Tbr0 Tbr1 Tbr2
              refine (LOa.out _).mono ?_
              rintro e w2 ⟨rfl, hb⟩
              have AF_2 := Lib.hid (down AF_1.out hb)
              have Ta_2 := Lib.hid (Ta_1.out.keep hb)
              have Tb_2 := Lib.hid (Tb_1.out.keep hb)
              have Sa_2 := Lib.hid (Sa_1.out.keep hb)
              have Sb_2 := Lib.hid (Sb_1.out.keep hb)
              clear hb AF_1 Ta_1 Tb_1 Sa_1 Sb_1
              obtain ⟨Tar0, Tar1, Tar2⟩ := Ta_2.out
              obtain ⟨Tbr0, Tbr1, Tbr2⟩ := Tb_2.out
              go_wp2_with fail
              clear Tar0 Tar1 Tar2 Tbr0 Tbr1 Tbr2
              refine (LOb.out _).mono ?_
              rintro e w3 ⟨rfl, hb⟩
              have AF_3 := Lib.hid (down AF_2.out hb)
              have Ta_3 := Lib.hid (Ta_2.out.keep hb)
              have Tb_3 := Lib.hid (Tb_2.out.keep hb)
              have Sa_3 := Lib.hid (Sa_2.out.keep hb)
              have Sb_3 := Lib.hid (Sb_2.out.keep hb)
              clear hb AF_2 Ta_2 Tb_2 Sa_2 Sb_2
              have hS := Below.drew (here w3)
              obtain ⟨Tar0, Tar1, Tar2⟩ := Ta_3.out
              obtain ⟨Tbr0, Tbr1, Tbr2⟩ := Tb_3.out
              go_wp2
              go_region_with (first | (go_at_call 14; (with_reducible refine (RVa.out _ (Sa_3.out.keep hS)).mono ?_); rintro e w' ⟨rfl, hb⟩; replace hS := down hS hb; have Tar0 := (Ta_3.out.keep hS).c0; have Tar1 := (Ta_3.out.keep hS).c1; have Tar2 := (Ta_3.out.keep hS).lt; have Tbr0 := (Tb_3.out.keep hS).c0; have Tbr1 := (Tb_3.out.keep hS).c1; have Tbr2 := (Tb_3.out.keep hS).lt; clear hb) | (go_at_call 14; (with_reducible refine (RVb.out _ (Sb_3.out.keep hS)).mono ?_); rintro e w' ⟨rfl, hb⟩; replace hS := down hS hb; have Tar0 := (Ta_3.out.keep hS).c0; have Tar1 := (Ta_3.out.keep hS).c1; have Tar2 := (Ta_3.out.keep hS).lt; have Tbr0 := (Tb_3.out.keep hS).c0; have Tbr1 := (Tb_3.out.keep hS).c1; have Tbr2 := (Tb_3.out.keep hS).lt; clear hb))
              all_goals
                go_wp2_with (first | (go_at_call 15; (with_reducible refine (UV.out _ (Sa_3.out.keep hS)).mono ?_); rintro e w' ⟨rfl, hb⟩; replace hS := down hS hb; have Tar0 := (Ta_3.out.keep hS).c0; have Tar1 := (Ta_3.out.keep hS).c1; have Tar2 := (Ta_3.out.keep hS).lt; have Tbr0 := (Tb_3.out.keep hS).c0; have Tbr1 := (Tb_3.out.keep hS).c1; have Tbr2 := (Tb_3.out.keep hS).lt; clear hb) | (go_at_call 16; (with_reducible refine (UH.out _ (Sa_3.out.keep hS)).mono ?_); rintro e w' ⟨rfl, hb⟩; replace hS := down hS hb; have Tar0 := (Ta_3.out.keep hS).c0; have Tar1 := (Ta_3.out.keep hS).c1; have Tar2 := (Ta_3.out.keep hS).lt; have Tbr0 := (Tb_3.out.keep hS).c0; have Tbr1 := (Tb_3.out.keep hS).c1; have Tbr2 := (Tb_3.out.keep hS).lt; clear hb) | (go_at_call 17; (with_reducible refine (RH.out _ (Sa_3.out.keep hS)).mono ?_); rintro e w' ⟨rfl, hb⟩; replace hS := down hS hb; have Tar0 := (Ta_3.out.keep hS).c0; have Tar1 := (Ta_3.out.keep hS).c1; have Tar2 := (Ta_3.out.keep hS).lt; have Tbr0 := (Tb_3.out.keep hS).c0; have Tbr1 := (Tb_3.out.keep hS).c1; have Tbr2 := (Tb_3.out.keep hS).lt; clear hb) | (go_at_call 18; (with_reducible refine (UE.out _ (Sa_3.out.keep hS) (Sb_3.out.keep hS)).mono ?_); rintro e w' ⟨rfl, hb⟩; replace hS := down hS hb; have Tar0 := (Ta_3.out.keep hS).c0; have Tar1 := (Ta_3.out.keep hS).c1; have Tar2 := (Ta_3.out.keep hS).lt; have Tbr0 := (Tb_3.out.keep hS).c0; have Tbr1 := (Tb_3.out.keep hS).c1; have Tbr2 := (Tb_3.out.keep hS).lt; clear hb) | (go_at_call 19; (with_reducible refine (RE.out _ (Sa_3.out.keep hS) (Sb_3.out.keep hS)).mono ?_); rintro e w' ⟨rfl, hb⟩; replace hS := down hS hb; have Tar0 := (Ta_3.out.keep hS).c0; have Tar1 := (Ta_3.out.keep hS).c1; have Tar2 := (Ta_3.out.keep hS).lt; have Tbr0 := (Tb_3.out.keep hS).c0; have Tbr1 := (Tb_3.out.keep hS).c1; have Tbr2 := (Tb_3.out.keep hS).lt; clear hb))
                go_ret
                exact ⟨rfl, down AF_3.out hS⟩
    · rw [gb] at LOb
      clear ga gb hA hB hx hPa hPb
      go_enter Try.func3, Try.ntmps3
      obtain ⟨Tar0, Tar1, Tar2⟩ := Ta_0.out
      obtain ⟨Tbr0, Tbr1, Tbr2⟩ := Tb_0.out
      go_wp2_with fail
      clear Tar0 Tar1 Tar2 Tbr0 Tbr1 Tbr2
      generalize ((w.alloc (.cells #[.int .i64 Pa, .slice oa A.length ca] 24)).alloc (.cells #[.int .i64 Pb, .slice ob B.length cb] 24)) = w0 at *
      refine (AW.out _).mono ?_
      rintro e w1 ⟨rfl, hb⟩
      have AF_1 := Lib.hid (down AF_0.out hb)
      have Ta_1 := Lib.hid (Ta_0.out.keep hb)
      have Tb_1 := Lib.hid (Tb_0.out.keep hb)
      have Sa_1 := Lib.hid (Sa_0.out.keep hb)
      have Sb_1 := Lib.hid (Sb_0.out.keep hb)
      clear hb AF_0 Ta_0 Tb_0 Sa_0 Sb_0
      obtain ⟨Tar0, Tar1, Tar2⟩ := Ta_1.out
      obtain ⟨Tbr0, Tbr1, Tbr2⟩ := Tb_1.out
      go_wp2_with fail
      clear Tar0 Tar1 Tar2 Tbr0 Tbr1 Tbr2
      refine (LOa.out _).mono ?_
      rintro e w2 ⟨rfl, hb⟩
      have AF_2 := Lib.hid (down AF_1.out hb)
      have Ta_2 := Lib.hid (Ta_1.out.keep hb)
      have Tb_2 := Lib.hid (Tb_1.out.keep hb)
      have Sa_2 := Lib.hid (Sa_1.out.keep hb)
      have Sb_2 := Lib.hid (Sb_1.out.keep hb)
      clear hb AF_1 Ta_1 Tb_1 Sa_1 Sb_1
      obtain ⟨Tar0, Tar1, Tar2⟩ := Ta_2.out
      obtain ⟨Tbr0, Tbr1, Tbr2⟩ := Tb_2.out
      go_wp2_with fail
      clear Tar0 Tar1 Tar2 Tbr0 Tbr1 Tbr2
      refine (LOb.out _).mono ?_
      rintro e w3 ⟨rfl, hb⟩
      have AF_3 := Lib.hid (down AF_2.out hb)
      have Ta_3 := Lib.hid (Ta_2.out.keep hb)
      have Tb_3 := Lib.hid (Tb_2.out.keep hb)
      have Sa_3 := Lib.hid (Sa_2.out.keep hb)
      have Sb_3 := Lib.hid (Sb_2.out.keep hb)
      clear hb AF_2 Ta_2 Tb_2 Sa_2 Sb_2
      obtain ⟨Tar0, Tar1, Tar2⟩ := Ta_3.out
      obtain ⟨Tbr0, Tbr1, Tbr2⟩ := Tb_3.out
      go_wp2_with fail
      clear Tar0 Tar1 Tar2 Tbr0 Tbr1 Tbr2
      refine (AW.out _).mono ?_
      rintro e w4 ⟨rfl, hb⟩
      have AF_4 := Lib.hid (down AF_3.out hb)
      have Ta_4 := Lib.hid (Ta_3.out.keep hb)
      have Tb_4 := Lib.hid (Tb_3.out.keep hb)
      have Sa_4 := Lib.hid (Sa_3.out.keep hb)
      have Sb_4 := Lib.hid (Sb_3.out.keep hb)
      clear hb AF_3 Ta_3 Tb_3 Sa_3 Sb_3
      obtain ⟨Tar0, Tar1, Tar2⟩ := Ta_4.out
      obtain ⟨Tbr0, Tbr1, Tbr2⟩ := Tb_4.out
      go_wp2
      go_ret
      exact ⟨rfl, AF_4.out⟩
  · rw [ga] at LOa
    clear ga hA hB hx hPa hPb
    go_enter Try.func3, Try.ntmps3
    obtain ⟨Tar0, Tar1, Tar2⟩ := Ta_0.out
    obtain ⟨Tbr0, Tbr1, Tbr2⟩ := Tb_0.out
    go_wp2_with fail
    clear Tar0 Tar1 Tar2 Tbr0 Tbr1 Tbr2
    generalize ((w.alloc (.cells #[.int .i64 Pa, .slice oa A.length ca] 24)).alloc (.cells #[.int .i64 Pb, .slice ob B.length cb] 24)) = w0 at *
    refine (AW.out _).mono ?_
    rintro e w1 ⟨rfl, hb⟩
    have AF_1 := Lib.hid (down AF_0.out hb)
    have Ta_1 := Lib.hid (Ta_0.out.keep hb)
    have Tb_1 := Lib.hid (Tb_0.out.keep hb)
    have Sa_1 := Lib.hid (Sa_0.out.keep hb)
    have Sb_1 := Lib.hid (Sb_0.out.keep hb)
    clear hb AF_0 Ta_0 Tb_0 Sa_0 Sb_0
    obtain ⟨Tar0, Tar1, Tar2⟩ := Ta_1.out
    obtain ⟨Tbr0, Tbr1, Tbr2⟩ := Tb_1.out
    go_wp2_with fail
    clear Tar0 Tar1 Tar2 Tbr0 Tbr1 Tbr2
    refine (LOa.out _).mono ?_
    rintro e w2 ⟨rfl, hb⟩
    have AF_2 := Lib.hid (down AF_1.out hb)
    have Ta_2 := Lib.hid (Ta_1.out.keep hb)
    have Tb_2 := Lib.hid (Tb_1.out.keep hb)
    have Sa_2 := Lib.hid (Sa_1.out.keep hb)
    have Sb_2 := Lib.hid (Sb_1.out.keep hb)
    clear hb AF_1 Ta_1 Tb_1 Sa_1 Sb_1
    obtain ⟨Tar0, Tar1, Tar2⟩ := Ta_2.out
    obtain ⟨Tbr0, Tbr1, Tbr2⟩ := Tb_2.out
    go_wp2_with fail
    clear Tar0 Tar1 Tar2 Tbr0 Tbr1 Tbr2
    refine (AW.out _).mono ?_
    rintro e w3 ⟨rfl, hb⟩
    have AF_3 := Lib.hid (down AF_2.out hb)
    have Ta_3 := Lib.hid (Ta_2.out.keep hb)
    have Tb_3 := Lib.hid (Tb_2.out.keep hb)
    have Sa_3 := Lib.hid (Sa_2.out.keep hb)
    have Sb_3 := Lib.hid (Sb_2.out.keep hb)
    clear hb AF_2 Ta_2 Tb_2 Sa_2 Sb_2
    obtain ⟨Tar0, Tar1, Tar2⟩ := Ta_3.out
    obtain ⟨Tbr0, Tbr1, Tbr2⟩ := Tb_3.out
    go_wp2
    go_ret
    exact ⟨rfl, AF_3.out⟩
end Go.Proofs.Ytaikeclfmmnelaa
