/- Law 13: PeriodicCounts. -/
import Derived.Test.YtaikeclfmmnelaaQPeHC
import Derived.Test.YtaikeclfmmnelaaQGI
import Derived.Test.YtaikeclfmmnelaaQPeKK
import Derived.Test.YtaikeclfmmnelaaQGF
import Derived.BigQuiet
import Derived.Deep.QuietTactic
import Derived.Deep.RegionWith
namespace Go.Proofs.Ytaikeclfmmnelaa
open Go.RowKit
set_option linter.unusedVariables false
set_option linter.unusedSimpArgs false

set_option maxRecDepth 100000 in
set_option maxHeartbeats 4000000 in
theorem plcounts (vs : Value) (Ps : Int) (S : List Sp) (hS : S.length ≤ maxLen) (hPs : I64 Ps) (cps : CapS vs) (a : Int) (ha : I64 a) (b : Int) (hbI : I64 b) (c : Int) (hc : I64 c) {bs : Nat} (w : World) (s : PairS bs w vs S) :
    Calls Try.prog 9 #[.agg #[.int .i64 Ps, vs], .int .i64 a, .int .i64 b, .int .i64 c] w fun e w' => e = .returned (.bool true) ∧ Below w.heap.size w w' := by
  have AW := Lib.hid (fun W => rpawake W)
  obtain ⟨os, cs, rfl⟩ := prs_shape s
  have LOs := Lib.hid (fun W => rlong Ps os S.length cs W)
  have AF_0 := Lib.hid (grow (here w) (.cells #[.int .i64 Ps, .slice os S.length cs] 24))
  have Ts_0 := Lib.hid (Two.new (t := 24) (x := .int .i64 Ps) (y := .slice os S.length cs) (here (w.alloc (.cells #[.int .i64 Ps, .slice os S.length cs] 24))))
  have Ss_0 := Lib.hid (s.keep AF_0.out)
  clear s
  have CP := Lib.hid cps
  cases ga : decide (40 < (S.length : Int))
  · rw [ga] at LOs
    have gt := of_decide_eq_false ga
    have UV := Lib.hid (fun W (p : PairS bs W (.slice os S.length cs) S) => by have h := upvalid _ Ps S hS hPs W p; exact h)
    have LA := Lib.hid (fun W => rline a W)
    have LC := Lib.hid (fun W => rline c W)
    cases p : pvB Ps S
    · rw [p] at UV
      clear p ga gt hS ha hbI hc hPs CP cps
      go_enter Try.func9, Try.ntmps9
      obtain ⟨Tsr0, Tsr1, Tsr2⟩ := Ts_0.out
      go_wp2_with fail
      clear Tsr0 Tsr1 Tsr2
      generalize (w.alloc (.cells #[.int .i64 Ps, .slice os S.length cs] 24)) = w0 at *
      refine (AW.out _).mono ?_
      rintro e w1 ⟨rfl, hb⟩
      have AF_1 := Lib.hid (down AF_0.out hb)
      have Ts_1 := Lib.hid (Ts_0.out.keep hb)
      have Ss_1 := Lib.hid (Ss_0.out.keep hb)
      clear hb AF_0 Ts_0 Ss_0
      obtain ⟨Tsr0, Tsr1, Tsr2⟩ := Ts_1.out
      go_wp2_with fail
      clear Tsr0 Tsr1 Tsr2
      refine (LOs.out _).mono ?_
      rintro e w2 ⟨rfl, hb⟩
      have AF_2 := Lib.hid (down AF_1.out hb)
      have Ts_2 := Lib.hid (Ts_1.out.keep hb)
      have Ss_2 := Lib.hid (Ss_1.out.keep hb)
      clear hb AF_1 Ts_1 Ss_1
      obtain ⟨Tsr0, Tsr1, Tsr2⟩ := Ts_2.out
      go_wp2_with fail
      clear Tsr0 Tsr1 Tsr2
      refine (UV.out _ Ss_2.out).mono ?_
      rintro e w3 ⟨rfl, hb⟩
      have AF_3 := Lib.hid (down AF_2.out hb)
      have Ts_3 := Lib.hid (Ts_2.out.keep hb)
      have Ss_3 := Lib.hid (Ss_2.out.keep hb)
      clear hb AF_2 Ts_2 Ss_2
      obtain ⟨Tsr0, Tsr1, Tsr2⟩ := Ts_3.out
      go_wp2_with fail
      clear Tsr0 Tsr1 Tsr2
      refine (AW.out _).mono ?_
      rintro e w4 ⟨rfl, hb⟩
      have AF_4 := Lib.hid (down AF_3.out hb)
      have Ts_4 := Lib.hid (Ts_3.out.keep hb)
      have Ss_4 := Lib.hid (Ss_3.out.keep hb)
      clear hb AF_3 Ts_3 Ss_3
      obtain ⟨Tsr0, Tsr1, Tsr2⟩ := Ts_4.out
      go_wp2
      go_ret
      exact ⟨rfl, AF_4.out⟩
    · rw [p] at UV
      cases na : nvB a
      · rw [na] at LA
        clear p na ga gt hS ha hbI hc hPs CP cps
        go_enter Try.func9, Try.ntmps9
        obtain ⟨Tsr0, Tsr1, Tsr2⟩ := Ts_0.out
        go_wp2_with fail
        clear Tsr0 Tsr1 Tsr2
        generalize (w.alloc (.cells #[.int .i64 Ps, .slice os S.length cs] 24)) = w0 at *
        refine (AW.out _).mono ?_
        rintro e w1 ⟨rfl, hb⟩
        have AF_1 := Lib.hid (down AF_0.out hb)
        have Ts_1 := Lib.hid (Ts_0.out.keep hb)
        have Ss_1 := Lib.hid (Ss_0.out.keep hb)
        clear hb AF_0 Ts_0 Ss_0
        obtain ⟨Tsr0, Tsr1, Tsr2⟩ := Ts_1.out
        go_wp2_with fail
        clear Tsr0 Tsr1 Tsr2
        refine (LOs.out _).mono ?_
        rintro e w2 ⟨rfl, hb⟩
        have AF_2 := Lib.hid (down AF_1.out hb)
        have Ts_2 := Lib.hid (Ts_1.out.keep hb)
        have Ss_2 := Lib.hid (Ss_1.out.keep hb)
        clear hb AF_1 Ts_1 Ss_1
        obtain ⟨Tsr0, Tsr1, Tsr2⟩ := Ts_2.out
        go_wp2_with fail
        clear Tsr0 Tsr1 Tsr2
        refine (UV.out _ Ss_2.out).mono ?_
        rintro e w3 ⟨rfl, hb⟩
        have AF_3 := Lib.hid (down AF_2.out hb)
        have Ts_3 := Lib.hid (Ts_2.out.keep hb)
        have Ss_3 := Lib.hid (Ss_2.out.keep hb)
        clear hb AF_2 Ts_2 Ss_2
        obtain ⟨Tsr0, Tsr1, Tsr2⟩ := Ts_3.out
        go_wp2_with fail
        clear Tsr0 Tsr1 Tsr2
        refine (LA.out _).mono ?_
        rintro e w4 ⟨rfl, hb⟩
        have AF_4 := Lib.hid (down AF_3.out hb)
        have Ts_4 := Lib.hid (Ts_3.out.keep hb)
        have Ss_4 := Lib.hid (Ss_3.out.keep hb)
        clear hb AF_3 Ts_3 Ss_3
        obtain ⟨Tsr0, Tsr1, Tsr2⟩ := Ts_4.out
        go_wp2_with fail
        clear Tsr0 Tsr1 Tsr2
        refine (AW.out _).mono ?_
        rintro e w5 ⟨rfl, hb⟩
        have AF_5 := Lib.hid (down AF_4.out hb)
        have Ts_5 := Lib.hid (Ts_4.out.keep hb)
        have Ss_5 := Lib.hid (Ss_4.out.keep hb)
        clear hb AF_4 Ts_4 Ss_4
        obtain ⟨Tsr0, Tsr1, Tsr2⟩ := Ts_5.out
        go_wp2
        go_ret
        exact ⟨rfl, AF_5.out⟩
      · rw [na] at LA
        cases nc : nvB c
        · rw [nc] at LC
          clear p na nc ga gt hS ha hbI hc hPs CP cps
          go_enter Try.func9, Try.ntmps9
          obtain ⟨Tsr0, Tsr1, Tsr2⟩ := Ts_0.out
          go_wp2_with fail
          clear Tsr0 Tsr1 Tsr2
          generalize (w.alloc (.cells #[.int .i64 Ps, .slice os S.length cs] 24)) = w0 at *
          refine (AW.out _).mono ?_
          rintro e w1 ⟨rfl, hb⟩
          have AF_1 := Lib.hid (down AF_0.out hb)
          have Ts_1 := Lib.hid (Ts_0.out.keep hb)
          have Ss_1 := Lib.hid (Ss_0.out.keep hb)
          clear hb AF_0 Ts_0 Ss_0
          obtain ⟨Tsr0, Tsr1, Tsr2⟩ := Ts_1.out
          go_wp2_with fail
          clear Tsr0 Tsr1 Tsr2
          refine (LOs.out _).mono ?_
          rintro e w2 ⟨rfl, hb⟩
          have AF_2 := Lib.hid (down AF_1.out hb)
          have Ts_2 := Lib.hid (Ts_1.out.keep hb)
          have Ss_2 := Lib.hid (Ss_1.out.keep hb)
          clear hb AF_1 Ts_1 Ss_1
          obtain ⟨Tsr0, Tsr1, Tsr2⟩ := Ts_2.out
          go_wp2_with fail
          clear Tsr0 Tsr1 Tsr2
          refine (UV.out _ Ss_2.out).mono ?_
          rintro e w3 ⟨rfl, hb⟩
          have AF_3 := Lib.hid (down AF_2.out hb)
          have Ts_3 := Lib.hid (Ts_2.out.keep hb)
          have Ss_3 := Lib.hid (Ss_2.out.keep hb)
          clear hb AF_2 Ts_2 Ss_2
          obtain ⟨Tsr0, Tsr1, Tsr2⟩ := Ts_3.out
          go_wp2_with fail
          clear Tsr0 Tsr1 Tsr2
          refine (LA.out _).mono ?_
          rintro e w4 ⟨rfl, hb⟩
          have AF_4 := Lib.hid (down AF_3.out hb)
          have Ts_4 := Lib.hid (Ts_3.out.keep hb)
          have Ss_4 := Lib.hid (Ss_3.out.keep hb)
          clear hb AF_3 Ts_3 Ss_3
          obtain ⟨Tsr0, Tsr1, Tsr2⟩ := Ts_4.out
          go_wp2_with fail
          clear Tsr0 Tsr1 Tsr2
          refine (LC.out _).mono ?_
          rintro e w5 ⟨rfl, hb⟩
          have AF_5 := Lib.hid (down AF_4.out hb)
          have Ts_5 := Lib.hid (Ts_4.out.keep hb)
          have Ss_5 := Lib.hid (Ss_4.out.keep hb)
          clear hb AF_4 Ts_4 Ss_4
          obtain ⟨Tsr0, Tsr1, Tsr2⟩ := Ts_5.out
          go_wp2_with fail
          clear Tsr0 Tsr1 Tsr2
          refine (AW.out _).mono ?_
          rintro e w6 ⟨rfl, hb⟩
          have AF_6 := Lib.hid (down AF_5.out hb)
          have Ts_6 := Lib.hid (Ts_5.out.keep hb)
          have Ss_6 := Lib.hid (Ss_5.out.keep hb)
          clear hb AF_5 Ts_5 Ss_5
          obtain ⟨Tsr0, Tsr1, Tsr2⟩ := Ts_6.out
          go_wp2
          go_ret
          exact ⟨rfl, AF_6.out⟩
        · rw [nc] at LC
          by_cases ab : b ≤ a
          · have kab := decide_eq_true ab
            clear p na nc ga gt hS ha hbI hc hPs CP cps ab
            go_enter Try.func9, Try.ntmps9
            obtain ⟨Tsr0, Tsr1, Tsr2⟩ := Ts_0.out
            go_wp2_with fail
            clear Tsr0 Tsr1 Tsr2
            generalize (w.alloc (.cells #[.int .i64 Ps, .slice os S.length cs] 24)) = w0 at *
            refine (AW.out _).mono ?_
            rintro e w1 ⟨rfl, hb⟩
            have AF_1 := Lib.hid (down AF_0.out hb)
            have Ts_1 := Lib.hid (Ts_0.out.keep hb)
            have Ss_1 := Lib.hid (Ss_0.out.keep hb)
            clear hb AF_0 Ts_0 Ss_0
            obtain ⟨Tsr0, Tsr1, Tsr2⟩ := Ts_1.out
            go_wp2_with fail
            clear Tsr0 Tsr1 Tsr2
            refine (LOs.out _).mono ?_
            rintro e w2 ⟨rfl, hb⟩
            have AF_2 := Lib.hid (down AF_1.out hb)
            have Ts_2 := Lib.hid (Ts_1.out.keep hb)
            have Ss_2 := Lib.hid (Ss_1.out.keep hb)
            clear hb AF_1 Ts_1 Ss_1
            obtain ⟨Tsr0, Tsr1, Tsr2⟩ := Ts_2.out
            go_wp2_with fail
            clear Tsr0 Tsr1 Tsr2
            refine (UV.out _ Ss_2.out).mono ?_
            rintro e w3 ⟨rfl, hb⟩
            have AF_3 := Lib.hid (down AF_2.out hb)
            have Ts_3 := Lib.hid (Ts_2.out.keep hb)
            have Ss_3 := Lib.hid (Ss_2.out.keep hb)
            clear hb AF_2 Ts_2 Ss_2
            obtain ⟨Tsr0, Tsr1, Tsr2⟩ := Ts_3.out
            go_wp2_with fail
            clear Tsr0 Tsr1 Tsr2
            refine (LA.out _).mono ?_
            rintro e w4 ⟨rfl, hb⟩
            have AF_4 := Lib.hid (down AF_3.out hb)
            have Ts_4 := Lib.hid (Ts_3.out.keep hb)
            have Ss_4 := Lib.hid (Ss_3.out.keep hb)
            clear hb AF_3 Ts_3 Ss_3
            obtain ⟨Tsr0, Tsr1, Tsr2⟩ := Ts_4.out
            go_wp2_with fail
            clear Tsr0 Tsr1 Tsr2
            refine (LC.out _).mono ?_
            rintro e w5 ⟨rfl, hb⟩
            have AF_5 := Lib.hid (down AF_4.out hb)
            have Ts_5 := Lib.hid (Ts_4.out.keep hb)
            have Ss_5 := Lib.hid (Ss_4.out.keep hb)
            clear hb AF_4 Ts_4 Ss_4
            obtain ⟨Tsr0, Tsr1, Tsr2⟩ := Ts_5.out
            go_wp2_with fail
            clear Tsr0 Tsr1 Tsr2
            refine (AW.out _).mono ?_
            rintro e w6 ⟨rfl, hb⟩
            have AF_6 := Lib.hid (down AF_5.out hb)
            have Ts_6 := Lib.hid (Ts_5.out.keep hb)
            have Ss_6 := Lib.hid (Ss_5.out.keep hb)
            clear hb AF_5 Ts_5 Ss_5
            obtain ⟨Tsr0, Tsr1, Tsr2⟩ := Ts_6.out
            go_wp2
            go_ret
            exact ⟨rfl, AF_6.out⟩
          · have kab := decide_eq_false ab
            by_cases bc : c ≤ b
            · have kbc := decide_eq_true bc
              clear p na nc ga gt hS ha hbI hc hPs CP cps ab bc
              go_enter Try.func9, Try.ntmps9
              obtain ⟨Tsr0, Tsr1, Tsr2⟩ := Ts_0.out
              go_wp2_with fail
              clear Tsr0 Tsr1 Tsr2
              generalize (w.alloc (.cells #[.int .i64 Ps, .slice os S.length cs] 24)) = w0 at *
              refine (AW.out _).mono ?_
              rintro e w1 ⟨rfl, hb⟩
              have AF_1 := Lib.hid (down AF_0.out hb)
              have Ts_1 := Lib.hid (Ts_0.out.keep hb)
              have Ss_1 := Lib.hid (Ss_0.out.keep hb)
              clear hb AF_0 Ts_0 Ss_0
              obtain ⟨Tsr0, Tsr1, Tsr2⟩ := Ts_1.out
              go_wp2_with fail
              clear Tsr0 Tsr1 Tsr2
              refine (LOs.out _).mono ?_
              rintro e w2 ⟨rfl, hb⟩
              have AF_2 := Lib.hid (down AF_1.out hb)
              have Ts_2 := Lib.hid (Ts_1.out.keep hb)
              have Ss_2 := Lib.hid (Ss_1.out.keep hb)
              clear hb AF_1 Ts_1 Ss_1
              obtain ⟨Tsr0, Tsr1, Tsr2⟩ := Ts_2.out
              go_wp2_with fail
              clear Tsr0 Tsr1 Tsr2
              refine (UV.out _ Ss_2.out).mono ?_
              rintro e w3 ⟨rfl, hb⟩
              have AF_3 := Lib.hid (down AF_2.out hb)
              have Ts_3 := Lib.hid (Ts_2.out.keep hb)
              have Ss_3 := Lib.hid (Ss_2.out.keep hb)
              clear hb AF_2 Ts_2 Ss_2
              obtain ⟨Tsr0, Tsr1, Tsr2⟩ := Ts_3.out
              go_wp2_with fail
              clear Tsr0 Tsr1 Tsr2
              refine (LA.out _).mono ?_
              rintro e w4 ⟨rfl, hb⟩
              have AF_4 := Lib.hid (down AF_3.out hb)
              have Ts_4 := Lib.hid (Ts_3.out.keep hb)
              have Ss_4 := Lib.hid (Ss_3.out.keep hb)
              clear hb AF_3 Ts_3 Ss_3
              obtain ⟨Tsr0, Tsr1, Tsr2⟩ := Ts_4.out
              go_wp2_with fail
              clear Tsr0 Tsr1 Tsr2
              refine (LC.out _).mono ?_
              rintro e w5 ⟨rfl, hb⟩
              have AF_5 := Lib.hid (down AF_4.out hb)
              have Ts_5 := Lib.hid (Ts_4.out.keep hb)
              have Ss_5 := Lib.hid (Ss_4.out.keep hb)
              clear hb AF_4 Ts_4 Ss_4
              obtain ⟨Tsr0, Tsr1, Tsr2⟩ := Ts_5.out
              go_wp2_with fail
              clear Tsr0 Tsr1 Tsr2
              refine (AW.out _).mono ?_
              rintro e w6 ⟨rfl, hb⟩
              have AF_6 := Lib.hid (down AF_5.out hb)
              have Ts_6 := Lib.hid (Ts_5.out.keep hb)
              have Ss_6 := Lib.hid (Ss_5.out.keep hb)
              clear hb AF_5 Ts_5 Ss_5
              obtain ⟨Tsr0, Tsr1, Tsr2⟩ := Ts_6.out
              go_wp2
              go_ret
              exact ⟨rfl, AF_6.out⟩
            · have kbc := decide_eq_false bc
              obtain ⟨a0, a1⟩ := nv_bd na
              obtain ⟨c0, c1⟩ := nv_bd nc
              have pv := pv_iff.1 p
              have p0 := pv.p0
              have p1 := pv.p1
              have U1 : Hid (∀ W, PairS bs W (.slice os S.length cs) S → Calls Try.prog 35 #[.agg #[.int .i64 Ps, .slice os S.length cs], .agg #[.int .i64 a, .int .i64 b]] W fun e w' => e = .returned (.tuple #[.int .i64 (blV Ps S b - blV Ps S a), .int .i64 0]) ∧ Below W.heap.size W w') := fun W q => by
                have h := upcount _ Ps S hS hPs CP.out a b W q
                rw [p, sp_line (x := a) (y := b) (by omega) (by omega) (by omega), Bool.true_and, if_pos rfl] at h
                exact h
              have U2 : Hid (∀ W, PairS bs W (.slice os S.length cs) S → Calls Try.prog 35 #[.agg #[.int .i64 Ps, .slice os S.length cs], .agg #[.int .i64 b, .int .i64 c]] W fun e w' => e = .returned (.tuple #[.int .i64 (blV Ps S c - blV Ps S b), .int .i64 0]) ∧ Below W.heap.size W w') := fun W q => by
                have h := upcount _ Ps S hS hPs CP.out b c W q
                rw [p, sp_line (x := b) (y := c) (by omega) (by omega) (by omega), Bool.true_and, if_pos rfl] at h
                exact h
              have U3 : Hid (∀ W, PairS bs W (.slice os S.length cs) S → Calls Try.prog 35 #[.agg #[.int .i64 Ps, .slice os S.length cs], .agg #[.int .i64 a, .int .i64 c]] W fun e w' => e = .returned (.tuple #[.int .i64 (blV Ps S c - blV Ps S a), .int .i64 0]) ∧ Below W.heap.size W w') := fun W q => by
                have h := upcount _ Ps S hS hPs CP.out a c W q
                rw [p, sp_line (x := a) (y := c) (by omega) (by omega) (by omega), Bool.true_and, if_pos rfl] at h
                exact h
              have U4 : Hid (∀ W, PairS bs W (.slice os S.length cs) S → Calls Try.prog 35 #[.agg #[.int .i64 Ps, .slice os S.length cs], .agg #[.int .i64 0, .int .i64 Ps]] W fun e w' => e = .returned (.tuple #[.int .i64 (blV Ps S Ps - blV Ps S 0), .int .i64 0]) ∧ Below W.heap.size W w') := fun W q => by
                have h := upcount _ Ps S hS hPs CP.out 0 Ps W q
                rw [p, sp_line (x := 0) (y := Ps) (by omega) (by omega) (by omega), Bool.true_and, if_pos rfl] at h
                exact h
              have U5 : nvB (a + Ps) = true → Hid (∀ W, PairS bs W (.slice os S.length cs) S → Calls Try.prog 35 #[.agg #[.int .i64 Ps, .slice os S.length cs], .agg #[.int .i64 a, .int .i64 (a + Ps)]] W fun e w' => e = .returned (.tuple #[.int .i64 (blV Ps S Ps - blV Ps S 0), .int .i64 0]) ∧ Below W.heap.size W w') := fun n W q => by
                have h := upcount _ Ps S hS hPs CP.out a (a + Ps) W q
                obtain ⟨n0, n1⟩ := nv_bd n
                rw [p, sp_line (x := a) (y := a + Ps) (by omega) (by omega) (by omega), Bool.true_and, if_pos rfl, bl_whole pv a] at h
                exact h
              have l40 : S.length ≤ 40 := by omega
              obtain ⟨q0, q1, q2⟩ := no_fine p l40
              have qi := no_i64 p l40
              have ql := no_len Ps S
              have both := bl_both p l40 (show a ≤ c by omega)
              have NO := Lib.hid (fun W (q : PairS bs W (.slice os S.length cs) S) => by have h := upnot _ Ps S hS hPs W q; rw [q0] at h; exact h)
              have UQ := Lib.hid (fun W b1 v1 (cp : CapS v1) (q : PairS b1 W v1 (noR Ps S).1.2) => by have h := upcount v1 (noR Ps S).1.1 (noR Ps S).1.2 (le_mx (by omega)) qi cp a c W q; rw [pv_iff.2 q1, sp_line (x := a) (y := c) (by omega) (by omega) (by omega), Bool.true_and, if_pos rfl] at h; exact h)
              have ba := bl_bound pv a0 a1
              have bb := bl_bound pv (x := b) (by omega) (by omega)
              have bc' := bl_bound pv c0 c1
              have bq := bl_bound q1 a0 a1
              have bq' := bl_bound q1 c0 c1
              have s12 : (blV Ps S b - blV Ps S a) + (blV Ps S c - blV Ps S b) = blV Ps S c - blV Ps S a := by omega
              have m1 : -40000000000000000 ≤ blV Ps S b - blV Ps S a ∧ blV Ps S b - blV Ps S a ≤ 40000000000000000 := by omega
              have m2 : -40000000000000000 ≤ blV Ps S c - blV Ps S b ∧ blV Ps S c - blV Ps S b ≤ 40000000000000000 := by omega
              have m3 : -40000000000000000 ≤ blV Ps S c - blV Ps S a ∧ blV Ps S c - blV Ps S a ≤ 40000000000000000 := by omega
              have m4 : -40000000000000000 ≤ blV (noR Ps S).1.1 (noR Ps S).1.2 c - blV (noR Ps S).1.1 (noR Ps S).1.2 a ∧ blV (noR Ps S).1.1 (noR Ps S).1.2 c - blV (noR Ps S).1.1 (noR Ps S).1.2 a ≤ 40000000000000000 := by omega
              generalize blV Ps S b - blV Ps S a = d1 at *
              generalize blV Ps S c - blV Ps S b = d2 at *
              generalize blV Ps S c - blV Ps S a = d3 at *
              generalize blV (noR Ps S).1.1 (noR Ps S).1.2 c - blV (noR Ps S).1.1 (noR Ps S).1.2 a = d4 at *
              generalize blV Ps S Ps - blV Ps S 0 = d5 at *
              generalize noR Ps S = r at *
              obtain ⟨⟨Q, M⟩, E⟩ := r
              obtain ⟨m10, m11⟩ := m1
              obtain ⟨m20, m21⟩ := m2
              obtain ⟨m30, m31⟩ := m3
              obtain ⟨m40, m41⟩ := m4
              have kd1 : (d1 + d2 != d3) = false := by rw [s12, bne, beq_self_eq_true]; rfl
              have kd2 : (d3 + d4 != c - a) = false := by rw [both, bne, beq_self_eq_true]; rfl
              have kd5 : (d5 == d5) = true := beq_self_eq_true d5
              have LE := Lib.hid (fun W => rline (a + Ps) W)
              clear p na nc ga gt hS ha hbI hc hPs CP cps ab bc pv q0 q1 q2 qi ql both s12 ba bb bc' bq bq' l40
              cases ne : nvB (a + Ps)
              · rw [ne] at LE
                clear ne U4 U5
                go_enter Try.func9, Try.ntmps9
                obtain ⟨Tsr0, Tsr1, Tsr2⟩ := Ts_0.out
                go_wp2_with fail
                clear Tsr0 Tsr1 Tsr2
                generalize (w.alloc (.cells #[.int .i64 Ps, .slice os S.length cs] 24)) = w0 at *
                refine (AW.out _).mono ?_
                rintro e w1 ⟨rfl, hb⟩
                have AF_1 := Lib.hid (down AF_0.out hb)
                have Ts_1 := Lib.hid (Ts_0.out.keep hb)
                have Ss_1 := Lib.hid (Ss_0.out.keep hb)
                clear hb AF_0 Ts_0 Ss_0
                obtain ⟨Tsr0, Tsr1, Tsr2⟩ := Ts_1.out
                go_wp2_with fail
                clear Tsr0 Tsr1 Tsr2
                refine (LOs.out _).mono ?_
                rintro e w2 ⟨rfl, hb⟩
                have AF_2 := Lib.hid (down AF_1.out hb)
                have Ts_2 := Lib.hid (Ts_1.out.keep hb)
                have Ss_2 := Lib.hid (Ss_1.out.keep hb)
                clear hb AF_1 Ts_1 Ss_1
                obtain ⟨Tsr0, Tsr1, Tsr2⟩ := Ts_2.out
                go_wp2_with fail
                clear Tsr0 Tsr1 Tsr2
                refine (UV.out _ Ss_2.out).mono ?_
                rintro e w3 ⟨rfl, hb⟩
                have AF_3 := Lib.hid (down AF_2.out hb)
                have Ts_3 := Lib.hid (Ts_2.out.keep hb)
                have Ss_3 := Lib.hid (Ss_2.out.keep hb)
                clear hb AF_2 Ts_2 Ss_2
                obtain ⟨Tsr0, Tsr1, Tsr2⟩ := Ts_3.out
                go_wp2_with fail
                clear Tsr0 Tsr1 Tsr2
                refine (LA.out _).mono ?_
                rintro e w4 ⟨rfl, hb⟩
                have AF_4 := Lib.hid (down AF_3.out hb)
                have Ts_4 := Lib.hid (Ts_3.out.keep hb)
                have Ss_4 := Lib.hid (Ss_3.out.keep hb)
                clear hb AF_3 Ts_3 Ss_3
                obtain ⟨Tsr0, Tsr1, Tsr2⟩ := Ts_4.out
                go_wp2_with fail
                clear Tsr0 Tsr1 Tsr2
                refine (LC.out _).mono ?_
                rintro e w5 ⟨rfl, hb⟩
                have AF_5 := Lib.hid (down AF_4.out hb)
                have Ts_5 := Lib.hid (Ts_4.out.keep hb)
                have Ss_5 := Lib.hid (Ss_4.out.keep hb)
                clear hb AF_4 Ts_4 Ss_4
                obtain ⟨Tsr0, Tsr1, Tsr2⟩ := Ts_5.out
                go_wp2_with fail
                clear Tsr0 Tsr1 Tsr2
                refine (U1.out _ Ss_5.out).mono ?_
                rintro e w6 ⟨rfl, hb⟩
                have AF_6 := Lib.hid (down AF_5.out hb)
                have Ts_6 := Lib.hid (Ts_5.out.keep hb)
                have Ss_6 := Lib.hid (Ss_5.out.keep hb)
                clear hb AF_5 Ts_5 Ss_5
                obtain ⟨Tsr0, Tsr1, Tsr2⟩ := Ts_6.out
                go_wp2_with fail
                clear Tsr0 Tsr1 Tsr2
                refine (U2.out _ Ss_6.out).mono ?_
                rintro e w7 ⟨rfl, hb⟩
                have AF_7 := Lib.hid (down AF_6.out hb)
                have Ts_7 := Lib.hid (Ts_6.out.keep hb)
                have Ss_7 := Lib.hid (Ss_6.out.keep hb)
                clear hb AF_6 Ts_6 Ss_6
                obtain ⟨Tsr0, Tsr1, Tsr2⟩ := Ts_7.out
                go_wp2_with fail
                clear Tsr0 Tsr1 Tsr2
                refine (U3.out _ Ss_7.out).mono ?_
                rintro e w8 ⟨rfl, hb⟩
                have AF_8 := Lib.hid (down AF_7.out hb)
                have Ts_8 := Lib.hid (Ts_7.out.keep hb)
                have Ss_8 := Lib.hid (Ss_7.out.keep hb)
                clear hb AF_7 Ts_7 Ss_7
                obtain ⟨Tsr0, Tsr1, Tsr2⟩ := Ts_8.out
                go_wp2_with fail
                clear Tsr0 Tsr1 Tsr2
                refine (NO.out _ Ss_8.out).mono ?_
                rintro e w9 ⟨⟨v1, rfl, p, Cv1⟩, hb⟩
                obtain ⟨o1, c1, rfl⟩ := Sl.shape p
                replace Cv1 := Lib.hid Cv1
                have AF_9 := Lib.hid (down AF_8.out hb)
                have Ts_9 := Lib.hid (Ts_8.out.keep hb)
                have Ss_9 := Lib.hid (Ss_8.out.keep hb)
                clear hb AF_8 Ts_8 Ss_8
                have S1_9 := Lib.hid p
                clear p
                have gb := grow (here w9) (.cells #[.int .i64 Q, .slice o1 M.length c1] 24)
                have T1_10 := Lib.hid (Two.new (t := 24) (x := .int .i64 Q) (y := .slice o1 M.length c1) (here (w9.alloc (.cells #[.int .i64 Q, .slice o1 M.length c1] 24))))
                have AF_10 := Lib.hid (down AF_9.out gb)
                have Ts_10 := Lib.hid (Ts_9.out.keep gb)
                have Ss_10 := Lib.hid (Ss_9.out.keep gb)
                have S1_10 := Lib.hid (S1_9.out.keep gb)
                clear gb AF_9 Ts_9 Ss_9 S1_9
                obtain ⟨Tsr0, Tsr1, Tsr2⟩ := Ts_10.out
                obtain ⟨T1r0, T1r1, T1r2⟩ := T1_10.out
                go_wp2_with fail
                clear Tsr0 Tsr1 Tsr2 T1r0 T1r1 T1r2
                generalize (w9.alloc (.cells #[.int .i64 Q, .slice o1 M.length c1] 24)) = w10 at *
                refine (UQ.out _ _ _ Cv1.out S1_10.out).mono ?_
                rintro e w11 ⟨rfl, hb⟩
                have AF_11 := Lib.hid (down AF_10.out hb)
                have Ts_11 := Lib.hid (Ts_10.out.keep hb)
                have T1_11 := Lib.hid (T1_10.out.keep hb)
                have Ss_11 := Lib.hid (Ss_10.out.keep hb)
                have S1_11 := Lib.hid (S1_10.out.keep hb)
                clear hb AF_10 Ts_10 T1_10 Ss_10 S1_10
                obtain ⟨Tsr0, Tsr1, Tsr2⟩ := Ts_11.out
                obtain ⟨T1r0, T1r1, T1r2⟩ := T1_11.out
                go_wp2_with fail
                clear Tsr0 Tsr1 Tsr2 T1r0 T1r1 T1r2
                refine (LE.out _).mono ?_
                rintro e w12 ⟨rfl, hb⟩
                have AF_12 := Lib.hid (down AF_11.out hb)
                have Ts_12 := Lib.hid (Ts_11.out.keep hb)
                have T1_12 := Lib.hid (T1_11.out.keep hb)
                have Ss_12 := Lib.hid (Ss_11.out.keep hb)
                have S1_12 := Lib.hid (S1_11.out.keep hb)
                clear hb AF_11 Ts_11 T1_11 Ss_11 S1_11
                obtain ⟨Tsr0, Tsr1, Tsr2⟩ := Ts_12.out
                obtain ⟨T1r0, T1r1, T1r2⟩ := T1_12.out
                go_wp2
                go_ret
                exact ⟨rfl, AF_12.out⟩
              · rw [ne] at LE
                replace U5 := U5 ne
                clear ne
                go_enter Try.func9, Try.ntmps9
                obtain ⟨Tsr0, Tsr1, Tsr2⟩ := Ts_0.out
                go_wp2_with fail
                clear Tsr0 Tsr1 Tsr2
                generalize (w.alloc (.cells #[.int .i64 Ps, .slice os S.length cs] 24)) = w0 at *
                refine (AW.out _).mono ?_
                rintro e w1 ⟨rfl, hb⟩
                have AF_1 := Lib.hid (down AF_0.out hb)
                have Ts_1 := Lib.hid (Ts_0.out.keep hb)
                have Ss_1 := Lib.hid (Ss_0.out.keep hb)
                clear hb AF_0 Ts_0 Ss_0
                obtain ⟨Tsr0, Tsr1, Tsr2⟩ := Ts_1.out
                go_wp2_with fail
                clear Tsr0 Tsr1 Tsr2
                refine (LOs.out _).mono ?_
                rintro e w2 ⟨rfl, hb⟩
                have AF_2 := Lib.hid (down AF_1.out hb)
                have Ts_2 := Lib.hid (Ts_1.out.keep hb)
                have Ss_2 := Lib.hid (Ss_1.out.keep hb)
                clear hb AF_1 Ts_1 Ss_1
                obtain ⟨Tsr0, Tsr1, Tsr2⟩ := Ts_2.out
                go_wp2_with fail
                clear Tsr0 Tsr1 Tsr2
                refine (UV.out _ Ss_2.out).mono ?_
                rintro e w3 ⟨rfl, hb⟩
                have AF_3 := Lib.hid (down AF_2.out hb)
                have Ts_3 := Lib.hid (Ts_2.out.keep hb)
                have Ss_3 := Lib.hid (Ss_2.out.keep hb)
                clear hb AF_2 Ts_2 Ss_2
                obtain ⟨Tsr0, Tsr1, Tsr2⟩ := Ts_3.out
                go_wp2_with fail
                clear Tsr0 Tsr1 Tsr2
                refine (LA.out _).mono ?_
                rintro e w4 ⟨rfl, hb⟩
                have AF_4 := Lib.hid (down AF_3.out hb)
                have Ts_4 := Lib.hid (Ts_3.out.keep hb)
                have Ss_4 := Lib.hid (Ss_3.out.keep hb)
                clear hb AF_3 Ts_3 Ss_3
                obtain ⟨Tsr0, Tsr1, Tsr2⟩ := Ts_4.out
                go_wp2_with fail
                clear Tsr0 Tsr1 Tsr2
                refine (LC.out _).mono ?_
                rintro e w5 ⟨rfl, hb⟩
                have AF_5 := Lib.hid (down AF_4.out hb)
                have Ts_5 := Lib.hid (Ts_4.out.keep hb)
                have Ss_5 := Lib.hid (Ss_4.out.keep hb)
                clear hb AF_4 Ts_4 Ss_4
                obtain ⟨Tsr0, Tsr1, Tsr2⟩ := Ts_5.out
                go_wp2_with fail
                clear Tsr0 Tsr1 Tsr2
                refine (U1.out _ Ss_5.out).mono ?_
                rintro e w6 ⟨rfl, hb⟩
                have AF_6 := Lib.hid (down AF_5.out hb)
                have Ts_6 := Lib.hid (Ts_5.out.keep hb)
                have Ss_6 := Lib.hid (Ss_5.out.keep hb)
                clear hb AF_5 Ts_5 Ss_5
                obtain ⟨Tsr0, Tsr1, Tsr2⟩ := Ts_6.out
                go_wp2_with fail
                clear Tsr0 Tsr1 Tsr2
                refine (U2.out _ Ss_6.out).mono ?_
                rintro e w7 ⟨rfl, hb⟩
                have AF_7 := Lib.hid (down AF_6.out hb)
                have Ts_7 := Lib.hid (Ts_6.out.keep hb)
                have Ss_7 := Lib.hid (Ss_6.out.keep hb)
                clear hb AF_6 Ts_6 Ss_6
                obtain ⟨Tsr0, Tsr1, Tsr2⟩ := Ts_7.out
                go_wp2_with fail
                clear Tsr0 Tsr1 Tsr2
                refine (U3.out _ Ss_7.out).mono ?_
                rintro e w8 ⟨rfl, hb⟩
                have AF_8 := Lib.hid (down AF_7.out hb)
                have Ts_8 := Lib.hid (Ts_7.out.keep hb)
                have Ss_8 := Lib.hid (Ss_7.out.keep hb)
                clear hb AF_7 Ts_7 Ss_7
                obtain ⟨Tsr0, Tsr1, Tsr2⟩ := Ts_8.out
                go_wp2_with fail
                clear Tsr0 Tsr1 Tsr2
                refine (NO.out _ Ss_8.out).mono ?_
                rintro e w9 ⟨⟨v1, rfl, p, Cv1⟩, hb⟩
                obtain ⟨o1, c1, rfl⟩ := Sl.shape p
                replace Cv1 := Lib.hid Cv1
                have AF_9 := Lib.hid (down AF_8.out hb)
                have Ts_9 := Lib.hid (Ts_8.out.keep hb)
                have Ss_9 := Lib.hid (Ss_8.out.keep hb)
                clear hb AF_8 Ts_8 Ss_8
                have S1_9 := Lib.hid p
                clear p
                have gb := grow (here w9) (.cells #[.int .i64 Q, .slice o1 M.length c1] 24)
                have T1_10 := Lib.hid (Two.new (t := 24) (x := .int .i64 Q) (y := .slice o1 M.length c1) (here (w9.alloc (.cells #[.int .i64 Q, .slice o1 M.length c1] 24))))
                have AF_10 := Lib.hid (down AF_9.out gb)
                have Ts_10 := Lib.hid (Ts_9.out.keep gb)
                have Ss_10 := Lib.hid (Ss_9.out.keep gb)
                have S1_10 := Lib.hid (S1_9.out.keep gb)
                clear gb AF_9 Ts_9 Ss_9 S1_9
                obtain ⟨Tsr0, Tsr1, Tsr2⟩ := Ts_10.out
                obtain ⟨T1r0, T1r1, T1r2⟩ := T1_10.out
                go_wp2_with fail
                clear Tsr0 Tsr1 Tsr2 T1r0 T1r1 T1r2
                generalize (w9.alloc (.cells #[.int .i64 Q, .slice o1 M.length c1] 24)) = w10 at *
                refine (UQ.out _ _ _ Cv1.out S1_10.out).mono ?_
                rintro e w11 ⟨rfl, hb⟩
                have AF_11 := Lib.hid (down AF_10.out hb)
                have Ts_11 := Lib.hid (Ts_10.out.keep hb)
                have T1_11 := Lib.hid (T1_10.out.keep hb)
                have Ss_11 := Lib.hid (Ss_10.out.keep hb)
                have S1_11 := Lib.hid (S1_10.out.keep hb)
                clear hb AF_10 Ts_10 T1_10 Ss_10 S1_10
                obtain ⟨Tsr0, Tsr1, Tsr2⟩ := Ts_11.out
                obtain ⟨T1r0, T1r1, T1r2⟩ := T1_11.out
                go_wp2_with fail
                clear Tsr0 Tsr1 Tsr2 T1r0 T1r1 T1r2
                refine (LE.out _).mono ?_
                rintro e w12 ⟨rfl, hb⟩
                have AF_12 := Lib.hid (down AF_11.out hb)
                have Ts_12 := Lib.hid (Ts_11.out.keep hb)
                have T1_12 := Lib.hid (T1_11.out.keep hb)
                have Ss_12 := Lib.hid (Ss_11.out.keep hb)
                have S1_12 := Lib.hid (S1_11.out.keep hb)
                clear hb AF_11 Ts_11 T1_11 Ss_11 S1_11
                obtain ⟨Tsr0, Tsr1, Tsr2⟩ := Ts_12.out
                obtain ⟨T1r0, T1r1, T1r2⟩ := T1_12.out
                go_wp2_with fail
                clear Tsr0 Tsr1 Tsr2 T1r0 T1r1 T1r2
                refine (U4.out _ Ss_12.out).mono ?_
                rintro e w13 ⟨rfl, hb⟩
                have AF_13 := Lib.hid (down AF_12.out hb)
                have Ts_13 := Lib.hid (Ts_12.out.keep hb)
                have T1_13 := Lib.hid (T1_12.out.keep hb)
                have Ss_13 := Lib.hid (Ss_12.out.keep hb)
                have S1_13 := Lib.hid (S1_12.out.keep hb)
                clear hb AF_12 Ts_12 T1_12 Ss_12 S1_12
                obtain ⟨Tsr0, Tsr1, Tsr2⟩ := Ts_13.out
                obtain ⟨T1r0, T1r1, T1r2⟩ := T1_13.out
                go_wp2_with fail
                clear Tsr0 Tsr1 Tsr2 T1r0 T1r1 T1r2
                refine (U5.out _ Ss_13.out).mono ?_
                rintro e w14 ⟨rfl, hb⟩
                have AF_14 := Lib.hid (down AF_13.out hb)
                have Ts_14 := Lib.hid (Ts_13.out.keep hb)
                have T1_14 := Lib.hid (T1_13.out.keep hb)
                have Ss_14 := Lib.hid (Ss_13.out.keep hb)
                have S1_14 := Lib.hid (S1_13.out.keep hb)
                clear hb AF_13 Ts_13 T1_13 Ss_13 S1_13
                obtain ⟨Tsr0, Tsr1, Tsr2⟩ := Ts_14.out
                obtain ⟨T1r0, T1r1, T1r2⟩ := T1_14.out
                go_wp2
                go_ret
                exact ⟨rfl, AF_14.out⟩
  · rw [ga] at LOs
    clear ga hS ha hbI hc hPs CP cps
    go_enter Try.func9, Try.ntmps9
    obtain ⟨Tsr0, Tsr1, Tsr2⟩ := Ts_0.out
    go_wp2_with fail
    clear Tsr0 Tsr1 Tsr2
    generalize (w.alloc (.cells #[.int .i64 Ps, .slice os S.length cs] 24)) = w0 at *
    refine (AW.out _).mono ?_
    rintro e w1 ⟨rfl, hb⟩
    have AF_1 := Lib.hid (down AF_0.out hb)
    have Ts_1 := Lib.hid (Ts_0.out.keep hb)
    have Ss_1 := Lib.hid (Ss_0.out.keep hb)
    clear hb AF_0 Ts_0 Ss_0
    obtain ⟨Tsr0, Tsr1, Tsr2⟩ := Ts_1.out
    go_wp2_with fail
    clear Tsr0 Tsr1 Tsr2
    refine (LOs.out _).mono ?_
    rintro e w2 ⟨rfl, hb⟩
    have AF_2 := Lib.hid (down AF_1.out hb)
    have Ts_2 := Lib.hid (Ts_1.out.keep hb)
    have Ss_2 := Lib.hid (Ss_1.out.keep hb)
    clear hb AF_1 Ts_1 Ss_1
    obtain ⟨Tsr0, Tsr1, Tsr2⟩ := Ts_2.out
    go_wp2_with fail
    clear Tsr0 Tsr1 Tsr2
    refine (AW.out _).mono ?_
    rintro e w3 ⟨rfl, hb⟩
    have AF_3 := Lib.hid (down AF_2.out hb)
    have Ts_3 := Lib.hid (Ts_2.out.keep hb)
    have Ss_3 := Lib.hid (Ss_2.out.keep hb)
    clear hb AF_2 Ts_2 Ss_2
    obtain ⟨Tsr0, Tsr1, Tsr2⟩ := Ts_3.out
    go_wp2
    go_ret
    exact ⟨rfl, AF_3.out⟩
end Go.Proofs.Ytaikeclfmmnelaa
