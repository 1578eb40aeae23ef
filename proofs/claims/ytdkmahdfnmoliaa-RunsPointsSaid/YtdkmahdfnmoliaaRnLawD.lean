/- Law 12: RunsPoints. -/
import Derived.Test.YtdkmahdfnmoliaaRnK
import Derived.Test.YtdkmahdfnmoliaaRnL
import Derived.BigQuiet
import Derived.Deep.QuietTactic
namespace Go.Proofs.Ytdkmahdfnmoliaa
open Go.RowKit
set_option linter.unusedVariables false
set_option linter.unusedSimpArgs false

set_option maxRecDepth 100000 in
set_option maxHeartbeats 1000000 in
theorem rlpt (v : Value) (L : List Sp) (hL : L.length ≤ maxLen) (e : Int) (want : Bool) (x : Int) (hx : I64 x) (h : (e != 0 || ((vaB L && inB L x) == want)) = true) (g : Nat) {b : Nat} (w : World) (bx : One w g (.int .i64 x)) (p : PairS b w v L) :
    Calls Try.prog 30 #[v, .int .i64 e, .bool want, .pointer (some ⟨g, 0, none⟩)] w fun e w' => e = .returned (.bool true) ∧ Below w.heap.size w w' := by
  have RH := ruhas v L hL x hx w p
  obtain ⟨c0, cl⟩ := bx
  generalize (vaB L && inB L x) = r at *
  cases k : (e != 0)
  · rw [k, Bool.false_or] at h
    clear p hL hx
    go_enter Try.func30, Try.ntmps30
    go_wp2_with fail
    refine RH.mono ?_
    rintro e w1 ⟨rfl, hb⟩
    replace hb := Lib.hid hb
    go_wp2
    go_ret
    exact ⟨rfl, hb.out⟩
  · clear p hL hx h RH
    go_enter Try.func30, Try.ntmps30
    go_wp2
    go_ret
    exact ⟨rfl, here w⟩
set_option maxRecDepth 100000 in
set_option maxHeartbeats 8000000 in
theorem rlpoints (va vb : Value) (A B : List Sp) (hA : A.length ≤ maxLen) (hB : B.length ≤ maxLen) (x0 y0 x : Int) (hx0 : I64 x0) (hy0 : I64 y0) (hx : I64 x) {ba bb : Nat} (w : World) (a : PairS ba w va A) (b : PairS bb w vb B) :
    Calls Try.prog 6 #[va, vb, .agg #[.int .i64 x0, .int .i64 y0], .int .i64 x] w fun e w' => e = .returned (.bool true) ∧ Below w.heap.size w w' := by
  have AW := Lib.hid (fun W => rawake W)
  obtain ⟨oa, ca, rfl⟩ := prs_shape a
  obtain ⟨ob, cb, rfl⟩ := prs_shape b
  have GR := Lib.hid (fun w t => rgr2 oa A.length ca hA ob B.length cb hB w t)
  obtain ⟨wb, hwb⟩ : ∃ w' : World, w.alloc (.cells #[.int .i64 x0, .int .i64 y0] 33) = w' := ⟨_, rfl⟩
  obtain ⟨w0, hw0⟩ : ∃ w' : World, wb.alloc (.cells #[.int .i64 x] 3) = w' := ⟨_, rfl⟩
  have Bb : Below w.heap.size w wb := by rw [← hwb]; exact grow (here w) _
  have Bw : Below wb.heap.size wb w0 := by rw [← hw0]; exact grow (here wb) _
  have A0 : Hid (Below w.heap.size w w0) := down Bb Bw
  have X0 : Hid (Two w0 w.heap.size (.int .i64 x0) (.int .i64 y0)) := by show Two _ _ _ _; exact (show Two wb w.heap.size _ _ by rw [← hwb]; exact Two.new (here _)).keep Bw
  have Z0 : Hid (One w0 wb.heap.size (.int .i64 x)) := by show One _ _ _; rw [← hw0]; exact One.new (here _)
  have PA0 := Lib.hid ((a.keep Bb).keep Bw)
  have PB0 := Lib.hid ((b.keep Bb).keep Bw)
  obtain ⟨g, hg⟩ : ∃ g, wb.heap.size = g := ⟨_, rfl⟩
  rw [hg] at Z0
  clear a b Bb Bw
  have HA := Lib.hid (fun W (p : PairS ba W (.slice oa A.length ca) A) => ruhas _ A hA x hx W p)
  have HB := Lib.hid (fun W (q : PairS bb W (.slice ob B.length cb) B) => ruhas _ B hB x hx W q)
  cases gg : (decide (80 < A.length) || decide (80 < B.length))
  · rw [gg] at GR
    rw [Bool.or_eq_false_iff, decide_eq_false_iff_not, decide_eq_false_iff_not] at gg
    obtain ⟨E, hE⟩ : ∃ E : Int, (if vaB A && vaB B then 0 else 1) = E := ⟨_, rfl⟩
    have f1 := ap_fate 1 (A := A) (B := B) (by omega) (by omega)
    rw [hE] at f1
    have H1 := Lib.hid (fun W (p : PairS ba W (.slice oa A.length ca) A) (q : PairS bb W (.slice ob B.length cb) B) => by have h := ruunion _ _ A B hA hB W p q; rw [f1] at h; exact h)
    have C1 := Lib.hid (fun W b v (z : One W g (.int .i64 x)) (p : PairS b W v (ruAp 1 A B).1) => rlpt v _ (small_max (Nat.le_trans (ap_len 1 A B) (by decide))) E (kpB 1 (vaB A && inB A x) (vaB B && inB B x)) x hx (by rw [← f1]; exact pt_ap 1 (by omega) (by omega) x) g W z p)
    have f2 := ap_fate 2 (A := A) (B := B) (by omega) (by omega)
    rw [hE] at f2
    have H2 := Lib.hid (fun W (p : PairS ba W (.slice oa A.length ca) A) (q : PairS bb W (.slice ob B.length cb) B) => by have h := rumeet _ _ A B hA hB W p q; rw [f2] at h; exact h)
    have C2 := Lib.hid (fun W b v (z : One W g (.int .i64 x)) (p : PairS b W v (ruAp 2 A B).1) => rlpt v _ (small_max (Nat.le_trans (ap_len 2 A B) (by decide))) E (kpB 2 (vaB A && inB A x) (vaB B && inB B x)) x hx (by rw [← f2]; exact pt_ap 2 (by omega) (by omega) x) g W z p)
    have f3 := ap_fate 3 (A := A) (B := B) (by omega) (by omega)
    rw [hE] at f3
    have H3 := Lib.hid (fun W (p : PairS ba W (.slice oa A.length ca) A) (q : PairS bb W (.slice ob B.length cb) B) => by have h := ruminus _ _ A B hA hB W p q; rw [f3] at h; exact h)
    have C3 := Lib.hid (fun W b v (z : One W g (.int .i64 x)) (p : PairS b W v (ruAp 3 A B).1) => rlpt v _ (small_max (Nat.le_trans (ap_len 3 A B) (by decide))) E (kpB 3 (vaB A && inB A x) (vaB B && inB B x)) x hx (by rw [← f3]; exact pt_ap 3 (by omega) (by omega) x) g W z p)
    have f4 := ap_fate 4 (A := A) (B := B) (by omega) (by omega)
    rw [hE] at f4
    have H4 := Lib.hid (fun W (p : PairS ba W (.slice oa A.length ca) A) (q : PairS bb W (.slice ob B.length cb) B) => by have h := rueither _ _ A B hA hB W p q; rw [f4] at h; exact h)
    have C4 := Lib.hid (fun W b v (z : One W g (.int .i64 x)) (p : PairS b W v (ruAp 4 A B).1) => rlpt v _ (small_max (Nat.le_trans (ap_len 4 A B) (by decide))) E (kpB 4 (vaB A && inB A x) (vaB B && inB B x)) x hx (by rw [← f4]; exact pt_ap 4 (by omega) (by omega) x) g W z p)
    have H5 := Lib.hid (fun W (p : PairS ba W (.slice oa A.length ca) A) => runot _ A hA x0 y0 hx0 hy0 W p)
    have C5 := Lib.hid (fun W b v (z : One W g (.int .i64 x)) (p : PairS b W v (ruNot A (x0, y0)).1) => rlpt v _ (small_max (Nat.le_trans (not_len A (x0, y0)) (by decide))) (ruNot A (x0, y0)).2 ((decide (x0 ≤ x) && decide (x < y0)) && !(vaB A && inB A x)) x hx (pt_not (x0, y0) x) g W z p)
    obtain ⟨t, ht⟩ : ∃ t, (E != 0) = t := ⟨_, rfl⟩
    have tt : (t != t) = false := bne_self_eq_false t
    have EB : 0 ≤ E ∧ E ≤ 1 := by rw [← hE]; split <;> omega
    clear f1 f2 f3 f4 gg hE hx hA hB hx0 hy0
    generalize (ruAp 1 A B).1 = U' at *
    generalize (ruAp 2 A B).1 = M' at *
    generalize (ruAp 3 A B).1 = D' at *
    generalize (ruAp 4 A B).1 = S' at *
    generalize ruNot A (x0, y0) = N' at *
    generalize (vaB A && inB A x) = p at *
    generalize (vaB B && inB B x) = q at *
    obtain ⟨k1, h1⟩ : ∃ k1, kpB 1 p q = k1 := ⟨_, rfl⟩
    obtain ⟨k2, h2⟩ : ∃ k2, kpB 2 p q = k2 := ⟨_, rfl⟩
    obtain ⟨k3, h3⟩ : ∃ k3, kpB 3 p q = k3 := ⟨_, rfl⟩
    obtain ⟨k4, h4⟩ : ∃ k4, kpB 4 p q = k4 := ⟨_, rfl⟩
    rw [h1] at C1
    rw [h2] at C2
    rw [h3] at C3
    rw [h4] at C4
    go_enter Try.func6, Try.ntmps6
    go_wp2_with fail
    refine (AW.out _).mono ?_
    rintro e w1 ⟨rfl, hb⟩
    clear hw0 hwb hg
    have A1 := Lib.hid (down A0.out hb)
    have PA1 := Lib.hid (PA0.out.keep hb)
    have PB1 := Lib.hid (PB0.out.keep hb)
    have X1 := Lib.hid (X0.out.keep hb)
    have Z1 := Lib.hid (Z0.out.keep hb)
    clear hb A0 PA0 PB0 X0 Z0
    go_wp2_with fail
    refine (GR.out _ _).mono ?_
    rintro e x0 ⟨rfl, rfl⟩
    obtain ⟨w2, hw2⟩ : ∃ w' : World, w1.alloc (.cells #[.slice oa A.length ca, .slice ob B.length cb] 22) = w' := ⟨_, rfl⟩
    rw [hw2]
    have hb : Below w1.heap.size w1 w2 := by rw [← hw2]; exact grow (here _) _
    clear hw2
    have A2 := Lib.hid (down A1.out hb)
    have PA2 := Lib.hid (PA1.out.keep hb)
    have PB2 := Lib.hid (PB1.out.keep hb)
    have X2 := Lib.hid (X1.out.keep hb)
    have Z2 := Lib.hid (Z1.out.keep hb)
    clear hb A1 PA1 PB1 X1 Z1
    have k0 : ∀ x' : Kept w2, x'.wd.cell? ⟨g, 0, none⟩ = some (.int .i64 x) := fun x' => (Z2.out.keep x'.ok).c
    have GA : Hid (∀ x' : Kept w2, _) := fun x' => HA.out x'.wd (PA2.out.keep x'.ok)
    have GB : Hid (∀ x' : Kept w2, _) := fun x' => HB.out x'.wd (PB2.out.keep x'.ok)
    go_wp2
    refine wp_region_kept (by kernel_rfl) (by kernel_rfl) ?_
    repeat (go_big_quiet_step ((go_at_call 29; first | (with_reducible exact kept_call _ (GA.out _)) | (with_reducible exact kept_call _ (GB.out _)))))
    refine wpQuiet_nil ?_
    intro w3 hx
    obtain ⟨⟨x3, hb⟩, hw⟩ := hx
    replace hw : w3 = x3 := hw
    subst x3
    clear k0 GA GB
    have A3 := Lib.hid (down A2.out hb)
    have PA3 := Lib.hid (PA2.out.keep hb)
    have PB3 := Lib.hid (PB2.out.keep hb)
    have X3 := Lib.hid (X2.out.keep hb)
    have Z3 := Lib.hid (Z2.out.keep hb)
    clear hb A2 PA2 PB2 X2 Z2
    go_wp2_with fail
    refine (H1.out _ PA3.out PB3.out).mono ?_
    rintro e w4 ⟨⟨v1, rfl, U, -⟩, hb⟩
    have A4 := Lib.hid (down A3.out hb)
    have PA4 := Lib.hid (PA3.out.keep hb)
    have PB4 := Lib.hid (PB3.out.keep hb)
    have X4 := Lib.hid (X3.out.keep hb)
    have Z4 := Lib.hid (Z3.out.keep hb)
    clear hb A3 PA3 PB3 X3 Z3
    replace U := Lib.hid U
    have U4 := U
    clear U
    go_wp2_with fail
    refine (H2.out _ PA4.out PB4.out).mono ?_
    rintro e w5 ⟨⟨v2, rfl, M, -⟩, hb⟩
    have A5 := Lib.hid (down A4.out hb)
    have PA5 := Lib.hid (PA4.out.keep hb)
    have PB5 := Lib.hid (PB4.out.keep hb)
    have U5 := Lib.hid (U4.out.keep hb)
    have X5 := Lib.hid (X4.out.keep hb)
    have Z5 := Lib.hid (Z4.out.keep hb)
    clear hb A4 PA4 PB4 U4 X4 Z4
    replace M := Lib.hid M
    have M5 := M
    clear M
    go_wp2_with fail
    refine (H3.out _ PA5.out PB5.out).mono ?_
    rintro e w6 ⟨⟨v3, rfl, D, -⟩, hb⟩
    have A6 := Lib.hid (down A5.out hb)
    have PA6 := Lib.hid (PA5.out.keep hb)
    have PB6 := Lib.hid (PB5.out.keep hb)
    have U6 := Lib.hid (U5.out.keep hb)
    have M6 := Lib.hid (M5.out.keep hb)
    have X6 := Lib.hid (X5.out.keep hb)
    have Z6 := Lib.hid (Z5.out.keep hb)
    clear hb A5 PA5 PB5 U5 M5 X5 Z5
    replace D := Lib.hid D
    have D6 := D
    clear D
    go_wp2_with fail
    refine (H4.out _ PA6.out PB6.out).mono ?_
    rintro e w7 ⟨⟨v4, rfl, S, -⟩, hb⟩
    have A7 := Lib.hid (down A6.out hb)
    have PA7 := Lib.hid (PA6.out.keep hb)
    have PB7 := Lib.hid (PB6.out.keep hb)
    have U7 := Lib.hid (U6.out.keep hb)
    have M7 := Lib.hid (M6.out.keep hb)
    have D7 := Lib.hid (D6.out.keep hb)
    have X7 := Lib.hid (X6.out.keep hb)
    have Z7 := Lib.hid (Z6.out.keep hb)
    clear hb A6 PA6 PB6 U6 M6 D6 X6 Z6
    replace S := Lib.hid S
    have S7 := S
    clear S
    obtain ⟨Xc0, Xc1, Xcl⟩ := X7.out
    obtain ⟨Zc0, Zcl⟩ := Z7.out
    go_wp2_with fail
    refine (H5.out _ PA7.out).mono ?_
    rintro e w8 ⟨⟨v5, rfl, N, -⟩, hb⟩
    clear Xc0 Xc1 Xcl Zc0 Zcl
    have A8 := Lib.hid (down A7.out hb)
    have PA8 := Lib.hid (PA7.out.keep hb)
    have PB8 := Lib.hid (PB7.out.keep hb)
    have U8 := Lib.hid (U7.out.keep hb)
    have M8 := Lib.hid (M7.out.keep hb)
    have D8 := Lib.hid (D7.out.keep hb)
    have S8 := Lib.hid (S7.out.keep hb)
    have X8 := Lib.hid (X7.out.keep hb)
    have Z8 := Lib.hid (Z7.out.keep hb)
    clear hb A7 PA7 PB7 U7 M7 D7 S7 X7 Z7
    replace N := Lib.hid N
    have N8 := N
    clear N
    clear H1 H2 H3 H4 H5 HA HB GR AW
    cases p
    · cases q
      · obtain rfl : k1 = false := h1.symm
        obtain rfl : k2 = false := h2.symm
        obtain rfl : k3 = false := h3.symm
        obtain rfl : k4 = false := h4.symm
        clear h1 h2 h3 h4
        cases i1 : decide (x0 ≤ x)
        · rw [i1, Bool.false_and] at C5
          obtain ⟨k5, h5⟩ : ∃ k5, (false && !false) = k5 := ⟨_, rfl⟩
          rw [h5] at C5
          simp only [Bool.and_true, Bool.and_false, Bool.true_and, Bool.false_and, Bool.not_true, Bool.not_false] at h5
          subst h5
          obtain ⟨Xc0, Xc1, Xcl⟩ := X8.out
          obtain ⟨Zc0, Zcl⟩ := Z8.out
          go_wp2_with fail
          refine (C1.out _ _ _ Z8.out U8.out).mono ?_
          rintro e w9 ⟨rfl, hb⟩
          clear Xc0 Xc1 Xcl Zc0 Zcl
          have A9 := Lib.hid (down A8.out hb)
          have PA9 := Lib.hid (PA8.out.keep hb)
          have PB9 := Lib.hid (PB8.out.keep hb)
          have U9 := Lib.hid (U8.out.keep hb)
          have M9 := Lib.hid (M8.out.keep hb)
          have D9 := Lib.hid (D8.out.keep hb)
          have S9 := Lib.hid (S8.out.keep hb)
          have N9 := Lib.hid (N8.out.keep hb)
          have X9 := Lib.hid (X8.out.keep hb)
          have Z9 := Lib.hid (Z8.out.keep hb)
          clear hb A8 PA8 PB8 U8 M8 D8 S8 N8 X8 Z8
          go_wp2_with fail
          refine (C2.out _ _ _ Z9.out M9.out).mono ?_
          rintro e w10 ⟨rfl, hb⟩
          have A10 := Lib.hid (down A9.out hb)
          have PA10 := Lib.hid (PA9.out.keep hb)
          have PB10 := Lib.hid (PB9.out.keep hb)
          have U10 := Lib.hid (U9.out.keep hb)
          have M10 := Lib.hid (M9.out.keep hb)
          have D10 := Lib.hid (D9.out.keep hb)
          have S10 := Lib.hid (S9.out.keep hb)
          have N10 := Lib.hid (N9.out.keep hb)
          have X10 := Lib.hid (X9.out.keep hb)
          have Z10 := Lib.hid (Z9.out.keep hb)
          clear hb A9 PA9 PB9 U9 M9 D9 S9 N9 X9 Z9
          go_wp2_with fail
          refine (C3.out _ _ _ Z10.out D10.out).mono ?_
          rintro e w11 ⟨rfl, hb⟩
          have A11 := Lib.hid (down A10.out hb)
          have PA11 := Lib.hid (PA10.out.keep hb)
          have PB11 := Lib.hid (PB10.out.keep hb)
          have U11 := Lib.hid (U10.out.keep hb)
          have M11 := Lib.hid (M10.out.keep hb)
          have D11 := Lib.hid (D10.out.keep hb)
          have S11 := Lib.hid (S10.out.keep hb)
          have N11 := Lib.hid (N10.out.keep hb)
          have X11 := Lib.hid (X10.out.keep hb)
          have Z11 := Lib.hid (Z10.out.keep hb)
          clear hb A10 PA10 PB10 U10 M10 D10 S10 N10 X10 Z10
          go_wp2_with fail
          refine (C4.out _ _ _ Z11.out S11.out).mono ?_
          rintro e w12 ⟨rfl, hb⟩
          have A12 := Lib.hid (down A11.out hb)
          have PA12 := Lib.hid (PA11.out.keep hb)
          have PB12 := Lib.hid (PB11.out.keep hb)
          have U12 := Lib.hid (U11.out.keep hb)
          have M12 := Lib.hid (M11.out.keep hb)
          have D12 := Lib.hid (D11.out.keep hb)
          have S12 := Lib.hid (S11.out.keep hb)
          have N12 := Lib.hid (N11.out.keep hb)
          have X12 := Lib.hid (X11.out.keep hb)
          have Z12 := Lib.hid (Z11.out.keep hb)
          clear hb A11 PA11 PB11 U11 M11 D11 S11 N11 X11 Z11
          go_wp2_with fail
          refine (C5.out _ _ _ Z12.out N12.out).mono ?_
          rintro e w13 ⟨rfl, hb⟩
          have A13 := Lib.hid (down A12.out hb)
          have PA13 := Lib.hid (PA12.out.keep hb)
          have PB13 := Lib.hid (PB12.out.keep hb)
          have U13 := Lib.hid (U12.out.keep hb)
          have M13 := Lib.hid (M12.out.keep hb)
          have D13 := Lib.hid (D12.out.keep hb)
          have S13 := Lib.hid (S12.out.keep hb)
          have N13 := Lib.hid (N12.out.keep hb)
          have X13 := Lib.hid (X12.out.keep hb)
          have Z13 := Lib.hid (Z12.out.keep hb)
          clear hb A12 PA12 PB12 U12 M12 D12 S12 N12 X12 Z12
          go_wp2
          go_ret
          exact ⟨rfl, A13.out⟩
        · cases i2 : decide (x < y0)
          · rw [i1, i2, Bool.and_false] at C5
            obtain ⟨k5, h5⟩ : ∃ k5, (false && !false) = k5 := ⟨_, rfl⟩
            rw [h5] at C5
            simp only [Bool.and_true, Bool.and_false, Bool.true_and, Bool.false_and, Bool.not_true, Bool.not_false] at h5
            subst h5
            obtain ⟨Xc0, Xc1, Xcl⟩ := X8.out
            obtain ⟨Zc0, Zcl⟩ := Z8.out
            go_wp2_with fail
            refine (C1.out _ _ _ Z8.out U8.out).mono ?_
            rintro e w9 ⟨rfl, hb⟩
            clear Xc0 Xc1 Xcl Zc0 Zcl
            have A9 := Lib.hid (down A8.out hb)
            have PA9 := Lib.hid (PA8.out.keep hb)
            have PB9 := Lib.hid (PB8.out.keep hb)
            have U9 := Lib.hid (U8.out.keep hb)
            have M9 := Lib.hid (M8.out.keep hb)
            have D9 := Lib.hid (D8.out.keep hb)
            have S9 := Lib.hid (S8.out.keep hb)
            have N9 := Lib.hid (N8.out.keep hb)
            have X9 := Lib.hid (X8.out.keep hb)
            have Z9 := Lib.hid (Z8.out.keep hb)
            clear hb A8 PA8 PB8 U8 M8 D8 S8 N8 X8 Z8
            go_wp2_with fail
            refine (C2.out _ _ _ Z9.out M9.out).mono ?_
            rintro e w10 ⟨rfl, hb⟩
            have A10 := Lib.hid (down A9.out hb)
            have PA10 := Lib.hid (PA9.out.keep hb)
            have PB10 := Lib.hid (PB9.out.keep hb)
            have U10 := Lib.hid (U9.out.keep hb)
            have M10 := Lib.hid (M9.out.keep hb)
            have D10 := Lib.hid (D9.out.keep hb)
            have S10 := Lib.hid (S9.out.keep hb)
            have N10 := Lib.hid (N9.out.keep hb)
            have X10 := Lib.hid (X9.out.keep hb)
            have Z10 := Lib.hid (Z9.out.keep hb)
            clear hb A9 PA9 PB9 U9 M9 D9 S9 N9 X9 Z9
            go_wp2_with fail
            refine (C3.out _ _ _ Z10.out D10.out).mono ?_
            rintro e w11 ⟨rfl, hb⟩
            have A11 := Lib.hid (down A10.out hb)
            have PA11 := Lib.hid (PA10.out.keep hb)
            have PB11 := Lib.hid (PB10.out.keep hb)
            have U11 := Lib.hid (U10.out.keep hb)
            have M11 := Lib.hid (M10.out.keep hb)
            have D11 := Lib.hid (D10.out.keep hb)
            have S11 := Lib.hid (S10.out.keep hb)
            have N11 := Lib.hid (N10.out.keep hb)
            have X11 := Lib.hid (X10.out.keep hb)
            have Z11 := Lib.hid (Z10.out.keep hb)
            clear hb A10 PA10 PB10 U10 M10 D10 S10 N10 X10 Z10
            go_wp2_with fail
            refine (C4.out _ _ _ Z11.out S11.out).mono ?_
            rintro e w12 ⟨rfl, hb⟩
            have A12 := Lib.hid (down A11.out hb)
            have PA12 := Lib.hid (PA11.out.keep hb)
            have PB12 := Lib.hid (PB11.out.keep hb)
            have U12 := Lib.hid (U11.out.keep hb)
            have M12 := Lib.hid (M11.out.keep hb)
            have D12 := Lib.hid (D11.out.keep hb)
            have S12 := Lib.hid (S11.out.keep hb)
            have N12 := Lib.hid (N11.out.keep hb)
            have X12 := Lib.hid (X11.out.keep hb)
            have Z12 := Lib.hid (Z11.out.keep hb)
            clear hb A11 PA11 PB11 U11 M11 D11 S11 N11 X11 Z11
            go_wp2_with fail
            refine (C5.out _ _ _ Z12.out N12.out).mono ?_
            rintro e w13 ⟨rfl, hb⟩
            have A13 := Lib.hid (down A12.out hb)
            have PA13 := Lib.hid (PA12.out.keep hb)
            have PB13 := Lib.hid (PB12.out.keep hb)
            have U13 := Lib.hid (U12.out.keep hb)
            have M13 := Lib.hid (M12.out.keep hb)
            have D13 := Lib.hid (D12.out.keep hb)
            have S13 := Lib.hid (S12.out.keep hb)
            have N13 := Lib.hid (N12.out.keep hb)
            have X13 := Lib.hid (X12.out.keep hb)
            have Z13 := Lib.hid (Z12.out.keep hb)
            clear hb A12 PA12 PB12 U12 M12 D12 S12 N12 X12 Z12
            go_wp2
            go_ret
            exact ⟨rfl, A13.out⟩
          · rw [i1, i2, Bool.and_true] at C5
            obtain ⟨k5, h5⟩ : ∃ k5, (true && !false) = k5 := ⟨_, rfl⟩
            rw [h5] at C5
            simp only [Bool.and_true, Bool.and_false, Bool.true_and, Bool.false_and, Bool.not_true, Bool.not_false] at h5
            subst h5
            obtain ⟨Xc0, Xc1, Xcl⟩ := X8.out
            obtain ⟨Zc0, Zcl⟩ := Z8.out
            go_wp2_with fail
            refine (C1.out _ _ _ Z8.out U8.out).mono ?_
            rintro e w9 ⟨rfl, hb⟩
            clear Xc0 Xc1 Xcl Zc0 Zcl
            have A9 := Lib.hid (down A8.out hb)
            have PA9 := Lib.hid (PA8.out.keep hb)
            have PB9 := Lib.hid (PB8.out.keep hb)
            have U9 := Lib.hid (U8.out.keep hb)
            have M9 := Lib.hid (M8.out.keep hb)
            have D9 := Lib.hid (D8.out.keep hb)
            have S9 := Lib.hid (S8.out.keep hb)
            have N9 := Lib.hid (N8.out.keep hb)
            have X9 := Lib.hid (X8.out.keep hb)
            have Z9 := Lib.hid (Z8.out.keep hb)
            clear hb A8 PA8 PB8 U8 M8 D8 S8 N8 X8 Z8
            go_wp2_with fail
            refine (C2.out _ _ _ Z9.out M9.out).mono ?_
            rintro e w10 ⟨rfl, hb⟩
            have A10 := Lib.hid (down A9.out hb)
            have PA10 := Lib.hid (PA9.out.keep hb)
            have PB10 := Lib.hid (PB9.out.keep hb)
            have U10 := Lib.hid (U9.out.keep hb)
            have M10 := Lib.hid (M9.out.keep hb)
            have D10 := Lib.hid (D9.out.keep hb)
            have S10 := Lib.hid (S9.out.keep hb)
            have N10 := Lib.hid (N9.out.keep hb)
            have X10 := Lib.hid (X9.out.keep hb)
            have Z10 := Lib.hid (Z9.out.keep hb)
            clear hb A9 PA9 PB9 U9 M9 D9 S9 N9 X9 Z9
            go_wp2_with fail
            refine (C3.out _ _ _ Z10.out D10.out).mono ?_
            rintro e w11 ⟨rfl, hb⟩
            have A11 := Lib.hid (down A10.out hb)
            have PA11 := Lib.hid (PA10.out.keep hb)
            have PB11 := Lib.hid (PB10.out.keep hb)
            have U11 := Lib.hid (U10.out.keep hb)
            have M11 := Lib.hid (M10.out.keep hb)
            have D11 := Lib.hid (D10.out.keep hb)
            have S11 := Lib.hid (S10.out.keep hb)
            have N11 := Lib.hid (N10.out.keep hb)
            have X11 := Lib.hid (X10.out.keep hb)
            have Z11 := Lib.hid (Z10.out.keep hb)
            clear hb A10 PA10 PB10 U10 M10 D10 S10 N10 X10 Z10
            go_wp2_with fail
            refine (C4.out _ _ _ Z11.out S11.out).mono ?_
            rintro e w12 ⟨rfl, hb⟩
            have A12 := Lib.hid (down A11.out hb)
            have PA12 := Lib.hid (PA11.out.keep hb)
            have PB12 := Lib.hid (PB11.out.keep hb)
            have U12 := Lib.hid (U11.out.keep hb)
            have M12 := Lib.hid (M11.out.keep hb)
            have D12 := Lib.hid (D11.out.keep hb)
            have S12 := Lib.hid (S11.out.keep hb)
            have N12 := Lib.hid (N11.out.keep hb)
            have X12 := Lib.hid (X11.out.keep hb)
            have Z12 := Lib.hid (Z11.out.keep hb)
            clear hb A11 PA11 PB11 U11 M11 D11 S11 N11 X11 Z11
            go_wp2_with fail
            refine (C5.out _ _ _ Z12.out N12.out).mono ?_
            rintro e w13 ⟨rfl, hb⟩
            have A13 := Lib.hid (down A12.out hb)
            have PA13 := Lib.hid (PA12.out.keep hb)
            have PB13 := Lib.hid (PB12.out.keep hb)
            have U13 := Lib.hid (U12.out.keep hb)
            have M13 := Lib.hid (M12.out.keep hb)
            have D13 := Lib.hid (D12.out.keep hb)
            have S13 := Lib.hid (S12.out.keep hb)
            have N13 := Lib.hid (N12.out.keep hb)
            have X13 := Lib.hid (X12.out.keep hb)
            have Z13 := Lib.hid (Z12.out.keep hb)
            clear hb A12 PA12 PB12 U12 M12 D12 S12 N12 X12 Z12
            go_wp2
            go_ret
            exact ⟨rfl, A13.out⟩
      · obtain rfl : k1 = true := h1.symm
        obtain rfl : k2 = false := h2.symm
        obtain rfl : k3 = false := h3.symm
        obtain rfl : k4 = true := h4.symm
        clear h1 h2 h3 h4
        cases i1 : decide (x0 ≤ x)
        · rw [i1, Bool.false_and] at C5
          obtain ⟨k5, h5⟩ : ∃ k5, (false && !false) = k5 := ⟨_, rfl⟩
          rw [h5] at C5
          simp only [Bool.and_true, Bool.and_false, Bool.true_and, Bool.false_and, Bool.not_true, Bool.not_false] at h5
          subst h5
          obtain ⟨Xc0, Xc1, Xcl⟩ := X8.out
          obtain ⟨Zc0, Zcl⟩ := Z8.out
          go_wp2_with fail
          refine (C1.out _ _ _ Z8.out U8.out).mono ?_
          rintro e w9 ⟨rfl, hb⟩
          clear Xc0 Xc1 Xcl Zc0 Zcl
          have A9 := Lib.hid (down A8.out hb)
          have PA9 := Lib.hid (PA8.out.keep hb)
          have PB9 := Lib.hid (PB8.out.keep hb)
          have U9 := Lib.hid (U8.out.keep hb)
          have M9 := Lib.hid (M8.out.keep hb)
          have D9 := Lib.hid (D8.out.keep hb)
          have S9 := Lib.hid (S8.out.keep hb)
          have N9 := Lib.hid (N8.out.keep hb)
          have X9 := Lib.hid (X8.out.keep hb)
          have Z9 := Lib.hid (Z8.out.keep hb)
          clear hb A8 PA8 PB8 U8 M8 D8 S8 N8 X8 Z8
          go_wp2_with fail
          refine (C2.out _ _ _ Z9.out M9.out).mono ?_
          rintro e w10 ⟨rfl, hb⟩
          have A10 := Lib.hid (down A9.out hb)
          have PA10 := Lib.hid (PA9.out.keep hb)
          have PB10 := Lib.hid (PB9.out.keep hb)
          have U10 := Lib.hid (U9.out.keep hb)
          have M10 := Lib.hid (M9.out.keep hb)
          have D10 := Lib.hid (D9.out.keep hb)
          have S10 := Lib.hid (S9.out.keep hb)
          have N10 := Lib.hid (N9.out.keep hb)
          have X10 := Lib.hid (X9.out.keep hb)
          have Z10 := Lib.hid (Z9.out.keep hb)
          clear hb A9 PA9 PB9 U9 M9 D9 S9 N9 X9 Z9
          go_wp2_with fail
          refine (C3.out _ _ _ Z10.out D10.out).mono ?_
          rintro e w11 ⟨rfl, hb⟩
          have A11 := Lib.hid (down A10.out hb)
          have PA11 := Lib.hid (PA10.out.keep hb)
          have PB11 := Lib.hid (PB10.out.keep hb)
          have U11 := Lib.hid (U10.out.keep hb)
          have M11 := Lib.hid (M10.out.keep hb)
          have D11 := Lib.hid (D10.out.keep hb)
          have S11 := Lib.hid (S10.out.keep hb)
          have N11 := Lib.hid (N10.out.keep hb)
          have X11 := Lib.hid (X10.out.keep hb)
          have Z11 := Lib.hid (Z10.out.keep hb)
          clear hb A10 PA10 PB10 U10 M10 D10 S10 N10 X10 Z10
          go_wp2_with fail
          refine (C4.out _ _ _ Z11.out S11.out).mono ?_
          rintro e w12 ⟨rfl, hb⟩
          have A12 := Lib.hid (down A11.out hb)
          have PA12 := Lib.hid (PA11.out.keep hb)
          have PB12 := Lib.hid (PB11.out.keep hb)
          have U12 := Lib.hid (U11.out.keep hb)
          have M12 := Lib.hid (M11.out.keep hb)
          have D12 := Lib.hid (D11.out.keep hb)
          have S12 := Lib.hid (S11.out.keep hb)
          have N12 := Lib.hid (N11.out.keep hb)
          have X12 := Lib.hid (X11.out.keep hb)
          have Z12 := Lib.hid (Z11.out.keep hb)
          clear hb A11 PA11 PB11 U11 M11 D11 S11 N11 X11 Z11
          go_wp2_with fail
          refine (C5.out _ _ _ Z12.out N12.out).mono ?_
          rintro e w13 ⟨rfl, hb⟩
          have A13 := Lib.hid (down A12.out hb)
          have PA13 := Lib.hid (PA12.out.keep hb)
          have PB13 := Lib.hid (PB12.out.keep hb)
          have U13 := Lib.hid (U12.out.keep hb)
          have M13 := Lib.hid (M12.out.keep hb)
          have D13 := Lib.hid (D12.out.keep hb)
          have S13 := Lib.hid (S12.out.keep hb)
          have N13 := Lib.hid (N12.out.keep hb)
          have X13 := Lib.hid (X12.out.keep hb)
          have Z13 := Lib.hid (Z12.out.keep hb)
          clear hb A12 PA12 PB12 U12 M12 D12 S12 N12 X12 Z12
          go_wp2
          go_ret
          exact ⟨rfl, A13.out⟩
        · cases i2 : decide (x < y0)
          · rw [i1, i2, Bool.and_false] at C5
            obtain ⟨k5, h5⟩ : ∃ k5, (false && !false) = k5 := ⟨_, rfl⟩
            rw [h5] at C5
            simp only [Bool.and_true, Bool.and_false, Bool.true_and, Bool.false_and, Bool.not_true, Bool.not_false] at h5
            subst h5
            obtain ⟨Xc0, Xc1, Xcl⟩ := X8.out
            obtain ⟨Zc0, Zcl⟩ := Z8.out
            go_wp2_with fail
            refine (C1.out _ _ _ Z8.out U8.out).mono ?_
            rintro e w9 ⟨rfl, hb⟩
            clear Xc0 Xc1 Xcl Zc0 Zcl
            have A9 := Lib.hid (down A8.out hb)
            have PA9 := Lib.hid (PA8.out.keep hb)
            have PB9 := Lib.hid (PB8.out.keep hb)
            have U9 := Lib.hid (U8.out.keep hb)
            have M9 := Lib.hid (M8.out.keep hb)
            have D9 := Lib.hid (D8.out.keep hb)
            have S9 := Lib.hid (S8.out.keep hb)
            have N9 := Lib.hid (N8.out.keep hb)
            have X9 := Lib.hid (X8.out.keep hb)
            have Z9 := Lib.hid (Z8.out.keep hb)
            clear hb A8 PA8 PB8 U8 M8 D8 S8 N8 X8 Z8
            go_wp2_with fail
            refine (C2.out _ _ _ Z9.out M9.out).mono ?_
            rintro e w10 ⟨rfl, hb⟩
            have A10 := Lib.hid (down A9.out hb)
            have PA10 := Lib.hid (PA9.out.keep hb)
            have PB10 := Lib.hid (PB9.out.keep hb)
            have U10 := Lib.hid (U9.out.keep hb)
            have M10 := Lib.hid (M9.out.keep hb)
            have D10 := Lib.hid (D9.out.keep hb)
            have S10 := Lib.hid (S9.out.keep hb)
            have N10 := Lib.hid (N9.out.keep hb)
            have X10 := Lib.hid (X9.out.keep hb)
            have Z10 := Lib.hid (Z9.out.keep hb)
            clear hb A9 PA9 PB9 U9 M9 D9 S9 N9 X9 Z9
            go_wp2_with fail
            refine (C3.out _ _ _ Z10.out D10.out).mono ?_
            rintro e w11 ⟨rfl, hb⟩
            have A11 := Lib.hid (down A10.out hb)
            have PA11 := Lib.hid (PA10.out.keep hb)
            have PB11 := Lib.hid (PB10.out.keep hb)
            have U11 := Lib.hid (U10.out.keep hb)
            have M11 := Lib.hid (M10.out.keep hb)
            have D11 := Lib.hid (D10.out.keep hb)
            have S11 := Lib.hid (S10.out.keep hb)
            have N11 := Lib.hid (N10.out.keep hb)
            have X11 := Lib.hid (X10.out.keep hb)
            have Z11 := Lib.hid (Z10.out.keep hb)
            clear hb A10 PA10 PB10 U10 M10 D10 S10 N10 X10 Z10
            go_wp2_with fail
            refine (C4.out _ _ _ Z11.out S11.out).mono ?_
            rintro e w12 ⟨rfl, hb⟩
            have A12 := Lib.hid (down A11.out hb)
            have PA12 := Lib.hid (PA11.out.keep hb)
            have PB12 := Lib.hid (PB11.out.keep hb)
            have U12 := Lib.hid (U11.out.keep hb)
            have M12 := Lib.hid (M11.out.keep hb)
            have D12 := Lib.hid (D11.out.keep hb)
            have S12 := Lib.hid (S11.out.keep hb)
            have N12 := Lib.hid (N11.out.keep hb)
            have X12 := Lib.hid (X11.out.keep hb)
            have Z12 := Lib.hid (Z11.out.keep hb)
            clear hb A11 PA11 PB11 U11 M11 D11 S11 N11 X11 Z11
            go_wp2_with fail
            refine (C5.out _ _ _ Z12.out N12.out).mono ?_
            rintro e w13 ⟨rfl, hb⟩
            have A13 := Lib.hid (down A12.out hb)
            have PA13 := Lib.hid (PA12.out.keep hb)
            have PB13 := Lib.hid (PB12.out.keep hb)
            have U13 := Lib.hid (U12.out.keep hb)
            have M13 := Lib.hid (M12.out.keep hb)
            have D13 := Lib.hid (D12.out.keep hb)
            have S13 := Lib.hid (S12.out.keep hb)
            have N13 := Lib.hid (N12.out.keep hb)
            have X13 := Lib.hid (X12.out.keep hb)
            have Z13 := Lib.hid (Z12.out.keep hb)
            clear hb A12 PA12 PB12 U12 M12 D12 S12 N12 X12 Z12
            go_wp2
            go_ret
            exact ⟨rfl, A13.out⟩
          · rw [i1, i2, Bool.and_true] at C5
            obtain ⟨k5, h5⟩ : ∃ k5, (true && !false) = k5 := ⟨_, rfl⟩
            rw [h5] at C5
            simp only [Bool.and_true, Bool.and_false, Bool.true_and, Bool.false_and, Bool.not_true, Bool.not_false] at h5
            subst h5
            obtain ⟨Xc0, Xc1, Xcl⟩ := X8.out
            obtain ⟨Zc0, Zcl⟩ := Z8.out
            go_wp2_with fail
            refine (C1.out _ _ _ Z8.out U8.out).mono ?_
            rintro e w9 ⟨rfl, hb⟩
            clear Xc0 Xc1 Xcl Zc0 Zcl
            have A9 := Lib.hid (down A8.out hb)
            have PA9 := Lib.hid (PA8.out.keep hb)
            have PB9 := Lib.hid (PB8.out.keep hb)
            have U9 := Lib.hid (U8.out.keep hb)
            have M9 := Lib.hid (M8.out.keep hb)
            have D9 := Lib.hid (D8.out.keep hb)
            have S9 := Lib.hid (S8.out.keep hb)
            have N9 := Lib.hid (N8.out.keep hb)
            have X9 := Lib.hid (X8.out.keep hb)
            have Z9 := Lib.hid (Z8.out.keep hb)
            clear hb A8 PA8 PB8 U8 M8 D8 S8 N8 X8 Z8
            go_wp2_with fail
            refine (C2.out _ _ _ Z9.out M9.out).mono ?_
            rintro e w10 ⟨rfl, hb⟩
            have A10 := Lib.hid (down A9.out hb)
            have PA10 := Lib.hid (PA9.out.keep hb)
            have PB10 := Lib.hid (PB9.out.keep hb)
            have U10 := Lib.hid (U9.out.keep hb)
            have M10 := Lib.hid (M9.out.keep hb)
            have D10 := Lib.hid (D9.out.keep hb)
            have S10 := Lib.hid (S9.out.keep hb)
            have N10 := Lib.hid (N9.out.keep hb)
            have X10 := Lib.hid (X9.out.keep hb)
            have Z10 := Lib.hid (Z9.out.keep hb)
            clear hb A9 PA9 PB9 U9 M9 D9 S9 N9 X9 Z9
            go_wp2_with fail
            refine (C3.out _ _ _ Z10.out D10.out).mono ?_
            rintro e w11 ⟨rfl, hb⟩
            have A11 := Lib.hid (down A10.out hb)
            have PA11 := Lib.hid (PA10.out.keep hb)
            have PB11 := Lib.hid (PB10.out.keep hb)
            have U11 := Lib.hid (U10.out.keep hb)
            have M11 := Lib.hid (M10.out.keep hb)
            have D11 := Lib.hid (D10.out.keep hb)
            have S11 := Lib.hid (S10.out.keep hb)
            have N11 := Lib.hid (N10.out.keep hb)
            have X11 := Lib.hid (X10.out.keep hb)
            have Z11 := Lib.hid (Z10.out.keep hb)
            clear hb A10 PA10 PB10 U10 M10 D10 S10 N10 X10 Z10
            go_wp2_with fail
            refine (C4.out _ _ _ Z11.out S11.out).mono ?_
            rintro e w12 ⟨rfl, hb⟩
            have A12 := Lib.hid (down A11.out hb)
            have PA12 := Lib.hid (PA11.out.keep hb)
            have PB12 := Lib.hid (PB11.out.keep hb)
            have U12 := Lib.hid (U11.out.keep hb)
            have M12 := Lib.hid (M11.out.keep hb)
            have D12 := Lib.hid (D11.out.keep hb)
            have S12 := Lib.hid (S11.out.keep hb)
            have N12 := Lib.hid (N11.out.keep hb)
            have X12 := Lib.hid (X11.out.keep hb)
            have Z12 := Lib.hid (Z11.out.keep hb)
            clear hb A11 PA11 PB11 U11 M11 D11 S11 N11 X11 Z11
            go_wp2_with fail
            refine (C5.out _ _ _ Z12.out N12.out).mono ?_
            rintro e w13 ⟨rfl, hb⟩
            have A13 := Lib.hid (down A12.out hb)
            have PA13 := Lib.hid (PA12.out.keep hb)
            have PB13 := Lib.hid (PB12.out.keep hb)
            have U13 := Lib.hid (U12.out.keep hb)
            have M13 := Lib.hid (M12.out.keep hb)
            have D13 := Lib.hid (D12.out.keep hb)
            have S13 := Lib.hid (S12.out.keep hb)
            have N13 := Lib.hid (N12.out.keep hb)
            have X13 := Lib.hid (X12.out.keep hb)
            have Z13 := Lib.hid (Z12.out.keep hb)
            clear hb A12 PA12 PB12 U12 M12 D12 S12 N12 X12 Z12
            go_wp2
            go_ret
            exact ⟨rfl, A13.out⟩
    · cases q
      · obtain rfl : k1 = true := h1.symm
        obtain rfl : k2 = false := h2.symm
        obtain rfl : k3 = true := h3.symm
        obtain rfl : k4 = true := h4.symm
        clear h1 h2 h3 h4
        cases i1 : decide (x0 ≤ x)
        · rw [i1, Bool.false_and] at C5
          obtain ⟨k5, h5⟩ : ∃ k5, (false && !true) = k5 := ⟨_, rfl⟩
          rw [h5] at C5
          simp only [Bool.and_true, Bool.and_false, Bool.true_and, Bool.false_and, Bool.not_true, Bool.not_false] at h5
          subst h5
          obtain ⟨Xc0, Xc1, Xcl⟩ := X8.out
          obtain ⟨Zc0, Zcl⟩ := Z8.out
          go_wp2_with fail
          refine (C1.out _ _ _ Z8.out U8.out).mono ?_
          rintro e w9 ⟨rfl, hb⟩
          clear Xc0 Xc1 Xcl Zc0 Zcl
          have A9 := Lib.hid (down A8.out hb)
          have PA9 := Lib.hid (PA8.out.keep hb)
          have PB9 := Lib.hid (PB8.out.keep hb)
          have U9 := Lib.hid (U8.out.keep hb)
          have M9 := Lib.hid (M8.out.keep hb)
          have D9 := Lib.hid (D8.out.keep hb)
          have S9 := Lib.hid (S8.out.keep hb)
          have N9 := Lib.hid (N8.out.keep hb)
          have X9 := Lib.hid (X8.out.keep hb)
          have Z9 := Lib.hid (Z8.out.keep hb)
          clear hb A8 PA8 PB8 U8 M8 D8 S8 N8 X8 Z8
          go_wp2_with fail
          refine (C2.out _ _ _ Z9.out M9.out).mono ?_
          rintro e w10 ⟨rfl, hb⟩
          have A10 := Lib.hid (down A9.out hb)
          have PA10 := Lib.hid (PA9.out.keep hb)
          have PB10 := Lib.hid (PB9.out.keep hb)
          have U10 := Lib.hid (U9.out.keep hb)
          have M10 := Lib.hid (M9.out.keep hb)
          have D10 := Lib.hid (D9.out.keep hb)
          have S10 := Lib.hid (S9.out.keep hb)
          have N10 := Lib.hid (N9.out.keep hb)
          have X10 := Lib.hid (X9.out.keep hb)
          have Z10 := Lib.hid (Z9.out.keep hb)
          clear hb A9 PA9 PB9 U9 M9 D9 S9 N9 X9 Z9
          go_wp2_with fail
          refine (C3.out _ _ _ Z10.out D10.out).mono ?_
          rintro e w11 ⟨rfl, hb⟩
          have A11 := Lib.hid (down A10.out hb)
          have PA11 := Lib.hid (PA10.out.keep hb)
          have PB11 := Lib.hid (PB10.out.keep hb)
          have U11 := Lib.hid (U10.out.keep hb)
          have M11 := Lib.hid (M10.out.keep hb)
          have D11 := Lib.hid (D10.out.keep hb)
          have S11 := Lib.hid (S10.out.keep hb)
          have N11 := Lib.hid (N10.out.keep hb)
          have X11 := Lib.hid (X10.out.keep hb)
          have Z11 := Lib.hid (Z10.out.keep hb)
          clear hb A10 PA10 PB10 U10 M10 D10 S10 N10 X10 Z10
          go_wp2_with fail
          refine (C4.out _ _ _ Z11.out S11.out).mono ?_
          rintro e w12 ⟨rfl, hb⟩
          have A12 := Lib.hid (down A11.out hb)
          have PA12 := Lib.hid (PA11.out.keep hb)
          have PB12 := Lib.hid (PB11.out.keep hb)
          have U12 := Lib.hid (U11.out.keep hb)
          have M12 := Lib.hid (M11.out.keep hb)
          have D12 := Lib.hid (D11.out.keep hb)
          have S12 := Lib.hid (S11.out.keep hb)
          have N12 := Lib.hid (N11.out.keep hb)
          have X12 := Lib.hid (X11.out.keep hb)
          have Z12 := Lib.hid (Z11.out.keep hb)
          clear hb A11 PA11 PB11 U11 M11 D11 S11 N11 X11 Z11
          go_wp2_with fail
          refine (C5.out _ _ _ Z12.out N12.out).mono ?_
          rintro e w13 ⟨rfl, hb⟩
          have A13 := Lib.hid (down A12.out hb)
          have PA13 := Lib.hid (PA12.out.keep hb)
          have PB13 := Lib.hid (PB12.out.keep hb)
          have U13 := Lib.hid (U12.out.keep hb)
          have M13 := Lib.hid (M12.out.keep hb)
          have D13 := Lib.hid (D12.out.keep hb)
          have S13 := Lib.hid (S12.out.keep hb)
          have N13 := Lib.hid (N12.out.keep hb)
          have X13 := Lib.hid (X12.out.keep hb)
          have Z13 := Lib.hid (Z12.out.keep hb)
          clear hb A12 PA12 PB12 U12 M12 D12 S12 N12 X12 Z12
          go_wp2
          go_ret
          exact ⟨rfl, A13.out⟩
        · cases i2 : decide (x < y0)
          · rw [i1, i2, Bool.and_false] at C5
            obtain ⟨k5, h5⟩ : ∃ k5, (false && !true) = k5 := ⟨_, rfl⟩
            rw [h5] at C5
            simp only [Bool.and_true, Bool.and_false, Bool.true_and, Bool.false_and, Bool.not_true, Bool.not_false] at h5
            subst h5
            obtain ⟨Xc0, Xc1, Xcl⟩ := X8.out
            obtain ⟨Zc0, Zcl⟩ := Z8.out
            go_wp2_with fail
            refine (C1.out _ _ _ Z8.out U8.out).mono ?_
            rintro e w9 ⟨rfl, hb⟩
            clear Xc0 Xc1 Xcl Zc0 Zcl
            have A9 := Lib.hid (down A8.out hb)
            have PA9 := Lib.hid (PA8.out.keep hb)
            have PB9 := Lib.hid (PB8.out.keep hb)
            have U9 := Lib.hid (U8.out.keep hb)
            have M9 := Lib.hid (M8.out.keep hb)
            have D9 := Lib.hid (D8.out.keep hb)
            have S9 := Lib.hid (S8.out.keep hb)
            have N9 := Lib.hid (N8.out.keep hb)
            have X9 := Lib.hid (X8.out.keep hb)
            have Z9 := Lib.hid (Z8.out.keep hb)
            clear hb A8 PA8 PB8 U8 M8 D8 S8 N8 X8 Z8
            go_wp2_with fail
            refine (C2.out _ _ _ Z9.out M9.out).mono ?_
            rintro e w10 ⟨rfl, hb⟩
            have A10 := Lib.hid (down A9.out hb)
            have PA10 := Lib.hid (PA9.out.keep hb)
            have PB10 := Lib.hid (PB9.out.keep hb)
            have U10 := Lib.hid (U9.out.keep hb)
            have M10 := Lib.hid (M9.out.keep hb)
            have D10 := Lib.hid (D9.out.keep hb)
            have S10 := Lib.hid (S9.out.keep hb)
            have N10 := Lib.hid (N9.out.keep hb)
            have X10 := Lib.hid (X9.out.keep hb)
            have Z10 := Lib.hid (Z9.out.keep hb)
            clear hb A9 PA9 PB9 U9 M9 D9 S9 N9 X9 Z9
            go_wp2_with fail
            refine (C3.out _ _ _ Z10.out D10.out).mono ?_
            rintro e w11 ⟨rfl, hb⟩
            have A11 := Lib.hid (down A10.out hb)
            have PA11 := Lib.hid (PA10.out.keep hb)
            have PB11 := Lib.hid (PB10.out.keep hb)
            have U11 := Lib.hid (U10.out.keep hb)
            have M11 := Lib.hid (M10.out.keep hb)
            have D11 := Lib.hid (D10.out.keep hb)
            have S11 := Lib.hid (S10.out.keep hb)
            have N11 := Lib.hid (N10.out.keep hb)
            have X11 := Lib.hid (X10.out.keep hb)
            have Z11 := Lib.hid (Z10.out.keep hb)
            clear hb A10 PA10 PB10 U10 M10 D10 S10 N10 X10 Z10
            go_wp2_with fail
            refine (C4.out _ _ _ Z11.out S11.out).mono ?_
            rintro e w12 ⟨rfl, hb⟩
            have A12 := Lib.hid (down A11.out hb)
            have PA12 := Lib.hid (PA11.out.keep hb)
            have PB12 := Lib.hid (PB11.out.keep hb)
            have U12 := Lib.hid (U11.out.keep hb)
            have M12 := Lib.hid (M11.out.keep hb)
            have D12 := Lib.hid (D11.out.keep hb)
            have S12 := Lib.hid (S11.out.keep hb)
            have N12 := Lib.hid (N11.out.keep hb)
            have X12 := Lib.hid (X11.out.keep hb)
            have Z12 := Lib.hid (Z11.out.keep hb)
            clear hb A11 PA11 PB11 U11 M11 D11 S11 N11 X11 Z11
            go_wp2_with fail
            refine (C5.out _ _ _ Z12.out N12.out).mono ?_
            rintro e w13 ⟨rfl, hb⟩
            have A13 := Lib.hid (down A12.out hb)
            have PA13 := Lib.hid (PA12.out.keep hb)
            have PB13 := Lib.hid (PB12.out.keep hb)
            have U13 := Lib.hid (U12.out.keep hb)
            have M13 := Lib.hid (M12.out.keep hb)
            have D13 := Lib.hid (D12.out.keep hb)
            have S13 := Lib.hid (S12.out.keep hb)
            have N13 := Lib.hid (N12.out.keep hb)
            have X13 := Lib.hid (X12.out.keep hb)
            have Z13 := Lib.hid (Z12.out.keep hb)
            clear hb A12 PA12 PB12 U12 M12 D12 S12 N12 X12 Z12
            go_wp2
            go_ret
            exact ⟨rfl, A13.out⟩
          · rw [i1, i2, Bool.and_true] at C5
            obtain ⟨k5, h5⟩ : ∃ k5, (true && !true) = k5 := ⟨_, rfl⟩
            rw [h5] at C5
            simp only [Bool.and_true, Bool.and_false, Bool.true_and, Bool.false_and, Bool.not_true, Bool.not_false] at h5
            subst h5
            obtain ⟨Xc0, Xc1, Xcl⟩ := X8.out
            obtain ⟨Zc0, Zcl⟩ := Z8.out
            go_wp2_with fail
            refine (C1.out _ _ _ Z8.out U8.out).mono ?_
            rintro e w9 ⟨rfl, hb⟩
            clear Xc0 Xc1 Xcl Zc0 Zcl
            have A9 := Lib.hid (down A8.out hb)
            have PA9 := Lib.hid (PA8.out.keep hb)
            have PB9 := Lib.hid (PB8.out.keep hb)
            have U9 := Lib.hid (U8.out.keep hb)
            have M9 := Lib.hid (M8.out.keep hb)
            have D9 := Lib.hid (D8.out.keep hb)
            have S9 := Lib.hid (S8.out.keep hb)
            have N9 := Lib.hid (N8.out.keep hb)
            have X9 := Lib.hid (X8.out.keep hb)
            have Z9 := Lib.hid (Z8.out.keep hb)
            clear hb A8 PA8 PB8 U8 M8 D8 S8 N8 X8 Z8
            go_wp2_with fail
            refine (C2.out _ _ _ Z9.out M9.out).mono ?_
            rintro e w10 ⟨rfl, hb⟩
            have A10 := Lib.hid (down A9.out hb)
            have PA10 := Lib.hid (PA9.out.keep hb)
            have PB10 := Lib.hid (PB9.out.keep hb)
            have U10 := Lib.hid (U9.out.keep hb)
            have M10 := Lib.hid (M9.out.keep hb)
            have D10 := Lib.hid (D9.out.keep hb)
            have S10 := Lib.hid (S9.out.keep hb)
            have N10 := Lib.hid (N9.out.keep hb)
            have X10 := Lib.hid (X9.out.keep hb)
            have Z10 := Lib.hid (Z9.out.keep hb)
            clear hb A9 PA9 PB9 U9 M9 D9 S9 N9 X9 Z9
            go_wp2_with fail
            refine (C3.out _ _ _ Z10.out D10.out).mono ?_
            rintro e w11 ⟨rfl, hb⟩
            have A11 := Lib.hid (down A10.out hb)
            have PA11 := Lib.hid (PA10.out.keep hb)
            have PB11 := Lib.hid (PB10.out.keep hb)
            have U11 := Lib.hid (U10.out.keep hb)
            have M11 := Lib.hid (M10.out.keep hb)
            have D11 := Lib.hid (D10.out.keep hb)
            have S11 := Lib.hid (S10.out.keep hb)
            have N11 := Lib.hid (N10.out.keep hb)
            have X11 := Lib.hid (X10.out.keep hb)
            have Z11 := Lib.hid (Z10.out.keep hb)
            clear hb A10 PA10 PB10 U10 M10 D10 S10 N10 X10 Z10
            go_wp2_with fail
            refine (C4.out _ _ _ Z11.out S11.out).mono ?_
            rintro e w12 ⟨rfl, hb⟩
            have A12 := Lib.hid (down A11.out hb)
            have PA12 := Lib.hid (PA11.out.keep hb)
            have PB12 := Lib.hid (PB11.out.keep hb)
            have U12 := Lib.hid (U11.out.keep hb)
            have M12 := Lib.hid (M11.out.keep hb)
            have D12 := Lib.hid (D11.out.keep hb)
            have S12 := Lib.hid (S11.out.keep hb)
            have N12 := Lib.hid (N11.out.keep hb)
            have X12 := Lib.hid (X11.out.keep hb)
            have Z12 := Lib.hid (Z11.out.keep hb)
            clear hb A11 PA11 PB11 U11 M11 D11 S11 N11 X11 Z11
            go_wp2_with fail
            refine (C5.out _ _ _ Z12.out N12.out).mono ?_
            rintro e w13 ⟨rfl, hb⟩
            have A13 := Lib.hid (down A12.out hb)
            have PA13 := Lib.hid (PA12.out.keep hb)
            have PB13 := Lib.hid (PB12.out.keep hb)
            have U13 := Lib.hid (U12.out.keep hb)
            have M13 := Lib.hid (M12.out.keep hb)
            have D13 := Lib.hid (D12.out.keep hb)
            have S13 := Lib.hid (S12.out.keep hb)
            have N13 := Lib.hid (N12.out.keep hb)
            have X13 := Lib.hid (X12.out.keep hb)
            have Z13 := Lib.hid (Z12.out.keep hb)
            clear hb A12 PA12 PB12 U12 M12 D12 S12 N12 X12 Z12
            go_wp2
            go_ret
            exact ⟨rfl, A13.out⟩
      · obtain rfl : k1 = true := h1.symm
        obtain rfl : k2 = true := h2.symm
        obtain rfl : k3 = false := h3.symm
        obtain rfl : k4 = false := h4.symm
        clear h1 h2 h3 h4
        cases i1 : decide (x0 ≤ x)
        · rw [i1, Bool.false_and] at C5
          obtain ⟨k5, h5⟩ : ∃ k5, (false && !true) = k5 := ⟨_, rfl⟩
          rw [h5] at C5
          simp only [Bool.and_true, Bool.and_false, Bool.true_and, Bool.false_and, Bool.not_true, Bool.not_false] at h5
          subst h5
          obtain ⟨Xc0, Xc1, Xcl⟩ := X8.out
          obtain ⟨Zc0, Zcl⟩ := Z8.out
          go_wp2_with fail
          refine (C1.out _ _ _ Z8.out U8.out).mono ?_
          rintro e w9 ⟨rfl, hb⟩
          clear Xc0 Xc1 Xcl Zc0 Zcl
          have A9 := Lib.hid (down A8.out hb)
          have PA9 := Lib.hid (PA8.out.keep hb)
          have PB9 := Lib.hid (PB8.out.keep hb)
          have U9 := Lib.hid (U8.out.keep hb)
          have M9 := Lib.hid (M8.out.keep hb)
          have D9 := Lib.hid (D8.out.keep hb)
          have S9 := Lib.hid (S8.out.keep hb)
          have N9 := Lib.hid (N8.out.keep hb)
          have X9 := Lib.hid (X8.out.keep hb)
          have Z9 := Lib.hid (Z8.out.keep hb)
          clear hb A8 PA8 PB8 U8 M8 D8 S8 N8 X8 Z8
          go_wp2_with fail
          refine (C2.out _ _ _ Z9.out M9.out).mono ?_
          rintro e w10 ⟨rfl, hb⟩
          have A10 := Lib.hid (down A9.out hb)
          have PA10 := Lib.hid (PA9.out.keep hb)
          have PB10 := Lib.hid (PB9.out.keep hb)
          have U10 := Lib.hid (U9.out.keep hb)
          have M10 := Lib.hid (M9.out.keep hb)
          have D10 := Lib.hid (D9.out.keep hb)
          have S10 := Lib.hid (S9.out.keep hb)
          have N10 := Lib.hid (N9.out.keep hb)
          have X10 := Lib.hid (X9.out.keep hb)
          have Z10 := Lib.hid (Z9.out.keep hb)
          clear hb A9 PA9 PB9 U9 M9 D9 S9 N9 X9 Z9
          go_wp2_with fail
          refine (C3.out _ _ _ Z10.out D10.out).mono ?_
          rintro e w11 ⟨rfl, hb⟩
          have A11 := Lib.hid (down A10.out hb)
          have PA11 := Lib.hid (PA10.out.keep hb)
          have PB11 := Lib.hid (PB10.out.keep hb)
          have U11 := Lib.hid (U10.out.keep hb)
          have M11 := Lib.hid (M10.out.keep hb)
          have D11 := Lib.hid (D10.out.keep hb)
          have S11 := Lib.hid (S10.out.keep hb)
          have N11 := Lib.hid (N10.out.keep hb)
          have X11 := Lib.hid (X10.out.keep hb)
          have Z11 := Lib.hid (Z10.out.keep hb)
          clear hb A10 PA10 PB10 U10 M10 D10 S10 N10 X10 Z10
          go_wp2_with fail
          refine (C4.out _ _ _ Z11.out S11.out).mono ?_
          rintro e w12 ⟨rfl, hb⟩
          have A12 := Lib.hid (down A11.out hb)
          have PA12 := Lib.hid (PA11.out.keep hb)
          have PB12 := Lib.hid (PB11.out.keep hb)
          have U12 := Lib.hid (U11.out.keep hb)
          have M12 := Lib.hid (M11.out.keep hb)
          have D12 := Lib.hid (D11.out.keep hb)
          have S12 := Lib.hid (S11.out.keep hb)
          have N12 := Lib.hid (N11.out.keep hb)
          have X12 := Lib.hid (X11.out.keep hb)
          have Z12 := Lib.hid (Z11.out.keep hb)
          clear hb A11 PA11 PB11 U11 M11 D11 S11 N11 X11 Z11
          go_wp2_with fail
          refine (C5.out _ _ _ Z12.out N12.out).mono ?_
          rintro e w13 ⟨rfl, hb⟩
          have A13 := Lib.hid (down A12.out hb)
          have PA13 := Lib.hid (PA12.out.keep hb)
          have PB13 := Lib.hid (PB12.out.keep hb)
          have U13 := Lib.hid (U12.out.keep hb)
          have M13 := Lib.hid (M12.out.keep hb)
          have D13 := Lib.hid (D12.out.keep hb)
          have S13 := Lib.hid (S12.out.keep hb)
          have N13 := Lib.hid (N12.out.keep hb)
          have X13 := Lib.hid (X12.out.keep hb)
          have Z13 := Lib.hid (Z12.out.keep hb)
          clear hb A12 PA12 PB12 U12 M12 D12 S12 N12 X12 Z12
          go_wp2
          go_ret
          exact ⟨rfl, A13.out⟩
        · cases i2 : decide (x < y0)
          · rw [i1, i2, Bool.and_false] at C5
            obtain ⟨k5, h5⟩ : ∃ k5, (false && !true) = k5 := ⟨_, rfl⟩
            rw [h5] at C5
            simp only [Bool.and_true, Bool.and_false, Bool.true_and, Bool.false_and, Bool.not_true, Bool.not_false] at h5
            subst h5
            obtain ⟨Xc0, Xc1, Xcl⟩ := X8.out
            obtain ⟨Zc0, Zcl⟩ := Z8.out
            go_wp2_with fail
            refine (C1.out _ _ _ Z8.out U8.out).mono ?_
            rintro e w9 ⟨rfl, hb⟩
            clear Xc0 Xc1 Xcl Zc0 Zcl
            have A9 := Lib.hid (down A8.out hb)
            have PA9 := Lib.hid (PA8.out.keep hb)
            have PB9 := Lib.hid (PB8.out.keep hb)
            have U9 := Lib.hid (U8.out.keep hb)
            have M9 := Lib.hid (M8.out.keep hb)
            have D9 := Lib.hid (D8.out.keep hb)
            have S9 := Lib.hid (S8.out.keep hb)
            have N9 := Lib.hid (N8.out.keep hb)
            have X9 := Lib.hid (X8.out.keep hb)
            have Z9 := Lib.hid (Z8.out.keep hb)
            clear hb A8 PA8 PB8 U8 M8 D8 S8 N8 X8 Z8
            go_wp2_with fail
            refine (C2.out _ _ _ Z9.out M9.out).mono ?_
            rintro e w10 ⟨rfl, hb⟩
            have A10 := Lib.hid (down A9.out hb)
            have PA10 := Lib.hid (PA9.out.keep hb)
            have PB10 := Lib.hid (PB9.out.keep hb)
            have U10 := Lib.hid (U9.out.keep hb)
            have M10 := Lib.hid (M9.out.keep hb)
            have D10 := Lib.hid (D9.out.keep hb)
            have S10 := Lib.hid (S9.out.keep hb)
            have N10 := Lib.hid (N9.out.keep hb)
            have X10 := Lib.hid (X9.out.keep hb)
            have Z10 := Lib.hid (Z9.out.keep hb)
            clear hb A9 PA9 PB9 U9 M9 D9 S9 N9 X9 Z9
            go_wp2_with fail
            refine (C3.out _ _ _ Z10.out D10.out).mono ?_
            rintro e w11 ⟨rfl, hb⟩
            have A11 := Lib.hid (down A10.out hb)
            have PA11 := Lib.hid (PA10.out.keep hb)
            have PB11 := Lib.hid (PB10.out.keep hb)
            have U11 := Lib.hid (U10.out.keep hb)
            have M11 := Lib.hid (M10.out.keep hb)
            have D11 := Lib.hid (D10.out.keep hb)
            have S11 := Lib.hid (S10.out.keep hb)
            have N11 := Lib.hid (N10.out.keep hb)
            have X11 := Lib.hid (X10.out.keep hb)
            have Z11 := Lib.hid (Z10.out.keep hb)
            clear hb A10 PA10 PB10 U10 M10 D10 S10 N10 X10 Z10
            go_wp2_with fail
            refine (C4.out _ _ _ Z11.out S11.out).mono ?_
            rintro e w12 ⟨rfl, hb⟩
            have A12 := Lib.hid (down A11.out hb)
            have PA12 := Lib.hid (PA11.out.keep hb)
            have PB12 := Lib.hid (PB11.out.keep hb)
            have U12 := Lib.hid (U11.out.keep hb)
            have M12 := Lib.hid (M11.out.keep hb)
            have D12 := Lib.hid (D11.out.keep hb)
            have S12 := Lib.hid (S11.out.keep hb)
            have N12 := Lib.hid (N11.out.keep hb)
            have X12 := Lib.hid (X11.out.keep hb)
            have Z12 := Lib.hid (Z11.out.keep hb)
            clear hb A11 PA11 PB11 U11 M11 D11 S11 N11 X11 Z11
            go_wp2_with fail
            refine (C5.out _ _ _ Z12.out N12.out).mono ?_
            rintro e w13 ⟨rfl, hb⟩
            have A13 := Lib.hid (down A12.out hb)
            have PA13 := Lib.hid (PA12.out.keep hb)
            have PB13 := Lib.hid (PB12.out.keep hb)
            have U13 := Lib.hid (U12.out.keep hb)
            have M13 := Lib.hid (M12.out.keep hb)
            have D13 := Lib.hid (D12.out.keep hb)
            have S13 := Lib.hid (S12.out.keep hb)
            have N13 := Lib.hid (N12.out.keep hb)
            have X13 := Lib.hid (X12.out.keep hb)
            have Z13 := Lib.hid (Z12.out.keep hb)
            clear hb A12 PA12 PB12 U12 M12 D12 S12 N12 X12 Z12
            go_wp2
            go_ret
            exact ⟨rfl, A13.out⟩
          · rw [i1, i2, Bool.and_true] at C5
            obtain ⟨k5, h5⟩ : ∃ k5, (true && !true) = k5 := ⟨_, rfl⟩
            rw [h5] at C5
            simp only [Bool.and_true, Bool.and_false, Bool.true_and, Bool.false_and, Bool.not_true, Bool.not_false] at h5
            subst h5
            obtain ⟨Xc0, Xc1, Xcl⟩ := X8.out
            obtain ⟨Zc0, Zcl⟩ := Z8.out
            go_wp2_with fail
            refine (C1.out _ _ _ Z8.out U8.out).mono ?_
            rintro e w9 ⟨rfl, hb⟩
            clear Xc0 Xc1 Xcl Zc0 Zcl
            have A9 := Lib.hid (down A8.out hb)
            have PA9 := Lib.hid (PA8.out.keep hb)
            have PB9 := Lib.hid (PB8.out.keep hb)
            have U9 := Lib.hid (U8.out.keep hb)
            have M9 := Lib.hid (M8.out.keep hb)
            have D9 := Lib.hid (D8.out.keep hb)
            have S9 := Lib.hid (S8.out.keep hb)
            have N9 := Lib.hid (N8.out.keep hb)
            have X9 := Lib.hid (X8.out.keep hb)
            have Z9 := Lib.hid (Z8.out.keep hb)
            clear hb A8 PA8 PB8 U8 M8 D8 S8 N8 X8 Z8
            go_wp2_with fail
            refine (C2.out _ _ _ Z9.out M9.out).mono ?_
            rintro e w10 ⟨rfl, hb⟩
            have A10 := Lib.hid (down A9.out hb)
            have PA10 := Lib.hid (PA9.out.keep hb)
            have PB10 := Lib.hid (PB9.out.keep hb)
            have U10 := Lib.hid (U9.out.keep hb)
            have M10 := Lib.hid (M9.out.keep hb)
            have D10 := Lib.hid (D9.out.keep hb)
            have S10 := Lib.hid (S9.out.keep hb)
            have N10 := Lib.hid (N9.out.keep hb)
            have X10 := Lib.hid (X9.out.keep hb)
            have Z10 := Lib.hid (Z9.out.keep hb)
            clear hb A9 PA9 PB9 U9 M9 D9 S9 N9 X9 Z9
            go_wp2_with fail
            refine (C3.out _ _ _ Z10.out D10.out).mono ?_
            rintro e w11 ⟨rfl, hb⟩
            have A11 := Lib.hid (down A10.out hb)
            have PA11 := Lib.hid (PA10.out.keep hb)
            have PB11 := Lib.hid (PB10.out.keep hb)
            have U11 := Lib.hid (U10.out.keep hb)
            have M11 := Lib.hid (M10.out.keep hb)
            have D11 := Lib.hid (D10.out.keep hb)
            have S11 := Lib.hid (S10.out.keep hb)
            have N11 := Lib.hid (N10.out.keep hb)
            have X11 := Lib.hid (X10.out.keep hb)
            have Z11 := Lib.hid (Z10.out.keep hb)
            clear hb A10 PA10 PB10 U10 M10 D10 S10 N10 X10 Z10
            go_wp2_with fail
            refine (C4.out _ _ _ Z11.out S11.out).mono ?_
            rintro e w12 ⟨rfl, hb⟩
            have A12 := Lib.hid (down A11.out hb)
            have PA12 := Lib.hid (PA11.out.keep hb)
            have PB12 := Lib.hid (PB11.out.keep hb)
            have U12 := Lib.hid (U11.out.keep hb)
            have M12 := Lib.hid (M11.out.keep hb)
            have D12 := Lib.hid (D11.out.keep hb)
            have S12 := Lib.hid (S11.out.keep hb)
            have N12 := Lib.hid (N11.out.keep hb)
            have X12 := Lib.hid (X11.out.keep hb)
            have Z12 := Lib.hid (Z11.out.keep hb)
            clear hb A11 PA11 PB11 U11 M11 D11 S11 N11 X11 Z11
            go_wp2_with fail
            refine (C5.out _ _ _ Z12.out N12.out).mono ?_
            rintro e w13 ⟨rfl, hb⟩
            have A13 := Lib.hid (down A12.out hb)
            have PA13 := Lib.hid (PA12.out.keep hb)
            have PB13 := Lib.hid (PB12.out.keep hb)
            have U13 := Lib.hid (U12.out.keep hb)
            have M13 := Lib.hid (M12.out.keep hb)
            have D13 := Lib.hid (D12.out.keep hb)
            have S13 := Lib.hid (S12.out.keep hb)
            have N13 := Lib.hid (N12.out.keep hb)
            have X13 := Lib.hid (X12.out.keep hb)
            have Z13 := Lib.hid (Z12.out.keep hb)
            clear hb A12 PA12 PB12 U12 M12 D12 S12 N12 X12 Z12
            go_wp2
            go_ret
            exact ⟨rfl, A13.out⟩
  · rw [gg] at GR
    clear gg hx hx0 hy0 HA HB hA hB
    go_enter Try.func6, Try.ntmps6
    go_wp2_with fail
    refine (AW.out _).mono ?_
    rintro e w1 ⟨rfl, hb⟩
    clear hw0 hwb hg
    have A1 := Lib.hid (down A0.out hb)
    have PA1 := Lib.hid (PA0.out.keep hb)
    have PB1 := Lib.hid (PB0.out.keep hb)
    have X1 := Lib.hid (X0.out.keep hb)
    have Z1 := Lib.hid (Z0.out.keep hb)
    clear hb A0 PA0 PB0 X0 Z0
    go_wp2_with fail
    refine (GR.out _ _).mono ?_
    rintro e x0 ⟨rfl, rfl⟩
    obtain ⟨w2, hw2⟩ : ∃ w' : World, w1.alloc (.cells #[.slice oa A.length ca, .slice ob B.length cb] 22) = w' := ⟨_, rfl⟩
    rw [hw2]
    have hb : Below w1.heap.size w1 w2 := by rw [← hw2]; exact grow (here _) _
    clear hw2
    have A2 := Lib.hid (down A1.out hb)
    have PA2 := Lib.hid (PA1.out.keep hb)
    have PB2 := Lib.hid (PB1.out.keep hb)
    have X2 := Lib.hid (X1.out.keep hb)
    have Z2 := Lib.hid (Z1.out.keep hb)
    clear hb A1 PA1 PB1 X1 Z1
    go_wp2
    go_ret
    exact ⟨rfl, A2.out⟩
end Go.Proofs.Ytdkmahdfnmoliaa
