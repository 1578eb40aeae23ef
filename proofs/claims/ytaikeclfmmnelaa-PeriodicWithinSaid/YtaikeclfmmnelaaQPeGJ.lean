/- Contracts of civiltimeref13: Window. -/
import Derived.Test.YtaikeclfmmnelaaQPeGH
import Derived.Test.YtaikeclfmmnelaaQPeKI
namespace Go.Proofs.Ytaikeclfmmnelaa

open Go.RowKit

set_option linter.unusedVariables false

theorem wi_none {P a b : Int} : caL (hsP P []) a b = [] := (ca_eq (show Cn [] from trivial) fun x => by rw [inB_nil]; show _ = (_ && inB [] _); rw [inB_nil, Bool.and_false]).symm
theorem wi_one {A : List Sp} {a b : Int} (pv : PV 1 A) (ne : 0 < A.length) (ab : a < b) : caL (hsP 1 A) a b = [(a, b)] := by
  have all : ∀ x, hsP 1 A x = true := fun x => by
    have s := sps pv (at' := x) ⟨x, by omega⟩
    have b := s.bd 0 ne
    have e : eN A 0 = 0 := rfl
    exact s.yes 0 ne x (by omega) (by omega)
  rw [ca_add (Int.le_refl a) (Int.le_refl a) ab (fun x x0 x1 => by omega) (fun x _ _ => all x), ca_none _ (Int.le_refl a)]
  rfl
theorem cl_le (b e : Int) : clZ b e ≤ b := by unfold clZ; split <;> omega
theorem wi_full {f : Int → Bool} {a b e : Int} (h : 2000 < (caL f a (clZ b e)).length) : wiR f a b = ([], 5) := by
  have := len_mono' f (a := a) (cl_le b e)
  unfold wiR
  rw [if_pos (by omega)]
theorem wi_done {f : Int → Bool} {a b e : Int} (be : b ≤ e) (h : (caL f a (clZ b e)).length ≤ 2000) : wiR f a b = (caL f a (clZ b e), 0) := by
  have c : clZ b e = b := by unfold clZ; split <;> omega
  rw [c] at h ⊢
  unfold wiR
  rw [if_neg (by omega)]
noncomputable def wvR (P : Int) (A : List Sp) (x y : Int) : List Sp × Int := if pvB P A && spB (x, y) then wiR (hsP P A) x y else ([], 1)
set_option maxRecDepth 100000 in
set_option maxHeartbeats 4000000 in
theorem rpwindow (va : Value) (P : Int) (A : List Sp) (hA : A.length ≤ maxLen) (hP : I64 P) (xa yb : Int) (hx : I64 xa) (hy : I64 yb) {ba : Nat} (w : World) (a : PairS ba w va A) :
    Calls Try.prog 36 #[.agg #[.int .i64 P, va], .agg #[.int .i64 xa, .int .i64 yb]] w fun e w' => (∃ v', e = .returned (.tuple #[v', .int .i64 (wvR P A xa yb).2]) ∧ PairS 0 w' v' (wvR P A xa yb).1) ∧ Below w.heap.size w w' := by
  obtain ⟨i0, hi, hz0, hz1, hz2⟩ := info_parts infoS
  have A2 := Lib.hid (grow (grow (here w) (.cells #[.int .i64 P, va] 24)) (.cells #[.int .i64 xa, .int .i64 yb] 37))
  have TA := Lib.hid (Two.fst (here ((w.alloc (.cells #[.int .i64 P, va] 24)).alloc (.cells #[.int .i64 xa, .int .i64 yb] 37))))
  have TB := Lib.hid (Two.snd (here ((w.alloc (.cells #[.int .i64 P, va] 24)).alloc (.cells #[.int .i64 xa, .int .i64 yb] 37))))
  have a2 := Lib.hid (a.keep A2.out)
  have HV := Lib.hid (rpvalid va P A hA hP _ a2.out)
  have HSp := Lib.hid (fun w => rpspan xa yb w)
  obtain ⟨oa, ca, rfl⟩ := prs_shape a
  obtain ⟨n, hn⟩ : ∃ n, A.length = n := ⟨_, rfl⟩
  rw [hn] at a2 TA TB A2 HV ⊢
  obtain ⟨t0, t1, tl⟩ := TA.out
  obtain ⟨u0, u1, ul⟩ := TB.out
  clear a
  cases p : pvB P A
  · have r : Hid (wvR P A xa yb = ([], 1)) := by show _ = _; unfold wvR; rw [p]; rfl
    rw [p] at HV
    go_enter Try.func36, Try.ntmps36
    go_wp2_with fail
    refine HV.out.mono ?_
    rintro e w3 ⟨rfl, hb⟩
    have A3 := Lib.hid (down A2.out hb)
    replace TA := Lib.hid (TA.out.keep hb)
    replace TB := Lib.hid (TB.out.keep hb)
    replace a2 := Lib.hid (a2.out.keep hb)
    clear hb A2 HV t0 t1 tl u0 u1 ul
    obtain ⟨t0, t1, tl⟩ := TA.out
    obtain ⟨u0, u1, ul⟩ := TB.out
    go_wp2
    go_ret2
    rw [r.out]
    exact ⟨⟨_, rfl, Sl.none _ _⟩, A3.out⟩
  · rw [p] at HV
    cases s : spB (xa, yb)
    · have r : Hid (wvR P A xa yb = ([], 1)) := by show _ = _; unfold wvR; rw [p, s]; rfl
      rw [s] at HSp
      go_enter Try.func36, Try.ntmps36
      go_wp2_with fail
      refine HV.out.mono ?_
      rintro e w3 ⟨rfl, hb⟩
      have A3 := Lib.hid (down A2.out hb)
      replace TA := Lib.hid (TA.out.keep hb)
      replace TB := Lib.hid (TB.out.keep hb)
      replace a2 := Lib.hid (a2.out.keep hb)
      clear hb A2 HV t0 t1 tl u0 u1 ul
      obtain ⟨t0, t1, tl⟩ := TA.out
      obtain ⟨u0, u1, ul⟩ := TB.out
      go_wp2_with fail
      refine (HSp.out _).mono ?_
      rintro e w4 ⟨rfl, hb⟩
      have A4 := Lib.hid (down A3.out hb)
      replace TA := Lib.hid (TA.out.keep hb)
      replace TB := Lib.hid (TB.out.keep hb)
      replace a2 := Lib.hid (a2.out.keep hb)
      clear hb A3 HSp t0 t1 tl u0 u1 ul
      obtain ⟨t0, t1, tl⟩ := TA.out
      obtain ⟨u0, u1, ul⟩ := TB.out
      go_wp2
      go_ret2
      rw [r.out]
      exact ⟨⟨_, rfl, Sl.none _ _⟩, A4.out⟩
    · have pv := pv_iff.1 p
      have rv : Hid (wvR P A xa yb = wiR (hsP P A) xa yb) := by show _ = _; unfold wvR; rw [p, s]; rfl
      obtain ⟨x0, y1, xy⟩ : -4398046511104 ≤ xa ∧ yb ≤ 4398046511104 ∧ xa < yb := by
        have := spB_iff.1 s; simp only at this; omega
      have p0 := pv.p0
      have p1 := pv.p1
      have alen := pv.len
      rw [hn] at alen
      have P0 : 0 < P := by omega
      rw [s] at HSp
      clear p s
      by_cases n0 : n = 0
      · obtain rfl : A = [] := List.length_eq_zero_iff.1 (by omega)
        obtain rfl : n = 0 := n0
        have r : Hid (wvR P [] xa yb = ([], 0)) := by show _ = _; rw [rv.out]; unfold wiR; rw [wi_none]; rfl
        clear rv pv
        go_enter Try.func36, Try.ntmps36
        go_wp2_with fail
        refine HV.out.mono ?_
        rintro e w3 ⟨rfl, hb⟩
        have A3 := Lib.hid (down A2.out hb)
        replace TA := Lib.hid (TA.out.keep hb)
        replace TB := Lib.hid (TB.out.keep hb)
        replace a2 := Lib.hid (a2.out.keep hb)
        clear hb A2 HV t0 t1 tl u0 u1 ul
        obtain ⟨t0, t1, tl⟩ := TA.out
        obtain ⟨u0, u1, ul⟩ := TB.out
        go_wp2_with fail
        refine (HSp.out _).mono ?_
        rintro e w4 ⟨rfl, hb⟩
        have A4 := Lib.hid (down A3.out hb)
        replace TA := Lib.hid (TA.out.keep hb)
        replace TB := Lib.hid (TB.out.keep hb)
        replace a2 := Lib.hid (a2.out.keep hb)
        clear hb A3 HSp t0 t1 tl u0 u1 ul
        obtain ⟨t0, t1, tl⟩ := TA.out
        obtain ⟨u0, u1, ul⟩ := TB.out
        go_wp2
        go_ret2
        rw [r.out]
        exact ⟨⟨_, rfl, Sl.none _ _⟩, A4.out⟩
      · have k0 : ((n : Int) == 0) = false := by rw [beq_eq_false_iff_ne]; omega
        by_cases q1 : P = 1
        · subst q1
          have r : Hid (wvR 1 A xa yb = ([(xa, yb)], 0)) := by show _ = _; rw [rv.out]; unfold wiR; rw [wi_one pv (by omega) xy]; rfl
          clear rv pv n0
          go_enter Try.func36, Try.ntmps36
          go_wp2_with fail
          refine HV.out.mono ?_
          rintro e w3 ⟨rfl, hb⟩
          have A3 := Lib.hid (down A2.out hb)
          replace TA := Lib.hid (TA.out.keep hb)
          replace TB := Lib.hid (TB.out.keep hb)
          replace a2 := Lib.hid (a2.out.keep hb)
          clear hb A2 HV t0 t1 tl u0 u1 ul
          obtain ⟨t0, t1, tl⟩ := TA.out
          obtain ⟨u0, u1, ul⟩ := TB.out
          go_wp2_with fail
          refine (HSp.out _).mono ?_
          rintro e w4 ⟨rfl, hb⟩
          have A4 := Lib.hid (down A3.out hb)
          replace TA := Lib.hid (TA.out.keep hb)
          replace TB := Lib.hid (TB.out.keep hb)
          replace a2 := Lib.hid (a2.out.keep hb)
          clear hb A3 HSp t0 t1 tl u0 u1 ul
          obtain ⟨t0, t1, tl⟩ := TA.out
          obtain ⟨u0, u1, ul⟩ := TB.out
          have FI := Lib.hid (prs_lit1 w4 xa yb)
          have A5 := Lib.hid (grow A4.out (.cells #[.int .i64 xa, .int .i64 yb] 37))
          go_wp2
          go_ret2
          rw [r.out]
          exact ⟨⟨_, rfl, FI.out⟩, A5.out⟩
        · have k1 : (P == 1) = false := by rw [beq_eq_false_iff_ne]; exact q1
          have pv := Lib.hid pv
          go_enter Try.func36, Try.ntmps36
          go_wp2_with fail
          refine HV.out.mono ?_
          rintro e w3 ⟨rfl, hb⟩
          have A3 := Lib.hid (down A2.out hb)
          replace TA := Lib.hid (TA.out.keep hb)
          replace TB := Lib.hid (TB.out.keep hb)
          replace a2 := Lib.hid (a2.out.keep hb)
          clear hb A2 HV t0 t1 tl u0 u1 ul
          obtain ⟨t0, t1, tl⟩ := TA.out
          obtain ⟨u0, u1, ul⟩ := TB.out
          go_wp2_with fail
          refine (HSp.out _).mono ?_
          rintro e w4 ⟨rfl, hb⟩
          have A4 := Lib.hid (down A3.out hb)
          replace TA := Lib.hid (TA.out.keep hb)
          replace TB := Lib.hid (TB.out.keep hb)
          replace a2 := Lib.hid (a2.out.keep hb)
          clear hb A3 HSp t0 t1 tl u0 u1 ul
          obtain ⟨t0, t1, tl⟩ := TA.out
          obtain ⟨u0, u1, ul⟩ := TB.out
          have HM := Lib.hid (fun w => (refmod_all xa P hx.1 hx.2 (by omega) (by omega) w).mono (fun e w' h => (⟨h.1, by obtain ⟨d, hd⟩ := h.2; rw [hd]; exact below_drewN (here w) d⟩ : e = _ ∧ Below w.heap.size w w')))
          rw [dR_pos P0] at HM
          have m0 := Int.emod_nonneg xa (show P ≠ 0 by omega)
          have m1 := Int.emod_lt_of_pos xa P0
          have D0 : P ∣ xa - xa % P := ⟨xa / P, by have := Int.emod_add_mul_ediv xa P; omega⟩
          obtain ⟨r0, hr0⟩ : ∃ r0, xa % P = r0 := ⟨_, rfl⟩
          rw [hr0] at HM m0 m1 D0
          replace D0 := Lib.hid D0
          clear hr0
          have q0 : ∀ x' : Kept w4, x'.wd.cell? ⟨w.heap.size, 0, none⟩ = some (.int .i64 P) := fun x' => (TA.out.keep x'.ok).c0
          have q1 : ∀ x' : Kept w4, x'.wd.cell? ⟨w.heap.size + 1, 0, none⟩ = some (.int .i64 xa) := fun x' => (TB.out.keep x'.ok).c0
          go_wp2
          refine wp_region_kept (by kernel_rfl) (by kernel_rfl) ?_
          repeat (go_big_quiet_step ((go_at_call 51; exact kept_call _ (HM.out _))))
          refine wpQuiet_nil ?_
          intro w1 hx3
          obtain ⟨⟨x3, hb3⟩, hw⟩ := hx3
          replace hw : w1 = x3 := hw
          subst x3
          have A1 := Lib.hid (down A4.out hb3)
          replace TA := Lib.hid (TA.out.keep hb3)
          replace TB := Lib.hid (TB.out.keep hb3)
          replace a2 := Lib.hid (a2.out.keep hb3)
          clear q0 q1 hb3 A4 HM t0 t1 tl u0 u1 ul
          have L0 := Lib.hid (here w1)
          have I0 : Hid (w1.ownsRow w1.heap.size 37 2 (.slice none 0 0) ([] : List Sp).length (pairs [])) := World.ownsRow_nil _ _ _ _
          have S0 : Hid (P ∣ xa - r0 ∧ [] = caL (hsP P A) xa (clZ yb (xa - r0))) := ⟨D0.out, (ca_none _ (by unfold clZ; split <;> omega)).symm⟩
          clear D0
          go_wp2
          go_loopw [6, 7] (fun v t wr => ∃ (at' : Int) (v' : Value) (RR : List Sp), v' = v ∧ RR.length ≤ 2000 ∧ xa - P < at' ∧ at' < yb + P ∧ t = .int .i64 at' ∧ Hid (P ∣ at' ∧ RR = caL (hsP P A) xa (clZ yb at')) ∧ Hid (wr.ownsRow w1.heap.size 37 2 v RR.length (pairs RR)) ∧ Hid (Below w1.heap.size w1 wr)) (fun _ t _ => (yb - intOf t).toNat)
          case atStart => exact ⟨xa - r0, _, [], rfl, Nat.zero_le _, by omega, by omega, by first | rfl | go_num, S0, I0, L0⟩
          case round =>
            obtain ⟨t, v', RR, rfl, rl0, t0, t1, rfl, ST, O1, B1⟩ := hrel
            clear I0 L0 S0
            have TA2 := Lib.hid (TA.out.keep B1.out)
            have TB2 := Lib.hid (TB.out.keep B1.out)
            obtain ⟨ta, tb, tl⟩ := TA2.out
            obtain ⟨ua, ub, ul⟩ := TB2.out
            by_cases z : t < yb
            · have kz := decide_eq_true z
              have SS := Lib.hid (sps pv.out ST.out.1)
              have I1 : Hid (RR = caL (hsP P A) xa (clZ yb (t + eN A 0))) := by show _ = _; rw [show t + eN A 0 = t by show t + 0 = t; omega]; exact ST.out.2
              have B1' := B1
              have O1' := O1
              clear TA2 TB2 O1 B1
              go_wp2
              go_loopw [6, 8] (fun v i wr => ∃ (k : Nat) (v' : Value) (RR : List Sp), v' = v ∧ k ≤ n ∧ RR.length ≤ 2000 + k ∧ i = .int .i64 k ∧ Hid (RR = caL (hsP P A) xa (clZ yb (t + eN A k))) ∧ Hid (wr.ownsRow w1.heap.size 37 2 v RR.length (pairs RR)) ∧ Hid (Below w1.heap.size w1 wr)) (fun _ i _ => n - (intOf i).toNat)
              case atStart => exact ⟨0, _, RR, rfl, Nat.zero_le _, by omega, rfl, I1, O1', B1'⟩
              case round =>
                obtain ⟨i, v', R, rfl, hi', rl, rfl, SI, OI, BI⟩ := hrel
                clear O1' B1' I1 ta tb tl ua ub ul
                have TA3 := Lib.hid (TA.out.keep BI.out)
                have TB3 := Lib.hid (TB.out.keep BI.out)
                have PA3 := Lib.hid (a2.out.keep BI.out)
                obtain ⟨ta, tb, tl⟩ := TA3.out
                obtain ⟨ua, ub, ul⟩ := TB3.out
                by_cases y : i < n
                · have ky : decide ((i : Int) < (n : Int)) = true := decide_eq_true (by omega)
                  have e0 := SS.out.bd i (by omega)
                  have SA := fun f g hf hg => wi_add xy SS.out (show i < A.length by omega) (f := f) (g := g) hf hg
                  obtain ⟨b, off, rfl, bl, cs⟩ := prs_here PA3.out (show i < A.length by omega)
                  obtain ⟨c0, c1⟩ := cs i (by omega)
                  rw [← SI.out] at SA
                  obtain ⟨i1, hi1⟩ : ∃ i1, i + 1 = i1 := ⟨_, rfl⟩
                  rw [hi1] at SA
                  generalize A.getD i (0, 0) = q at *
                  obtain ⟨qx, qy⟩ := q
                  replace c0 : wr.cell? ⟨b, off + i * 2, none⟩ = some (.int .i64 qx) := c0
                  replace c1 : wr.cell? ⟨b, off + i * 2 + 1, none⟩ = some (.int .i64 qy) := c1
                  have b0 : 0 ≤ qx := by have := e0.1; have := e0.2.1; show 0 ≤ (qx, qy).1; omega
                  have b1 : qx < qy := e0.2.2.1
                  have b2 : qy ≤ P := e0.2.2.2
                  obtain ⟨X, hX⟩ : ∃ X, qx + t = X := ⟨_, rfl⟩
                  obtain ⟨Y, hY⟩ : ∃ Y, qy + t = Y := ⟨_, rfl⟩
                  replace SA : ∀ f g, (f = if qx + t < xa then xa else qx + t) → (g = if yb < qy + t then yb else qy + t) → caL (hsP P A) xa (clZ yb (t + eN A i1)) = if f < g then addL R (f, g) else R := SA
                  rw [hX, hY] at SA
                  obtain ⟨f, hf⟩ : ∃ f, max X xa = f := ⟨_, rfl⟩
                  obtain ⟨g, hg⟩ : ∃ g, min Y yb = g := ⟨_, rfl⟩
                  replace SA := Lib.hid (SA f g (by rw [← hf]; split <;> omega) (by rw [← hg]; split <;> omega))
                  have xb : X < 25245561600 + 4398046511104 ∧ Y < 25245561600 + 4398046511104 ∧ -17020827311904 < X ∧ -17020827311904 < Y := by omega
                  have fb : xa ≤ f ∧ g ≤ yb ∧ f < 25245561600 + 4398046511104 ∧ -17020827311904 < g := by
                    omega
                  clear e0 cs TA3 TB3
                  go_wp2
                  go_quiet (fail)
                  obtain ⟨w6, hw6⟩ : ∃ w6 : World, wr.drewN nq = w6 := ⟨_, rfl⟩
                  rw [hw6]
                  have A6 := Lib.hid (show Below w1.heap.size w1 w6 by rw [← hw6]; exact below_drewN BI.out _)
                  have O6 : Hid (w6.ownsRow w1.heap.size 37 2 v' R.length (pairs R)) := by show World.ownsRow _ _ _ _ _ _ _; rw [← hw6]; exact OI.out
                  clear hw6 BI OI c0 c1 bl ta tb tl ua ub ul PA3 SI hf hg hX hY
                  by_cases fg : f < g
                  · have kg1 : decide (g ≤ f) = false := decide_eq_false (by omega)
                    have STE : Hid (addL R (f, g) = caL (hsP P A) xa (clZ yb (t + eN A i1))) := by show _ = _; rw [SA.out, if_pos fg]
                    have STL : (addL R (f, g)).length ≤ 2000 + i1 := by have := addL_len R (f, g); omega
                    clear SA
                    rcases snoc_cases R with rfl | ⟨R', q, rfl⟩
                    · replace O6 : Hid (w6.ownsRow w1.heap.size 37 2 v' 0 []) := O6
                      obtain ⟨ao, cp, rfl⟩ := (Sl.owns O6.out).shape
                      go_wp2_with (at_builtin; refine wpList_append_own _ rfl _ _ 22 rfl w1.heap.size 37 i0 (.agg #[.int .i64 0, .int .i64 0]) 2 16 Try.underlying22 hi hz0 hz1 hz2 rfl (by decide) (.slice ao 0 cp) 0 [] rfl (O6.out.alloc _) ⟨w6.heap.size, 0, none⟩ 1 1 [.int .i64 f, .int .i64 g] rfl rfl (fun j u hj => by rw [Addr.add_lit, Nat.zero_add, World.cell?_alloc_new]; simpa using hj) (fun u hu => by simp at hu; rcases hu with rfl | rfl <;> rfl) (by unfold maxLen; omega) (by omega) (by have := A6.out.size; simp; omega) ?_)
                      intro v7 w7 hown hgrow _
                      have A7 : Hid (Below w1.heap.size w1 w7) := (A6.out.alloc A6.out.size _).grown hgrow (by have := A6.out.size; simp; omega) (own_ge O6.out)
                      have O7 : Hid (w7.ownsRow w1.heap.size 37 2 v7 (addL [] (f, g)).length (pairs (addL [] (f, g)))) := by
                        show World.ownsRow _ _ _ _ _ _ _; exact hown
                      clear hown hgrow O6 A6
                      go_wp2
                      go_roundw
                      case rel => exact ⟨i1, _, (addL [] (f, g)), rfl, by omega, STL, by first | rfl | go_num, STE, O7, A7⟩
                      case measure => simp [intOf]; omega
                    · have len : (R' ++ [q]).length = R'.length + 1 := by simp
                      obtain ⟨gb, cp, rfl⟩ : ∃ gb cp, v' = .slice (some ⟨gb, 0, none⟩) (R'.length + 1) cp := by
                        rcases O6.out.2 with ⟨-, h0⟩ | ⟨gb, cp, cur, e, -⟩
                        · simp at h0
                        · exact ⟨gb, cp, by rw [e]; simp⟩
                      rw [len] at O6 rl
                      have gl := O6.out.lt gb rfl
                      have c2 : w6.cell? ⟨gb, R'.length * 2 + 1, none⟩ = some (.int .i64 q.2) := by
                        have := (pairs_get (R' ++ [q]) R'.length (by simp)).2
                        rw [O6.out.cellAt _ (by omega), Nat.mul_comm, this]; simp
                      have f6 := O6.out.frozenAt (R'.length * 2 + 1)
                      have STO := Lib.hid (World.ownsRow.stored O6.out (R'.length * 2 + 1) (.int .i64 g))
                      obtain ⟨m0', hm0⟩ : ∃ m0, R'.length = m0 := ⟨_, rfl⟩
                      have ps := pairs_set R' q g
                      rw [hm0] at O6 ps rl c2 f6 STO ⊢
                      rw [ps] at STO
                      obtain ⟨KK, hKK⟩ : ∃ KK : Nat, m0' + 1 = KK := ⟨_, rfl⟩
                      rw [hKK] at O6 rl STO ⊢
                      have kz3 : decide (0 < (KK : Int)) = true := decide_eq_true (by omega)
                      have kz4 : decide (0 < KK) = true := decide_eq_true (by omega)
                      have kk1 : (KK : Int) - 1 = m0' := by omega
                      have km : ((m0' : Nat) : Int) < (KK : Int) := by omega
                      clear ps
                      by_cases zq : q.2 = f
                      · have kq : (q.2 == f) = true := beq_iff_eq.2 zq
                        have O7 : Hid ((w6.setCell ⟨gb, m0' * 2 + 1, none⟩ (.int .i64 g)).ownsRow w1.heap.size 37 2 (.slice (some ⟨gb, 0, none⟩) KK cp) (addL (R' ++ [q]) (f, g)).length (pairs (addL (R' ++ [q]) (f, g)))) := by
                          show World.ownsRow _ _ _ _ _ _ _; rw [add_snoc, if_pos zq, show (R' ++ [(q.1, g)]).length = KK by simp; omega]; exact STO.out.1
                        have A7 := Lib.hid (A6.out.setCell (p := ⟨gb, m0' * 2 + 1, none⟩) gl.1 (.int .i64 g))
                        clear STO
                        go_wp2
                        go_roundw
                        case rel => exact ⟨i1, _, (addL (R' ++ [q]) (f, g)), rfl, by omega, STL, by first | rfl | go_num, STE, O7, A7⟩
                        case measure => simp [intOf]; omega
                      · have kq : (q.2 == f) = false := by rw [beq_eq_false_iff_ne]; exact zq
                        clear STO
                        go_wp2_with (at_builtin; refine wpList_append_own _ rfl _ _ 22 rfl w1.heap.size 37 i0 (.agg #[.int .i64 0, .int .i64 0]) 2 16 Try.underlying22 hi hz0 hz1 hz2 rfl (by decide) (.slice (some ⟨gb, 0, none⟩) KK cp) KK (pairs (R' ++ [q])) rfl (O6.out.alloc _) ⟨w6.heap.size, 0, none⟩ 1 1 [.int .i64 f, .int .i64 g] rfl rfl (fun j u hj => by rw [Addr.add_lit, Nat.zero_add, World.cell?_alloc_new]; simpa using hj) (fun u hu => by simp at hu; rcases hu with rfl | rfl <;> rfl) (by unfold maxLen; omega) (by omega) (by have := A6.out.size; simp; omega) ?_)
                        intro v7 w7 hown hgrow _
                        have A7 : Hid (Below w1.heap.size w1 w7) := (A6.out.alloc A6.out.size _).grown hgrow (by have := A6.out.size; simp; omega) (own_ge O6.out)
                        have O7 : Hid (w7.ownsRow w1.heap.size 37 2 v7 (addL (R' ++ [q]) (f, g)).length (pairs (addL (R' ++ [q]) (f, g)))) := by
                          show World.ownsRow _ _ _ _ _ _ _; rw [add_snoc, if_neg zq, pairs_append, show (R' ++ [q] ++ [(f, g)]).length = KK + 1 by simp; omega]; exact hown
                        clear hown hgrow O6 A6
                        go_wp2
                        go_roundw
                        case rel => exact ⟨i1, _, (addL (R' ++ [q]) (f, g)), rfl, by omega, STL, by first | rfl | go_num, STE, O7, A7⟩
                        case measure => simp [intOf]; omega
                  · have kg1 : decide (g ≤ f) = true := decide_eq_true (by omega)
                    have STE : Hid (R = caL (hsP P A) xa (clZ yb (t + eN A i1))) := by show _ = _; rw [SA.out, if_neg fg]
                    have STL : R.length ≤ 2000 + i1 := by omega
                    clear SA
                    go_wp2
                    go_roundw
                    case rel => exact ⟨i1, _, R, rfl, by omega, STL, by first | rfl | go_num, STE, O6, A6⟩
                    case measure => simp [intOf]; omega
                · have ky : decide ((i : Int) < (n : Int)) = false := decide_eq_false (by omega)
                  obtain rfl : i = n := by omega
                  have ST2 : Hid (P ∣ t + P ∧ R = caL (hsP P A) xa (clZ yb (t + P))) := ⟨by obtain ⟨j, hj⟩ := ST.out.1; exact ⟨j + 1, by rw [hj, Int.mul_add, Int.mul_one]⟩, by rw [← wi_last SS.out, hn]; exact SI.out⟩
                  clear ST SI PA3 TA3 TB3
                  by_cases big : 2000 < R.length
                  · have kb1 : decide (2000 < (R.length : Int)) = true := decide_eq_true (by omega)
                    have r : Hid (wvR P A xa yb = ([], 5)) := by show _ = _; rw [rv.out]; exact wi_full (e := t + P) (by rw [← ST2.out.2]; exact big)
                    have A9 := Lib.hid (down A1.out BI.out)
                    obtain ⟨o5, c5, rfl⟩ := (Sl.owns OI.out).shape
                    clear OI BI ST2
                    go_wp2
                    go_ret2
                    rw [r.out]
                    exact ⟨⟨_, rfl, Sl.none _ _⟩, A9.out⟩
                  · have kb1 : decide (2000 < (R.length : Int)) = false := decide_eq_false (by omega)
                    obtain ⟨o5, c5, rfl⟩ := (Sl.owns OI.out).shape
                    go_wp2
                    go_roundw
                    case rel => exact ⟨t + P, _, R, rfl, by omega, by omega, by omega, by first | rfl | go_num, ST2, OI, BI⟩
                    case measure => simp [intOf]; omega
            · have kz := decide_eq_false z
              have r : Hid (wvR P A xa yb = (RR, 0)) := by
                show _ = _
                rw [rv.out]
                have := wi_done (f := hsP P A) (a := xa) (b := yb) (e := t) (by omega) (by rw [← ST.out.2]; exact rl0)
                rw [← ST.out.2] at this; exact this
              have PF : Hid (PairS 0 wr v' RR) := by show PairS _ _ _ _; exact Sl.owns (own_weak O1.out (Nat.zero_le _))
              have A9 := Lib.hid (down A1.out B1.out)
              clear ST O1 B1 TA2 TB2
              go_wp2
              go_ret2
              rw [r.out]
              exact ⟨⟨_, rfl, PF.out⟩, A9.out⟩
end Go.Proofs.Ytaikeclfmmnelaa
