/- Contracts of package periodic: Window, common. -/
import Derived.Test.YtaikeclfmmnelaaQPeKH
import Derived.Test.YtaikeclfmmnelaaQPeLm
namespace Go.Proofs.Ytaikeclfmmnelaa

open Go.RowKit

set_option linter.unusedVariables false

/-- A window, or an error. -/
def wiR (f : Int → Bool) (x y : Int) : List Sp × Int := if 2000 < (caL f x y).length then ([], 5) else (caL f x y, 0)
theorem ls_wi {f : Int → Bool} {x y : Int} {R : List Sp} (h : LsD f x y R) : wiR f x y = if 2000 < R.length then ([], 5) else (R, 0) := by
  unfold wiR
  rcases h with rfl | ⟨a, b⟩
  · rfl
  · rw [if_pos a, if_pos b]
set_option maxRecDepth 100000 in
set_option maxHeartbeats 1000000 in
theorem upwindow (va : Value) (P : Int) (A : List Sp) (hA : A.length ≤ maxLen) (hP : I64 P) (x y : Int) {ba : Nat} (w : World) (a : PairS ba w va A) :
    Calls Try.prog 34 #[.agg #[.int .i64 P, va], .agg #[.int .i64 x, .int .i64 y]] w fun e w' => (∃ v', e = .returned (.tuple #[v', .int .i64 (if pvB P A && spB (x, y) then wiR (hsP P A) x y else ([], 1)).2]) ∧ PairS w.heap.size w' v' (if pvB P A && spB (x, y) then wiR (hsP P A) x y else ([], 1)).1) ∧ Below w.heap.size w w' := by
  have s1 := size_two w (.cells #[.int .i64 P, va] 24)
  have A1 := Lib.hid (grow (grow (here w) (.cells #[.int .i64 P, va] 24)) (.cells #[.int .i64 x, .int .i64 y] 37))
  have TA := Lib.hid (Two.fst (here ((w.alloc (.cells #[.int .i64 P, va] 24)).alloc (.cells #[.int .i64 x, .int .i64 y] 37))))
  have TB := Lib.hid (Two.snd (here ((w.alloc (.cells #[.int .i64 P, va] 24)).alloc (.cells #[.int .i64 x, .int .i64 y] 37))))
  have a2 := Lib.hid (a.keep A1.out)
  have HV := Lib.hid (upvalid va P A hA hP _ a2.out)
  have HI := Lib.hid (fun W => riv x y W)
  clear a
  obtain ⟨t0, t1, tl⟩ := TA.out
  obtain ⟨u0, u1, ul⟩ := TB.out
  cases p : pvB P A
  · rw [p] at HV
    rw [Bool.false_and]
    clear p s1
    go_enter Try.func34, Try.ntmps34
    go_wp2_with fail
    refine HV.out.mono ?_
    rintro e w3 ⟨rfl, hb⟩
    have A3 := Lib.hid (down A1.out hb)
    clear hb A1 HV a2
    go_wp2
    go_ret2
    exact ⟨⟨_, rfl, Sl.none _ _⟩, A3.out⟩
  · rw [p] at HV
    rw [Bool.true_and]
    have pv := pv_iff.1 p
    cases q : spB (x, y)
    · rw [q] at HI
      clear p s1 pv
      go_enter Try.func34, Try.ntmps34
      go_wp2_with fail
      refine HV.out.mono ?_
      rintro e w3 ⟨rfl, hb⟩
      have A3 := Lib.hid (down A1.out hb)
      replace TA := Lib.hid (TA.out.keep hb)
      replace TB := Lib.hid (TB.out.keep hb)
      clear hb A1 HV a2 t0 t1 tl u0 u1 ul
      obtain ⟨t0, t1, tl⟩ := TA.out
      obtain ⟨u0, u1, ul⟩ := TB.out
      go_wp2_with fail
      refine (HI.out _).mono ?_
      rintro e w3' ⟨rfl, hb⟩
      replace A3 := Lib.hid (down A3.out hb)
      clear hb TA TB t0 t1 tl u0 u1 ul
      go_wp2
      go_ret2
      exact ⟨⟨_, rfl, Sl.none _ _⟩, A3.out⟩
    · rw [q] at HI
      obtain ⟨x0, y1, xy⟩ := spB_iff.1 q
      replace x0 : -4398046511104 ≤ x := x0
      replace y1 : y ≤ 4398046511104 := y1
      replace xy : x < y := xy
      clear p s1
      have WL := Lib.hid (fun W h => uplisted va P A pv x y q (ba := ba) W h)
      rw [if_pos rfl]
      clear pv
      go_enter Try.func34, Try.ntmps34
      go_wp2_with fail
      refine HV.out.mono ?_
      rintro e w3 ⟨rfl, hb⟩
      have A3 := Lib.hid (down A1.out hb)
      replace TA := Lib.hid (TA.out.keep hb)
      replace TB := Lib.hid (TB.out.keep hb)
      replace a2 := Lib.hid (a2.out.keep hb)
      clear hb A1 HV t0 t1 tl u0 u1 ul
      obtain ⟨t0, t1, tl⟩ := TA.out
      obtain ⟨u0, u1, ul⟩ := TB.out
      go_wp2_with fail
      refine (HI.out _).mono ?_
      rintro e w4 ⟨rfl, hb⟩
      have A4 := Lib.hid (down A3.out hb)
      replace TA := Lib.hid (TA.out.keep hb)
      replace TB := Lib.hid (TB.out.keep hb)
      replace a2 := Lib.hid (a2.out.keep hb)
      clear hb A3 HI t0 t1 tl u0 u1 ul
      obtain ⟨t0, t1, tl⟩ := TA.out
      obtain ⟨u0, u1, ul⟩ := TB.out
      have HW := Lib.hid (WL.out _ a2.out)
      go_wp2_with fail
      refine HW.out.mono ?_
      rintro e w5 ⟨⟨v5, R, rfl, P5, lb, ls⟩, hb⟩
      have A5 := Lib.hid (down A4.out hb)
      have r := Lib.hid (ls_wi ls)
      have P5' := Lib.hid (P5.weak (show w.heap.size ≤ w4.heap.size from A4.out.size))
      clear hb A4 a2 TA TB P5 ls HW WL
      obtain ⟨o5, c5, rfl⟩ := prs_shape P5'.out
      obtain ⟨n, hn⟩ : ∃ n, R.length = n := ⟨_, rfl⟩
      rw [hn] at lb r ⊢
      have P6 : Hid (PairS w.heap.size w5 (.slice o5 n c5) R) := by show PairS _ _ _ _; rw [← hn]; exact P5'.out
      clear P5'
      replace hn := Lib.hid hn
      by_cases big : 2000 < n
      · have kb : decide (2000 < (n : Int)) = true := decide_eq_true (by omega)
        rw [if_pos big] at r
        go_wp2
        go_ret2
        rw [r.out]
        exact ⟨⟨_, rfl, Sl.none _ _⟩, A5.out⟩
      · have kb : decide (2000 < (n : Int)) = false := decide_eq_false (by omega)
        rw [if_neg big] at r
        go_wp2
        go_ret2
        rw [r.out]
        exact ⟨⟨_, rfl, P6.out⟩, A5.out⟩
/-- The conditions of a pair. -/
def prR (P Q : Int) (n m : Nat) : Int × Int := if lE P Q = 0 ∧ lR P Q ≤ 12622780800 then (if 2000 < lR P Q / P * n + lR P Q / Q * m then (0, 5) else (lR P Q, 0)) else (0, 9)
theorem pr_facts {P Q : Int} (P1 : 1 ≤ P) (P2 : P ≤ 12622780800) (Q1 : 1 ≤ Q) (h : lE P Q = 0) : P ∣ lR P Q ∧ Q ∣ lR P Q ∧ 0 < lR P Q := by
  obtain ⟨a, b, c, d⟩ := lE_ok h
  rw [c]
  exact lcm_dvd P1 (by omega) Q1
set_option maxRecDepth 100000 in
set_option maxHeartbeats 1000000 in
theorem upcommon (va vb : Value) (P Q : Int) (A B : List Sp) (hA : A.length ≤ maxLen) (hB : B.length ≤ maxLen) (hP : I64 P) (hQ : I64 Q) {ba bb : Nat} (w : World) (a : PairS ba w va A) (b : PairS bb w vb B) :
    Calls Try.prog 88 #[.agg #[.int .i64 P, va], .agg #[.int .i64 Q, vb]] w fun e w' => e = .returned (.tuple #[.int .i64 (if pvB P A && pvB Q B then prR P Q A.length B.length else (0, 1)).1, .int .i64 (if pvB P A && pvB Q B then prR P Q A.length B.length else (0, 1)).2]) ∧ Below w.heap.size w w' := by
  have s1 := size_two w (.cells #[.int .i64 P, va] 24)
  have A1 := Lib.hid (grow (grow (here w) (.cells #[.int .i64 P, va] 24)) (.cells #[.int .i64 Q, vb] 24))
  have TA := Lib.hid (Two.fst (here ((w.alloc (.cells #[.int .i64 P, va] 24)).alloc (.cells #[.int .i64 Q, vb] 24))))
  have TB := Lib.hid (Two.snd (here ((w.alloc (.cells #[.int .i64 P, va] 24)).alloc (.cells #[.int .i64 Q, vb] 24))))
  have a2 := Lib.hid (a.keep A1.out)
  have b2 := Lib.hid (b.keep A1.out)
  have HV := Lib.hid (upvalid va P A hA hP _ a2.out)
  have HW := Lib.hid (fun W (h : PairS bb W vb B) => upvalid vb Q B hB hQ W h)
  clear a b
  obtain ⟨t0, t1, tl⟩ := TA.out
  obtain ⟨u0, u1, ul⟩ := TB.out
  cases p : pvB P A
  · rw [p] at HV
    rw [Bool.false_and]
    clear p s1
    go_enter Try.func88, Try.ntmps88
    go_wp2_with fail
    refine HV.out.mono ?_
    rintro e w3 ⟨rfl, hb⟩
    have A3 := Lib.hid (down A1.out hb)
    clear hb A1 HV a2 b2 HW
    go_wp2
    go_ret2
    exact ⟨rfl, A3.out⟩
  · rw [p] at HV
    rw [Bool.true_and]
    have pv := pv_iff.1 p
    cases q : pvB Q B
    · rw [q] at HW
      clear p s1 pv
      go_enter Try.func88, Try.ntmps88
      go_wp2_with fail
      refine HV.out.mono ?_
      rintro e w3 ⟨rfl, hb⟩
      have A3 := Lib.hid (down A1.out hb)
      replace TA := Lib.hid (TA.out.keep hb)
      replace TB := Lib.hid (TB.out.keep hb)
      replace a2 := Lib.hid (a2.out.keep hb)
      replace b2 := Lib.hid (b2.out.keep hb)
      clear hb A1 HV t0 t1 tl u0 u1 ul
      obtain ⟨t0, t1, tl⟩ := TA.out
      obtain ⟨u0, u1, ul⟩ := TB.out
      go_wp2_with fail
      refine (HW.out _ b2.out).mono ?_
      rintro e w4 ⟨rfl, hb⟩
      have A4 := Lib.hid (down A3.out hb)
      clear hb A3 HW a2 b2 t0 t1 tl u0 u1 ul TA TB
      go_wp2
      go_ret2
      exact ⟨rfl, A4.out⟩
    · rw [q] at HW
      rw [if_pos rfl]
      have qv := pv_iff.1 q
      have P1 := pv.p0
      have P2 := pv.p1
      have Q1 := qv.p0
      have Q2 := qv.p1
      have lA := pv.len
      have lB := qv.len
      have HL := Lib.hid (fun W => lcm_all P Q (by omega) (by omega) (by omega) (by omega) W)
      have PF : lE P Q = 0 → 0 < lR P Q := fun h => (pr_facts P1 P2 Q1 h).2.2
      have RF : Hid (prR P Q A.length B.length = if lE P Q = 0 ∧ lR P Q ≤ 12622780800 then (if 2000 < lR P Q / P * A.length + lR P Q / Q * B.length then (0, 5) else (lR P Q, 0)) else (0, 9)) := rfl
      obtain ⟨oa, ca, rfl⟩ := prs_shape a2.out
      obtain ⟨ob, cb, rfl⟩ := prs_shape b2.out
      obtain ⟨n, hn⟩ : ∃ n, A.length = n := ⟨_, rfl⟩
      obtain ⟨m, hm⟩ : ∃ m, B.length = m := ⟨_, rfl⟩
      rw [hn, hm] at RF ⊢
      rw [hn] at lA HV t1 TA TB a2 b2 t0 tl u0 u1 ul A1 s1
      rw [hm] at lB HW HV t1 TA TB a2 b2 t0 tl u0 u1 ul A1
      generalize lR P Q = M at *
      generalize lE P Q = E at *
      clear p q pv qv hA hB hn hm
      go_enter Try.func88, Try.ntmps88
      go_wp2_with fail
      refine HV.out.mono ?_
      rintro e w3 ⟨rfl, hb⟩
      have A3 := Lib.hid (down A1.out hb)
      replace TA := Lib.hid (TA.out.keep hb)
      replace TB := Lib.hid (TB.out.keep hb)
      replace a2 := Lib.hid (a2.out.keep hb)
      replace b2 := Lib.hid (b2.out.keep hb)
      clear hb A1 HV t0 t1 tl u0 u1 ul
      obtain ⟨t0, t1, tl⟩ := TA.out
      obtain ⟨u0, u1, ul⟩ := TB.out
      go_wp2_with fail
      refine (HW.out _ b2.out).mono ?_
      rintro e w4 ⟨rfl, hb⟩
      have A4 := Lib.hid (down A3.out hb)
      replace TA := Lib.hid (TA.out.keep hb)
      replace TB := Lib.hid (TB.out.keep hb)
      clear hb A3 HW t0 t1 tl u0 u1 ul a2 b2
      obtain ⟨t0, t1, tl⟩ := TA.out
      obtain ⟨u0, u1, ul⟩ := TB.out
      go_wp2_with fail
      refine (HL.out _).mono ?_
      rintro e w5 ⟨rfl, d, hw5⟩
      replace A4 : Hid (Below w.heap.size w w5) := by show Below _ _ _; rw [hw5]; exact below_drewN A4.out d
      replace TA := Lib.hid (TA.out.drewN d)
      replace TB := Lib.hid (TB.out.drewN d)
      rw [← hw5] at TA TB
      clear hw5 t0 t1 tl u0 u1 ul
      obtain ⟨t0, t1, tl⟩ := TA.out
      obtain ⟨u0, u1, ul⟩ := TB.out
      by_cases e0 : E = 0
      · have ke : (E != 0) = false := by rw [e0]; rfl
        by_cases mb : M ≤ 12622780800
        · have km : decide (12622780800 < M) = false := decide_eq_false (by omega)
          rw [if_pos ⟨e0, mb⟩] at RF
          have M0 := PF e0
          clear PF e0
          have P0 : ¬ (P = 0) := by omega
          have Q0 : ¬ (Q = 0) := by omega
          obtain ⟨X, hX⟩ : ∃ X, M.tdiv P = X := ⟨_, rfl⟩
          obtain ⟨Y, hY⟩ : ∃ Y, M.tdiv Q = Y := ⟨_, rfl⟩
          have eX : M / P = X := by rw [← hX, Int.tdiv_eq_ediv_of_nonneg (by omega)]
          have eY : M / Q = Y := by rw [← hY, Int.tdiv_eq_ediv_of_nonneg (by omega)]
          have X0 : 0 ≤ X := by rw [← eX]; exact Int.ediv_nonneg (by omega) (by omega)
          have Y0 : 0 ≤ Y := by rw [← eY]; exact Int.ediv_nonneg (by omega) (by omega)
          have X1 : X ≤ M := by rw [← eX]; exact Int.ediv_le_self _ (by omega)
          have Y1 : Y ≤ M := by rw [← eY]; exact Int.ediv_le_self _ (by omega)
          rw [eX, eY] at RF
          have xn0 : 0 ≤ X * (n : Int) := Int.mul_nonneg X0 (by omega)
          have ym0 : 0 ≤ Y * (m : Int) := Int.mul_nonneg Y0 (by omega)
          have xn1 : X * (n : Int) ≤ 25245561600000 := by
            have := Int.mul_le_mul (show X ≤ 12622780800 by omega) (show (n : Int) ≤ 2000 by omega) (by omega) (by omega); omega
          have ym1 : Y * (m : Int) ≤ 25245561600000 := by
            have := Int.mul_le_mul (show Y ≤ 12622780800 by omega) (show (m : Int) ≤ 2000 by omega) (by omega) (by omega); omega
          obtain ⟨XN, hXN⟩ : ∃ z, X * (n : Int) = z := ⟨_, rfl⟩
          obtain ⟨YM, hYM⟩ : ∃ z, Y * (m : Int) = z := ⟨_, rfl⟩
          rw [hXN] at xn0 xn1 RF
          rw [hYM] at ym0 ym1 RF
          clear eX eY
          by_cases fu : 2000 < XN + YM
          · have kf : decide (2000 < XN + YM) = true := decide_eq_true fu
            rw [if_pos fu] at RF
            clear fu
            go_wp2
            go_quiet (fail)
            have A9 := Lib.hid (below_drewN A4.out nq)
            go_wp2
            go_ret2
            rw [RF.out]; exact ⟨rfl, A9.out⟩
          · have kf : decide (2000 < XN + YM) = false := decide_eq_false fu
            rw [if_neg fu] at RF
            clear fu
            go_wp2
            go_quiet (fail)
            have A9 := Lib.hid (below_drewN A4.out nq)
            go_wp2
            go_ret2
            rw [RF.out]; exact ⟨rfl, A9.out⟩
        · have km : decide (12622780800 < M) = true := decide_eq_true (by omega)
          rw [if_neg (fun z => mb z.2)] at RF
          clear PF e0 mb
          go_wp2
          go_ret2
          rw [RF.out]; exact ⟨rfl, A4.out⟩
      · have ke : (E != 0) = true := by rw [bne_iff_ne]; exact e0
        rw [if_neg (fun z => e0 z.1)] at RF
        clear PF e0
        go_wp2
        go_ret2
        rw [RF.out]; exact ⟨rfl, A4.out⟩
end Go.Proofs.Ytaikeclfmmnelaa
