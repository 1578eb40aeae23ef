/- Contracts of civiltimeref13: Pair, Count, Not, Move. -/
import Derived.Test.YtaikeclfmmnelaaQPeGC
import Derived.Test.YtaikeclfmmnelaaQGH
namespace Go.Proofs.Ytaikeclfmmnelaa

open Go.RowKit

set_option linter.unusedVariables false

set_option maxRecDepth 100000 in
set_option maxHeartbeats 2000000 in
theorem rppair (va vb : Value) (P Q : Int) (A B : List Sp) (lA : A.length ≤ 2000) (lB : B.length ≤ 2000) (P1 : 1 ≤ P) (P2 : P ≤ 12622780800) (Q1 : 1 ≤ Q) (Q2 : Q ≤ 12622780800) {ba bb : Nat} (w : World) (a : PairS ba w va A) (b : PairS bb w vb B) :
    Calls Try.prog 66 #[.agg #[.int .i64 P, va], .agg #[.int .i64 Q, vb]] w fun e w' => e = .returned (.tuple #[.int .i64 (prR P Q A.length B.length).1, .int .i64 (prR P Q A.length B.length).2]) ∧ Below w.heap.size w w' := by
  obtain ⟨oa, ca, rfl⟩ := prs_shape a
  obtain ⟨ob, cb, rfl⟩ := prs_shape b
  obtain ⟨n, hn⟩ : ∃ n, A.length = n := ⟨_, rfl⟩
  obtain ⟨m, hm⟩ : ∃ m, B.length = m := ⟨_, rfl⟩
  have HL := Lib.hid (fun W => reflcm_all P Q (by omega) (by omega) (by omega) (by omega) W)
  have PF : lE P Q = 0 → 0 < lR P Q := fun h => (pr_facts P1 P2 Q1 h).2.2
  have RF : Hid (prR P Q n m = if lE P Q = 0 ∧ lR P Q ≤ 12622780800 then (if 2000 < lR P Q / P * n + lR P Q / Q * m then (0, 5) else (lR P Q, 0)) else (0, 9)) := rfl
  rw [hn, hm]
  rw [hn] at lA
  rw [hm] at lB
  generalize prR P Q n m = PR at *
  generalize lR P Q = M at *
  generalize lE P Q = E at *
  have s1 := size_two w (.cells #[.int .i64 P, .slice oa n ca] 24)
  have A1 := Lib.hid (grow (grow (here w) (.cells #[.int .i64 P, .slice oa n ca] 24)) (.cells #[.int .i64 Q, .slice ob m cb] 24))
  have TA := Lib.hid (Two.fst (here ((w.alloc (.cells #[.int .i64 P, .slice oa n ca] 24)).alloc (.cells #[.int .i64 Q, .slice ob m cb] 24))))
  have TB := Lib.hid (Two.snd (here ((w.alloc (.cells #[.int .i64 P, .slice oa n ca] 24)).alloc (.cells #[.int .i64 Q, .slice ob m cb] 24))))
  clear a b s1 hn hm
  obtain ⟨t0, t1, tl⟩ := TA.out
  obtain ⟨u0, u1, ul⟩ := TB.out
  go_enter Try.func66, Try.ntmps66
  go_wp2_with fail
  refine (HL.out _).mono ?_
  rintro e w5 ⟨rfl, d, hw5⟩
  have A4 : Hid (Below w.heap.size w w5) := by show Below _ _ _; rw [hw5]; exact below_drewN A1.out d
  replace TA := Lib.hid (TA.out.drewN d)
  replace TB := Lib.hid (TB.out.drewN d)
  rw [← hw5] at TA TB
  clear hw5 t0 t1 tl u0 u1 ul A1 HL
  obtain ⟨t0, t1, tl⟩ := TA.out
  obtain ⟨u0, u1, ul⟩ := TB.out
  by_cases e0 : E = 0
  · have ke : (E != 0) = false := by rw [e0]; rfl
    by_cases mb : M ≤ 12622780800
    · have km : decide (12622780800 < M) = false := decide_eq_false (by omega)
      rw [if_pos ⟨e0, mb⟩] at RF
      have M0 := PF e0
      clear PF e0
      have P0 : ¬ (P = 0) := by omega
      have Q0 : ¬ (Q = 0) := by omega
      obtain ⟨X, eX⟩ : ∃ X, M / P = X := ⟨_, rfl⟩
      obtain ⟨Y, eY⟩ : ∃ Y, M / Q = Y := ⟨_, rfl⟩
      have hX : M.tdiv P = X := by rw [← eX, Int.tdiv_eq_ediv_of_nonneg (by omega)]
      have hY : M.tdiv Q = Y := by rw [← eY, Int.tdiv_eq_ediv_of_nonneg (by omega)]
      have X0 : 0 ≤ X := by rw [← eX]; exact Int.ediv_nonneg (by omega) (by omega)
      have Y0 : 0 ≤ Y := by rw [← eY]; exact Int.ediv_nonneg (by omega) (by omega)
      have X1 : X ≤ M := by rw [← eX]; exact Int.ediv_le_self _ (by omega)
      have Y1 : Y ≤ M := by rw [← eY]; exact Int.ediv_le_self _ (by omega)
      rw [eX, eY] at RF
      have xn0 : 0 ≤ X * (n : Int) := Int.mul_nonneg X0 (by omega)
      have ym0 : 0 ≤ Y * (m : Int) := Int.mul_nonneg Y0 (by omega)
      have xn1 : X * (n : Int) ≤ 25245561600000 := by
        have := Int.mul_le_mul (show X ≤ 12622780800 by omega) (show (n : Int) ≤ 2000 by omega) (by omega) (by omega); omega
      have ym1 : Y * (m : Int) ≤ 25245561600000 := by
        have := Int.mul_le_mul (show Y ≤ 12622780800 by omega) (show (m : Int) ≤ 2000 by omega) (by omega) (by omega); omega
      obtain ⟨XN, hXN⟩ : ∃ z, X * (n : Int) = z := ⟨_, rfl⟩
      obtain ⟨YM, hYM⟩ : ∃ z, Y * (m : Int) = z := ⟨_, rfl⟩
      rw [hXN] at xn0 xn1 RF
      rw [hYM] at ym0 ym1 RF
      by_cases fu : 2000 < XN + YM
      · have kf : decide (2000 < XN + YM) = true := decide_eq_true fu
        rw [if_pos fu] at RF
        clear fu
        go_wp2
        go_quiet (fail)
        have A9 := Lib.hid (below_drewN A4.out nq)
        go_wp2
        go_ret2
        rw [RF.out]; exact ⟨rfl, A9.out⟩
      · have kf : decide (2000 < XN + YM) = false := decide_eq_false fu
        rw [if_neg fu] at RF
        clear fu
        go_wp2
        go_quiet (fail)
        have A9 := Lib.hid (below_drewN A4.out nq)
        go_wp2
        go_ret2
        rw [RF.out]; exact ⟨rfl, A9.out⟩
    · have km : decide (12622780800 < M) = true := decide_eq_true (by omega)
      rw [if_neg (fun z => mb z.2)] at RF
      clear PF e0 mb
      go_wp2
      go_ret2
      rw [RF.out]; exact ⟨rfl, A4.out⟩
  · have ke : (E != 0) = true := by rw [bne_iff_ne]; exact e0
    rw [if_neg (fun z => e0 z.1)] at RF
    clear PF e0
    go_wp2
    go_ret2
    rw [RF.out]; exact ⟨rfl, A4.out⟩
set_option maxRecDepth 100000 in
set_option maxHeartbeats 2000000 in
theorem rpcount (va : Value) (P : Int) (A : List Sp) (pv : PV P A) (x y : Int) (sp : spB (x, y) = true) {ba : Nat} (w : World) (a : PairS ba w va A) :
    Calls Try.prog 38 #[.agg #[.int .i64 P, va], .agg #[.int .i64 x, .int .i64 y]] w fun e w' => e = .returned (.int .i64 (blV P A y - blV P A x)) ∧ Below w.heap.size w w' := by
  obtain ⟨x0, y1, xy⟩ := spB_iff.1 sp
  replace x0 : -4398046511104 ≤ x := x0
  replace y1 : y ≤ 4398046511104 := y1
  replace xy : x < y := xy
  have s1 := size_two w (.cells #[.int .i64 P, va] 24)
  have A1 := Lib.hid (grow (grow (here w) (.cells #[.int .i64 P, va] 24)) (.cells #[.int .i64 x, .int .i64 y] 37))
  have TA := Lib.hid (Two.fst (here ((w.alloc (.cells #[.int .i64 P, va] 24)).alloc (.cells #[.int .i64 x, .int .i64 y] 37))))
  have TB := Lib.hid (Two.snd (here ((w.alloc (.cells #[.int .i64 P, va] 24)).alloc (.cells #[.int .i64 x, .int .i64 y] 37))))
  have a2 := Lib.hid (a.keep A1.out)
  have bx := bl_bound pv x0 (show x ≤ 4398046511104 by omega)
  have b_y := bl_bound pv (show -4398046511104 ≤ y by omega) y1
  have P0 : 0 < P := by have := pv.p0; omega
  have P1 := pv.p1
  have p0 : ∀ z : Kept ((w.alloc (.cells #[.int .i64 P, va] 24)).alloc (.cells #[.int .i64 x, .int .i64 y] 37)), z.wd.cell? ⟨w.heap.size, 0, none⟩ = some (.int .i64 P) := fun z => (TA.out.keep z.ok).c0
  have p1 : ∀ z : Kept ((w.alloc (.cells #[.int .i64 P, va] 24)).alloc (.cells #[.int .i64 x, .int .i64 y] 37)), z.wd.cell? ⟨w.heap.size, 1, none⟩ = some va := fun z => (TA.out.keep z.ok).c1
  have r0 : ∀ z : Kept ((w.alloc (.cells #[.int .i64 P, va] 24)).alloc (.cells #[.int .i64 x, .int .i64 y] 37)), z.wd.cell? ⟨w.heap.size + 1, 0, none⟩ = some (.int .i64 x) := fun z => (TB.out.keep z.ok).c0
  have r1 : ∀ z : Kept ((w.alloc (.cells #[.int .i64 P, va] 24)).alloc (.cells #[.int .i64 x, .int .i64 y] 37)), z.wd.cell? ⟨w.heap.size + 1, 1, none⟩ = some (.int .i64 y) := fun z => (TB.out.keep z.ok).c1
  have GX : Hid (∀ z : Kept ((w.alloc (.cells #[.int .i64 P, va] 24)).alloc (.cells #[.int .i64 x, .int .i64 y] 37)), Calls Try.prog 73 #[.agg #[.int .i64 P, va], .int .i64 x] z.wd fun e w' => e = .returned (.int .i64 (blV P A x)) ∧ Below z.wd.heap.size z.wd w') := fun z => rpbelow va P A pv.len pv.cn pv.ip P0 (by omega) x x0 (by omega) z.wd (a2.out.keep z.ok)
  have GY : Hid (∀ z : Kept ((w.alloc (.cells #[.int .i64 P, va] 24)).alloc (.cells #[.int .i64 x, .int .i64 y] 37)), Calls Try.prog 73 #[.agg #[.int .i64 P, va], .int .i64 y] z.wd fun e w' => e = .returned (.int .i64 (blV P A y)) ∧ Below z.wd.heap.size z.wd w') := fun z => rpbelow va P A pv.len pv.cn pv.ip P0 (by omega) y (by omega) y1 z.wd (a2.out.keep z.ok)
  generalize blV P A x = X at *
  generalize blV P A y = Y at *
  clear pv sp TA TB a2 a s1
  go_enter Try.func38, Try.ntmps38
  go_wp2
  refine wp_region_kept (by kernel_rfl) (by kernel_rfl) ?_
  repeat (go_big_quiet_step (first | (go_at_call 73; with_reducible exact kept_call _ (GX.out _)) | (go_at_call 73; with_reducible exact kept_call _ (GY.out _))))
  refine wpQuiet_nil ?_
  intro w5 hx5
  obtain ⟨⟨x5, hb5⟩, hw⟩ := hx5
  replace hw : w5 = x5 := hw
  subst x5
  have A5 := Lib.hid (down A1.out hb5)
  clear hb5 p0 p1 r0 r1
  go_wp2
  go_ret
  exact ⟨rfl, A5.out⟩
end Go.Proofs.Ytaikeclfmmnelaa
