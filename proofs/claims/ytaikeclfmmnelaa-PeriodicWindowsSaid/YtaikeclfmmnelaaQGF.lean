/- Contracts of package periodic: Equal, Has, rank, Count, Next. -/
import Derived.Test.YtaikeclfmmnelaaQPeKE
import Derived.Test.YtaikeclfmmnelaaQGB
import Derived.Test.YtaikeclfmmnelaaQPeE
namespace Go.Proofs.Ytaikeclfmmnelaa

open Go.RowKit

set_option linter.unusedVariables false

theorem cmodP (a b : Int) (ha : I64 a) (b0 : 0 < b) (b1 : b ≤ 12622780800) (w : World) :
    Calls Try.prog 50 #[.int .i64 a, .int .i64 b] w fun e w' => e = .returned (.int .i64 (a % b)) ∧ ∃ n, w' = w.drewN n := by
  have h := mod_all a b ha.1 ha.2 (by omega) (by omega) w
  rw [dR_pos b0] at h
  exact h
theorem cfloorP (a b : Int) (ha : I64 a) (b0 : 0 < b) (b1 : b ≤ 12622780800) (w : World) :
    Calls Try.prog 95 #[.int .i64 a, .int .i64 b] w fun e w' => e = .returned (.int .i64 (a / b)) ∧ ∃ n, w' = w.drewN n := by
  have h := floor_all a b ha.1 ha.2 (by omega) (by omega) w
  rw [dQ_pos b0] at h
  exact h
theorem rk_ms : ∀ {L : List Sp}, Cn L → ∀ x, rkL L x ≤ msL L
  | [], _, _ => Int.le_refl _
  | p :: L, c, x => by
    have ih := rk_ms c.2.2 x
    have := c.1
    show clS p x + rkL L x ≤ (p.2 - p.1) + msL L
    unfold clS
    split <;> (try split) <;> omega
theorem pv_big {P : Int} {L : List Sp} (h : pvB P L = true) : 0 < P ∧ P ≤ 12622780800 ∧ L.length ≤ 2000 := by
  have p := pv_iff.1 h
  exact ⟨by have := p.p0; omega, p.p1, p.len⟩
set_option maxRecDepth 100000 in
set_option maxHeartbeats 1000000 in
theorem upequal (va vb : Value) (P Q : Int) (A B : List Sp) (hA : A.length ≤ maxLen) (hP : I64 P) (hQ : I64 Q) {ba bb : Nat} (w : World) (a : PairS ba w va A) (b : PairS bb w vb B) :
    Calls Try.prog 18 #[.agg #[.int .i64 P, va], .agg #[.int .i64 Q, vb]] w fun e w' => e = .returned (.bool (pvB P A && decide (P = Q) && (A == B))) ∧ Below w.heap.size w w' := by
  have s1 := size_two w (.cells #[.int .i64 P, va] 24)
  have A1 := Lib.hid (grow (grow (here w) (.cells #[.int .i64 P, va] 24)) (.cells #[.int .i64 Q, vb] 24))
  have TA := Lib.hid (Two.fst (here ((w.alloc (.cells #[.int .i64 P, va] 24)).alloc (.cells #[.int .i64 Q, vb] 24))))
  have TB := Lib.hid (Two.snd (here ((w.alloc (.cells #[.int .i64 P, va] 24)).alloc (.cells #[.int .i64 Q, vb] 24))))
  have a2 := Lib.hid (a.keep A1.out)
  have b2 := Lib.hid (b.keep A1.out)
  have HV := Lib.hid (upvalid va P A hA hP _ a2.out)
  clear a b
  obtain ⟨t0, t1, tl⟩ := TA.out
  obtain ⟨u0, u1, ul⟩ := TB.out
  cases p : pvB P A
  · rw [p] at HV
    rw [Bool.false_and, Bool.false_and]
    clear p s1
    go_enter Try.func18, Try.ntmps18
    go_wp2_with fail
    refine HV.out.mono ?_
    rintro e w3 ⟨rfl, hb⟩
    have A3 := Lib.hid (down A1.out hb)
    clear hb A1 HV a2 b2
    go_wp2
    go_ret
    exact ⟨rfl, A3.out⟩
  · rw [p] at HV
    rw [Bool.true_and]
    have lA := (pv_big p).2.2
    by_cases q : P = Q
    · have kq : (P == Q) = true := by rw [beq_iff_eq]; exact q
      rw [decide_eq_true q, Bool.true_and]
      have EQ := Lib.hid (fun w3 (x : PairS ba w3 va A) (y : PairS bb w3 vb B) => eq_pairs A B va vb (by omega) w3 x y)
      generalize (A == B) = R at *
      clear p s1 q
      go_enter Try.func18, Try.ntmps18
      go_wp2_with fail
      refine HV.out.mono ?_
      rintro e w3 ⟨rfl, hb⟩
      have A3 := Lib.hid (down A1.out hb)
      replace TA := Lib.hid (TA.out.keep hb)
      replace TB := Lib.hid (TB.out.keep hb)
      replace a2 := Lib.hid (a2.out.keep hb)
      replace b2 := Lib.hid (b2.out.keep hb)
      clear hb A1 HV t0 t1 tl u0 u1 ul
      obtain ⟨t0, t1, tl⟩ := TA.out
      obtain ⟨u0, u1, ul⟩ := TB.out
      go_wp2_with fail
      refine (EQ.out _ a2.out b2.out).mono ?_
      rintro e w4 ⟨rfl, n, rfl⟩
      have A4 := Lib.hid (below_drewN A3.out n)
      clear A3 EQ a2 b2
      go_wp2
      go_ret
      exact ⟨rfl, A4.out⟩
    · have kq : (P == Q) = false := by rw [beq_eq_false_iff_ne]; exact q
      rw [decide_eq_false q, Bool.false_and]
      clear p s1 q
      go_enter Try.func18, Try.ntmps18
      go_wp2_with fail
      refine HV.out.mono ?_
      rintro e w3 ⟨rfl, hb⟩
      have A3 := Lib.hid (down A1.out hb)
      replace TA := Lib.hid (TA.out.keep hb)
      replace TB := Lib.hid (TB.out.keep hb)
      clear hb A1 HV t0 t1 tl u0 u1 ul a2 b2
      obtain ⟨t0, t1, tl⟩ := TA.out
      obtain ⟨u0, u1, ul⟩ := TB.out
      go_wp2
      go_ret
      exact ⟨rfl, A3.out⟩
set_option maxRecDepth 100000 in
set_option maxHeartbeats 1000000 in
theorem uphas (va : Value) (P : Int) (A : List Sp) (hA : A.length ≤ maxLen) (hP : I64 P) (x : Int) (hx : I64 x) {ba : Nat} (w : World) (a : PairS ba w va A) :
    Calls Try.prog 16 #[.agg #[.int .i64 P, va], .int .i64 x] w fun e w' => e = .returned (.bool (pvB P A && hsP P A x)) ∧ Below w.heap.size w w' := by
  have A1 := Lib.hid (grow (here w) (.cells #[.int .i64 P, va] 24))
  have TA := Lib.hid (Two.new (here (w.alloc (.cells #[.int .i64 P, va] 24))))
  have HA := Lib.hid (a.keep A1.out)
  clear a
  have p0 : ∀ x : Kept (w.alloc (.cells #[.int .i64 P, va] 24)), x.wd.cell? ⟨w.heap.size, 0, none⟩ = some (.int .i64 P) := fun x => (TA.out.keep x.ok).c0
  have p1 : ∀ x : Kept (w.alloc (.cells #[.int .i64 P, va] 24)), x.wd.cell? ⟨w.heap.size, 1, none⟩ = some va := fun x => (TA.out.keep x.ok).c1
  have GV : Hid (∀ x : Kept (w.alloc (.cells #[.int .i64 P, va] 24)), Calls Try.prog 15 #[.agg #[.int .i64 P, va]] x.wd fun e w' => e = .returned (.bool (pvB P A)) ∧ Below x.wd.heap.size x.wd w') := fun x => upvalid va P A hA hP x.wd (HA.out.keep x.ok)
  cases p : pvB P A
  · rw [p] at GV
    rw [Bool.false_and]
    go_enter Try.func16, Try.ntmps16
    go_wp2
    refine wp_region_kept (by kernel_rfl) (by kernel_rfl) ?_
    repeat (go_big_quiet_step ((go_at_call 15; exact kept_call _ (GV.out _))))
    refine wpQuiet_nil ?_
    intro w3 hx
    obtain ⟨⟨x3, hb3⟩, hw⟩ := hx
    replace hw : w3 = x3 := hw
    subst x3
    have A3 := Lib.hid (down A1.out hb3)
    clear hb3 p0 p1 HA
    go_wp2
    go_ret
    exact ⟨rfl, A3.out⟩
  · rw [p] at GV
    rw [Bool.true_and]
    obtain ⟨P0, P1, lA⟩ := pv_big p
    have va' := (pv_iff.1 p).va
    have m0 := Int.emod_nonneg x (show P ≠ 0 by omega)
    have m1 := Int.emod_lt_of_pos x P0
    have GM : Hid (∀ y : Kept (w.alloc (.cells #[.int .i64 P, va] 24)), Calls Try.prog 50 #[.int .i64 x, .int .i64 P] y.wd fun e w' => e = .returned (.int .i64 (x % P)) ∧ ∃ n, w' = y.wd.drewN n) := fun y => cmodP x P hx P0 P1 y.wd
    have GH : Hid (∀ y : Kept (w.alloc (.cells #[.int .i64 P, va] 24)), Calls Try.prog 49 #[va, .int .i64 (x % P)] y.wd fun e w' => e = .returned (.bool (vaB A && inB A (x % P))) ∧ Below y.wd.heap.size y.wd w') := fun y => ruhas va A hA (x % P) (by unfold I64; omega) y.wd (HA.out.keep y.ok)
    rw [va', Bool.true_and] at GH
    have hv : hsP P A x = inB A (x % P) := rfl
    rw [hv]
    clear hv va' p
    generalize inB A (x % P) = R at *
    generalize x % P = r at *
    go_enter Try.func16, Try.ntmps16
    go_wp2
    refine wp_region_kept (by kernel_rfl) (by kernel_rfl) ?_
    repeat (go_big_quiet_step (first | (go_at_call 15; exact kept_call _ (GV.out _)) | (go_at_call 50; exact kept_drew _ (GM.out _)) | (go_at_call 49; exact kept_call _ (GH.out _))))
    refine wpQuiet_nil ?_
    intro w3 hx
    obtain ⟨⟨x3, hb3⟩, hw⟩ := hx
    replace hw : w3 = x3 := hw
    subst x3
    have A3 := Lib.hid (down A1.out hb3)
    clear hb3 p0 p1 HA
    go_wp2
    go_ret
    exact ⟨rfl, A3.out⟩
set_option maxRecDepth 100000 in
set_option maxHeartbeats 1000000 in
theorem uprank (va : Value) (P : Int) (A : List Sp) (pv : PV P A) (cp : CapS va) (x : Int) (x0 : -4398046511104 ≤ x) (x1 : x ≤ 4398046511104) {ba : Nat} (w : World) (a : PairS ba w va A) :
    Calls Try.prog 72 #[.agg #[.int .i64 P, va], .int .i64 x] w fun e w' => e = .returned (.int .i64 (blV P A x)) ∧ Below w.heap.size w w' := by
  have P0 : 0 < P := by have := pv.p0; omega
  have P1 := pv.p1
  have lA : A.length ≤ maxLen := by have := pv.len; unfold maxLen; omega
  have hx : I64 x := by unfold I64; omega
  have m0 := Int.emod_nonneg x (show P ≠ 0 by omega)
  have m1 := Int.emod_lt_of_pos x P0
  have hq := qm_bound P0 (ms_nonneg pv.cn) (show msL A ≤ P by have := ms_le pv.cn (show 0 ≤ P by omega) pv.ip; omega) (by omega) x0 x1
  have fm := few_ms (few_of pv.va)
  have rk0 := rk_bound pv.cn pv.ln (x % P)
  have rk1 : rkL A (x % P) ≤ msL A := rk_ms pv.cn (x % P)
  have A1 := Lib.hid (grow (here w) (.cells #[.int .i64 P, va] 24))
  have TA := Lib.hid (Two.new (here (w.alloc (.cells #[.int .i64 P, va] 24))))
  have HA := Lib.hid (a.keep A1.out)
  clear a
  have p0 : ∀ x : Kept (w.alloc (.cells #[.int .i64 P, va] 24)), x.wd.cell? ⟨w.heap.size, 0, none⟩ = some (.int .i64 P) := fun x => (TA.out.keep x.ok).c0
  have p1 : ∀ x : Kept (w.alloc (.cells #[.int .i64 P, va] 24)), x.wd.cell? ⟨w.heap.size, 1, none⟩ = some va := fun x => (TA.out.keep x.ok).c1
  have GM : Hid (∀ y : Kept (w.alloc (.cells #[.int .i64 P, va] 24)), Calls Try.prog 50 #[.int .i64 x, .int .i64 P] y.wd fun e w' => e = .returned (.int .i64 (x % P)) ∧ ∃ n, w' = y.wd.drewN n) := fun y => cmodP x P hx P0 P1 y.wd
  have GF : Hid (∀ y : Kept (w.alloc (.cells #[.int .i64 P, va] 24)), Calls Try.prog 95 #[.int .i64 x, .int .i64 P] y.wd fun e w' => e = .returned (.int .i64 (x / P)) ∧ ∃ n, w' = y.wd.drewN n) := fun y => cfloorP x P hx P0 P1 y.wd
  have GS : Hid (∀ y : Kept (w.alloc (.cells #[.int .i64 P, va] 24)), Calls Try.prog 39 #[va] y.wd fun e w' => e = .returned (.int .i64 (if vaB A then msL A else 0)) ∧ Below y.wd.heap.size y.wd w') := fun y => rumeasure va A lA y.wd (HA.out.keep y.ok)
  have GR : Hid (∀ y : Kept (w.alloc (.cells #[.int .i64 P, va] 24)), Calls Try.prog 96 #[va, .int .i64 (x % P)] y.wd fun e w' => e = .returned (.int .i64 (if vaB A then rkL A (x % P) else 0)) ∧ Below y.wd.heap.size y.wd w') := fun y => rurank va A lA (x % P) (by unfold I64; omega) cp y.wd (HA.out.keep y.ok)
  rw [pv.va, if_pos rfl] at GS GR
  have hv : blV P A x = x / P * msL A + rkL A (x % P) := rfl
  rw [hv]
  clear hv pv cp lA
  generalize rkL A (x % P) = R at *
  generalize x % P = r at *
  generalize msL A = M at *
  generalize x / P = F at *
  go_enter Try.func72, Try.ntmps72
  go_wp2
  refine wp_region_kept (by kernel_rfl) (by kernel_rfl) ?_
  repeat (go_big_quiet_step (first | (go_at_call 95; exact kept_drew _ (GF.out _)) | (go_at_call 50; exact kept_drew _ (GM.out _)) | (go_at_call 39; exact kept_call _ (GS.out _)) | (go_at_call 96; exact kept_call _ (GR.out _))))
  refine wpQuiet_nil ?_
  intro w3 hx
  obtain ⟨⟨x3, hb3⟩, hw⟩ := hx
  replace hw : w3 = x3 := hw
  subst x3
  have A3 := Lib.hid (down A1.out hb3)
  clear hb3 p0 p1 HA
  go_wp2
  go_ret
  exact ⟨rfl, A3.out⟩
end Go.Proofs.Ytaikeclfmmnelaa
/- Contracts of package periodic: Count, Next. -/
namespace Go.Proofs.Ytaikeclfmmnelaa

open Go.RowKit

set_option linter.unusedVariables false

theorem bl_bound {P : Int} {A : List Sp} (pv : PV P A) {x : Int} (x0 : -4398046511104 ≤ x) (x1 : x ≤ 4398046511104) : -20000000000000000 ≤ blV P A x ∧ blV P A x ≤ 20000000000000000 := by
  have P0 : 0 < P := by have := pv.p0; omega
  have P1 := pv.p1
  have hq := qm_bound P0 (ms_nonneg pv.cn) (show msL A ≤ P by have := ms_le pv.cn (show 0 ≤ P by omega) pv.ip; omega) (by omega) x0 x1
  have fm := few_ms (few_of pv.va)
  have rk0 := rk_bound pv.cn pv.ln (x % P)
  have rk1 := rk_ms pv.cn (x % P)
  have hv : blV P A x = x / P * msL A + rkL A (x % P) := rfl
  rw [hv]
  generalize x / P * msL A = q at *
  omega
theorem nx_bound {P : Int} {A : List Sp} (pv : PV P A) {r : Int} (r0 : 0 ≤ r) (r1 : r < P) : (nextL A r).2 = true → 0 ≤ (nextL A r).1 ∧ (nextL A r).1 ≤ 12622780800 := fun h => by
  have q := next_yes pv.cn pv.ln h
  have i := in_out pv.ip q.2.1
  have := pv.p1
  omega
set_option maxRecDepth 100000 in
set_option maxHeartbeats 1000000 in
theorem upcount (va : Value) (P : Int) (A : List Sp) (hA : A.length ≤ maxLen) (hP : I64 P) (cp : CapS va) (x y : Int) {ba : Nat} (w : World) (a : PairS ba w va A) :
    Calls Try.prog 35 #[.agg #[.int .i64 P, va], .agg #[.int .i64 x, .int .i64 y]] w fun e w' => e = .returned (if pvB P A && spB (x, y) then .tuple #[.int .i64 (blV P A y - blV P A x), .int .i64 0] else .tuple #[.int .i64 0, .int .i64 1]) ∧ Below w.heap.size w w' := by
  have s1 := size_two w (.cells #[.int .i64 P, va] 24)
  have A1 := Lib.hid (grow (grow (here w) (.cells #[.int .i64 P, va] 24)) (.cells #[.int .i64 x, .int .i64 y] 37))
  have TA := Lib.hid (Two.fst (here ((w.alloc (.cells #[.int .i64 P, va] 24)).alloc (.cells #[.int .i64 x, .int .i64 y] 37))))
  have TB := Lib.hid (Two.snd (here ((w.alloc (.cells #[.int .i64 P, va] 24)).alloc (.cells #[.int .i64 x, .int .i64 y] 37))))
  have a2 := Lib.hid (a.keep A1.out)
  have HV := Lib.hid (upvalid va P A hA hP _ a2.out)
  have HI := Lib.hid (fun W => riv x y W)
  clear a
  obtain ⟨t0, t1, tl⟩ := TA.out
  obtain ⟨u0, u1, ul⟩ := TB.out
  cases p : pvB P A
  · rw [p] at HV
    rw [Bool.false_and]
    clear p s1
    go_enter Try.func35, Try.ntmps35
    go_wp2_with fail
    refine HV.out.mono ?_
    rintro e w3 ⟨rfl, hb⟩
    have A3 := Lib.hid (down A1.out hb)
    clear hb A1 HV a2
    go_wp2
    go_ret2
    exact ⟨rfl, A3.out⟩
  · rw [p] at HV
    rw [Bool.true_and]
    have pv := pv_iff.1 p
    cases q : spB (x, y)
    · rw [q] at HI
      clear p s1 pv
      go_enter Try.func35, Try.ntmps35
      go_wp2_with fail
      refine HV.out.mono ?_
      rintro e w3 ⟨rfl, hb⟩
      have A3 := Lib.hid (down A1.out hb)
      replace TA := Lib.hid (TA.out.keep hb)
      replace TB := Lib.hid (TB.out.keep hb)
      clear hb A1 HV a2 t0 t1 tl u0 u1 ul
      obtain ⟨t0, t1, tl⟩ := TA.out
      obtain ⟨u0, u1, ul⟩ := TB.out
      go_wp2_with fail
      refine (HI.out _).mono ?_
      rintro e w3' ⟨rfl, hb⟩
      replace A3 := Lib.hid (down A3.out hb)
      clear hb TA TB t0 t1 tl u0 u1 ul
      go_wp2
      go_ret2
      exact ⟨rfl, A3.out⟩
    · rw [q] at HI
      obtain ⟨x0, y1, xy⟩ := spB_iff.1 q
      replace x0 : -4398046511104 ≤ x := x0
      replace y1 : y ≤ 4398046511104 := y1
      replace xy : x < y := xy
      clear p s1
      have bx := bl_bound pv x0 (show x ≤ 4398046511104 by omega)
      have b_y := bl_bound pv (show -4398046511104 ≤ y by omega) y1
      have XR := Lib.hid (fun W h => uprank va P A pv cp x x0 (by omega) (ba := ba) W h)
      have YR := Lib.hid (fun W h => uprank va P A pv cp y (by omega) y1 (ba := ba) W h)
      rw [if_pos rfl]
      generalize blV P A x = X at *
      generalize blV P A y = Y at *
      clear pv cp q
      go_enter Try.func35, Try.ntmps35
      go_wp2_with fail
      refine HV.out.mono ?_
      rintro e w3 ⟨rfl, hb⟩
      have A3 := Lib.hid (down A1.out hb)
      replace TA := Lib.hid (TA.out.keep hb)
      replace TB := Lib.hid (TB.out.keep hb)
      replace a2 := Lib.hid (a2.out.keep hb)
      clear hb A1 HV t0 t1 tl u0 u1 ul
      obtain ⟨t0, t1, tl⟩ := TA.out
      obtain ⟨u0, u1, ul⟩ := TB.out
      go_wp2_with fail
      refine (HI.out _).mono ?_
      rintro e w4 ⟨rfl, hb⟩
      have A4 := Lib.hid (down A3.out hb)
      replace TA := Lib.hid (TA.out.keep hb)
      replace TB := Lib.hid (TB.out.keep hb)
      replace a2 := Lib.hid (a2.out.keep hb)
      clear hb A3 HI t0 t1 tl u0 u1 ul
      have p0 : ∀ x : Kept w4, x.wd.cell? ⟨w.heap.size, 0, none⟩ = some (.int .i64 P) := fun x => (TA.out.keep x.ok).c0
      have p1 : ∀ x : Kept w4, x.wd.cell? ⟨w.heap.size, 1, none⟩ = some va := fun x => (TA.out.keep x.ok).c1
      have r0 : ∀ z : Kept w4, z.wd.cell? ⟨w.heap.size + 1, 0, none⟩ = some (.int .i64 x) := fun z => (TB.out.keep z.ok).c0
      have r1 : ∀ z : Kept w4, z.wd.cell? ⟨w.heap.size + 1, 1, none⟩ = some (.int .i64 y) := fun z => (TB.out.keep z.ok).c1
      have GX : Hid (∀ z : Kept w4, Calls Try.prog 72 #[.agg #[.int .i64 P, va], .int .i64 x] z.wd fun e w' => e = .returned (.int .i64 X) ∧ Below z.wd.heap.size z.wd w') := fun z => XR.out z.wd (a2.out.keep z.ok)
      have GY : Hid (∀ z : Kept w4, Calls Try.prog 72 #[.agg #[.int .i64 P, va], .int .i64 y] z.wd fun e w' => e = .returned (.int .i64 Y) ∧ Below z.wd.heap.size z.wd w') := fun z => YR.out z.wd (a2.out.keep z.ok)
      have hne : ¬ (x = y) := by omega
      have hne' : ¬ (y = x) := by omega
      go_wp2
      refine wp_region_kept (by kernel_rfl) (by kernel_rfl) ?_
      repeat (go_big_quiet_step (first | (go_at_call 72; with_reducible exact kept_call _ (GX.out _)) | (go_at_call 72; with_reducible exact kept_call _ (GY.out _))))
      refine wpQuiet_nil ?_
      intro w5 hx5
      obtain ⟨⟨x5, hb5⟩, hw⟩ := hx5
      replace hw : w5 = x5 := hw
      subst x5
      have A5 := Lib.hid (down A4.out hb5)
      clear hb5 p0 p1 r0 r1 a2 TA TB A4
      go_wp2
      go_ret2
      exact ⟨rfl, A5.out⟩
set_option maxRecDepth 100000 in
set_option maxHeartbeats 1000000 in
theorem upnext (va : Value) (P : Int) (A : List Sp) (hA : A.length ≤ maxLen) (hP : I64 P) (x : Int) (hx : I64 x) {ba : Nat} (w : World) (a : PairS ba w va A) :
    Calls Try.prog 41 #[.agg #[.int .i64 P, va], .int .i64 x] w fun e w' => e = .returned (if pvB P A = true ∧ 0 < A.length ∧ nvB x = true then .tuple #[.int .i64 (nxV P A x), .bool true] else .tuple #[.int .i64 0, .bool false]) ∧ Below w.heap.size w w' := by
  have A1 := Lib.hid (grow (here w) (.cells #[.int .i64 P, va] 24))
  have TA := Lib.hid (Two.new (here (w.alloc (.cells #[.int .i64 P, va] 24))))
  have a2 := Lib.hid (a.keep A1.out)
  have HV := Lib.hid (upvalid va P A hA hP _ a2.out)
  have HI := Lib.hid (fun W => upisline x W)
  clear a
  obtain ⟨o, c, rfl⟩ := prs_shape a2.out
  obtain ⟨t0, t1, tl⟩ := TA.out
  obtain ⟨n, hl⟩ : ∃ n, A.length = n := ⟨_, rfl⟩
  have hn : n ≤ 9223372036854775807 := by unfold maxLen at hA; omega
  rw [hl] at t0 t1 tl TA A1 a2 HV ⊢
  cases p : pvB P A
  · rw [p] at HV
    rw [if_neg (by simp)]
    clear p hl
    go_enter Try.func41, Try.ntmps41
    go_wp2_with fail
    refine HV.out.mono ?_
    rintro e w3 ⟨rfl, hb⟩
    have A3 := Lib.hid (down A1.out hb)
    clear hb A1 HV a2
    go_wp2
    go_ret2
    exact ⟨rfl, A3.out⟩
  · rw [p] at HV
    have pv := pv_iff.1 p
    by_cases z : 0 < n
    · have zz : ((n : Int) == 0) = false := by rw [beq_eq_false_iff_ne]; omega
      cases q : nvB x
      · rw [q] at HI
        rw [if_neg (by simp)]
        clear p pv hl
        go_enter Try.func41, Try.ntmps41
        go_wp2_with fail
        refine HV.out.mono ?_
        rintro e w3 ⟨rfl, hb⟩
        have A3 := Lib.hid (down A1.out hb)
        replace TA := Lib.hid (TA.out.keep hb)
        clear hb A1 HV a2 t0 t1 tl
        obtain ⟨t0, t1, tl⟩ := TA.out
        go_wp2_with fail
        refine (HI.out _).mono ?_
        rintro e w4 ⟨rfl, rfl⟩
        go_wp2
        go_ret2
        exact ⟨rfl, A3.out⟩
      · rw [q] at HI
        rw [if_pos ⟨rfl, z, rfl⟩]
        obtain ⟨x0, x1⟩ := nvB_iff.1 q
        have P0 : 0 < P := by have := pv.p0; omega
        have P1 := pv.p1
        have m0 := Int.emod_nonneg x (show P ≠ 0 by omega)
        have m1 := Int.emod_lt_of_pos x P0
        have HM := Lib.hid (fun W => cmodP x P hx P0 P1 W)
        have HN := Lib.hid (fun W h => runext (.slice o n c) A hA (x % P) (by unfold I64; omega) (ba := ba) W h)
        rw [pv.va, if_pos rfl, if_pos rfl] at HN
        have NB := nx_bound pv (show 0 ≤ x % P from m0) m1
        have hv : nxV P A x = if (nextL A (x % P)).2 then x + ((nextL A (x % P)).1 - x % P) else x + P - x % P + (A.getD 0 (0, 0)).1 := rfl
        have f0 := pe_at pv.cn pv.ip (k := 0) (by omega)
        rw [hv]
        clear hv pv p
        generalize x % P = r at *
        generalize nextL A r = nx at *
        obtain ⟨y, b⟩ := nx
        obtain ⟨g, hg⟩ : ∃ g, (A.getD 0 (0, 0)).1 = g := ⟨_, rfl⟩
        obtain ⟨g2, hg2⟩ : ∃ g, (A.getD 0 (0, 0)).2 = g := ⟨_, rfl⟩
        rw [hg, hg2] at f0
        replace hg := Lib.hid hg
        clear hg2
        replace NB : b = true → 0 ≤ y ∧ y ≤ 12622780800 := NB
        replace HN : Hid (∀ W, PairS ba W (.slice o n c) A → Calls Try.prog 75 #[.slice o n c, .int .i64 r] W fun e w' => e = .returned (.tuple #[.int .i64 y, .bool b]) ∧ Below W.heap.size W w') := HN
        show Calls _ _ _ _ fun e w' => e = .returned (.tuple #[.int .i64 (if b then x + (y - r) else x + P - r + (A.getD 0 (0, 0)).1), .bool true]) ∧ _
        rw [hg.out]
        go_enter Try.func41, Try.ntmps41
        go_wp2_with fail
        refine HV.out.mono ?_
        rintro e w3 ⟨rfl, hb⟩
        have A3 := Lib.hid (down A1.out hb)
        replace TA := Lib.hid (TA.out.keep hb)
        replace a2 := Lib.hid (a2.out.keep hb)
        clear hb A1 HV t0 t1 tl
        obtain ⟨t0, t1, tl⟩ := TA.out
        go_wp2_with fail
        refine (HI.out _).mono ?_
        rintro e w4 ⟨rfl, rfl⟩
        go_wp2_with fail
        refine (HM.out _).mono ?_
        rintro e w5 ⟨rfl, d, hw5⟩
        replace A3 : Hid (Below w.heap.size w w5) := by show Below _ _ _; rw [hw5]; exact below_drewN A3.out d
        replace TA : Hid (Two w5 w.heap.size (.int .i64 P) (.slice o n c)) := by show Two _ _ _ _; rw [hw5]; exact TA.out.drewN d
        replace a2 : Hid (PairS ba w5 (.slice o n c) A) := by show PairS _ _ _ _; rw [hw5]; exact a2.out.keep (below_drewN (here _) d)
        clear hw5 t0 t1 tl
        obtain ⟨t0, t1, tl⟩ := TA.out
        go_wp2_with fail
        refine (HN.out _ a2.out).mono ?_
        rintro e w6 ⟨rfl, hb⟩
        have A6 := Lib.hid (down A3.out hb)
        replace TA := Lib.hid (TA.out.keep hb)
        replace a2 := Lib.hid (a2.out.keep hb)
        clear hb A3 t0 t1 tl HN HM HI
        obtain ⟨t0, t1, tl⟩ := TA.out
        cases b
        · obtain ⟨b0, off, rfl, bl, cs⟩ := prs_here a2.out (show 0 < A.length by omega)
          obtain ⟨c0, -⟩ := cs 0 (by omega)
          rw [Nat.zero_mul, Nat.add_zero] at c0
          have zi : (0 : Int) < (n : Int) := by omega
          rw [hg.out] at c0
          clear cs NB hl
          have r1 : Hid (x - r + P + g = x + P - r + g) := by show _ = _; omega
          go_wp2
          go_quiet (fail)
          go_wp2
          go_ret2
          refine ⟨?_, below_drewN A6.out nq⟩
          show Ending.returned (.tuple #[.int .i64 (x - r + P + g), .bool true]) = _
          rw [r1.out]
        · obtain ⟨y0, y1⟩ := NB rfl
          clear NB hl f0
          have r1 : Hid (x - r + y = x + (y - r)) := by show _ = _; omega
          go_wp2
          go_ret2
          refine ⟨?_, A6.out⟩
          show Ending.returned (.tuple #[.int .i64 (x - r + y), .bool true]) = _
          rw [r1.out]
    · have n0 : n = 0 := by omega
      have zz : ((n : Int) == 0) = true := by rw [n0]; rfl
      rw [if_neg (by rintro ⟨-, q, -⟩; exact z q)]
      replace n0 := Lib.hid n0
      clear p pv hl z
      go_enter Try.func41, Try.ntmps41
      go_wp2_with fail
      refine HV.out.mono ?_
      rintro e w3 ⟨rfl, hb⟩
      have A3 := Lib.hid (down A1.out hb)
      replace TA := Lib.hid (TA.out.keep hb)
      clear hb A1 HV a2 t0 t1 tl
      obtain ⟨t0, t1, tl⟩ := TA.out
      go_wp2
      go_ret2
      exact ⟨rfl, A3.out⟩
end Go.Proofs.Ytaikeclfmmnelaa
