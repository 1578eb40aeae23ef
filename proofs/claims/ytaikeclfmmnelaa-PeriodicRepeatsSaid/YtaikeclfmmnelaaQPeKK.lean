/- Contracts of package periodic: Union, Meet, Minus, Within, Not. -/
import Derived.Test.YtaikeclfmmnelaaQGG
namespace Go.Proofs.Ytaikeclfmmnelaa

open Go.RowKit

set_option linter.unusedVariables false

theorem rule1 : Rule 1 63 := fun va vb A B hA hB _ _ w a b => ruunion va vb A B hA hB w a b
set_option maxRecDepth 100000 in
set_option maxHeartbeats 2000000 in
theorem upunion (va vb : Value) (P Q : Int) (A B : List Sp) (hA : A.length ≤ maxLen) (hB : B.length ≤ maxLen) (hP : I64 P) (hQ : I64 Q) {ba bb : Nat} (w : World) (a : PairS ba w va A) (b : PairS bb w vb B) :
    Calls Try.prog 24 #[.agg #[.int .i64 P, va], .agg #[.int .i64 Q, vb]] w fun e w' => (∃ v', e = .returned (.tuple #[.agg #[.int .i64 (coR 1 P A Q B).1.1, v'], .int .i64 (coR 1 P A Q B).2]) ∧ PairS w.heap.size w' v' (coR 1 P A Q B).1.2) ∧ Below w.heap.size w w' := by
  have s1 := size_two w (.cells #[.int .i64 P, va] 24)
  have s2 := size_two (w.alloc (.cells #[.int .i64 P, va] 24)) (.cells #[.int .i64 Q, vb] 24)
  have A1 := Lib.hid (grow (grow (grow (here w) (.cells #[.int .i64 P, va] 24)) (.cells #[.int .i64 Q, vb] 24)) (.cells #[.int .i64 0, .slice none 0 0] 24))
  have TA := Lib.hid (Two.fst3 (here (((w.alloc (.cells #[.int .i64 P, va] 24)).alloc (.cells #[.int .i64 Q, vb] 24)).alloc (.cells #[.int .i64 0, .slice none 0 0] 24))))
  have TB := Lib.hid (Two.snd3 (here (((w.alloc (.cells #[.int .i64 P, va] 24)).alloc (.cells #[.int .i64 Q, vb] 24)).alloc (.cells #[.int .i64 0, .slice none 0 0] 24))))
  have TR := Tuo.new ((w.alloc (.cells #[.int .i64 P, va] 24)).alloc (.cells #[.int .i64 Q, vb] 24)) (.int .i64 0) (.slice none 0 0) 24
  rw [s2, s1] at TR
  replace TR := Lib.hid TR
  have HC := Lib.hid (upcombine1 rule1 va vb P Q A B hA hB hP hQ _ (a.keep A1.out) (b.keep A1.out))
  generalize coR 1 P A Q B = RR at *
  clear a b hA hB s1 s2
  obtain ⟨t0, t1, tl⟩ := TA.out
  obtain ⟨u0, u1, ul⟩ := TB.out
  go_enter Try.func24, Try.ntmps24
  go_wp2_with fail
  refine HC.out.mono ?_
  rintro e w10 ⟨⟨v10, rfl, P10⟩, hb⟩
  have B9 := Lib.hid (down A1.out hb)
  replace TR := Lib.hid (TR.out.keep hb)
  have sz9 := A1.out.size
  have tr9 : w.heap.size + 1 + 1 < (((w.alloc (.cells #[.int .i64 P, va] 24)).alloc (.cells #[.int .i64 Q, vb] 24)).alloc (.cells #[.int .i64 0, .slice none 0 0] 24)).heap.size := by simp
  obtain ⟨o10, c10, rfl⟩ := Sl.shape P10
  replace P10 := Lib.hid P10
  clear HC hb A1 TA TB t0 t1 tl u0 u1 ul
  have FI : Hid (Two ((w10.setCell ⟨w.heap.size + 1 + 1, 0, none⟩ (.int .i64 RR.1.1)).setCell ⟨w.heap.size + 1 + 1, 1, none⟩ (.slice o10 RR.1.2.length c10)) (w.heap.size + 1 + 1) (.int .i64 RR.1.1) (.slice o10 RR.1.2.length c10) ∧ Below w.heap.size w ((w10.setCell ⟨w.heap.size + 1 + 1, 0, none⟩ (.int .i64 RR.1.1)).setCell ⟨w.heap.size + 1 + 1, 1, none⟩ (.slice o10 RR.1.2.length c10)) ∧ PairS w.heap.size ((w10.setCell ⟨w.heap.size + 1 + 1, 0, none⟩ (.int .i64 RR.1.1)).setCell ⟨w.heap.size + 1 + 1, 1, none⟩ (.slice o10 RR.1.2.length c10)) (.slice o10 RR.1.2.length c10) RR.1.2) :=
    ⟨TR.out.put _ _, (B9.out.setCell (p := ⟨w.heap.size + 1 + 1, 0, none⟩) (by show w.heap.size ≤ w.heap.size + 1 + 1; omega) _).setCell (p := ⟨w.heap.size + 1 + 1, 1, none⟩) (by show w.heap.size ≤ w.heap.size + 1 + 1; omega) _, Sl.weak (Sl.far (Sl.far P10.out tr9 _) tr9 _) sz9⟩
  obtain ⟨⟨ri0, ri1, ri2⟩, rf0, rf1⟩ := TR.out
  go_wp2
  have q0 := FI.out.1.c0
  have q1 := FI.out.1.c1
  generalize (w10.setCell ⟨w.heap.size + 1 + 1, 0, none⟩ (.int .i64 RR.1.1)).setCell ⟨w.heap.size + 1 + 1, 1, none⟩ (.slice o10 RR.1.2.length c10) = w13 at *
  refine bodyPost_ret (v := .tuple #[.agg #[.int .i64 RR.1.1, .slice o10 RR.1.2.length c10], .int .i64 RR.2]) (by simp [results, Try.results24, go_sem, q0, q1]) rfl ?_
  exact ⟨⟨_, rfl, FI.out.2.2⟩, FI.out.2.1⟩
theorem rule2 : Rule 2 64 := fun va vb A B hA hB _ _ w a b => rumeet va vb A B hA hB w a b
set_option maxRecDepth 100000 in
set_option maxHeartbeats 2000000 in
theorem upmeet (va vb : Value) (P Q : Int) (A B : List Sp) (hA : A.length ≤ maxLen) (hB : B.length ≤ maxLen) (hP : I64 P) (hQ : I64 Q) {ba bb : Nat} (w : World) (a : PairS ba w va A) (b : PairS bb w vb B) :
    Calls Try.prog 25 #[.agg #[.int .i64 P, va], .agg #[.int .i64 Q, vb]] w fun e w' => (∃ v', e = .returned (.tuple #[.agg #[.int .i64 (coR 2 P A Q B).1.1, v'], .int .i64 (coR 2 P A Q B).2]) ∧ PairS w.heap.size w' v' (coR 2 P A Q B).1.2) ∧ Below w.heap.size w w' := by
  have s1 := size_two w (.cells #[.int .i64 P, va] 24)
  have s2 := size_two (w.alloc (.cells #[.int .i64 P, va] 24)) (.cells #[.int .i64 Q, vb] 24)
  have A1 := Lib.hid (grow (grow (grow (here w) (.cells #[.int .i64 P, va] 24)) (.cells #[.int .i64 Q, vb] 24)) (.cells #[.int .i64 0, .slice none 0 0] 24))
  have TA := Lib.hid (Two.fst3 (here (((w.alloc (.cells #[.int .i64 P, va] 24)).alloc (.cells #[.int .i64 Q, vb] 24)).alloc (.cells #[.int .i64 0, .slice none 0 0] 24))))
  have TB := Lib.hid (Two.snd3 (here (((w.alloc (.cells #[.int .i64 P, va] 24)).alloc (.cells #[.int .i64 Q, vb] 24)).alloc (.cells #[.int .i64 0, .slice none 0 0] 24))))
  have TR := Tuo.new ((w.alloc (.cells #[.int .i64 P, va] 24)).alloc (.cells #[.int .i64 Q, vb] 24)) (.int .i64 0) (.slice none 0 0) 24
  rw [s2, s1] at TR
  replace TR := Lib.hid TR
  have HC := Lib.hid (upcombine2 rule2 va vb P Q A B hA hB hP hQ _ (a.keep A1.out) (b.keep A1.out))
  generalize coR 2 P A Q B = RR at *
  clear a b hA hB s1 s2
  obtain ⟨t0, t1, tl⟩ := TA.out
  obtain ⟨u0, u1, ul⟩ := TB.out
  go_enter Try.func25, Try.ntmps25
  go_wp2_with fail
  refine HC.out.mono ?_
  rintro e w10 ⟨⟨v10, rfl, P10⟩, hb⟩
  have B9 := Lib.hid (down A1.out hb)
  replace TR := Lib.hid (TR.out.keep hb)
  have sz9 := A1.out.size
  have tr9 : w.heap.size + 1 + 1 < (((w.alloc (.cells #[.int .i64 P, va] 24)).alloc (.cells #[.int .i64 Q, vb] 24)).alloc (.cells #[.int .i64 0, .slice none 0 0] 24)).heap.size := by simp
  obtain ⟨o10, c10, rfl⟩ := Sl.shape P10
  replace P10 := Lib.hid P10
  clear HC hb A1 TA TB t0 t1 tl u0 u1 ul
  have FI : Hid (Two ((w10.setCell ⟨w.heap.size + 1 + 1, 0, none⟩ (.int .i64 RR.1.1)).setCell ⟨w.heap.size + 1 + 1, 1, none⟩ (.slice o10 RR.1.2.length c10)) (w.heap.size + 1 + 1) (.int .i64 RR.1.1) (.slice o10 RR.1.2.length c10) ∧ Below w.heap.size w ((w10.setCell ⟨w.heap.size + 1 + 1, 0, none⟩ (.int .i64 RR.1.1)).setCell ⟨w.heap.size + 1 + 1, 1, none⟩ (.slice o10 RR.1.2.length c10)) ∧ PairS w.heap.size ((w10.setCell ⟨w.heap.size + 1 + 1, 0, none⟩ (.int .i64 RR.1.1)).setCell ⟨w.heap.size + 1 + 1, 1, none⟩ (.slice o10 RR.1.2.length c10)) (.slice o10 RR.1.2.length c10) RR.1.2) :=
    ⟨TR.out.put _ _, (B9.out.setCell (p := ⟨w.heap.size + 1 + 1, 0, none⟩) (by show w.heap.size ≤ w.heap.size + 1 + 1; omega) _).setCell (p := ⟨w.heap.size + 1 + 1, 1, none⟩) (by show w.heap.size ≤ w.heap.size + 1 + 1; omega) _, Sl.weak (Sl.far (Sl.far P10.out tr9 _) tr9 _) sz9⟩
  obtain ⟨⟨ri0, ri1, ri2⟩, rf0, rf1⟩ := TR.out
  go_wp2
  have q0 := FI.out.1.c0
  have q1 := FI.out.1.c1
  generalize (w10.setCell ⟨w.heap.size + 1 + 1, 0, none⟩ (.int .i64 RR.1.1)).setCell ⟨w.heap.size + 1 + 1, 1, none⟩ (.slice o10 RR.1.2.length c10) = w13 at *
  refine bodyPost_ret (v := .tuple #[.agg #[.int .i64 RR.1.1, .slice o10 RR.1.2.length c10], .int .i64 RR.2]) (by simp [results, Try.results25, go_sem, q0, q1]) rfl ?_
  exact ⟨⟨_, rfl, FI.out.2.2⟩, FI.out.2.1⟩
theorem rule3 : Rule 3 65 := fun va vb A B hA hB _ _ w a b => ruminus va vb A B hA hB w a b
set_option maxRecDepth 100000 in
set_option maxHeartbeats 2000000 in
theorem upminus (va vb : Value) (P Q : Int) (A B : List Sp) (hA : A.length ≤ maxLen) (hB : B.length ≤ maxLen) (hP : I64 P) (hQ : I64 Q) {ba bb : Nat} (w : World) (a : PairS ba w va A) (b : PairS bb w vb B) :
    Calls Try.prog 26 #[.agg #[.int .i64 P, va], .agg #[.int .i64 Q, vb]] w fun e w' => (∃ v', e = .returned (.tuple #[.agg #[.int .i64 (coR 3 P A Q B).1.1, v'], .int .i64 (coR 3 P A Q B).2]) ∧ PairS w.heap.size w' v' (coR 3 P A Q B).1.2) ∧ Below w.heap.size w w' := by
  have s1 := size_two w (.cells #[.int .i64 P, va] 24)
  have s2 := size_two (w.alloc (.cells #[.int .i64 P, va] 24)) (.cells #[.int .i64 Q, vb] 24)
  have A1 := Lib.hid (grow (grow (grow (here w) (.cells #[.int .i64 P, va] 24)) (.cells #[.int .i64 Q, vb] 24)) (.cells #[.int .i64 0, .slice none 0 0] 24))
  have TA := Lib.hid (Two.fst3 (here (((w.alloc (.cells #[.int .i64 P, va] 24)).alloc (.cells #[.int .i64 Q, vb] 24)).alloc (.cells #[.int .i64 0, .slice none 0 0] 24))))
  have TB := Lib.hid (Two.snd3 (here (((w.alloc (.cells #[.int .i64 P, va] 24)).alloc (.cells #[.int .i64 Q, vb] 24)).alloc (.cells #[.int .i64 0, .slice none 0 0] 24))))
  have TR := Tuo.new ((w.alloc (.cells #[.int .i64 P, va] 24)).alloc (.cells #[.int .i64 Q, vb] 24)) (.int .i64 0) (.slice none 0 0) 24
  rw [s2, s1] at TR
  replace TR := Lib.hid TR
  have HC := Lib.hid (upcombine3 rule3 va vb P Q A B hA hB hP hQ _ (a.keep A1.out) (b.keep A1.out))
  generalize coR 3 P A Q B = RR at *
  clear a b hA hB s1 s2
  obtain ⟨t0, t1, tl⟩ := TA.out
  obtain ⟨u0, u1, ul⟩ := TB.out
  go_enter Try.func26, Try.ntmps26
  go_wp2_with fail
  refine HC.out.mono ?_
  rintro e w10 ⟨⟨v10, rfl, P10⟩, hb⟩
  have B9 := Lib.hid (down A1.out hb)
  replace TR := Lib.hid (TR.out.keep hb)
  have sz9 := A1.out.size
  have tr9 : w.heap.size + 1 + 1 < (((w.alloc (.cells #[.int .i64 P, va] 24)).alloc (.cells #[.int .i64 Q, vb] 24)).alloc (.cells #[.int .i64 0, .slice none 0 0] 24)).heap.size := by simp
  obtain ⟨o10, c10, rfl⟩ := Sl.shape P10
  replace P10 := Lib.hid P10
  clear HC hb A1 TA TB t0 t1 tl u0 u1 ul
  have FI : Hid (Two ((w10.setCell ⟨w.heap.size + 1 + 1, 0, none⟩ (.int .i64 RR.1.1)).setCell ⟨w.heap.size + 1 + 1, 1, none⟩ (.slice o10 RR.1.2.length c10)) (w.heap.size + 1 + 1) (.int .i64 RR.1.1) (.slice o10 RR.1.2.length c10) ∧ Below w.heap.size w ((w10.setCell ⟨w.heap.size + 1 + 1, 0, none⟩ (.int .i64 RR.1.1)).setCell ⟨w.heap.size + 1 + 1, 1, none⟩ (.slice o10 RR.1.2.length c10)) ∧ PairS w.heap.size ((w10.setCell ⟨w.heap.size + 1 + 1, 0, none⟩ (.int .i64 RR.1.1)).setCell ⟨w.heap.size + 1 + 1, 1, none⟩ (.slice o10 RR.1.2.length c10)) (.slice o10 RR.1.2.length c10) RR.1.2) :=
    ⟨TR.out.put _ _, (B9.out.setCell (p := ⟨w.heap.size + 1 + 1, 0, none⟩) (by show w.heap.size ≤ w.heap.size + 1 + 1; omega) _).setCell (p := ⟨w.heap.size + 1 + 1, 1, none⟩) (by show w.heap.size ≤ w.heap.size + 1 + 1; omega) _, Sl.weak (Sl.far (Sl.far P10.out tr9 _) tr9 _) sz9⟩
  obtain ⟨⟨ri0, ri1, ri2⟩, rf0, rf1⟩ := TR.out
  go_wp2
  have q0 := FI.out.1.c0
  have q1 := FI.out.1.c1
  generalize (w10.setCell ⟨w.heap.size + 1 + 1, 0, none⟩ (.int .i64 RR.1.1)).setCell ⟨w.heap.size + 1 + 1, 1, none⟩ (.slice o10 RR.1.2.length c10) = w13 at *
  refine bodyPost_ret (v := .tuple #[.agg #[.int .i64 RR.1.1, .slice o10 RR.1.2.length c10], .int .i64 RR.2]) (by simp [results, Try.results26, go_sem, q0, q1]) rfl ?_
  exact ⟨⟨_, rfl, FI.out.2.2⟩, FI.out.2.1⟩
set_option maxRecDepth 100000 in
set_option maxHeartbeats 2000000 in
theorem upwithin (va vb : Value) (P Q : Int) (A B : List Sp) (hA : A.length ≤ maxLen) (hB : B.length ≤ maxLen) (hP : I64 P) (hQ : I64 Q) {ba bb : Nat} (w : World) (a : PairS ba w va A) (b : PairS bb w vb B) :
    Calls Try.prog 42 #[.agg #[.int .i64 P, va], .agg #[.int .i64 Q, vb]] w fun e w' => e = .returned (.tuple #[.bool (decide ((coR 3 P A Q B).2 = 0) && decide ((coR 3 P A Q B).1.2.length = 0)), .int .i64 (coR 3 P A Q B).2]) ∧ Below w.heap.size w w' := by
  have s1 := size_two w (.cells #[.int .i64 P, va] 24)
  have A1 := Lib.hid (grow (grow (here w) (.cells #[.int .i64 P, va] 24)) (.cells #[.int .i64 Q, vb] 24))
  have TA := Lib.hid (Two.fst (here ((w.alloc (.cells #[.int .i64 P, va] 24)).alloc (.cells #[.int .i64 Q, vb] 24))))
  have TB := Lib.hid (Two.snd (here ((w.alloc (.cells #[.int .i64 P, va] 24)).alloc (.cells #[.int .i64 Q, vb] 24))))
  have HC := Lib.hid (upminus va vb P Q A B hA hB hP hQ _ (a.keep A1.out) (b.keep A1.out))
  generalize coR 3 P A Q B = RR at *
  clear a b hA hB s1
  obtain ⟨⟨D, R⟩, E⟩ := RR
  obtain ⟨bv, hbv⟩ : ∃ bv, (decide (E = 0) && decide (R.length = 0)) = bv := ⟨_, rfl⟩
  show Calls _ _ _ _ fun e w' => e = .returned (.tuple #[.bool (decide (E = 0) && decide (R.length = 0)), .int .i64 E]) ∧ _
  rw [hbv]
  replace hbv := Lib.hid hbv
  obtain ⟨t0, t1, tl⟩ := TA.out
  obtain ⟨u0, u1, ul⟩ := TB.out
  go_enter Try.func42, Try.ntmps42
  go_wp2_with fail
  refine HC.out.mono ?_
  rintro e w10 ⟨⟨v10, rfl, P10⟩, hb⟩
  have B9 := Lib.hid (down A1.out hb)
  obtain ⟨o10, c10, rfl⟩ := Sl.shape P10
  clear HC hb A1 TA TB t0 t1 tl u0 u1 ul P10
  replace hbv : (decide (E = 0) && decide (R.length = 0)) = bv := hbv.out
  obtain ⟨n, hn⟩ : ∃ n, R.length = n := ⟨_, rfl⟩
  have en : ((D, R), E).1.2.length = n := hn
  rw [en]
  rw [hn] at hbv
  obtain ⟨r0, r1, rl⟩ := Two.new (here (w10.alloc (.cells #[.int .i64 D, .slice o10 n c10] 24)))
  have B10 := Lib.hid (grow B9.out (.cells #[.int .i64 D, .slice o10 n c10] 24))
  clear en hn
  cases ke : (E == 0)
  · have e1 : decide (E = 0) = false := decide_eq_false (by rw [beq_eq_false_iff_ne] at ke; exact ke)
    rw [e1, Bool.false_and] at hbv
    subst hbv
    clear e1
    go_wp2
    go_ret2
    exact ⟨rfl, B10.out⟩
  · have e1 : decide (E = 0) = true := decide_eq_true (by rwa [beq_iff_eq] at ke)
    rw [e1, Bool.true_and] at hbv
    have e2 : ((n : Int) == 0) = bv := by rw [← hbv, Bool.eq_iff_iff, beq_iff_eq, decide_eq_true_iff]; omega
    clear e1 hbv
    go_wp2
    go_ret2
    exact ⟨rfl, B10.out⟩
/-- What is not in a set, or an error. -/
noncomputable def noR (P : Int) (A : List Sp) : (Int × List Sp) × Int := if pvB P A then pfR P (fun x => !hsP P A x) else ((0, []), 1)
theorem no_lists {P : Int} {A : List Sp} (pv : PV P A) : ruNot A (0, P) = ruFull (caL (fun x => !hsP P A x) 0 P) ∧ pfR P (fun x => !hsP P A x) = if 2000 < (caL (fun x => !hsP P A x) 0 P).length then ((0, []), 5) else ((P, caL (fun x => !hsP P A x) 0 P), 0) := by
  have P0 : 0 < P := by have := pv.p0; omega
  have P1 := pv.p1
  constructor
  · have e : cbL 3 [(0, P)] A = caL (fun x => !hsP P A x) 0 P := by
      rw [cb_ca P0 (A := [(0, P)]) (fun q hq => by rw [List.mem_singleton.1 hq]; exact ⟨Int.le_refl _, Int.le_refl _⟩) pv.ip 3]
      refine ca_congr fun x x0 x1 => ?_
      have : hsP P [(0, P)] x = true := by
        rw [hs_in x0 x1, inB_one, decide_eq_true x0, decide_eq_true x1]; rfl
      rw [this]
      unfold kpB
      simp
    unfold ruNot
    rw [pv.va, e, show spB (0, P) = true from spB_iff.2 ⟨by show (-4398046511104 : Int) ≤ 0; omega, by show P ≤ 4398046511104; omega, P0⟩]
    rfl
  · have e : leF P (fun x => !hsP P A x) = P := le_eq (lst_not pv.ls)
    unfold pfR fmP
    rw [e]
set_option maxRecDepth 100000 in
set_option maxHeartbeats 2000000 in
theorem upnot (va : Value) (P : Int) (A : List Sp) (hA : A.length ≤ maxLen) (hP : I64 P) {ba : Nat} (w : World) (a : PairS ba w va A) :
    Calls Try.prog 28 #[.agg #[.int .i64 P, va]] w fun e w' => (∃ v', e = .returned (.tuple #[.agg #[.int .i64 (noR P A).1.1, v'], .int .i64 (noR P A).2]) ∧ PairS w.heap.size w' v' (noR P A).1.2 ∧ CapS v') ∧ Below w.heap.size w w' := by
  have s1 := size_two w (.cells #[.int .i64 P, va] 24)
  have A1 := Lib.hid (grow (grow (here w) (.cells #[.int .i64 P, va] 24)) (.cells #[.int .i64 0, .slice none 0 0] 24))
  have TA := Lib.hid (Two.fst (here ((w.alloc (.cells #[.int .i64 P, va] 24)).alloc (.cells #[.int .i64 0, .slice none 0 0] 24))))
  have TR := Tuo.new (w.alloc (.cells #[.int .i64 P, va] 24)) (.int .i64 0) (.slice none 0 0) 24
  rw [s1] at TR
  replace TR := Lib.hid TR
  have a2 := Lib.hid (a.keep A1.out)
  have HV := Lib.hid (upvalid va P A hA hP _ a2.out)
  obtain ⟨t0, t1, tl⟩ := TA.out
  clear a
  cases p : pvB P A
  · have r : Hid (noR P A = ((0, []), 1)) := by show _ = _; unfold noR; rw [p]; rfl
    rw [p] at HV
    clear p s1
    go_enter Try.func28, Try.ntmps28
    go_wp2_with fail
    refine HV.out.mono ?_
    rintro e w4 ⟨rfl, hb⟩
    have B9 := Lib.hid (down A1.out hb)
    replace TR := Lib.hid (TR.out.keep hb)
    clear hb A1 HV a2 TA t0 t1 tl
    have FI : Hid (Two ((w4.setCell ⟨w.heap.size + 1, 0, none⟩ (.int .i64 0)).setCell ⟨w.heap.size + 1, 1, none⟩ (.slice none 0 0)) (w.heap.size + 1) (.int .i64 0) (.slice none 0 0) ∧ Below w.heap.size w ((w4.setCell ⟨w.heap.size + 1, 0, none⟩ (.int .i64 0)).setCell ⟨w.heap.size + 1, 1, none⟩ (.slice none 0 0)) ∧ PairS w.heap.size ((w4.setCell ⟨w.heap.size + 1, 0, none⟩ (.int .i64 0)).setCell ⟨w.heap.size + 1, 1, none⟩ (.slice none 0 0)) (.slice none 0 0) []) :=
      ⟨TR.out.put _ _, (B9.out.setCell (p := ⟨w.heap.size + 1, 0, none⟩) (by show w.heap.size ≤ w.heap.size + 1; omega) _).setCell (p := ⟨w.heap.size + 1, 1, none⟩) (by show w.heap.size ≤ w.heap.size + 1; omega) _, Sl.none _ _⟩
    obtain ⟨⟨ri0, ri1, ri2⟩, rf0, rf1⟩ := TR.out
    go_wp2
    have q0 := FI.out.1.c0
    have q1 := FI.out.1.c1
    generalize (w4.setCell ⟨w.heap.size + 1, 0, none⟩ (.int .i64 0)).setCell ⟨w.heap.size + 1, 1, none⟩ (.slice none 0 0) = w13 at *
    refine bodyPost_ret (v := .tuple #[.agg #[.int .i64 0, .slice none 0 0], .int .i64 1]) (by simp [results, Try.results28, go_sem, q0, q1]) rfl ?_
    rw [r.out]
    exact ⟨⟨_, rfl, FI.out.2.2, cap_nil⟩, FI.out.2.1⟩
  · have pv := pv_iff.1 p
    have r : Hid (noR P A = pfR P (fun x => !hsP P A x)) := by show _ = _; unfold noR; rw [p]; rfl
    rw [p] at HV
    obtain ⟨n1, n2⟩ := no_lists pv
    rw [n2] at r
    have P0 := pv.p0
    have P1 := pv.p1
    have HN := Lib.hid (fun W h => runot va A hA 0 P (by unfold I64; omega) (by unfold I64; omega) (ba := ba) W h)
    rw [n1] at HN
    clear p s1 n1 n2 pv
    generalize caL (fun x => !hsP P A x) 0 P = C at *
    go_enter Try.func28, Try.ntmps28
    go_wp2_with fail
    refine HV.out.mono ?_
    rintro e w4 ⟨rfl, hb⟩
    have A4 := Lib.hid (down A1.out hb)
    replace TA := Lib.hid (TA.out.keep hb)
    replace TR := Lib.hid (TR.out.keep hb)
    replace a2 := Lib.hid (a2.out.keep hb)
    clear hb A1 HV t0 t1 tl
    obtain ⟨t0, t1, tl⟩ := TA.out
    have HM := Lib.hid (HN.out _ a2.out)
    go_wp2_with fail
    refine HM.out.mono ?_
    rintro e w10 ⟨⟨v10, rfl, P10, C10⟩, hb⟩
    have B9 := Lib.hid (down A4.out hb)
    have tr9 := TR.out.t.lt
    replace TA := Lib.hid (TA.out.keep hb)
    replace TR := Lib.hid (TR.out.keep hb)
    have sz9 := A4.out.size
    clear hb HM HN a2 A4 t0 t1 tl
    obtain ⟨t0, t1, tl⟩ := TA.out
    by_cases big : 2000 < C.length
    · have ef : ruFull C = ([], 5) := by unfold ruFull; rw [if_pos big]
      rw [ef] at P10
      rw [if_pos big] at r
      rw [ef]
      obtain ⟨o10, c10, rfl⟩ := Sl.shape P10
      clear P10 C10 ef big
      have FI : Hid (Two ((w10.setCell ⟨w.heap.size + 1, 0, none⟩ (.int .i64 0)).setCell ⟨w.heap.size + 1, 1, none⟩ (.slice none 0 0)) (w.heap.size + 1) (.int .i64 0) (.slice none 0 0) ∧ Below w.heap.size w ((w10.setCell ⟨w.heap.size + 1, 0, none⟩ (.int .i64 0)).setCell ⟨w.heap.size + 1, 1, none⟩ (.slice none 0 0)) ∧ PairS w.heap.size ((w10.setCell ⟨w.heap.size + 1, 0, none⟩ (.int .i64 0)).setCell ⟨w.heap.size + 1, 1, none⟩ (.slice none 0 0)) (.slice none 0 0) []) :=
        ⟨TR.out.put _ _, (B9.out.setCell (p := ⟨w.heap.size + 1, 0, none⟩) (by show w.heap.size ≤ w.heap.size + 1; omega) _).setCell (p := ⟨w.heap.size + 1, 1, none⟩) (by show w.heap.size ≤ w.heap.size + 1; omega) _, Sl.none _ _⟩
      obtain ⟨⟨ri0, ri1, ri2⟩, rf0, rf1⟩ := TR.out
      go_wp2
      have q0 := FI.out.1.c0
      have q1 := FI.out.1.c1
      generalize (w10.setCell ⟨w.heap.size + 1, 0, none⟩ (.int .i64 0)).setCell ⟨w.heap.size + 1, 1, none⟩ (.slice none 0 0) = w13 at *
      refine bodyPost_ret (v := .tuple #[.agg #[.int .i64 0, .slice none 0 0], .int .i64 5]) (by simp [results, Try.results28, go_sem, q0, q1]) rfl ?_
      rw [r.out]
      exact ⟨⟨_, rfl, FI.out.2.2, cap_nil⟩, FI.out.2.1⟩
    · have ef : ruFull C = (C, 0) := by unfold ruFull; rw [if_neg big]
      rw [ef] at P10
      rw [if_neg big] at r
      rw [ef]
      replace C10 := Lib.hid C10
      obtain ⟨o10, c10, rfl⟩ := Sl.shape P10
      replace P10 := Lib.hid P10
      clear ef big
      have FI : Hid (Two ((w10.setCell ⟨w.heap.size + 1, 0, none⟩ (.int .i64 P)).setCell ⟨w.heap.size + 1, 1, none⟩ (.slice o10 C.length c10)) (w.heap.size + 1) (.int .i64 P) (.slice o10 C.length c10) ∧ Below w.heap.size w ((w10.setCell ⟨w.heap.size + 1, 0, none⟩ (.int .i64 P)).setCell ⟨w.heap.size + 1, 1, none⟩ (.slice o10 C.length c10)) ∧ PairS w.heap.size ((w10.setCell ⟨w.heap.size + 1, 0, none⟩ (.int .i64 P)).setCell ⟨w.heap.size + 1, 1, none⟩ (.slice o10 C.length c10)) (.slice o10 C.length c10) C) :=
        ⟨TR.out.put _ _, (B9.out.setCell (p := ⟨w.heap.size + 1, 0, none⟩) (by show w.heap.size ≤ w.heap.size + 1; omega) _).setCell (p := ⟨w.heap.size + 1, 1, none⟩) (by show w.heap.size ≤ w.heap.size + 1; omega) _, Sl.weak (Sl.far (Sl.far P10.out tr9 _) tr9 _) sz9⟩
      obtain ⟨⟨ri0, ri1, ri2⟩, rf0, rf1⟩ := TR.out
      go_wp2
      have q0 := FI.out.1.c0
      have q1 := FI.out.1.c1
      generalize (w10.setCell ⟨w.heap.size + 1, 0, none⟩ (.int .i64 P)).setCell ⟨w.heap.size + 1, 1, none⟩ (.slice o10 C.length c10) = w13 at *
      refine bodyPost_ret (v := .tuple #[.agg #[.int .i64 P, .slice o10 C.length c10], .int .i64 0]) (by simp [results, Try.results28, go_sem, q0, q1]) rfl ?_
      rw [r.out]
      exact ⟨⟨_, rfl, FI.out.2.2, C10.out⟩, FI.out.2.1⟩
end Go.Proofs.Ytaikeclfmmnelaa
