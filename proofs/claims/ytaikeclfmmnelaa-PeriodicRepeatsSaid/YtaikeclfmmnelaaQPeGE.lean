/- Contracts of civiltimeref13: Not, Move. -/
import Derived.Test.YtaikeclfmmnelaaQPeGD
import Derived.Deep.RegionWith
namespace Go.Proofs.Ytaikeclfmmnelaa

open Go.RowKit

set_option linter.unusedVariables false

theorem prs_lit1 (w : World) (a b : Int) : PairS 0 (w.alloc (.cells #[.int .i64 a, .int .i64 b] 37)) (.slice (some ⟨w.heap.size, 0, none⟩) 1 1) [(a, b)] := by
  refine .inr ⟨w.heap.size, 0, 1, rfl, Nat.zero_le _, by simp, fun j u hj => ?_⟩
  rw [World.cell?_alloc_new]
  simpa [pairs] using hj
theorem least_fm {P : Int} {f : Int → Bool} (P0 : 0 < P) (per : Per f P) : leF P (hsP P (caL f 0 P)) = (fmP P f).1 ∧ caL (hsP P (caL f 0 P)) 0 (leF P (hsP P (caL f 0 P))) = (fmP P f).2 := by
  have e : hsP P (caL f 0 P) = f := funext fun x => ca_hs P0 per x
  rw [e]; exact ⟨rfl, rfl⟩
/-- The form of a list, unless it has too many spans: Least, then limited. -/
structure Lea (P : Int) (f : Int → Bool) : Prop where
  le : ∀ (v : Value) (L : List Sp) (W : World) {b : Nat}, L = caL f 0 P → L.length ≤ 20000 → PairS b W v L → Calls Try.prog 45 #[.int .i64 P, v] W fun e w' => (∃ v', e = .returned (.agg #[.int .i64 (fmP P f).1, v']) ∧ PairS W.heap.size w' v' (fmP P f).2) ∧ Below W.heap.size W w'
  li : ∀ (v : Value) (W : World) {b : Nat}, b ≤ W.heap.size → PairS b W v (fmP P f).2 → Calls Try.prog 61 #[.agg #[.int .i64 (fmP P f).1, v]] W fun e w' => (∃ v', e = .returned (.tuple #[.agg #[.int .i64 (pfR P f).1.1, v'], .int .i64 (pfR P f).2]) ∧ PairS b w' v' (pfR P f).1.2) ∧ Below W.heap.size W w'
theorem lea_of {P : Int} {f : Int → Bool} (P0 : 0 < P) (P1 : P ≤ 12622780800) (per : Per f P) (len : (caL f 0 P).length ≤ 20000) : Lea P f := by
  obtain ⟨e1, e2⟩ := least_fm P0 per
  refine ⟨fun v L W b e l h => ?_, fun v W b hb h => ?_⟩
  · subst e
    have q := rpleast v P (caL f 0 P) l (ca_cn f 0 P) (ca_inp f P) P0 P1 W h
    rw [e2, e1] at q
    exact q
  · have d := le_lst P0 per
    have dP := Int.le_of_dvd P0 d.dvd
    have l2 : (fmP P f).2.length ≤ 20000 := by
      have := len_mono' f (a := 0) dP
      show (caL f 0 (leF P f)).length ≤ _
      omega
    have q := rplimited v (fmP P f).1 (fmP P f).2 (by unfold maxLen; omega) W hb h
    rw [lm_pf] at q
    exact q
theorem cb_not {P : Int} {A : List Sp} (pv : PV P A) : cbL 3 [(0, P)] A = caL (fun x => !hsP P A x) 0 P := by
  have P0 : 0 < P := by have := pv.p0; omega
  rw [cb_ca P0 (A := [(0, P)]) (fun q hq => by rw [List.mem_singleton.1 hq]; exact ⟨Int.le_refl _, Int.le_refl _⟩) pv.ip 3]
  refine ca_congr fun x x0 x1 => ?_
  have : hsP P [(0, P)] x = true := by
    rw [hs_in x0 x1, inB_one, decide_eq_true x0, decide_eq_true x1]; rfl
  rw [this]
  unfold kpB
  simp
set_option maxRecDepth 100000 in
set_option maxHeartbeats 2000000 in
theorem rpnot (va : Value) (P : Int) (A : List Sp) (hA : A.length ≤ maxLen) (hP : I64 P) {ba : Nat} (w : World) (a : PairS ba w va A) :
    Calls Try.prog 29 #[.agg #[.int .i64 P, va]] w fun e w' => (∃ v', e = .returned (.tuple #[.agg #[.int .i64 (noR P A).1.1, v'], .int .i64 (noR P A).2]) ∧ PairS w.heap.size w' v' (noR P A).1.2) ∧ Below w.heap.size w w' := by
  have s1 := size_two w (.cells #[.int .i64 P, va] 24)
  have A1 := Lib.hid (grow (grow (here w) (.cells #[.int .i64 P, va] 24)) (.cells #[.int .i64 0, .slice none 0 0] 24))
  have TA := Lib.hid (Two.fst (here ((w.alloc (.cells #[.int .i64 P, va] 24)).alloc (.cells #[.int .i64 0, .slice none 0 0] 24))))
  have TR := Tuo.new (w.alloc (.cells #[.int .i64 P, va] 24)) (.int .i64 0) (.slice none 0 0) 24
  rw [s1] at TR
  replace TR := Lib.hid TR
  have a2 := Lib.hid (a.keep A1.out)
  have HV := Lib.hid (rpvalid va P A hA hP _ a2.out)
  obtain ⟨t0, t1, tl⟩ := TA.out
  clear a
  cases p : pvB P A
  · have r : Hid (noR P A = ((0, []), 1)) := by show _ = _; unfold noR; rw [p]; rfl
    rw [p] at HV
    clear p s1
    go_enter Try.func29, Try.ntmps29
    go_wp2_with fail
    refine HV.out.mono ?_
    rintro e w4 ⟨rfl, hb⟩
    have B9 := Lib.hid (down A1.out hb)
    replace TR := Lib.hid (TR.out.keep hb)
    clear hb A1 HV a2 TA t0 t1 tl
    have FI : Hid (Two ((w4.setCell ⟨w.heap.size + 1, 0, none⟩ (.int .i64 0)).setCell ⟨w.heap.size + 1, 1, none⟩ (.slice none 0 0)) (w.heap.size + 1) (.int .i64 0) (.slice none 0 0) ∧ Below w.heap.size w ((w4.setCell ⟨w.heap.size + 1, 0, none⟩ (.int .i64 0)).setCell ⟨w.heap.size + 1, 1, none⟩ (.slice none 0 0)) ∧ PairS w.heap.size ((w4.setCell ⟨w.heap.size + 1, 0, none⟩ (.int .i64 0)).setCell ⟨w.heap.size + 1, 1, none⟩ (.slice none 0 0)) (.slice none 0 0) []) :=
      ⟨TR.out.put _ _, (B9.out.setCell (p := ⟨w.heap.size + 1, 0, none⟩) (by show w.heap.size ≤ w.heap.size + 1; omega) _).setCell (p := ⟨w.heap.size + 1, 1, none⟩) (by show w.heap.size ≤ w.heap.size + 1; omega) _, Sl.none _ _⟩
    obtain ⟨⟨ri0, ri1, ri2⟩, rf0, rf1⟩ := TR.out
    go_wp2
    have q0 := FI.out.1.c0
    have q1 := FI.out.1.c1
    generalize (w4.setCell ⟨w.heap.size + 1, 0, none⟩ (.int .i64 0)).setCell ⟨w.heap.size + 1, 1, none⟩ (.slice none 0 0) = w13 at *
    refine bodyPost_ret (v := .tuple #[.agg #[.int .i64 0, .slice none 0 0], .int .i64 1]) (by simp [results, Try.results29, go_sem, q0, q1]) rfl ?_
    rw [r.out]
    exact ⟨⟨_, rfl, FI.out.2.2⟩, FI.out.2.1⟩
  · have pv := pv_iff.1 p
    have r : Hid (noR P A = pfR P (fun x => !hsP P A x)) := by show _ = _; unfold noR; rw [p]; rfl
    rw [p] at HV
    have P0 : 0 < P := by have := pv.p0; omega
    have P1 := pv.p1
    have per : Per (fun x => !hsP P A x) P := fun x => by show (!hsP P A (x + P)) = !hsP P A x; rw [hs_per]
    have cb : cbL 3 [(0, P)] A = caL (fun x => !hsP P A x) 0 P := cb_not pv
    have lenC : (cbL 3 [(0, P)] A).length ≤ 20000 := by
      have := (cb_spec 3 [(0, P)] A).2.2.2
      have q : ([(0, P)] : List Sp).length = 1 := rfl
      have := pv.len
      omega
    have LL := lea_of P0 P1 per (by rw [← cb]; exact lenC)
    have LS : Hid (∀ W v1, PairS 0 W v1 [(0, P)] → PairS ba W va A → Calls Try.prog 60 #[v1, va, .int .i64 2] W fun e w' => (∃ v', e = .returned v' ∧ PairS W.heap.size w' v' (cbL 3 [(0, P)] A)) ∧ Below W.heap.size W w') := fun W v1 h1 h2 => rplists v1 va [(0, P)] A (by simp) (by have := pv.len; omega) (show Cn [(0, P)] from ⟨P0, fun q hq => (by cases hq), trivial⟩) pv.cn 2 (by omega) (by omega) W h1 h2
    have LE : Hid (∀ W v1, ∀ {b1 : Nat}, PairS b1 W v1 (cbL 3 [(0, P)] A) → Calls Try.prog 45 #[.int .i64 P, v1] W fun e w' => (∃ v', e = .returned (.agg #[.int .i64 (fmP P (fun x => !hsP P A x)).1, v']) ∧ PairS W.heap.size w' v' (fmP P (fun x => !hsP P A x)).2) ∧ Below W.heap.size W w') := fun W v1 _ h => LL.le v1 _ W cb lenC h
    have LI := Lib.hid (fun W v1 {b1 : Nat} hb (h : PairS b1 W v1 (fmP P (fun x => !hsP P A x)).2) => LL.li v1 W hb h)
    clear LL per cb lenC p pv
    generalize fmP P (fun x => !hsP P A x) = FM at *
    generalize pfR P (fun x => !hsP P A x) = RR at *
    generalize cbL 3 [(0, P)] A = LC at *
    go_enter Try.func29, Try.ntmps29
    go_wp2_with fail
    refine HV.out.mono ?_
    rintro e w6 ⟨rfl, hb⟩
    have A6 := Lib.hid (down A1.out hb)
    replace TA := Lib.hid (TA.out.keep hb)
    replace TR := Lib.hid (TR.out.keep hb)
    replace a2 := Lib.hid (a2.out.keep hb)
    clear hb A1 HV t0 t1 tl s1
    obtain ⟨t0, t1, tl⟩ := TA.out
    have tr6 := TR.out.t.lt
    go_wp2
    go_region_with (first | (go_at_call 60; (with_reducible refine (LS.out _ _ ((prs_lit1 w6 0 P).keep (Below.drew (here _))) (a2.out.keep (Below.drew (grow (here _) _)))).mono ?_); rintro e w7 ⟨⟨v7, rfl, P7⟩, hb⟩; have hB7 := Lib.hid (down (Below.drew (grow (here w6) _)) hb); have ta := (TA.out.keep hB7.out).c0; have tb := (TA.out.keep hB7.out).c1; replace P7 := Lib.hid P7; clear hb) | (go_at_call 45; (with_reducible refine (LE.out _ _ P7.out).mono ?_); rintro e w8 ⟨⟨v8, rfl, P8⟩, hb⟩; have hB8 := Lib.hid (down hB7.out hb); have s8 := Lib.hid hb.size; have s7 := hB7.out.size; replace P8 := Lib.hid P8; have ta := (TA.out.keep hB8.out).c0; have tb := (TA.out.keep hB8.out).c1; clear hb) | (go_at_call 61; (with_reducible refine (LI.out _ _ s8.out P8.out).mono ?_); rintro e w9 ⟨⟨v9, rfl, P9⟩, hb⟩; have hB9 := Lib.hid (down hB8.out hb); obtain ⟨o9, c9, rfl⟩ := Sl.shape P9; have tr9 : w.heap.size + 1 < w7.heap.size := (by omega); have TR9 := TR.out.keep hB9.out; have FI : Hid (Two ((w9.setCell ⟨w.heap.size + 1, 0, none⟩ (.int .i64 RR.1.1)).setCell ⟨w.heap.size + 1, 1, none⟩ (.slice o9 RR.1.2.length c9)) (w.heap.size + 1) (.int .i64 RR.1.1) (.slice o9 RR.1.2.length c9) ∧ Below w.heap.size w ((w9.setCell ⟨w.heap.size + 1, 0, none⟩ (.int .i64 RR.1.1)).setCell ⟨w.heap.size + 1, 1, none⟩ (.slice o9 RR.1.2.length c9)) ∧ PairS w.heap.size ((w9.setCell ⟨w.heap.size + 1, 0, none⟩ (.int .i64 RR.1.1)).setCell ⟨w.heap.size + 1, 1, none⟩ (.slice o9 RR.1.2.length c9)) (.slice o9 RR.1.2.length c9) RR.1.2) := ⟨TR9.put _ _, ((down A6.out hB9.out).setCell (p := ⟨w.heap.size + 1, 0, none⟩) (by show w.heap.size ≤ w.heap.size + 1; omega) _).setCell (p := ⟨w.heap.size + 1, 1, none⟩) (by show w.heap.size ≤ w.heap.size + 1; omega) _, Sl.weak (Sl.far (Sl.far P9 tr9 _) tr9 _) (by omega)⟩; have ri0 := TR9.t.c0; have ri1 := TR9.t.c1; have rf0 := TR9.f0; have rf1 := TR9.f1; clear hb TR9 P9))
    all_goals
      go_wp2
      have q0 := FI.out.1.c0
      have q1 := FI.out.1.c1
      generalize (w9.setCell ⟨w.heap.size + 1, 0, none⟩ (.int .i64 RR.1.1)).setCell ⟨w.heap.size + 1, 1, none⟩ (.slice o9 RR.1.2.length c9) = w13 at *
      refine bodyPost_ret (v := .tuple #[.agg #[.int .i64 RR.1.1, .slice o9 RR.1.2.length c9], .int .i64 RR.2]) (by simp [results, Try.results29, go_sem, q0, q1]) rfl ?_
      rw [r.out]
      exact ⟨⟨_, rfl, FI.out.2.2⟩, FI.out.2.1⟩
end Go.Proofs.Ytaikeclfmmnelaa
