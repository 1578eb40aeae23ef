/- Contracts of civiltimeref13: Move. -/
import Derived.Test.YtaikeclfmmnelaaQPeGE
import Derived.Deep.RegionWith
namespace Go.Proofs.Ytaikeclfmmnelaa

open Go.RowKit

set_option linter.unusedVariables false

set_option maxRecDepth 100000 in
set_option maxHeartbeats 2000000 in
theorem rplim (o : Option Addr) (n c : Nat) (mx : n ≤ 1000000) (D : Int) (w : World) :
    Calls Try.prog 61 #[.agg #[.int .i64 D, .slice o n c]] w fun e w' => e = .returned (if 2000 < n then .tuple #[.agg #[.int .i64 0, .slice none 0 0], .int .i64 5] else .tuple #[.agg #[.int .i64 D, .slice o n c], .int .i64 0]) ∧ Below w.heap.size w w' := by
  have s1 := size_two w (.cells #[.int .i64 D, .slice o n c] 24)
  have A1 := Lib.hid (grow (grow (here w) (.cells #[.int .i64 D, .slice o n c] 24)) (.cells #[.int .i64 0, .slice none 0 0] 24))
  have TA := Lib.hid (Two.fst (here ((w.alloc (.cells #[.int .i64 D, .slice o n c] 24)).alloc (.cells #[.int .i64 0, .slice none 0 0] 24))))
  have TR := Tuo.new (w.alloc (.cells #[.int .i64 D, .slice o n c] 24)) (.int .i64 0) (.slice none 0 0) 24
  rw [s1] at TR
  replace TR := Lib.hid TR
  obtain ⟨t0, t1, tl⟩ := TA.out
  clear s1
  by_cases big : 2000 < n
  · have kb : decide (2000 < (n : Int)) = true := decide_eq_true (by omega)
    rw [if_pos big]
    clear big
    go_enter Try.func61, Try.ntmps61
    go_wp2
    obtain ⟨⟨ri0, ri1, ri2⟩, rf0, rf1⟩ := TR.out
    generalize ((w.alloc (.cells #[.int .i64 D, .slice o n c] 24)).alloc (.cells #[.int .i64 0, .slice none 0 0] 24)) = w13 at *
    refine bodyPost_ret (v := .tuple #[.agg #[.int .i64 0, .slice none 0 0], .int .i64 5]) (by simp [results, Try.results61, go_sem, ri0, ri1]) rfl ?_
    exact ⟨rfl, A1.out⟩
  · have kb : decide (2000 < (n : Int)) = false := decide_eq_false (by omega)
    rw [if_neg big]
    obtain ⟨⟨ri0, ri1, ri2⟩, rf0, rf1⟩ := TR.out
    have TW := Two.snd (o := .cells #[.int .i64 D, .slice o n c] 24) (x := .int .i64 D) (y := .slice o n c) (t := 24) (here ((w.alloc (.cells #[.int .i64 D, .slice o n c] 24)).alloc (.cells #[.int .i64 D, .slice o n c] 24)))
    have B9 := Lib.hid (grow (grow (here w) (.cells #[.int .i64 D, .slice o n c] 24)) (.cells #[.int .i64 D, .slice o n c] 24))
    have q0 := TW.c0
    have q1 := TW.c1
    replace TW := Lib.hid TW
    clear big
    go_enter Try.func61, Try.ntmps61
    go_wp2
    generalize ((w.alloc (.cells #[.int .i64 D, .slice o n c] 24)).alloc (.cells #[.int .i64 D, .slice o n c] 24)) = w13 at *
    refine bodyPost_ret (v := .tuple #[.agg #[.int .i64 D, .slice o n c], .int .i64 0]) (by simp [results, Try.results61, go_sem, q0, q1]) rfl ?_
    exact ⟨rfl, B9.out⟩
/-- A slice that does not lie in a certain block. -/
def OffS (B : Nat) (w : World) (v : Value) (L : List Sp) : Prop := (L.length = 0 ∧ ∃ ao c, v = .slice ao 0 c) ∨ ∃ b off c, v = .slice (some ⟨b, off, none⟩) L.length c ∧ b ≠ B ∧ Lies w b off (pairs L)
theorem OffS.set {B : Nat} {w : World} {v : Value} {L : List Sp} (h : OffS B w v L) (o : Nat) (u : Value) : OffS B (w.setCell ⟨B, o, none⟩ u) v L := by
  rcases h with h | ⟨b, off, c, e, ne, l⟩
  · exact .inl h
  · refine .inr ⟨b, off, c, e, ne, by rw [size_set]; exact l.lt, fun j x hj => ?_⟩
    rw [World.cell?_setCell_other (h := fun q => ne (by have := congrArg Addr.block q; exact this.symm))]
    exact l.cell j x hj
theorem OffS.prs {B : Nat} {w : World} {v : Value} {L : List Sp} (h : OffS B w v L) : PairS 0 w v L := by
  rcases h with h | ⟨b, off, c, e, ne, l⟩
  · exact .inl h
  · exact .inr ⟨b, off, c, e, Nat.zero_le _, l⟩
theorem off_above {B base : Nat} {w : World} {v : Value} {L : List Sp} (h : PairS base w v L) (l : B < base) : OffS B w v L := by
  rcases h with h | ⟨b, off, c, e, hb, k⟩
  · exact .inl h
  · exact .inr ⟨b, off, c, e, by omega, k⟩
theorem off_old {B base base' : Nat} {w w' : World} {v : Value} {L M : List Sp} (h : PairS base w v L) (l : w.heap.size ≤ B) (h' : PairS base' w' v M) : OffS B w' v M := by
  rcases h' with h' | ⟨b, off, c, e, hb, k⟩
  · exact .inl h'
  · by_cases z : M.length = 0
    · exact .inl ⟨z, _, _, by rw [e, z]⟩
    · refine .inr ⟨b, off, c, e, ?_, k⟩
      rcases h with ⟨h0, ao, c', e'⟩ | ⟨b', off', c', e', hb', k'⟩
      · rw [e] at e'
        injection e' with e1 e2 e3
        exact absurd e2 z
      · rw [e] at e'
        injection e' with e1 e2 e3
        injection e1 with e1
        injection e1 with e1
        have := k'.lt
        omega
theorem ro_fm {P : Int} {A : List Sp} (pv : PV P A) (n : Int) : pfR P (fun x => hsP P A (x - n)) = if 2000 < (roL P n A).length then ((0, []), 5) else ((P, roL P n A), 0) := by
  have P0 : 0 < P := by have := pv.p0; omega
  have e : leF P (fun x => hsP P A (x - n)) = P := le_eq (lst_shift pv.ls n)
  unfold pfR fmP
  rw [e, ← ro_eq P0 pv.cn pv.ip n]
theorem OffS.keep {B : Nat} {w w' : World} {v : Value} {L : List Sp} (h : OffS B w v L) (hb : Below w.heap.size w w') : OffS B w' v L := by
  rcases h with h | ⟨b, off, c, e, ne, l⟩
  · exact .inl h
  · exact .inr ⟨b, off, c, e, ne, l.keep hb⟩
set_option maxRecDepth 100000 in
set_option maxHeartbeats 2000000 in
theorem rpmove (va : Value) (P : Int) (A : List Sp) (hA : A.length ≤ maxLen) (hP : I64 P) (n : Int) (hn : I64 n) {ba : Nat} (w : World) (a : PairS ba w va A) :
    Calls Try.prog 31 #[.agg #[.int .i64 P, va], .int .i64 n] w fun e w' => (∃ v', e = .returned (.tuple #[.agg #[.int .i64 (mvR P A n).1.1, v'], .int .i64 (mvR P A n).2]) ∧ PairS 0 w' v' (mvR P A n).1.2) ∧ Below w.heap.size w w' := by
  have s1 := size_two w (.cells #[.int .i64 P, va] 24)
  have A1 := Lib.hid (grow (grow (here w) (.cells #[.int .i64 P, va] 24)) (.cells #[.int .i64 0, .slice none 0 0] 24))
  have TA := Lib.hid (Two.fst (here ((w.alloc (.cells #[.int .i64 P, va] 24)).alloc (.cells #[.int .i64 0, .slice none 0 0] 24))))
  have TR := Tuo.new (w.alloc (.cells #[.int .i64 P, va] 24)) (.int .i64 0) (.slice none 0 0) 24
  rw [s1] at TR
  replace TR := Lib.hid TR
  have a2 := Lib.hid (a.keep A1.out)
  have HV := Lib.hid (rpvalid va P A hA hP _ a2.out)
  obtain ⟨t0, t1, tl⟩ := TA.out
  have a0 := Lib.hid a
  clear a
  cases p : pvB P A
  · have r : Hid (mvR P A n = ((0, []), 1)) := by show _ = _; unfold mvR; rw [p]; rfl
    rw [p] at HV
    clear p s1
    go_enter Try.func31, Try.ntmps31
    go_wp2_with fail
    refine HV.out.mono ?_
    rintro e w4 ⟨rfl, hb⟩
    have B9 := Lib.hid (down A1.out hb)
    replace TR := Lib.hid (TR.out.keep hb)
    clear hb A1 HV a2 TA t0 t1 tl
    have FI : Hid (Two ((w4.setCell ⟨w.heap.size + 1, 0, none⟩ (.int .i64 0)).setCell ⟨w.heap.size + 1, 1, none⟩ (.slice none 0 0)) (w.heap.size + 1) (.int .i64 0) (.slice none 0 0) ∧ Below w.heap.size w ((w4.setCell ⟨w.heap.size + 1, 0, none⟩ (.int .i64 0)).setCell ⟨w.heap.size + 1, 1, none⟩ (.slice none 0 0)) ∧ PairS w.heap.size ((w4.setCell ⟨w.heap.size + 1, 0, none⟩ (.int .i64 0)).setCell ⟨w.heap.size + 1, 1, none⟩ (.slice none 0 0)) (.slice none 0 0) []) :=
      ⟨TR.out.put _ _, (B9.out.setCell (p := ⟨w.heap.size + 1, 0, none⟩) (by show w.heap.size ≤ w.heap.size + 1; omega) _).setCell (p := ⟨w.heap.size + 1, 1, none⟩) (by show w.heap.size ≤ w.heap.size + 1; omega) _, Sl.none _ _⟩
    obtain ⟨⟨ri0, ri1, ri2⟩, rf0, rf1⟩ := TR.out
    go_wp2
    have q0 := FI.out.1.c0
    have q1 := FI.out.1.c1
    generalize (w4.setCell ⟨w.heap.size + 1, 0, none⟩ (.int .i64 0)).setCell ⟨w.heap.size + 1, 1, none⟩ (.slice none 0 0) = w13 at *
    refine bodyPost_ret (v := .tuple #[.agg #[.int .i64 0, .slice none 0 0], .int .i64 1]) (by simp [results, Try.results31, go_sem, q0, q1]) rfl ?_
    rw [r.out]
    exact ⟨⟨_, rfl, Sl.none _ _⟩, FI.out.2.1⟩
  · have pv := pv_iff.1 p
    rw [p] at HV
    by_cases l0 : n < -4398046511104
    · have k0 : decide (n < -4398046511104) = true := decide_eq_true l0
      have r : Hid (mvR P A n = ((0, []), 2)) := by
        show _ = _; unfold mvR nvB; rw [p, decide_eq_false (show ¬ -4398046511104 ≤ n by omega)]; rfl
      clear p s1 pv l0
      go_enter Try.func31, Try.ntmps31
      go_wp2_with fail
      refine HV.out.mono ?_
      rintro e w4 ⟨rfl, hb⟩
      have B9 := Lib.hid (down A1.out hb)
      replace TR := Lib.hid (TR.out.keep hb)
      clear hb A1 HV a2 TA t0 t1 tl
      have FI : Hid (Two ((w4.setCell ⟨w.heap.size + 1, 0, none⟩ (.int .i64 0)).setCell ⟨w.heap.size + 1, 1, none⟩ (.slice none 0 0)) (w.heap.size + 1) (.int .i64 0) (.slice none 0 0) ∧ Below w.heap.size w ((w4.setCell ⟨w.heap.size + 1, 0, none⟩ (.int .i64 0)).setCell ⟨w.heap.size + 1, 1, none⟩ (.slice none 0 0)) ∧ PairS w.heap.size ((w4.setCell ⟨w.heap.size + 1, 0, none⟩ (.int .i64 0)).setCell ⟨w.heap.size + 1, 1, none⟩ (.slice none 0 0)) (.slice none 0 0) []) :=
        ⟨TR.out.put _ _, (B9.out.setCell (p := ⟨w.heap.size + 1, 0, none⟩) (by show w.heap.size ≤ w.heap.size + 1; omega) _).setCell (p := ⟨w.heap.size + 1, 1, none⟩) (by show w.heap.size ≤ w.heap.size + 1; omega) _, Sl.none _ _⟩
      obtain ⟨⟨ri0, ri1, ri2⟩, rf0, rf1⟩ := TR.out
      go_wp2
      have q0 := FI.out.1.c0
      have q1 := FI.out.1.c1
      generalize (w4.setCell ⟨w.heap.size + 1, 0, none⟩ (.int .i64 0)).setCell ⟨w.heap.size + 1, 1, none⟩ (.slice none 0 0) = w13 at *
      refine bodyPost_ret (v := .tuple #[.agg #[.int .i64 0, .slice none 0 0], .int .i64 2]) (by simp [results, Try.results31, go_sem, q0, q1]) rfl ?_
      rw [r.out]
      exact ⟨⟨_, rfl, Sl.none _ _⟩, FI.out.2.1⟩
    · have k0 : decide (n < -4398046511104) = false := decide_eq_false l0
      by_cases l1 : 4398046511104 < n
      · have k1 : decide (4398046511104 < n) = true := decide_eq_true l1
        have r : Hid (mvR P A n = ((0, []), 2)) := by
          show _ = _; unfold mvR nvB; rw [p, decide_eq_false (show ¬ n ≤ 4398046511104 by omega), Bool.and_false]; rfl
        clear p s1 pv l0 l1
        go_enter Try.func31, Try.ntmps31
        go_wp2_with fail
        refine HV.out.mono ?_
        rintro e w4 ⟨rfl, hb⟩
        have B9 := Lib.hid (down A1.out hb)
        replace TR := Lib.hid (TR.out.keep hb)
        clear hb A1 HV a2 TA t0 t1 tl
        have FI : Hid (Two ((w4.setCell ⟨w.heap.size + 1, 0, none⟩ (.int .i64 0)).setCell ⟨w.heap.size + 1, 1, none⟩ (.slice none 0 0)) (w.heap.size + 1) (.int .i64 0) (.slice none 0 0) ∧ Below w.heap.size w ((w4.setCell ⟨w.heap.size + 1, 0, none⟩ (.int .i64 0)).setCell ⟨w.heap.size + 1, 1, none⟩ (.slice none 0 0)) ∧ PairS w.heap.size ((w4.setCell ⟨w.heap.size + 1, 0, none⟩ (.int .i64 0)).setCell ⟨w.heap.size + 1, 1, none⟩ (.slice none 0 0)) (.slice none 0 0) []) :=
          ⟨TR.out.put _ _, (B9.out.setCell (p := ⟨w.heap.size + 1, 0, none⟩) (by show w.heap.size ≤ w.heap.size + 1; omega) _).setCell (p := ⟨w.heap.size + 1, 1, none⟩) (by show w.heap.size ≤ w.heap.size + 1; omega) _, Sl.none _ _⟩
        obtain ⟨⟨ri0, ri1, ri2⟩, rf0, rf1⟩ := TR.out
        go_wp2
        have q0 := FI.out.1.c0
        have q1 := FI.out.1.c1
        generalize (w4.setCell ⟨w.heap.size + 1, 0, none⟩ (.int .i64 0)).setCell ⟨w.heap.size + 1, 1, none⟩ (.slice none 0 0) = w13 at *
        refine bodyPost_ret (v := .tuple #[.agg #[.int .i64 0, .slice none 0 0], .int .i64 2]) (by simp [results, Try.results31, go_sem, q0, q1]) rfl ?_
        rw [r.out]
        exact ⟨⟨_, rfl, Sl.none _ _⟩, FI.out.2.1⟩
      · have k1 : decide (4398046511104 < n) = false := decide_eq_false l1
        have r : mvR P A n = pfR P (fun x => hsP P A (x - n)) := by
          unfold mvR nvB; rw [p, decide_eq_true (show -4398046511104 ≤ n by omega), decide_eq_true (show n ≤ 4398046511104 by omega)]; rfl
        rw [ro_fm pv n] at r
        have P0 : 0 < P := by have := pv.p0; omega
        have P1 := pv.p1
        have ROT := Lib.hid (fun W h => rprotated va P A n (by have := pv.len; omega) pv.cn pv.ip P0 P1 hn (ba := ba) W h)
        have rlen := ro_len P0 pv.cn pv.ip n
        have alen := pv.len
        obtain ⟨RL, hRL⟩ : ∃ RL, roL P n A = RL := ⟨_, rfl⟩
        rw [hRL] at r ROT rlen
        obtain ⟨m, hm⟩ : ∃ m, RL.length = m := ⟨_, rfl⟩
        rw [hm] at r rlen
        have hm' := Lib.hid hm
        have lm : m ≤ 1000000 := by omega
        have LI := Lib.hid (fun o c W => rplim o m c lm P W)
        clear p pv hRL l0 l1 rlen alen hm lm
        go_enter Try.func31, Try.ntmps31
        go_wp2_with fail
        refine HV.out.mono ?_
        rintro e w6 ⟨rfl, hb⟩
        have A6 := Lib.hid (down A1.out hb)
        replace TA := Lib.hid (TA.out.keep hb)
        replace TR := Lib.hid (TR.out.keep hb)
        replace a2 := Lib.hid (a2.out.keep hb)
        have sz6 : w.heap.size + 1 < w6.heap.size := TR.out.t.lt
        clear hb A1 HV t0 t1 tl s1
        obtain ⟨t0, t1, tl⟩ := TA.out
        have RO : Hid (∀ W, Below w6.heap.size w6 W → Calls Try.prog 59 #[va, .int .i64 P, .int .i64 n] W fun e w' => (∃ o c, e = .returned (.slice o m c) ∧ OffS (w.heap.size + 1) w' (.slice o m c) RL) ∧ Below W.heap.size W w') := fun W hW => (ROT.out W (a2.out.keep hW)).mono (by
          rintro e w' ⟨⟨v', e1, h1, h2⟩, hb⟩
          obtain ⟨o, c, rfl⟩ := prs_shape h1
          rw [hm'.out] at e1 h1 h2
          refine ⟨⟨o, c, e1, ?_⟩, hb⟩
          have h1' : PairS 0 w' (.slice o m c) RL := h1
          rcases h2 with h2 | h2
          · have a0' := a0.out
            rw [← h2] at a0'
            exact off_old a0' (Nat.le_succ _) h1'
          · exact off_above (base := W.heap.size) h2 (by have := hW.size; omega))
        clear ROT a2
        by_cases big : 2000 < m
        · rw [if_pos big] at r
          simp only [if_pos big] at LI
          replace r := Lib.hid r
          clear big
          go_wp2
          go_region_with (first | (go_at_call 59; (with_reducible refine (RO.out _ (Below.drew (here _))).mono ?_); rintro e w7 ⟨⟨o7, c7, rfl, P7⟩, hb⟩; have hB7 := Lib.hid (down (Below.drew (here w6)) hb); have ta := (TA.out.keep hB7.out).c0; have tb := (TA.out.keep hB7.out).c1; replace P7 := Lib.hid P7; clear hb) | (go_at_call 61; (with_reducible refine (LI.out o7 c7 _).mono ?_); rintro e w9 ⟨rfl, hb⟩; have hB9 := Lib.hid (down hB7.out hb); have OF := Lib.hid (OffS.keep P7.out hb); have TR9 := TR.out.keep hB9.out; have FI : Hid (Two ((w9.setCell ⟨w.heap.size + 1, 0, none⟩ (.int .i64 0)).setCell ⟨w.heap.size + 1, 1, none⟩ (.slice none 0 0)) (w.heap.size + 1) (.int .i64 0) (.slice none 0 0) ∧ Below w.heap.size w ((w9.setCell ⟨w.heap.size + 1, 0, none⟩ (.int .i64 0)).setCell ⟨w.heap.size + 1, 1, none⟩ (.slice none 0 0))) := ⟨TR9.put _ _, ((down A6.out hB9.out).setCell (p := ⟨w.heap.size + 1, 0, none⟩) (by show w.heap.size ≤ w.heap.size + 1; omega) _).setCell (p := ⟨w.heap.size + 1, 1, none⟩) (by show w.heap.size ≤ w.heap.size + 1; omega) _⟩; have ri0 := TR9.t.c0; have ri1 := TR9.t.c1; have rf0 := TR9.f0; have rf1 := TR9.f1; clear hb TR9))
          all_goals
            have OF2 := Lib.hid ((OF.out.set 0 (.int .i64 0)).set 1 (.slice none 0 0))
            go_wp2
            have q0 := FI.out.1.c0
            have q1 := FI.out.1.c1
            generalize (w9.setCell ⟨w.heap.size + 1, 0, none⟩ (.int .i64 0)).setCell ⟨w.heap.size + 1, 1, none⟩ (.slice none 0 0) = w13 at *
            refine bodyPost_ret (v := .tuple #[.agg #[.int .i64 0, .slice none 0 0], .int .i64 5]) (by simp [results, Try.results31, go_sem, q0, q1]) rfl ?_
            rw [r.out]
            exact ⟨⟨_, rfl, Sl.none _ _⟩, FI.out.2⟩
        · rw [if_neg big] at r
          simp only [if_neg big] at LI
          replace r := Lib.hid r
          clear big
          go_wp2
          go_region_with (first | (go_at_call 59; (with_reducible refine (RO.out _ (Below.drew (here _))).mono ?_); rintro e w7 ⟨⟨o7, c7, rfl, P7⟩, hb⟩; have hB7 := Lib.hid (down (Below.drew (here w6)) hb); have ta := (TA.out.keep hB7.out).c0; have tb := (TA.out.keep hB7.out).c1; replace P7 := Lib.hid P7; clear hb) | (go_at_call 61; (with_reducible refine (LI.out o7 c7 _).mono ?_); rintro e w9 ⟨rfl, hb⟩; have hB9 := Lib.hid (down hB7.out hb); have OF := Lib.hid (OffS.keep P7.out hb); have TR9 := TR.out.keep hB9.out; have FI : Hid (Two ((w9.setCell ⟨w.heap.size + 1, 0, none⟩ (.int .i64 P)).setCell ⟨w.heap.size + 1, 1, none⟩ (.slice o7 m c7)) (w.heap.size + 1) (.int .i64 P) (.slice o7 m c7) ∧ Below w.heap.size w ((w9.setCell ⟨w.heap.size + 1, 0, none⟩ (.int .i64 P)).setCell ⟨w.heap.size + 1, 1, none⟩ (.slice o7 m c7))) := ⟨TR9.put _ _, ((down A6.out hB9.out).setCell (p := ⟨w.heap.size + 1, 0, none⟩) (by show w.heap.size ≤ w.heap.size + 1; omega) _).setCell (p := ⟨w.heap.size + 1, 1, none⟩) (by show w.heap.size ≤ w.heap.size + 1; omega) _⟩; have ri0 := TR9.t.c0; have ri1 := TR9.t.c1; have rf0 := TR9.f0; have rf1 := TR9.f1; clear hb TR9))
          all_goals
            have OF2 := Lib.hid ((OF.out.set 0 (.int .i64 P)).set 1 (.slice o7 m c7))
            go_wp2
            have q0 := FI.out.1.c0
            have q1 := FI.out.1.c1
            generalize (w9.setCell ⟨w.heap.size + 1, 0, none⟩ (.int .i64 P)).setCell ⟨w.heap.size + 1, 1, none⟩ (.slice o7 m c7) = w13 at *
            refine bodyPost_ret (v := .tuple #[.agg #[.int .i64 P, .slice o7 m c7], .int .i64 0]) (by simp [results, Try.results31, go_sem, q0, q1]) rfl ?_
            rw [r.out]
            exact ⟨⟨_, rfl, OF2.out.prs⟩, FI.out.2⟩
end Go.Proofs.Ytaikeclfmmnelaa
