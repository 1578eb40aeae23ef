/- Contracts of package periodic: Of. -/
import Derived.Test.YtaikeclfmmnelaaQPeKK
import Derived.Test.YtaikeclfmmnelaaQRnKG
import Derived.Deep.RegionHeld3
namespace Go.Proofs.Ytaikeclfmmnelaa

open Go.RowKit

set_option linter.unusedVariables false

/-- The form of a set that is given by spans anywhere, or an error. -/
noncomputable def ofR (P : Int) (L : List Sp) : (Int × List Sp) × Int := if decide (1 ≤ P) && decide (P ≤ 12622780800) && spsB L then (if 2000 < L.length then ((0, []), 5) else pfR P (ofB P L)) else ((0, []), 1)
set_option maxRecDepth 100000 in
set_option maxHeartbeats 2000000 in
theorem upclosure (x y : Int) (w : World) :
    Calls Try.prog 53 #[.agg #[.int .i64 x, .int .i64 y]] w fun e w' => e = .returned (.bool (!spB (x, y))) ∧ Below w.heap.size w w' := by
  have HI := Lib.hid (riv x y)
  generalize spB (x, y) = b at *
  go_enter Try.func53, Try.ntmps53
  go_wp2_with (go_at_call 54; refine (HI.out _).mono ?_; rintro e w1 ⟨rfl, hb⟩; replace hb := Lib.hid hb)
  go_ret
  exact ⟨rfl, down (grow (here w) _) hb.out⟩
set_option maxRecDepth 100000 in
set_option maxHeartbeats 2000000 in
theorem upindex (v : Value) (A : List Sp) (hA : A.length ≤ maxLen) {ba : Nat} (w : World) (a : PairS ba w v A) :
    Calls Try.prog 81 #[v, .func (.func 53) #[] #[]] w fun e w' => (∃ i : Int, e = .returned (.int .i64 i) ∧ decide (0 ≤ i) = !spsB A) ∧ Below w.heap.size w w' := by
  unfold maxLen at hA
  obtain ⟨o, c, rfl⟩ := prs_shape a
  have PL := Lib.hid a
  have A0 : Hid (Below w.heap.size w w) := here w
  have no : Hid (∀ j, j < A.length → spB (A.getD j (0, 0)) = false → spsB A = false) := fun j hj e => by
    rw [← Bool.not_eq_true]; intro q
    rw [spsB_at.1 q j hj] at e; cases e
  have yes : Hid ((∀ j, j < A.length → spB (A.getD j (0, 0)) = true) → spsB A = true) := fun h => spsB_at.2 h
  clear a
  obtain ⟨n, hl⟩ : ∃ n, A.length = n := ⟨_, rfl⟩
  rw [hl] at hA no yes PL ⊢
  generalize spsB A = SB at *
  go_enter Try.func81, Try.ntmps81
  go_wp2
  go_loopw [8] (fun i wr => ∃ k : Nat, k ≤ n ∧ i = .int .i64 k ∧ Hid (∀ j, j < k → spB (A.getD j (0, 0)) = true) ∧ Hid (Below w.heap.size w wr)) (fun i _ => n - (intOf i).toNat)
  case atStart => exact ⟨0, Nat.zero_le _, rfl, fun j hj => absurd hj (Nat.not_lt_zero _), A0⟩
  case round =>
    obtain ⟨k, hk, rfl, HU, HA⟩ := hrel
    have HP := Lib.hid (PL.out.keep HA.out)
    clear A0
    by_cases z : k < n
    · have kz : decide ((k : Int) < (n : Int)) = true := decide_eq_true (by omega)
      obtain ⟨b, off, rfl, bl, cs⟩ := prs_here HP.out (show k < A.length by omega)
      obtain ⟨c0, c1⟩ := cs k (by omega)
      have HS := Lib.hid (fun w => upclosure (A.getD k (0, 0)).1 (A.getD k (0, 0)).2 w)
      have ev : ((A.getD k (0, 0)).1, (A.getD k (0, 0)).2) = A.getD k (0, 0) := rfl
      rw [ev] at HS
      clear cs ev yes
      obtain ⟨u, hu⟩ : ∃ u, spB (A.getD k (0, 0)) = u := ⟨_, rfl⟩
      rw [hu] at HS
      have r0 := no.out k z
      have HU2 : u = true → Hid (∀ j, j < k + 1 → spB (A.getD j (0, 0)) = true) := fun e j hj => by
        rcases Nat.lt_or_ge j k with y | y
        · exact HU.out j y
        · obtain rfl : j = k := by omega
          rw [hu, e]
      rw [hu] at r0
      clear hu no HU
      generalize A.getD k (0, 0) = q at *
      obtain ⟨x, y⟩ := q
      replace HS : Hid (∀ w, Calls Try.prog 53 #[.agg #[.int .i64 x, .int .i64 y]] w fun e w' => e = .returned (.bool (!u)) ∧ Below w.heap.size w w') := HS
      replace c0 : wr.cell? ⟨b, off + k * 2, none⟩ = some (.int .i64 x) := c0
      replace c1 : wr.cell? ⟨b, off + k * 2 + 1, none⟩ = some (.int .i64 y) := c1
      cases u
      · have r2 := Lib.hid (r0 rfl)
        clear r0 HU2
        replace HS : Hid (∀ w, Calls Try.prog 53 #[.agg #[.int .i64 x, .int .i64 y]] w fun e w' => e = .returned (.bool true) ∧ Below w.heap.size w w') := HS
        go_wp2_with (go_at_call 53; refine (HS.out _).mono ?_; rintro e w1 ⟨rfl, hb⟩; have A1 := Lib.hid (down HA.out hb); clear hb)
        go_ret
        refine ⟨⟨_, rfl, ?_⟩, A1.out⟩
        rw [r2.out]
        exact decide_eq_true (by omega)
      · have HU3 := HU2 rfl
        clear r0 HU2
        replace HS : Hid (∀ w, Calls Try.prog 53 #[.agg #[.int .i64 x, .int .i64 y]] w fun e w' => e = .returned (.bool false) ∧ Below w.heap.size w w') := HS
        go_wp2_with (go_at_call 53; refine (HS.out _).mono ?_; rintro e w1 ⟨rfl, hb⟩; have A1 := Lib.hid (down HA.out hb); clear hb)
        go_roundw
        case rel => exact ⟨k + 1, by omega, by go_num, HU3, A1⟩
        case measure => simp [intOf]; omega
    · have kz : decide ((k : Int) < (n : Int)) = false := decide_eq_false (by omega)
      obtain rfl : k = n := by omega
      have r2 := Lib.hid (yes.out HU.out)
      clear yes no HU z
      go_wp2
      go_ret
      exact ⟨⟨_, rfl, by rw [r2.out]; rfl⟩, HA.out⟩
set_option maxRecDepth 100000 in
set_option maxHeartbeats 2000000 in
theorem upcontains (v : Value) (A : List Sp) (hA : A.length ≤ maxLen) {ba : Nat} (w : World) (a : PairS ba w v A) :
    Calls Try.prog 55 #[v, .func (.func 53) #[] #[]] w fun e w' => e = .returned (.bool (!spsB A)) ∧ Below w.heap.size w w' := by
  have HI := Lib.hid (upindex v A hA w a)
  generalize spsB A = b at *
  clear a hA
  go_enter Try.func55, Try.ntmps55
  go_wp2_with fail
  refine HI.out.mono ?_
  rintro e w1 ⟨⟨i, rfl, hi⟩, hb⟩
  replace hb := Lib.hid hb
  obtain ⟨t, ht⟩ : ∃ t, (!b) = t := ⟨_, rfl⟩
  rw [ht] at hi
  replace ht := Lib.hid ht
  go_wp2
  go_ret
  exact ⟨by rw [ht.out]; rfl, hb.out⟩
end Go.Proofs.Ytaikeclfmmnelaa
/- Contracts of package periodic: Of. -/
namespace Go.Proofs.Ytaikeclfmmnelaa

open Go.RowKit

set_option linter.unusedVariables false

theorem OwnS.put {B : Nat} {w : World} {b off c m : Nat} {M : List Sp} (h : OwnS B w (.slice (some ⟨b, off, none⟩) m c) M) {k : Nat} (hk : k < M.length) (x y : Int) : OwnS B ((w.setCell ⟨b, off + k * 2, none⟩ (.int .i64 x)).setCell ⟨b, off + k * 2 + 1, none⟩ (.int .i64 y)) (.slice (some ⟨b, off, none⟩) m c) (M.set k (x, y)) := by
  obtain ⟨o, c', e, l, q⟩ := h.sh
  injection e with e1 e2 e3
  subst e3; subst e2
  obtain ⟨b', off', e1', e2', e3', e4', e5'⟩ := q (by omega)
  rw [← e1] at e1'
  injection e1' with e1'
  injection e1' with x1 x2
  subst x1; subst x2
  have ln : (M.set k (x, y)).length = M.length := List.length_set
  refine ⟨_, _, by rw [ln], by rw [ln]; exact l, fun _ => ⟨b, off, rfl, e2', by rw [size_set, size_set]; exact e3', fun j hj => ?_, fun j => by rw [World.frozen?_setCell, World.frozen?_setCell]; exact e5' j⟩⟩
  rw [ln] at hj
  have q4 := e4' j hj
  have gs : (M.set k (x, y)).getD j (0, 0) = if k = j then (x, y) else M.getD j (0, 0) := by
    rw [gD (by rw [ln]; exact hj), List.getElem_set]
    split
    · rfl
    · rw [gD hj]
  rw [gs]
  have o : ∀ i j : Nat, i ≠ j → (⟨b, i, none⟩ : Addr) ≠ ⟨b, j, none⟩ := fun i j n e => n (by injection e)
  by_cases z : k = j
  · subst z
    rw [if_pos rfl]
    have c0 : (w.setCell ⟨b, off + k * 2, none⟩ (.int .i64 x)).cell? ⟨b, off + k * 2 + 1, none⟩ = some (.int .i64 (M.getD k (0, 0)).2) := by
      rw [World.cell?_setCell_other (h := o _ _ (by omega))]; exact q4.2
    exact ⟨by rw [World.cell?_setCell_other (h := o _ _ (by omega))]; exact World.cell?_setCell_same w _ _ q4.1, World.cell?_setCell_same _ _ _ c0⟩
  · rw [if_neg z]
    refine ⟨?_, ?_⟩
    · rw [World.cell?_setCell_other (h := o _ _ (by omega)), World.cell?_setCell_other (h := o _ _ (by omega))]; exact q4.1
    · rw [World.cell?_setCell_other (h := o _ _ (by omega)), World.cell?_setCell_other (h := o _ _ (by omega))]; exact q4.2
theorem made_pairs (n : Nat) : (madeCells #[Value.int .i64 0, .int .i64 0] (n * 2)).toList = pairs (List.replicate n (0, 0)) := by
  apply List.ext_getElem?
  intro j
  unfold madeCells
  have pl : (pairs (List.replicate n (0, 0))).length = n * 2 := by rw [pairs_length, List.length_replicate]
  by_cases z : j < n * 2
  · have r : (pairs (List.replicate n (0, 0)))[j]? = some (.int .i64 0) := by
      have hi : j / 2 < (List.replicate n ((0 : Int), (0 : Int))).length := by rw [List.length_replicate]; omega
      have g := pairs_get (List.replicate n (0, 0)) (j / 2) hi
      have e : (List.replicate n ((0 : Int), (0 : Int))).getD (j / 2) (0, 0) = (0, 0) := by rw [gD hi, List.getElem_replicate]
      rw [e] at g
      rcases Nat.mod_two_eq_zero_or_one j with q | q
      · rw [show j = 2 * (j / 2) by omega]; exact g.1
      · rw [show j = 2 * (j / 2) + 1 by omega]; exact g.2
    rw [r]
    rcases Nat.mod_two_eq_zero_or_one j with q | q <;> simp [z, q]
  · rw [List.getElem?_eq_none (by simp; omega), List.getElem?_eq_none (by omega)]
/-- What of's lists come to. -/
theorem of_facts {P : Int} {L : List Sp} (P0 : 0 < P) (P1 : P ≤ 12622780800) (s : spsB L = true) (l : L.length ≤ 2000) : ruOf (mvO P L) = (cbL 1 (mvO P L) [], 0) ∧ Cir P (ofB P L) (cbL 1 (mvO P L) []) ∧ (cbL 1 (mvO P L) []).length ≤ 2000 ∧ (mvO P L).length = L.length := by
  have v : ∀ p, p ∈ L → p.1 < p.2 := (sps_of.1 s).2
  have ml := ofl_len P0 v
  have mm := mv_mem P0 v
  have sp : spsB (mvO P L) = true := sps_of.2 ⟨fun p hp => by have := mm p hp; omega, fun p hp => (mm p hp).2.2.1⟩
  refine ⟨?_, of_cir P0 v, by omega, by simp [mvO]⟩
  unfold ruOf ruFull
  rw [sp, if_pos rfl, if_neg (by omega)]
set_option maxRecDepth 100000 in
set_option maxHeartbeats 2000000 in
theorem upof (va : Value) (P : Int) (A : List Sp) (hA : A.length ≤ maxLen) (hP : I64 P) {ba : Nat} (w : World) (a : PairS ba w va A) :
    Calls Try.prog 20 #[.int .i64 P, va] w fun e w' => (∃ v', e = .returned (.tuple #[.agg #[.int .i64 (ofR P A).1.1, v'], .int .i64 (ofR P A).2]) ∧ PairS w.heap.size w' v' (ofR P A).1.2) ∧ Below w.heap.size w w' := by
  obtain ⟨i0, hi, hz0, hz1, hz2⟩ := info_parts infoS
  have mx : A.length ≤ 9223372036854775807 := by unfold maxLen at hA; omega
  have A1 := Lib.hid (grow (here w) (.cells #[.int .i64 0, .slice none 0 0] 24))
  have TR := Lib.hid (Tuo.new w (.int .i64 0) (.slice none 0 0) 24)
  have a2 := Lib.hid (a.keep A1.out)
  have HI := Lib.hid (fun W => upisper P W)
  have HV := Lib.hid (fun W h => upcontains va A hA (ba := ba) W h)
  clear a
  cases i : (decide (1 ≤ P) && decide (P ≤ 12622780800))
  · have r : Hid (ofR P A = ((0, []), 1)) := by show _ = _; unfold ofR; rw [i]; rfl
    rw [i] at HI
    clear HV i hP
    go_enter Try.func20, Try.ntmps20
    go_wp2_with fail
    refine (HI.out _).mono ?_
    rintro e w2 ⟨rfl, rfl⟩
    obtain ⟨⟨ri0, ri1, ri2⟩, rf0, rf1⟩ := TR.out
    go_wp2
    generalize (w.alloc (.cells #[.int .i64 0, .slice none 0 0] 24)) = w13 at *
    refine bodyPost_ret (v := .tuple #[.agg #[.int .i64 0, .slice none 0 0], .int .i64 1]) (by simp [results, Try.results20, go_sem, ri0, ri1]) rfl ?_
    rw [r.out]
    exact ⟨⟨_, rfl, Sl.none _ _⟩, A1.out⟩
  · cases s : spsB A
    · have r : Hid (ofR P A = ((0, []), 1)) := by show _ = _; unfold ofR; rw [i, s]; rfl
      rw [i] at HI
      rw [s] at HV
      clear i hP s
      go_enter Try.func20, Try.ntmps20
      go_wp2_with fail
      refine (HI.out _).mono ?_
      rintro e w2 ⟨rfl, rfl⟩
      have HV2 := Lib.hid (HV.out _ a2.out)
      go_wp2_with fail
      refine HV2.out.mono ?_
      rintro e w4 ⟨rfl, hb⟩
      have B9 := Lib.hid (down A1.out hb)
      replace TR := Lib.hid (TR.out.keep hb)
      clear hb A1 a2 HV HV2 HI
      have FI : Hid (Two ((w4.setCell ⟨w.heap.size, 0, none⟩ (.int .i64 0)).setCell ⟨w.heap.size, 1, none⟩ (.slice none 0 0)) (w.heap.size) (.int .i64 0) (.slice none 0 0) ∧ Below w.heap.size w ((w4.setCell ⟨w.heap.size, 0, none⟩ (.int .i64 0)).setCell ⟨w.heap.size, 1, none⟩ (.slice none 0 0)) ∧ PairS w.heap.size ((w4.setCell ⟨w.heap.size, 0, none⟩ (.int .i64 0)).setCell ⟨w.heap.size, 1, none⟩ (.slice none 0 0)) (.slice none 0 0) []) :=
        ⟨TR.out.put _ _, (B9.out.setCell (p := ⟨w.heap.size, 0, none⟩) (by show w.heap.size ≤ w.heap.size; omega) _).setCell (p := ⟨w.heap.size, 1, none⟩) (by show w.heap.size ≤ w.heap.size; omega) _, Sl.none _ _⟩
      obtain ⟨⟨ri0, ri1, ri2⟩, rf0, rf1⟩ := TR.out
      go_wp2
      have q0 := FI.out.1.c0
      have q1 := FI.out.1.c1
      generalize (w4.setCell ⟨w.heap.size, 0, none⟩ (.int .i64 0)).setCell ⟨w.heap.size, 1, none⟩ (.slice none 0 0) = w13 at *
      refine bodyPost_ret (v := .tuple #[.agg #[.int .i64 0, .slice none 0 0], .int .i64 1]) (by simp [results, Try.results20, go_sem, q0, q1]) rfl ?_
      rw [r.out]
      exact ⟨⟨_, rfl, FI.out.2.2⟩, FI.out.2.1⟩
    · have r0 : ofR P A = if 2000 < A.length then ((0, []), 5) else pfR P (ofB P A) := by unfold ofR; rw [i, s]; rfl
      rw [i] at HI
      rw [s] at HV
      rw [Bool.and_eq_true, decide_eq_true_iff, decide_eq_true_iff] at i
      obtain ⟨P0', P1⟩ := i
      have P0 : 0 < P := by omega
      obtain ⟨o, c, rfl⟩ := prs_shape a2.out
      obtain ⟨n, hn⟩ : ∃ n, A.length = n := ⟨_, rfl⟩
      rw [hn] at a2 HV mx ⊢
      by_cases big : 2000 < n
      · have kb : decide (2000 < (n : Int)) = true := decide_eq_true (by omega)
        rw [hn, if_pos big] at r0
        have r := Lib.hid r0
        clear r0 s big hn hA
        go_enter Try.func20, Try.ntmps20
        go_wp2_with fail
        refine (HI.out _).mono ?_
        rintro e w2 ⟨rfl, rfl⟩
        have HV2 := Lib.hid (HV.out _ a2.out)
        go_wp2_with fail
        refine HV2.out.mono ?_
        rintro e w4 ⟨rfl, hb⟩
        have B9 := Lib.hid (down A1.out hb)
        replace TR := Lib.hid (TR.out.keep hb)
        clear hb A1 a2 HV HV2 HI
        have FI : Hid (Two ((w4.setCell ⟨w.heap.size, 0, none⟩ (.int .i64 0)).setCell ⟨w.heap.size, 1, none⟩ (.slice none 0 0)) (w.heap.size) (.int .i64 0) (.slice none 0 0) ∧ Below w.heap.size w ((w4.setCell ⟨w.heap.size, 0, none⟩ (.int .i64 0)).setCell ⟨w.heap.size, 1, none⟩ (.slice none 0 0)) ∧ PairS w.heap.size ((w4.setCell ⟨w.heap.size, 0, none⟩ (.int .i64 0)).setCell ⟨w.heap.size, 1, none⟩ (.slice none 0 0)) (.slice none 0 0) []) :=
          ⟨TR.out.put _ _, (B9.out.setCell (p := ⟨w.heap.size, 0, none⟩) (by show w.heap.size ≤ w.heap.size; omega) _).setCell (p := ⟨w.heap.size, 1, none⟩) (by show w.heap.size ≤ w.heap.size; omega) _, Sl.none _ _⟩
        obtain ⟨⟨ri0, ri1, ri2⟩, rf0, rf1⟩ := TR.out
        go_wp2
        have q0 := FI.out.1.c0
        have q1 := FI.out.1.c1
        generalize (w4.setCell ⟨w.heap.size, 0, none⟩ (.int .i64 0)).setCell ⟨w.heap.size, 1, none⟩ (.slice none 0 0) = w13 at *
        refine bodyPost_ret (v := .tuple #[.agg #[.int .i64 0, .slice none 0 0], .int .i64 5]) (by simp [results, Try.results20, go_sem, q0, q1]) rfl ?_
        rw [r.out]
        exact ⟨⟨_, rfl, FI.out.2.2⟩, FI.out.2.1⟩
      · have kb : decide (2000 < (n : Int)) = false := decide_eq_false (by omega)
        rw [hn, if_neg big] at r0
        have r := Lib.hid r0
        obtain ⟨OF1, OF2, OF3, OF4⟩ := of_facts P0 P1 s (show A.length ≤ 2000 by omega)
        have LT := Lib.hid (fun p (hp : p ∈ A) => spB_iff.1 (List.all_eq_true.1 s p hp))
        have MV : Hid (∀ N : List Sp, N.length = n → (∀ j, j < n → N.getD j (0, 0) = mvS P (A.getD j (0, 0))) → N = mvO P A) := fun N l h => by
          refine list_ext (by rw [l, OF4, hn]) fun j hj => ?_
          rw [h j (by omega)]
          unfold mvO
          have hj' : j < A.length := by omega
          have hj2 : j < (A.map (mvS P)).length := by rw [List.length_map]; exact hj'
          rw [gD hj2, gD hj', List.getElem_map]
        have HRO : Hid (∀ W v, ∀ {b1 : Nat}, PairS b1 W v (mvO P A) → Calls Try.prog 57 #[v] W fun e w' => (∃ v', e = .returned (.tuple #[v', .int .i64 0]) ∧ PairS W.heap.size w' v' (cbL 1 (mvO P A) [])) ∧ Below W.heap.size W w') := fun W v _ h => by
          have q := ruof v (mvO P A) (by omega) W h
          rw [OF1] at q
          exact q
        have HF : Hid (∀ W v, ∀ {b1 : Nat}, PairS b1 W v (cbL 1 (mvO P A) []) → Calls Try.prog 58 #[.int .i64 P, v] W fun e w' => (∃ v', e = .returned (.tuple #[.agg #[.int .i64 (pfR P (ofB P A)).1.1, v'], .int .i64 (pfR P (ofB P A)).2]) ∧ PairS W.heap.size w' v' (pfR P (ofB P A)).1.2) ∧ Below W.heap.size W w') := fun W v _ h => upform v P _ _ OF2 (by omega) P1 W h
        replace hn := Lib.hid hn
        clear OF1 OF2 OF3 OF4 s r0
        generalize pfR P (ofB P A) = RR at *
        generalize cbL 1 (mvO P A) [] = JL at *
        go_enter Try.func20, Try.ntmps20
        go_wp2_with fail
        refine (HI.out _).mono ?_
        rintro e w2 ⟨rfl, rfl⟩
        have HV2 := Lib.hid (HV.out _ a2.out)
        go_wp2_with fail
        refine HV2.out.mono ?_
        rintro e w4 ⟨rfl, hb⟩
        have A4 := Lib.hid (down A1.out hb)
        replace TR := Lib.hid (TR.out.keep hb)
        have tr4 := TR.out.t.lt
        replace a2 := Lib.hid (a2.out.keep hb)
        clear hb A1 HV HV2 HI
        have M2 : Hid (i0.bytes * n ≤ 281474976710656) := by show _ ≤ _; rw [hz2]; omega
        have M3 : Hid (n ≤ maxLen) := by show _ ≤ _; unfold maxLen; omega
        have M4 : Hid (w4.heap.size ≤ w4.heap.size) := Nat.le_refl _
        go_wp2_with (at_make; refine wpList_make_full _ rfl _ _ 22 rfl w4.heap.size 37 i0 (.agg #[.int .i64 0, .int .i64 0]) 2 Try.underlying22 hi hz0 hz1 .i64 .i64 (n : Int) (n : Int) n rfl rfl rfl rfl M2.out M3.out M4.out ?_)
        intro w5 hown hgrow
        rw [made_pairs] at hown
        have A5 : Hid (Below w4.heap.size w4 w5) := (Below.refl _ w4).grown hgrow (Nat.le_refl _) (by intro k hk; cases hk)
        have O5 := Lib.hid (owns_of (by rw [List.length_replicate]) hown)
        have KA : Hid (∀ W, Below w4.heap.size w5 W → PairS ba W (.slice o n c) A) := fun W h => a2.out.keep (A5.out.trans h)
        have KT : Hid (∀ W, Below w4.heap.size w5 W → Tuo W w.heap.size (.int .i64 0) (.slice none 0 0)) := fun W h => TR.out.keep (A5.out.trans h)
        have KB : Hid (∀ W, Below w4.heap.size w5 W → Below w.heap.size w W) := fun W h => down A4.out (A5.out.trans h)
        have s4 := A4.out.size
        have st5 := A5.out.size
        clear hown hgrow M2 M3 M4 A4 A5 a2 TR
        have N0 : Hid (∀ j, j < 0 → (List.replicate n ((0 : Int), (0 : Int))).getD j (0, 0) = mvS P (A.getD j (0, 0))) := fun j hj => absurd hj (Nat.not_lt_zero _)
        generalize w4.heap.size = g at *
        go_wp2
        go_loopw [33] (fun i wr => ∃ (k : Nat) (N : List Sp), k ≤ n ∧ i = .int .i64 k ∧ Hid (N.length = n) ∧ Hid (∀ j, j < k → N.getD j (0, 0) = mvS P (A.getD j (0, 0))) ∧ Hid (OwnS g wr (.slice (some ⟨g, 0, none⟩) n n) N) ∧ Hid (Below g w5 wr)) (fun i _ => n - (intOf i).toNat)
        case atStart => exact ⟨0, _, Nat.zero_le _, rfl, by show _ = _; rw [List.length_replicate], N0, O5, Below.refl _ _⟩
        case round =>
          clear O5 N0
          obtain ⟨k, N, hk, rfl, HN, HU, HO, HL⟩ := hrel
          by_cases z : k < n
          · have kz : decide ((k : Int) < (n : Int)) = true := decide_eq_true (by omega)
            have HP := Lib.hid (KA.out wr HL.out)
            obtain ⟨b, off, rfl, bl, cs⟩ := prs_here HP.out (show k < A.length by rw [hn.out]; exact z)
            obtain ⟨c0, c1⟩ := cs k (by rw [hn.out]; exact z)
            have lt := LT.out _ (getD_mem (show k < A.length by rw [hn.out]; exact z))
            have ST : ∀ j, j < k + 1 → (N.set k (mvS P (A.getD k (0, 0)))).getD j (0, 0) = mvS P (A.getD j (0, 0)) := fun j hj => by
              have hN := HN.out
              rw [gD (by rw [List.length_set]; omega), List.getElem_set]
              split
              · rename_i e; rw [e]
              · rename_i e
                rw [← gD (by omega)]; exact HU.out j (by omega)
            replace ST := Lib.hid ST
            have HN2 : Hid ((N.set k (mvS P (A.getD k (0, 0)))).length = n) := by show _ = _; rw [List.length_set]; exact HN.out
            have OP := fun (W : World) (h : OwnS g W (.slice (some ⟨g, 0, none⟩) n n) N) => h.put (show k < N.length by rw [HN.out]; exact z) (mvS P (A.getD k (0, 0))).1 (mvS P (A.getD k (0, 0))).2
            clear cs HU HP HN
            obtain ⟨p, hp⟩ : ∃ p, A.getD k (0, 0) = p := ⟨_, rfl⟩
            rw [hp] at c0 c1 lt ST HN2 OP
            clear hp
            obtain ⟨x, y⟩ := p
            replace lt : -4398046511104 ≤ x ∧ y ≤ 4398046511104 ∧ x < y := lt
            obtain ⟨lt0, lt1, lt2⟩ := lt
            have HM := Lib.hid (fun W => cmodP x P (by unfold I64; omega) P0 P1 W)
            have HE := Lib.hid (fun W => rilen x y (spB_iff.2 ⟨lt0, lt1, lt2⟩) W)
            have m0 := Int.emod_nonneg x (show P ≠ 0 by omega)
            have m1 := Int.emod_lt_of_pos x P0
            obtain ⟨T, hT⟩ : ∃ T, (if P < y - x then P else y - x) = T := ⟨_, rfl⟩
            have hT2 : min (y - x) P = T := by rw [← hT]; split <;> omega
            have T0 : 0 < T ∧ T ≤ P := by rw [← hT]; split <;> omega
            have em : mvS P (x, y) = (x % P, x % P + T) := by show (x % P, x % P + (if P < y - x then P else y - x)) = _; rw [hT]
            rw [em] at ST HN2 OP
            clear em
            generalize x % P = F at *
            replace c0 : wr.cell? ⟨b, off + k * 2, none⟩ = some (.int .i64 x) := c0
            replace c1 : wr.cell? ⟨b, off + k * 2 + 1, none⟩ = some (.int .i64 y) := c1
            have X2 := Two.new (here (wr.alloc (.cells #[.int .i64 x, .int .i64 y] 37)))
            have sw := HL.out.size
            have hb : Below wr.heap.size wr (wr.alloc (.cells #[.int .i64 x, .int .i64 y] 37)) := grow (here wr) _
            have L2 := Lib.hid (HL.out.trans (hb.mono (show g ≤ wr.heap.size by omega)))
            have O2 := Lib.hid (HO.out.keep hb)
            replace X2 := Lib.hid X2
            obtain ⟨x0, x1, xl⟩ := X2.out
            clear HO HL hb
            go_wp2_with fail
            refine (HM.out _).mono ?_
            rintro e w6 ⟨rfl, d, hw6⟩
            replace L2 : Hid (Below g w5 w6) := by show Below _ _ _; rw [hw6]; exact below_drewN L2.out d
            replace O2 := Lib.hid (O2.out.keep (below_drewN (here _) d))
            replace X2 := Lib.hid (X2.out.drewN d)
            rw [← hw6] at O2 X2
            clear hw6 x0 x1 xl c0 c1 bl HM
            obtain ⟨x0, x1, xl⟩ := X2.out
            go_wp2_with fail
            refine (HE.out _).mono ?_
            rintro e w7 ⟨rfl, hb⟩
            have sw6 := L2.out.size
            replace L2 := Lib.hid (L2.out.trans (hb.mono (show g ≤ w6.heap.size by omega)))
            replace O2 := Lib.hid (O2.out.keep hb)
            clear hb X2 x0 x1 xl HE
            obtain ⟨b1, off1, eo, -, -, bl1, cs1, fz1⟩ := O2.out.at (show 0 < n by omega)
            injection eo with eo; injection eo with eo1 eo2
            subst eo1; subst eo2
            have O3 := Lib.hid (OP w7 O2.out)
            have L3 := Lib.hid ((L2.out.setCell (p := ⟨g, 0 + k * 2, none⟩) (Nat.le_refl g) (.int .i64 F)).setCell (p := ⟨g, 0 + k * 2 + 1, none⟩) (Nat.le_refl g) (.int .i64 (F + T)))
            obtain ⟨d0, d1⟩ := cs1 k (by have := HN2.out; rw [List.length_set] at this; omega)
            rw [Nat.zero_add] at O3 L3 d0 d1
            have f0 := fz1 (k * 2)
            have f1 := fz1 (k * 2 + 1)
            have d1' : (w7.setCell ⟨g, k * 2, none⟩ (.int .i64 F)).cell? ⟨g, k * 2 + 1, none⟩ = some (.int .i64 (N.getD k (0, 0)).2) := by rw [World.cell?_setCell_other (h := by intro e; injection e with _ e; omega)]; exact d1
            clear cs1 fz1 OP O2 L2 hT
            go_wp2
            go_roundw
            case rel => exact ⟨k + 1, _, by omega, by go_num, HN2, ST, O3, L3⟩
            case measure => simp [intOf]; omega
          · have kz : decide ((k : Int) < (n : Int)) = false := decide_eq_false (by omega)
            obtain rfl : k = n := by omega
            have e := MV.out N HN.out HU.out
            subst e
            have HR2 := Lib.hid (HRO.out wr _ HO.out.prs)
            have sw := HL.out.size
            have TW := Lib.hid (KT.out wr HL.out)
            have BW := Lib.hid (KB.out wr HL.out)
            clear HN HU HO MV HRO KA KT KB LT z HL
            go_wp2_with fail
            refine HR2.out.mono ?_
            rintro e w8 ⟨⟨v8, rfl, P8⟩, hb⟩
            replace TW := Lib.hid (TW.out.keep hb)
            replace BW := Lib.hid (down BW.out hb)
            have HF2 := Lib.hid (HF.out w8 _ P8)
            clear hb HR2 HF P8
            go_wp2_with fail
            refine HF2.out.mono ?_
            rintro e w10 ⟨⟨v10, rfl, P10⟩, hb⟩
            have B9 := Lib.hid (down BW.out hb)
            have tr9 := TW.out.t.lt
            have sz9 := BW.out.size
            have TR := Lib.hid (TW.out.keep hb)
            obtain ⟨o10, c10, rfl⟩ := Sl.shape P10
            replace P10 := Lib.hid P10
            clear hb HF2 TW BW
            have FI : Hid (Two ((w10.setCell ⟨w.heap.size, 0, none⟩ (.int .i64 RR.1.1)).setCell ⟨w.heap.size, 1, none⟩ (.slice o10 RR.1.2.length c10)) (w.heap.size) (.int .i64 RR.1.1) (.slice o10 RR.1.2.length c10) ∧ Below w.heap.size w ((w10.setCell ⟨w.heap.size, 0, none⟩ (.int .i64 RR.1.1)).setCell ⟨w.heap.size, 1, none⟩ (.slice o10 RR.1.2.length c10)) ∧ PairS w.heap.size ((w10.setCell ⟨w.heap.size, 0, none⟩ (.int .i64 RR.1.1)).setCell ⟨w.heap.size, 1, none⟩ (.slice o10 RR.1.2.length c10)) (.slice o10 RR.1.2.length c10) RR.1.2) :=
              ⟨TR.out.put _ _, (B9.out.setCell (p := ⟨w.heap.size, 0, none⟩) (by show w.heap.size ≤ w.heap.size; omega) _).setCell (p := ⟨w.heap.size, 1, none⟩) (by show w.heap.size ≤ w.heap.size; omega) _, Sl.weak (Sl.far (Sl.far P10.out tr9 _) tr9 _) sz9⟩
            obtain ⟨⟨ri0, ri1, ri2⟩, rf0, rf1⟩ := TR.out
            go_wp2
            have q0 := FI.out.1.c0
            have q1 := FI.out.1.c1
            generalize (w10.setCell ⟨w.heap.size, 0, none⟩ (.int .i64 RR.1.1)).setCell ⟨w.heap.size, 1, none⟩ (.slice o10 RR.1.2.length c10) = w13 at *
            refine bodyPost_ret (v := .tuple #[.agg #[.int .i64 RR.1.1, .slice o10 RR.1.2.length c10], .int .i64 RR.2]) (by simp [results, Try.results20, go_sem, q0, q1]) rfl ?_
            rw [r.out]
            exact ⟨⟨_, rfl, FI.out.2.2⟩, FI.out.2.1⟩
end Go.Proofs.Ytaikeclfmmnelaa
/- Contracts of package periodic: Move. -/
namespace Go.Proofs.Ytaikeclfmmnelaa

open Go.RowKit

set_option linter.unusedVariables false

/-- A set, moved, or an error. -/
noncomputable def mvR (P : Int) (A : List Sp) (n : Int) : (Int × List Sp) × Int := if pvB P A then (if nvB n then pfR P (fun x => hsP P A (x - n)) else ((0, []), 2)) else ((0, []), 1)
theorem mv_facts {P : Int} {A : List Sp} (pv : PV P A) (n : Int) : moV A (n % P) = (shL A (n % P), 0) ∧ ofR P (shL A (n % P)) = pfR P (fun x => hsP P A (x - n)) := by
  have P0 : 0 < P := by have := pv.p0; omega
  have P1 := pv.p1
  have m0 := Int.emod_nonneg n (show P ≠ 0 by omega)
  have m1 := Int.emod_lt_of_pos n P0
  have sp : spsB (shL A (n % P)) = true := sps_of.2 ⟨fun p hp => by
    obtain ⟨q, hq, rfl⟩ := List.mem_map.1 hp
    have := pv.ip q hq
    show _ ≤ q.1 + n % P ∧ q.2 + n % P ≤ _
    omega, fun p hp => by
    obtain ⟨q, hq, rfl⟩ := List.mem_map.1 hp
    have := pv.cn.lt q hq
    show q.1 + n % P < q.2 + n % P
    omega⟩
  refine ⟨mo_yes pv.va (by omega) (by omega) sp, ?_⟩
  unfold ofR
  have ln := pv.len
  rw [decide_eq_true pv.p0, decide_eq_true pv.p1, sp, sh_len, if_neg (show ¬ 2000 < A.length by omega)]
  show pfR P (ofB P (shL A (n % P))) = _
  congr 1
  funext x
  rw [of_moved, of_in P0 pv.cn pv.ip, hs_mod]
set_option maxRecDepth 100000 in
set_option maxHeartbeats 2000000 in
theorem upmove (va : Value) (P : Int) (A : List Sp) (hA : A.length ≤ maxLen) (hP : I64 P) (n : Int) (hn : I64 n) {ba : Nat} (w : World) (a : PairS ba w va A) :
    Calls Try.prog 30 #[.agg #[.int .i64 P, va], .int .i64 n] w fun e w' => (∃ v', e = .returned (.tuple #[.agg #[.int .i64 (mvR P A n).1.1, v'], .int .i64 (mvR P A n).2]) ∧ PairS w.heap.size w' v' (mvR P A n).1.2) ∧ Below w.heap.size w w' := by
  have s1 := size_two w (.cells #[.int .i64 P, va] 24)
  have A1 := Lib.hid (grow (grow (here w) (.cells #[.int .i64 P, va] 24)) (.cells #[.int .i64 0, .slice none 0 0] 24))
  have TA := Lib.hid (Two.fst (here ((w.alloc (.cells #[.int .i64 P, va] 24)).alloc (.cells #[.int .i64 0, .slice none 0 0] 24))))
  have TR := Tuo.new (w.alloc (.cells #[.int .i64 P, va] 24)) (.int .i64 0) (.slice none 0 0) 24
  rw [s1] at TR
  replace TR := Lib.hid TR
  have a2 := Lib.hid (a.keep A1.out)
  have HV := Lib.hid (upvalid va P A hA hP _ a2.out)
  have HI := Lib.hid (fun W => upisline n W)
  obtain ⟨t0, t1, tl⟩ := TA.out
  clear a
  cases p : pvB P A
  · have r : Hid (mvR P A n = ((0, []), 1)) := by show _ = _; unfold mvR; rw [p]; rfl
    rw [p] at HV
    clear p s1
    go_enter Try.func30, Try.ntmps30
    go_wp2_with fail
    refine HV.out.mono ?_
    rintro e w4 ⟨rfl, hb⟩
    have B9 := Lib.hid (down A1.out hb)
    replace TR := Lib.hid (TR.out.keep hb)
    clear hb A1 HV a2 TA t0 t1 tl
    have FI : Hid (Two ((w4.setCell ⟨w.heap.size + 1, 0, none⟩ (.int .i64 0)).setCell ⟨w.heap.size + 1, 1, none⟩ (.slice none 0 0)) (w.heap.size + 1) (.int .i64 0) (.slice none 0 0) ∧ Below w.heap.size w ((w4.setCell ⟨w.heap.size + 1, 0, none⟩ (.int .i64 0)).setCell ⟨w.heap.size + 1, 1, none⟩ (.slice none 0 0)) ∧ PairS w.heap.size ((w4.setCell ⟨w.heap.size + 1, 0, none⟩ (.int .i64 0)).setCell ⟨w.heap.size + 1, 1, none⟩ (.slice none 0 0)) (.slice none 0 0) []) :=
      ⟨TR.out.put _ _, (B9.out.setCell (p := ⟨w.heap.size + 1, 0, none⟩) (by show w.heap.size ≤ w.heap.size + 1; omega) _).setCell (p := ⟨w.heap.size + 1, 1, none⟩) (by show w.heap.size ≤ w.heap.size + 1; omega) _, Sl.none _ _⟩
    obtain ⟨⟨ri0, ri1, ri2⟩, rf0, rf1⟩ := TR.out
    go_wp2
    have q0 := FI.out.1.c0
    have q1 := FI.out.1.c1
    generalize (w4.setCell ⟨w.heap.size + 1, 0, none⟩ (.int .i64 0)).setCell ⟨w.heap.size + 1, 1, none⟩ (.slice none 0 0) = w13 at *
    refine bodyPost_ret (v := .tuple #[.agg #[.int .i64 0, .slice none 0 0], .int .i64 1]) (by simp [results, Try.results30, go_sem, q0, q1]) rfl ?_
    rw [r.out]
    exact ⟨⟨_, rfl, FI.out.2.2⟩, FI.out.2.1⟩
  · have pv := pv_iff.1 p
    rw [p] at HV
    cases q : nvB n
    · have r : Hid (mvR P A n = ((0, []), 2)) := by show _ = _; unfold mvR; rw [p, q]; rfl
      rw [q] at HI
      clear p s1 pv q
      go_enter Try.func30, Try.ntmps30
      go_wp2_with fail
      refine HV.out.mono ?_
      rintro e w4 ⟨rfl, hb⟩
      have B9 := Lib.hid (down A1.out hb)
      replace TR := Lib.hid (TR.out.keep hb)
      clear hb A1 HV a2 TA t0 t1 tl
      go_wp2_with fail
      refine (HI.out _).mono ?_
      rintro e w4 ⟨rfl, rfl⟩
      have FI : Hid (Two ((w4.setCell ⟨w.heap.size + 1, 0, none⟩ (.int .i64 0)).setCell ⟨w.heap.size + 1, 1, none⟩ (.slice none 0 0)) (w.heap.size + 1) (.int .i64 0) (.slice none 0 0) ∧ Below w.heap.size w ((w4.setCell ⟨w.heap.size + 1, 0, none⟩ (.int .i64 0)).setCell ⟨w.heap.size + 1, 1, none⟩ (.slice none 0 0)) ∧ PairS w.heap.size ((w4.setCell ⟨w.heap.size + 1, 0, none⟩ (.int .i64 0)).setCell ⟨w.heap.size + 1, 1, none⟩ (.slice none 0 0)) (.slice none 0 0) []) :=
        ⟨TR.out.put _ _, (B9.out.setCell (p := ⟨w.heap.size + 1, 0, none⟩) (by show w.heap.size ≤ w.heap.size + 1; omega) _).setCell (p := ⟨w.heap.size + 1, 1, none⟩) (by show w.heap.size ≤ w.heap.size + 1; omega) _, Sl.none _ _⟩
      obtain ⟨⟨ri0, ri1, ri2⟩, rf0, rf1⟩ := TR.out
      go_wp2
      have q0 := FI.out.1.c0
      have q1 := FI.out.1.c1
      generalize (w4.setCell ⟨w.heap.size + 1, 0, none⟩ (.int .i64 0)).setCell ⟨w.heap.size + 1, 1, none⟩ (.slice none 0 0) = w13 at *
      refine bodyPost_ret (v := .tuple #[.agg #[.int .i64 0, .slice none 0 0], .int .i64 2]) (by simp [results, Try.results30, go_sem, q0, q1]) rfl ?_
      rw [r.out]
      exact ⟨⟨_, rfl, FI.out.2.2⟩, FI.out.2.1⟩
    · have r : mvR P A n = pfR P (fun x => hsP P A (x - n)) := by unfold mvR; rw [p, q]; rfl
      rw [q] at HI
      obtain ⟨M1, M2⟩ := mv_facts pv n
      rw [← M2] at r
      replace r := Lib.hid r
      have P0 : 0 < P := by have := pv.p0; omega
      have P1 := pv.p1
      have m0 := Int.emod_nonneg n (show P ≠ 0 by omega)
      have m1 := Int.emod_lt_of_pos n P0
      have HM := Lib.hid (fun W => cmodP n P hn P0 P1 W)
      have HN : Hid (∀ W, PairS ba W va A → Calls Try.prog 70 #[va, .int .i64 (n % P)] W fun e w' => (∃ v', e = .returned (.tuple #[v', .int .i64 0]) ∧ PairS W.heap.size w' v' (shL A (n % P))) ∧ Below W.heap.size W w') := fun W h => by
        have z := rumove va A hA (n % P) (by unfold I64; omega) W h
        rw [M1] at z
        exact z
      have HO : Hid (∀ W v, ∀ {b1 : Nat}, PairS b1 W v (shL A (n % P)) → Calls Try.prog 20 #[.int .i64 P, v] W fun e w' => (∃ v', e = .returned (.tuple #[.agg #[.int .i64 (ofR P (shL A (n % P))).1.1, v'], .int .i64 (ofR P (shL A (n % P))).2]) ∧ PairS W.heap.size w' v' (ofR P (shL A (n % P))).1.2) ∧ Below W.heap.size W w') := fun W v _ h => upof v P (shL A (n % P)) (by rw [sh_len]; exact hA) hP W h
      clear p s1 pv q M1 M2 hA
      generalize ofR P (shL A (n % P)) = RR at *
      generalize shL A (n % P) = SL at *
      generalize n % P = m at *
      go_enter Try.func30, Try.ntmps30
      go_wp2_with fail
      refine HV.out.mono ?_
      rintro e w6 ⟨rfl, hb⟩
      have A6 := Lib.hid (down A1.out hb)
      replace TA := Lib.hid (TA.out.keep hb)
      replace TR := Lib.hid (TR.out.keep hb)
      replace a2 := Lib.hid (a2.out.keep hb)
      clear hb A1 HV t0 t1 tl
      obtain ⟨t0, t1, tl⟩ := TA.out
      go_wp2_with fail
      refine (HI.out _).mono ?_
      rintro e w6 ⟨rfl, rfl⟩
      have mk : ∀ W', Below w6.heap.size w6 W' → Below w6.heap.size w6 W' ∧ W'.cell? ⟨w.heap.size, 0, none⟩ = some (.int .i64 P) ∧ W'.cell? ⟨w.heap.size, 1, none⟩ = some va := fun W' q => ⟨q, (TA.out.keep q).c0, (TA.out.keep q).c1⟩
      have s6 := mk w6 (here w6)
      have PA : Hid (∀ W', Below w6.heap.size w6 W' → PairS ba W' va A) := fun W' q => a2.out.keep q
      clear TA t0 t1 tl a2 HI
      go_wp2
      go_region_held3 (fun W' => Below w6.heap.size w6 W' ∧ W'.cell? ⟨w.heap.size, 0, none⟩ = some (.int .i64 P) ∧ W'.cell? ⟨w.heap.size, 1, none⟩ = some va) (first | assumption | (exact mk _ (grow (And.left (by assumption)) _)) | (exact mk _ (Below.drew (And.left (by assumption)))) | (exact mk _ (below_drewN (And.left (by assumption)) _)))
        (first
         | (go_at_call 50; (with_reducible refine (HM.out _).mono ?_); rintro e w' ⟨rfl, d, rfl⟩; have hS := mk _ (below_drewN (And.left (by assumption)) d))
         | (go_at_call 70; (with_reducible refine (HN.out _ (PA.out _ (And.left (by assumption)))).mono ?_); rintro e w' ⟨⟨v8, rfl, P8⟩, hb⟩; obtain ⟨o8, c8, rfl⟩ := Sl.shape P8; have hS := mk w' (down (And.left (by assumption)) hb)))
      have B7 := Lib.hid (down A6.out hS.1)
      replace TR := Lib.hid (TR.out.keep hS.1)
      obtain ⟨-, t0, t1⟩ := hS
      have sz9 := B7.out.size
      have tr9 := TR.out.t.lt
      have HO2 := Lib.hid (HO.out _ _ P8)
      clear P8 HM HN HO mk s6 PA A6
      go_wp2_with fail
      refine HO2.out.mono ?_
      rintro e w10 ⟨⟨v10, rfl, P10⟩, hb⟩
      have B9 := Lib.hid (down B7.out hb)
      replace TR := Lib.hid (TR.out.keep hb)
      obtain ⟨o10, c10, rfl⟩ := Sl.shape P10
      replace P10 := Lib.hid P10
      clear HO2 hb B7 t0 t1
      have FI : Hid (Two ((w10.setCell ⟨w.heap.size + 1, 0, none⟩ (.int .i64 RR.1.1)).setCell ⟨w.heap.size + 1, 1, none⟩ (.slice o10 RR.1.2.length c10)) (w.heap.size + 1) (.int .i64 RR.1.1) (.slice o10 RR.1.2.length c10) ∧ Below w.heap.size w ((w10.setCell ⟨w.heap.size + 1, 0, none⟩ (.int .i64 RR.1.1)).setCell ⟨w.heap.size + 1, 1, none⟩ (.slice o10 RR.1.2.length c10)) ∧ PairS w.heap.size ((w10.setCell ⟨w.heap.size + 1, 0, none⟩ (.int .i64 RR.1.1)).setCell ⟨w.heap.size + 1, 1, none⟩ (.slice o10 RR.1.2.length c10)) (.slice o10 RR.1.2.length c10) RR.1.2) :=
        ⟨TR.out.put _ _, (B9.out.setCell (p := ⟨w.heap.size + 1, 0, none⟩) (by show w.heap.size ≤ w.heap.size + 1; omega) _).setCell (p := ⟨w.heap.size + 1, 1, none⟩) (by show w.heap.size ≤ w.heap.size + 1; omega) _, Sl.weak (Sl.far (Sl.far P10.out tr9 _) tr9 _) sz9⟩
      obtain ⟨⟨ri0, ri1, ri2⟩, rf0, rf1⟩ := TR.out
      go_wp2
      have q0 := FI.out.1.c0
      have q1 := FI.out.1.c1
      generalize (w10.setCell ⟨w.heap.size + 1, 0, none⟩ (.int .i64 RR.1.1)).setCell ⟨w.heap.size + 1, 1, none⟩ (.slice o10 RR.1.2.length c10) = w13 at *
      refine bodyPost_ret (v := .tuple #[.agg #[.int .i64 RR.1.1, .slice o10 RR.1.2.length c10], .int .i64 RR.2]) (by simp [results, Try.results30, go_sem, q0, q1]) rfl ?_
      rw [r.out]
      exact ⟨⟨_, rfl, FI.out.2.2⟩, FI.out.2.1⟩
end Go.Proofs.Ytaikeclfmmnelaa
