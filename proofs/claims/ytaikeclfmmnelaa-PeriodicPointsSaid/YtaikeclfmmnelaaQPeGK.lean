/- Contracts of civiltimeref13: Of. -/
import Derived.Test.YtaikeclfmmnelaaQPeGE
import Derived.Test.YtaikeclfmmnelaaQGH
import Derived.Deep.RegionWith
namespace Go.Proofs.Ytaikeclfmmnelaa

open Go.RowKit

set_option linter.unusedVariables false

theorem emod_twice (x P : Int) : (x % P) % P = x % P := Int.emod_emod_of_dvd x (Int.dvd_refl P)
def gO (P : Int) (p : Sp) (x : Int) : Bool := decide ((x - p.1) % P < p.2 - p.1)
theorem gO_per (P : Int) (p : Sp) : Per (gO P p) P := fun x => by
  unfold gO
  rw [show x + P - p.1 = x - p.1 + P by omega, Int.add_emod_right]
theorem ofT_snoc {P : Int} {A : List Sp} {k : Nat} (hk : k < A.length) (x : Int) : ofB P (A.take (k + 1)) x = (ofB P (A.take k) x || gO P (A.getD k (0, 0)) x) := by
  rw [tak_snoc A hk]
  unfold ofB gO
  rw [List.any_append]
  simp
theorem one_whole {P : Int} {p : Sp} (P0 : 0 < P) (h : P ≤ p.2 - p.1) : [(0, P)] = caL (gO P p) 0 P := by
  refine ca_eq (show Cn [(0, P)] from ⟨P0, fun q hq => (by cases hq), trivial⟩) fun x => ?_
  have m1 := Int.emod_lt_of_pos (x - p.1) P0
  have : gO P p x = true := decide_eq_true (by omega)
  rw [this, inB_one, Bool.and_true]
theorem one_part {P d a : Int} (P0 : 0 < P) (d0 : 0 < d) (h : d < P) : roL P (a % P) [(0, d)] = caL (gO P (a, a + d)) 0 P := by
  have ip : InP P [(0, d)] := fun q hq => by rw [List.mem_singleton.1 hq]; exact ⟨Int.le_refl _, Int.le_of_lt h⟩
  rw [ro_eq P0 (show Cn [(0, d)] from ⟨d0, fun q hq => (by cases hq), trivial⟩) ip]
  refine ca_congr fun x x0 x1 => ?_
  show inB [(0, d)] ((x - a % P) % P) = decide ((x - a) % P < a + d - a)
  have e : (x - a % P) % P = (x - a) % P := by
    have := Int.emod_add_mul_ediv a P
    rw [show x - a = x - a % P + P * (-(a / P)) by rw [Int.mul_neg]; omega, Int.add_mul_emod_self_left]
  rw [e, inB_one]
  have m0 := Int.emod_nonneg (x - a) (show P ≠ 0 by omega)
  rw [decide_eq_true m0, Bool.true_and]
  exact decide_eq_decide.2 (by show _ < d ↔ _; omega)
theorem of_step {P : Int} {A : List Sp} {k : Nat} (P0 : 0 < P) (hk : k < A.length) : cbL 1 (caL (ofB P (A.take k)) 0 P) (caL (gO P (A.getD k (0, 0))) 0 P) = caL (ofB P (A.take (k + 1))) 0 P := by
  rw [cb_ca P0 (ca_inp _ _) (ca_inp _ _)]
  refine ca_congr fun x x0 x1 => ?_
  rw [ca_hs P0 (of_per P _), ca_hs P0 (gO_per P _), ofT_snoc hk]
  unfold kpB
  rw [if_pos rfl]
theorem ga_none (P : Int) : caL (ofB P []) 0 P = [] := (ca_eq (show Cn [] from trivial) fun x => by rw [inB_nil]; show _ = (_ && (([] : List Sp).any _)); simp).symm
set_option maxRecDepth 100000 in
set_option maxHeartbeats 4000000 in
theorem rpof (va : Value) (P : Int) (A : List Sp) (hA : A.length ≤ maxLen) (hP : I64 P) {ba : Nat} (w : World) (a : PairS ba w va A) :
    Calls Try.prog 21 #[.int .i64 P, va] w fun e w' => (∃ v', e = .returned (.tuple #[.agg #[.int .i64 (ofR P A).1.1, v'], .int .i64 (ofR P A).2]) ∧ PairS w.heap.size w' v' (ofR P A).1.2) ∧ Below w.heap.size w w' := by
  obtain ⟨i0, hi, hz0, hz1, hz2⟩ := info_parts infoS
  have mx : A.length ≤ 9223372036854775807 := by unfold maxLen at hA; omega
  have A1 := Lib.hid (grow (here w) (.cells #[.int .i64 0, .slice none 0 0] 24))
  have TR := Lib.hid (Tuo.new w (.int .i64 0) (.slice none 0 0) 24)
  have a2 := Lib.hid (a.keep A1.out)
  clear a
  by_cases l0 : P < 1
  · have r : Hid (ofR P A = ((0, []), 1)) := by show _ = _; unfold ofR; rw [decide_eq_false (show ¬ 1 ≤ P by omega)]; rfl
    have k0 := decide_eq_true l0
    clear l0
    go_enter Try.func21, Try.ntmps21
    obtain ⟨⟨ri0, ri1, ri2⟩, rf0, rf1⟩ := TR.out
    go_wp2
    generalize (w.alloc (.cells #[.int .i64 0, .slice none 0 0] 24)) = w13 at *
    refine bodyPost_ret (v := .tuple #[.agg #[.int .i64 0, .slice none 0 0], .int .i64 1]) (by simp [results, Try.results21, go_sem, ri0, ri1]) rfl ?_
    rw [r.out]
    exact ⟨⟨_, rfl, Sl.none _ _⟩, A1.out⟩
  · have k0 := decide_eq_false l0
    by_cases l1 : 12622780800 < P
    · have r : Hid (ofR P A = ((0, []), 1)) := by show _ = _; unfold ofR; rw [decide_eq_false (show ¬ P ≤ 12622780800 by omega), Bool.and_false]; rfl
      have k1 := decide_eq_true l1
      clear l0 l1
      go_enter Try.func21, Try.ntmps21
      obtain ⟨⟨ri0, ri1, ri2⟩, rf0, rf1⟩ := TR.out
      go_wp2
      generalize (w.alloc (.cells #[.int .i64 0, .slice none 0 0] 24)) = w13 at *
      refine bodyPost_ret (v := .tuple #[.agg #[.int .i64 0, .slice none 0 0], .int .i64 1]) (by simp [results, Try.results21, go_sem, ri0, ri1]) rfl ?_
      rw [r.out]
      exact ⟨⟨_, rfl, Sl.none _ _⟩, A1.out⟩
    · have k1 := decide_eq_false l1
      have P0 : Hid (0 < P) := by show 0 < P; omega
      obtain ⟨o, c, rfl⟩ := prs_shape a2.out
      have pq : (decide (1 ≤ P) && decide (P ≤ 12622780800)) = true := by rw [decide_eq_true (show 1 ≤ P by omega), decide_eq_true (show P ≤ 12622780800 by omega)]; rfl
      have no : Hid (∀ j, j < A.length → spB (A.getD j (0, 0)) = false → ofR P A = ((0, []), 1)) := fun j hj e => by
        have : spsB A = false := by
          rw [← Bool.not_eq_true]; intro q
          rw [spsB_at.1 q j hj] at e; cases e
        unfold ofR; rw [this, Bool.and_false]; rfl
      have yes : Hid ((∀ j, j < A.length → spB (A.getD j (0, 0)) = true) → (2000 < A.length → ofR P A = ((0, []), 5)) ∧ (A.length ≤ 2000 → Hid (ofR P A = pfR P (ofB P A)) ∧ Hid (∀ j, j < A.length → -4398046511104 ≤ (A.getD j (0, 0)).1 ∧ (A.getD j (0, 0)).2 ≤ 4398046511104 ∧ (A.getD j (0, 0)).1 < (A.getD j (0, 0)).2) ∧ Hid (∀ (v : Value) (L : List Sp) (W : World) {b : Nat}, L = caL (ofB P A) 0 P → L.length ≤ 20000 → PairS b W v L → Calls Try.prog 45 #[.int .i64 P, v] W fun e w' => (∃ v', e = .returned (.agg #[.int .i64 (fmP P (ofB P A)).1, v']) ∧ PairS W.heap.size w' v' (fmP P (ofB P A)).2) ∧ Below W.heap.size W w') ∧ Hid ((caL (ofB P A) 0 P).length ≤ 20000 → ∀ (v : Value) (W : World) {b : Nat}, b ≤ W.heap.size → PairS b W v (fmP P (ofB P A)).2 → Calls Try.prog 61 #[.agg #[.int .i64 (fmP P (ofB P A)).1, v]] W fun e w' => (∃ v', e = .returned (.tuple #[.agg #[.int .i64 (pfR P (ofB P A)).1.1, v'], .int .i64 (pfR P (ofB P A)).2]) ∧ PairS b w' v' (pfR P (ofB P A)).1.2) ∧ Below W.heap.size W w'))) := fun h => by
        have q := spsB_at.2 h
        have e : ofR P A = if 2000 < A.length then ((0, []), 5) else pfR P (ofB P A) := by unfold ofR; rw [pq, q]; rfl
        rw [e]
        refine ⟨fun b => if_pos b, fun b => ⟨if_neg (by omega), fun j hj => ?_, fun v L W _ e1 l h1 => ?_, fun l v W _ hb h1 => ?_⟩⟩
        · have := spB_iff.1 (h j hj); omega
        · exact (lea_of P0.out (by omega) (of_per P A) (by rw [← e1]; exact l)).le v L W e1 l h1
        · exact (lea_of P0.out (by omega) (of_per P A) l).li v W hb h1
      obtain ⟨n, hn⟩ : ∃ n, A.length = n := ⟨_, rfl⟩
      rw [hn] at mx a2 no yes ⊢
      generalize ofR P A = OR at *
      clear pq hA
      go_enter Try.func21, Try.ntmps21
      go_wp2
      generalize (w.alloc (.cells #[.int .i64 0, .slice none 0 0] 24)) = w1 at *
      have L0 : Hid (Below w1.heap.size w1 w1) := here w1
      go_loopw [6] (fun i wr => ∃ k : Nat, k ≤ n ∧ i = .int .i64 k ∧ Hid (∀ j, j < k → spB (A.getD j (0, 0)) = true) ∧ Hid (Below w1.heap.size w1 wr)) (fun i _ => n - (intOf i).toNat)
      case atStart => exact ⟨0, Nat.zero_le _, rfl, fun j hj => absurd hj (Nat.not_lt_zero _), L0⟩
      case round =>
        obtain ⟨k, hk, rfl, HU, HA⟩ := hrel
        clear L0
        have PL := Lib.hid (a2.out.keep HA.out)
        by_cases z : k < n
        · have kz : decide ((k : Int) < (n : Int)) = true := decide_eq_true (by omega)
          obtain ⟨b, off, rfl, bl, cs⟩ := prs_here PL.out (show k < A.length by omega)
          obtain ⟨c0, c1⟩ := cs k (by omega)
          have HS := Lib.hid (fun w => rpspan (A.getD k (0, 0)).1 (A.getD k (0, 0)).2 w)
          have ev : ((A.getD k (0, 0)).1, (A.getD k (0, 0)).2) = A.getD k (0, 0) := rfl
          rw [ev] at HS
          clear cs ev
          obtain ⟨u, hu⟩ : ∃ u, spB (A.getD k (0, 0)) = u := ⟨_, rfl⟩
          rw [hu] at HS
          have no' := no.out k (by omega)
          rw [hu] at no'
          have HU2 : u = true → Hid (∀ j, j < k + 1 → spB (A.getD j (0, 0)) = true) := fun e j hj => by
            rcases Nat.lt_or_ge j k with y | y
            · exact HU.out j y
            · obtain rfl : j = k := by omega
              rw [hu]; exact e
          clear hu HU yes
          generalize A.getD k (0, 0) = q at *
          obtain ⟨x, y⟩ := q
          replace c0 : wr.cell? ⟨b, off + k * 2, none⟩ = some (.int .i64 x) := c0
          replace c1 : wr.cell? ⟨b, off + k * 2 + 1, none⟩ = some (.int .i64 y) := c1
          go_wp2_with fail
          refine (HS.out _).mono ?_
          rintro e w5 ⟨rfl, hb⟩
          have A5 := Lib.hid (down HA.out hb)
          clear hb HA c0 c1 bl PL
          cases u
          · have r := Lib.hid (no' rfl)
            replace TR := Lib.hid (TR.out.keep A5.out)
            have B9 := Lib.hid (down A1.out A5.out)
            clear no' HU2 A5 A1
            have FI : Hid (Two ((w5.setCell ⟨w.heap.size, 0, none⟩ (.int .i64 0)).setCell ⟨w.heap.size, 1, none⟩ (.slice none 0 0)) (w.heap.size) (.int .i64 0) (.slice none 0 0) ∧ Below w.heap.size w ((w5.setCell ⟨w.heap.size, 0, none⟩ (.int .i64 0)).setCell ⟨w.heap.size, 1, none⟩ (.slice none 0 0)) ∧ PairS w.heap.size ((w5.setCell ⟨w.heap.size, 0, none⟩ (.int .i64 0)).setCell ⟨w.heap.size, 1, none⟩ (.slice none 0 0)) (.slice none 0 0) []) :=
              ⟨TR.out.put _ _, (B9.out.setCell (p := ⟨w.heap.size, 0, none⟩) (by show w.heap.size ≤ w.heap.size; omega) _).setCell (p := ⟨w.heap.size, 1, none⟩) (by show w.heap.size ≤ w.heap.size; omega) _, Sl.none _ _⟩
            obtain ⟨⟨ri0, ri1, ri2⟩, rf0, rf1⟩ := TR.out
            go_wp2
            have q0 := FI.out.1.c0
            have q1 := FI.out.1.c1
            generalize (w5.setCell ⟨w.heap.size, 0, none⟩ (.int .i64 0)).setCell ⟨w.heap.size, 1, none⟩ (.slice none 0 0) = w13 at *
            refine bodyPost_ret (v := .tuple #[.agg #[.int .i64 0, .slice none 0 0], .int .i64 1]) (by simp [results, Try.results21, go_sem, q0, q1]) rfl ?_
            rw [r.out]
            exact ⟨⟨_, rfl, FI.out.2.2⟩, FI.out.2.1⟩
          · have HU3 := HU2 rfl
            clear no' HU2
            go_wp2
            go_roundw
            case rel => exact ⟨k + 1, by omega, by first | rfl | go_num, HU3, A5⟩
            case measure => simp [intOf]; omega
        · have kz : decide ((k : Int) < (n : Int)) = false := decide_eq_false (by omega)
          obtain rfl : k = n := by omega
          have YE := yes.out HU.out
          replace TR := Lib.hid (TR.out.keep HA.out)
          replace A1 := Lib.hid (down A1.out HA.out)
          replace a2 := PL
          clear PL HU yes no HA
          generalize wr = w1 at *
          by_cases big : 2000 < k
          · have kb : decide (2000 < (k : Int)) = true := decide_eq_true (by omega)
            have r := Lib.hid (YE.1 big)
            have B9 := A1
            clear YE A1
            have FI : Hid (Two ((w1.setCell ⟨w.heap.size, 0, none⟩ (.int .i64 0)).setCell ⟨w.heap.size, 1, none⟩ (.slice none 0 0)) (w.heap.size) (.int .i64 0) (.slice none 0 0) ∧ Below w.heap.size w ((w1.setCell ⟨w.heap.size, 0, none⟩ (.int .i64 0)).setCell ⟨w.heap.size, 1, none⟩ (.slice none 0 0)) ∧ PairS w.heap.size ((w1.setCell ⟨w.heap.size, 0, none⟩ (.int .i64 0)).setCell ⟨w.heap.size, 1, none⟩ (.slice none 0 0)) (.slice none 0 0) []) :=
              ⟨TR.out.put _ _, (B9.out.setCell (p := ⟨w.heap.size, 0, none⟩) (by show w.heap.size ≤ w.heap.size; omega) _).setCell (p := ⟨w.heap.size, 1, none⟩) (by show w.heap.size ≤ w.heap.size; omega) _, Sl.none _ _⟩
            obtain ⟨⟨ri0, ri1, ri2⟩, rf0, rf1⟩ := TR.out
            go_wp2
            have q0 := FI.out.1.c0
            have q1 := FI.out.1.c1
            generalize (w1.setCell ⟨w.heap.size, 0, none⟩ (.int .i64 0)).setCell ⟨w.heap.size, 1, none⟩ (.slice none 0 0) = w13 at *
            refine bodyPost_ret (v := .tuple #[.agg #[.int .i64 0, .slice none 0 0], .int .i64 5]) (by simp [results, Try.results21, go_sem, q0, q1]) rfl ?_
            rw [r.out]
            exact ⟨⟨_, rfl, FI.out.2.2⟩, FI.out.2.1⟩
          · have kb : decide (2000 < (k : Int)) = false := decide_eq_false (by omega)
            obtain ⟨r, sps', LE0, LI0⟩ := YE.2 (by omega)
            obtain ⟨n, hk'⟩ : ∃ n, n = k := ⟨_, rfl⟩
            subst hk'
            clear YE hk z kz
            have T1 := TR
            have L1 := Lib.hid (here w1)
            have S1 : Hid ([] = caL (ofB P (A.take 0)) 0 P) := (ga_none P).symm
            have N1 : Hid (PairS 0 w1 (.slice none 0 0) []) := Sl.none _ _
            generalize pfR P (ofB P A) = RR at *
            generalize fmP P (ofB P A) = FM at *
            clear kb
            go_wp2
            go_loopw [7, 8] (fun v i wr => ∃ (k : Nat) (v' : Value) (R : List Sp), v' = v ∧ k ≤ n ∧ i = .int .i64 k ∧ R.length ≤ 4 * k ∧ Hid (R = caL (ofB P (A.take k)) 0 P) ∧ Hid (PairS 0 wr v R) ∧ Hid (Below w1.heap.size w1 wr)) (fun _ i _ => n - (intOf i).toNat)
            case atStart => exact ⟨0, _, [], rfl, Nat.zero_le _, rfl, Nat.le_refl _, S1, N1, L1⟩
            case round =>
              obtain ⟨k, v', R, rfl, hk, rfl, rl, SI, PR, BI⟩ := hrel
              clear S1 N1 L1
              have PL := Lib.hid (a2.out.keep BI.out)
              by_cases z : k < n
              · have kz : decide ((k : Int) < (n : Int)) = true := decide_eq_true (by omega)
                obtain ⟨b, off, rfl, bl, cs⟩ := prs_here PL.out (show k < A.length by omega)
                obtain ⟨c0, c1⟩ := cs k (by omega)
                have OST := Lib.hid (of_step P0.out (show k < A.length by omega))
                have sp := sps'.out k (by omega)
                obtain ⟨k1, hk1⟩ : ∃ k1, k + 1 = k1 := ⟨_, rfl⟩
                clear cs
                generalize A.getD k (0, 0) = q at *
                obtain ⟨x, y⟩ := q
                replace c0 : wr.cell? ⟨b, off + k * 2, none⟩ = some (.int .i64 x) := c0
                replace c1 : wr.cell? ⟨b, off + k * 2 + 1, none⟩ = some (.int .i64 y) := c1
                replace sp : -4398046511104 ≤ x ∧ y ≤ 4398046511104 ∧ x < y := sp
                obtain ⟨D, hD⟩ : ∃ D, y - x = D := ⟨_, rfl⟩
                have db : 0 < D ∧ D ≤ 8796093022208 := by omega
                have LS : Hid (∀ W v1 v2 ONE, Cn ONE → ONE.length ≤ 4 → PairS 0 W v1 R → PairS 0 W v2 ONE → Calls Try.prog 60 #[v1, v2, .int .i64 0] W fun e w' => (∃ v', e = .returned v' ∧ PairS W.heap.size w' v' (cbL 1 R ONE)) ∧ Below W.heap.size W w') := fun W v1 v2 ONE oc ol h1 h2 => rplists v1 v2 R ONE (by omega) (by omega) (by rw [SI.out]; exact ca_cn _ _ _) oc 0 (by omega) (by omega) W h1 h2
                go_wp2
                go_quiet (fail)
                obtain ⟨w5, hw5⟩ : ∃ w5 : World, (wr.alloc (.cells #[.int .i64 0, .int .i64 P] 37)).drewN nq = w5 := ⟨_, rfl⟩
                rw [hw5]
                have W5 : Below wr.heap.size wr w5 := by rw [← hw5]; exact below_drewN (grow (here wr) _) _
                have A5 := Lib.hid (down BI.out W5)
                have P5 := Lib.hid (PR.out.keep W5)
                have PL5 := Lib.hid (PL.out.keep W5)
                have OL : Hid (PairS 0 w5 (.slice (some ⟨wr.heap.size, 0, none⟩) 1 1) [(0, P)]) := by show PairS _ _ _ _; rw [← hw5]; exact (prs_lit1 wr 0 P).keep (below_drewN (here _) _)
                have bl5 : b < w5.heap.size := Nat.lt_of_lt_of_le bl W5.size
                have c05 : w5.cell? ⟨b, off + k * 2, none⟩ = some (.int .i64 x) := by rw [W5.cell (p := ⟨b, off + k * 2, none⟩) bl]; exact c0
                have c15 : w5.cell? ⟨b, off + k * 2 + 1, none⟩ = some (.int .i64 y) := by rw [W5.cell (p := ⟨b, off + k * 2 + 1, none⟩) bl]; exact c1
                clear hw5 W5 c0 c1 bl PL PR BI
                by_cases dp : D < P
                · have kd : decide (D < P) = true := decide_eq_true dp
                  have E1 : roL P (x % P) [(0, D)] = caL (gO P (x, y)) 0 P := by rw [one_part P0.out db.1 dp, show x + D = y by omega]
                  have cnD : Cn [(0, D)] := ⟨db.1, fun q hq => (by cases hq), trivial⟩
                  have ipD : InP P [(0, D)] := fun q hq => by rw [List.mem_singleton.1 hq]; exact ⟨Int.le_refl _, Int.le_of_lt dp⟩
                  have ON1 : Hid (Cn (roL P (x % P) [(0, D)])) := by show Cn _; rw [E1]; exact ca_cn _ _ _
                  have ON2 : Hid ((roL P (x % P) [(0, D)]).length ≤ 4) := by show _ ≤ 4; exact ro_len P0.out cnD ipD (x % P)
                  have ON3 : Hid (cbL 1 R (roL P (x % P) [(0, D)]) = caL (ofB P (A.take k1)) 0 P) := by show _ = _; rw [E1, SI.out, ← hk1]; exact OST.out
                  have ON4 : Hid ((cbL 1 R (roL P (x % P) [(0, D)])).length ≤ 4 * k1) := by
                    show _ ≤ _
                    have := len_cb (k := 1) (by omega) (by omega) P0.out (A := R) (B := (roL P (x % P) [(0, D)])) (by rw [SI.out]; exact ca_cn _ _ _) ON1.out (by rw [SI.out]; exact ca_inp _ _) (by rw [E1]; exact ca_inp _ _)
                    have := ON2.out
                    omega
                  have HM := Lib.hid (fun w => (refmod_all x P (by omega) (by omega) (by omega) (by omega) w).mono (fun e w' h => (⟨h.1, by obtain ⟨d, hd⟩ := h.2; rw [hd]; exact below_drewN (here w) d⟩ : e = _ ∧ Below w.heap.size w w')))
                  rw [dR_pos P0.out] at HM
                  have m0 := Int.emod_nonneg x (show P ≠ 0 by omega)
                  have m1 := Int.emod_lt_of_pos x P0.out
                  have RO' : Hid (∀ W v1, PairS 0 W v1 [(0, D)] → Calls Try.prog 59 #[v1, .int .i64 P, .int .i64 (x % P)] W fun e w' => (∃ v', e = .returned v' ∧ PairS 0 w' v' (roL P (x % P) [(0, D)])) ∧ Below W.heap.size W w') := fun W v1 h => (rprotated v1 P [(0, D)] (x % P) (by simp) cnD ipD P0.out (by omega) ⟨by omega, by omega⟩ W h).mono (by rintro e w' ⟨⟨v', e1, h1, -⟩, hb⟩; exact ⟨⟨v', e1, h1⟩, hb⟩)
                  generalize roL P (x % P) [(0, D)] = OO at *
                  obtain ⟨a0, ha0⟩ : ∃ a0, x % P = a0 := ⟨_, rfl⟩
                  rw [ha0] at HM m0 m1 RO'
                  clear ha0 E1 cnD ipD OL
                  go_wp2_with fail
                  refine (HM.out _).mono ?_
                  rintro e w6 ⟨rfl, hb⟩
                  have A6 := Lib.hid (down A5.out hb)
                  have P6 := Lib.hid (P5.out.keep hb)
                  have d0 : w6.cell? ⟨b, off + k * 2, none⟩ = some (.int .i64 x) := by rw [hb.cell (p := ⟨b, off + k * 2, none⟩) bl5]; exact c05
                  have d1 : w6.cell? ⟨b, off + k * 2 + 1, none⟩ = some (.int .i64 y) := by rw [hb.cell (p := ⟨b, off + k * 2 + 1, none⟩) bl5]; exact c15
                  have bl6 : b < w6.heap.size := Nat.lt_of_lt_of_le bl5 hb.size
                  clear hb HM A5 P5 PL5 c05 c15 bl5
                  have wD : IntKind.i64.wrap D = D := by rw [IntKind.wrap_i64]; omega
                  go_wp2
                  go_region_with (go_at_call 59; (with_reducible refine (RO'.out _ _ ((prs_lit1 w6 0 D).keep (Below.drew (here _)))).mono ?_); rintro e w7 ⟨⟨v7, rfl, P7⟩, hb⟩; have hB7 := Lib.hid (down (Below.drew (grow (here w6) _)) hb); have OS := Lib.hid P7; clear hb P7)
                  all_goals
                    have A7 := Lib.hid (down A6.out hB7.out)
                    have RO := Lib.hid (P6.out.keep hB7.out)
                    clear hB7 A6 P6 d0 d1 bl6
                    go_wp2_with fail
                    refine (LS.out _ _ _ _ ON1.out ON2.out RO.out OS.out).mono ?_
                    rintro e w8 ⟨⟨v8, rfl, P8⟩, hb⟩
                    have A8 := Lib.hid (down A7.out hb)
                    replace P8 : Hid (PairS 0 w8 v8 _) := P8.weak (Nat.zero_le _)
                    clear hb
                    go_wp2
                    go_roundw
                    case rel => exact ⟨k1, _, _, rfl, by omega, by first | rfl | go_num, ON4.out, ON3, P8, A8⟩
                    case measure => simp [intOf]; omega
                · have kd : decide (D < P) = false := decide_eq_false dp
                  have E1 : [(0, P)] = caL (gO P (x, y)) 0 P := one_whole P0.out (by show P ≤ y - x; omega)
                  have ON1 : Hid (Cn [(0, P)]) := by show Cn _; rw [E1]; exact ca_cn _ _ _
                  have ON2 : Hid ([(0, P)].length ≤ 4) := by show _ ≤ 4; simp
                  have ON3 : Hid (cbL 1 R [(0, P)] = caL (ofB P (A.take k1)) 0 P) := by show _ = _; rw [E1, SI.out, ← hk1]; exact OST.out
                  have ON4 : Hid ((cbL 1 R [(0, P)]).length ≤ 4 * k1) := by
                    show _ ≤ _
                    have := len_cb (k := 1) (by omega) (by omega) P0.out (A := R) (B := [(0, P)]) (by rw [SI.out]; exact ca_cn _ _ _) ON1.out (by rw [SI.out]; exact ca_inp _ _) (by rw [E1]; exact ca_inp _ _)
                    have := ON2.out
                    omega
                  have OS := OL
                  have RO := P5
                  have A7 := A5
                  clear OL P5 A5 E1 PL5
                  go_wp2_with fail
                  refine (LS.out _ _ _ _ ON1.out ON2.out RO.out OS.out).mono ?_
                  rintro e w8 ⟨⟨v8, rfl, P8⟩, hb⟩
                  have A8 := Lib.hid (down A7.out hb)
                  replace P8 : Hid (PairS 0 w8 v8 _) := P8.weak (Nat.zero_le _)
                  clear hb
                  go_wp2
                  go_roundw
                  case rel => exact ⟨k1, _, _, rfl, by omega, by first | rfl | go_num, ON4.out, ON3, P8, A8⟩
                  case measure => simp [intOf]; omega
              · have kz : decide ((k : Int) < (n : Int)) = false := decide_eq_false (by omega)
                obtain rfl : k = n := by omega
                have RE : R = caL (ofB P A) 0 P := by rw [SI.out, List.take_of_length_le (by omega)]
                replace TR := Lib.hid (TR.out.keep BI.out)
                have sz := TR.out.t.lt
                have A6 := Lib.hid (down A1.out BI.out)
                have LE := Lib.hid (LE0.out v' R wr RE (by omega) PR.out)
                have LL9 : (caL (ofB P A) 0 P).length ≤ 20000 := by rw [← RE]; omega
                clear T1 RE SI PR BI sps'
                go_wp2_with fail
                refine LE.out.mono ?_
                rintro e w8 ⟨⟨v8, rfl, P8⟩, hb⟩
                have A8 := Lib.hid (down A6.out hb)
                replace TR := Lib.hid (TR.out.keep hb)
                have s8 := hb.size
                have s6 := A6.out.size
                clear hb A6 LE
                go_wp2_with fail
                refine (LI0.out LL9 v8 w8 s8 P8).mono ?_
                rintro e w9 ⟨⟨v9, rfl, P9⟩, hb⟩
                obtain ⟨o9, c9, rfl⟩ := Sl.shape P9
                have B9 := Lib.hid (down A8.out hb)
                replace TR := Lib.hid (TR.out.keep hb)
                have P99 : PairS (w.heap.size + 1) w9 (.slice o9 RR.1.2.length c9) RR.1.2 := P9.weak (by omega)
                clear hb A8 P8 P9
                have FI : Hid (Two ((w9.setCell ⟨w.heap.size, 0, none⟩ (.int .i64 RR.1.1)).setCell ⟨w.heap.size, 1, none⟩ (.slice o9 RR.1.2.length c9)) (w.heap.size) (.int .i64 RR.1.1) (.slice o9 RR.1.2.length c9) ∧ Below w.heap.size w ((w9.setCell ⟨w.heap.size, 0, none⟩ (.int .i64 RR.1.1)).setCell ⟨w.heap.size, 1, none⟩ (.slice o9 RR.1.2.length c9)) ∧ PairS w.heap.size ((w9.setCell ⟨w.heap.size, 0, none⟩ (.int .i64 RR.1.1)).setCell ⟨w.heap.size, 1, none⟩ (.slice o9 RR.1.2.length c9)) (.slice o9 RR.1.2.length c9) RR.1.2) :=
                  ⟨TR.out.put _ _, (B9.out.setCell (p := ⟨w.heap.size, 0, none⟩) (by show w.heap.size ≤ w.heap.size; omega) _).setCell (p := ⟨w.heap.size, 1, none⟩) (by show w.heap.size ≤ w.heap.size; omega) _, Sl.weak (Sl.far (Sl.far P99 (Nat.lt_succ_self _) _) (Nat.lt_succ_self _) _) (Nat.le_succ _)⟩
                obtain ⟨⟨ri0, ri1, ri2⟩, rf0, rf1⟩ := TR.out
                go_wp2
                have q0 := FI.out.1.c0
                have q1 := FI.out.1.c1
                generalize (w9.setCell ⟨w.heap.size, 0, none⟩ (.int .i64 RR.1.1)).setCell ⟨w.heap.size, 1, none⟩ (.slice o9 RR.1.2.length c9) = w13 at *
                refine bodyPost_ret (v := .tuple #[.agg #[.int .i64 RR.1.1, .slice o9 RR.1.2.length c9], .int .i64 RR.2]) (by simp [results, Try.results21, go_sem, q0, q1]) rfl ?_
                rw [r.out]
                exact ⟨⟨_, rfl, FI.out.2.2⟩, FI.out.2.1⟩
end Go.Proofs.Ytaikeclfmmnelaa
