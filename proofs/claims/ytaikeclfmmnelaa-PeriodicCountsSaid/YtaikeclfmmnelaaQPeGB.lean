/- Contracts of civiltimeref13: Least. -/
import Derived.Test.YtaikeclfmmnelaaQPeGA
import Derived.Test.YtaikeclfmmnelaaQGB
namespace Go.Proofs.Ytaikeclfmmnelaa

open Go.RowKit

set_option linter.unusedVariables false

theorem root_bound {q P : Int} (q1 : 1 ≤ q) (P1 : P ≤ 12622780800) (h : q * q ≤ P) : q ≤ 112351 := by
  rcases Int.lt_or_le 112351 q with z | z
  · exfalso
    have := Int.mul_le_mul (show (112352 : Int) ≤ q by omega) (show (112352 : Int) ≤ q by omega) (by omega) (by omega)
    omega
  · exact z
theorem root_less {e q P : Int} (e0 : 0 < e) (q0 : 0 < q) (h : P < q * q) (he : e * e ≤ P) : e < q := by
  rcases Int.lt_or_le e q with z | z
  · exact z
  · exfalso
    have := Int.mul_le_mul z z (by omega) (by omega)
    omega
theorem ro_len {P : Int} {L : List Sp} (P0 : 0 < P) (c : Cn L) (i : InP P L) (n : Int) : (roL P n L).length ≤ 4 * L.length := by
  unfold roL
  split
  · omega
  · have := (cb_spec 1 (loL P (n % P) L) (hiL P (n % P) L)).2.2.2
    have a := lo_len P (n % P) L
    have b := hi_len P (n % P) L
    omega
set_option maxRecDepth 100000 in
set_option maxHeartbeats 2000000 in
theorem rpleast (v : Value) (P : Int) (L : List Sp) (hL : L.length ≤ 20000) (cn : Cn L) (ip : InP P L) (P0 : 0 < P) (P1 : P ≤ 12622780800) {ba : Nat} (w : World) (h : PairS ba w v L) :
    Calls Try.prog 45 #[.int .i64 P, v] w fun e w' => (∃ v', e = .returned (.agg #[.int .i64 (leF P (hsP P L)), v']) ∧ PairS w.heap.size w' v' (caL (hsP P L) 0 (leF P (hsP P L)))) ∧ Below w.heap.size w w' := by
  have TR := Lib.hid (Tuo.new w (.int .i64 0) (.slice none 0 0) 24)
  have A1 := Lib.hid (grow (here w) (.cells #[.int .i64 0, .slice none 0 0] 24))
  have HR : Hid (∀ (n : Int), I64 n → ∀ W, PairS ba W v L → Calls Try.prog 59 #[v, .int .i64 P, .int .i64 n] W fun e w' => (∃ v', e = .returned v' ∧ PairS 0 w' v' (roL P n L)) ∧ Below W.heap.size W w') := fun n hn W h => (rprotated v P L n hL cn ip P0 P1 hn W h).mono (by rintro e w' ⟨⟨v', a, b, -⟩, hb⟩; exact ⟨⟨v', a, b⟩, hb⟩)
  have HS : Hid (∀ (n : Int) u W, ∀ {b1 : Nat}, PairS b1 W u (roL P n L) → PairS ba W v L → Calls Try.prog 52 #[u, v] W fun e w' => e = .returned (.bool (decide (roL P n L = L))) ∧ Below W.heap.size W w') := fun n u W _ h1 h2 => rpsame u v _ L (by unfold maxLen; have := ro_len P0 cn ip n; omega) (by unfold maxLen; omega) W h1 h2
  have HC : Hid (∀ (d : Int) W, PairS ba W v L → Calls Try.prog 76 #[.int .i64 d, v] W fun e w' => (∃ v', e = .returned (.agg #[.int .i64 d, v']) ∧ PairS W.heap.size w' v' (cuL d L)) ∧ Below W.heap.size W w') := fun d W h => (rpcut v d L (by omega) W h).mono (by rintro e w' ⟨⟨v', a, b⟩, hb⟩; exact ⟨⟨v', a, Sl.owns b⟩, hb⟩)
  have SM : Hid (∀ n, (roL P n L = L) ↔ Per (hsP P L) n) := fun n => ro_same P0 cn ip n
  have CU : Hid (∀ d, d ≤ P → cuL d L = caL (hsP P L) 0 d) := fun d hd => cu_eq cn ip hd
  have per : Hid (Per (hsP P L) P) := hs_per
  have W0 := Lib.hid (h.keep A1.out)
  clear h cn ip
  generalize hsP P L = f at *
  have N0 : Hid (∀ e, 0 < e → e < 1 → e ∣ P → ¬ Per f e) := fun e a b => by omega
  go_enter Try.func45, Try.ntmps45
  go_wp2
  go_loopw [5] (fun i wr => ∃ q : Int, 1 ≤ q ∧ q ≤ 112352 ∧ i = .int .i64 q ∧ Hid (∀ e, 0 < e → e < q → e ∣ P → ¬ Per f e) ∧ Hid (Below w.heap.size w wr) ∧ Hid (Tuo wr w.heap.size (.int .i64 0) (.slice none 0 0)) ∧ Hid (PairS ba wr v L)) (fun i _ => (112352 - intOf i).toNat)
  case atStart => exact ⟨1, Int.le_refl _, by omega, rfl, N0, A1, TR, W0⟩
  case round =>
    obtain ⟨q, q1, q2, rfl, NO, BW, TW, WP⟩ := hrel
    clear A1 TR W0 N0
    obtain ⟨qq, hqq⟩ : ∃ z, q * q = z := ⟨_, rfl⟩
    have qq0 : 0 ≤ qq := by rw [← hqq]; exact Int.mul_nonneg (by omega) (by omega)
    have qq1 : qq ≤ 12622971904 := by
      have := Int.mul_le_mul q2 q2 (by omega) (by omega); omega
    by_cases z : qq ≤ P
    · have kz : decide (qq ≤ P) = true := decide_eq_true z
      have q3 := root_bound q1 P1 (show q * q ≤ P by omega)
      have nq0 : ¬ (q = 0) := by omega
      obtain ⟨r1, e1⟩ : ∃ r, P.tmod q = r := ⟨_, rfl⟩
      have f1 : r1 = P % q := by rw [← e1, Int.tmod_eq_emod_of_nonneg (by omega)]
      have NEXT : ¬ (q ∣ P ∧ Per f q) → Hid (∀ e, 0 < e → e < q + 1 → e ∣ P → ¬ Per f e) := fun n e a b c d => by
        rcases Int.lt_or_eq_of_le (show e ≤ q by omega) with y | y
        · exact NO.out e a y c d
        · subst y; exact n ⟨c, d⟩
      by_cases y : P % q = 0
      · have ke : (r1 == 0) = true := by rw [f1, y]; rfl
        have dv : q ∣ P := Int.dvd_of_emod_eq_zero y
        have qP := Int.le_of_dvd P0 dv
        have HR2 := Lib.hid (HR.out q (by unfold I64; omega) _ WP.out)
        clear y
        go_wp2_with fail
        refine HR2.out.mono ?_
        rintro e w3 ⟨⟨u, rfl, PU⟩, hb⟩
        replace BW := Lib.hid (down BW.out hb)
        replace TW := Lib.hid (TW.out.keep hb)
        replace WP := Lib.hid (WP.out.keep hb)
        have HS2 := Lib.hid (HS.out q u w3 PU WP.out)
        clear HR2 hb PU
        by_cases pr : Per f q
        · have kp : decide (roL P q L = L) = true := decide_eq_true ((SM.out q).2 pr)
          rw [kp] at HS2
          have le : leF P f = q := le_eq (le_up (by omega) dv pr NO.out)
          have cq := CU.out q qP
          replace le := Lib.hid le
          replace cq := Lib.hid cq
          clear kp NEXT NO SM CU
          go_wp2_with fail
          refine HS2.out.mono ?_
          rintro e w4 ⟨rfl, hb⟩
          replace BW := Lib.hid (down BW.out hb)
          replace TW := Lib.hid (TW.out.keep hb)
          replace WP := Lib.hid (WP.out.keep hb)
          clear hb HS2 pr f1 dv
          have HC2 := Lib.hid (HC.out q _ WP.out)
          go_wp2_with fail
          refine HC2.out.mono ?_
          rintro e w9 ⟨⟨v9, rfl, P9⟩, hb⟩
          have B9 := Lib.hid (down BW.out hb)
          have tr9 := TW.out.t.lt
          have sz9 := BW.out.size
          have TR := Lib.hid (TW.out.keep hb)
          obtain ⟨o9, c9, rfl⟩ := Sl.shape P9
          replace P9 := Lib.hid P9
          clear hb HC2 TW BW WP
          have FI : Hid (Two ((w9.setCell ⟨w.heap.size, 0, none⟩ (.int .i64 q)).setCell ⟨w.heap.size, 1, none⟩ (.slice o9 (cuL q L).length c9)) w.heap.size (.int .i64 q) (.slice o9 (cuL q L).length c9) ∧ Below w.heap.size w ((w9.setCell ⟨w.heap.size, 0, none⟩ (.int .i64 q)).setCell ⟨w.heap.size, 1, none⟩ (.slice o9 (cuL q L).length c9)) ∧ PairS w.heap.size ((w9.setCell ⟨w.heap.size, 0, none⟩ (.int .i64 q)).setCell ⟨w.heap.size, 1, none⟩ (.slice o9 (cuL q L).length c9)) (.slice o9 (cuL q L).length c9) (cuL q L)) :=
            ⟨TR.out.put _ _, (B9.out.setCell (p := ⟨w.heap.size, 0, none⟩) (Nat.le_refl _) _).setCell (p := ⟨w.heap.size, 1, none⟩) (Nat.le_refl _) _, Sl.weak (Sl.far (Sl.far P9.out tr9 _) tr9 _) sz9⟩
          obtain ⟨⟨ri0, ri1, ri2⟩, rf0, rf1⟩ := TR.out
          go_wp2
          have q0' := FI.out.1.c0
          have q1' := FI.out.1.c1
          generalize (w9.setCell ⟨w.heap.size, 0, none⟩ (.int .i64 q)).setCell ⟨w.heap.size, 1, none⟩ (.slice o9 (cuL q L).length c9) = w13 at *
          refine bodyPost_ret (v := .agg #[.int .i64 q, .slice o9 (cuL q L).length c9]) (by simp [results, Try.results45, go_sem, q0', q1']) rfl ?_
          rw [le.out, ← cq.out]
          exact ⟨⟨_, rfl, FI.out.2.2⟩, FI.out.2.1⟩
        · have kp : decide (roL P q L = L) = false := decide_eq_false (fun e => pr ((SM.out q).1 e))
          rw [kp] at HS2
          have NX := NEXT (fun e => pr e.2)
          clear kp NEXT NO SM CU pr
          go_wp2_with fail
          refine HS2.out.mono ?_
          rintro e w4 ⟨rfl, hb⟩
          replace BW := Lib.hid (down BW.out hb)
          replace TW := Lib.hid (TW.out.keep hb)
          replace WP := Lib.hid (WP.out.keep hb)
          clear hb HS2 f1 dv
          go_wp2
          go_roundw
          case rel => exact ⟨q + 1, by omega, by omega, rfl, NX, BW, TW, WP⟩
          case measure => simp [intOf]; omega
      · have ke : (r1 == 0) = false := by rw [beq_eq_false_iff_ne, f1]; exact y
        have NX := NEXT (fun e => y (Int.emod_eq_zero_of_dvd e.1))
        clear NEXT NO SM CU y f1
        go_wp2
        go_roundw
        case rel => exact ⟨q + 1, by omega, by omega, rfl, NX, BW, TW, WP⟩
        case measure => simp [intOf]; omega
    · have kz : decide (qq ≤ P) = false := decide_eq_false z
      have NN : Hid (∀ e, 0 < e → e * e ≤ P → e ∣ P → ¬ Per f e) := fun e a b c => NO.out e a (root_less a (by omega) (show P < q * q by omega) b) c
      have S0 : Hid (Sec f P 1 P) := sec_start P0 per.out
      clear NO z
      go_wp2
      go_loopw [6, 7] (fun b i wr => ∃ q d : Int, 1 ≤ q ∧ q ≤ 112352 ∧ i = .int .i64 q ∧ b = .int .i64 d ∧ Hid (Sec f P q d) ∧ Hid (Below w.heap.size w wr) ∧ Hid (Tuo wr w.heap.size (.int .i64 0) (.slice none 0 0)) ∧ Hid (PairS ba wr v L)) (fun _ i _ => (112352 - intOf i).toNat)
      case atStart => exact ⟨1, P, Int.le_refl _, by omega, rfl, rfl, S0, BW, TW, WP⟩
      case round =>
        clear BW TW WP S0 qq0 qq1 hqq q1 q2
        obtain ⟨q, d, q1, q2, rfl, rfl, SE, BW, TW, WP⟩ := hrel
        obtain ⟨qr, hqr⟩ : ∃ z, q * q = z := ⟨_, rfl⟩
        have qr0 : 0 ≤ qr := by rw [← hqr]; exact Int.mul_nonneg (by omega) (by omega)
        have qr1 : qr ≤ 12622971904 := by
          have := Int.mul_le_mul q2 q2 (by omega) (by omega); omega
        by_cases z : qr ≤ P
        · have kz2 : decide (qr ≤ P) = true := decide_eq_true z
          have q3 := root_bound q1 P1 (show q * q ≤ P by omega)
          have nq0 : ¬ (q = 0) := by omega
          obtain ⟨r1, e1⟩ : ∃ r, P.tmod q = r := ⟨_, rfl⟩
          have f1 : r1 = P % q := by rw [← e1, Int.tmod_eq_emod_of_nonneg (by omega)]
          have e1' : P % q = r1 := f1.symm
          by_cases y : P % q = 0
          · have ke : (r1 == 0) = true := by rw [f1, y]; rfl
            have dv : q ∣ P := Int.dvd_of_emod_eq_zero y
            obtain ⟨t, et⟩ : ∃ t, P.tdiv q = t := ⟨_, rfl⟩
            have ep : P / q = t := by rw [← et, Int.tdiv_eq_ediv_of_nonneg (by omega)]
            have ft := Lib.hid ep.symm
            have t0 : 0 ≤ t := by rw [ft.out]; exact Int.ediv_nonneg (by omega) (by omega)
            have t1 : t ≤ P := by rw [ft.out]; exact Int.ediv_le_self _ (by omega)
            have HR2 := Lib.hid (HR.out t (by unfold I64; omega) _ WP.out)
            have ff1 := Lib.hid f1
            clear y f1
            go_wp2_with fail
            refine HR2.out.mono ?_
            rintro e w3 ⟨⟨u, rfl, PU⟩, hb⟩
            replace BW := Lib.hid (down BW.out hb)
            replace TW := Lib.hid (TW.out.keep hb)
            replace WP := Lib.hid (WP.out.keep hb)
            have HS2 := Lib.hid (HS.out t u w3 PU WP.out)
            clear HR2 hb PU
            by_cases pr : Per f t
            · have kp : decide (roL P t L = L) = true := decide_eq_true ((SM.out t).2 pr)
              rw [kp] at HS2
              have SE2 : Hid (Sec f P (q + 1) t) := by show Sec _ _ _ _; rw [ft.out]; exact sec_hit P0 SE.out (by omega) dv (by rw [← ft.out]; exact pr)
              clear kp SE pr ft
              go_wp2_with fail
              refine HS2.out.mono ?_
              rintro e w4 ⟨rfl, hb⟩
              replace BW := Lib.hid (down BW.out hb)
              replace TW := Lib.hid (TW.out.keep hb)
              replace WP := Lib.hid (WP.out.keep hb)
              clear hb HS2 dv
              go_wp2
              go_roundw
              case rel => exact ⟨q + 1, t, by omega, by omega, rfl, rfl, SE2, BW, TW, WP⟩
              case measure => simp [intOf]; omega
            · have kp : decide (roL P t L = L) = false := decide_eq_false (fun e => pr ((SM.out t).1 e))
              rw [kp] at HS2
              have SE2 : Hid (Sec f P (q + 1) d) := sec_miss SE.out (fun e => pr (by rw [ft.out]; exact e.2))
              clear kp SE pr ft
              go_wp2_with fail
              refine HS2.out.mono ?_
              rintro e w4 ⟨rfl, hb⟩
              replace BW := Lib.hid (down BW.out hb)
              replace TW := Lib.hid (TW.out.keep hb)
              replace WP := Lib.hid (WP.out.keep hb)
              clear hb HS2 dv
              go_wp2
              go_roundw
              case rel => exact ⟨q + 1, d, by omega, by omega, rfl, rfl, SE2, BW, TW, WP⟩
              case measure => simp [intOf]; omega
          · have ke : (r1 == 0) = false := by rw [beq_eq_false_iff_ne, f1]; exact y
            have SE2 : Hid (Sec f P (q + 1) d) := sec_miss SE.out (fun e => y (Int.emod_eq_zero_of_dvd e.1))
            clear SE y f1
            go_wp2
            go_roundw
            case rel => exact ⟨q + 1, d, by omega, by omega, rfl, rfl, SE2, BW, TW, WP⟩
            case measure => simp [intOf]; omega
        · have kz2 : decide (qr ≤ P) = false := decide_eq_false z
          have ls := sec_end P0 SE.out (show P < q * q by omega) (by omega) NN.out
          have le := Lib.hid (le_eq ls)
          have cq := Lib.hid (CU.out d (Int.le_of_dvd P0 ls.dvd))
          clear SE NN SM CU z ls
          have HC2 := Lib.hid (HC.out d _ WP.out)
          go_wp2_with fail
          refine HC2.out.mono ?_
          rintro e w9 ⟨⟨v9, rfl, P9⟩, hb⟩
          have B9 := Lib.hid (down BW.out hb)
          have tr9 := TW.out.t.lt
          have sz9 := BW.out.size
          have TR := Lib.hid (TW.out.keep hb)
          obtain ⟨o9, c9, rfl⟩ := Sl.shape P9
          replace P9 := Lib.hid P9
          clear hb HC2 TW BW WP
          have FI : Hid (Two ((w9.setCell ⟨w.heap.size, 0, none⟩ (.int .i64 d)).setCell ⟨w.heap.size, 1, none⟩ (.slice o9 (cuL d L).length c9)) w.heap.size (.int .i64 d) (.slice o9 (cuL d L).length c9) ∧ Below w.heap.size w ((w9.setCell ⟨w.heap.size, 0, none⟩ (.int .i64 d)).setCell ⟨w.heap.size, 1, none⟩ (.slice o9 (cuL d L).length c9)) ∧ PairS w.heap.size ((w9.setCell ⟨w.heap.size, 0, none⟩ (.int .i64 d)).setCell ⟨w.heap.size, 1, none⟩ (.slice o9 (cuL d L).length c9)) (.slice o9 (cuL d L).length c9) (cuL d L)) :=
            ⟨TR.out.put _ _, (B9.out.setCell (p := ⟨w.heap.size, 0, none⟩) (Nat.le_refl _) _).setCell (p := ⟨w.heap.size, 1, none⟩) (Nat.le_refl _) _, Sl.weak (Sl.far (Sl.far P9.out tr9 _) tr9 _) sz9⟩
          obtain ⟨⟨ri0, ri1, ri2⟩, rf0, rf1⟩ := TR.out
          go_wp2
          have q0' := FI.out.1.c0
          have q1' := FI.out.1.c1
          generalize (w9.setCell ⟨w.heap.size, 0, none⟩ (.int .i64 d)).setCell ⟨w.heap.size, 1, none⟩ (.slice o9 (cuL d L).length c9) = w13 at *
          refine bodyPost_ret (v := .agg #[.int .i64 d, .slice o9 (cuL d L).length c9]) (by simp [results, Try.results45, go_sem, q0', q1']) rfl ?_
          rw [le.out, ← cq.out]
          exact ⟨⟨_, rfl, FI.out.2.2⟩, FI.out.2.1⟩
end Go.Proofs.Ytaikeclfmmnelaa
