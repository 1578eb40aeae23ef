/- Law 12: RunsFull. -/
import Derived.Test.YtdkmahdfnmoliaaRnK
import Derived.Test.YtdkmahdfnmoliaaRnF
import Derived.Test.YtdkmahdfnmoliaaRnW
import Derived.Test.YtdkmahdfnmoliaaRnL
import Derived.BigQuiet
import Derived.Deep.QuietTactic
namespace Go.Proofs.Ytdkmahdfnmoliaa
open Go.RowKit
set_option linter.unusedVariables false
set_option linter.unusedSimpArgs false

set_option maxRecDepth 100000 in
set_option maxHeartbeats 8000000 in
theorem rlfull (m n s : Int) (hm : 0 ≤ m ∧ m ≤ 65535) (hn : 0 ≤ n ∧ n ≤ 65535) (hs : I64 s) (w : World) :
    Calls Try.prog 12 #[.int .u16 m, .int .u16 n, .int .i64 s] w fun e w' => e = .returned (.bool true) ∧ Below w.heap.size w w' := by
  obtain ⟨i0, hi, hz0, hz1, hz2⟩ := info_parts infoS
  have AW := rawake w
  obtain ⟨m0, m1⟩ := hm
  obtain ⟨n0, n1⟩ := hn
  obtain ⟨P, hP⟩ : ∃ P : Nat, m % 1100 = P := ⟨(m % 1100).toNat, by omega⟩
  obtain ⟨Q, hQ⟩ : ∃ Q : Nat, n % 1100 = Q := ⟨(n % 1100).toNat, by omega⟩
  have hP' : m.tmod 1100 = P := by rw [Int.tmod_eq_emod_of_nonneg m0, hP]
  have hQ' : n.tmod 1100 = Q := by rw [Int.tmod_eq_emod_of_nonneg n0, hQ]
  have P1 : P < 1100 := by omega
  have Q1 : Q < 1100 := by omega
  obtain ⟨s0, s1⟩ := hs
  by_cases a : s < -2199023255552
  · have ka := decide_eq_true a
    clear hi hz0 hz1 hz2 a
    go_enter Try.func12, Try.ntmps12
    go_wp2_with fail
    refine AW.mono ?_
    rintro e w1 ⟨rfl, hb⟩
    replace hb := Lib.hid hb
    go_wp2
    go_ret
    exact ⟨rfl, hb.out⟩
  have ka := decide_eq_false a
  by_cases b : 2199023255552 < s
  · have kb := decide_eq_true b
    clear hi hz0 hz1 hz2 a b
    go_enter Try.func12, Try.ntmps12
    go_wp2_with fail
    refine AW.mono ?_
    rintro e w1 ⟨rfl, hb⟩
    replace hb := Lib.hid hb
    go_wp2
    go_ret
    exact ⟨rfl, hb.out⟩
  have kb := decide_eq_false b
  have cA : (cmL s P).length ≤ maxLen := by rw [cm_len]; exact small_max (by omega)
  have cB : (cmL (s + 2) Q).length ≤ maxLen := by rw [cm_len]; exact small_max (by omega)
  have CU := comb_ap (s := s) (p := P) (q := Q) (by omega) (by omega) P1 Q1
  have CO := comb_of (s := s) (p := P) (q := Q) (by omega) (by omega) P1 Q1
  have HU := Lib.hid (fun W ba bb va vb (p : PairS ba W va (cmL s P)) (q : PairS bb W vb (cmL (s + 2) Q)) => by have h := ruunion va vb _ _ cA cB W p q; rw [CU] at h; exact h)
  have HC := Lib.hid (fun W b v (q : PairS b W v (cmL (s + 2) Q)) => ruclone v (cmL (s + 2) Q) Q (cm_len _ _) (by omega) W q)
  have HF := Lib.hid (fun W b v (p : PairS b W v (cmL (s + 2) Q ++ cmL s P)) => by have h := ruof v _ (by rw [List.length_append, cm_len, cm_len]; omega) W p; rw [CO] at h; exact h)
  have ml := mx_len s P Q
  have vx : ¬ 2000 < P + Q → vaB (mxL s P Q) = true := fun h => by
    have e : ruFull (mxL s P Q) = (mxL s P Q, 0) := by unfold ruFull; rw [ml, if_neg h]
    have := (ap_ok (k := 1) (A := cmL s P) (B := cmL (s + 2) Q) (by rw [CU, e])).2.2.1
    rw [CU, e] at this; exact this
  have HE := fun (h : ¬ 2000 < P + Q) => Lib.hid (fun W b b' v u (p : PairS b W v (mxL s P Q)) (q : PairS b' W u (mxL s P Q)) => by
    have l : (mxL s P Q).length ≤ maxLen := by rw [ml]; exact small_max (by omega)
    have r := ruequal v u _ _ l l W p q
    rw [vx h, decide_eq_true rfl] at r; exact r)
  have HM := fun (h : ¬ 2000 < P + Q) => Lib.hid (fun W b v (p : PairS b W v (mxL s P Q)) => by
    have l : (mxL s P Q).length ≤ maxLen := by rw [ml]; exact small_max (by omega)
    have r := rumeasure v _ l W p
    rw [vx h, if_pos rfl, mx_ms] at r; exact r)
  have FF : Hid (ruFull (mxL s P Q) = if 2000 < P + Q then ([], 5) else (mxL s P Q, 0)) := by show _ = _; unfold ruFull; rw [ml]
  clear CU CO cA cB vx ml
  rw [FF.out] at HU HF
  clear FF
  go_enter Try.func12, Try.ntmps12
  go_wp2_with fail
  refine AW.mono ?_
  rintro e w1 ⟨rfl, hb⟩
  have A1 := Lib.hid hb
  have I0 : Hid (w1.ownsRow w1.heap.size 33 2 (.slice none 0 0) 0 (pairs (cmL s 0))) := World.ownsRow_nil _ _ _ _
  have L0 : Hid (Below w1.heap.size w1 w1) := here w1
  clear hb AW
  go_wp2
  go_loopw [9, 32] (fun v i wr => ∃ (k : Nat) (v' : Value), v' = v ∧ k ≤ P ∧ i = .int .i64 k ∧ Hid (wr.ownsRow w1.heap.size 33 2 v k (pairs (cmL s k))) ∧ Hid (Below w1.heap.size w1 wr)) (fun _ i _ => P - (intOf i).toNat)
  case atStart => exact ⟨0, _, rfl, Nat.zero_le _, rfl, I0, L0⟩
  case round =>
    obtain ⟨k, v', rfl, hk, rfl, HO, HA⟩ := hrel
    clear I0 L0
    by_cases z : k < P
    · have kz : decide ((k : Int) < (P : Int)) = true := decide_eq_true (by omega)
      obtain ⟨k1, hk1⟩ : ∃ k1, k + 1 = k1 := ⟨_, rfl⟩
      obtain ⟨f, h1⟩ : ∃ f, 4 * (k : Int) = f := ⟨_, rfl⟩
      obtain ⟨x, h2⟩ : ∃ x, s + f = x := ⟨_, rfl⟩
      obtain ⟨y, h3⟩ : ∃ y, x + 1 = y := ⟨_, rfl⟩

      have sn : Hid (cmL s k1 = cmL s k ++ [(x, y)]) := by show _ = _; rw [← hk1, cm_snoc, ← h3, ← h2, ← h1]
      go_wp2_with (at_builtin; refine wpList_append_own _ rfl _ _ 22 rfl w1.heap.size 33 i0 (.agg #[.int .i64 0, .int .i64 0]) 2 16 Try.underlying22 hi hz0 hz1 hz2 rfl (by decide) v' k (pairs (cmL s k)) rfl (HO.out.alloc _) ⟨wr.heap.size, 0, none⟩ 1 1 [.int .i64 x, .int .i64 y] rfl rfl ?c1 ?c2 ?c3 ?c4 ?c5 ?_)
      case c1 => intro j u hj; rw [Addr.add_lit, Nat.zero_add, World.cell?_alloc_new]; simpa using hj
      case c2 => intro u hu; simp at hu; rcases hu with rfl | rfl <;> rfl
      case c3 => unfold maxLen; omega
      case c4 => omega
      case c5 => have := HA.out.size; simp; omega
      intro v7 w7 hown hgrow _
      have A7 : Hid (Below w1.heap.size w1 w7) := (HA.out.alloc HA.out.size _).grown hgrow (by have := HA.out.size; simp; omega) (own_ge HO.out)
      have O7 : Hid (w7.ownsRow w1.heap.size 33 2 v7 k1 (pairs (cmL s k1))) := by show World.ownsRow _ _ _ _ _ _ _; rw [sn.out, pairs_append]; exact hown
      clear hown hgrow HO HA sn
      go_wp2
      go_roundw
      case rel => exact ⟨k1, _, rfl, by omega, by first | rfl | (congr 1; omega) | go_num, O7, A7⟩
      case measure => simp [intOf]; omega
    · have kz : decide ((k : Int) < (P : Int)) = false := decide_eq_false (by omega)
      obtain rfl : P = k := by omega
      have A2' := Lib.hid (down A1.out HA.out)
      obtain ⟨w2, hw2⟩ : ∃ w2, wr = w2 := ⟨_, rfl⟩
      subst hw2
      have PA' : Hid (PairS w1.heap.size wr v' (cmL s P)) := by show Sl _ _ _ _ _; rw [cm_len]; exact Sl.owns HO.out
      obtain ⟨va, hva⟩ : ∃ va, v' = va := ⟨_, rfl⟩
      rw [hva] at PA' ⊢
      clear HO HA A1 z hva
      obtain ⟨w2, hw2⟩ : ∃ w2, wr = w2 := ⟨_, rfl⟩
      rw [hw2] at A2' PA' ⊢
      clear hw2
      have I1 : Hid (w2.ownsRow w2.heap.size 33 2 (.slice none 0 0) 0 (pairs (cmL (s + 2) 0))) := World.ownsRow_nil _ _ _ _
      have L1 : Hid (Below w2.heap.size w2 w2) := here w2
      go_wp2
      go_loopw [10, 50] (fun v i wr => ∃ (k : Nat) (v' : Value), v' = v ∧ k ≤ Q ∧ i = .int .i64 k ∧ Hid (wr.ownsRow w2.heap.size 33 2 v k (pairs (cmL (s + 2) k))) ∧ Hid (Below w2.heap.size w2 wr)) (fun _ i _ => Q - (intOf i).toNat)
      case atStart => exact ⟨0, _, rfl, Nat.zero_le _, rfl, I1, L1⟩
      case round =>
        obtain ⟨k, v', rfl, hk, rfl, HO, HA⟩ := hrel
        clear I1 L1
        by_cases z : k < Q
        · have kz : decide ((k : Int) < (Q : Int)) = true := decide_eq_true (by omega)
          obtain ⟨k1, hk1⟩ : ∃ k1, k + 1 = k1 := ⟨_, rfl⟩
          obtain ⟨f, h1⟩ : ∃ f, 4 * (k : Int) = f := ⟨_, rfl⟩
          obtain ⟨x, h2⟩ : ∃ x, s + f = x := ⟨_, rfl⟩
          obtain ⟨y, h3⟩ : ∃ y, x + 1 = y := ⟨_, rfl⟩
          obtain ⟨x2, h4⟩ : ∃ x2, x + 2 = x2 := ⟨_, rfl⟩
          obtain ⟨x3, h5⟩ : ∃ x3, x + 3 = x3 := ⟨_, rfl⟩
          have sn : Hid (cmL (s + 2) k1 = cmL (s + 2) k ++ [(x2, x3)]) := by show _ = _; rw [← hk1, cm_snoc, ← h5, ← h4, ← h2, ← h1, show s + 2 + 4 * (k : Int) = s + 4 * (k : Int) + 2 by omega, show s + 4 * (k : Int) + 2 + 1 = s + 4 * (k : Int) + 3 by omega]
          go_wp2_with (at_builtin; refine wpList_append_own _ rfl _ _ 22 rfl w2.heap.size 33 i0 (.agg #[.int .i64 0, .int .i64 0]) 2 16 Try.underlying22 hi hz0 hz1 hz2 rfl (by decide) v' k (pairs (cmL (s + 2) k)) rfl (HO.out.alloc _) ⟨wr.heap.size, 0, none⟩ 1 1 [.int .i64 x2, .int .i64 x3] rfl rfl ?c1 ?c2 ?c3 ?c4 ?c5 ?_)
          case c1 => intro j u hj; rw [Addr.add_lit, Nat.zero_add, World.cell?_alloc_new]; simpa using hj
          case c2 => intro u hu; simp at hu; rcases hu with rfl | rfl <;> rfl
          case c3 => unfold maxLen; omega
          case c4 => omega
          case c5 => have := HA.out.size; simp; omega
          intro v7 w7 hown hgrow _
          have A7 : Hid (Below w2.heap.size w2 w7) := (HA.out.alloc HA.out.size _).grown hgrow (by have := HA.out.size; simp; omega) (own_ge HO.out)
          have O7 : Hid (w7.ownsRow w2.heap.size 33 2 v7 k1 (pairs (cmL (s + 2) k1))) := by show World.ownsRow _ _ _ _ _ _ _; rw [sn.out, pairs_append]; exact hown
          clear hown hgrow HO HA sn
          go_wp2
          go_roundw
          case rel => exact ⟨k1, _, rfl, by omega, by first | rfl | (congr 1; omega) | go_num, O7, A7⟩
          case measure => simp [intOf]; omega
        · have kz : decide ((k : Int) < (Q : Int)) = false := decide_eq_false (by omega)
          obtain rfl : Q = k := by omega
          have A2 := Lib.hid (down A2'.out HA.out)
          have PB : Hid (PairS w2.heap.size wr v' (cmL (s + 2) Q)) := by show Sl _ _ _ _ _; rw [cm_len]; exact Sl.owns HO.out
          have PA := Lib.hid (PA'.out.keep HA.out)
          clear HO HA A2' PA' z
          clear hP hQ hP' hQ' m0 m1 n0 n1 ka kb a b s0 s1
          by_cases big : 2000 < P + Q
          · rw [if_pos big] at HU HF
            have kg : decide (2000 < (P : Int) + (Q : Int)) = true := decide_eq_true (by omega)
            clear HE HM big
            go_wp2_with fail
            refine (HU.out _ _ _ _ _ PA.out PB.out).mono ?_
            rintro e w3 ⟨⟨vu, rfl, U3, -⟩, hb⟩
            have A3 := Lib.hid (down A2.out hb)
            have PA3 := Lib.hid (PA.out.keep hb)
            have PB3 := Lib.hid (PB.out.keep hb)
            obtain ⟨ou, cu, rfl⟩ := prs_shape U3
            rw [show ([] : List Sp).length = 0 from rfl] at U3 ⊢
            replace U3 := Lib.hid U3
            clear hb PA PB A2 HU
            go_wp2_with fail
            refine (HC.out _ _ _ PB3.out).mono ?_
            rintro e w4 ⟨vc, rfl, O4, hb⟩
            have PA4 := PA3.out.keep hb
            have s34 := hb.size
            replace O4 := Lib.hid O4
            replace hb := Lib.hid hb
            obtain ⟨oa, ca, rfl⟩ := prs_shape PA4
            have N4 := Lib.hid (prs_news PA4)
            rw [cm_len] at N4
            rw [cm_len]
            clear PB3 PA3 PA4 HC
            go_wp2_with (at_builtin; refine app_any _ rfl _ _ 22 rfl w3.heap.size 33 i0 (.agg #[.int .i64 0, .int .i64 0]) 2 16 Try.underlying22 hi hz0 hz1 hz2 rfl (by decide) vc Q (pairs (cmL (s + 2) Q)) rfl O4.out oa P ca (pairs (cmL s P)) rfl ?c1 N4.out.1 ?c3 ?c4 ?c5 ?c6 ?c7 ?_)
            case c1 => rw [pairs_length, cm_len]
            case c3 => exact N4.out.2.2
            case c4 => exact pairs_one _
            case c5 => unfold maxLen; omega
            case c6 => omega
            case c7 => exact s34
            intro v5 w5 hown hgrow
            have B5 : Below w3.heap.size w3 w5 := hb.out.grown hgrow hb.out.size (own_ge O4.out)
            have A5 := Lib.hid (down A3.out B5)
            have U5 := Lib.hid (U3.out.keep B5)
            have P5 : Hid (PairS w3.heap.size w5 v5 (cmL (s + 2) Q ++ cmL s P)) := by
              show Sl _ _ _ _ _
              have := Sl.owns hown
              rw [← pairs_append] at this
              rw [List.length_append, cm_len, cm_len]; exact this
            clear hown hgrow B5 A3 U3 O4 N4 hb s34
            go_wp2_with fail
            refine (HF.out _ _ _ P5.out).mono ?_
            rintro e w6 ⟨⟨vl, rfl, L6⟩, hb⟩
            have A6 := Lib.hid (down A5.out hb)
            have U6 := Lib.hid (U5.out.keep hb)
            obtain ⟨ol, cl, rfl⟩ := prs_shape L6
            rw [show ([] : List Sp).length = 0 from rfl] at L6 ⊢
            replace L6 := Lib.hid L6
            clear hb A5 U5 P5 HF
            go_wp2
            go_ret
            exact ⟨rfl, A6.out⟩
          · rw [if_neg big] at HU HF
            replace HE := HE big
            replace HM := HM big
            obtain ⟨N, hN⟩ : ∃ N, P + Q = N := ⟨_, rfl⟩
            have ml : Hid ((mxL s P Q).length = N) := by show _ = _; rw [mx_len, hN]
            have hN2 : (P : Int) + (Q : Int) = (N : Int) := by omega
            have kg : decide (2000 < (N : Int)) = false := decide_eq_false (by omega)
            rw [hN2] at HM
            clear hN big
            go_wp2_with fail
            refine (HU.out _ _ _ _ _ PA.out PB.out).mono ?_
            rintro e w3 ⟨⟨vu, rfl, U3, -⟩, hb⟩
            have A3 := Lib.hid (down A2.out hb)
            have PA3 := Lib.hid (PA.out.keep hb)
            have PB3 := Lib.hid (PB.out.keep hb)
            obtain ⟨ou, cu, rfl⟩ := prs_shape U3
            rw [ml.out] at U3 ⊢
            replace U3 := Lib.hid U3
            clear hb PA PB A2 HU
            go_wp2_with fail
            refine (HC.out _ _ _ PB3.out).mono ?_
            rintro e w4 ⟨vc, rfl, O4, hb⟩
            have PA4 := PA3.out.keep hb
            have s34 := hb.size
            replace O4 := Lib.hid O4
            replace hb := Lib.hid hb
            obtain ⟨oa, ca, rfl⟩ := prs_shape PA4
            have N4 := Lib.hid (prs_news PA4)
            rw [cm_len] at N4
            rw [cm_len]
            clear PB3 PA3 PA4 HC
            go_wp2_with (at_builtin; refine app_any _ rfl _ _ 22 rfl w3.heap.size 33 i0 (.agg #[.int .i64 0, .int .i64 0]) 2 16 Try.underlying22 hi hz0 hz1 hz2 rfl (by decide) vc Q (pairs (cmL (s + 2) Q)) rfl O4.out oa P ca (pairs (cmL s P)) rfl ?c1 N4.out.1 ?c3 ?c4 ?c5 ?c6 ?c7 ?_)
            case c1 => rw [pairs_length, cm_len]
            case c3 => exact N4.out.2.2
            case c4 => exact pairs_one _
            case c5 => unfold maxLen; omega
            case c6 => omega
            case c7 => exact s34
            intro v5 w5 hown hgrow
            have B5 : Below w3.heap.size w3 w5 := hb.out.grown hgrow hb.out.size (own_ge O4.out)
            have A5 := Lib.hid (down A3.out B5)
            have U5 := Lib.hid (U3.out.keep B5)
            have P5 : Hid (PairS w3.heap.size w5 v5 (cmL (s + 2) Q ++ cmL s P)) := by
              show Sl _ _ _ _ _
              have := Sl.owns hown
              rw [← pairs_append] at this
              rw [List.length_append, cm_len, cm_len]; exact this
            clear hown hgrow B5 A3 U3 O4 N4 hb s34
            go_wp2_with fail
            refine (HF.out _ _ _ P5.out).mono ?_
            rintro e w6 ⟨⟨vl, rfl, L6⟩, hb⟩
            have A6 := Lib.hid (down A5.out hb)
            have U6 := Lib.hid (U5.out.keep hb)
            obtain ⟨ol, cl, rfl⟩ := prs_shape L6
            rw [ml.out] at L6 ⊢
            replace L6 := Lib.hid L6
            clear hb A5 U5 P5 HF
            go_wp2_with fail
            refine (HE.out _ _ _ _ _ U6.out L6.out).mono ?_
            rintro e w7 ⟨rfl, hb⟩
            have A7 := Lib.hid (down A6.out hb)
            have U7 := Lib.hid (U6.out.keep hb)
            clear hb A6 U6 L6 HE
            go_wp2_with fail
            refine (HM.out _ _ _ U7.out).mono ?_
            rintro e w8 ⟨rfl, hb⟩
            have A8 := Lib.hid (down A7.out hb)
            clear hb A7 U7 HM
            go_wp2
            go_ret
            exact ⟨rfl, A8.out⟩
end Go.Proofs.Ytdkmahdfnmoliaa
