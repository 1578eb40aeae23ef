/- The contract of civiltimeref11.Convex. -/
import Derived.Test.YtiaidmjhgfaobaaDoorAlS
import Derived.OwnWalk
import Derived.Deep.QuietTactic
import Derived.BigQuiet
import Derived.Outline
namespace Go.Proofs.YtiaidmjhgfaobaaDoor
open Go.RowKit
set_option linter.unusedVariables false

def mnV (a b : Int) : Int := if b < a then b else a
def mxV (a b : Int) : Int := if a < b then b else a
/-- The least box of places around the first relations of a list. -/
def bxP (L : List Int) : Nat → Int
  | 0 => 6
  | k + 1 => mnV (bxP L k) (plF (L.getD k 0).toNat)
def bxQ (L : List Int) : Nat → Int
  | 0 => 0
  | k + 1 => mxV (bxQ L k) (plF (L.getD k 0).toNat)
def bxU (L : List Int) : Nat → Int
  | 0 => 6
  | k + 1 => mnV (bxU L k) (plS (L.getD k 0).toNat)
def bxV (L : List Int) : Nat → Int
  | 0 => 0
  | k + 1 => mxV (bxV L k) (plS (L.getD k 0).toNat)
def inX (L : List Int) (r : Nat) : Bool := decide (bxP L L.length ≤ plF r) && decide (plF r ≤ bxQ L L.length) && decide (bxU L L.length ≤ plS r) && decide (plS r ≤ bxV L L.length)
/-- Whether a set is convex. -/
def cvN (S : Nat) : Bool := (List.range 13).all fun r => inX (sgL S 13) r == S.testBit r
def cvB (s : Int) : Bool := isS s && cvN s.toNat
theorem cvN_iff (S : Nat) : cvN S = true ↔ ∀ r, r < 13 → inX (sgL S 13) r = S.testBit r := by
  unfold cvN; simp [List.all_eq_true]
theorem cvN_no {S r : Nat} (hr : r < 13) (h : ¬ inX (sgL S 13) r = S.testBit r) : cvN S = false := by
  rw [← Bool.not_eq_true, cvN_iff]; exact fun q => h (q r hr)
theorem sg_mem (S : Nat) : ∀ n, ∀ j, j < (sgL S n).length → ∃ r : Nat, r < n ∧ (sgL S n).getD j 0 = r := by
  intro n
  induction n with
  | zero => intro j hj; exact absurd hj (Nat.not_lt_zero _)
  | succ n ih =>
    intro j hj
    have e : sgL S (n + 1) = if S.testBit n then sgL S n ++ [(n : Int)] else sgL S n := rfl
    rw [e] at hj ⊢
    split at hj
    · rename_i b
      rw [if_pos b]
      rw [List.length_append, List.length_singleton] at hj
      rcases Nat.lt_or_ge j (sgL S n).length with q | q
      · obtain ⟨r, hr, er⟩ := ih j q
        refine ⟨r, by omega, ?_⟩
        rw [← er]; simp [List.getD_eq_getElem?_getD, List.getElem?_append_left q]
      · obtain rfl : j = (sgL S n).length := by omega
        exact ⟨n, by omega, by simp [List.getD_eq_getElem?_getD]⟩
    · rename_i b
      rw [if_neg b]
      obtain ⟨r, hr, er⟩ := ih j hj
      exact ⟨r, by omega, er⟩
theorem pl_bd (r : Nat) : 1 ≤ plF r ∧ plF r ≤ 5 ∧ 1 ≤ plS r ∧ plS r ≤ 5 := by
  unfold plF plS
  split <;> split <;> decide
theorem ints_here {base : Nat} {w : World} {o : Option Addr} {n c : Nat} {zs : List Int} (h : IntS base w (.slice o n c) zs) {i : Nat} (hi : i < zs.length) :
    ∃ b off, o = some ⟨b, off, none⟩ ∧ b < w.heap.size ∧ ∀ j, j < zs.length → w.cell? ⟨b, off + j, none⟩ = some (.int .i64 (zs.getD j 0)) := by
  rcases h with ⟨h0, -⟩ | ⟨b, off, c', e, -, l⟩
  · omega
  · injection e with e1 e2 e3
    exact ⟨b, off, e1, l.lt, fun j hj => ints_at l j hj⟩
set_option maxRecDepth 100000 in
set_option maxHeartbeats 1000000 in
theorem raconvex (s : Int) (hs : I64 s) (w : World) :
    Calls Tryd.prog 30 #[.int .i64 s] w fun e w' => e = .returned (.bool (cvB s)) ∧ Below w.heap.size w w' := by
  have HI := Lib.hid (fun w => raset s hs w)
  cases v : isS s
  · rw [show cvB s = false by unfold cvB; rw [v]; rfl]
    rw [v] at HI
    go_enter Tryd.func30, Tryd.ntmps30
    go_wp2_with fail
    refine (HI.out _).mono ?_
    rintro e w1 ⟨rfl, rfl⟩
    go_wp2
    go_ret
    exact ⟨rfl, here _⟩
  obtain ⟨v0, v1⟩ := isS_iff.1 v
  have HS := Lib.hid (fun w => rasingles s hs w)
  obtain ⟨S, rfl⟩ : ∃ S : Nat, s = S := ⟨s.toNat, by omega⟩
  have hS : S < 8192 := by omega
  rw [show cvB (S : Int) = cvN S by unfold cvB; rw [v]; rfl]
  rw [show sgV (S : Int) = sgL S 13 by unfold sgV; rw [v]; rfl] at HS
  rw [v] at HI
  have HP := Lib.hid (fun r hr w => raplaces r hr w)
  have HH := Lib.hid (fun r (hr : r ≤ 12) w => rahas S r hS hr w)
  have HE := Lib.hid (cvN_iff S)
  have HN := Lib.hid (fun r => @cvN_no S r)
  have ME := Lib.hid (sg_mem S 13)
  have l13 := sgL_len S 13
  generalize sgL S 13 = L at *
  clear v v0 v1 hs
  go_enter Tryd.func30, Tryd.ntmps30
  go_wp2_with fail
  refine (HI.out _).mono ?_
  rintro e w1 ⟨rfl, rfl⟩
  go_wp2_with fail
  refine (HS.out _).mono ?_
  rintro e w1 ⟨⟨v, rfl, PM⟩, hb⟩
  obtain ⟨ao, cp, rfl⟩ := Sl.shape PM
  have A1 := Lib.hid hb
  have L1 : Hid (IntS 0 w1 (.slice ao L.length cp) L) := Sl.weak PM (Nat.zero_le _)
  clear hb PM HI HS
  have sp : Hid (∀ k, bxP L (k + 1) = mnV (bxP L k) (plF (L.getD k 0).toNat)) := fun _ => rfl
  have sq : Hid (∀ k, bxQ L (k + 1) = mxV (bxQ L k) (plF (L.getD k 0).toNat)) := fun _ => rfl
  have su : Hid (∀ k, bxU L (k + 1) = mnV (bxU L k) (plS (L.getD k 0).toNat)) := fun _ => rfl
  have sv : Hid (∀ k, bxV L (k + 1) = mxV (bxV L k) (plS (L.getD k 0).toNat)) := fun _ => rfl
  have zz : Hid (bxP L 0 = 6 ∧ bxQ L 0 = 0 ∧ bxU L 0 = 6 ∧ bxV L 0 = 0) := ⟨rfl, rfl, rfl, rfl⟩
  have iX0 : Hid (∀ r, inX L r = (decide (bxP L L.length ≤ plF r) && decide (plF r ≤ bxQ L L.length) && decide (bxU L L.length ≤ plS r) && decide (plS r ≤ bxV L L.length))) := fun _ => rfl
  generalize bxP L = p at *
  generalize bxQ L = q at *
  generalize bxU L = u at *
  generalize bxV L = v at *
  go_wp2
  go_loopw [3, 4, 5, 6, 8] (fun a b c d i wr => ∃ k : Nat, k ≤ L.length ∧ a = .int .i64 (p k) ∧ b = .int .i64 (q k) ∧ c = .int .i64 (u k) ∧ d = .int .i64 (v k) ∧ i = .int .i64 k ∧ Hid (Below w.heap.size w wr) ∧ Hid (IntS 0 wr (.slice ao L.length cp) L)) (fun _ _ _ _ i _ => L.length - (intOf i).toNat)
  case atStart => exact ⟨0, Nat.zero_le _, by rw [zz.out.1], by rw [zz.out.2.1], by rw [zz.out.2.2.1], by rw [zz.out.2.2.2], rfl, A1.out, L1.out⟩
  case round =>
    obtain ⟨k, hk, rfl, rfl, rfl, rfl, rfl, HA, HL⟩ := hrel
    clear A1 L1
    by_cases z : k < L.length
    · have kz : decide ((k : Int) < (L.length : Int)) = true := decide_eq_true (by omega)
      obtain ⟨b, off, rfl, bl, cs⟩ := ints_here HL.out z
      obtain ⟨r, hr, er⟩ := ME.out k z
      have cc := cs k z
      rw [er] at cc
      have hp := Lib.hid (HP.out r (by omega))
      have s1 := Lib.hid (sp.out k)
      have s2 := Lib.hid (sq.out k)
      have s3 := Lib.hid (su.out k)
      have s4 := Lib.hid (sv.out k)
      rw [er] at s1 s2 s3 s4
      replace s1 : Hid (p (k + 1) = mnV (p k) (plF r)) := s1
      replace s2 : Hid (q (k + 1) = mxV (q k) (plF r)) := s2
      replace s3 : Hid (u (k + 1) = mnV (u k) (plS r)) := s3
      replace s4 : Hid (v (k + 1) = mxV (v k) (plS r)) := s4
      clear cs er HP HH HE HN ME sp sq su sv zz iX0
      generalize plF r = f at *
      generalize plS r = g at *
      obtain ⟨p', hp'⟩ : ∃ p', p k = p' := ⟨_, rfl⟩
      obtain ⟨q', hq'⟩ : ∃ q', q k = q' := ⟨_, rfl⟩
      obtain ⟨u', hu'⟩ : ∃ u', u k = u' := ⟨_, rfl⟩
      obtain ⟨v', hv'⟩ : ∃ v', v k = v' := ⟨_, rfl⟩
      rw [hp'] at s1 ⊢
      rw [hq'] at s2 ⊢
      rw [hu'] at s3 ⊢
      rw [hv'] at s4 ⊢
      obtain ⟨m1, n1⟩ : ∃ m, (if f < p' then f else p') = m := ⟨_, rfl⟩
      obtain ⟨m2, n2⟩ : ∃ m, (if q' < f then f else q') = m := ⟨_, rfl⟩
      obtain ⟨m3, n3⟩ : ∃ m, (if g < u' then g else u') = m := ⟨_, rfl⟩
      obtain ⟨m4, n4⟩ : ∃ m, (if v' < g then g else v') = m := ⟨_, rfl⟩
      replace s1 : Hid (p (k + 1) = m1) := by show _ = _; rw [← n1]; exact s1.out
      replace s2 : Hid (q (k + 1) = m2) := by show _ = _; rw [← n2]; exact s2.out
      replace s3 : Hid (u (k + 1) = m3) := by show _ = _; rw [← n3]; exact s3.out
      replace s4 : Hid (v (k + 1) = m4) := by show _ = _; rw [← n4]; exact s4.out
      clear hp' hq' hu' hv'
      go_wp2_with fail
      refine (hp.out _).mono ?_
      rintro e w4 ⟨rfl, hb⟩
      have A4 := Lib.hid (down HA.out hb)
      have L4 := Lib.hid (HL.out.keep hb)
      clear hb hp HA HL cc bl
      go_wp2
      go_roundw
      case rel => exact ⟨k + 1, by omega, by rw [s1.out], by rw [s2.out], by rw [s3.out], by rw [s4.out], by go_num, A4, L4⟩
      case measure => simp [intOf]; omega
    · have kz : decide ((k : Int) < (L.length : Int)) = false := decide_eq_false (by omega)
      obtain rfl : k = L.length := by omega
      obtain ⟨P, hP⟩ : ∃ P, p L.length = P := ⟨_, rfl⟩
      obtain ⟨Q, hQ⟩ : ∃ Q, q L.length = Q := ⟨_, rfl⟩
      obtain ⟨U, hU⟩ : ∃ U, u L.length = U := ⟨_, rfl⟩
      obtain ⟨V, hV⟩ : ∃ V, v L.length = V := ⟨_, rfl⟩
      rw [hP, hQ, hU, hV]
      have iX1 : Hid (∀ r, inX L r = (decide (P ≤ plF r) && decide (plF r ≤ Q) && decide (U ≤ plS r) && decide (plS r ≤ V))) := by show ∀ r, _; rw [← hP, ← hQ, ← hU, ← hV]; exact iX0.out
      have A1 := HA
      clear hP hQ hU hV iX0 sp sq su sv zz ME HA HL
      go_wp2
      go_loopw [11] (fun i wr => ∃ r : Nat, r ≤ 13 ∧ i = .int .i64 r ∧ Hid (∀ j, j < r → inX L j = S.testBit j) ∧ Hid (Below w.heap.size w wr)) (fun i _ => 13 - (intOf i).toNat)
      case atStart => exact ⟨0, Nat.zero_le _, rfl, fun j hj => absurd hj (Nat.not_lt_zero _), A1.out⟩
      case round =>
        obtain ⟨r, hr, rfl, HG, HA⟩ := hrel
        clear A1
        by_cases z : r < 13
        · have kz2 : decide ((r : Int) ≤ 12) = true := decide_eq_true (by omega)
          have hp := Lib.hid (HP.out r (by omega))
          have hh := Lib.hid (HH.out r (by omega))
          have iX := Lib.hid (iX1.out r)
          have iq : Hid (inX L r = S.testBit r → ∀ j, j < r + 1 → inX L j = S.testBit j) := fun e j hj => by
            rcases Nat.lt_or_ge j r with c | c
            · exact HG.out j c
            · obtain rfl : j = r := by omega
              exact e
          clear HP HH iX1 HG
          generalize plF r = f at *
          generalize plS r = g at *
          cases t1 : decide (P ≤ f)
          · skip
            cases tb : S.testBit r
            · rw [tb] at hh iq
              have ix : Hid (inX L r = false) := by show _ = _; rw [iX.out]; rw [t1]; rfl
              have HY := Lib.hid (iq.out (by rw [ix.out]))
              clear HN HE iX iq ix tb
              go_wp2_with fail
              refine (hp.out _).mono ?_
              rintro e w4 ⟨rfl, hb⟩
              have A4 := Lib.hid (down HA.out hb)
              clear hb hp HA
              go_wp2_with fail
              refine (hh.out _).mono ?_
              rintro e w5 ⟨rfl, rfl⟩
              go_wp2
              go_roundw
              case rel => exact ⟨r + 1, by omega, by go_num, HY, A4⟩
              case measure => simp [intOf]; omega
            · rw [tb] at hh iq
              have ix : Hid (inX L r = false) := by show _ = _; rw [iX.out]; rw [t1]; rfl
              have hn := Lib.hid (HN.out r z (by rw [ix.out]; rw [tb]; decide))
              clear HN HE iX iq ix tb
              go_wp2_with fail
              refine (hp.out _).mono ?_
              rintro e w4 ⟨rfl, hb⟩
              have A4 := Lib.hid (down HA.out hb)
              clear hb hp HA
              go_wp2_with fail
              refine (hh.out _).mono ?_
              rintro e w5 ⟨rfl, rfl⟩
              go_wp2
              go_ret
              exact ⟨by rw [hn.out]; rfl, A4.out⟩
          · skip
            cases t2 : decide (f ≤ Q)
            · skip
              cases tb : S.testBit r
              · rw [tb] at hh iq
                have ix : Hid (inX L r = false) := by show _ = _; rw [iX.out]; rw [t1, t2]; rfl
                have HY := Lib.hid (iq.out (by rw [ix.out]))
                clear HN HE iX iq ix tb
                go_wp2_with fail
                refine (hp.out _).mono ?_
                rintro e w4 ⟨rfl, hb⟩
                have A4 := Lib.hid (down HA.out hb)
                clear hb hp HA
                go_wp2_with fail
                refine (hh.out _).mono ?_
                rintro e w5 ⟨rfl, rfl⟩
                go_wp2
                go_roundw
                case rel => exact ⟨r + 1, by omega, by go_num, HY, A4⟩
                case measure => simp [intOf]; omega
              · rw [tb] at hh iq
                have ix : Hid (inX L r = false) := by show _ = _; rw [iX.out]; rw [t1, t2]; rfl
                have hn := Lib.hid (HN.out r z (by rw [ix.out]; rw [tb]; decide))
                clear HN HE iX iq ix tb
                go_wp2_with fail
                refine (hp.out _).mono ?_
                rintro e w4 ⟨rfl, hb⟩
                have A4 := Lib.hid (down HA.out hb)
                clear hb hp HA
                go_wp2_with fail
                refine (hh.out _).mono ?_
                rintro e w5 ⟨rfl, rfl⟩
                go_wp2
                go_ret
                exact ⟨by rw [hn.out]; rfl, A4.out⟩
            · skip
              cases t3 : decide (U ≤ g)
              · skip
                cases tb : S.testBit r
                · rw [tb] at hh iq
                  have ix : Hid (inX L r = false) := by show _ = _; rw [iX.out]; rw [t1, t2, t3]; rfl
                  have HY := Lib.hid (iq.out (by rw [ix.out]))
                  clear HN HE iX iq ix tb
                  go_wp2_with fail
                  refine (hp.out _).mono ?_
                  rintro e w4 ⟨rfl, hb⟩
                  have A4 := Lib.hid (down HA.out hb)
                  clear hb hp HA
                  go_wp2_with fail
                  refine (hh.out _).mono ?_
                  rintro e w5 ⟨rfl, rfl⟩
                  go_wp2
                  go_roundw
                  case rel => exact ⟨r + 1, by omega, by go_num, HY, A4⟩
                  case measure => simp [intOf]; omega
                · rw [tb] at hh iq
                  have ix : Hid (inX L r = false) := by show _ = _; rw [iX.out]; rw [t1, t2, t3]; rfl
                  have hn := Lib.hid (HN.out r z (by rw [ix.out]; rw [tb]; decide))
                  clear HN HE iX iq ix tb
                  go_wp2_with fail
                  refine (hp.out _).mono ?_
                  rintro e w4 ⟨rfl, hb⟩
                  have A4 := Lib.hid (down HA.out hb)
                  clear hb hp HA
                  go_wp2_with fail
                  refine (hh.out _).mono ?_
                  rintro e w5 ⟨rfl, rfl⟩
                  go_wp2
                  go_ret
                  exact ⟨by rw [hn.out]; rfl, A4.out⟩
              · skip
                cases t4 : decide (g ≤ V)
                · skip
                  cases tb : S.testBit r
                  · rw [tb] at hh iq
                    have ix : Hid (inX L r = false) := by show _ = _; rw [iX.out]; rw [t1, t2, t3, t4]; rfl
                    have HY := Lib.hid (iq.out (by rw [ix.out]))
                    clear HN HE iX iq ix tb
                    go_wp2_with fail
                    refine (hp.out _).mono ?_
                    rintro e w4 ⟨rfl, hb⟩
                    have A4 := Lib.hid (down HA.out hb)
                    clear hb hp HA
                    go_wp2_with fail
                    refine (hh.out _).mono ?_
                    rintro e w5 ⟨rfl, rfl⟩
                    go_wp2
                    go_roundw
                    case rel => exact ⟨r + 1, by omega, by go_num, HY, A4⟩
                    case measure => simp [intOf]; omega
                  · rw [tb] at hh iq
                    have ix : Hid (inX L r = false) := by show _ = _; rw [iX.out]; rw [t1, t2, t3, t4]; rfl
                    have hn := Lib.hid (HN.out r z (by rw [ix.out]; rw [tb]; decide))
                    clear HN HE iX iq ix tb
                    go_wp2_with fail
                    refine (hp.out _).mono ?_
                    rintro e w4 ⟨rfl, hb⟩
                    have A4 := Lib.hid (down HA.out hb)
                    clear hb hp HA
                    go_wp2_with fail
                    refine (hh.out _).mono ?_
                    rintro e w5 ⟨rfl, rfl⟩
                    go_wp2
                    go_ret
                    exact ⟨by rw [hn.out]; rfl, A4.out⟩
                · skip
                  cases tb : S.testBit r
                  · rw [tb] at hh iq
                    have ix : Hid (inX L r = true) := by show _ = _; rw [iX.out]; rw [t1, t2, t3, t4]; rfl
                    have hn := Lib.hid (HN.out r z (by rw [ix.out]; rw [tb]; decide))
                    clear HN HE iX iq ix tb
                    go_wp2_with fail
                    refine (hp.out _).mono ?_
                    rintro e w4 ⟨rfl, hb⟩
                    have A4 := Lib.hid (down HA.out hb)
                    clear hb hp HA
                    go_wp2_with fail
                    refine (hh.out _).mono ?_
                    rintro e w5 ⟨rfl, rfl⟩
                    go_wp2
                    go_ret
                    exact ⟨by rw [hn.out]; rfl, A4.out⟩
                  · rw [tb] at hh iq
                    have ix : Hid (inX L r = true) := by show _ = _; rw [iX.out]; rw [t1, t2, t3, t4]; rfl
                    have HY := Lib.hid (iq.out (by rw [ix.out]))
                    clear HN HE iX iq ix tb
                    go_wp2_with fail
                    refine (hp.out _).mono ?_
                    rintro e w4 ⟨rfl, hb⟩
                    have A4 := Lib.hid (down HA.out hb)
                    clear hb hp HA
                    go_wp2_with fail
                    refine (hh.out _).mono ?_
                    rintro e w5 ⟨rfl, rfl⟩
                    go_wp2
                    go_roundw
                    case rel => exact ⟨r + 1, by omega, by go_num, HY, A4⟩
                    case measure => simp [intOf]; omega
        · have kz2 : decide ((r : Int) ≤ 12) = false := decide_eq_false (by omega)
          obtain rfl : r = 13 := by omega
          have g := Lib.hid (HE.out.2 HG.out)
          clear HE HN HG HP HH iX1
          go_wp2
          go_ret
          exact ⟨by rw [g.out]; rfl, HA.out⟩
end Go.Proofs.YtiaidmjhgfaobaaDoor
