/- Contracts of civiltimeref12: Not. -/
import Derived.Test.YtdkmahdfnmoliaaRnX
namespace Go.Proofs.Ytdkmahdfnmoliaa
open Go.RowKit
set_option linter.unusedVariables false

theorem two_prs {w : World} {b : Nat} {p : Sp} {B : Nat} (h : Two w b (.int .i64 p.1) (.int .i64 p.2)) (hB : B ≤ b) : PairS B w (.slice (some ⟨b, 0, none⟩) 1 1) [p] := by
  refine .inr ⟨b, 0, 1, rfl, hB, h.lt, fun j u hj => ?_⟩
  match j, hj with
  | 0, hj => cases hj; exact h.c0
  | 1, hj => cases hj; exact h.c1
  | j + 2, hj => simp [pairs] at hj
set_option maxRecDepth 100000 in
set_option maxHeartbeats 1000000 in
theorem rnnot (va : Value) (A : List Sp) (hA : A.length ≤ maxLen) (x y : Int) {ba : Nat} (w : World) (ha : PairS ba w va A) :
    Calls Try.prog 28 #[va, .agg #[.int .i64 x, .int .i64 y]] w fun e w' => (∃ v', e = .returned (.tuple #[v', .int .i64 (ruNot A (x, y)).2]) ∧ PairS w.heap.size w' v' (ruNot A (x, y)).1) ∧ Below w.heap.size w w' := by
  have A0 := grow (here w) (.cells #[.int .i64 x, .int .i64 y] 33)
  have T0 := Two.new (here (w.alloc (.cells #[.int .i64 x, .int .i64 y] 33)))
  have VA := rnvalid va A hA _ (ha.keep A0)
  have HA := Lib.hid (ha.keep A0)
  have VS := Lib.hid (fun w => rnspan x y w)
  clear ha
  replace A0 := Lib.hid A0
  replace T0 := Lib.hid T0
  cases p : vaB A
  · rw [p] at VA
    have r2 : Hid (ruNot A (x, y) = ([], 1)) := by show _ = _; unfold ruNot; rw [p]; rfl
    clear p VS HA T0
    go_enter Try.func28, Try.ntmps28
    go_wp2_with fail
    refine VA.mono ?_
    rintro e w1 ⟨rfl, hb⟩
    go_wp2
    go_ret2
    rw [r2.out]
    exact ⟨⟨_, rfl, prs_nil _ _⟩, down A0.out hb⟩
  cases q : spB (x, y)
  · rw [p] at VA
    rw [q] at VS
    have r2 : Hid (ruNot A (x, y) = ([], 1)) := by show _ = _; unfold ruNot; rw [p, q]; rfl
    clear p q HA
    go_enter Try.func28, Try.ntmps28
    go_wp2_with fail
    refine VA.mono ?_
    rintro e w1 ⟨rfl, hb⟩
    obtain ⟨t0, t1, tl⟩ := T0.out.keep hb
    go_wp2_with fail
    refine (VS.out _).mono ?_
    rintro e w2 ⟨rfl, hb2⟩
    go_wp2
    go_ret2
    rw [r2.out]
    exact ⟨⟨_, rfl, prs_nil _ _⟩, down (down A0.out hb) hb2⟩
  · rw [p] at VA
    rw [q] at VS
    have RU : ruNot A (x, y) = ruFull (cbL 3 [(x, y)] A) := by unfold ruNot; rw [p, q]; rfl
    have lc0 := (cb_spec 3 [(x, y)] A).2.2.2
    have la := va_len p
    have lc1 : [(x, y)].length = 1 := rfl
    clear p q
    go_enter Try.func28, Try.ntmps28
    go_wp2_with fail
    refine VA.mono ?_
    rintro e w1 ⟨rfl, hb⟩
    have T1 := T0.out.keep hb
    obtain ⟨t0, t1, tl⟩ := T1
    have Q1 := HA.out.keep hb
    clear VA
    go_wp2_with fail
    refine (VS.out _).mono ?_
    rintro e w2 ⟨rfl, hb2⟩
    obtain ⟨t0, t1, tl⟩ := (Two.mk t0 t1 tl).keep hb2
    have AA := down (down A0.out hb) hb2
    have A1 := Lib.hid (grow AA (.cells #[.int .i64 x, .int .i64 y] 33))
    have HC := rncomb 3 (.slice (some ⟨w2.heap.size, 0, none⟩) 1 1) va [(x, y)] A (by rw [lc1]; omega) (by omega) _ (two_prs (Two.new (here (w2.alloc (.cells #[.int .i64 x, .int .i64 y] 33)))) (Nat.zero_le _)) ((Q1.keep hb2).keep (grow (here _) (.cells #[.int .i64 x, .int .i64 y] 33)))
    generalize cbL 3 [(x, y)] A = C at *
    clear hb hb2 Q1 VS AA T0
    go_wp2_with fail
    refine HC.mono ?_
    rintro e w3 ⟨⟨v2, rfl, OC⟩, hbc⟩
    clear HC HA
    have PC := Lib.hid (own_prs OC)
    obtain ⟨oc, cc, rfl⟩ := prs_shape PC.out
    have AC := Lib.hid (down A1.out hbc)
    have rf : Hid (ruNot A (x, y) = ruFull C) := RU
    clear OC hbc RU
    have lc : C.length ≤ maxLen := by unfold maxLen; omega
    obtain ⟨N, hN⟩ : ∃ N, C.length = N := ⟨_, rfl⟩
    have FU := Lib.hid (fun w => rnfull oc N cc (by rw [← hN]; exact lc) w)
    rw [hN] at PC
    by_cases big : 2000 < N
    · have r2 : Hid (ruNot A (x, y) = ([], 5)) := by show _ = _; rw [rf.out]; unfold ruFull; rw [hN, if_pos big]
      rw [if_pos big] at FU
      go_wp2_with fail
      refine (FU.out _).mono ?_
      rintro e w3 ⟨rfl, rfl⟩
      go_wp2
      go_ret2
      rw [r2.out]
      exact ⟨⟨_, rfl, prs_nil _ _⟩, AC.out⟩
    · have r2 : Hid (ruNot A (x, y) = (C, 0)) := by show _ = _; rw [rf.out]; unfold ruFull; rw [hN, if_neg big]
      rw [if_neg big] at FU
      go_wp2_with fail
      refine (FU.out _).mono ?_
      rintro e w3 ⟨rfl, rfl⟩
      go_wp2
      go_ret2
      rw [r2.out]
      have PZ := PC.out
      rw [← hN] at PZ ⊢
      exact ⟨⟨_, rfl, PZ.weak A1.out.size⟩, AC.out⟩
end Go.Proofs.Ytdkmahdfnmoliaa
