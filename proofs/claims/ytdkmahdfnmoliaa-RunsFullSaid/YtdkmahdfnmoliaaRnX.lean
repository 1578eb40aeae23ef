/- Contracts of civiltimeref12: Of, Apply, Not. -/
import Derived.Test.YtdkmahdfnmoliaaRnW
namespace Go.Proofs.Ytdkmahdfnmoliaa
open Go.RowKit
set_option linter.unusedVariables false

theorem own_prs {w : World} {B : Nat} {v : Value} {L : List Sp} (h : w.ownsRow B 33 2 v L.length (pairs L)) : PairS B w v L := Sl.owns h
theorem prs_nil (B : Nat) (w : World) : PairS B w (.slice none 0 0) [] := Sl.none B w
set_option maxRecDepth 100000 in
set_option maxHeartbeats 1000000 in
theorem rnof (v : Value) (L : List Sp) (hn : L.length ≤ 20000) {base : Nat} (w : World) (h : PairS base w v L) :
    Calls Try.prog 20 #[v] w fun e w' => (∃ v', e = .returned (.tuple #[v', .int .i64 (ruOf L).2]) ∧ PairS w.heap.size w' v' (ruOf L).1) ∧ Below w.heap.size w w' := by
  have HS := rnspans v L (by unfold maxLen; omega) w h
  have HL := Lib.hid h
  cases s : spsB L
  · rw [s] at HS
    have r2 : Hid (ruOf L = ([], 1)) := by show _ = _; unfold ruOf; rw [s]; rfl
    clear h s
    go_enter Try.func20, Try.ntmps20
    go_wp2_with fail
    refine HS.mono ?_
    rintro e w1 ⟨rfl, hb⟩
    go_wp2
    go_ret2
    rw [r2.out]
    exact ⟨⟨_, rfl, prs_nil _ _⟩, hb⟩
  · rw [s] at HS
    have RU : ruOf L = ruFull (cbL 1 L []) := by unfold ruOf; rw [s]; rfl
    have lc0 := (cb_spec 1 L []).2.2.2
    have lc1 : ([] : List Sp).length = 0 := rfl
    clear h s
    go_enter Try.func20, Try.ntmps20
    go_wp2_with fail
    refine HS.mono ?_
    rintro e w1 ⟨rfl, hb⟩
    have A1 := Lib.hid hb
    have HC := rncomb 1 v (.slice none 0 0) L [] hn (by rw [lc1]; omega) w1 (HL.out.keep hb) (prs_nil 0 w1)
    generalize cbL 1 L [] = C at *
    clear hb HS
    go_wp2_with fail
    refine HC.mono ?_
    rintro e w2 ⟨⟨v2, rfl, OC⟩, hbc⟩
    clear HC HL
    have PC := Lib.hid (own_prs OC)
    obtain ⟨oc, cc, rfl⟩ := prs_shape PC.out
    have AC := Lib.hid (down A1.out hbc)
    have rf : Hid (ruOf L = ruFull C) := RU
    clear OC hbc RU
    have lc : C.length ≤ maxLen := by unfold maxLen; omega
    obtain ⟨N, hN⟩ : ∃ N, C.length = N := ⟨_, rfl⟩
    have FU := Lib.hid (fun w => rnfull oc N cc (by rw [← hN]; exact lc) w)
    rw [hN] at PC
    by_cases big : 2000 < N
    · have r2 : Hid (ruOf L = ([], 5)) := by show _ = _; rw [rf.out]; unfold ruFull; rw [hN, if_pos big]
      rw [if_pos big] at FU
      go_wp2_with fail
      refine (FU.out _).mono ?_
      rintro e w3 ⟨rfl, rfl⟩
      go_wp2
      go_ret2
      rw [r2.out]
      exact ⟨⟨_, rfl, prs_nil _ _⟩, AC.out⟩
    · have r2 : Hid (ruOf L = (C, 0)) := by show _ = _; rw [rf.out]; unfold ruFull; rw [hN, if_neg big]
      rw [if_neg big] at FU
      go_wp2_with fail
      refine (FU.out _).mono ?_
      rintro e w3 ⟨rfl, rfl⟩
      go_wp2
      go_ret2
      rw [r2.out]
      have PZ := PC.out
      rw [← hN] at PZ ⊢
      exact ⟨⟨_, rfl, PZ.weak A1.out.size⟩, AC.out⟩
set_option maxRecDepth 100000 in
set_option maxHeartbeats 1000000 in
theorem rnapply (kind : Int) (va vb : Value) (A B : List Sp) (hA : A.length ≤ maxLen) (hB : B.length ≤ maxLen) {ba bb : Nat} (w : World) (ha : PairS ba w va A) (hb : PairS bb w vb B) :
    Calls Try.prog 23 #[.int .i64 kind, va, vb] w fun e w' => (∃ v', e = .returned (.tuple #[v', .int .i64 (ruAp kind A B).2]) ∧ PairS w.heap.size w' v' (ruAp kind A B).1) ∧ Below w.heap.size w w' := by
  have VA := rnvalid va A hA w ha
  have VB := Lib.hid (fun w (h : PairS bb w vb B) => rnvalid vb B hB w h)
  have HA := Lib.hid ha
  have HB := Lib.hid hb
  clear ha hb
  cases p : vaB A
  · rw [p] at VA
    have r2 : Hid (ruAp kind A B = ([], 1)) := ap_arg (by rw [p]; rfl)
    clear p VB HA HB
    go_enter Try.func23, Try.ntmps23
    go_wp2_with fail
    refine VA.mono ?_
    rintro e w1 ⟨rfl, hb⟩
    go_wp2
    go_ret2
    rw [r2.out]
    exact ⟨⟨_, rfl, prs_nil _ _⟩, hb⟩
  cases q : vaB B
  · rw [p] at VA
    rw [q] at VB
    have r2 : Hid (ruAp kind A B = ([], 1)) := ap_arg (by rw [p, q]; rfl)
    clear p q HA
    go_enter Try.func23, Try.ntmps23
    go_wp2_with fail
    refine VA.mono ?_
    rintro e w1 ⟨rfl, hb⟩
    have P1 := HB.out.keep hb
    go_wp2_with fail
    refine (VB.out _ P1).mono ?_
    rintro e w2 ⟨rfl, hb2⟩
    go_wp2
    go_ret2
    rw [r2.out]
    exact ⟨⟨_, rfl, prs_nil _ _⟩, down hb hb2⟩
  · rw [p] at VA
    rw [q] at VB
    have RU : ruAp kind A B = ruFull (cbL kind A B) := by unfold ruAp; rw [p, q]; rfl
    have lc0 := (cb_spec kind A B).2.2.2
    have la := va_len p
    have lb := va_len q
    clear p q
    go_enter Try.func23, Try.ntmps23
    go_wp2_with fail
    refine VA.mono ?_
    rintro e w1 ⟨rfl, hb⟩
    have P1 := HB.out.keep hb
    have Q1 := HA.out.keep hb
    clear VA
    go_wp2_with fail
    refine (VB.out _ P1).mono ?_
    rintro e w2 ⟨rfl, hb2⟩
    have A1 := Lib.hid (down hb hb2)
    have HC := rncomb kind va vb A B (by omega) (by omega) w2 (Q1.keep hb2) (P1.keep hb2)
    generalize cbL kind A B = C at *
    clear hb hb2 P1 Q1 VB
    go_wp2_with fail
    refine HC.mono ?_
    rintro e w3 ⟨⟨v2, rfl, OC⟩, hbc⟩
    clear HC HA HB
    have PC := Lib.hid (own_prs OC)
    obtain ⟨oc, cc, rfl⟩ := prs_shape PC.out
    have AC := Lib.hid (down A1.out hbc)
    have rf : Hid (ruAp kind A B = ruFull C) := RU
    clear OC hbc RU
    have lc : C.length ≤ maxLen := by unfold maxLen; omega
    obtain ⟨N, hN⟩ : ∃ N, C.length = N := ⟨_, rfl⟩
    have FU := Lib.hid (fun w => rnfull oc N cc (by rw [← hN]; exact lc) w)
    rw [hN] at PC
    by_cases big : 2000 < N
    · have r2 : Hid (ruAp kind A B = ([], 5)) := by show _ = _; rw [rf.out]; unfold ruFull; rw [hN, if_pos big]
      rw [if_pos big] at FU
      go_wp2_with fail
      refine (FU.out _).mono ?_
      rintro e w3 ⟨rfl, rfl⟩
      go_wp2
      go_ret2
      rw [r2.out]
      exact ⟨⟨_, rfl, prs_nil _ _⟩, AC.out⟩
    · have r2 : Hid (ruAp kind A B = (C, 0)) := by show _ = _; rw [rf.out]; unfold ruFull; rw [hN, if_neg big]
      rw [if_neg big] at FU
      go_wp2_with fail
      refine (FU.out _).mono ?_
      rintro e w3 ⟨rfl, rfl⟩
      go_wp2
      go_ret2
      rw [r2.out]
      have PZ := PC.out
      rw [← hN] at PZ ⊢
      exact ⟨⟨_, rfl, PZ.weak A1.out.size⟩, AC.out⟩
end Go.Proofs.Ytdkmahdfnmoliaa
