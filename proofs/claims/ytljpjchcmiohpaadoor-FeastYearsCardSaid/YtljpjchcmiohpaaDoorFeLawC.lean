/- The walk of FeastYears: the Go text returns true, at every input. -/
import Derived.Test.YtljpjchcmiohpaaDoorFeAwake
import Derived.BigQuiet
import Derived.Deep.QuietTactic
import Derived.Deep.Cut
namespace Go.Proofs.YtljpjchcmiohpaaDoor
open Go.RowKit
set_option linter.unusedVariables false

namespace FeastYears
set_option maxRecDepth 100000 in
set_option maxHeartbeats 2000000 in
theorem none (o m d a b A B : Int) (a0 : I64 A) (b0 : I64 B) (hA : (if a < 1 then 1 else a) = A) (hB : (if 9999 < b then 9999 else b) = B) (h : B < A)
    (HL : ∀ w, Tabs w → Calls Tryd.prog 28 #[.int .i64 o, .int .i64 m, .int .i64 d, .int .i64 a, .int .i64 b] w fun e w' => (∃ v, e = .returned v ∧ IntS w.heap.size w' v ([])) ∧ Below w.heap.size w w') (w : World) (ht : Tabs w) :
    Calls Tryd.prog 9 #[.int .i64 o, .int .i64 m, .int .i64 d, .int .i64 a, .int .i64 b] w fun e w' => e = .returned (.bool true) ∧ Below w.heap.size w w' := by
  obtain ⟨g, hg⟩ : ∃ g, wrap64 (B - A) = g := ⟨_, rfl⟩
  have kz : decide (A ≤ B) = false := decide_eq_false (by omega)
  obtain ⟨a1, a2⟩ := a0
  obtain ⟨b1, b2⟩ := b0
  replace HL := Lib.hid HL
  clear h
  cases k : decide (60 < g)
  · skip
    have AW := Lib.hid (fun w ht => awake_all w ht)
    replace ht := Lib.hid ht
    go_enter Tryd.func9, Tryd.ntmps9
    go_wp2_with fail
    refine (AW.out _ (ht.out.below (here w))).mono ?_
    rintro e w1 ⟨rfl, hb⟩
    have A1 := Lib.hid (down (here w) hb)
    clear hb
    go_wp2_with fail
    refine (HL.out _ (ht.out.below A1.out)).mono ?_
    rintro e w2 ⟨⟨v, rfl, hI⟩, hb⟩
    obtain ⟨ao, cc, rfl⟩ := Sl.shape hI
    clear hI
    have A2 := Lib.hid (down A1.out hb)
    clear hb A1
    go_wp2
    go_loop [14, 15] (fun x y => x = .int .i64 0 ∧ y = .int .i64 A) (fun _ _ => 0)
    case atStart => exact ⟨rfl, rfl⟩
    case round =>
      obtain ⟨rfl, rfl⟩ := hrel
      go_wp2
      go_ret
      exact ⟨rfl, by first | exact A2.out | exact grow A2.out _ | exact below_drewN A2.out _ | exact grow (grow A2.out _) _ | exact grow (grow (grow A2.out _) _) _⟩
  · skip
    have AW := Lib.hid (fun w ht => awake_all w ht)
    replace ht := Lib.hid ht
    go_enter Tryd.func9, Tryd.ntmps9
    go_wp2_with fail
    refine (AW.out _ (ht.out.below (here w))).mono ?_
    rintro e w1 ⟨rfl, hb⟩
    have A1 := Lib.hid (down (here w) hb)
    clear hb
    go_wp2
    go_ret
    exact ⟨rfl, by first | exact A1.out | exact grow A1.out _ | exact below_drewN A1.out _ | exact grow (grow A1.out _) _ | exact grow (grow (grow A1.out _) _) _⟩
set_option maxRecDepth 100000 in
set_option maxHeartbeats 2000000 in
theorem good (o m d a b A B : Int) (n : Nat) (ho : I64 o) (hA : (if a < 1 then 1 else a) = A) (hB : (if 9999 < b then 9999 else b) = B) (h : A + n = B + 1) (a0 : 1 ≤ A) (a1 : A ≤ B) (b1 : B ≤ 9999) (k60 : decide (60 < B - A) = false)
    (HL : ∀ w, Tabs w → Calls Tryd.prog 28 #[.int .i64 o, .int .i64 m, .int .i64 d, .int .i64 a, .int .i64 b] w fun e w' => (∃ v, e = .returned v ∧ IntS w.heap.size w' v (flt (fyC o m d) A n)) ∧ Below w.heap.size w w') (w : World) (ht : Tabs w) :
    Calls Tryd.prog 9 #[.int .i64 o, .int .i64 m, .int .i64 d, .int .i64 a, .int .i64 b] w fun e w' => e = .returned (.bool true) ∧ Below w.heap.size w w' := by
  have PC : Hid (∀ y, fyC o m d y = true ↔ fmB y o = true ∧ dtM (feN y + o) = m ∧ dtD (feN y + o) = d) := fun y => fyC_iff
  generalize fyC o m d = p at *
  have LN := flt_len p A
  have AT : ∀ j, j < n → p (A + j) = true → (flt p A j).length < (flt p A n).length ∧ (flt p A n).getD (flt p A j).length 0 = A + j := fun j => flt_at
  have YES : ∀ j : Nat, p (A + j) = true → (flt p A (j + 1)).length = (flt p A j).length + 1 := fun j h => by rw [flt_yes h]; simp
  have NO : ∀ j : Nat, p (A + j) = false → (flt p A (j + 1)).length = (flt p A j).length := fun j h => by rw [flt_no h]
  have Z0 : (flt p A 0).length = 0 := rfl
  have ZN : (flt p A n).length = (flt p A n).length := rfl
  have n61 : n ≤ 61 := by have := of_decide_eq_false k60; omega
  obtain ⟨f, hf⟩ : ∃ f : Nat → Nat, ∀ j, (flt p A j).length = f j := ⟨_, fun _ => rfl⟩
  have ZL : Hid ((flt p A n).length = f n) := hf n
  generalize hxs : flt p A n = xs at *
  simp only [hf] at LN YES NO Z0 AT
  replace LN := Lib.hid LN
  replace AT := Lib.hid AT
  replace YES := Lib.hid YES
  replace NO := Lib.hid NO
  replace Z0 := Lib.hid Z0
  replace ho := Lib.hid ho
  replace HL := Lib.hid HL
  replace h := Lib.hid h
  clear hf ZN hxs
  have AW := Lib.hid (fun w ht => awake_all w ht)
  replace ht := Lib.hid ht
  go_enter Tryd.func9, Tryd.ntmps9
  go_wp2_with fail
  refine (AW.out _ (ht.out.below (here w))).mono ?_
  rintro e w1 ⟨rfl, hb⟩
  have A1 := Lib.hid (down (here w) hb)
  clear hb
  go_wp2_with fail
  refine (HL.out _ (ht.out.below A1.out)).mono ?_
  rintro e w2 ⟨⟨v, rfl, hI⟩, hb⟩
  obtain ⟨ao, cc, rfl⟩ := Sl.shape hI
  have P2 : Hid (IntS 0 w2 (.slice ao xs.length cc) xs) := Sl.weak hI (Nat.zero_le _)
  have A2 := Lib.hid (down A1.out hb)
  clear hI hb A1 HL
  go_wp2
  clear hA hB
  go_loopw [14, 15] (fun x y wr => ∃ (j : Nat) (Y : Int), j ≤ n ∧ x = .int .i64 (f j) ∧ y = .int .i64 Y ∧ Hid (Y = A + j) ∧ Hid (Below w.heap.size w wr) ∧ Hid (IntS 0 wr (.slice ao xs.length cc) xs)) (fun _ y _ => (B + 1 - intOf y).toNat)
  case atStart => exact ⟨0, A, Nat.zero_le _, by rw [Z0.out]; rfl, rfl, by show A = _; simp, A2, P2⟩
  case round =>
    obtain ⟨j, Y, hj, rfl, rfl, HY, AR, PR⟩ := hrel
    clear A2 P2 Z0
    by_cases z : j < n
    · have yb : 1 ≤ Y ∧ Y ≤ B := by have := HY.out; have := h.out; omega
      obtain ⟨yb0, yb1⟩ := yb
      have kz : decide (Y ≤ B) = true := decide_eq_true yb1
      have RM := fun w => rfmv Y o ⟨by omega, by omega⟩ ho.out w
      have pc := PC.out Y
      have fj := LN.out j
      have LY := YES.out j
      have LO := NO.out j
      have at_ := AT.out j z
      rw [← HY.out] at LY LO at_
      have HY1 : Hid (Y + 1 = A + ((j + 1 : Nat) : Int)) := by show _ = _; have := HY.out; omega
      clear PC LN YES NO AT HY
      cases mv : fmB Y o
      · have pf : p Y = false := by
          cases q : p Y
          · rfl
          · rw [mv] at pc; exact absurd (pc.1 q).1 (by simp)
        have L1 := Lib.hid (LO pf)
        have HC := fun w => cdate_all 0 ⟨by omega, by omega⟩ w
        rw [mv, show fmN Y o = 0 by unfold fmN; rw [mv]; rfl] at RM
        generalize cdY 0 = Y' at *
        generalize cdM 0 = M at *
        generalize cdD 0 = D at *
        generalize cdE 0 = E at *
        clear pc LY LO at_ mv pf
        replace RM := Lib.hid RM
        replace HC := Lib.hid HC
        go_wp2_with fail
        refine (RM.out _).mono ?_
        rintro e w3 ⟨rfl, hb⟩
        have A3 := Lib.hid (down AR.out hb)
        have P3 := Lib.hid (PR.out.keep hb)
        clear hb AR PR RM
        go_wp2_with fail
        refine (HC.out _).mono ?_
        rintro e w4 ⟨rfl, hb⟩
        have A4 := Lib.hid (down A3.out hb)
        have P4 := Lib.hid (P3.out.keep hb)
        clear hb A3 P3 HC
        go_wp2
        go_roundw
        case rel => exact ⟨j + 1, Y + 1, z, by rw [L1.out], rfl, HY1, Lib.hid (A4.out.alloc A4.out.size _), Lib.hid (P4.out.keep (grow (here _) _))⟩
        case measure => simp [intOf]; omega
      · have q := fmB_iff.1 mv
        have dy : dyB (feN Y + o) = true := dyB_iff.2 (by omega)
        have HC := fun w => cdate_all (feN Y + o) ⟨by omega, by omega⟩ w
        unfold cdY cdM cdD cdE at HC
        rw [dy] at HC
        simp only [if_true] at HC
        rw [mv, show fmN Y o = feN Y + o by unfold fmN; rw [mv]; rfl] at RM
        rw [mv] at pc
        generalize feN Y + o = N at *
        generalize dtY N = Y' at *
        generalize dtM N = M at *
        generalize dtD N = D at *
        clear dy q mv
        by_cases c1 : M = m
        · have k1 : (M != m) = false := by simpa using c1
          by_cases c2 : D = d
          · have k2 : (D != d) = false := by simpa using c2
            have pt : p Y = true := pc.2 ⟨rfl, c1, c2⟩
            have L1 := Lib.hid (LY pt)
            obtain ⟨at0, at1⟩ := at_ pt
            have k3 : decide ((xs.length : Int) ≤ (f j : Int)) = false := decide_eq_false (by omega)
            clear pc LY LO c1 c2 pt
            replace at1 := Lib.hid at1
            replace RM := Lib.hid RM
            replace HC := Lib.hid HC
            go_wp2_with fail
            refine (RM.out _).mono ?_
            rintro e w3 ⟨rfl, hb⟩
            have A3 := Lib.hid (down AR.out hb)
            have P3 := Lib.hid (PR.out.keep hb)
            clear hb AR PR RM
            go_wp2_with fail
            refine (HC.out _).mono ?_
            rintro e w4 ⟨rfl, hb⟩
            have A4 := Lib.hid (down A3.out hb)
            have P4 := Lib.hid (P3.out.keep hb)
            clear hb A3 P3 HC
            have sl : Sl 0 w4 (.slice ao xs.length cc) xs.length (ints xs) := P4.out
            rcases sl with ⟨hz, -⟩ | ⟨bb, off, cap, hv, -, lies⟩
            · exact absurd hz (by omega)
            obtain ⟨rfl, rfl⟩ : ao = Option.some ⟨bb, off, Option.none⟩ ∧ cc = cap := by injection hv with h1 h2 h3; exact ⟨h1, h3⟩
            have cl : (w4.alloc (.cells #[.int .i64 Y', .int .i64 M, .int .i64 D] 30)).cell? ⟨bb, off + f j, Option.none⟩ = Option.some (.int .i64 Y) := by
              have c := ints_at (lies.keep (grow (here _) (.cells #[.int .i64 Y', .int .i64 M, .int .i64 D] 30))) (f j) at0
              rw [at1.out] at c; exact c
            clear lies hv
            go_wp2
            go_roundw
            case rel => exact ⟨j + 1, Y + 1, z, by rw [L1.out]; go_num, rfl, HY1, Lib.hid (A4.out.alloc A4.out.size _), Lib.hid (P4.out.keep (grow (here _) _))⟩
            case measure => simp [intOf]; omega
          · have k2 : (D != d) = true := by simpa using c2
            have pf : p Y = false := by
              cases q : p Y
              · rfl
              · exact absurd (pc.1 q).2.2 c2
            have L1 := Lib.hid (LO pf)
            clear pc LY LO at_ c1 c2 pf
            replace RM := Lib.hid RM
            replace HC := Lib.hid HC
            go_wp2_with fail
            refine (RM.out _).mono ?_
            rintro e w3 ⟨rfl, hb⟩
            have A3 := Lib.hid (down AR.out hb)
            have P3 := Lib.hid (PR.out.keep hb)
            clear hb AR PR RM
            go_wp2_with fail
            refine (HC.out _).mono ?_
            rintro e w4 ⟨rfl, hb⟩
            have A4 := Lib.hid (down A3.out hb)
            have P4 := Lib.hid (P3.out.keep hb)
            clear hb A3 P3 HC
            go_wp2
            go_roundw
            case rel => exact ⟨j + 1, Y + 1, z, by rw [L1.out], rfl, HY1, Lib.hid (A4.out.alloc A4.out.size _), Lib.hid (P4.out.keep (grow (here _) _))⟩
            case measure => simp [intOf]; omega
        · have k1 : (M != m) = true := by simpa using c1
          have pf : p Y = false := by
            cases q : p Y
            · rfl
            · exact absurd (pc.1 q).2.1 c1
          have L1 := Lib.hid (LO pf)
          clear pc LY LO at_ c1 pf
          replace RM := Lib.hid RM
          replace HC := Lib.hid HC
          go_wp2_with fail
          refine (RM.out _).mono ?_
          rintro e w3 ⟨rfl, hb⟩
          have A3 := Lib.hid (down AR.out hb)
          have P3 := Lib.hid (PR.out.keep hb)
          clear hb AR PR RM
          go_wp2_with fail
          refine (HC.out _).mono ?_
          rintro e w4 ⟨rfl, hb⟩
          have A4 := Lib.hid (down A3.out hb)
          have P4 := Lib.hid (P3.out.keep hb)
          clear hb A3 P3 HC
          go_wp2
          go_roundw
          case rel => exact ⟨j + 1, Y + 1, z, by rw [L1.out], rfl, HY1, Lib.hid (A4.out.alloc A4.out.size _), Lib.hid (P4.out.keep (grow (here _) _))⟩
          case measure => simp [intOf]; omega
    · obtain rfl : j = n := by omega
      have kz : decide (Y ≤ B) = false := decide_eq_false (by have := HY.out; have := h.out; omega)
      have k9 : ((f j : Int) == (xs.length : Int)) = true := by rw [ZL.out]; simp
      clear HY PC LN YES NO AT
      go_wp2
      go_ret
      exact ⟨rfl, AR.out⟩
set_option maxRecDepth 100000 in
set_option maxHeartbeats 2000000 in
theorem walk (o m d a b : Int) (ho : (Lit.int .i64 o).wf = true) (hm : (Lit.int .i64 m).wf = true) (hd : (Lit.int .i64 d).wf = true) (ha : (Lit.int .i64 a).wf = true) (hb : (Lit.int .i64 b).wf = true) (w : World) (ht : Tabs w) :
    Calls Tryd.prog 9 #[.int .i64 o, .int .i64 m, .int .i64 d, .int .i64 a, .int .i64 b] w fun e w' => e = .returned (.bool true) ∧ Below w.heap.size w w' := by
  replace ho := i64_wf ho
  replace hm := i64_wf hm
  replace hd := i64_wf hd
  replace ha := i64_wf ha
  replace hb := i64_wf hb
  have HL := fun w ht => uyears o m d a b ho hm hd ha hb w ht
  obtain ⟨A, hA⟩ : ∃ A, (if a < 1 then 1 else a) = A := ⟨_, rfl⟩
  obtain ⟨B, hB⟩ : ∃ B, (if 9999 < b then 9999 else b) = B := ⟨_, rfl⟩
  have eA : max a 1 = A := by rw [← hA]; split <;> omega
  have eB : min b 9999 = B := by rw [← hB]; split <;> omega
  obtain ⟨a0, a1⟩ := ha
  obtain ⟨b0, b1⟩ := hb
  have A0 : 1 ≤ A ∧ A ≤ 9223372036854775807 := by split at hA <;> omega
  have B0 : -9223372036854775808 ≤ B ∧ B ≤ 9999 := by split at hB <;> omega
  by_cases h : B < A
  · have e : fyL o m d a b = [] := by
      unfold fyL fyF; rw [eA, eB, show rgN A B = 0 by unfold rgN; omega]; rfl
    rw [e] at HL
    exact none o m d a b A B ⟨by omega, by omega⟩ ⟨by omega, by omega⟩ hA hB h HL w ht
  · by_cases h60 : 60 < B - A
    · have k60 : decide (60 < B - A) = true := decide_eq_true h60
      clear HL eA eB ho hm hd
      have AW := Lib.hid (fun w ht => awake_all w ht)
      replace ht := Lib.hid ht
      go_enter Tryd.func9, Tryd.ntmps9
      go_wp2_with fail
      refine (AW.out _ (ht.out.below (here w))).mono ?_
      rintro e w1 ⟨rfl, hb⟩
      have A1 := Lib.hid (down (here w) hb)
      clear hb
      go_wp2
      go_ret
      exact ⟨rfl, by first | exact A1.out | exact grow A1.out _ | exact below_drewN A1.out _ | exact grow (grow A1.out _) _ | exact grow (grow (grow A1.out _) _) _⟩
    · have e : fyL o m d a b = flt (fyC o m d) A (rgN A B) := by
        rw [fyF_take (by rw [eA, eB]; unfold rgN; omega)]; unfold fyF; rw [eA, eB]
      rw [e] at HL
      exact good o m d a b A B (rgN A B) ho hA hB (by unfold rgN; omega) (by omega) (by omega) (by omega) (decide_eq_false h60) HL w ht
end FeastYears
end Go.Proofs.YtljpjchcmiohpaaDoor
