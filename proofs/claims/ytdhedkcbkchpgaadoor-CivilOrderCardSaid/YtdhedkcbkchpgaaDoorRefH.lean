/- The contract of the reference's Nth. -/
import Derived.Test.YtdhedkcbkchpgaaDoorRefC
import Derived.WalkLawsBesides
namespace Go.Proofs.YtdhedkcbkchpgaaDoor
open Go.RowKit
set_option linter.unusedVariables false
/-- The day counted from the first of the month, and the error number. -/
def nthD (s l o n : Int) : Int := if o + 7 * (n - 1) < l then s + o + 7 * (n - 1) else 0
def nthE (l o n : Int) : Int := if o + 7 * (n - 1) < l then 0 else 7
set_option maxHeartbeats 800000 in
theorem refnth_bad (y mo v n : Int) (hy : I64 y) (hm : I64 mo) (hv : I64 v) (h : lenM y mo = 0 ∨ v < 1 ∨ 7 < v ∨ n = 0) (w : World) :
    Calls Tryd.prog 32 #[.int .i64 y, .int .i64 mo, .int .i64 v, .int .i64 n] w fun e w' => e = .returned (.tuple #[.int .i64 0, .int .i64 1]) ∧ Below w.heap.size w w' := by
  have HL := Lib.hid (fun w => reflen y mo hy.1 hy.2 hm.1 hm.2 w)
  generalize lenM y mo = l at *
  obtain ⟨a, ha⟩ : ∃ a, (l == 0) = a := ⟨_, rfl⟩
  obtain ⟨b, hb⟩ : ∃ a, decide (v < 1) = a := ⟨_, rfl⟩
  obtain ⟨c, hc⟩ : ∃ a, decide (7 < v) = a := ⟨_, rfl⟩
  obtain ⟨d, hd⟩ : ∃ a, (n == 0) = a := ⟨_, rfl⟩
  have ho : (((a || b) || c) || d) = true := by rw [← ha, ← hb, ← hc, ← hd]; simp only [Bool.or_eq_true, decide_eq_true_eq, beq_iff_eq]; omega
  clear h
  go_enter Tryd.func32, Tryd.ntmps32
  go_wp2_with fail
  refine (HL.out _).mono ?_
  rintro e w' ⟨rfl, rfl⟩
  cases a <;> cases b <;> cases c <;> cases d <;> first | (exact absurd ho (by decide)) | skip
  all_goals clear ho
  all_goals go_wp2
  all_goals exact bodyPost_ret (v := .tuple #[.int .i64 0, .int .i64 1]) (by simp [results, Tryd.results32, go_sem]) rfl ⟨rfl, Below.refl _ _⟩
theorem nth_wkd {s l b : Int} (r0 : -719162 ≤ s) (r1 : s + l ≤ 2932897) (b0 : 0 ≤ b) (b1 : b < l) : wkd (s + b) = (s + b + 719162) % 7 + 1 := by
  unfold wkd; rw [if_neg (by omega)]
set_option maxHeartbeats 1600000 in
/-- Counted from the first day of the month. -/
theorem refnth_pos (y mo v n s l o : Int) (hl : lenM y mo = l) (hs : dayN y mo 1 = s) (l0 : 1 ≤ l) (v0 : 1 ≤ v) (v1 : v ≤ 7) (n0 : 1 ≤ n) (n1 : I64 n) (ho : (v - 1 - (s + 719162)) % 7 = o) (w : World) :
    Calls Tryd.prog 32 #[.int .i64 y, .int .i64 mo, .int .i64 v, .int .i64 n] w fun e w' =>
      e = .returned (.tuple #[.int .i64 (nthD s l o n), .int .i64 (nthE l o n)]) ∧ Below w.heap.size w w' := by
  have hv : vld y mo 1 = true := vld_iff.2 ⟨by omega, by omega⟩
  have hve : vld y mo l = true := vld_iff.2 ⟨by omega, by omega⟩
  obtain ⟨y0, y1, m0, m1, -, -⟩ := vld_bd hv
  obtain ⟨-, -, -, -, -, l1⟩ := vld_bd hve
  have r0 := (day_range hv).1
  have r1 := (day_range hve).2
  have hse : dayN y mo l = s + l - 1 := by rw [← hs]; unfold dayN; omega
  rw [hse] at r1
  rw [hs] at r0
  have HL := fun w => reflen y mo (by omega) (by omega) (by omega) (by omega) w
  rw [hl] at HL
  replace HL := Lib.hid HL
  have HD := fun w => refday_yes y mo 1 hv w
  rw [hs] at HD
  replace HD := Lib.hid HD
  have HW := Lib.hid (fun b (h : -9223372036854775808 ≤ s + b ∧ s + b ≤ 9223372036854775807) w => refweekday (s + b) h.1 h.2 w)
  clear hs hl hse hv hve
  have k1 : (l == 0) = false := by simp; omega
  have k2 : decide (v < 1) = false := decide_eq_false (by omega)
  have k3 : decide (7 < v) = false := decide_eq_false (by omega)
  have k4 : (n == 0) = false := by simp; omega
  have k5 : decide (n < 0) = false := decide_eq_false (by omega)
  go_enter Tryd.func32, Tryd.ntmps32
  go_wp2_with fail
  refine (HL.out _).mono ?_
  rintro e w' ⟨rfl, rfl⟩
  go_wp2_with fail
  refine (HD.out _).mono ?_
  rintro e w1 ⟨rfl, hb2⟩
  go_wp2
  obtain ⟨n2, n3⟩ := n1
  go_loop [13, 14] (fun a b => ∃ (c i : Int), 0 ≤ i ∧ i ≤ l ∧ c = (i + 6 - o) / 7 ∧ c < n ∧ a = .int .i64 c ∧ b = .int .i64 i) (fun _ b => (l - intOf b).toNat)
  case atStart => exact ⟨0, 0, by omega, by omega, by omega, by omega, rfl, rfl⟩
  case round =>
    obtain ⟨c, i, i0, i1, hc, hn, rfl, rfl⟩ := hrel
    by_cases z : i < l
    · have zk : decide (i < l) = true := decide_eq_true z
      have hw := nth_wkd (l := l) r0 (by omega) i0 z
      have HQ := fun w => HW.out i ⟨by omega, by omega⟩ w
      generalize wkd (s + i) = q at *
      replace HQ := Lib.hid HQ
      by_cases e1 : q = v
      · have ek : (q == v) = true := by simp [e1]
        have hc2 : Hid (c + 1 = (i + 1 + 6 - o) / 7) := by show c + 1 = (i + 1 + 6 - o) / 7; omega
        have hi : i = o + 7 * c := by omega
        have e3 : (0 - (c + 1) == n) = false := by simp; omega
        by_cases e2 : c + 1 = n
        · have e2k : (c + 1 == n) = true := by simp [e2]
          have hD : Hid (nthD s l o n = s + i) := by show nthD s l o n = s + i; unfold nthD; rw [if_pos (by omega)]; omega
          have hE : Hid (nthE l o n = 0) := by show nthE l o n = 0; unfold nthE; rw [if_pos (by omega)]
          have c0 : 0 ≤ c := by omega
          clear hw hc hc2 hi e1 e2
          go_wp2_with fail
          refine (HQ.out _).mono ?_
          rintro e w' ⟨rfl, rfl⟩
          go_wp2
          exact bodyPost_ret (v := .tuple #[.int .i64 (s + i), .int .i64 0]) (by simp [results, Tryd.results32, go_sem]) rfl ⟨by rw [hD.out, hE.out], hb2⟩
        · have e2k : (c + 1 == n) = false := by simp; omega
          have c0 : 0 ≤ c := by omega
          have c1 : c + 1 < n := by omega
          have i2 : i + 1 ≤ l := by omega
          clear hw hc hi e1 e2
          go_wp2_with fail
          refine (HQ.out _).mono ?_
          rintro e w' ⟨rfl, rfl⟩
          go_wp2
          go_round
          case rel => exact ⟨c + 1, i + 1, by omega, i2, hc2.out, c1, rfl, rfl⟩
          case measure => simp [intOf]; omega
      · have ek : (q == v) = false := by simp [e1]
        have hc2 : Hid (c = (i + 1 + 6 - o) / 7) := by show c = (i + 1 + 6 - o) / 7; omega
        have i2 : i + 1 ≤ l := by omega
        clear hw hc e1
        go_wp2_with fail
        refine (HQ.out _).mono ?_
        rintro e w' ⟨rfl, rfl⟩
        go_wp2
        go_round
        case rel => exact ⟨c, i + 1, by omega, i2, hc2.out, hn, rfl, rfl⟩
        case measure => simp [intOf]; omega
    · have zk : decide (i < l) = false := decide_eq_false z
      have hD : Hid (nthD s l o n = 0) := by show nthD s l o n = 0; unfold nthD; rw [if_neg (by omega)]
      have hE : Hid (nthE l o n = 7) := by show nthE l o n = 7; unfold nthE; rw [if_neg (by omega)]
      go_wp2
      exact bodyPost_ret (v := .tuple #[.int .i64 0, .int .i64 7]) (by simp [results, Tryd.results32, go_sem]) rfl ⟨by rw [hD.out, hE.out], hb2⟩
/-- The day counted from the last of the month. -/
def nthB (s l o n : Int) : Int := if o + 7 * (n - 1) < l then s + l - 1 - (o + 7 * (n - 1)) else 0
theorem nth_wkdB {s l b : Int} (r0 : -719162 ≤ s) (r1 : s + l ≤ 2932897) (b0 : 0 ≤ b) (b1 : b < l) : wkd (s + l - 1 - b) = (s + l - 1 - b + 719162) % 7 + 1 := by
  unfold wkd; rw [if_neg (by omega)]
set_option maxHeartbeats 1600000 in
/-- Counted from the last day of the month. -/
theorem refnth_neg (y mo v n s l o : Int) (hl : lenM y mo = l) (hs : dayN y mo 1 = s) (l0 : 1 ≤ l) (v0 : 1 ≤ v) (v1 : v ≤ 7) (n0 : n < 0) (n1 : I64 n) (ho : (s + l - 1 + 719162 - (v - 1)) % 7 = o) (w : World) :
    Calls Tryd.prog 32 #[.int .i64 y, .int .i64 mo, .int .i64 v, .int .i64 n] w fun e w' =>
      e = .returned (.tuple #[.int .i64 (nthB s l o (-n)), .int .i64 (nthE l o (-n))]) ∧ Below w.heap.size w w' := by
  have hv : vld y mo 1 = true := vld_iff.2 ⟨by omega, by omega⟩
  have hve : vld y mo l = true := vld_iff.2 ⟨by omega, by omega⟩
  obtain ⟨y0, y1, m0, m1, -, -⟩ := vld_bd hv
  obtain ⟨-, -, -, -, -, l1⟩ := vld_bd hve
  have r0 := (day_range hv).1
  have r1 := (day_range hve).2
  have hse : dayN y mo l = s + l - 1 := by rw [← hs]; unfold dayN; omega
  rw [hse] at r1
  rw [hs] at r0
  have HL := fun w => reflen y mo (by omega) (by omega) (by omega) (by omega) w
  rw [hl] at HL
  replace HL := Lib.hid HL
  have HD := fun w => refday_yes y mo 1 hv w
  rw [hs] at HD
  replace HD := Lib.hid HD
  have HW := Lib.hid (fun b (h : -9223372036854775808 ≤ s + l - 1 - b ∧ s + l - 1 - b ≤ 9223372036854775807) w => refweekday (s + l - 1 - b) h.1 h.2 w)
  clear hs hl hse hv hve
  have k1 : (l == 0) = false := by simp; omega
  have k2 : decide (v < 1) = false := decide_eq_false (by omega)
  have k3 : decide (7 < v) = false := decide_eq_false (by omega)
  have k4 : (n == 0) = false := by simp; omega
  have k5 : decide (n < 0) = true := decide_eq_true n0
  go_enter Tryd.func32, Tryd.ntmps32
  go_wp2_with fail
  refine (HL.out _).mono ?_
  rintro e w' ⟨rfl, rfl⟩
  go_wp2_with fail
  refine (HD.out _).mono ?_
  rintro e w1 ⟨rfl, hb2⟩
  go_wp2
  obtain ⟨n2, n3⟩ := n1
  go_loop [13, 14] (fun a b => ∃ (c i : Int), 0 ≤ i ∧ i ≤ l ∧ c = (i + 6 - o) / 7 ∧ c < -n ∧ a = .int .i64 c ∧ b = .int .i64 i) (fun _ b => (l - intOf b).toNat)
  case atStart => exact ⟨0, 0, by omega, by omega, by omega, by omega, rfl, rfl⟩
  case round =>
    obtain ⟨c, i, i0, i1, hc, hn, rfl, rfl⟩ := hrel
    by_cases z : i < l
    · have zk : decide (i < l) = true := decide_eq_true z
      have hw := nth_wkdB (l := l) r0 (by omega) i0 z
      have HQ := fun w => HW.out i ⟨by omega, by omega⟩ w
      generalize wkd (s + l - 1 - i) = q at *
      replace HQ := Lib.hid HQ
      by_cases e1 : q = v
      · have ek : (q == v) = true := by simp [e1]
        have hc2 : Hid (c + 1 = (i + 1 + 6 - o) / 7) := by show c + 1 = (i + 1 + 6 - o) / 7; omega
        have hi : i = o + 7 * c := by omega
        have e3 : (c + 1 == n) = false := by simp; omega
        by_cases e2 : -(c + 1) = n
        · have e2k : (-(c + 1) == n) = true := by rw [e2]; simp
          have hD : Hid (nthB s l o (-n) = s + l - 1 - i) := by show nthB s l o (-n) = s + l - 1 - i; unfold nthB; rw [if_pos (by omega)]; omega
          have hE : Hid (nthE l o (-n) = 0) := by show nthE l o (-n) = 0; unfold nthE; rw [if_pos (by omega)]
          have c0 : 0 ≤ c ∧ c ≤ 6 := by omega
          clear hw hc hc2 hi e1 e2
          go_wp2_with fail
          refine (HQ.out _).mono ?_
          rintro e w' ⟨rfl, rfl⟩
          go_wp2
          exact bodyPost_ret (v := .tuple #[.int .i64 (s + l - 1 - i), .int .i64 0]) (by simp [results, Tryd.results32, go_sem]) rfl ⟨by rw [hD.out, hE.out], hb2⟩
        · have e2k : (-(c + 1) == n) = false := beq_eq_false_iff_ne.2 e2
          have c0 : 0 ≤ c ∧ c ≤ 6 := by omega
          have c1 : c + 1 < -n := by omega
          have i2 : i + 1 ≤ l := by omega
          clear hw hc hi e1 e2
          go_wp2_with fail
          refine (HQ.out _).mono ?_
          rintro e w' ⟨rfl, rfl⟩
          go_wp2
          go_round
          case rel => exact ⟨c + 1, i + 1, by omega, i2, hc2.out, c1, rfl, rfl⟩
          case measure => simp [intOf]; omega
      · have ek : (q == v) = false := by simp [e1]
        have hc2 : Hid (c = (i + 1 + 6 - o) / 7) := by show c = (i + 1 + 6 - o) / 7; omega
        have i2 : i + 1 ≤ l := by omega
        clear hw hc e1
        go_wp2_with fail
        refine (HQ.out _).mono ?_
        rintro e w' ⟨rfl, rfl⟩
        go_wp2
        go_round
        case rel => exact ⟨c, i + 1, by omega, i2, hc2.out, hn, rfl, rfl⟩
        case measure => simp [intOf]; omega
    · have zk : decide (i < l) = false := decide_eq_false z
      have hD : Hid (nthB s l o (-n) = 0) := by show nthB s l o (-n) = 0; unfold nthB; rw [if_neg (by omega)]
      have hE : Hid (nthE l o (-n) = 7) := by show nthE l o (-n) = 7; unfold nthE; rw [if_neg (by omega)]
      go_wp2
      exact bodyPost_ret (v := .tuple #[.int .i64 0, .int .i64 7]) (by simp [results, Tryd.results32, go_sem]) rfl ⟨by rw [hD.out, hE.out], hb2⟩
end Go.Proofs.YtdhedkcbkchpgaaDoor
