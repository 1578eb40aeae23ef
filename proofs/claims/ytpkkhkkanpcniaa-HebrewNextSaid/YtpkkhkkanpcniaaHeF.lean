/- Contracts of civiltimeref07: First, Valid, Day. -/
import Derived.Test.YtpkkhkkanpcniaaHeO
import Derived.OwnWalk
namespace Go.Proofs.Ytpkkhkkanpcniaa
open Go.RowKit
set_option linter.unusedVariables false

theorem rhord (y : Int) (h : hyr y = true) (w : World) :
    Calls Try.prog 60 #[.int .i64 y] w fun e w' => (∃ v, e = .returned v ∧ IntS w.heap.size w' v (hord (hlp y))) ∧ Below w.heap.size w w' := by
  obtain ⟨y0, y1⟩ := hyr_iff.1 h
  rcases hmn_in h with ⟨a, b⟩ | ⟨a, b⟩ <;> rw [a]
  · rw [← hordX_13]; exact rhordX y 13 (by rw [b]; rfl) ⟨by omega, by omega⟩ w
  · rw [← hordX_12]; exact rhordX y 12 (by rw [b]; rfl) ⟨by omega, by omega⟩ w
theorem rhord_out (y : Int) (hy : I64 y) (h : hyr y = false) (w : World) :
    Calls Try.prog 60 #[.int .i64 y] w fun e w' => (∃ v, e = .returned v ∧ IntS w.heap.size w' v [1, 2, 3, 4, 5, 6]) ∧ Below w.heap.size w w' := by
  rw [← hordX_0]; exact rhordX y 0 (by rw [hmn_out h]; rfl) hy w
/-- What a year's order gives, place by place. -/
theorem hord_facts {y : Int} (h : hyr y = true) : ∀ i : Nat, i < hcn (hlp y) → 1 ≤ (hord (hlp y)).getD i 0 ∧ (hord (hlp y)).getD i 0 ≤ 13 ∧ hpos (hlp y) ((hord (hlp y)).getD i 0) = i ∧ hS (hlp y) (hyl y) (i + 1) = hS (hlp y) (hyl y) i + hlenM y ((hord (hlp y)).getD i 0) ∧ 0 ≤ hlenM y ((hord (hlp y)).getD i 0) ∧ hlenM y ((hord (hlp y)).getD i 0) ≤ 30 := fun i hi => by
  have a := hord_at hi
  have b := hS_succ (hlp y) (hyl y) i hi
  have c : hcn (hlp y) ≤ 13 := by cases hlp y <;> decide
  rw [← hlenM_at h a.1 (by rw [hmn_cn h]; exact a.2.1)] at b
  have d := hlenM_bd y ((hord (hlp y)).getD i 0)
  exact ⟨a.1, by omega, a.2.2, b, d.1, d.2⟩
set_option maxHeartbeats 1000000 in
theorem rhfirst (y m : Int) (h : hyr y = true) (m0 : 1 ≤ m) (m1 : m ≤ hmn y) (w : World) :
    Calls Try.prog 53 #[.int .i64 y, .int .i64 m] w fun e w' => e = .returned (.int .i64 (hfst y m)) ∧ Below w.heap.size w w' := by
  obtain ⟨y0, y1⟩ := hyr_iff.1 h
  have HN := fun w => rhN y (by omega) (by omega) w
  have HO := fun w => rhord y h w
  have HL := Lib.hid (fun m (m0 : 1 ≤ m) (m1 : m ≤ 13) w => rhlen y m ⟨by omega, by omega⟩ ⟨by omega, by omega⟩ w)
  have cn13 : hcn (hlp y) ≤ 13 := by cases hlp y <;> decide
  rw [hmn_cn h] at m1
  obtain ⟨p0, p1⟩ := hpos_at m0 m1
  have ne : ∀ i : Nat, i < hpos (hlp y) m → ¬ (hord (hlp y)).getD i 0 = m := fun i hi e => by
    have := (hord_at (show i < hcn (hlp y) by omega)).2.2
    rw [e] at this; omega
  have fa := hord_facts h
  have sb : ∀ i : Nat, i ≤ hcn (hlp y) → 0 ≤ hS (hlp y) (hyl y) i ∧ hS (hlp y) (hyl y) i ≤ 400 := fun i hi => hS_bd hi
  have s0 := hS_zero (hlp y) (hyl y)
  have nb := hN_any (y := y) (by omega) (by omega)
  have ln := hord_len (hlp y)
  unfold hfst
  have m13 : m ≤ 13 := by omega
  generalize hS (hlp y) (hyl y) = G at *
  generalize hpos (hlp y) m = P at *
  generalize hcn (hlp y) = n at *
  generalize hord (hlp y) = zs at *
  generalize hN y = B at *
  have HT : Hid (∀ i : Nat, i < n → 1 ≤ zs.getD i 0 ∧ zs.getD i 0 ≤ 13 ∧ G (i + 1) = G i + hlenM y (zs.getD i 0) ∧ 0 ≤ hlenM y (zs.getD i 0) ∧ hlenM y (zs.getD i 0) ≤ 30) := fun i hi => ⟨(fa i hi).1, (fa i hi).2.1, (fa i hi).2.2.2.1, (fa i hi).2.2.2.2.1, (fa i hi).2.2.2.2.2⟩
  have SB := Lib.hid sb
  have NE := Lib.hid ne
  have LN : Hid (zs.length = n) := ln
  have P1 : Hid (zs.getD P 0 = m) := p1
  have S0 := Lib.hid s0
  replace HN := Lib.hid HN
  replace HO := Lib.hid HO
  obtain ⟨nb0, nb1⟩ := nb
  clear fa sb s0 ne ln p1 m1 h
  go_enter Try.func53, Try.ntmps53
  go_wp2_with fail
  refine (HN.out _).mono ?_
  rintro e w1 ⟨rfl, rfl⟩
  go_wp2_with fail
  refine (HO.out _).mono ?_
  rintro e w1 ⟨⟨v, rfl, hI⟩, hb⟩
  rcases hI with ⟨hz, -⟩ | ⟨b, off, c, rfl, -, lies⟩
  · exact absurd hz (by have := LN.out; omega)
  rw [LN.out]
  have C1 := Lib.hid (fun j (hj : j < n) => ints_at lies j (by have := LN.out; omega))
  have A1 := Lib.hid hb
  clear lies hb HN HO
  go_wp2
  go_loop [5, 7] (fun a b => ∃ i : Nat, i ≤ P ∧ a = .int .i64 (B + G i) ∧ b = .int .i64 i) (fun _ b => (100 - intOf b).toNat)
  case atStart => exact ⟨0, Nat.zero_le _, by rw [S0.out]; go_num, rfl⟩
  case round =>
    obtain ⟨i, hi, rfl, rfl⟩ := hrel
    have kz : decide ((i : Int) < (n : Int)) = true := decide_eq_true (by omega)
    have d1 := C1.out i (by omega)
    have bi := SB.out i (by omega)
    obtain ⟨bi0, bi1⟩ := bi
    by_cases z : i < P
    · have t := HT.out i (by omega)
      have ke : (zs.getD i 0 != m) = true := by simpa using NE.out i z
      have HLx := Lib.hid (fun w => HL.out (zs.getD i 0) t.1 t.2.1 w)
      obtain ⟨t0, t1, t2, t3, t4⟩ := t
      replace t2 := Lib.hid t2
      clear HL C1 HT SB NE P1 S0
      generalize hlenM y (zs.getD i 0) = l at *
      generalize zs.getD i 0 = x at *
      go_wp2_with fail
      refine (HLx.out _).mono ?_
      rintro e w2 ⟨rfl, rfl⟩
      go_wp2
      go_round
      case rel => exact ⟨i + 1, z, by rw [t2.out]; go_num, by go_num⟩
      case measure => simp [intOf]; omega
    · obtain rfl : i = P := by omega
      have ke : (zs.getD i 0 != m) = false := by simpa using P1.out
      have xb := HT.out i (by omega)
      have xb0 := xb.1
      have xb1 := xb.2.1
      clear HL C1 HT SB NE P1 S0 xb
      generalize zs.getD i 0 = x at *
      go_wp2
      go_ret
      exact ⟨rfl, A1.out⟩
set_option maxHeartbeats 1000000 in
theorem rhvld (y m d : Int) (hy : I64 y) (hm : I64 m) (hd : I64 d) (w : World) :
    Calls Try.prog 38 #[.agg #[.int .i64 y, .int .i64 m, .int .i64 d]] w fun e w' => e = .returned (.bool (hvld y m d)) ∧ Below w.heap.size w w' := by
  have HY := Lib.hid (fun w => rhyr y hy w)
  have HL := Lib.hid (fun w => rhlen y m hy hm w)
  have lb := hlenM_bd y m
  have split : hvld y m d = (hyr y && decide (1 ≤ m) && decide (1 ≤ d) && decide (d ≤ hlenM y m)) := by
    cases q : hvld y m d
    · cases a : hyr y
      · rfl
      · by_cases m0 : 1 ≤ m
        · by_cases d0 : 1 ≤ d
          · have : ¬ d ≤ hlenM y m := fun d1 => by rw [hvld_iff.2 ⟨d0, d1⟩] at q; exact absurd q (by simp)
            simp [this]
          · simp [d0]
        · simp [m0]
    · have v := hvld_bd q
      have v2 := hvld_iff.1 q
      rw [v.1]; simp; omega
  rw [split]
  clear split
  generalize hlenM y m = l at *
  generalize hyr y = r at *
  obtain ⟨l0, l1⟩ := lb
  have t : r = false ∨ r = true ∧ decide (1 ≤ m) = false ∨ r = true ∧ decide (1 ≤ m) = true ∧ decide (1 ≤ d) = false ∨ r = true ∧ decide (1 ≤ m) = true ∧ decide (1 ≤ d) = true := by
    cases r <;> cases decide (1 ≤ m) <;> cases decide (1 ≤ d) <;> simp
  obtain ⟨w1, hw1⟩ : ∃ w1 : World, w.alloc (.cells #[.int .i64 y, .int .i64 m, .int .i64 d] 35) = w1 := ⟨_, rfl⟩
  have A1 : Hid (Below w.heap.size w w1) := by rw [← hw1]; exact grow (here w) _
  have B1 : Hid (Box w1 w.heap.size (.int .i64 y) (.int .i64 m) (.int .i64 d)) := by rw [← hw1]; exact Box.new (here _)
  have k0 : ∀ x : Kept w1, x.wd.cell? ⟨w.heap.size, 0, none⟩ = some (.int .i64 y) := fun x => (B1.out.keep x.ok).c0
  have k1 : ∀ x : Kept w1, x.wd.cell? ⟨w.heap.size, 1, none⟩ = some (.int .i64 m) := fun x => (B1.out.keep x.ok).c1
  have k2 : ∀ x : Kept w1, x.wd.cell? ⟨w.heap.size, 2, none⟩ = some (.int .i64 d) := fun x => (B1.out.keep x.ok).c2
  obtain ⟨hd0, hd1⟩ := hd
  obtain ⟨hm0, hm1⟩ := hm
  obtain ⟨hy0, hy1⟩ := hy
  have HYk := Lib.hid (fun w => (HY.out w).mono fun e w' (hh : e = .returned (.bool r) ∧ w = w') => (⟨hh.1, hh.2 ▸ here w⟩ : e = .returned (.bool r) ∧ Below w.heap.size w w'))
  have HLk := Lib.hid (fun w => (HL.out w).mono fun e w' (hh : e = .returned (.int .i64 l) ∧ w = w') => (⟨hh.1, hh.2 ▸ here w⟩ : e = .returned (.int .i64 l) ∧ Below w.heap.size w w'))
  rcases t with rfl | ⟨rfl, q1⟩ | ⟨rfl, q1, q2⟩ | ⟨rfl, q1, q2⟩
  all_goals
    simp only [*, Bool.true_and, Bool.false_and, Bool.and_false, Bool.and_true]
    go_enter Try.func38, Try.ntmps38
    go_wp2
    clear hw1
    refine wp_region_kept (by kernel_rfl) (by kernel_rfl) ?_
    repeat (go_big_quiet_step ((first | (go_at_call 23; exact kept_call _ (HYk.out _)) | (go_at_call 29; exact kept_call _ (HLk.out _)))))
    refine wpQuiet_nil ?_
    intro w2 hx
    obtain ⟨⟨xx, hb⟩, hw⟩ := hx
    replace hw : w2 = xx := hw
    subst xx
    go_wp2
    go_ret
    exact ⟨rfl, down A1.out hb⟩
end Go.Proofs.Ytpkkhkkanpcniaa
