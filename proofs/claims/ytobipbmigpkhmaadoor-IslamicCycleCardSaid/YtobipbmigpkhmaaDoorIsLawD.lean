/- The walk of IslamicCycle: the Go text returns true, at every input. -/
import Derived.Test.YtobipbmigpkhmaaDoorIsLawB
namespace Go.Proofs.YtobipbmigpkhmaaDoor
open Go.RowKit
set_option linter.unusedVariables false

namespace IslamicCycle
set_option maxRecDepth 100000 in
set_option maxHeartbeats 2000000 in
theorem bad (k y m d N E : Int) (t : (E != 0) = true ∨ E = 0 ∧ decide (9570 < y) = true) (hy : I64 y) (HD : ∀ w, Tabs w → Calls Tryd.prog 23 #[.int .i64 k, .agg #[.int .i64 y, .int .i64 m, .int .i64 d]] w fun e w' => e = .returned (.tuple #[.int .i64 N, .int .i64 E]) ∧ Below w.heap.size w w') (w : World) (ht : Tabs w) :
    Calls Tryd.prog 8 #[.int .i64 k, .agg #[.int .i64 y, .int .i64 m, .int .i64 d]] w fun e w' => e = .returned (.bool true) ∧ Below w.heap.size w w' := by
  obtain ⟨hy0, hy1⟩ := hy
  have AW := Lib.hid (fun w ht => awake_all w ht)
  replace ht := Lib.hid ht
  replace HD := Lib.hid HD
  rcases t with q | ⟨rfl, q⟩
  all_goals
    go_enter Tryd.func8, Tryd.ntmps8
    go_wp2_with fail
    refine (AW.out _ (ht.out.below (grow (here w) _))).mono ?_
    rintro e w1 ⟨rfl, hb⟩
    have A1 := Lib.hid (down (grow (here w) _) hb)
    have D1 := Lib.hid (Box.new hb)
    clear hb
    obtain ⟨d1_0, d1_1, d1_2, d1_z⟩ := D1.out
    go_wp2_with fail
    refine (HD.out _ (ht.out.below A1.out)).mono ?_
    rintro e w2 ⟨rfl, hb⟩
    have A2 := Lib.hid (down A1.out hb)
    have D2 := Lib.hid (D1.out.keep hb)
    clear hb A1 D1 d1_0 d1_1 d1_2 d1_z
    obtain ⟨d2_0, d2_1, d2_2, d2_z⟩ := D2.out
    go_wp2
    go_ret
    exact ⟨rfl, by first | exact A2.out | exact grow A2.out _ | exact below_drewN A2.out _ | exact grow (grow A2.out _) _ | exact grow (grow (grow A2.out _) _) _⟩
set_option maxRecDepth 100000 in
set_option maxHeartbeats 2000000 in
theorem good (k y m d : Int) (h : ivld k y m d = true) (y2 : y ≤ 9570) (w : World) (ht : Tabs w) :
    Calls Tryd.prog 8 #[.int .i64 k, .agg #[.int .i64 y, .int .i64 m, .int .i64 d]] w fun e w' => e = .returned (.bool true) ∧ Below w.heap.size w w' := by
  obtain ⟨k0, k1, y0, y1, m0, m1, d0, d1⟩ := ivld_bd h
  have l := iday_later h (show y + 30 ≤ 9600 by omega)
  have r1 := iday_range h
  have HD := fun w ht => uiday k y m d ⟨by omega, by omega⟩ ⟨by omega, by omega⟩ ⟨by omega, by omega⟩ ⟨by omega, by omega⟩ w ht
  have HE := fun w ht => uiday k (y + 30) m d ⟨by omega, by omega⟩ ⟨by omega, by omega⟩ ⟨by omega, by omega⟩ ⟨by omega, by omega⟩ w ht
  rw [show idN k y m d = idayN k y m d by unfold idN; rw [if_pos h], show idE k y m d = 0 by unfold idE; rw [if_pos h]] at HD
  rw [show idN k (y + 30) m d = idayN k y m d + 10631 by unfold idN; rw [if_pos l.1, l.2], show idE k (y + 30) m d = 0 by unfold idE; rw [if_pos l.1]] at HE
  have HL := fun x (x0 : y ≤ x) (x1 : x < y + 30) w ht => uileap k x ⟨by omega, by omega⟩ ⟨by omega, by omega⟩ w ht
  have HY := fun x (x0 : y ≤ x) (x1 : x < y + 30) w ht => uiyl k x ⟨by omega, by omega⟩ ⟨by omega, by omega⟩ w ht
  have HJ : Hid (∀ x : Int, y ≤ x → x < y + 30 → (ileapB k x = true ∧ iylN k x = 355 ∨ ileapB k x = false ∧ iylN k x = 354) ∧ ifirst k (x + 1) = ifirst k x + iylN k x) := fun x x0 x1 => by
    have hr : iyr k x = true := iyr_iff.2 (by omega)
    have a := ifirst_succ k0 k1 (show 1 ≤ x by omega)
    have e := ilp_eq hr
    rw [iylN_at hr]
    rcases e with ⟨e, e'⟩ | ⟨e, e'⟩
    · exact ⟨.inl ⟨e, by omega⟩, by omega⟩
    · exact ⟨.inr ⟨e, by omega⟩, by omega⟩
  have HB : Hid (∀ x : Int, y ≤ x → x ≤ y + 30 → 354 * (x - y) ≤ ifirst k x - ifirst k y ∧ ifirst k x - ifirst k y ≤ 10631) := fun x x0 x1 => by
    have a := ifirst_le k0 k1 (y := y) (z := x) y0 x0
    have b := ifirst_le k0 k1 (y := x) (z := y + 30) (by omega) x1
    rw [ifirst_later] at b
    omega
  have HT : Hid (ifirst k (y + 30) = ifirst k y + 10631) := ifirst_later
  have q : decide (9570 < y) = false := decide_eq_false (by omega)
  obtain ⟨r10, r11⟩ := r1
  clear h l
  generalize idayN k y m d = N at *
  have AW := Lib.hid (fun w ht => awake_all w ht)
  replace ht := Lib.hid ht
  replace HD := Lib.hid HD
  replace HE := Lib.hid HE
  replace HL := Lib.hid HL
  replace HY := Lib.hid HY
  go_enter Tryd.func8, Tryd.ntmps8
  go_wp2_with fail
  refine (AW.out _ (ht.out.below (grow (here w) _))).mono ?_
  rintro e w1 ⟨rfl, hb⟩
  have A1 := Lib.hid (down (grow (here w) _) hb)
  have D1 := Lib.hid (Box.new hb)
  clear hb
  obtain ⟨d1_0, d1_1, d1_2, d1_z⟩ := D1.out
  go_wp2_with fail
  refine (HD.out _ (ht.out.below A1.out)).mono ?_
  rintro e w2 ⟨rfl, hb⟩
  have A2 := Lib.hid (down A1.out hb)
  have D2 := Lib.hid (D1.out.keep hb)
  clear hb A1 D1 d1_0 d1_1 d1_2 d1_z
  obtain ⟨d2_0, d2_1, d2_2, d2_z⟩ := D2.out
  go_wp2_with fail
  refine (HE.out _ (ht.out.below A2.out)).mono ?_
  rintro e w3 ⟨rfl, hb⟩
  have A3 := Lib.hid (down A2.out hb)
  have D3 := Lib.hid (D2.out.keep hb)
  clear hb A2 D2 d2_0 d2_1 d2_2 d2_z
  obtain ⟨d3_0, d3_1, d3_2, d3_z⟩ := D3.out
  go_wp2
  go_loopw [9, 10, 11] (fun a b c wr => ∃ (x s t : Int), y ≤ x ∧ x ≤ y + 30 ∧ Hid (s = ifirst k x - ifirst k y) ∧ t = s - 354 * (x - y) ∧ 0 ≤ t ∧ 0 ≤ s ∧ s ≤ 10631 ∧ a = .int .i64 t ∧ b = .int .i64 s ∧ c = .int .i64 x ∧ Hid (Below w.heap.size w wr) ∧ Hid (Box wr w.heap.size (.int .i64 y) (.int .i64 m) (.int .i64 d))) (fun _ _ c _ => (y + 30 - intOf c).toNat)
  case atStart => exact ⟨y, 0, 0, by omega, by omega, by show (0 : Int) = _; omega, by omega, by omega, by omega, by omega, rfl, rfl, rfl, A3.out, D3.out⟩
  case round =>
    obtain ⟨x, s, t, x0, x1, hs, htt, t0, s0, s1, rfl, rfl, rfl, HA, HD3⟩ := hrel
    replace htt := Lib.hid htt
    obtain ⟨c0, c1, c2, cz⟩ := HD3.out
    by_cases z : x < y + 30
    · have kz : decide (x < y + 30) = true := decide_eq_true z
      have j := HJ.out x x0 z
      have b := HB.out (x + 1) (by omega) (by omega)
      have HLx := fun w ht => HL.out x x0 z w ht
      have HYx := fun w ht => HY.out x x0 z w ht
      have hs' : Hid (s + iylN k x = ifirst k (x + 1) - ifirst k y) := by show _ = _; rw [j.2, hs.out]; omega
      rw [← hs'.out] at b
      clear HL HY HJ HB HT hs
      obtain ⟨b0, b1⟩ := b
      rcases j.1 with ⟨jl, jy⟩ | ⟨jl, jy⟩
      all_goals
        rw [jl] at HLx
        rw [jy] at HYx hs' b0 b1
        replace HLx := Lib.hid HLx
        replace HYx := Lib.hid HYx
        have tb : t ≤ 10631 := by have := htt.out; omega
        clear j jl jy
        go_wp2_with fail
        refine (HLx.out _ (ht.out.below HA.out)).mono ?_
        rintro e w4 ⟨rfl, hb⟩
        have A4 := Lib.hid (down HA.out hb)
        have D4 := Lib.hid (HD3.out.keep hb)
        clear hb HA HD3 c0 c1 c2 cz
        obtain ⟨c0, c1, c2, cz⟩ := D4.out
        go_wp2_with fail
        refine (HYx.out _ (ht.out.below A4.out)).mono ?_
        rintro e w5 ⟨rfl, hb⟩
        have A5 := Lib.hid (down A4.out hb)
        have D5 := Lib.hid (D4.out.keep hb)
        clear hb A4 D4 c0 c1 c2 cz
        go_wp2
        go_roundw
        case rel => exact ⟨x + 1, _, _, by omega, by omega, hs', by have := htt.out; omega, by have := htt.out; omega, by omega, by omega, rfl, rfl, rfl, A5, D5⟩
        case measure => simp [intOf]; omega
    · obtain rfl : x = y + 30 := by omega
      have kz : decide (y + 30 < y + 30) = false := decide_eq_false (by omega)
      obtain rfl : s = 10631 := by rw [hs.out, HT.out]; omega
      obtain rfl : t = 11 := by rw [htt.out]; omega
      clear HL HY HJ HB HT hs htt
      go_wp2
      go_ret
      exact ⟨rfl, HA.out⟩
theorem walk (k y m d : Int) (hk : (Lit.int .i64 k).wf = true) (hy : (Lit.int .i64 y).wf = true) (hm : (Lit.int .i64 m).wf = true) (hd : (Lit.int .i64 d).wf = true) (w : World) (ht : Tabs w) :
    Calls Tryd.prog 8 #[.int .i64 k, .agg #[.int .i64 y, .int .i64 m, .int .i64 d]] w fun e w' => e = .returned (.bool true) ∧ Below w.heap.size w w' := by
  replace hk := i64_wf hk
  replace hy := i64_wf hy
  replace hm := i64_wf hm
  replace hd := i64_wf hd
  have HD := fun w ht => uiday k y m d hk hy hm hd w ht
  rcases iday_fate k y m d with ⟨h, q⟩ | ⟨h, q, -, -⟩
  · exact bad k y m d _ _ (.inl (by rw [h]; rfl)) hy HD w ht
  · by_cases z : 9570 < y
    · exact bad k y m d _ _ (.inr ⟨h, decide_eq_true z⟩) hy HD w ht
    · exact good k y m d q (by omega) w ht
end IslamicCycle
end Go.Proofs.YtobipbmigpkhmaaDoor
