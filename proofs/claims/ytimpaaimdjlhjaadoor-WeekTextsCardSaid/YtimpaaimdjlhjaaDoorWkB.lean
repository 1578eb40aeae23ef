/- Contracts of package week: dates of weeks, days, ordinal dates. -/
import Derived.Test.YtimpaaimdjlhjaaDoorWkA
namespace Go.Proofs.YtimpaaimdjlhjaaDoor
open Go.RowKit
set_option linter.unusedVariables false

theorem kOf_arg (F M n : Int) (hF : I64 F) (hM : I64 M) (h : rulB F M = false) (w : World) :
    Calls Tryd.prog 13 #[.agg #[.int .i64 F, .int .i64 M], .int .i64 n] w fun e w' => e = .returned (.tuple #[.agg #[.int .i64 0, .int .i64 0, .int .i64 0], .int .i64 1]) ∧ Below w.heap.size w w' := by
  have HV := fun w => kvalid F M hF hM w
  rw [h] at HV
  replace HV := Lib.hid HV
  clear h
  go_enter Tryd.func13, Tryd.ntmps13
  go_wp2_with fail
  refine (HV.out _).mono ?_
  rintro e w1 ⟨rfl, hb⟩
  have A1 := Lib.hid (down (grow (grow (here w) _) _) hb)
  have B1 := Lib.hid (Box.snd hb)
  have F1 := Lib.hid (Free.snd hb)
  clear hb
  obtain ⟨c0, c1, c2, z⟩ := B1.out
  obtain ⟨f0, f1, f2⟩ := F1.out
  go_wp2
  exact bodyPost_ret (v := .tuple #[.agg #[.int .i64 0, .int .i64 0, .int .i64 0], .int .i64 1]) (by simp [results, Tryd.results13, go_sem, c0, c1, c2]) rfl ⟨rfl, ((A1.out.setCell (Nat.le_succ _) _).setCell (Nat.le_succ _) _).setCell (Nat.le_succ _) _⟩
theorem kOf_no (F M n : Int) (h : rulB F M = true) (hn : I64 n) (k : n < -719162 ∨ 2932897 ≤ n) (w : World) :
    Calls Tryd.prog 13 #[.agg #[.int .i64 F, .int .i64 M], .int .i64 n] w fun e w' => e = .returned (.tuple #[.agg #[.int .i64 0, .int .i64 0, .int .i64 0], .int .i64 2]) ∧ Below w.heap.size w w' := by
  obtain ⟨f0, f1, m0, m1⟩ := rulB_iff.1 h
  have HV := fun w => kvalid F M ⟨by omega, by omega⟩ ⟨by omega, by omega⟩ w
  have HD := fun w => cdate_no n hn k w
  rw [h] at HV
  replace HV := Lib.hid HV
  replace HD := Lib.hid HD
  clear h k
  go_enter Tryd.func13, Tryd.ntmps13
  go_wp2_with fail
  refine (HV.out _).mono ?_
  rintro e w1 ⟨rfl, hb⟩
  have A1 := Lib.hid (down (grow (grow (here w) _) _) hb)
  have B1 := Lib.hid (Box.snd hb)
  have F1 := Lib.hid (Free.snd hb)
  clear hb
  go_wp2_with fail
  refine (HD.out _).mono ?_
  rintro e w2 ⟨rfl, hb⟩
  have A2 := Lib.hid (down A1.out hb)
  have B2 := Lib.hid (B1.out.keep hb)
  have F2 := Lib.hid (F1.out.keep B1.out.lt hb)
  clear hb A1 B1 F1
  obtain ⟨c0, c1, c2, z⟩ := B2.out
  obtain ⟨f0, f1, f2⟩ := F2.out
  go_wp2
  exact bodyPost_ret (v := .tuple #[.agg #[.int .i64 0, .int .i64 0, .int .i64 0], .int .i64 2]) (by simp [results, Tryd.results13, go_sem, c0, c1, c2, z]) rfl ⟨rfl, grow (((A2.out.setCell (Nat.le_succ _) _).setCell (Nat.le_succ _) _).setCell (Nat.le_succ _) _) _⟩
/-- Which week-year a day has, beside its calendar year. -/
inductive Near (F M n y : Int) : Prop where
  | before (h : n < wkS F M y)
  | same (h0 : wkS F M y ≤ n) (h1 : n < wkS F M (y + 1))
  | behind (h0 : wkS F M y ≤ n) (h1 : wkS F M (y + 1) ≤ n)
theorem near (F M n y : Int) : Near F M n y := by
  by_cases a : n < wkS F M y
  · exact .before a
  · by_cases b : n < wkS F M (y + 1)
    · exact .same (by omega) b
    · exact .behind (by omega) (by omega)
set_option maxRecDepth 100000 in
set_option maxHeartbeats 1000000 in
theorem kOf_same (F M n y m d : Int) (h : rulB F M = true) (hv : vld y m d = true) (hn : dayN y m d = n) (h0 : wkS F M y ≤ n) (h1 : n < wkS F M (y + 1)) (w : World) (ht : Lens w) :
    Calls Tryd.prog 13 #[.agg #[.int .i64 F, .int .i64 M], .int .i64 n] w fun e w' => e = .returned (.tuple #[.agg #[.int .i64 y, .int .i64 (wkW F M n y), .int .i64 (wdy n)], .int .i64 0]) ∧ Below w.heap.size w w' := by
  obtain ⟨f0, f1, m0, m1⟩ := rulB_iff.1 h
  obtain ⟨y0, y1, -, -, -, -⟩ := vld_bd hv
  obtain ⟨r0, r1⟩ := day_range hv
  rw [hn] at r0 r1
  have HV := fun w => kvalid F M ⟨by omega, by omega⟩ ⟨by omega, by omega⟩ w
  have HD := Lib.hid (fun w => cdate_yes n y m d hv hn w)
  have HS := Lib.hid (fun w ht => kstart F M y f0 f1 m0 m1 y0 (by omega) w ht)
  have HT := Lib.hid (fun w ht => kstart F M (y + 1) f0 f1 m0 m1 (by omega) (by omega) w ht)
  have HY := fun w => kyear y ⟨by omega, by omega⟩ w
  have HW := fun w => cweekday n ⟨by omega, by omega⟩ w
  rw [wkd_wdy r0 r1] at HW
  rw [h] at HV
  rw [yrB_iff.2 ⟨y0, y1⟩] at HY
  have s0 := wkS_bd (F := F) m0 m1 y0 (show y ≤ 10000 by omega)
  have s1 := wkS_bd (F := F) m0 m1 (show 1 ≤ y + 1 by omega) (show y + 1 ≤ 10000 by omega)
  obtain ⟨wd0, wd1⟩ := wdy_bd n
  unfold wkW
  generalize wkS F M y = s at *
  generalize wkS F M (y + 1) = t at *
  generalize wdy n = W at *
  have HF := Lib.hid (fun w => floor7 (n - s) ⟨by omega, by omega⟩ w)
  obtain ⟨s00, s01⟩ := s0
  obtain ⟨s10, s11⟩ := s1
  have q0 : 0 ≤ (n - s) / 7 := by omega
  have q1 : (n - s) / 7 ≤ 1000000 := by omega
  generalize (n - s) / 7 = q at *
  have k1 : decide (n < s) = false := decide_eq_false (by omega)
  have k2 : decide (t ≤ n) = false := decide_eq_false (by omega)
  replace HV := Lib.hid HV
  replace HY := Lib.hid HY
  replace HW := Lib.hid HW
  replace ht := Lib.hid ht
  clear h hn hv
  go_enter Tryd.func13, Tryd.ntmps13
  go_wp2_with fail
  refine (HV.out _).mono ?_
  rintro e w1 ⟨rfl, hb⟩
  have A1 := Lib.hid (down (grow (grow (here w) _) _) hb)
  have R1 := Lib.hid (Two.fst hb)
  have B1 := Lib.hid (Box.snd hb)
  have F1 := Lib.hid (Free.snd hb)
  clear hb
  go_wp2_with fail
  refine (HD.out _).mono ?_
  rintro e w2 ⟨rfl, hb⟩
  have A2 := Lib.hid (down A1.out hb)
  have R2 := Lib.hid (R1.out.keep hb)
  have B2 := Lib.hid (B1.out.keep hb)
  have F2 := Lib.hid (F1.out.keep B1.out.lt hb)
  clear hb A1 R1 B1 F1
  obtain ⟨w3, hw3⟩ : ∃ w3 : World, w2.alloc (.cells #[.int .i64 y, .int .i64 m, .int .i64 d] 55) = w3 := ⟨_, rfl⟩
  have hg := grow (here w2) (.cells #[.int .i64 y, .int .i64 m, .int .i64 d] 55)
  have D3 := Lib.hid (Box.new (w := w2) (x := .int .i64 y) (y := .int .i64 m) (z := .int .i64 d) (t := 55) (here _))
  rw [hw3] at hg D3
  have A3 := Lib.hid (down A2.out hg)
  have R3 := Lib.hid (R2.out.keep hg)
  have B3 := Lib.hid (B2.out.keep hg)
  have F3 := Lib.hid (F2.out.keep B2.out.lt hg)
  clear hg A2 R2 B2 F2
  obtain ⟨c0, c1, z⟩ := R3.out
  obtain ⟨d0, d1, d2, zd⟩ := D3.out
  go_wp2_with fail
  clear hw3 d0 d1 d2 zd D3
  refine (HS.out _ (lens_below ht.out A3.out)).mono ?_
  rintro e w4 ⟨rfl, hb⟩
  have A4 := Lib.hid (down A3.out hb)
  have R4 := Lib.hid (R3.out.keep hb)
  have B4 := Lib.hid (B3.out.keep hb)
  have F4 := Lib.hid (F3.out.keep B3.out.lt hb)
  clear hb A3 R3 B3 F3 c0 c1 z
  obtain ⟨c0, c1, z⟩ := R4.out
  go_wp2_with fail
  refine (HT.out _ (lens_below ht.out A4.out)).mono ?_
  rintro e w5 ⟨rfl, hb⟩
  have A5 := Lib.hid (down A4.out hb)
  have R5 := Lib.hid (R4.out.keep hb)
  have B5 := Lib.hid (B4.out.keep hb)
  have F5 := Lib.hid (F4.out.keep B4.out.lt hb)
  clear hb A4 R4 B4 F4 c0 c1 z
  go_wp2_with fail
  refine (HY.out _).mono ?_
  rintro e w6 ⟨rfl, rfl⟩
  obtain ⟨c0, c1, z⟩ := R5.out
  go_wp2_with fail
  refine (HS.out _ (lens_below ht.out A5.out)).mono ?_
  rintro e w6 ⟨rfl, hb⟩
  have A6 := Lib.hid (down A5.out hb)
  have B6 := Lib.hid (B5.out.keep hb)
  have F6 := Lib.hid (F5.out.keep B5.out.lt hb)
  clear hb A5 R5 B5 F5 c0 c1 z
  go_wp2_with fail
  refine (HF.out _).mono ?_
  rintro e w7 ⟨rfl, i, rfl⟩
  go_wp2_with fail
  refine (HW.out _).mono ?_
  rintro e w7 ⟨rfl, j, rfl⟩
  have A7 := Lib.hid (below_drewN A6.out (i + j))
  obtain ⟨c0, c1, c2, z⟩ := B6.out
  obtain ⟨e0, e1, e2⟩ := F6.out
  go_wp2
  exact bodyPost_ret (v := .tuple #[.agg #[.int .i64 y, .int .i64 (q + 1), .int .i64 W], .int .i64 0]) (by simp [results, Tryd.results13, go_sem, c0, c1, c2]) rfl ⟨rfl, ((A7.out.setCell (Nat.le_succ _) _).setCell (Nat.le_succ _) _).setCell (Nat.le_succ _) _⟩
set_option maxRecDepth 100000 in
set_option maxHeartbeats 1000000 in
theorem kOf_before (F M n y m d : Int) (h : rulB F M = true) (hv : vld y m d = true) (hn : dayN y m d = n) (y2 : 2 ≤ y) (h0 : wkS F M (y - 1) ≤ n) (h1 : n < wkS F M y) (w : World) (ht : Lens w) :
    Calls Tryd.prog 13 #[.agg #[.int .i64 F, .int .i64 M], .int .i64 n] w fun e w' => e = .returned (.tuple #[.agg #[.int .i64 (y - 1), .int .i64 (wkW F M n (y - 1)), .int .i64 (wdy n)], .int .i64 0]) ∧ Below w.heap.size w w' := by
  obtain ⟨f0, f1, m0, m1⟩ := rulB_iff.1 h
  obtain ⟨y0, y1, -, -, -, -⟩ := vld_bd hv
  obtain ⟨r0, r1⟩ := day_range hv
  rw [hn] at r0 r1
  have HV := fun w => kvalid F M ⟨by omega, by omega⟩ ⟨by omega, by omega⟩ w
  have HD := Lib.hid (fun w => cdate_yes n y m d hv hn w)
  have HS := Lib.hid (fun w ht => kstart F M y f0 f1 m0 m1 y0 (by omega) w ht)
  have HT := Lib.hid (fun w ht => kstart F M (y - 1) f0 f1 m0 m1 (by omega) (by omega) w ht)
  have HY := fun w => kyear (y - 1) ⟨by omega, by omega⟩ w
  have HW := fun w => cweekday n ⟨by omega, by omega⟩ w
  rw [wkd_wdy r0 r1] at HW
  rw [h] at HV
  rw [yrB_iff.2 (show 1 ≤ y - 1 ∧ y - 1 ≤ 9999 by omega)] at HY
  have s0 := wkS_bd (F := F) m0 m1 y0 (show y ≤ 10000 by omega)
  have s1 := wkS_bd (F := F) m0 m1 (show 1 ≤ y - 1 by omega) (show y - 1 ≤ 10000 by omega)
  obtain ⟨wd0, wd1⟩ := wdy_bd n
  unfold wkW
  generalize wkS F M y = s at *
  generalize wkS F M (y - 1) = t at *
  generalize wdy n = W at *
  have HF := Lib.hid (fun w => floor7 (n - t) ⟨by omega, by omega⟩ w)
  obtain ⟨s00, s01⟩ := s0
  obtain ⟨s10, s11⟩ := s1
  have q0 : 0 ≤ (n - t) / 7 := by omega
  have q1 : (n - t) / 7 ≤ 1000000 := by omega
  generalize (n - t) / 7 = q at *
  have k1 : decide (n < s) = true := decide_eq_true (by omega)
  replace HV := Lib.hid HV
  replace HY := Lib.hid HY
  replace HW := Lib.hid HW
  replace ht := Lib.hid ht
  clear h hn hv
  go_enter Tryd.func13, Tryd.ntmps13
  go_wp2_with fail
  refine (HV.out _).mono ?_
  rintro e w1 ⟨rfl, hb⟩
  have A1 := Lib.hid (down (grow (grow (here w) _) _) hb)
  have R1 := Lib.hid (Two.fst hb)
  have B1 := Lib.hid (Box.snd hb)
  have F1 := Lib.hid (Free.snd hb)
  clear hb
  go_wp2_with fail
  refine (HD.out _).mono ?_
  rintro e w2 ⟨rfl, hb⟩
  have A2 := Lib.hid (down A1.out hb)
  have R2 := Lib.hid (R1.out.keep hb)
  have B2 := Lib.hid (B1.out.keep hb)
  have F2 := Lib.hid (F1.out.keep B1.out.lt hb)
  clear hb A1 R1 B1 F1
  obtain ⟨w3, hw3⟩ : ∃ w3 : World, w2.alloc (.cells #[.int .i64 y, .int .i64 m, .int .i64 d] 55) = w3 := ⟨_, rfl⟩
  have hg := grow (here w2) (.cells #[.int .i64 y, .int .i64 m, .int .i64 d] 55)
  have D3 := Lib.hid (Box.new (w := w2) (x := .int .i64 y) (y := .int .i64 m) (z := .int .i64 d) (t := 55) (here _))
  rw [hw3] at hg D3
  have A3 := Lib.hid (down A2.out hg)
  have R3 := Lib.hid (R2.out.keep hg)
  have B3 := Lib.hid (B2.out.keep hg)
  have F3 := Lib.hid (F2.out.keep B2.out.lt hg)
  clear hg A2 R2 B2 F2
  obtain ⟨c0, c1, z⟩ := R3.out
  obtain ⟨d0, d1, d2, zd⟩ := D3.out
  go_wp2_with fail
  clear hw3 d0 d1 d2 zd D3
  refine (HS.out _ (lens_below ht.out A3.out)).mono ?_
  rintro e w4 ⟨rfl, hb⟩
  have A4 := Lib.hid (down A3.out hb)
  have R4 := Lib.hid (R3.out.keep hb)
  have B4 := Lib.hid (B3.out.keep hb)
  have F4 := Lib.hid (F3.out.keep B3.out.lt hb)
  clear hb A3 R3 B3 F3 c0 c1 z
  obtain ⟨c0, c1, z⟩ := R4.out
  go_wp2_with fail
  refine (HY.out _).mono ?_
  rintro e w6 ⟨rfl, rfl⟩
  go_wp2_with fail
  refine (HT.out _ (lens_below ht.out A4.out)).mono ?_
  rintro e w6 ⟨rfl, hb⟩
  have A6 := Lib.hid (down A4.out hb)
  have B6 := Lib.hid (B4.out.keep hb)
  have F6 := Lib.hid (F4.out.keep B4.out.lt hb)
  clear hb A4 R4 B4 F4 c0 c1 z
  go_wp2_with fail
  refine (HF.out _).mono ?_
  rintro e w7 ⟨rfl, i, rfl⟩
  go_wp2_with fail
  refine (HW.out _).mono ?_
  rintro e w7 ⟨rfl, j, rfl⟩
  have A7 := Lib.hid (below_drewN A6.out (i + j))
  obtain ⟨c0, c1, c2, z⟩ := B6.out
  obtain ⟨e0, e1, e2⟩ := F6.out
  go_wp2
  exact bodyPost_ret (v := .tuple #[.agg #[.int .i64 (y - 1), .int .i64 (q + 1), .int .i64 W], .int .i64 0]) (by simp [results, Tryd.results13, go_sem, c0, c1, c2]) rfl ⟨rfl, ((A7.out.setCell (Nat.le_succ _) _).setCell (Nat.le_succ _) _).setCell (Nat.le_succ _) _⟩
set_option maxRecDepth 100000 in
set_option maxHeartbeats 1000000 in
theorem kOf_first (F M n y m d : Int) (h : rulB F M = true) (hv : vld y m d = true) (hn : dayN y m d = n) (y2 : y ≤ 1) (h1 : n < wkS F M y) (w : World) (ht : Lens w) :
    Calls Tryd.prog 13 #[.agg #[.int .i64 F, .int .i64 M], .int .i64 n] w fun e w' => e = .returned (.tuple #[.agg #[.int .i64 0, .int .i64 0, .int .i64 0], .int .i64 2]) ∧ Below w.heap.size w w' := by
  obtain ⟨f0, f1, m0, m1⟩ := rulB_iff.1 h
  obtain ⟨y0, y1, -, -, -, -⟩ := vld_bd hv
  obtain ⟨r0, r1⟩ := day_range hv
  rw [hn] at r0 r1
  have HV := fun w => kvalid F M ⟨by omega, by omega⟩ ⟨by omega, by omega⟩ w
  have HD := Lib.hid (fun w => cdate_yes n y m d hv hn w)
  have HS := Lib.hid (fun w ht => kstart F M y f0 f1 m0 m1 y0 (by omega) w ht)
  have HY := fun w => kyear (y - 1) ⟨by omega, by omega⟩ w
  rw [h] at HV
  rw [show yrB (y - 1) = false by rw [← Bool.not_eq_true, yrB_iff]; omega] at HY
  have s0 := wkS_bd (F := F) m0 m1 y0 (show y ≤ 10000 by omega)
  generalize wkS F M y = s at *
  obtain ⟨s00, s01⟩ := s0
  have k1 : decide (n < s) = true := decide_eq_true (by omega)
  replace HV := Lib.hid HV
  replace HY := Lib.hid HY
  replace ht := Lib.hid ht
  clear h hn hv
  go_enter Tryd.func13, Tryd.ntmps13
  go_wp2_with fail
  refine (HV.out _).mono ?_
  rintro e w1 ⟨rfl, hb⟩
  have A1 := Lib.hid (down (grow (grow (here w) _) _) hb)
  have R1 := Lib.hid (Two.fst hb)
  have B1 := Lib.hid (Box.snd hb)
  have F1 := Lib.hid (Free.snd hb)
  clear hb
  go_wp2_with fail
  refine (HD.out _).mono ?_
  rintro e w2 ⟨rfl, hb⟩
  have A2 := Lib.hid (down A1.out hb)
  have R2 := Lib.hid (R1.out.keep hb)
  have B2 := Lib.hid (B1.out.keep hb)
  have F2 := Lib.hid (F1.out.keep B1.out.lt hb)
  clear hb A1 R1 B1 F1
  obtain ⟨w3, hw3⟩ : ∃ w3 : World, w2.alloc (.cells #[.int .i64 y, .int .i64 m, .int .i64 d] 55) = w3 := ⟨_, rfl⟩
  have hg := grow (here w2) (.cells #[.int .i64 y, .int .i64 m, .int .i64 d] 55)
  have D3 := Lib.hid (Box.new (w := w2) (x := .int .i64 y) (y := .int .i64 m) (z := .int .i64 d) (t := 55) (here _))
  rw [hw3] at hg D3
  have A3 := Lib.hid (down A2.out hg)
  have R3 := Lib.hid (R2.out.keep hg)
  have B3 := Lib.hid (B2.out.keep hg)
  have F3 := Lib.hid (F2.out.keep B2.out.lt hg)
  clear hg A2 R2 B2 F2
  obtain ⟨c0, c1, z⟩ := R3.out
  obtain ⟨d0, d1, d2, zd⟩ := D3.out
  go_wp2_with fail
  clear hw3 d0 d1 d2 zd D3
  refine (HS.out _ (lens_below ht.out A3.out)).mono ?_
  rintro e w4 ⟨rfl, hb⟩
  have A4 := Lib.hid (down A3.out hb)
  have R4 := Lib.hid (R3.out.keep hb)
  have B4 := Lib.hid (B3.out.keep hb)
  have F4 := Lib.hid (F3.out.keep B3.out.lt hb)
  clear hb A3 R3 B3 F3 c0 c1 z
  obtain ⟨c0, c1, z⟩ := R4.out
  go_wp2_with fail
  refine (HY.out _).mono ?_
  rintro e w6 ⟨rfl, rfl⟩
  obtain ⟨c0, c1, c2, z⟩ := B4.out
  obtain ⟨e0, e1, e2⟩ := F4.out
  go_wp2
  exact bodyPost_ret (v := .tuple #[.agg #[.int .i64 0, .int .i64 0, .int .i64 0], .int .i64 2]) (by simp [results, Tryd.results13, go_sem, c0, c1, c2]) rfl ⟨rfl, ((A4.out.setCell (Nat.le_succ _) _).setCell (Nat.le_succ _) _).setCell (Nat.le_succ _) _⟩
set_option maxRecDepth 100000 in
set_option maxHeartbeats 1000000 in
theorem kOf_behind (F M n y m d : Int) (h : rulB F M = true) (hv : vld y m d = true) (hn : dayN y m d = n) (y2 : y ≤ 9998) (h0 : wkS F M y ≤ n) (h1 : wkS F M (y + 1) ≤ n) (w : World) (ht : Lens w) :
    Calls Tryd.prog 13 #[.agg #[.int .i64 F, .int .i64 M], .int .i64 n] w fun e w' => e = .returned (.tuple #[.agg #[.int .i64 (y + 1), .int .i64 (wkW F M n (y + 1)), .int .i64 (wdy n)], .int .i64 0]) ∧ Below w.heap.size w w' := by
  obtain ⟨f0, f1, m0, m1⟩ := rulB_iff.1 h
  obtain ⟨y0, y1, -, -, -, -⟩ := vld_bd hv
  obtain ⟨r0, r1⟩ := day_range hv
  rw [hn] at r0 r1
  have HV := fun w => kvalid F M ⟨by omega, by omega⟩ ⟨by omega, by omega⟩ w
  have HD := Lib.hid (fun w => cdate_yes n y m d hv hn w)
  have HS := Lib.hid (fun w ht => kstart F M y f0 f1 m0 m1 y0 (by omega) w ht)
  have HT := Lib.hid (fun w ht => kstart F M (y + 1) f0 f1 m0 m1 (by omega) (by omega) w ht)
  have HY := fun w => kyear (y + 1) ⟨by omega, by omega⟩ w
  have HW := fun w => cweekday n ⟨by omega, by omega⟩ w
  rw [wkd_wdy r0 r1] at HW
  rw [h] at HV
  rw [yrB_iff.2 (show 1 ≤ y + 1 ∧ y + 1 ≤ 9999 by omega)] at HY
  have s0 := wkS_bd (F := F) m0 m1 y0 (show y ≤ 10000 by omega)
  have s1 := wkS_bd (F := F) m0 m1 (show 1 ≤ y + 1 by omega) (show y + 1 ≤ 10000 by omega)
  obtain ⟨wd0, wd1⟩ := wdy_bd n
  unfold wkW
  generalize wkS F M y = s at *
  generalize wkS F M (y + 1) = t at *
  generalize wdy n = W at *
  have HF := Lib.hid (fun w => floor7 (n - t) ⟨by omega, by omega⟩ w)
  obtain ⟨s00, s01⟩ := s0
  obtain ⟨s10, s11⟩ := s1
  have q0 : 0 ≤ (n - t) / 7 := by omega
  have q1 : (n - t) / 7 ≤ 1000000 := by omega
  generalize (n - t) / 7 = q at *
  have k1 : decide (n < s) = false := decide_eq_false (by omega)
  have k2 : decide (t ≤ n) = true := decide_eq_true (by omega)
  replace HV := Lib.hid HV
  replace HY := Lib.hid HY
  replace HW := Lib.hid HW
  replace ht := Lib.hid ht
  clear h hn hv
  go_enter Tryd.func13, Tryd.ntmps13
  go_wp2_with fail
  refine (HV.out _).mono ?_
  rintro e w1 ⟨rfl, hb⟩
  have A1 := Lib.hid (down (grow (grow (here w) _) _) hb)
  have R1 := Lib.hid (Two.fst hb)
  have B1 := Lib.hid (Box.snd hb)
  have F1 := Lib.hid (Free.snd hb)
  clear hb
  go_wp2_with fail
  refine (HD.out _).mono ?_
  rintro e w2 ⟨rfl, hb⟩
  have A2 := Lib.hid (down A1.out hb)
  have R2 := Lib.hid (R1.out.keep hb)
  have B2 := Lib.hid (B1.out.keep hb)
  have F2 := Lib.hid (F1.out.keep B1.out.lt hb)
  clear hb A1 R1 B1 F1
  obtain ⟨w3, hw3⟩ : ∃ w3 : World, w2.alloc (.cells #[.int .i64 y, .int .i64 m, .int .i64 d] 55) = w3 := ⟨_, rfl⟩
  have hg := grow (here w2) (.cells #[.int .i64 y, .int .i64 m, .int .i64 d] 55)
  have D3 := Lib.hid (Box.new (w := w2) (x := .int .i64 y) (y := .int .i64 m) (z := .int .i64 d) (t := 55) (here _))
  rw [hw3] at hg D3
  have A3 := Lib.hid (down A2.out hg)
  have R3 := Lib.hid (R2.out.keep hg)
  have B3 := Lib.hid (B2.out.keep hg)
  have F3 := Lib.hid (F2.out.keep B2.out.lt hg)
  clear hg A2 R2 B2 F2
  obtain ⟨c0, c1, z⟩ := R3.out
  obtain ⟨d0, d1, d2, zd⟩ := D3.out
  go_wp2_with fail
  clear hw3 d0 d1 d2 zd D3
  refine (HS.out _ (lens_below ht.out A3.out)).mono ?_
  rintro e w4 ⟨rfl, hb⟩
  have A4 := Lib.hid (down A3.out hb)
  have R4 := Lib.hid (R3.out.keep hb)
  have B4 := Lib.hid (B3.out.keep hb)
  have F4 := Lib.hid (F3.out.keep B3.out.lt hb)
  clear hb A3 R3 B3 F3 c0 c1 z
  obtain ⟨c0, c1, z⟩ := R4.out
  go_wp2_with fail
  refine (HT.out _ (lens_below ht.out A4.out)).mono ?_
  rintro e w5 ⟨rfl, hb⟩
  have A5 := Lib.hid (down A4.out hb)
  have R5 := Lib.hid (R4.out.keep hb)
  have B5 := Lib.hid (B4.out.keep hb)
  have F5 := Lib.hid (F4.out.keep B4.out.lt hb)
  clear hb A4 R4 B4 F4 c0 c1 z
  go_wp2_with fail
  refine (HY.out _).mono ?_
  rintro e w6 ⟨rfl, rfl⟩
  obtain ⟨c0, c1, z⟩ := R5.out
  go_wp2_with fail
  refine (HT.out _ (lens_below ht.out A5.out)).mono ?_
  rintro e w6 ⟨rfl, hb⟩
  have A6 := Lib.hid (down A5.out hb)
  have B6 := Lib.hid (B5.out.keep hb)
  have F6 := Lib.hid (F5.out.keep B5.out.lt hb)
  clear hb A5 R5 B5 F5 c0 c1 z
  go_wp2_with fail
  refine (HF.out _).mono ?_
  rintro e w7 ⟨rfl, i, rfl⟩
  go_wp2_with fail
  refine (HW.out _).mono ?_
  rintro e w7 ⟨rfl, j, rfl⟩
  have A7 := Lib.hid (below_drewN A6.out (i + j))
  obtain ⟨c0, c1, c2, z⟩ := B6.out
  obtain ⟨e0, e1, e2⟩ := F6.out
  go_wp2
  exact bodyPost_ret (v := .tuple #[.agg #[.int .i64 (y + 1), .int .i64 (q + 1), .int .i64 W], .int .i64 0]) (by simp [results, Tryd.results13, go_sem, c0, c1, c2]) rfl ⟨rfl, ((A7.out.setCell (Nat.le_succ _) _).setCell (Nat.le_succ _) _).setCell (Nat.le_succ _) _⟩
set_option maxRecDepth 100000 in
set_option maxHeartbeats 1000000 in
theorem kOf_last (F M n y m d : Int) (h : rulB F M = true) (hv : vld y m d = true) (hn : dayN y m d = n) (y2 : 9999 ≤ y) (h0 : wkS F M y ≤ n) (h1 : wkS F M (y + 1) ≤ n) (w : World) (ht : Lens w) :
    Calls Tryd.prog 13 #[.agg #[.int .i64 F, .int .i64 M], .int .i64 n] w fun e w' => e = .returned (.tuple #[.agg #[.int .i64 0, .int .i64 0, .int .i64 0], .int .i64 2]) ∧ Below w.heap.size w w' := by
  obtain ⟨f0, f1, m0, m1⟩ := rulB_iff.1 h
  obtain ⟨y0, y1, -, -, -, -⟩ := vld_bd hv
  obtain ⟨r0, r1⟩ := day_range hv
  rw [hn] at r0 r1
  have HV := fun w => kvalid F M ⟨by omega, by omega⟩ ⟨by omega, by omega⟩ w
  have HD := Lib.hid (fun w => cdate_yes n y m d hv hn w)
  have HS := Lib.hid (fun w ht => kstart F M y f0 f1 m0 m1 y0 (by omega) w ht)
  have HT := Lib.hid (fun w ht => kstart F M (y + 1) f0 f1 m0 m1 (by omega) (by omega) w ht)
  have HY := fun w => kyear (y + 1) ⟨by omega, by omega⟩ w
  rw [h] at HV
  rw [show yrB (y + 1) = false by rw [← Bool.not_eq_true, yrB_iff]; omega] at HY
  have s0 := wkS_bd (F := F) m0 m1 y0 (show y ≤ 10000 by omega)
  have s1 := wkS_bd (F := F) m0 m1 (show 1 ≤ y + 1 by omega) (show y + 1 ≤ 10000 by omega)
  generalize wkS F M y = s at *
  generalize wkS F M (y + 1) = t at *
  obtain ⟨s00, s01⟩ := s0
  obtain ⟨s10, s11⟩ := s1
  have k1 : decide (n < s) = false := decide_eq_false (by omega)
  have k2 : decide (t ≤ n) = true := decide_eq_true (by omega)
  replace HV := Lib.hid HV
  replace HY := Lib.hid HY
  replace ht := Lib.hid ht
  clear h hn hv
  go_enter Tryd.func13, Tryd.ntmps13
  go_wp2_with fail
  refine (HV.out _).mono ?_
  rintro e w1 ⟨rfl, hb⟩
  have A1 := Lib.hid (down (grow (grow (here w) _) _) hb)
  have R1 := Lib.hid (Two.fst hb)
  have B1 := Lib.hid (Box.snd hb)
  have F1 := Lib.hid (Free.snd hb)
  clear hb
  go_wp2_with fail
  refine (HD.out _).mono ?_
  rintro e w2 ⟨rfl, hb⟩
  have A2 := Lib.hid (down A1.out hb)
  have R2 := Lib.hid (R1.out.keep hb)
  have B2 := Lib.hid (B1.out.keep hb)
  have F2 := Lib.hid (F1.out.keep B1.out.lt hb)
  clear hb A1 R1 B1 F1
  obtain ⟨w3, hw3⟩ : ∃ w3 : World, w2.alloc (.cells #[.int .i64 y, .int .i64 m, .int .i64 d] 55) = w3 := ⟨_, rfl⟩
  have hg := grow (here w2) (.cells #[.int .i64 y, .int .i64 m, .int .i64 d] 55)
  have D3 := Lib.hid (Box.new (w := w2) (x := .int .i64 y) (y := .int .i64 m) (z := .int .i64 d) (t := 55) (here _))
  rw [hw3] at hg D3
  have A3 := Lib.hid (down A2.out hg)
  have R3 := Lib.hid (R2.out.keep hg)
  have B3 := Lib.hid (B2.out.keep hg)
  have F3 := Lib.hid (F2.out.keep B2.out.lt hg)
  clear hg A2 R2 B2 F2
  obtain ⟨c0, c1, z⟩ := R3.out
  obtain ⟨d0, d1, d2, zd⟩ := D3.out
  go_wp2_with fail
  clear hw3 d0 d1 d2 zd D3
  refine (HS.out _ (lens_below ht.out A3.out)).mono ?_
  rintro e w4 ⟨rfl, hb⟩
  have A4 := Lib.hid (down A3.out hb)
  have R4 := Lib.hid (R3.out.keep hb)
  have B4 := Lib.hid (B3.out.keep hb)
  have F4 := Lib.hid (F3.out.keep B3.out.lt hb)
  clear hb A3 R3 B3 F3 c0 c1 z
  obtain ⟨c0, c1, z⟩ := R4.out
  go_wp2_with fail
  refine (HT.out _ (lens_below ht.out A4.out)).mono ?_
  rintro e w5 ⟨rfl, hb⟩
  have A5 := Lib.hid (down A4.out hb)
  have R5 := Lib.hid (R4.out.keep hb)
  have B5 := Lib.hid (B4.out.keep hb)
  have F5 := Lib.hid (F4.out.keep B4.out.lt hb)
  clear hb A4 R4 B4 F4 c0 c1 z
  go_wp2_with fail
  refine (HY.out _).mono ?_
  rintro e w6 ⟨rfl, rfl⟩
  obtain ⟨c0, c1, c2, z⟩ := B5.out
  obtain ⟨e0, e1, e2⟩ := F5.out
  go_wp2
  exact bodyPost_ret (v := .tuple #[.agg #[.int .i64 0, .int .i64 0, .int .i64 0], .int .i64 2]) (by simp [results, Tryd.results13, go_sem, c0, c1, c2]) rfl ⟨rfl, ((A5.out.setCell (Nat.le_succ _) _).setCell (Nat.le_succ _) _).setCell (Nat.le_succ _) _⟩
end Go.Proofs.YtimpaaimdjlhjaaDoor
