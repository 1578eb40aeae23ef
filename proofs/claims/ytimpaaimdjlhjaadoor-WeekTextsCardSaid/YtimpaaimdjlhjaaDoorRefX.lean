/- Contracts of the reference's Weeks, Of, Day, Ordinal, FromOrdinal. -/
import Derived.Test.YtimpaaimdjlhjaaDoorRefW
namespace Go.Proofs.YtimpaaimdjlhjaaDoor
open Go.RowKit
set_option linter.unusedVariables false

set_option maxHeartbeats 400000 in
theorem rweeks (F M y : Int) (f0 : 1 ≤ F) (f1 : F ≤ 7) (m0 : 1 ≤ M) (m1 : M ≤ 7) (y0 : 1 ≤ y) (y1 : y ≤ 9999) (w : World) :
    Calls Tryd.prog 23 #[.agg #[.int .i64 F, .int .i64 M], .int .i64 y] w fun e w' => e = .returned (.int .i64 (wkN F M y)) ∧ Below w.heap.size w w' := by
  have HS := fun w => rstart F M y f0 f1 m0 m1 y0 (by omega) w
  have HT := fun w => rstart F M (y + 1) f0 f1 m0 m1 (by omega) (by omega) w
  have kb := wkN_in (F := F) m0 m1 y0 y1
  have s0 := wkS_bd (F := F) m0 m1 y0 (show y ≤ 10000 by omega)
  have s1 := wkS_bd (F := F) m0 m1 (show 1 ≤ y + 1 by omega) (show y + 1 ≤ 10000 by omega)
  have kt : (wkS F M (y + 1) - wkS F M y).tdiv 7 = wkN F M y := Int.tdiv_eq_ediv_of_nonneg (by omega)
  generalize wkN F M y = K at *
  generalize wkS F M y = s at *
  generalize wkS F M (y + 1) = t at *
  obtain ⟨s00, s01⟩ := s0
  obtain ⟨s10, s11⟩ := s1
  have p0 : 0 ≤ t - s := by omega
  have k0 : 0 ≤ K := by omega
  have k1 : K ≤ 53 := by omega
  have kt2 : (t - s) / 7 = K := by omega
  clear kb
  replace HS := Lib.hid HS
  replace HT := Lib.hid HT
  go_enter Tryd.func23, Tryd.ntmps23
  obtain ⟨w1, hw1⟩ : ∃ w1 : World, w.alloc (.cells #[.int .i64 F, .int .i64 M] 23) = w1 := ⟨_, rfl⟩
  have A1 : Hid (Below w.heap.size w w1) := by rw [← hw1]; exact grow (here _) _
  have R1 : Hid (Two w1 w.heap.size (.int .i64 F) (.int .i64 M)) := by rw [← hw1]; exact Two.new (here _)
  have l0 : ∀ x : Kept w1, x.wd.cell? ⟨w.heap.size, 0, none⟩ = some (.int .i64 F) := fun x => (R1.out.keep x.ok).c0
  have l1 : ∀ x : Kept w1, x.wd.cell? ⟨w.heap.size, 1, none⟩ = some (.int .i64 M) := fun x => (R1.out.keep x.ok).c1
  go_wp2
  clear hw1
  refine wp_region_kept (by kernel_rfl) (by kernel_rfl) ?_
  repeat (go_big_quiet_step ((go_at_call 22; first | (with_reducible exact kept_call _ (HS.out _)) | exact kept_call _ (HT.out _))))
  refine wpQuiet_nil ?_
  intro _ hx
  obtain ⟨⟨w3, hb3⟩, hw⟩ := hx
  subst hw
  go_wp2
  go_ret
  exact ⟨rfl, down A1.out hb3⟩
theorem rOf_arg (F M n : Int) (hF : I64 F) (hM : I64 M) (h : rulB F M = false) (w : World) :
    Calls Tryd.prog 14 #[.agg #[.int .i64 F, .int .i64 M], .int .i64 n] w fun e w' => e = .returned (.tuple #[.agg #[.int .i64 0, .int .i64 0, .int .i64 0], .int .i64 1]) ∧ Below w.heap.size w w' := by
  have HV := fun w => rvalid F M hF hM w
  rw [h] at HV
  replace HV := Lib.hid HV
  clear h
  go_enter Tryd.func14, Tryd.ntmps14
  go_wp2_with fail
  refine (HV.out _).mono ?_
  rintro e w1 ⟨rfl, hb⟩
  have A1 := Lib.hid (down (grow (grow (here w) _) _) hb)
  have B1 := Lib.hid (Box.snd hb)
  have F1 := Lib.hid (Free.snd hb)
  clear hb
  obtain ⟨c0, c1, c2, z⟩ := B1.out
  obtain ⟨f0, f1, f2⟩ := F1.out
  go_wp2
  exact bodyPost_ret (v := .tuple #[.agg #[.int .i64 0, .int .i64 0, .int .i64 0], .int .i64 1]) (by simp [results, Tryd.results14, go_sem, c0, c1, c2]) rfl ⟨rfl, ((A1.out.setCell (Nat.le_succ _) _).setCell (Nat.le_succ _) _).setCell (Nat.le_succ _) _⟩
theorem rOf_out (F M n : Int) (h : rulB F M = true) (hn : I64 n) (k : dyB n = false) (w : World) :
    Calls Tryd.prog 14 #[.agg #[.int .i64 F, .int .i64 M], .int .i64 n] w fun e w' => e = .returned (.tuple #[.agg #[.int .i64 0, .int .i64 0, .int .i64 0], .int .i64 2]) ∧ Below w.heap.size w w' := by
  obtain ⟨f0, f1, m0, m1⟩ := rulB_iff.1 h
  have HV := fun w => rvalid F M ⟨by omega, by omega⟩ ⟨by omega, by omega⟩ w
  have HI := fun w => rinside n hn w
  rw [h] at HV
  rw [k] at HI
  replace HV := Lib.hid HV
  replace HI := Lib.hid HI
  clear h k f0 f1
  go_enter Tryd.func14, Tryd.ntmps14
  go_wp2_with fail
  refine (HV.out _).mono ?_
  rintro e w1 ⟨rfl, hb⟩
  have A1 := Lib.hid (down (grow (grow (here w) _) _) hb)
  have R1 := Lib.hid (Two.fst hb)
  have B1 := Lib.hid (Box.snd hb)
  have F1 := Lib.hid (Free.snd hb)
  clear hb
  go_wp2_with fail
  refine (HI.out _).mono ?_
  rintro e w2 ⟨rfl, rfl⟩
  obtain ⟨c0, c1, c2, z⟩ := B1.out
  obtain ⟨f0, f1, f2⟩ := F1.out
  go_wp2
  exact bodyPost_ret (v := .tuple #[.agg #[.int .i64 0, .int .i64 0, .int .i64 0], .int .i64 2]) (by simp [results, Tryd.results14, go_sem, c0, c1, c2]) rfl ⟨rfl, ((A1.out.setCell (Nat.le_succ _) _).setCell (Nat.le_succ _) _).setCell (Nat.le_succ _) _⟩
theorem rOf_far (F M n : Int) (h : rulB F M = true) (k : dyB n = true) (q : ¬ (wkS F M 1 ≤ n ∧ n < wkS F M 10000)) (w : World) :
    Calls Tryd.prog 14 #[.agg #[.int .i64 F, .int .i64 M], .int .i64 n] w fun e w' => e = .returned (.tuple #[.agg #[.int .i64 0, .int .i64 0, .int .i64 0], .int .i64 2]) ∧ Below w.heap.size w w' := by
  obtain ⟨f0, f1, m0, m1⟩ := rulB_iff.1 h
  obtain ⟨n0, n1⟩ := dyB_iff.1 k
  have HV := fun w => rvalid F M ⟨by omega, by omega⟩ ⟨by omega, by omega⟩ w
  have HI := fun w => rinside n ⟨by omega, by omega⟩ w
  have HS := Lib.hid (fun w => rstart F M 1 f0 f1 m0 m1 (by omega) (by omega) w)
  have HT := Lib.hid (fun w => rstart F M 10000 f0 f1 m0 m1 (by omega) (by omega) w)
  rw [h] at HV
  rw [k] at HI
  generalize wkS F M 1 = s at *
  generalize wkS F M 10000 = t at *
  replace HV := Lib.hid HV
  replace HI := Lib.hid HI
  clear h k f0 f1
  go_enter Tryd.func14, Tryd.ntmps14
  go_wp2_with fail
  refine (HV.out _).mono ?_
  rintro e w1 ⟨rfl, hb⟩
  have A1 := Lib.hid (down (grow (grow (here w) _) _) hb)
  have R1 := Lib.hid (Two.fst hb)
  have B1 := Lib.hid (Box.snd hb)
  have F1 := Lib.hid (Free.snd hb)
  clear hb
  go_wp2_with fail
  refine (HI.out _).mono ?_
  rintro e w2 ⟨rfl, rfl⟩
  obtain ⟨c0, c1, z⟩ := R1.out
  by_cases a : n < s
  · have ka : decide (n < s) = true := decide_eq_true a
    go_wp2_with fail
    refine (HS.out _).mono ?_
    rintro e w2 ⟨rfl, hb⟩
    have A2 := Lib.hid (down A1.out hb)
    have B2 := Lib.hid (B1.out.keep hb)
    have F2 := Lib.hid (F1.out.keep B1.out.lt hb)
    clear hb c0 c1 z A1 R1 B1 F1
    obtain ⟨c0, c1, c2, z⟩ := B2.out
    obtain ⟨f0, f1, f2⟩ := F2.out
    go_wp2
    exact bodyPost_ret (v := .tuple #[.agg #[.int .i64 0, .int .i64 0, .int .i64 0], .int .i64 2]) (by simp [results, Tryd.results14, go_sem, c0, c1, c2]) rfl ⟨rfl, ((A2.out.setCell (Nat.le_succ _) _).setCell (Nat.le_succ _) _).setCell (Nat.le_succ _) _⟩
  · have ka : decide (n < s) = false := decide_eq_false a
    have kb : decide (t ≤ n) = true := decide_eq_true (by omega)
    go_wp2_with fail
    refine (HS.out _).mono ?_
    rintro e w2 ⟨rfl, hb⟩
    have A2 := Lib.hid (down A1.out hb)
    have R2 := Lib.hid (R1.out.keep hb)
    have B2 := Lib.hid (B1.out.keep hb)
    have F2 := Lib.hid (F1.out.keep B1.out.lt hb)
    clear hb c0 c1 z A1 R1 B1 F1
    obtain ⟨c0, c1, z⟩ := R2.out
    go_wp2_with fail
    refine (HT.out _).mono ?_
    rintro e w3 ⟨rfl, hb⟩
    have A3 := Lib.hid (down A2.out hb)
    have B3 := Lib.hid (B2.out.keep hb)
    have F3 := Lib.hid (F2.out.keep B2.out.lt hb)
    clear hb c0 c1 z A2 R2 B2 F2
    obtain ⟨c0, c1, c2, z⟩ := B3.out
    obtain ⟨f0, f1, f2⟩ := F3.out
    go_wp2
    exact bodyPost_ret (v := .tuple #[.agg #[.int .i64 0, .int .i64 0, .int .i64 0], .int .i64 2]) (by simp [results, Tryd.results14, go_sem, c0, c1, c2]) rfl ⟨rfl, ((A3.out.setCell (Nat.le_succ _) _).setCell (Nat.le_succ _) _).setCell (Nat.le_succ _) _⟩
set_option maxHeartbeats 1000000 in
theorem rOf_in (F M n Y : Int) (h : rulB F M = true) (k : InY F M n Y) (n0 : -719162 ≤ n) (n1 : n < 2932897) (w : World) :
    Calls Tryd.prog 14 #[.agg #[.int .i64 F, .int .i64 M], .int .i64 n] w fun e w' => e = .returned (.tuple #[.agg #[.int .i64 Y, .int .i64 (wkW F M n Y), .int .i64 (wdy n)], .int .i64 0]) ∧ Below w.heap.size w w' := by
  obtain ⟨f0, f1, m0, m1⟩ := rulB_iff.1 h
  obtain ⟨y, m, d, hv, hn⟩ := date_of n0 n1
  obtain ⟨y0, y1, -, -, -, -⟩ := vld_bd hv
  have hd := day_in hv
  rw [hn] at hd
  obtain ⟨-, -, -, p⟩ := year_near (F := F) m0 m1 y0 y1 hd.1 hd.2.1
  obtain ⟨Y0, Y1, lo, hi⟩ := k
  have hG : (1 ≤ y - 1 → y - 1 ≤ Y) := by
    intro z
    rcases Int.lt_or_le Y (y - 1) with q | q
    · have := wkS_mono (F := F) m0 m1 (y := Y + 1) (z := y - 1) (by omega) (by omega) (by omega)
      have := p (by omega)
      omega
    · exact q
  have HY := Lib.hid (fun w => ryear n y y0 y1 hd.1 hd.2.1 w)
  have HV := fun w => rvalid F M ⟨by omega, by omega⟩ ⟨by omega, by omega⟩ w
  have HI := fun w => rinside n ⟨by omega, by omega⟩ w
  have HS := Lib.hid (fun w => rstart F M 1 f0 f1 m0 m1 (by omega) (by omega) w)
  have HT := Lib.hid (fun w => rstart F M 10000 f0 f1 m0 m1 (by omega) (by omega) w)
  have HU := Lib.hid (fun w => rstart F M Y f0 f1 m0 m1 Y0 (by omega) w)
  have HZ := Lib.hid (fun z (z0 : 1 ≤ z) (z1 : z ≤ 10000) w => rstart F M z f0 f1 m0 m1 z0 z1 w)
  have HL : Hid (∀ z, 1 ≤ z → z < Y → wkS F M (z + 1) ≤ n) := fun z z0 z1 => by
    have := wkS_mono (F := F) m0 m1 (y := z + 1) (z := Y) (by omega) (by omega) (by omega); omega
  have HW := Lib.hid (fun w => rwday n (by omega) (by omega) w)
  have hi' := Lib.hid hi
  have lo' := Lib.hid lo
  rw [h] at HV
  rw [dyB_iff.2 ⟨n0, n1⟩] at HI
  have a1 := wkS_mono (F := F) m0 m1 (y := 1) (z := Y) (by omega) (by omega) (by omega)
  have a2 := wkS_mono (F := F) m0 m1 (y := Y + 1) (z := 10000) (by omega) (by omega) (by omega)
  have sb := wkS_bd (F := F) m0 m1 Y0 (show Y ≤ 10000 by omega)
  have wb := wdy_bd n
  have ew : Hid (wkW F M n Y = (n - wkS F M Y) / 7 + 1) := by show _ = _; rfl
  have ka : decide (n < wkS F M 1) = false := decide_eq_false (by omega)
  have kb : decide (wkS F M 10000 ≤ n) = false := decide_eq_false (by omega)
  generalize wkW F M n Y = W at *
  generalize wdy n = V at *
  have et : Hid ((n - wkS F M Y).tdiv 7 = (n - wkS F M Y) / 7) := by show _ = _; exact Int.tdiv_eq_ediv_of_nonneg (by omega)
  replace HV := Lib.hid HV
  replace HI := Lib.hid HI
  clear h p a1 a2 lo hi hd hn hv
  generalize wkS F M 1 = s1 at *
  generalize wkS F M 10000 = s2 at *
  go_enter Tryd.func14, Tryd.ntmps14
  go_wp2_with fail
  refine (HV.out _).mono ?_
  rintro e w1 ⟨rfl, hb⟩
  have A1 := Lib.hid (down (grow (grow (here w) _) _) hb)
  have R1 := Lib.hid (Two.fst hb)
  have B1 := Lib.hid (Box.snd hb)
  have F1 := Lib.hid (Free.snd hb)
  clear hb
  go_wp2_with fail
  refine (HI.out _).mono ?_
  rintro e w2 ⟨rfl, rfl⟩
  obtain ⟨c0, c1, z⟩ := R1.out
  go_wp2_with fail
  refine (HS.out _).mono ?_
  rintro e w2 ⟨rfl, hb⟩
  have A2 := Lib.hid (down A1.out hb)
  have R2 := Lib.hid (R1.out.keep hb)
  have B2 := Lib.hid (B1.out.keep hb)
  have F2 := Lib.hid (F1.out.keep B1.out.lt hb)
  clear hb c0 c1 z A1 R1 B1 F1
  obtain ⟨c0, c1, z⟩ := R2.out
  go_wp2_with fail
  refine (HT.out _).mono ?_
  rintro e w3 ⟨rfl, hb⟩
  have A3 := Lib.hid (down A2.out hb)
  have R3 := Lib.hid (R2.out.keep hb)
  have B3 := Lib.hid (B2.out.keep hb)
  have F3 := Lib.hid (F2.out.keep B2.out.lt hb)
  clear hb c0 c1 z A2 R2 B2 F2
  go_wp2_with fail
  refine (HY.out _).mono ?_
  rintro e w4 ⟨rfl, rfl⟩
  obtain ⟨G, eG, G0, G1⟩ : ∃ G, (if y - 1 < 1 then 1 else y - 1) = G ∧ 1 ≤ G ∧ G ≤ Y := ⟨_, rfl, by split <;> omega, by split <;> omega⟩
  have eG2 : (if 1 < y - 1 then y - 1 else 1) = G := by rw [← eG]; split <;> split <;> omega
  clear hG
  go_wp2
  go_loopw [6] (fun a wr => ∃ z : Int, 1 ≤ z ∧ z ≤ Y ∧ a = .int .i64 z ∧ Hid (Below w.heap.size w wr) ∧ Hid (Two wr w.heap.size (.int .i64 F) (.int .i64 M)) ∧ Hid (Box wr (w.heap.size + 1) (.int .i64 0) (.int .i64 0) (.int .i64 0)) ∧ Hid (Free wr (w.heap.size + 1))) (fun a _ => (Y - intOf a).toNat)
  case atStart => exact ⟨G, G0, G1, rfl, A3, R3, B3, F3⟩
  case round =>
    obtain ⟨z, z0, z1, rfl, A4, R4, B4, F4⟩ := hrel
    clear A3 R3 B3 F3 eG eG2 G0 G1
    obtain ⟨c0, c1, zz⟩ := R4.out
    have HN := Lib.hid (fun w => HZ.out (z + 1) (by omega) (by omega) w)
    by_cases c : z < Y
    · have kq := HL.out z z0 c
      generalize wkS F M (z + 1) = q at *
      have kq' : decide (q ≤ n) = true := decide_eq_true kq
      clear kq
      go_wp2_with fail
      refine (HN.out _).mono ?_
      rintro e w5 ⟨rfl, hb⟩
      have A5 := Lib.hid (down A4.out hb)
      have R5 := Lib.hid (R4.out.keep hb)
      have B5 := Lib.hid (B4.out.keep hb)
      have F5 := Lib.hid (F4.out.keep B4.out.lt hb)
      clear hb
      go_wp2
      go_roundw
      case rel => exact ⟨z + 1, by omega, by omega, rfl, A5, R5, B5, F5⟩
      case measure => simp [intOf]; omega
    · obtain rfl : z = Y := by omega
      have kq := hi'.out
      generalize wkS F M (z + 1) = q at *
      have kq' : decide (q ≤ n) = false := decide_eq_false (by omega)
      have lo := lo'.out
      clear kq hi' lo' HL HZ c
      generalize wkS F M z = s at *
      have et' : (n - s).tdiv 7 = (n - s) / 7 := et.out
      have sq : 0 ≤ (n - s) / 7 ∧ (n - s) / 7 ≤ 1000000 := by omega
      obtain ⟨Q, hQ⟩ : ∃ Q, (n - s) / 7 = Q := ⟨_, rfl⟩
      rw [hQ] at et' sq ew
      obtain ⟨sq0, sq1⟩ := sq
      have p0 : 0 ≤ n - s := by omega
      go_wp2_with fail
      refine (HN.out _).mono ?_
      rintro e w5 ⟨rfl, hb⟩
      have A5 := Lib.hid (down A4.out hb)
      have R5 := Lib.hid (R4.out.keep hb)
      have B5 := Lib.hid (B4.out.keep hb)
      have F5 := Lib.hid (F4.out.keep B4.out.lt hb)
      clear hb A4 R4 B4 F4 c0 c1 zz
      obtain ⟨c0, c1, zz⟩ := R5.out
      go_wp2_with fail
      refine (HU.out _).mono ?_
      rintro e w6 ⟨rfl, hb⟩
      have A6 := Lib.hid (down A5.out hb)
      have B6 := Lib.hid (B5.out.keep hb)
      have F6 := Lib.hid (F5.out.keep B5.out.lt hb)
      clear hb A5 R5 B5 F5 c0 c1 zz
      go_wp2_with fail
      refine (HW.out _).mono ?_
      rintro e w7 ⟨rfl, rfl⟩
      obtain ⟨c0, c1, c2, zz⟩ := B6.out
      obtain ⟨e0, e1, e2⟩ := F6.out
      go_wp2
      have eW := ew.out
      subst eW
      exact bodyPost_ret (v := .tuple #[.agg #[.int .i64 z, .int .i64 (Q + 1), .int .i64 V], .int .i64 0]) (by simp [results, Tryd.results14, go_sem, c0, c1, c2]) rfl ⟨rfl, ((A6.out.setCell (Nat.le_succ _) _).setCell (Nat.le_succ _) _).setCell (Nat.le_succ _) _⟩
end Go.Proofs.YtimpaaimdjlhjaaDoor
