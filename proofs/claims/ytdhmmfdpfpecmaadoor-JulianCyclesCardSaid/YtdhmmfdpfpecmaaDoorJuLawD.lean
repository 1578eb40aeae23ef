/- The walk of JulianCycles: the Go text returns true, at every input. -/
import Derived.Test.YtdhmmfdpfpecmaaDoorJuLawB
namespace Go.Proofs.YtdhmmfdpfpecmaaDoor
open Go.RowKit
set_option linter.unusedVariables false

namespace JulianCycles
set_option maxRecDepth 100000 in
set_option maxHeartbeats 2000000 in
theorem bad (y m d N E : Int) (kE : (E != 0) = true) (HD : ∀ w, JLens w → Calls Tryd.prog 13 #[.agg #[.int .i64 y, .int .i64 m, .int .i64 d]] w fun e w' => e = .returned (.tuple #[.int .i64 N, .int .i64 E]) ∧ Below w.heap.size w w') (w : World) (ht : Tabs w) :
    Calls Tryd.prog 7 #[.agg #[.int .i64 y, .int .i64 m, .int .i64 d]] w fun e w' => e = .returned (.bool true) ∧ Below w.heap.size w w' := by
  have AW := Lib.hid (fun w ht => awake_all w ht)
  replace ht := Lib.hid ht
  replace HD := Lib.hid HD
  go_enter Tryd.func7, Tryd.ntmps7
  go_wp2_with fail
  refine (AW.out _ (ht.out.below (grow (here w) _))).mono ?_
  rintro e w1 ⟨rfl, hb⟩
  have A1 := Lib.hid (down (grow (here w) _) hb)
  have D1 := Lib.hid (Box.new hb)
  clear hb
  obtain ⟨d1_0, d1_1, d1_2, d1_z⟩ := D1.out
  go_wp2_with fail
  refine (HD.out _ (ht.out.below A1.out).jl).mono ?_
  rintro e w2 ⟨rfl, hb⟩
  have A2 := Lib.hid (down A1.out hb)
  have D2 := Lib.hid (D1.out.keep hb)
  clear hb A1 D1 d1_0 d1_1 d1_2 d1_z
  obtain ⟨d2_0, d2_1, d2_2, d2_z⟩ := D2.out
  go_wp2
  go_ret
  exact ⟨rfl, by first | exact A2.out | exact grow A2.out _ | exact below_drewN A2.out _ | exact grow (grow A2.out _) _ | exact grow (grow (grow A2.out _) _) _⟩
set_option maxRecDepth 100000 in
set_option maxHeartbeats 2000000 in
theorem good (y m d N M E : Int) (y0 : 1 ≤ y) (y1 : y ≤ 9999) (n0 : -719162 ≤ N) (n1 : N < 2932897)
    (HD : ∀ w, JLens w → Calls Tryd.prog 13 #[.agg #[.int .i64 y, .int .i64 m, .int .i64 d]] w fun e w' => e = .returned (.tuple #[.int .i64 N, .int .i64 0]) ∧ Below w.heap.size w w')
    (HE : ∀ w, JLens w → Calls Tryd.prog 13 #[.agg #[.int .i64 (y + 4), .int .i64 m, .int .i64 d]] w fun e w' => e = .returned (.tuple #[.int .i64 M, .int .i64 E]) ∧ Below w.heap.size w w')
    (t : E = 2 ∨ E = 1 ∧ decide (9999 < y + 4) = true ∨ E = 0 ∧ M = N + 1461) (w : World) (ht : Tabs w) :
    Calls Tryd.prog 7 #[.agg #[.int .i64 y, .int .i64 m, .int .i64 d]] w fun e w' => e = .returned (.bool true) ∧ Below w.heap.size w w' := by
  have HB := fun w => ujleap y ⟨by omega, by omega⟩ w
  have q := jlp_eq y0 y1
  have HC := jcum_end y
  have HJ : Hid (∀ k : Int, 1 ≤ k → k ≤ 12 → jcum y (k + 1) = jcum y k + jlenM y k ∧ 0 ≤ jcum y k ∧ jcum y k ≤ 366 ∧ 0 ≤ jcum y (k + 1) ∧ jcum y (k + 1) ≤ 366 ∧ 28 ≤ jlenM y k ∧ jlenM y k ≤ 31) := fun k k0 k1 => by
    have a := jcum_succ y0 y1 k0 k1
    have b := jcum_bd y0 y1 k0 (show k ≤ 13 by omega)
    have c := jcum_bd y0 y1 (show 1 ≤ k + 1 by omega) (show k + 1 ≤ 13 by omega)
    have l := jlenM_in y0 y1 k0 k1
    omega
  have HL := fun k (k0 : 1 ≤ k) (k1 : k ≤ 12) w ht => ujlen y k ⟨by omega, by omega⟩ ⟨by omega, by omega⟩ w ht
  have hs : jleapB y = true ∧ jcum y 13 = 366 ∨ jleapB y = false ∧ jcum y 13 = 365 := by
    unfold jlp at HC
    cases l : jleapB y
    · rw [l] at HC; right; exact ⟨rfl, by rw [HC]; rfl⟩
    · rw [l] at HC; left; exact ⟨rfl, by rw [HC]; rfl⟩
  clear q HC
  have AW := Lib.hid (fun w ht => awake_all w ht)
  replace ht := Lib.hid ht
  replace HB := Lib.hid HB
  replace HL := Lib.hid HL
  replace HD := Lib.hid HD
  replace HE := Lib.hid HE
  replace hs := Lib.hid hs
  replace t := Lib.hid t
  go_enter Tryd.func7, Tryd.ntmps7
  go_wp2_with fail
  refine (AW.out _ (ht.out.below (grow (here w) _))).mono ?_
  rintro e w1 ⟨rfl, hb⟩
  have A1 := Lib.hid (down (grow (here w) _) hb)
  have le_D : Hid (w.heap.size ≤ w.heap.size) := by show _ ≤ _; have := (here w).size; omega
  have D1 := Lib.hid (Box.new hb)
  have FD1 := Lib.hid (Free.new hb)
  clear hb
  obtain ⟨d1_0, d1_1, d1_2, d1_z⟩ := D1.out
  obtain ⟨d1_f0, d1_f1, d1_f2⟩ := FD1.out
  go_wp2_with fail
  refine (HD.out _ (ht.out.below A1.out).jl).mono ?_
  rintro e w2 ⟨rfl, hb⟩
  have A2 := Lib.hid (down A1.out hb)
  have D2 := Lib.hid (D1.out.keep hb)
  have FD2 := Lib.hid (FD1.out.keep D1.out.lt hb)
  clear hb A1 D1 FD1 d1_0 d1_1 d1_2 d1_z d1_f0 d1_f1 d1_f2
  obtain ⟨d2_0, d2_1, d2_2, d2_z⟩ := D2.out
  obtain ⟨d2_f0, d2_f1, d2_f2⟩ := FD2.out
  have HT := Lib.hid (ht.out.below A2.out).jl
  go_wp2
  go_loop [5, 6] (fun a b => ∃ (k s : Int), 1 ≤ k ∧ k ≤ 13 ∧ 0 ≤ s ∧ s ≤ 366 ∧ Hid (s = jcum y k) ∧ a = .int .i64 s ∧ b = .int .i64 k) (fun _ b => (13 - intOf b).toNat)
  case atStart => exact ⟨1, 0, by omega, by omega, by omega, by omega, (jcum_one y).symm, rfl, rfl⟩
  case round =>
    obtain ⟨k, s, k0, k1, s0, s1, HC, rfl, rfl⟩ := hrel
    by_cases z : k ≤ 12
    · have kz : decide (k ≤ 12) = true := decide_eq_true z
      have q := HJ.out k k0 z
      have HK := Lib.hid (fun w ht => HL.out k k0 z w ht)
      have HC' : Hid (s + jlenM y k = jcum y (k + 1)) := by show s + jlenM y k = jcum y (k + 1); rw [q.1, ← HC.out]
      have sb : 0 ≤ s + jlenM y k ∧ s + jlenM y k ≤ 366 := by rw [HC'.out]; omega
      have lb : 28 ≤ jlenM y k ∧ jlenM y k ≤ 31 := by omega
      clear q HC HL HJ
      generalize jlenM y k = l at *
      obtain ⟨sb0, sb1⟩ := sb
      obtain ⟨lb0, lb1⟩ := lb
      go_wp2_with fail
      refine (HK.out _ HT.out).mono ?_
      rintro e x1 ⟨rfl, rfl⟩
      go_wp2
      go_round
      case rel => exact ⟨k + 1, s + l, by omega, by omega, by omega, by omega, HC', rfl, rfl⟩
      case measure => simp [intOf]; omega
    · obtain rfl : k = 13 := by omega
      rcases hs.out with ⟨l, e13⟩ | ⟨l, e13⟩
      all_goals
        have es : s = _ := HC.out.trans e13
        have HB2 := HB.out
        rw [l] at HB2
        replace HB2 := Lib.hid HB2
        clear HB HC HJ HL hs e13 l z
        subst es
        go_wp2_with fail
        refine (HB2.out _).mono ?_
        rintro e x1 ⟨rfl, rfl⟩
        obtain ⟨w3, hw3⟩ : ∃ w' : World, w2.setCell ⟨w.heap.size, 0, none⟩ (.int .i64 (y + 4)) = w' := ⟨_, rfl⟩
        have A3 : Hid (Below w.heap.size w w3) := by rw [← hw3]; exact A2.out.setCell le_D.out _
        have D3 : Hid (Box w3 (w.heap.size) (.int .i64 (y + 4)) (.int .i64 (m)) (.int .i64 (d))) := by rw [← hw3]; exact D2.out.put0 _
        have FD3 : Hid (Free w3 (w.heap.size)) := by rw [← hw3]; exact FD2.out.set _ _
        obtain ⟨d3_0, d3_1, d3_2, d3_z⟩ := D3.out
        obtain ⟨d3_f0, d3_f1, d3_f2⟩ := FD3.out
        go_wp2_with fail
        refine (HE.out _ (ht.out.below A3.out).jl).mono ?_
        rintro e w4 ⟨rfl, hb⟩
        have A4 := Lib.hid (down A3.out hb)
        have D4 := Lib.hid (D3.out.keep hb)
        have FD4 := Lib.hid (FD3.out.keep D3.out.lt hb)
        clear hb A3 D3 FD3 d2_0 d2_1 d2_2 d2_z d2_f0 d2_f1 d2_f2 d3_0 d3_1 d3_2 d3_z d3_f0 d3_f1 d3_f2 hw3
        obtain ⟨d4_0, d4_1, d4_2, d4_z⟩ := D4.out
        obtain ⟨d4_f0, d4_f1, d4_f2⟩ := FD4.out
        rcases t.out with rfl | ⟨rfl, t1⟩ | ⟨rfl, rfl⟩
        all_goals
          go_wp2
          go_ret
          exact ⟨rfl, by first | exact A4.out | exact grow A4.out _ | exact below_drewN A4.out _ | exact grow (grow A4.out _) _ | exact grow (grow (grow A4.out _) _) _⟩
theorem walk (y m d : Int) (hy : (Lit.int .i64 y).wf = true) (hm : (Lit.int .i64 m).wf = true) (hd : (Lit.int .i64 d).wf = true) (w : World) (ht : Tabs w) :
    Calls Tryd.prog 7 #[.agg #[.int .i64 y, .int .i64 m, .int .i64 d]] w fun e w' => e = .returned (.bool true) ∧ Below w.heap.size w w' := by
  rcases jday_fate y m d (i64_wf hy) (i64_wf hm) (i64_wf hd) with ⟨N, E, kE, -, HD⟩ | ⟨N, r0, r1, hv, he, HD⟩
  · exact bad y m d N E kE HD w ht
  · obtain ⟨y0, y1, m0, m1, d0, d1⟩ := jvld_bd hv
    have q := fun w ht => ujday (y + 4) m d ⟨by omega, by omega⟩ ⟨by omega, by omega⟩ ⟨by omega, by omega⟩ w ht
    by_cases k : y + 4 ≤ 9999
    · have l := jdate_later hv k
      by_cases r : -719162 ≤ jdayN (y + 4) m d ∧ jdayN (y + 4) m d < 2932897
      · rw [(jd_in l.1 r).1, (jd_in l.1 r).2, l.2, he] at q
        exact good y m d N _ _ y0 y1 r0 r1 HD q (.inr (.inr ⟨rfl, rfl⟩)) w ht
      · rw [(jd_out l.1 r).1, (jd_out l.1 r).2] at q
        exact good y m d N _ _ y0 y1 r0 r1 HD q (.inl rfl) w ht
    · have l := jvld_out (y := y + 4) (m := m) (d := d) (.inr (by omega))
      rw [(jd_bad l).1, (jd_bad l).2] at q
      exact good y m d N _ _ y0 y1 r0 r1 HD q (.inr (.inl ⟨rfl, decide_eq_true (by omega)⟩)) w ht
end JulianCycles
end Go.Proofs.YtdhmmfdpfpecmaaDoor
