/- The walk of WeekMinimal: the Go text returns true, at every input. -/
import Derived.Test.YtimpaaimdjlhjaaDoorNextK
namespace Go.Proofs.YtimpaaimdjlhjaaDoor
open Go.RowKit
set_option linter.unusedVariables false

theorem day_any (y : Int) (hy : I64 y) : ∃ V E : Int, ∀ w, Lens w → Calls Tryd.prog 35 #[.agg #[.int .i64 y, .int .i64 1, .int .i64 1]] w fun e w' => e = .returned (.tuple #[.int .i64 V, .int .i64 E]) ∧ Below w.heap.size w w' := by
  by_cases h : vld y 1 1 = true
  · exact ⟨_, _, fun w ht => cday_yes y 1 1 h w ht⟩
  · exact ⟨_, _, fun w ht => cday_no y 1 1 hy ⟨by decide, by decide⟩ ⟨by decide, by decide⟩ (by simpa using h) w ht⟩
namespace WeekMinimal
set_option maxRecDepth 100000 in
set_option maxHeartbeats 1000000 in
theorem bad (F M y m E : Int) (V : Bool) (HV : ∀ w, Calls Tryd.prog 15 #[.agg #[.int .i64 F, .int .i64 M]] w fun e w' => e = .returned (.bool V) ∧ Below w.heap.size w w') (hy : I64 y) (hE : E ≠ 0)
    (HS : ∀ w, Calls Tryd.prog 20 #[.agg #[.int .i64 F, .int .i64 M], .int .i64 y] w fun e w' => e = .returned (.tuple #[.int .i64 0, .int .i64 E]) ∧ Below w.heap.size w w')
    (h : V = false ∨ V = true ∧ (y < 1 ∨ 9999 < y)) (w : World) (ht : Lens w) :
    Calls Tryd.prog 10 #[.agg #[.int .i64 F, .int .i64 M], .int .i64 y, .int .u8 m] w fun e w' => e = .returned (.bool true) ∧ Below w.heap.size w w' := by
  obtain ⟨f, G, HD⟩ := day_any y hy
  replace HV := Lib.hid HV
  replace HS := Lib.hid HS
  replace HD := Lib.hid HD
  replace ht := Lib.hid ht
  obtain ⟨hy0, hy1⟩ := hy
  have kE : (E != 0) = true := by simpa using hE
  clear hE
  go_enter Tryd.func10, Tryd.ntmps10
  go_wp2_with fail
  refine (awake_all _ (lens_alloc ht.out _)).mono ?_
  rintro e w1 ⟨rfl, hb⟩
  have A1 := Lib.hid (down (grow (here w) _) hb)
  have R1 := Lib.hid (Two.new hb)
  clear hb
  obtain ⟨c0, c1, z⟩ := R1.out
  go_wp2_with fail
  refine (HS.out _).mono ?_
  rintro e w2 ⟨rfl, hb⟩
  have A2 := Lib.hid (down A1.out hb)
  have R2 := Lib.hid (R1.out.keep hb)
  clear hb A1 R1 c0 c1 z
  go_wp2_with fail
  refine (HD.out _ (lens_below ht.out A2.out)).mono ?_
  rintro e w3 ⟨rfl, hb⟩
  have A3 := Lib.hid (down A2.out hb)
  have R3 := Lib.hid (R2.out.keep hb)
  clear hb A2 R2
  obtain ⟨c0, c1, z⟩ := R3.out
  go_wp2_with fail
  refine (HV.out _).mono ?_
  rintro e w4 ⟨rfl, hb⟩
  have A4 := Lib.hid (down A3.out hb)
  clear hb A3 R3 c0 c1 z
  rcases h with rfl | ⟨rfl, k | k⟩
  · go_wp2
    go_ret
    exact ⟨rfl, A4.out⟩
  · have k1 : decide (y < 1) = true := decide_eq_true k
    go_wp2
    go_ret
    exact ⟨rfl, A4.out⟩
  · have k1 : decide (y < 1) = false := decide_eq_false (by omega)
    have k2 : decide (9999 < y) = true := decide_eq_true k
    go_wp2
    go_ret
    exact ⟨rfl, A4.out⟩
set_option maxRecDepth 100000 in
set_option maxHeartbeats 4000000 in
theorem good (F M y m : Int) (h : rulB F M = true) (y0 : 1 ≤ y) (y1 : y ≤ 9999) (mb0 : 0 ≤ m) (mb1 : m ≤ 255) (w : World) (ht : Lens w) :
    Calls Tryd.prog 10 #[.agg #[.int .i64 F, .int .i64 M], .int .i64 y, .int .u8 m] w fun e w' => e = .returned (.bool true) ∧ Below w.heap.size w w' := by
  obtain ⟨f0, f1, m0, m1⟩ := rulB_iff.1 h
  have HS := Lib.hid (fun z (z0 : 1 ≤ z) (z1 : z ≤ 9999) w ht => kStart_yes F M z h z0 z1 w ht)
  have HN := Lib.hid (fun z (z0 : 1 ≤ z) (z1 : z ≤ 9999) w ht => kWeeks_yes F M z h z0 z1 w ht)
  have HK : Hid (∀ z, 1 ≤ z → z ≤ 9999 → wkS F M (z + 1) = wkS F M z + 7 * wkN F M z ∧ (wkN F M z = 52 ∨ wkN F M z = 53)) := fun z z0 z1 => wkN_in m0 m1 z0 z1
  have HB : Hid (∀ z, 1 ≤ z → z ≤ 10000 → -719168 ≤ wkS F M z ∧ wkS F M z ≤ 2932903) := fun z z0 z1 => wkS_bd m0 m1 z0 z1
  have H1 := Lib.hid (fun w ht => kStart_yes F M y h y0 y1 w ht)
  obtain ⟨hv, hd⟩ := day_first y0 y1
  have HD := fun w ht => cday_yes y 1 1 hv w ht
  rw [hd] at HD
  have bs := wkS_in (F := F) (y := y) m0 m1
  have bf := first_bd y0 (show y ≤ 10000 by omega)
  have bg := first_bd (show 1 ≤ y + 1 by omega) (show y + 1 ≤ 10000 by omega)
  have sf := first_succ y0 y1
  have sl := lp_01 y
  have HW := fun w => cweekday (wkS F M y + 7) ⟨by omega, by omega⟩ w
  rw [wkd_wdy (by omega) (by omega), show wdy (wkS F M y + 7) = F by unfold wdy; omega] at HW
  have hat : Hid (Value.int IntKind.i64 (wkS F M y) = .int .i64 (wkS F M y)) := rfl
  obtain ⟨s, hs⟩ : ∃ s, wkS F M y = s := ⟨_, rfl⟩
  have hs' := Lib.hid hs
  rw [hs] at H1 bs HW
  clear hs hat hv hd
  generalize first y = f at *
  obtain ⟨bs0, bs1, bs2⟩ := bs
  obtain ⟨bf0, bf1⟩ := bf
  clear sf sl bg bs2 h
  replace HD := Lib.hid HD
  replace HW := Lib.hid HW
  replace ht := Lib.hid ht
  obtain ⟨mn, hmn, mnb⟩ : ∃ mn, (if s + 7 - f < 7 then s + 7 - f else 7) = mn ∧ M ≤ mn := ⟨_, rfl, by split <;> omega⟩
  have k1 : decide (mn < M) = false := decide_eq_false (by omega)
  have k2 : decide (M ≤ s - f) = false := decide_eq_false (by omega)
  clear mnb
  go_enter Tryd.func10, Tryd.ntmps10
  go_wp2_with fail
  refine (awake_all _ (lens_alloc ht.out _)).mono ?_
  rintro e w1 ⟨rfl, hb⟩
  have A1 := Lib.hid (down (grow (here w) _) hb)
  have R1 := Lib.hid (Two.new hb)
  clear hb
  obtain ⟨c0, c1, z⟩ := R1.out
  go_wp2_with fail
  refine (H1.out _ (lens_below ht.out A1.out)).mono ?_
  rintro e w2 ⟨rfl, hb⟩
  have A2 := Lib.hid (down A1.out hb)
  have R2 := Lib.hid (R1.out.keep hb)
  clear hb A1 R1 c0 c1 z
  go_wp2_with fail
  refine (HD.out _ (lens_below ht.out A2.out)).mono ?_
  rintro e w3 ⟨rfl, hb⟩
  have A3 := Lib.hid (down A2.out hb)
  have R3 := Lib.hid (R2.out.keep hb)
  clear hb A2 R2
  have p0 : ∀ x : Kept w3, x.wd.cell? ⟨w.heap.size, 0, none⟩ = some (.int .i64 F) := fun x => (R3.out.keep x.ok).c0
  go_wp2
  refine wp_region_kept (by kernel_rfl) (by kernel_rfl) ?_
  repeat (go_big_quiet_step ((go_at_call 32; exact kept_drew _ (HW.out _))))
  refine wpQuiet_nil ?_
  intro w4 hx
  obtain ⟨⟨x4, hb4⟩, hw⟩ := hx
  replace hw : w4 = x4 := hw
  subst x4
  have A4 := Lib.hid (down A3.out hb4)
  have R4 := Lib.hid (R3.out.keep hb4)
  clear A3 R3 p0 hb4
  obtain ⟨c0, c1, z⟩ := R4.out
  go_wp2
  clear hmn k1 k2
  go_loopw [11, 12, 13, 14, 15, 16] (fun a b _ _ _ _ wr => ∃ t z : Int, Hid (wkS F M z = t) ∧ y ≤ z ∧ z ≤ 9999 ∧ a = .int .i64 t ∧ b = .int .i64 z ∧ Hid (Below w.heap.size w wr) ∧ Hid (Two wr w.heap.size (.int .i64 F) (.int .i64 M))) (fun _ b _ _ _ _ _ => (9999 - intOf b).toNat)
  case atStart => exact ⟨s, y, hs', by omega, y1, rfl, rfl, A4, R4⟩
  case round =>
    obtain ⟨t, x, ht', x0, x1, rfl, rfl, A5, R5⟩ := hrel
    clear c0 c1 z A4 R4
    obtain ⟨c0, c1, z⟩ := R5.out
    by_cases q : x < y + m
    · have kq : decide (x < y + m) = true := decide_eq_true q
      by_cases r : x < 9999
      · have kr : decide (x < 9999) = true := decide_eq_true r
        have hk := HK.out x (by omega) (by omega)
        have ha := HB.out x (by omega) (by omega)
        have hb' := HB.out (x + 1) (by omega) (by omega)
        have HN1 := HN.out x (by omega) (by omega)
        have HS1 := HS.out (x + 1) (by omega) (by omega)
        obtain ⟨u, hu⟩ : ∃ u, wkS F M (x + 1) = u := ⟨_, rfl⟩
        have hu' := Lib.hid hu
        rw [ht'.out] at hk ha
        rw [hu] at hk hb' HS1
        clear hu
        generalize wkN F M x = K at *
        obtain ⟨hk1, hk2⟩ := hk
        obtain ⟨ha0, ha1⟩ := ha
        have hk3 : 52 ≤ K := by omega
        have hk4 : K ≤ 53 := by omega
        clear hk2 hb'
        subst hk1
        replace HN1 := Lib.hid HN1
        replace HS1 := Lib.hid HS1
        go_wp2_with fail
        refine (HN1.out _ (lens_below ht.out A5.out)).mono ?_
        rintro e w6 ⟨rfl, hb⟩
        have A6 := Lib.hid (down A5.out hb)
        have R6 := Lib.hid (R5.out.keep hb)
        clear hb c0 c1 z
        obtain ⟨c0, c1, z⟩ := R6.out
        go_wp2_with fail
        refine (HS1.out _ (lens_below ht.out A6.out)).mono ?_
        rintro e w7 ⟨rfl, hb⟩
        have A7 := Lib.hid (down A6.out hb)
        have R7 := Lib.hid (R6.out.keep hb)
        clear hb c0 c1 z
        go_wp2
        go_roundw
        case rel => exact ⟨t + 7 * K, x + 1, hu', by omega, by omega, rfl, rfl, A7, R7⟩
        case measure => simp [intOf]; omega
      · have kr : decide (x < 9999) = false := decide_eq_false r
        go_wp2
        go_ret
        exact ⟨rfl, A5.out⟩
    · have kq : decide (x < y + m) = false := decide_eq_false q
      go_wp2
      go_ret
      exact ⟨rfl, A5.out⟩
theorem walk (F M y m : Int) (hF : (Lit.int .i64 F).wf = true) (hM : (Lit.int .i64 M).wf = true) (hy : (Lit.int .i64 y).wf = true) (hm : (Lit.int .u8 m).wf = true) (w : World) (ht : Lens w) :
    Calls Tryd.prog 10 #[.agg #[.int .i64 F, .int .i64 M], .int .i64 y, .int .u8 m] w fun e w' => e = .returned (.bool true) ∧ Below w.heap.size w w' := by
  replace hF := i64_wf hF
  replace hM := i64_wf hM
  replace hy := i64_wf hy
  by_cases h : rulB F M = true
  · by_cases k : yrB y = true
    · obtain ⟨y0, y1⟩ := yrB_iff.1 k
      have hm' : 0 ≤ m ∧ m ≤ 255 := bounds_u8 hm
      exact good F M y m h y0 y1 hm'.1 hm'.2 w ht
    · have k' : ¬ (1 ≤ y ∧ y ≤ 9999) := fun x => k (yrB_iff.2 x)
      rw [Bool.not_eq_true] at k
      exact bad F M y m 2 true (fun w => by rw [← h]; exact kvalid F M hF hM w) hy (by decide) (fun w => kStart_range F M y h hy k w) (.inr ⟨rfl, by omega⟩) w ht
  · rw [Bool.not_eq_true] at h
    exact bad F M y m 1 false (fun w => by rw [← h]; exact kvalid F M hF hM w) hy (by decide) (fun w => kStart_arg F M y hF hM h w) (.inl rfl) w ht
end WeekMinimal
end Go.Proofs.YtimpaaimdjlhjaaDoor
