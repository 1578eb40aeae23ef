/- The walks of CivilDays, CivilMonths, CivilNth: the Go text returns true, at every input. -/
import Derived.Test.YtdhedkcbkchpgaaDoorLengthsW
import Derived.Test.YtdhedkcbkchpgaaDoorRefD
namespace Go.Proofs.YtdhedkcbkchpgaaDoor
open Go.RowKit
set_option linter.unusedVariables false

/-- Both return the same day. -/
theorem both_day (y m d : Int) (hy : I64 y) (hm : I64 m) (hd : I64 d) : ∃ V E : Int,
    (∀ w, Lens w → Calls Tryd.prog 25 #[.agg #[.int .i64 y, .int .i64 m, .int .i64 d]] w fun e w' => e = .returned (.tuple #[.int .i64 V, .int .i64 E]) ∧ Below w.heap.size w w') ∧
    (∀ w, Calls Tryd.prog 26 #[.agg #[.int .i64 y, .int .i64 m, .int .i64 d]] w fun e w' => e = .returned (.tuple #[.int .i64 V, .int .i64 E]) ∧ Below w.heap.size w w') := by
  by_cases h : vld y m d = true
  · exact ⟨_, _, fun w ht => cday_yes y m d h w ht, fun w => refday_yes y m d h w⟩
  · rw [Bool.not_eq_true] at h
    exact ⟨_, _, fun w ht => cday_no y m d hy hm hd h w ht, fun w => refday_no y m d hy hm hd h w⟩
theorem both_date (n : Int) (hn : I64 n) : ∃ a b c E : Int,
    (∀ w, Calls Tryd.prog 27 #[.int .i64 n] w fun e w' => e = .returned (.tuple #[.agg #[.int .i64 a, .int .i64 b, .int .i64 c], .int .i64 E]) ∧ Below w.heap.size w w') ∧
    (∀ w, Calls Tryd.prog 28 #[.int .i64 n] w fun e w' => e = .returned (.tuple #[.agg #[.int .i64 a, .int .i64 b, .int .i64 c], .int .i64 E]) ∧ Below w.heap.size w w') := by
  by_cases h : n < -719162 ∨ 2932897 ≤ n
  · exact ⟨_, _, _, _, fun w => cdate_no n hn h w, fun w => refdate_no n hn h w⟩
  · obtain ⟨y, m, d, hv, he⟩ := date_of (n := n) (by omega) (by omega)
    exact ⟨_, _, _, _, fun w => cdate_yes n y m d hv he w, fun w => refdate_yes n y m d hv he w⟩
theorem both_add (y m d n : Int) (hy : I64 y) (hm : I64 m) (hd : I64 d) (hn : I64 n) : ∃ a b c E : Int,
    (∀ w, Lens w → Calls Tryd.prog 29 #[.agg #[.int .i64 y, .int .i64 m, .int .i64 d], .int .i64 n] w fun e w' => e = .returned (.tuple #[.agg #[.int .i64 a, .int .i64 b, .int .i64 c], .int .i64 E]) ∧ Below w.heap.size w w') ∧
    (∀ w, Calls Tryd.prog 30 #[.agg #[.int .i64 y, .int .i64 m, .int .i64 d], .int .i64 n] w fun e w' => e = .returned (.tuple #[.agg #[.int .i64 a, .int .i64 b, .int .i64 c], .int .i64 E]) ∧ Below w.heap.size w w') := by
  by_cases h : vld y m d = true
  · obtain ⟨y0, y1, m0, m1, -, -⟩ := vld_bd h
    by_cases k : 12 ≤ 12 * y + m - 1 + n ∧ 12 * y + m - 1 + n < 120000
    · exact ⟨_, _, _, _, fun w ht => cadd_yes y m d n _ hn h rfl k.1 k.2 w ht, fun w => refadd_yes y m d n _ h (by omega) (by omega) rfl k.1 k.2 w⟩
    · refine ⟨0, 0, 0, 2, fun w ht => ?_, fun w => ?_⟩
      · by_cases b : 9223372036854775807 < 12 * y + m - 1 + n
        · exact cadd_big y m d n hn h b w ht
        · exact cadd_year y m d n _ hn h rfl ⟨by have := hn.1; omega, by omega⟩ (by omega) w ht
      · by_cases b : n < -119988 ∨ 119988 < n
        · exact refadd_n y m d n h b w
        · exact refadd_k y m d n h (by omega) (by omega) (by omega) w
  · rw [Bool.not_eq_true] at h
    exact ⟨_, _, _, _, fun w ht => cadd_arg y m d n hy hm hd h w ht, fun w => refadd_arg y m d n hy hm hd h w⟩
theorem both_nth (y mo v n : Int) (hy : I64 y) (hm : I64 mo) (hv : I64 v) (hn : I64 n) : ∃ V E : Int,
    (∀ w, Lens w → Calls Tryd.prog 31 #[.int .i64 y, .int .i64 mo, .int .i64 v, .int .i64 n] w fun e w' => e = .returned (.tuple #[.int .i64 V, .int .i64 E]) ∧ Below w.heap.size w w') ∧
    (∀ w, Calls Tryd.prog 32 #[.int .i64 y, .int .i64 mo, .int .i64 v, .int .i64 n] w fun e w' => e = .returned (.tuple #[.int .i64 V, .int .i64 E]) ∧ Below w.heap.size w w') := by
  by_cases h : lenM y mo = 0 ∨ v < 1 ∨ 7 < v ∨ n = 0
  · exact ⟨_, _, fun w ht => cnth_bad y mo v n hy hm hv h w ht, fun w => refnth_bad y mo v n hy hm hv h w⟩
  · have l0 : 1 ≤ lenM y mo := by
      by_cases k : y < 1 ∨ 9999 < y ∨ mo < 1 ∨ 12 < mo
      · have := lenM_out k; omega
      · have := lenM_in (y := y) (m := mo) (by omega) (by omega) (by omega) (by omega); omega
    by_cases p : 1 ≤ n
    · exact ⟨_, _, fun w ht => cnth_pos y mo v n _ _ _ rfl rfl l0 (by omega) (by omega) p hn rfl w ht, fun w => refnth_pos y mo v n _ _ _ rfl rfl l0 (by omega) (by omega) p hn rfl w⟩
    · exact ⟨_, _, fun w ht => cnth_neg y mo v n _ _ _ rfl rfl l0 (by omega) (by omega) (by omega) hn rfl w ht, fun w => refnth_neg y mo v n _ _ _ rfl rfl l0 (by omega) (by omega) (by omega) hn rfl w⟩
namespace CivilDays
set_option maxRecDepth 100000 in
set_option maxHeartbeats 1000000 in
theorem walk (y m d n : Int) (hy : (Lit.int .i64 y).wf = true) (hm : (Lit.int .i64 m).wf = true) (hd : (Lit.int .i64 d).wf = true) (hn : (Lit.int .i64 n).wf = true) (w : World) (ht : Lens w) :
    Calls Tryd.prog 4 #[.agg #[.int .i64 y, .int .i64 m, .int .i64 d], .int .i64 n] w fun e w' => e = .returned (.bool true) ∧ Below w.heap.size w w' := by
  obtain ⟨V, E, HD, RD⟩ := both_day y m d (i64_wf hy) (i64_wf hm) (i64_wf hd)
  obtain ⟨p, q, r, G, HX, RX⟩ := both_date n (i64_wf hn)
  replace HD := Lib.hid HD
  replace RD := Lib.hid RD
  replace HX := Lib.hid HX
  replace RX := Lib.hid RX
  clear hy hm hd hn
  replace ht := Lib.hid ht
  go_enter Tryd.func4, Tryd.ntmps4
  go_wp2_with fail
  refine (awake_all _ (lens_alloc ht.out _)).mono ?_
  rintro e w1 ⟨rfl, hb⟩
  have A1 := Lib.hid (down (grow (here w) _) hb)
  have B1 := Lib.hid (Box.new hb)
  clear hb
  obtain ⟨c0, c1, c2, z⟩ := B1.out
  go_wp2_with fail
  refine (HD.out _ (lens_below ht.out A1.out)).mono ?_
  rintro e w2 ⟨rfl, hb⟩
  have A2 := Lib.hid (down A1.out hb)
  have B2 := Lib.hid (B1.out.keep hb)
  clear hb A1 B1 c0 c1 c2 z
  obtain ⟨c0, c1, c2, z⟩ := B2.out
  go_wp2_with fail
  refine (RD.out _).mono ?_
  rintro e w3 ⟨rfl, hb⟩
  have A3 := Lib.hid (down A2.out hb)
  clear hb A2 B2 c0 c1 c2 z
  go_wp2_with fail
  refine (HX.out _).mono ?_
  rintro e w4 ⟨rfl, hb⟩
  have A4 := Lib.hid (down A3.out hb)
  clear hb A3
  go_wp2_with fail
  refine (RX.out _).mono ?_
  rintro e w5 ⟨rfl, hb⟩
  have A5 := Lib.hid (down (grow A4.out _) hb)
  have C5 := Lib.hid (Box.new hb)
  clear hb A4
  obtain ⟨c0, c1, c2, z⟩ := C5.out
  go_wp2
  go_ret
  exact ⟨rfl, grow A5.out _⟩
end CivilDays
namespace CivilMonths
set_option maxRecDepth 100000 in
set_option maxHeartbeats 1000000 in
theorem walk (y m d n : Int) (hy : (Lit.int .i64 y).wf = true) (hm : (Lit.int .i64 m).wf = true) (hd : (Lit.int .i64 d).wf = true) (hn : (Lit.int .i64 n).wf = true) (w : World) (ht : Lens w) :
    Calls Tryd.prog 5 #[.agg #[.int .i64 y, .int .i64 m, .int .i64 d], .int .i64 n] w fun e w' => e = .returned (.bool true) ∧ Below w.heap.size w w' := by
  obtain ⟨p, q, r, G, HX, RX⟩ := both_add y m d n (i64_wf hy) (i64_wf hm) (i64_wf hd) (i64_wf hn)
  replace HX := Lib.hid HX
  replace RX := Lib.hid RX
  clear hy hm hd hn
  replace ht := Lib.hid ht
  go_enter Tryd.func5, Tryd.ntmps5
  go_wp2_with fail
  refine (awake_all _ (lens_alloc ht.out _)).mono ?_
  rintro e w1 ⟨rfl, hb⟩
  have A1 := Lib.hid (down (grow (here w) _) hb)
  have B1 := Lib.hid (Box.new hb)
  clear hb
  obtain ⟨c0, c1, c2, z⟩ := B1.out
  go_wp2_with fail
  refine (HX.out _ (lens_below ht.out A1.out)).mono ?_
  rintro e w2 ⟨rfl, hb⟩
  have A2 := Lib.hid (down A1.out hb)
  have B2 := Lib.hid (B1.out.keep hb)
  clear hb A1 B1 c0 c1 c2 z
  obtain ⟨c0, c1, c2, z⟩ := B2.out
  go_wp2_with fail
  refine (RX.out _).mono ?_
  rintro e w3 ⟨rfl, hb⟩
  have A3 := Lib.hid (down (grow A2.out _) hb)
  have C3 := Lib.hid (Box.new hb)
  clear hb A2 B2 c0 c1 c2 z
  obtain ⟨c0, c1, c2, z⟩ := C3.out
  go_wp2
  go_ret
  exact ⟨rfl, grow A3.out _⟩
end CivilMonths
namespace CivilNth
set_option maxRecDepth 100000 in
set_option maxHeartbeats 1000000 in
theorem walk (y m v n : Int) (hy : (Lit.int .i64 y).wf = true) (hm : (Lit.int .i64 m).wf = true) (hv : (Lit.int .i64 v).wf = true) (hn : (Lit.int .i64 n).wf = true) (w : World) (ht : Lens w) :
    Calls Tryd.prog 6 #[.int .i64 y, .int .i64 m, .int .i64 v, .int .i64 n] w fun e w' => e = .returned (.bool true) ∧ Below w.heap.size w w' := by
  obtain ⟨V, E, HX, RX⟩ := both_nth y m v n (i64_wf hy) (i64_wf hm) (i64_wf hv) (i64_wf hn)
  replace HX := Lib.hid HX
  replace RX := Lib.hid RX
  clear hy hm hv hn
  replace ht := Lib.hid ht
  go_enter Tryd.func6, Tryd.ntmps6
  go_wp2_with fail
  refine (awake_all _ ht.out).mono ?_
  rintro e w1 ⟨rfl, A1⟩
  replace A1 := Lib.hid A1
  go_wp2_with fail
  refine (HX.out _ (lens_below ht.out A1.out)).mono ?_
  rintro e w2 ⟨rfl, hb⟩
  have A2 := Lib.hid (down A1.out hb)
  clear hb A1
  go_wp2_with fail
  refine (RX.out _).mono ?_
  rintro e w3 ⟨rfl, hb⟩
  have A3 := Lib.hid (down A2.out hb)
  clear hb A2
  go_wp2
  go_ret
  exact ⟨rfl, A3.out⟩
end CivilNth
end Go.Proofs.YtdhedkcbkchpgaaDoor
