/- The walk of CivilUndone: the Go text returns true, at every input. -/
import Derived.Test.YtdhedkcbkchpgaaDoorLengthsW
namespace Go.Proofs.YtdhedkcbkchpgaaDoor
open Go.RowKit
set_option linter.unusedVariables false

/-- AddMonths returns a date, or an error and nothing else. -/
theorem cadd_cases (y m d n : Int) (hy : I64 y) (hm : I64 m) (hd : I64 d) (hn : I64 n) :
    (∃ E : Int, (E != 0) = true ∧ ∀ w, Lens w → Calls Tryd.prog 29 #[.agg #[.int .i64 y, .int .i64 m, .int .i64 d], .int .i64 n] w fun e w' => e = .returned (.tuple #[.agg #[.int .i64 0, .int .i64 0, .int .i64 0], .int .i64 E]) ∧ Below w.heap.size w w') ∨
    (vld y m d = true ∧ 12 ≤ 12 * y + m - 1 + n ∧ 12 * y + m - 1 + n < 120000) := by
  by_cases h : vld y m d = true
  · obtain ⟨y0, y1, m0, m1, -, -⟩ := vld_bd h
    by_cases k : 12 ≤ 12 * y + m - 1 + n ∧ 12 * y + m - 1 + n < 120000
    · exact .inr ⟨h, k⟩
    · refine .inl ⟨2, by decide, fun w ht => ?_⟩
      by_cases b : 9223372036854775807 < 12 * y + m - 1 + n
      · exact cadd_big y m d n hn h b w ht
      · exact cadd_year y m d n _ hn h rfl ⟨by have := hn.1; omega, by omega⟩ (by omega) w ht
  · rw [Bool.not_eq_true] at h
    exact .inl ⟨1, by decide, fun w ht => cadd_arg y m d n hy hm hd h w ht⟩
namespace CivilUndone
set_option maxRecDepth 100000 in
set_option maxHeartbeats 2000000 in
theorem walk_no (y m d n k E : Int) (hE : (E != 0) = true) (HX : ∀ w, Lens w → Calls Tryd.prog 29 #[.agg #[.int .i64 y, .int .i64 m, .int .i64 d], .int .i64 n] w fun e w' => e = .returned (.tuple #[.agg #[.int .i64 0, .int .i64 0, .int .i64 0], .int .i64 E]) ∧ Below w.heap.size w w')
    (w : World) (ht : Lens w) :
    Calls Tryd.prog 11 #[.agg #[.int .i64 y, .int .i64 m, .int .i64 d], .int .i64 n, .int .i64 k] w fun e w' => e = .returned (.bool true) ∧ Below w.heap.size w w' := by
  replace HX := Lib.hid HX
  replace ht := Lib.hid ht
  go_enter Tryd.func11, Tryd.ntmps11
  go_wp2_with fail
  refine (awake_all _ (lens_alloc ht.out _)).mono ?_
  rintro e w1 ⟨rfl, hb⟩
  have A1 := Lib.hid (down (grow (here w) _) hb)
  have B1 := Lib.hid (Box.new hb)
  clear hb
  obtain ⟨c0, c1, c2, z⟩ := B1.out
  go_wp2_with fail
  refine (HX.out _ (lens_below ht.out A1.out)).mono ?_
  rintro e w2 ⟨rfl, hb⟩
  have A2 := Lib.hid (down A1.out hb)
  clear hb A1 B1 c0 c1 c2 z
  go_wp2
  go_ret
  exact ⟨rfl, grow A2.out _⟩
/-- What AddMonths has reached: x is the date in the month k / 12, k % 12 + 1. -/
structure Moved (y m d n q r x L : Int) : Prop where
  q0 : 1 ≤ q
  q1 : q ≤ 9999
  r0 : 1 ≤ r
  r1 : r ≤ 12
  e : 12 * q + r - (12 * y + m) = n
  x0 : 1 ≤ x
  xd : x ≤ d
  xL : x ≤ L
  l : lenM q r = L
  c : x = d ∨ x = L
set_option maxRecDepth 100000 in
set_option maxHeartbeats 4000000 in
theorem walk_cut (y m d n k q r L : Int) (hv : vld y m d = true) (hM : Moved y m d n q r L L) (hne : L ≠ d)
    (HX : ∀ w, Lens w → Calls Tryd.prog 29 #[.agg #[.int .i64 y, .int .i64 m, .int .i64 d], .int .i64 n] w fun e w' => e = .returned (.tuple #[.agg #[.int .i64 q, .int .i64 r, .int .i64 L], .int .i64 0]) ∧ Below w.heap.size w w')
    (w : World) (ht : Lens w) :
    Calls Tryd.prog 11 #[.agg #[.int .i64 y, .int .i64 m, .int .i64 d], .int .i64 n, .int .i64 k] w fun e w' => e = .returned (.bool true) ∧ Below w.heap.size w w' := by
  obtain ⟨y0, y1, m0, m1, d0, d1⟩ := vld_bd hv
  obtain ⟨q0, q1, r0, r1, he, x0, xd, xL, hL, hc⟩ := hM
  have hx : vld q r L = true := vld_iff.2 ⟨x0, by rw [hL]; exact xL⟩
  have HV := fun w ht => cvalid q r L ⟨by omega, by omega⟩ ⟨by omega, by omega⟩ ⟨by omega, by omega⟩ w ht
  rw [hx] at HV
  replace HV := Lib.hid HV
  have HL := fun w ht => clen q r ⟨by omega, by omega⟩ ⟨by omega, by omega⟩ w ht
  rw [hL] at HL
  replace HL := Lib.hid HL
  replace HX := Lib.hid HX
  replace ht := Lib.hid ht
  have w1 : IntKind.i64.wrap (12 * q) = 12 * q := wok (by omega) (by omega)
  have w2 : IntKind.i64.wrap (12 * q + r) = 12 * q + r := wok (by omega) (by omega)
  have w3 : IntKind.i64.wrap (12 * y) = 12 * y := wok (by omega) (by omega)
  have w4 : IntKind.i64.wrap (12 * y + m) = 12 * y + m := wok (by omega) (by omega)
  have w5 : IntKind.i64.wrap (12 * q + r - (12 * y + m)) = n := by rw [he]; exact wok (by omega) (by omega)
  have k1 : decide (d < L) = false := decide_eq_false (by omega)
  have k2 : (L != d) = true := bne_iff_ne.2 hne
  have k3 : decide (28 < d) = true := decide_eq_true (by
    have := lenM_in q0 q1 r0 r1
    omega)
  clear hne
  clear hx hL he hc hv
  go_enter Tryd.func11, Tryd.ntmps11
  go_wp2_with fail
  refine (awake_all _ (lens_alloc ht.out _)).mono ?_
  rintro e v1 ⟨rfl, hb⟩
  have A1 := Lib.hid (down (grow (here w) _) hb)
  have B1 := Lib.hid (Box.new hb)
  clear hb
  obtain ⟨c0, c1, c2, z⟩ := B1.out
  go_wp2_with fail
  refine (HX.out _ (lens_below ht.out A1.out)).mono ?_
  rintro e v2 ⟨rfl, hb⟩
  have A2 := Lib.hid (down A1.out hb)
  have B2 := Lib.hid (B1.out.keep hb)
  clear hb A1 B1 c0 c1 c2 z
  obtain ⟨v3, hv3⟩ : ∃ v3 : World, v2.alloc (.cells #[.int .i64 q, .int .i64 r, .int .i64 L] 23) = v3 := ⟨_, rfl⟩
  have A3 : Hid (Below w.heap.size w v3) := by rw [← hv3]; exact grow A2.out _
  have B3 : Hid (Box v3 w.heap.size (.int .i64 y) (.int .i64 m) (.int .i64 d)) := by rw [← hv3]; exact B2.out.old _
  have C3 : Hid (Box v3 v2.heap.size (.int .i64 q) (.int .i64 r) (.int .i64 L)) := by rw [← hv3]; exact Box.new (here _)
  have HT : Hid (∀ x : Kept v3, Lens x.wd) := fun x => lens_below ht.out (down A3.out x.ok)
  have c0 : ∀ x : Kept v3, x.wd.cell? ⟨w.heap.size, 0, none⟩ = some (.int .i64 y) := fun x => (B3.out.keep x.ok).c0
  have c1 : ∀ x : Kept v3, x.wd.cell? ⟨w.heap.size, 1, none⟩ = some (.int .i64 m) := fun x => (B3.out.keep x.ok).c1
  have c2 : ∀ x : Kept v3, x.wd.cell? ⟨w.heap.size, 2, none⟩ = some (.int .i64 d) := fun x => (B3.out.keep x.ok).c2
  have e0 : ∀ x : Kept v3, x.wd.cell? ⟨v2.heap.size, 0, none⟩ = some (.int .i64 q) := fun x => (C3.out.keep x.ok).c0
  have e1 : ∀ x : Kept v3, x.wd.cell? ⟨v2.heap.size, 1, none⟩ = some (.int .i64 r) := fun x => (C3.out.keep x.ok).c1
  have e2 : ∀ x : Kept v3, x.wd.cell? ⟨v2.heap.size, 2, none⟩ = some (.int .i64 L) := fun x => (C3.out.keep x.ok).c2
  go_wp2
  clear hv3
  refine wp_region_kept (by kernel_rfl) (by kernel_rfl) ?_
  repeat (go_big_quiet_step (first
    | (go_at_call 15; exact kept_call _ (HV.out _ (HT.out _)))
    | (go_at_call 19; exact kept_same _ (HL.out _ (HT.out _)))))
  refine wpQuiet_nil ?_
  intro _ hx
  obtain ⟨⟨v4, hb⟩, hw⟩ := hx
  subst hw
  have A4 := Lib.hid (down A3.out hb)
  have B4 := Lib.hid (B3.out.keep hb)
  have C4 := Lib.hid (C3.out.keep hb)
  clear hb A3 B3 C3 c0 c1 c2 e0 e1 e2 HT w1 w2 w3 w4 w5
  obtain ⟨c0, c1, c2, z⟩ := B4.out
  obtain ⟨e0, e1, e2, ze⟩ := C4.out
  go_wp2
  go_ret
  exact ⟨rfl, A4.out⟩
set_option maxRecDepth 100000 in
set_option maxHeartbeats 4000000 in
theorem walk_long (y m d n k q r L : Int) (hv : vld y m d = true) (hM : Moved y m d n q r d L) (hd : 28 < d)
    (HX : ∀ w, Lens w → Calls Tryd.prog 29 #[.agg #[.int .i64 y, .int .i64 m, .int .i64 d], .int .i64 n] w fun e w' => e = .returned (.tuple #[.agg #[.int .i64 q, .int .i64 r, .int .i64 d], .int .i64 0]) ∧ Below w.heap.size w w')
    (w : World) (ht : Lens w) :
    Calls Tryd.prog 11 #[.agg #[.int .i64 y, .int .i64 m, .int .i64 d], .int .i64 n, .int .i64 k] w fun e w' => e = .returned (.bool true) ∧ Below w.heap.size w w' := by
  obtain ⟨y0, y1, m0, m1, d0, d1⟩ := vld_bd hv
  obtain ⟨q0, q1, r0, r1, he, x0, xd, xL, hL, hc⟩ := hM
  have hx : vld q r d = true := vld_iff.2 ⟨x0, by rw [hL]; exact xL⟩
  have HV := fun w ht => cvalid q r d ⟨by omega, by omega⟩ ⟨by omega, by omega⟩ ⟨by omega, by omega⟩ w ht
  rw [hx] at HV
  replace HV := Lib.hid HV
  have HL := fun w ht => clen q r ⟨by omega, by omega⟩ ⟨by omega, by omega⟩ w ht
  rw [hL] at HL
  replace HL := Lib.hid HL
  replace HX := Lib.hid HX
  replace ht := Lib.hid ht
  have w1 : IntKind.i64.wrap (12 * q) = 12 * q := wok (by omega) (by omega)
  have w2 : IntKind.i64.wrap (12 * q + r) = 12 * q + r := wok (by omega) (by omega)
  have w3 : IntKind.i64.wrap (12 * y) = 12 * y := wok (by omega) (by omega)
  have w4 : IntKind.i64.wrap (12 * y + m) = 12 * y + m := wok (by omega) (by omega)
  have w5 : IntKind.i64.wrap (12 * q + r - (12 * y + m)) = n := by rw [he]; exact wok (by omega) (by omega)
  have k1 : decide (d < d) = false := decide_eq_false (by omega)
  have k3 : decide (28 < d) = true := decide_eq_true hd
  clear hx hL he hc hv
  go_enter Tryd.func11, Tryd.ntmps11
  go_wp2_with fail
  refine (awake_all _ (lens_alloc ht.out _)).mono ?_
  rintro e v1 ⟨rfl, hb⟩
  have A1 := Lib.hid (down (grow (here w) _) hb)
  have B1 := Lib.hid (Box.new hb)
  clear hb
  obtain ⟨c0, c1, c2, z⟩ := B1.out
  go_wp2_with fail
  refine (HX.out _ (lens_below ht.out A1.out)).mono ?_
  rintro e v2 ⟨rfl, hb⟩
  have A2 := Lib.hid (down A1.out hb)
  have B2 := Lib.hid (B1.out.keep hb)
  clear hb A1 B1 c0 c1 c2 z
  obtain ⟨v3, hv3⟩ : ∃ v3 : World, v2.alloc (.cells #[.int .i64 q, .int .i64 r, .int .i64 d] 23) = v3 := ⟨_, rfl⟩
  have A3 : Hid (Below w.heap.size w v3) := by rw [← hv3]; exact grow A2.out _
  have B3 : Hid (Box v3 w.heap.size (.int .i64 y) (.int .i64 m) (.int .i64 d)) := by rw [← hv3]; exact B2.out.old _
  have C3 : Hid (Box v3 v2.heap.size (.int .i64 q) (.int .i64 r) (.int .i64 d)) := by rw [← hv3]; exact Box.new (here _)
  have HT : Hid (∀ x : Kept v3, Lens x.wd) := fun x => lens_below ht.out (down A3.out x.ok)
  have c0 : ∀ x : Kept v3, x.wd.cell? ⟨w.heap.size, 0, none⟩ = some (.int .i64 y) := fun x => (B3.out.keep x.ok).c0
  have c1 : ∀ x : Kept v3, x.wd.cell? ⟨w.heap.size, 1, none⟩ = some (.int .i64 m) := fun x => (B3.out.keep x.ok).c1
  have c2 : ∀ x : Kept v3, x.wd.cell? ⟨w.heap.size, 2, none⟩ = some (.int .i64 d) := fun x => (B3.out.keep x.ok).c2
  have e0 : ∀ x : Kept v3, x.wd.cell? ⟨v2.heap.size, 0, none⟩ = some (.int .i64 q) := fun x => (C3.out.keep x.ok).c0
  have e1 : ∀ x : Kept v3, x.wd.cell? ⟨v2.heap.size, 1, none⟩ = some (.int .i64 r) := fun x => (C3.out.keep x.ok).c1
  have e2 : ∀ x : Kept v3, x.wd.cell? ⟨v2.heap.size, 2, none⟩ = some (.int .i64 d) := fun x => (C3.out.keep x.ok).c2
  go_wp2
  clear hv3
  refine wp_region_kept (by kernel_rfl) (by kernel_rfl) ?_
  repeat (go_big_quiet_step (first
    | (go_at_call 15; exact kept_call _ (HV.out _ (HT.out _)))
    | (go_at_call 19; exact kept_same _ (HL.out _ (HT.out _)))))
  refine wpQuiet_nil ?_
  intro _ hx
  obtain ⟨⟨v4, hb⟩, hw⟩ := hx
  subst hw
  have A4 := Lib.hid (down A3.out hb)
  have B4 := Lib.hid (B3.out.keep hb)
  have C4 := Lib.hid (C3.out.keep hb)
  clear hb A3 B3 C3 c0 c1 c2 e0 e1 e2 HT w1 w2 w3 w4 w5
  obtain ⟨c0, c1, c2, z⟩ := B4.out
  obtain ⟨e0, e1, e2, ze⟩ := C4.out
  go_wp2
  go_ret
  exact ⟨rfl, A4.out⟩
set_option maxRecDepth 100000 in
set_option maxHeartbeats 4000000 in
theorem walk_err (y m d n k q r L E : Int) (hv : vld y m d = true) (hM : Moved y m d n q r d L) (hd : d ≤ 28) (hE : (E != 0) = true)
    (HK : ∀ w, Lens w → Calls Tryd.prog 29 #[.agg #[.int .i64 q, .int .i64 r, .int .i64 d], .int .i64 k] w fun e w' => e = .returned (.tuple #[.agg #[.int .i64 0, .int .i64 0, .int .i64 0], .int .i64 E]) ∧ Below w.heap.size w w')
    (HX : ∀ w, Lens w → Calls Tryd.prog 29 #[.agg #[.int .i64 y, .int .i64 m, .int .i64 d], .int .i64 n] w fun e w' => e = .returned (.tuple #[.agg #[.int .i64 q, .int .i64 r, .int .i64 d], .int .i64 0]) ∧ Below w.heap.size w w')
    (w : World) (ht : Lens w) :
    Calls Tryd.prog 11 #[.agg #[.int .i64 y, .int .i64 m, .int .i64 d], .int .i64 n, .int .i64 k] w fun e w' => e = .returned (.bool true) ∧ Below w.heap.size w w' := by
  obtain ⟨y0, y1, m0, m1, d0, d1⟩ := vld_bd hv
  obtain ⟨q0, q1, r0, r1, he, x0, xd, xL, hL, hc⟩ := hM
  have hx : vld q r d = true := vld_iff.2 ⟨x0, by rw [hL]; exact xL⟩
  have HV := fun w ht => cvalid q r d ⟨by omega, by omega⟩ ⟨by omega, by omega⟩ ⟨by omega, by omega⟩ w ht
  rw [hx] at HV
  replace HV := Lib.hid HV
  have HL := fun w ht => clen q r ⟨by omega, by omega⟩ ⟨by omega, by omega⟩ w ht
  rw [hL] at HL
  replace HL := Lib.hid HL
  replace HX := Lib.hid HX
  replace ht := Lib.hid ht
  have w1 : IntKind.i64.wrap (12 * q) = 12 * q := wok (by omega) (by omega)
  have w2 : IntKind.i64.wrap (12 * q + r) = 12 * q + r := wok (by omega) (by omega)
  have w3 : IntKind.i64.wrap (12 * y) = 12 * y := wok (by omega) (by omega)
  have w4 : IntKind.i64.wrap (12 * y + m) = 12 * y + m := wok (by omega) (by omega)
  have w5 : IntKind.i64.wrap (12 * q + r - (12 * y + m)) = n := by rw [he]; exact wok (by omega) (by omega)
  have k1 : decide (d < d) = false := decide_eq_false (by omega)
  have k3 : decide (28 < d) = false := decide_eq_false (by omega)
  have HN := fun w ht => cadd_yes q r d (-n) (12 * y + m - 1) ⟨by omega, by omega⟩ hx (by omega) (by omega) (by omega) w ht
  rw [show (12 * y + m - 1) / 12 = y by omega, show (12 * y + m - 1) % 12 + 1 = m by omega, show min d (lenM y m) = d by have := vld_iff.1 hv; omega] at HN
  replace HN := Lib.hid HN
  have nb : -119988 ≤ n ∧ n ≤ 119988 := by omega
  obtain ⟨nb0, nb1⟩ := nb
  replace HK := Lib.hid HK
  clear hx hL he hc hv
  go_enter Tryd.func11, Tryd.ntmps11
  go_wp2_with fail
  refine (awake_all _ (lens_alloc ht.out _)).mono ?_
  rintro e v1 ⟨rfl, hb⟩
  have A1 := Lib.hid (down (grow (here w) _) hb)
  have B1 := Lib.hid (Box.new hb)
  clear hb
  obtain ⟨c0, c1, c2, z⟩ := B1.out
  go_wp2_with fail
  refine (HX.out _ (lens_below ht.out A1.out)).mono ?_
  rintro e v2 ⟨rfl, hb⟩
  have A2 := Lib.hid (down A1.out hb)
  have B2 := Lib.hid (B1.out.keep hb)
  clear hb A1 B1 c0 c1 c2 z
  obtain ⟨v3, hv3⟩ : ∃ v3 : World, v2.alloc (.cells #[.int .i64 q, .int .i64 r, .int .i64 d] 23) = v3 := ⟨_, rfl⟩
  have A3 : Hid (Below w.heap.size w v3) := by rw [← hv3]; exact grow A2.out _
  have B3 : Hid (Box v3 w.heap.size (.int .i64 y) (.int .i64 m) (.int .i64 d)) := by rw [← hv3]; exact B2.out.old _
  have C3 : Hid (Box v3 v2.heap.size (.int .i64 q) (.int .i64 r) (.int .i64 d)) := by rw [← hv3]; exact Box.new (here _)
  have HT : Hid (∀ x : Kept v3, Lens x.wd) := fun x => lens_below ht.out (down A3.out x.ok)
  have c0 : ∀ x : Kept v3, x.wd.cell? ⟨w.heap.size, 0, none⟩ = some (.int .i64 y) := fun x => (B3.out.keep x.ok).c0
  have c1 : ∀ x : Kept v3, x.wd.cell? ⟨w.heap.size, 1, none⟩ = some (.int .i64 m) := fun x => (B3.out.keep x.ok).c1
  have c2 : ∀ x : Kept v3, x.wd.cell? ⟨w.heap.size, 2, none⟩ = some (.int .i64 d) := fun x => (B3.out.keep x.ok).c2
  have e0 : ∀ x : Kept v3, x.wd.cell? ⟨v2.heap.size, 0, none⟩ = some (.int .i64 q) := fun x => (C3.out.keep x.ok).c0
  have e1 : ∀ x : Kept v3, x.wd.cell? ⟨v2.heap.size, 1, none⟩ = some (.int .i64 r) := fun x => (C3.out.keep x.ok).c1
  have e2 : ∀ x : Kept v3, x.wd.cell? ⟨v2.heap.size, 2, none⟩ = some (.int .i64 d) := fun x => (C3.out.keep x.ok).c2
  go_wp2
  clear hv3
  refine wp_region_kept (by kernel_rfl) (by kernel_rfl) ?_
  repeat (go_big_quiet_step (first
    | (go_at_call 15; exact kept_call _ (HV.out _ (HT.out _)))
    | (go_at_call 19; exact kept_same _ (HL.out _ (HT.out _)))))
  refine wpQuiet_nil ?_
  intro _ hx
  obtain ⟨⟨v4, hb⟩, hw⟩ := hx
  subst hw
  have A4 := Lib.hid (down A3.out hb)
  have B4 := Lib.hid (B3.out.keep hb)
  have C4 := Lib.hid (C3.out.keep hb)
  clear hb A3 B3 C3 c0 c1 c2 e0 e1 e2 HT w1 w2 w3 w4 w5
  obtain ⟨c0, c1, c2, z⟩ := B4.out
  obtain ⟨e0, e1, e2, ze⟩ := C4.out
  go_wp2_with fail
  refine (HN.out _ (lens_below ht.out A4.out)).mono ?_
  rintro e v5 ⟨rfl, hb⟩
  have A5 := Lib.hid (down A4.out hb)
  have B5 := Lib.hid (B4.out.keep hb)
  have C5 := Lib.hid (C4.out.keep hb)
  clear hb A4 B4 C4 c0 c1 c2 z e0 e1 e2 ze
  obtain ⟨c0, c1, c2, z⟩ := B5.out
  obtain ⟨e0, e1, e2, ze⟩ := C5.out
  go_wp2_with fail
  refine (HK.out _ (lens_below ht.out (grow A5.out _))).mono ?_
  rintro e v6 ⟨rfl, hb⟩
  have A6 := Lib.hid (down (grow A5.out _) hb)
  have B6 := Lib.hid ((B5.out.old _).keep hb)
  have D6 := Lib.hid (Box.new hb)
  clear hb A5 B5 C5 c0 c1 c2 z e0 e1 e2 ze
  obtain ⟨c0, c1, c2, z⟩ := B6.out
  obtain ⟨f0, f1, f2, zf⟩ := D6.out
  go_wp2
  go_ret
  exact ⟨rfl, grow A6.out _⟩
set_option maxRecDepth 100000 in
set_option maxHeartbeats 4000000 in
theorem walk_ok (y m d n k q r L : Int) (hv : vld y m d = true) (hM : Moved y m d n q r d L) (hd : d ≤ 28) (hk : I64 k) (hk0 : 12 ≤ 12 * q + r - 1 + k) (hk1 : 12 * q + r - 1 + k < 120000)
    (HX : ∀ w, Lens w → Calls Tryd.prog 29 #[.agg #[.int .i64 y, .int .i64 m, .int .i64 d], .int .i64 n] w fun e w' => e = .returned (.tuple #[.agg #[.int .i64 q, .int .i64 r, .int .i64 d], .int .i64 0]) ∧ Below w.heap.size w w')
    (w : World) (ht : Lens w) :
    Calls Tryd.prog 11 #[.agg #[.int .i64 y, .int .i64 m, .int .i64 d], .int .i64 n, .int .i64 k] w fun e w' => e = .returned (.bool true) ∧ Below w.heap.size w w' := by
  obtain ⟨y0, y1, m0, m1, d0, d1⟩ := vld_bd hv
  obtain ⟨q0, q1, r0, r1, he, x0, xd, xL, hL, hc⟩ := hM
  have hx : vld q r d = true := vld_iff.2 ⟨x0, by rw [hL]; exact xL⟩
  have HV := fun w ht => cvalid q r d ⟨by omega, by omega⟩ ⟨by omega, by omega⟩ ⟨by omega, by omega⟩ w ht
  rw [hx] at HV
  replace HV := Lib.hid HV
  have HL := fun w ht => clen q r ⟨by omega, by omega⟩ ⟨by omega, by omega⟩ w ht
  rw [hL] at HL
  replace HL := Lib.hid HL
  replace HX := Lib.hid HX
  replace ht := Lib.hid ht
  have w1 : IntKind.i64.wrap (12 * q) = 12 * q := wok (by omega) (by omega)
  have w2 : IntKind.i64.wrap (12 * q + r) = 12 * q + r := wok (by omega) (by omega)
  have w3 : IntKind.i64.wrap (12 * y) = 12 * y := wok (by omega) (by omega)
  have w4 : IntKind.i64.wrap (12 * y + m) = 12 * y + m := wok (by omega) (by omega)
  have w5 : IntKind.i64.wrap (12 * q + r - (12 * y + m)) = n := by rw [he]; exact wok (by omega) (by omega)
  have k1 : decide (d < d) = false := decide_eq_false (by omega)
  have k3 : decide (28 < d) = false := decide_eq_false (by omega)
  have HN := fun w ht => cadd_yes q r d (-n) (12 * y + m - 1) ⟨by omega, by omega⟩ hx (by omega) (by omega) (by omega) w ht
  rw [show (12 * y + m - 1) / 12 = y by omega, show (12 * y + m - 1) % 12 + 1 = m by omega, show min d (lenM y m) = d by have := vld_iff.1 hv; omega] at HN
  replace HN := Lib.hid HN
  have nb : -119988 ≤ n ∧ n ≤ 119988 := by omega
  obtain ⟨nb0, nb1⟩ := nb
  have k4 : decide (200000 < k) = false := decide_eq_false (by omega)
  have k5 : decide (k < -200000) = false := decide_eq_false (by omega)
  have HK := fun w ht => cadd_yes q r d k (12 * q + r - 1 + k) hk hx rfl hk0 hk1 w ht
  have HZ := fun w ht => cadd_yes y m d (n + k) (12 * q + r - 1 + k) ⟨by omega, by omega⟩ hv (by omega) hk0 hk1 w ht
  obtain ⟨g1, hg1⟩ : ∃ g, (12 * q + r - 1 + k) / 12 = g := ⟨_, rfl⟩
  obtain ⟨g2, hg2⟩ : ∃ g, (12 * q + r - 1 + k) % 12 + 1 = g := ⟨_, rfl⟩
  rw [hg1, hg2] at HK HZ
  obtain ⟨g3, hg3⟩ : ∃ g, min d (lenM g1 g2) = g := ⟨_, rfl⟩
  rw [hg3] at HK HZ
  replace HK := Lib.hid HK
  replace HZ := Lib.hid HZ
  have kb : -120000 ≤ k ∧ k ≤ 120000 := by omega
  obtain ⟨kb0, kb1⟩ := kb
  clear hg1 hg2 hg3 hk
  clear hx hL he hc hv
  go_enter Tryd.func11, Tryd.ntmps11
  go_wp2_with fail
  refine (awake_all _ (lens_alloc ht.out _)).mono ?_
  rintro e v1 ⟨rfl, hb⟩
  have A1 := Lib.hid (down (grow (here w) _) hb)
  have B1 := Lib.hid (Box.new hb)
  clear hb
  obtain ⟨c0, c1, c2, z⟩ := B1.out
  go_wp2_with fail
  refine (HX.out _ (lens_below ht.out A1.out)).mono ?_
  rintro e v2 ⟨rfl, hb⟩
  have A2 := Lib.hid (down A1.out hb)
  have B2 := Lib.hid (B1.out.keep hb)
  clear hb A1 B1 c0 c1 c2 z
  obtain ⟨v3, hv3⟩ : ∃ v3 : World, v2.alloc (.cells #[.int .i64 q, .int .i64 r, .int .i64 d] 23) = v3 := ⟨_, rfl⟩
  have A3 : Hid (Below w.heap.size w v3) := by rw [← hv3]; exact grow A2.out _
  have B3 : Hid (Box v3 w.heap.size (.int .i64 y) (.int .i64 m) (.int .i64 d)) := by rw [← hv3]; exact B2.out.old _
  have C3 : Hid (Box v3 v2.heap.size (.int .i64 q) (.int .i64 r) (.int .i64 d)) := by rw [← hv3]; exact Box.new (here _)
  have HT : Hid (∀ x : Kept v3, Lens x.wd) := fun x => lens_below ht.out (down A3.out x.ok)
  have c0 : ∀ x : Kept v3, x.wd.cell? ⟨w.heap.size, 0, none⟩ = some (.int .i64 y) := fun x => (B3.out.keep x.ok).c0
  have c1 : ∀ x : Kept v3, x.wd.cell? ⟨w.heap.size, 1, none⟩ = some (.int .i64 m) := fun x => (B3.out.keep x.ok).c1
  have c2 : ∀ x : Kept v3, x.wd.cell? ⟨w.heap.size, 2, none⟩ = some (.int .i64 d) := fun x => (B3.out.keep x.ok).c2
  have e0 : ∀ x : Kept v3, x.wd.cell? ⟨v2.heap.size, 0, none⟩ = some (.int .i64 q) := fun x => (C3.out.keep x.ok).c0
  have e1 : ∀ x : Kept v3, x.wd.cell? ⟨v2.heap.size, 1, none⟩ = some (.int .i64 r) := fun x => (C3.out.keep x.ok).c1
  have e2 : ∀ x : Kept v3, x.wd.cell? ⟨v2.heap.size, 2, none⟩ = some (.int .i64 d) := fun x => (C3.out.keep x.ok).c2
  go_wp2
  clear hv3
  refine wp_region_kept (by kernel_rfl) (by kernel_rfl) ?_
  repeat (go_big_quiet_step (first
    | (go_at_call 15; exact kept_call _ (HV.out _ (HT.out _)))
    | (go_at_call 19; exact kept_same _ (HL.out _ (HT.out _)))))
  refine wpQuiet_nil ?_
  intro _ hx
  obtain ⟨⟨v4, hb⟩, hw⟩ := hx
  subst hw
  have A4 := Lib.hid (down A3.out hb)
  have B4 := Lib.hid (B3.out.keep hb)
  have C4 := Lib.hid (C3.out.keep hb)
  clear hb A3 B3 C3 c0 c1 c2 e0 e1 e2 HT w1 w2 w3 w4 w5
  obtain ⟨c0, c1, c2, z⟩ := B4.out
  obtain ⟨e0, e1, e2, ze⟩ := C4.out
  go_wp2_with fail
  refine (HN.out _ (lens_below ht.out A4.out)).mono ?_
  rintro e v5 ⟨rfl, hb⟩
  have A5 := Lib.hid (down A4.out hb)
  have B5 := Lib.hid (B4.out.keep hb)
  have C5 := Lib.hid (C4.out.keep hb)
  clear hb A4 B4 C4 c0 c1 c2 z e0 e1 e2 ze
  obtain ⟨c0, c1, c2, z⟩ := B5.out
  obtain ⟨e0, e1, e2, ze⟩ := C5.out
  go_wp2_with fail
  refine (HK.out _ (lens_below ht.out (grow A5.out _))).mono ?_
  rintro e v6 ⟨rfl, hb⟩
  have A6 := Lib.hid (down (grow A5.out _) hb)
  have B6 := Lib.hid ((B5.out.old _).keep hb)
  have D6 := Lib.hid (Box.new hb)
  clear hb A5 B5 C5 c0 c1 c2 z e0 e1 e2 ze
  obtain ⟨c0, c1, c2, z⟩ := B6.out
  obtain ⟨f0, f1, f2, zf⟩ := D6.out
  go_wp2_with fail
  refine (HZ.out _ (lens_below ht.out (grow A6.out _))).mono ?_
  rintro e v7 ⟨rfl, hb⟩
  have A7 := Lib.hid (down (grow A6.out _) hb)
  have E7 := Lib.hid (Box.new hb)
  clear hb A6 B6 c0 c1 c2 z f0 f1 f2 zf
  obtain ⟨c0, c1, c2, z⟩ := E7.out
  go_wp2
  go_ret
  exact ⟨rfl, grow A7.out _⟩
theorem walk (y m d n k : Int) (hy : (Lit.int .i64 y).wf = true) (hm : (Lit.int .i64 m).wf = true) (hd : (Lit.int .i64 d).wf = true) (hn : (Lit.int .i64 n).wf = true) (hk : (Lit.int .i64 k).wf = true) (w : World) (ht : Lens w) :
    Calls Tryd.prog 11 #[.agg #[.int .i64 y, .int .i64 m, .int .i64 d], .int .i64 n, .int .i64 k] w fun e w' => e = .returned (.bool true) ∧ Below w.heap.size w w' := by
  replace hy := i64_wf hy
  replace hm := i64_wf hm
  replace hd := i64_wf hd
  replace hn := i64_wf hn
  replace hk := i64_wf hk
  rcases cadd_cases y m d n hy hm hd hn with ⟨E, hE, HX⟩ | ⟨hv, k0, k1⟩
  · exact walk_no y m d n k E hE HX w ht
  · have HX := fun w ht => cadd_yes y m d n _ hn hv rfl k0 k1 w ht
    obtain ⟨y0, y1, m0, m1, d0, d1⟩ := vld_bd hv
    obtain ⟨q, hq⟩ : ∃ q, (12 * y + m - 1 + n) / 12 = q := ⟨_, rfl⟩
    obtain ⟨r, hr⟩ : ∃ r, (12 * y + m - 1 + n) % 12 + 1 = r := ⟨_, rfl⟩
    rw [hq, hr] at HX
    obtain ⟨L, hL⟩ : ∃ L, lenM q r = L := ⟨_, rfl⟩
    rw [hL] at HX
    have q0 : 1 ≤ q ∧ q ≤ 9999 := by omega
    have r0 : 1 ≤ r ∧ r ≤ 12 := by omega
    have l := lenM_in q0.1 q0.2 r0.1 r0.2
    rw [hL] at l
    by_cases c : d ≤ L
    · rw [show min d L = d by omega] at HX
      have hM : Moved y m d n q r d L := ⟨q0.1, q0.2, r0.1, r0.2, by omega, d0, by omega, c, hL, .inl rfl⟩
      by_cases b : 28 < d
      · exact walk_long y m d n k q r L hv hM b HX w ht
      · rcases cadd_cases q r d k ⟨by omega, by omega⟩ ⟨by omega, by omega⟩ ⟨by omega, by omega⟩ hk with ⟨E, hE, HK⟩ | ⟨-, j0, j1⟩
        · exact walk_err y m d n k q r L E hv hM (by omega) hE HK HX w ht
        · exact walk_ok y m d n k q r L hv hM (by omega) hk j0 j1 HX w ht
    · rw [show min d L = L by omega] at HX
      exact walk_cut y m d n k q r L hv ⟨q0.1, q0.2, r0.1, r0.2, by omega, by omega, by omega, by omega, hL, .inr rfl⟩ (by omega) HX w ht
end CivilUndone
end Go.Proofs.YtdhedkcbkchpgaaDoor
