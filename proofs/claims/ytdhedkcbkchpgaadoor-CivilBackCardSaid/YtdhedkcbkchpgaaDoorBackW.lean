/- The walk of CivilBack: the Go text returns true, at every input. -/
import Derived.Test.YtdhedkcbkchpgaaDoorTextsW
import Derived.Test.YtdhedkcbkchpgaaDoorTextF
namespace Go.Proofs.YtdhedkcbkchpgaaDoor
open Go.RowKit
set_option linter.unusedVariables false

/-- The text of a date is read as the date. -/
theorem cparse_text (y m d : Int) (h : vld y m d = true) (w : World) (ht : Lens w) (hev : Ev w) :
    Calls Tryd.prog 33 #[.string ⟨(textD y m d).toArray⟩] w fun e w' => e = .returned (.tuple #[.agg #[.int .i64 y, .int .i64 m, .int .i64 d], .int .i64 0]) ∧ Below w.heap.size w w' := by
  obtain ⟨f, a, b, c⟩ := text_back h
  have q := cparse_some ⟨(textD y m d).toArray⟩ (by simpa using f) true y m d (by simp only [a, b, c]; exact h) (by simpa using a) (by simpa using b) (by simpa using c) w ht hev
  exact q
namespace CivilBack
set_option maxRecDepth 100000 in
set_option maxHeartbeats 4000000 in
theorem good_in (y m d n a b c : Int) (hv : vld y m d = true) (hx : vld a b c = true) (hn : dayN a b c = n) (w : World) (hl : Listed w) :
    Calls Tryd.prog 8 #[.agg #[.int .i64 y, .int .i64 m, .int .i64 d], .int .i64 n] w fun e w' => e = .returned (.bool true) ∧ Below w.heap.size w w' := by
  obtain ⟨ht, hp, hev⟩ := hl
  have r := day_range hv
  have HD := fun w ht => cday_yes y m d hv w ht
  have HX := fun N (hN : dayN y m d = N) w => cdate_yes N y m d hv hN w
  have HT := fun w ht hp => ctext_yes y m d hv w ht hp
  have HP := fun w ht hev => cparse_text y m d hv w ht hev
  obtain ⟨N, hN⟩ : ∃ N, dayN y m d = N := ⟨_, rfl⟩
  replace HX := HX N hN
  rw [hN] at HD r
  generalize (⟨(textD y m d).toArray⟩ : ByteArray) = T at *
  have k1 : decide (N < -719162) = false := decide_eq_false (by omega)
  have k2 : decide (2932897 ≤ N) = false := decide_eq_false (by omega)
  replace HX := Lib.hid HX
  replace HT := Lib.hid HT
  replace HP := Lib.hid HP
  clear hN r hv
  replace HD := Lib.hid HD
  have r2 := day_range hx
  rw [hn] at r2
  have HZ := fun w => cdate_yes n a b c hx hn w
  have HE := fun w ht => cday_yes a b c hx w ht
  rw [hn] at HE
  obtain ⟨a0, a1, b0, b1, c0, c1⟩ := vld_bd hx
  have HV := fun w ht => cvalid a b c ⟨by omega, by omega⟩ ⟨by omega, by omega⟩ ⟨by omega, by omega⟩ w ht
  rw [hx] at HV
  replace HZ := Lib.hid HZ
  replace HE := Lib.hid HE
  replace HV := Lib.hid HV
  clear hx hn r2 a0 a1 b0 b1 c0 c1
  replace ht := Lib.hid ht
  replace hp := Lib.hid hp
  replace hev := Lib.hid hev
  go_enter Tryd.func8, Tryd.ntmps8
  go_wp2_with fail
  refine (awake_all _ (lens_alloc ht.out _)).mono ?_
  rintro e w1 ⟨rfl, hb⟩
  have A1 := Lib.hid (down (grow (here w) _) hb)
  have B1 := Lib.hid (Box.new hb)
  clear hb
  obtain ⟨c0, c1, c2, z⟩ := B1.out
  go_wp2_with fail
  refine (HD.out _ (lens_below ht.out A1.out)).mono ?_
  rintro e w2 ⟨rfl, hb⟩
  have A2 := Lib.hid (down A1.out hb)
  have B2 := Lib.hid (B1.out.keep hb)
  clear hb A1 B1 c0 c1 c2 z
  go_wp2_with fail
  refine (HX.out _).mono ?_
  rintro e w3 ⟨rfl, hb⟩
  have A3 := Lib.hid (down A2.out hb)
  have B3 := Lib.hid (B2.out.keep hb)
  clear hb A2 B2
  obtain ⟨c0, c1, c2, z⟩ := B3.out
  go_wp2_with fail
  refine (HT.out _ (lens_below ht.out (grow A3.out _)) (tab_below hp.out (grow A3.out _))).mono ?_
  rintro e w4 ⟨rfl, hb⟩
  have A4 := Lib.hid (down (grow A3.out _) hb)
  have B4 := Lib.hid ((B3.out.old _).keep hb)
  have C4 := Lib.hid (Box.new hb)
  clear hb A3 B3 c0 c1 c2 z
  go_wp2_with fail
  refine (HP.out _ (lens_below ht.out A4.out) (ev_below hev.out A4.out)).mono ?_
  rintro e w5 ⟨rfl, hb⟩
  have A5 := Lib.hid (down A4.out hb)
  have B5 := Lib.hid (B4.out.keep hb)
  have C5 := Lib.hid (C4.out.keep hb)
  clear hb A4 B4 C4
  obtain ⟨c0, c1, c2, z⟩ := B5.out
  obtain ⟨d0, d1, d2, z2⟩ := C5.out
  go_wp2_with fail
  refine (HZ.out _).mono ?_
  rintro e w6 ⟨rfl, hb⟩
  have A6 := Lib.hid (down (grow A5.out _) hb)
  clear hb A5 B5 C5 c0 c1 c2 z d0 d1 d2 z2
  go_wp2_with fail
  refine (HE.out _ (lens_below ht.out (grow A6.out _))).mono ?_
  rintro e w7 ⟨rfl, hb⟩
  have A7 := Lib.hid (down (grow A6.out _) hb)
  have B7 := Lib.hid (Box.new hb)
  clear hb A6
  obtain ⟨c0, c1, c2, z⟩ := B7.out
  go_wp2_with fail
  refine (HV.out _ (lens_below ht.out A7.out)).mono ?_
  rintro e w8 ⟨rfl, hb⟩
  have A8 := Lib.hid (down A7.out hb)
  clear hb A7 B7 c0 c1 c2 z
  go_wp2
  go_ret
  exact ⟨rfl, A8.out⟩
set_option maxRecDepth 100000 in
set_option maxHeartbeats 4000000 in
theorem good_lo (y m d n : Int) (hv : vld y m d = true) (hi : I64 n) (hn : n < -719162) (w : World) (hl : Listed w) :
    Calls Tryd.prog 8 #[.agg #[.int .i64 y, .int .i64 m, .int .i64 d], .int .i64 n] w fun e w' => e = .returned (.bool true) ∧ Below w.heap.size w w' := by
  obtain ⟨ht, hp, hev⟩ := hl
  have r := day_range hv
  have HD := fun w ht => cday_yes y m d hv w ht
  have HX := fun N (hN : dayN y m d = N) w => cdate_yes N y m d hv hN w
  have HT := fun w ht hp => ctext_yes y m d hv w ht hp
  have HP := fun w ht hev => cparse_text y m d hv w ht hev
  obtain ⟨N, hN⟩ : ∃ N, dayN y m d = N := ⟨_, rfl⟩
  replace HX := HX N hN
  rw [hN] at HD r
  generalize (⟨(textD y m d).toArray⟩ : ByteArray) = T at *
  have k1 : decide (N < -719162) = false := decide_eq_false (by omega)
  have k2 : decide (2932897 ≤ N) = false := decide_eq_false (by omega)
  replace HX := Lib.hid HX
  replace HT := Lib.hid HT
  replace HP := Lib.hid HP
  clear hN r hv
  replace HD := Lib.hid HD
  have HZ := Lib.hid (fun w => cdate_no n hi (.inl hn) w)
  have k3 : decide (n < -719162) = true := decide_eq_true hn
  clear hi hn
  replace ht := Lib.hid ht
  replace hp := Lib.hid hp
  replace hev := Lib.hid hev
  go_enter Tryd.func8, Tryd.ntmps8
  go_wp2_with fail
  refine (awake_all _ (lens_alloc ht.out _)).mono ?_
  rintro e w1 ⟨rfl, hb⟩
  have A1 := Lib.hid (down (grow (here w) _) hb)
  have B1 := Lib.hid (Box.new hb)
  clear hb
  obtain ⟨c0, c1, c2, z⟩ := B1.out
  go_wp2_with fail
  refine (HD.out _ (lens_below ht.out A1.out)).mono ?_
  rintro e w2 ⟨rfl, hb⟩
  have A2 := Lib.hid (down A1.out hb)
  have B2 := Lib.hid (B1.out.keep hb)
  clear hb A1 B1 c0 c1 c2 z
  go_wp2_with fail
  refine (HX.out _).mono ?_
  rintro e w3 ⟨rfl, hb⟩
  have A3 := Lib.hid (down A2.out hb)
  have B3 := Lib.hid (B2.out.keep hb)
  clear hb A2 B2
  obtain ⟨c0, c1, c2, z⟩ := B3.out
  go_wp2_with fail
  refine (HT.out _ (lens_below ht.out (grow A3.out _)) (tab_below hp.out (grow A3.out _))).mono ?_
  rintro e w4 ⟨rfl, hb⟩
  have A4 := Lib.hid (down (grow A3.out _) hb)
  have B4 := Lib.hid ((B3.out.old _).keep hb)
  have C4 := Lib.hid (Box.new hb)
  clear hb A3 B3 c0 c1 c2 z
  go_wp2_with fail
  refine (HP.out _ (lens_below ht.out A4.out) (ev_below hev.out A4.out)).mono ?_
  rintro e w5 ⟨rfl, hb⟩
  have A5 := Lib.hid (down A4.out hb)
  have B5 := Lib.hid (B4.out.keep hb)
  have C5 := Lib.hid (C4.out.keep hb)
  clear hb A4 B4 C4
  obtain ⟨c0, c1, c2, z⟩ := B5.out
  obtain ⟨d0, d1, d2, z2⟩ := C5.out
  go_wp2_with fail
  refine (HZ.out _).mono ?_
  rintro e w6 ⟨rfl, hb⟩
  have A6 := Lib.hid (down (grow A5.out _) hb)
  clear hb A5 B5 C5 c0 c1 c2 z d0 d1 d2 z2
  go_wp2
  go_ret
  exact ⟨rfl, grow A6.out _⟩
set_option maxRecDepth 100000 in
set_option maxHeartbeats 4000000 in
theorem good_hi (y m d n : Int) (hv : vld y m d = true) (hi : I64 n) (hn : 2932897 ≤ n) (w : World) (hl : Listed w) :
    Calls Tryd.prog 8 #[.agg #[.int .i64 y, .int .i64 m, .int .i64 d], .int .i64 n] w fun e w' => e = .returned (.bool true) ∧ Below w.heap.size w w' := by
  obtain ⟨ht, hp, hev⟩ := hl
  have r := day_range hv
  have HD := fun w ht => cday_yes y m d hv w ht
  have HX := fun N (hN : dayN y m d = N) w => cdate_yes N y m d hv hN w
  have HT := fun w ht hp => ctext_yes y m d hv w ht hp
  have HP := fun w ht hev => cparse_text y m d hv w ht hev
  obtain ⟨N, hN⟩ : ∃ N, dayN y m d = N := ⟨_, rfl⟩
  replace HX := HX N hN
  rw [hN] at HD r
  generalize (⟨(textD y m d).toArray⟩ : ByteArray) = T at *
  have k1 : decide (N < -719162) = false := decide_eq_false (by omega)
  have k2 : decide (2932897 ≤ N) = false := decide_eq_false (by omega)
  replace HX := Lib.hid HX
  replace HT := Lib.hid HT
  replace HP := Lib.hid HP
  clear hN r hv
  replace HD := Lib.hid HD
  have HZ := Lib.hid (fun w => cdate_no n hi (.inr hn) w)
  have k3 : decide (n < -719162) = false := decide_eq_false (by omega)
  have k4 : decide (2932897 ≤ n) = true := decide_eq_true hn
  clear hi hn
  replace ht := Lib.hid ht
  replace hp := Lib.hid hp
  replace hev := Lib.hid hev
  go_enter Tryd.func8, Tryd.ntmps8
  go_wp2_with fail
  refine (awake_all _ (lens_alloc ht.out _)).mono ?_
  rintro e w1 ⟨rfl, hb⟩
  have A1 := Lib.hid (down (grow (here w) _) hb)
  have B1 := Lib.hid (Box.new hb)
  clear hb
  obtain ⟨c0, c1, c2, z⟩ := B1.out
  go_wp2_with fail
  refine (HD.out _ (lens_below ht.out A1.out)).mono ?_
  rintro e w2 ⟨rfl, hb⟩
  have A2 := Lib.hid (down A1.out hb)
  have B2 := Lib.hid (B1.out.keep hb)
  clear hb A1 B1 c0 c1 c2 z
  go_wp2_with fail
  refine (HX.out _).mono ?_
  rintro e w3 ⟨rfl, hb⟩
  have A3 := Lib.hid (down A2.out hb)
  have B3 := Lib.hid (B2.out.keep hb)
  clear hb A2 B2
  obtain ⟨c0, c1, c2, z⟩ := B3.out
  go_wp2_with fail
  refine (HT.out _ (lens_below ht.out (grow A3.out _)) (tab_below hp.out (grow A3.out _))).mono ?_
  rintro e w4 ⟨rfl, hb⟩
  have A4 := Lib.hid (down (grow A3.out _) hb)
  have B4 := Lib.hid ((B3.out.old _).keep hb)
  have C4 := Lib.hid (Box.new hb)
  clear hb A3 B3 c0 c1 c2 z
  go_wp2_with fail
  refine (HP.out _ (lens_below ht.out A4.out) (ev_below hev.out A4.out)).mono ?_
  rintro e w5 ⟨rfl, hb⟩
  have A5 := Lib.hid (down A4.out hb)
  have B5 := Lib.hid (B4.out.keep hb)
  have C5 := Lib.hid (C4.out.keep hb)
  clear hb A4 B4 C4
  obtain ⟨c0, c1, c2, z⟩ := B5.out
  obtain ⟨d0, d1, d2, z2⟩ := C5.out
  go_wp2_with fail
  refine (HZ.out _).mono ?_
  rintro e w6 ⟨rfl, hb⟩
  have A6 := Lib.hid (down (grow A5.out _) hb)
  clear hb A5 B5 C5 c0 c1 c2 z d0 d1 d2 z2
  go_wp2
  go_ret
  exact ⟨rfl, grow A6.out _⟩
set_option maxRecDepth 100000 in
set_option maxHeartbeats 4000000 in
theorem bad_in (y m d n a b c : Int) (hy : I64 y) (hm : I64 m) (hd : I64 d) (hv : vld y m d = false) (hx : vld a b c = true) (hn : dayN a b c = n) (w : World) (hl : Listed w) :
    Calls Tryd.prog 8 #[.agg #[.int .i64 y, .int .i64 m, .int .i64 d], .int .i64 n] w fun e w' => e = .returned (.bool true) ∧ Below w.heap.size w w' := by
  obtain ⟨ht, hp, hev⟩ := hl
  have HD := fun w ht => cday_no y m d hy hm hd hv w ht
  clear hy hm hd hv
  replace HD := Lib.hid HD
  have r2 := day_range hx
  rw [hn] at r2
  have HZ := fun w => cdate_yes n a b c hx hn w
  have HE := fun w ht => cday_yes a b c hx w ht
  rw [hn] at HE
  obtain ⟨a0, a1, b0, b1, c0, c1⟩ := vld_bd hx
  have HV := fun w ht => cvalid a b c ⟨by omega, by omega⟩ ⟨by omega, by omega⟩ ⟨by omega, by omega⟩ w ht
  rw [hx] at HV
  replace HZ := Lib.hid HZ
  replace HE := Lib.hid HE
  replace HV := Lib.hid HV
  clear hx hn r2 a0 a1 b0 b1 c0 c1
  replace ht := Lib.hid ht
  replace hp := Lib.hid hp
  replace hev := Lib.hid hev
  go_enter Tryd.func8, Tryd.ntmps8
  go_wp2_with fail
  refine (awake_all _ (lens_alloc ht.out _)).mono ?_
  rintro e w1 ⟨rfl, hb⟩
  have A1 := Lib.hid (down (grow (here w) _) hb)
  have B1 := Lib.hid (Box.new hb)
  clear hb
  obtain ⟨c0, c1, c2, z⟩ := B1.out
  go_wp2_with fail
  refine (HD.out _ (lens_below ht.out A1.out)).mono ?_
  rintro e w2 ⟨rfl, hb⟩
  have A2 := Lib.hid (down A1.out hb)
  have B2 := Lib.hid (B1.out.keep hb)
  clear hb A1 B1 c0 c1 c2 z
  go_wp2_with fail
  refine (HZ.out _).mono ?_
  rintro e w6 ⟨rfl, hb⟩
  have A6 := Lib.hid (down A2.out hb)
  clear hb A2 B2
  go_wp2_with fail
  refine (HE.out _ (lens_below ht.out (grow A6.out _))).mono ?_
  rintro e w7 ⟨rfl, hb⟩
  have A7 := Lib.hid (down (grow A6.out _) hb)
  have B7 := Lib.hid (Box.new hb)
  clear hb A6
  obtain ⟨c0, c1, c2, z⟩ := B7.out
  go_wp2_with fail
  refine (HV.out _ (lens_below ht.out A7.out)).mono ?_
  rintro e w8 ⟨rfl, hb⟩
  have A8 := Lib.hid (down A7.out hb)
  clear hb A7 B7 c0 c1 c2 z
  go_wp2
  go_ret
  exact ⟨rfl, A8.out⟩
set_option maxRecDepth 100000 in
set_option maxHeartbeats 4000000 in
theorem bad_lo (y m d n : Int) (hy : I64 y) (hm : I64 m) (hd : I64 d) (hv : vld y m d = false) (hi : I64 n) (hn : n < -719162) (w : World) (hl : Listed w) :
    Calls Tryd.prog 8 #[.agg #[.int .i64 y, .int .i64 m, .int .i64 d], .int .i64 n] w fun e w' => e = .returned (.bool true) ∧ Below w.heap.size w w' := by
  obtain ⟨ht, hp, hev⟩ := hl
  have HD := fun w ht => cday_no y m d hy hm hd hv w ht
  clear hy hm hd hv
  replace HD := Lib.hid HD
  have HZ := Lib.hid (fun w => cdate_no n hi (.inl hn) w)
  have k3 : decide (n < -719162) = true := decide_eq_true hn
  clear hi hn
  replace ht := Lib.hid ht
  replace hp := Lib.hid hp
  replace hev := Lib.hid hev
  go_enter Tryd.func8, Tryd.ntmps8
  go_wp2_with fail
  refine (awake_all _ (lens_alloc ht.out _)).mono ?_
  rintro e w1 ⟨rfl, hb⟩
  have A1 := Lib.hid (down (grow (here w) _) hb)
  have B1 := Lib.hid (Box.new hb)
  clear hb
  obtain ⟨c0, c1, c2, z⟩ := B1.out
  go_wp2_with fail
  refine (HD.out _ (lens_below ht.out A1.out)).mono ?_
  rintro e w2 ⟨rfl, hb⟩
  have A2 := Lib.hid (down A1.out hb)
  have B2 := Lib.hid (B1.out.keep hb)
  clear hb A1 B1 c0 c1 c2 z
  go_wp2_with fail
  refine (HZ.out _).mono ?_
  rintro e w6 ⟨rfl, hb⟩
  have A6 := Lib.hid (down A2.out hb)
  clear hb A2 B2
  go_wp2
  go_ret
  exact ⟨rfl, grow A6.out _⟩
set_option maxRecDepth 100000 in
set_option maxHeartbeats 4000000 in
theorem bad_hi (y m d n : Int) (hy : I64 y) (hm : I64 m) (hd : I64 d) (hv : vld y m d = false) (hi : I64 n) (hn : 2932897 ≤ n) (w : World) (hl : Listed w) :
    Calls Tryd.prog 8 #[.agg #[.int .i64 y, .int .i64 m, .int .i64 d], .int .i64 n] w fun e w' => e = .returned (.bool true) ∧ Below w.heap.size w w' := by
  obtain ⟨ht, hp, hev⟩ := hl
  have HD := fun w ht => cday_no y m d hy hm hd hv w ht
  clear hy hm hd hv
  replace HD := Lib.hid HD
  have HZ := Lib.hid (fun w => cdate_no n hi (.inr hn) w)
  have k3 : decide (n < -719162) = false := decide_eq_false (by omega)
  have k4 : decide (2932897 ≤ n) = true := decide_eq_true hn
  clear hi hn
  replace ht := Lib.hid ht
  replace hp := Lib.hid hp
  replace hev := Lib.hid hev
  go_enter Tryd.func8, Tryd.ntmps8
  go_wp2_with fail
  refine (awake_all _ (lens_alloc ht.out _)).mono ?_
  rintro e w1 ⟨rfl, hb⟩
  have A1 := Lib.hid (down (grow (here w) _) hb)
  have B1 := Lib.hid (Box.new hb)
  clear hb
  obtain ⟨c0, c1, c2, z⟩ := B1.out
  go_wp2_with fail
  refine (HD.out _ (lens_below ht.out A1.out)).mono ?_
  rintro e w2 ⟨rfl, hb⟩
  have A2 := Lib.hid (down A1.out hb)
  have B2 := Lib.hid (B1.out.keep hb)
  clear hb A1 B1 c0 c1 c2 z
  go_wp2_with fail
  refine (HZ.out _).mono ?_
  rintro e w6 ⟨rfl, hb⟩
  have A6 := Lib.hid (down A2.out hb)
  clear hb A2 B2
  go_wp2
  go_ret
  exact ⟨rfl, grow A6.out _⟩
theorem walk (y m d n : Int) (hy : (Lit.int .i64 y).wf = true) (hm : (Lit.int .i64 m).wf = true) (hd : (Lit.int .i64 d).wf = true) (hn : (Lit.int .i64 n).wf = true) (w : World) (hl : Listed w) :
    Calls Tryd.prog 8 #[.agg #[.int .i64 y, .int .i64 m, .int .i64 d], .int .i64 n] w fun e w' => e = .returned (.bool true) ∧ Below w.heap.size w w' := by
  replace hy := i64_wf hy
  replace hm := i64_wf hm
  replace hd := i64_wf hd
  replace hn := i64_wf hn
  by_cases h : vld y m d = true
  · by_cases lo : n < -719162
    · exact good_lo y m d n h hn lo w hl
    · by_cases hi : 2932897 ≤ n
      · exact good_hi y m d n h hn hi w hl
      · obtain ⟨a, b, c, hx, he⟩ := date_of (n := n) (by omega) (by omega)
        exact good_in y m d n a b c h hx he w hl
  · rw [Bool.not_eq_true] at h
    by_cases lo : n < -719162
    · exact bad_lo y m d n hy hm hd h hn lo w hl
    · by_cases hi : 2932897 ≤ n
      · exact bad_hi y m d n hy hm hd h hn hi w hl
      · obtain ⟨a, b, c, hx, he⟩ := date_of (n := n) (by omega) (by omega)
        exact bad_in y m d n a b c hy hm hd h hx he w hl
end CivilBack
end Go.Proofs.YtdhedkcbkchpgaaDoor
