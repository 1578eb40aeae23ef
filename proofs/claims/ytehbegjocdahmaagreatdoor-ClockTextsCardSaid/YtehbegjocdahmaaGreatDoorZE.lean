/- The walk of ClockTexts, out of the two contracts of Parse: the Go text returns true, at every input. -/
import Derived.Test.YtehbegjocdahmaaGreatDoorAwakeM

import Derived.Test.YtehbegjocdahmaaGreatDoorZB

import Derived.Test.YtehbegjocdahmaaGreatDoorZC

namespace Go.Proofs.YtehbegjocdahmaaGreatDoor

open Go.RowKit

set_option linter.unusedVariables false

namespace ClockTexts
theorem eta (s : ByteArray) : (⟨s.data.toList.toArray⟩ : ByteArray) = s := by cases s; simp
def KP (t : ByteArray) (a b c p q r E : Int) : Prop := ∀ w, Lens w → Ev w → Calls Tryz.prog 7 #[.string t] w fun e w' => e = .returned (.tuple #[.agg #[.int .i64 a, .int .i64 b, .int .i64 c, .int .i64 p, .int .i64 q, .int .i64 r], .int .i64 E]) ∧ Below w.heap.size w w'
def RP (t : ByteArray) (a b c p q r E : Int) : Prop := ∀ w, Calls Tryz.prog 9 #[.string t] w fun e w' => e = .returned (.tuple #[.agg #[.int .i64 a, .int .i64 b, .int .i64 c, .int .i64 p, .int .i64 q, .int .i64 r], .int .i64 E]) ∧ Below w.heap.size w w'

set_option maxRecDepth 100000 in
set_option maxHeartbeats 4000000 in
theorem go_vv (y o d h m s a b c p q r : Int) (t : ByteArray) (ts : t.size ≤ maxLen) (v : vld y o d = true) (v2 : vldT h m s = true) (u1 : vld a b c = true) (u2 : vldT p q r = true) (u3 : textM a b c p q r = t.data.toList) (HK : KP t a b c p q r 0) (HR : RP t a b c p q r 0) (w : World) (hl : Listed w) (hev : Ev w) :
    Calls Tryz.prog 3 #[.agg #[.int .i64 y, .int .i64 o, .int .i64 d, .int .i64 h, .int .i64 m, .int .i64 s], .string t] w fun e w' => e = .returned (.bool true) ∧ Below w.heap.size w w' := by
  unfold KP at HK
  unfold RP at HR
  replace HK := Lib.hid HK
  replace HR := Lib.hid HR
  obtain ⟨y0, y1, o0, o1, d0, d1⟩ := vld_bd v
  obtain ⟨⟨t0, t1⟩, ⟨t2, t3⟩, t4, t5⟩ := vldT_iff.1 v2
  have HT := fun w ht hp => ktext_good y o d h m s v v2 w ht hp
  have RT := fun w => rtext_good y o d h m s v v2 w
  have HV := fun w => rvm y o d h m s ⟨by omega, by omega⟩ ⟨by omega, by omega⟩ ⟨by omega, by omega⟩ ⟨by omega, by omega⟩ ⟨by omega, by omega⟩ ⟨by omega, by omega⟩ w
  rw [v, v2] at HV
  replace HV := Lib.hid HV
  obtain ⟨b0, b1, b2, b3, b4, b5, b6⟩ := mtext_back v v2
  have HB := fun w ht hev => kparse_some ⟨(textM y o d h m s).toArray⟩ b0 true y o d h m s (by rw [v, v2]; rfl) b1 b2 b3 b4 b5 b6 w ht hev
  have z1 := (mtext_size v v2).1
  obtain ⟨T, hT⟩ : ∃ T : ByteArray, (⟨(textM y o d h m s).toArray⟩ : ByteArray) = T := ⟨_, rfl⟩
  have zT : T.size = 19 := by rw [← hT, ← z1]; rfl
  rw [hT] at HT RT HB
  replace HT := Lib.hid HT
  replace RT := Lib.hid RT
  replace HB : Hid (∀ w, Lens w → Ev w → Calls Tryz.prog 7 #[.string T] w fun e w' => e = .returned (.tuple #[.agg #[.int .i64 y, .int .i64 o, .int .i64 d, .int .i64 h, .int .i64 m, .int .i64 s], .int .i64 0]) ∧ Below w.heap.size w w') := HB
  clear b0 b1 b2 b3 b4 b5 b6 hT z1 v v2
  have HN := fun w ht hp => ktext_good a b c p q r u1 u2 w ht hp
  rw [u3, eta] at HN
  replace HN := Lib.hid HN
  clear u1 u2 u3
  replace hl := Lib.hid hl
  replace hev := Lib.hid hev
  unfold maxLen at ts
  go_enter Tryz.func3, Tryz.ntmps3
  go_wp2_with fail
  refine (awake_all _ (hl.out.old _)).mono ?_
  rintro e w1 ⟨rfl, hb⟩
  have A1 := Lib.hid (down (grow (here w) _) hb)
  have T1 := Lib.hid (Six.new hb)
  have L1 := Lib.hid (hl.out.keep A1.out)
  clear hb
  obtain ⟨c0, c1, c2, c3, c4, c5, cz⟩ := T1.out
  go_wp2_with fail
  refine (HT.out _ L1.out.lens L1.out.tab).mono ?_
  rintro e w2 ⟨rfl, hb⟩
  have A2 := Lib.hid (down A1.out hb)
  have T2 := Lib.hid (T1.out.keep hb)
  clear hb A1 T1 L1 c0 c1 c2 c3 c4 c5 cz
  obtain ⟨c0, c1, c2, c3, c4, c5, cz⟩ := T2.out
  go_wp2_with fail
  refine (HV.out _).mono ?_
  rintro e w3 ⟨rfl, hb⟩
  have A3 := Lib.hid (down A2.out hb)
  have T3 := Lib.hid (T2.out.keep hb)
  clear hb A2 T2 c0 c1 c2 c3 c4 c5 cz
  obtain ⟨c0, c1, c2, c3, c4, c5, cz⟩ := T3.out
  go_wp2_with fail
  refine (HB.out _ (lens_below hl.out.lens A3.out) (ev_below hev.out A3.out)).mono ?_
  rintro e w4 ⟨rfl, hb⟩
  have A4 := Lib.hid (down A3.out hb)
  have T4 := Lib.hid (T3.out.keep hb)
  clear hb A3 T3 c0 c1 c2 c3 c4 c5 cz
  obtain ⟨w5, hw5⟩ : ∃ w5, w4.alloc (.cells #[.int .i64 y, .int .i64 o, .int .i64 d, .int .i64 h, .int .i64 m, .int .i64 s] 27) = w5 := ⟨_, rfl⟩
  have A5 : Hid (Below w.heap.size w w5) := by rw [← hw5]; exact grow A4.out _
  have T5 : Hid (Six w5 w.heap.size (.int .i64 y) (.int .i64 o) (.int .i64 d) (.int .i64 h) (.int .i64 m) (.int .i64 s)) := by rw [← hw5]; exact T4.out.old _
  have B5 : Hid (Six w5 w4.heap.size (.int .i64 y) (.int .i64 o) (.int .i64 d) (.int .i64 h) (.int .i64 m) (.int .i64 s)) := by rw [← hw5]; exact Six.new (here _)
  clear A4 T4
  obtain ⟨c0, c1, c2, c3, c4, c5, cz⟩ := T5.out
  obtain ⟨e0, e1, e2, e3, e4, e5, ez⟩ := B5.out
  go_wp2_with fail
  clear hw5
  refine (RT.out _).mono ?_
  rintro e w6 ⟨rfl, hb⟩
  have A6 := Lib.hid (down A5.out hb)
  have T6 := Lib.hid (T5.out.keep hb)
  have B6 := Lib.hid (B5.out.keep hb)
  clear hb A5 T5 B5 c0 c1 c2 c3 c4 c5 cz e0 e1 e2 e3 e4 e5 ez
  obtain ⟨c0, c1, c2, c3, c4, c5, cz⟩ := T6.out
  obtain ⟨e0, e1, e2, e3, e4, e5, ez⟩ := B6.out
  go_wp2_with fail
  refine (HK.out _ (lens_below hl.out.lens A6.out) (ev_below hev.out A6.out)).mono ?_
  rintro e w7 ⟨rfl, hb⟩
  have A7 := Lib.hid (down A6.out hb)
  clear hb A6
  obtain ⟨w8, hw8⟩ : ∃ w8, w7.alloc (.cells #[.int .i64 a, .int .i64 b, .int .i64 c, .int .i64 p, .int .i64 q, .int .i64 r] 27) = w8 := ⟨_, rfl⟩
  have A8 : Hid (Below w.heap.size w w8) := by rw [← hw8]; exact grow A7.out _
  have N8 : Hid (Six w8 w7.heap.size (.int .i64 a) (.int .i64 b) (.int .i64 c) (.int .i64 p) (.int .i64 q) (.int .i64 r)) := by rw [← hw8]; exact Six.new (here _)
  go_wp2_with fail
  clear hw8
  refine (HR.out _).mono ?_
  rintro e w9 ⟨rfl, hb⟩
  have A9 := Lib.hid (down A8.out hb)
  have N9 := Lib.hid (N8.out.keep hb)
  clear hb A8 N8
  obtain ⟨w10, hw10⟩ : ∃ w10, w9.alloc (.cells #[.int .i64 a, .int .i64 b, .int .i64 c, .int .i64 p, .int .i64 q, .int .i64 r] 27) = w10 := ⟨_, rfl⟩
  have A10 : Hid (Below w.heap.size w w10) := by rw [← hw10]; exact grow A9.out _
  have N10 : Hid (Six w10 w7.heap.size (.int .i64 a) (.int .i64 b) (.int .i64 c) (.int .i64 p) (.int .i64 q) (.int .i64 r)) := by rw [← hw10]; exact N9.out.old _
  have W10 : Hid (Six w10 w9.heap.size (.int .i64 a) (.int .i64 b) (.int .i64 c) (.int .i64 p) (.int .i64 q) (.int .i64 r)) := by rw [← hw10]; exact Six.new (here _)
  obtain ⟨g0, g1, g2, g3, g4, g5, gz⟩ := N10.out
  obtain ⟨i0, i1, i2, i3, i4, i5, iz⟩ := W10.out
  go_wp2_with fail
  clear hw10
  refine (HN.out _ (hl.out.keep A10.out).lens (hl.out.keep A10.out).tab).mono ?_
  rintro e w11 ⟨rfl, hb⟩
  have A11 := Lib.hid (down A10.out hb)
  clear hb
  go_wp2
  go_ret
  exact ⟨rfl, A11.out⟩
set_option maxRecDepth 100000 in
set_option maxHeartbeats 4000000 in
theorem go_vn (y o d h m s a b c p q r E : Int) (t : ByteArray) (ts : t.size ≤ maxLen) (v : vld y o d = true) (v2 : vldT h m s = true) (hE : (E != 0) = true) (E0 : 0 ≤ E) (E1 : E ≤ 100) (HK : KP t a b c p q r E) (HR : RP t a b c p q r E) (w : World) (hl : Listed w) (hev : Ev w) :
    Calls Tryz.prog 3 #[.agg #[.int .i64 y, .int .i64 o, .int .i64 d, .int .i64 h, .int .i64 m, .int .i64 s], .string t] w fun e w' => e = .returned (.bool true) ∧ Below w.heap.size w w' := by
  unfold KP at HK
  unfold RP at HR
  replace HK := Lib.hid HK
  replace HR := Lib.hid HR
  obtain ⟨y0, y1, o0, o1, d0, d1⟩ := vld_bd v
  obtain ⟨⟨t0, t1⟩, ⟨t2, t3⟩, t4, t5⟩ := vldT_iff.1 v2
  have HT := fun w ht hp => ktext_good y o d h m s v v2 w ht hp
  have RT := fun w => rtext_good y o d h m s v v2 w
  have HV := fun w => rvm y o d h m s ⟨by omega, by omega⟩ ⟨by omega, by omega⟩ ⟨by omega, by omega⟩ ⟨by omega, by omega⟩ ⟨by omega, by omega⟩ ⟨by omega, by omega⟩ w
  rw [v, v2] at HV
  replace HV := Lib.hid HV
  obtain ⟨b0, b1, b2, b3, b4, b5, b6⟩ := mtext_back v v2
  have HB := fun w ht hev => kparse_some ⟨(textM y o d h m s).toArray⟩ b0 true y o d h m s (by rw [v, v2]; rfl) b1 b2 b3 b4 b5 b6 w ht hev
  have z1 := (mtext_size v v2).1
  obtain ⟨T, hT⟩ : ∃ T : ByteArray, (⟨(textM y o d h m s).toArray⟩ : ByteArray) = T := ⟨_, rfl⟩
  have zT : T.size = 19 := by rw [← hT, ← z1]; rfl
  rw [hT] at HT RT HB
  replace HT := Lib.hid HT
  replace RT := Lib.hid RT
  replace HB : Hid (∀ w, Lens w → Ev w → Calls Tryz.prog 7 #[.string T] w fun e w' => e = .returned (.tuple #[.agg #[.int .i64 y, .int .i64 o, .int .i64 d, .int .i64 h, .int .i64 m, .int .i64 s], .int .i64 0]) ∧ Below w.heap.size w w') := HB
  clear b0 b1 b2 b3 b4 b5 b6 hT z1 v v2
  replace hl := Lib.hid hl
  replace hev := Lib.hid hev
  unfold maxLen at ts
  go_enter Tryz.func3, Tryz.ntmps3
  go_wp2_with fail
  refine (awake_all _ (hl.out.old _)).mono ?_
  rintro e w1 ⟨rfl, hb⟩
  have A1 := Lib.hid (down (grow (here w) _) hb)
  have T1 := Lib.hid (Six.new hb)
  have L1 := Lib.hid (hl.out.keep A1.out)
  clear hb
  obtain ⟨c0, c1, c2, c3, c4, c5, cz⟩ := T1.out
  go_wp2_with fail
  refine (HT.out _ L1.out.lens L1.out.tab).mono ?_
  rintro e w2 ⟨rfl, hb⟩
  have A2 := Lib.hid (down A1.out hb)
  have T2 := Lib.hid (T1.out.keep hb)
  clear hb A1 T1 L1 c0 c1 c2 c3 c4 c5 cz
  obtain ⟨c0, c1, c2, c3, c4, c5, cz⟩ := T2.out
  go_wp2_with fail
  refine (HV.out _).mono ?_
  rintro e w3 ⟨rfl, hb⟩
  have A3 := Lib.hid (down A2.out hb)
  have T3 := Lib.hid (T2.out.keep hb)
  clear hb A2 T2 c0 c1 c2 c3 c4 c5 cz
  obtain ⟨c0, c1, c2, c3, c4, c5, cz⟩ := T3.out
  go_wp2_with fail
  refine (HB.out _ (lens_below hl.out.lens A3.out) (ev_below hev.out A3.out)).mono ?_
  rintro e w4 ⟨rfl, hb⟩
  have A4 := Lib.hid (down A3.out hb)
  have T4 := Lib.hid (T3.out.keep hb)
  clear hb A3 T3 c0 c1 c2 c3 c4 c5 cz
  obtain ⟨w5, hw5⟩ : ∃ w5, w4.alloc (.cells #[.int .i64 y, .int .i64 o, .int .i64 d, .int .i64 h, .int .i64 m, .int .i64 s] 27) = w5 := ⟨_, rfl⟩
  have A5 : Hid (Below w.heap.size w w5) := by rw [← hw5]; exact grow A4.out _
  have T5 : Hid (Six w5 w.heap.size (.int .i64 y) (.int .i64 o) (.int .i64 d) (.int .i64 h) (.int .i64 m) (.int .i64 s)) := by rw [← hw5]; exact T4.out.old _
  have B5 : Hid (Six w5 w4.heap.size (.int .i64 y) (.int .i64 o) (.int .i64 d) (.int .i64 h) (.int .i64 m) (.int .i64 s)) := by rw [← hw5]; exact Six.new (here _)
  clear A4 T4
  obtain ⟨c0, c1, c2, c3, c4, c5, cz⟩ := T5.out
  obtain ⟨e0, e1, e2, e3, e4, e5, ez⟩ := B5.out
  go_wp2_with fail
  clear hw5
  refine (RT.out _).mono ?_
  rintro e w6 ⟨rfl, hb⟩
  have A6 := Lib.hid (down A5.out hb)
  have T6 := Lib.hid (T5.out.keep hb)
  have B6 := Lib.hid (B5.out.keep hb)
  clear hb A5 T5 B5 c0 c1 c2 c3 c4 c5 cz e0 e1 e2 e3 e4 e5 ez
  obtain ⟨c0, c1, c2, c3, c4, c5, cz⟩ := T6.out
  obtain ⟨e0, e1, e2, e3, e4, e5, ez⟩ := B6.out
  go_wp2_with fail
  refine (HK.out _ (lens_below hl.out.lens A6.out) (ev_below hev.out A6.out)).mono ?_
  rintro e w7 ⟨rfl, hb⟩
  have A7 := Lib.hid (down A6.out hb)
  clear hb A6
  obtain ⟨w8, hw8⟩ : ∃ w8, w7.alloc (.cells #[.int .i64 a, .int .i64 b, .int .i64 c, .int .i64 p, .int .i64 q, .int .i64 r] 27) = w8 := ⟨_, rfl⟩
  have A8 : Hid (Below w.heap.size w w8) := by rw [← hw8]; exact grow A7.out _
  have N8 : Hid (Six w8 w7.heap.size (.int .i64 a) (.int .i64 b) (.int .i64 c) (.int .i64 p) (.int .i64 q) (.int .i64 r)) := by rw [← hw8]; exact Six.new (here _)
  go_wp2_with fail
  clear hw8
  refine (HR.out _).mono ?_
  rintro e w9 ⟨rfl, hb⟩
  have A9 := Lib.hid (down A8.out hb)
  have N9 := Lib.hid (N8.out.keep hb)
  clear hb A8 N8
  obtain ⟨w10, hw10⟩ : ∃ w10, w9.alloc (.cells #[.int .i64 a, .int .i64 b, .int .i64 c, .int .i64 p, .int .i64 q, .int .i64 r] 27) = w10 := ⟨_, rfl⟩
  have A10 : Hid (Below w.heap.size w w10) := by rw [← hw10]; exact grow A9.out _
  have N10 : Hid (Six w10 w7.heap.size (.int .i64 a) (.int .i64 b) (.int .i64 c) (.int .i64 p) (.int .i64 q) (.int .i64 r)) := by rw [← hw10]; exact N9.out.old _
  have W10 : Hid (Six w10 w9.heap.size (.int .i64 a) (.int .i64 b) (.int .i64 c) (.int .i64 p) (.int .i64 q) (.int .i64 r)) := by rw [← hw10]; exact Six.new (here _)
  obtain ⟨g0, g1, g2, g3, g4, g5, gz⟩ := N10.out
  obtain ⟨i0, i1, i2, i3, i4, i5, iz⟩ := W10.out
  go_wp2
  go_ret
  exact ⟨rfl, A10.out⟩
set_option maxRecDepth 100000 in
set_option maxHeartbeats 4000000 in
theorem go_nv (y o d h m s a b c p q r : Int) (t : ByteArray) (ts : t.size ≤ maxLen) (hy : I64 y) (ho : I64 o) (hd : I64 d) (hh : I64 h) (hm : I64 m) (hs : I64 s) (v : (vld y o d && vldT h m s) = false) (u1 : vld a b c = true) (u2 : vldT p q r = true) (u3 : textM a b c p q r = t.data.toList) (HK : KP t a b c p q r 0) (HR : RP t a b c p q r 0) (w : World) (hl : Listed w) (hev : Ev w) :
    Calls Tryz.prog 3 #[.agg #[.int .i64 y, .int .i64 o, .int .i64 d, .int .i64 h, .int .i64 m, .int .i64 s], .string t] w fun e w' => e = .returned (.bool true) ∧ Below w.heap.size w w' := by
  unfold KP at HK
  unfold RP at HR
  replace HK := Lib.hid HK
  replace HR := Lib.hid HR
  have HT := Lib.hid (fun w ht => ktext_bad y o d h m s hy ho hd hh hm hs v w ht)
  have HV := fun w => rvm y o d h m s hy ho hd hh hm hs w
  rw [v] at HV
  replace HV := Lib.hid HV
  clear v hy ho hd hh hm hs
  have HN := fun w ht hp => ktext_good a b c p q r u1 u2 w ht hp
  rw [u3, eta] at HN
  replace HN := Lib.hid HN
  clear u1 u2 u3
  replace hl := Lib.hid hl
  replace hev := Lib.hid hev
  unfold maxLen at ts
  go_enter Tryz.func3, Tryz.ntmps3
  go_wp2_with fail
  refine (awake_all _ (hl.out.old _)).mono ?_
  rintro e w1 ⟨rfl, hb⟩
  have A1 := Lib.hid (down (grow (here w) _) hb)
  have T1 := Lib.hid (Six.new hb)
  have L1 := Lib.hid (hl.out.keep A1.out)
  clear hb
  obtain ⟨c0, c1, c2, c3, c4, c5, cz⟩ := T1.out
  go_wp2_with fail
  refine (HT.out _ L1.out.lens).mono ?_
  rintro e w2 ⟨rfl, hb⟩
  have A2 := Lib.hid (down A1.out hb)
  have T2 := Lib.hid (T1.out.keep hb)
  clear hb A1 T1 L1 c0 c1 c2 c3 c4 c5 cz
  obtain ⟨c0, c1, c2, c3, c4, c5, cz⟩ := T2.out
  go_wp2_with fail
  refine (HV.out _).mono ?_
  rintro e w3 ⟨rfl, hb⟩
  have A3 := Lib.hid (down A2.out hb)
  have T3 := Lib.hid (T2.out.keep hb)
  clear hb A2 T2 c0 c1 c2 c3 c4 c5 cz
  obtain ⟨c0, c1, c2, c3, c4, c5, cz⟩ := T3.out
  go_wp2_with fail
  refine (HK.out _ (lens_below hl.out.lens A3.out) (ev_below hev.out A3.out)).mono ?_
  rintro e w7 ⟨rfl, hb⟩
  have A7 := Lib.hid (down A3.out hb)
  clear hb A3
  obtain ⟨w8, hw8⟩ : ∃ w8, w7.alloc (.cells #[.int .i64 a, .int .i64 b, .int .i64 c, .int .i64 p, .int .i64 q, .int .i64 r] 27) = w8 := ⟨_, rfl⟩
  have A8 : Hid (Below w.heap.size w w8) := by rw [← hw8]; exact grow A7.out _
  have N8 : Hid (Six w8 w7.heap.size (.int .i64 a) (.int .i64 b) (.int .i64 c) (.int .i64 p) (.int .i64 q) (.int .i64 r)) := by rw [← hw8]; exact Six.new (here _)
  go_wp2_with fail
  clear hw8
  refine (HR.out _).mono ?_
  rintro e w9 ⟨rfl, hb⟩
  have A9 := Lib.hid (down A8.out hb)
  have N9 := Lib.hid (N8.out.keep hb)
  clear hb A8 N8
  obtain ⟨w10, hw10⟩ : ∃ w10, w9.alloc (.cells #[.int .i64 a, .int .i64 b, .int .i64 c, .int .i64 p, .int .i64 q, .int .i64 r] 27) = w10 := ⟨_, rfl⟩
  have A10 : Hid (Below w.heap.size w w10) := by rw [← hw10]; exact grow A9.out _
  have N10 : Hid (Six w10 w7.heap.size (.int .i64 a) (.int .i64 b) (.int .i64 c) (.int .i64 p) (.int .i64 q) (.int .i64 r)) := by rw [← hw10]; exact N9.out.old _
  have W10 : Hid (Six w10 w9.heap.size (.int .i64 a) (.int .i64 b) (.int .i64 c) (.int .i64 p) (.int .i64 q) (.int .i64 r)) := by rw [← hw10]; exact Six.new (here _)
  obtain ⟨g0, g1, g2, g3, g4, g5, gz⟩ := N10.out
  obtain ⟨i0, i1, i2, i3, i4, i5, iz⟩ := W10.out
  go_wp2_with fail
  clear hw10
  refine (HN.out _ (hl.out.keep A10.out).lens (hl.out.keep A10.out).tab).mono ?_
  rintro e w11 ⟨rfl, hb⟩
  have A11 := Lib.hid (down A10.out hb)
  clear hb
  go_wp2
  go_ret
  exact ⟨rfl, A11.out⟩
set_option maxRecDepth 100000 in
set_option maxHeartbeats 4000000 in
theorem go_nn (y o d h m s a b c p q r E : Int) (t : ByteArray) (ts : t.size ≤ maxLen) (hy : I64 y) (ho : I64 o) (hd : I64 d) (hh : I64 h) (hm : I64 m) (hs : I64 s) (v : (vld y o d && vldT h m s) = false) (hE : (E != 0) = true) (E0 : 0 ≤ E) (E1 : E ≤ 100) (HK : KP t a b c p q r E) (HR : RP t a b c p q r E) (w : World) (hl : Listed w) (hev : Ev w) :
    Calls Tryz.prog 3 #[.agg #[.int .i64 y, .int .i64 o, .int .i64 d, .int .i64 h, .int .i64 m, .int .i64 s], .string t] w fun e w' => e = .returned (.bool true) ∧ Below w.heap.size w w' := by
  unfold KP at HK
  unfold RP at HR
  replace HK := Lib.hid HK
  replace HR := Lib.hid HR
  have HT := Lib.hid (fun w ht => ktext_bad y o d h m s hy ho hd hh hm hs v w ht)
  have HV := fun w => rvm y o d h m s hy ho hd hh hm hs w
  rw [v] at HV
  replace HV := Lib.hid HV
  clear v hy ho hd hh hm hs
  replace hl := Lib.hid hl
  replace hev := Lib.hid hev
  unfold maxLen at ts
  go_enter Tryz.func3, Tryz.ntmps3
  go_wp2_with fail
  refine (awake_all _ (hl.out.old _)).mono ?_
  rintro e w1 ⟨rfl, hb⟩
  have A1 := Lib.hid (down (grow (here w) _) hb)
  have T1 := Lib.hid (Six.new hb)
  have L1 := Lib.hid (hl.out.keep A1.out)
  clear hb
  obtain ⟨c0, c1, c2, c3, c4, c5, cz⟩ := T1.out
  go_wp2_with fail
  refine (HT.out _ L1.out.lens).mono ?_
  rintro e w2 ⟨rfl, hb⟩
  have A2 := Lib.hid (down A1.out hb)
  have T2 := Lib.hid (T1.out.keep hb)
  clear hb A1 T1 L1 c0 c1 c2 c3 c4 c5 cz
  obtain ⟨c0, c1, c2, c3, c4, c5, cz⟩ := T2.out
  go_wp2_with fail
  refine (HV.out _).mono ?_
  rintro e w3 ⟨rfl, hb⟩
  have A3 := Lib.hid (down A2.out hb)
  have T3 := Lib.hid (T2.out.keep hb)
  clear hb A2 T2 c0 c1 c2 c3 c4 c5 cz
  obtain ⟨c0, c1, c2, c3, c4, c5, cz⟩ := T3.out
  go_wp2_with fail
  refine (HK.out _ (lens_below hl.out.lens A3.out) (ev_below hev.out A3.out)).mono ?_
  rintro e w7 ⟨rfl, hb⟩
  have A7 := Lib.hid (down A3.out hb)
  clear hb A3
  obtain ⟨w8, hw8⟩ : ∃ w8, w7.alloc (.cells #[.int .i64 a, .int .i64 b, .int .i64 c, .int .i64 p, .int .i64 q, .int .i64 r] 27) = w8 := ⟨_, rfl⟩
  have A8 : Hid (Below w.heap.size w w8) := by rw [← hw8]; exact grow A7.out _
  have N8 : Hid (Six w8 w7.heap.size (.int .i64 a) (.int .i64 b) (.int .i64 c) (.int .i64 p) (.int .i64 q) (.int .i64 r)) := by rw [← hw8]; exact Six.new (here _)
  go_wp2_with fail
  clear hw8
  refine (HR.out _).mono ?_
  rintro e w9 ⟨rfl, hb⟩
  have A9 := Lib.hid (down A8.out hb)
  have N9 := Lib.hid (N8.out.keep hb)
  clear hb A8 N8
  obtain ⟨w10, hw10⟩ : ∃ w10, w9.alloc (.cells #[.int .i64 a, .int .i64 b, .int .i64 c, .int .i64 p, .int .i64 q, .int .i64 r] 27) = w10 := ⟨_, rfl⟩
  have A10 : Hid (Below w.heap.size w w10) := by rw [← hw10]; exact grow A9.out _
  have N10 : Hid (Six w10 w7.heap.size (.int .i64 a) (.int .i64 b) (.int .i64 c) (.int .i64 p) (.int .i64 q) (.int .i64 r)) := by rw [← hw10]; exact N9.out.old _
  have W10 : Hid (Six w10 w9.heap.size (.int .i64 a) (.int .i64 b) (.int .i64 c) (.int .i64 p) (.int .i64 q) (.int .i64 r)) := by rw [← hw10]; exact Six.new (here _)
  obtain ⟨g0, g1, g2, g3, g4, g5, gz⟩ := N10.out
  obtain ⟨i0, i1, i2, i3, i4, i5, iz⟩ := W10.out
  go_wp2
  go_ret
  exact ⟨rfl, A10.out⟩
end ClockTexts

end Go.Proofs.YtehbegjocdahmaaGreatDoor
