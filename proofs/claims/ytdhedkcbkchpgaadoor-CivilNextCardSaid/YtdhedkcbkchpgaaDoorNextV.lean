/- The walk of CivilNext: the Go text returns true, at every input. -/
import Derived.Test.YtdhedkcbkchpgaaDoorNextW
import Derived.RegionTactic
import Derived.ChangeAlike
import Derived.BigRegion
namespace Go.Proofs.YtdhedkcbkchpgaaDoor
open Go.RowKit
set_option linter.unusedVariables false

/-- A boxed struct of three cells that may be written. -/
structure Free (w : World) (b : Nat) : Prop where
  f0 : w.frozen? ⟨b, 0, none⟩ = false
  f1 : w.frozen? ⟨b, 1, none⟩ = false
  f2 : w.frozen? ⟨b, 2, none⟩ = false
theorem Free.new {w w' : World} {x y z : Value} {t : TypeId} (hb : Below (w.alloc (.cells #[x, y, z] t)).heap.size (w.alloc (.cells #[x, y, z] t)) w') : Free w' w.heap.size := by
  have e : w.heap.size < (w.alloc (.cells #[x, y, z] t)).heap.size := by simp
  refine ⟨?_, ?_, ?_⟩
  · rw [hb.frozen (p := ⟨w.heap.size, 0, none⟩) e]; exact World.frozen?_alloc_new _ _ _ _
  · rw [hb.frozen (p := ⟨w.heap.size, 1, none⟩) e]; exact World.frozen?_alloc_new _ _ _ _
  · rw [hb.frozen (p := ⟨w.heap.size, 2, none⟩) e]; exact World.frozen?_alloc_new _ _ _ _
theorem Free.set {w : World} {b : Nat} (h : Free w b) (a : Addr) (v : Value) : Free (w.setCell a v) b :=
  ⟨by rw [World.frozen?_setCell]; exact h.f0, by rw [World.frozen?_setCell]; exact h.f1, by rw [World.frozen?_setCell]; exact h.f2⟩
theorem Free.drewN {w : World} {b : Nat} (h : Free w b) (n : Nat) : Free (w.drewN n) b := ⟨h.f0, h.f1, h.f2⟩
theorem Box.drew {w : World} {b : Nat} {x y z : Value} (h : Box w b x y z) : Box w.drew b x y z := h.drewN 1
theorem size_set (w : World) (a : Addr) (v : Value) : (w.setCell a v).heap.size = w.heap.size := by simp [World.setCell]
theorem Box.far {w : World} {b b' : Nat} {x y z : Value} (h : Box w b' x y z) (hne : b ≠ b') (o : Nat) (v : Value) : Box (w.setCell ⟨b, o, none⟩ v) b' x y z := by
  have q : ∀ j, (⟨b, o, none⟩ : Addr) ≠ ⟨b', j, none⟩ := fun j e => hne (congrArg Addr.block e)
  exact ⟨by rw [World.cell?_setCell_other (h := q 0)]; exact h.c0, by rw [World.cell?_setCell_other (h := q 1)]; exact h.c1, by rw [World.cell?_setCell_other (h := q 2)]; exact h.c2, by rw [size_set]; exact h.lt⟩
theorem Box.put0 {w : World} {b : Nat} {x y z : Value} (h : Box w b x y z) (v : Value) : Box (w.setCell ⟨b, 0, none⟩ v) b v y z :=
  ⟨World.cell?_setCell_same w _ v h.c0, by rw [World.cell?_setCell_other (h := by simp)]; exact h.c1, by rw [World.cell?_setCell_other (h := by simp)]; exact h.c2, by rw [size_set]; exact h.lt⟩
theorem Box.put1 {w : World} {b : Nat} {x y z : Value} (h : Box w b x y z) (v : Value) : Box (w.setCell ⟨b, 1, none⟩ v) b x v z :=
  ⟨by rw [World.cell?_setCell_other (h := by simp)]; exact h.c0, World.cell?_setCell_same w _ v h.c1, by rw [World.cell?_setCell_other (h := by simp)]; exact h.c2, by rw [size_set]; exact h.lt⟩
theorem Box.put2 {w : World} {b : Nat} {x y z : Value} (h : Box w b x y z) (v : Value) : Box (w.setCell ⟨b, 2, none⟩ v) b x y v :=
  ⟨by rw [World.cell?_setCell_other (h := by simp)]; exact h.c0, by rw [World.cell?_setCell_other (h := by simp)]; exact h.c1, World.cell?_setCell_same w _ v h.c2, by rw [size_set]; exact h.lt⟩
namespace CivilNext
set_option maxRecDepth 100000 in
set_option maxHeartbeats 2000000 in
theorem walk_one (n y m d L : Int) (n0 : -719162 ≤ n) (n1 : n < 2932896) (h : vld y m d = true) (hd : dayN y m d = n) (hL : lenM y m = L) (k : d < L) (w : World) (ht : Lens w) :
    Calls Tryd.prog 9 #[.int .i64 n] w fun e w' => e = .returned (.bool true) ∧ Below w.heap.size w w' := by
  obtain ⟨h2, hd2, hy2⟩ := next_in h (by omega)
  have k3 : decide (L < d + 1) = false := decide_eq_false (by omega)
  have k4 : decide (12 < m) = false := decide_eq_false (by have := vld_bd h; omega)
  have k5 : (d + 1 == 1) = false := by have := vld_bd h; simp; omega
  rw [hd] at hd2
  have HX := Lib.hid (fun w => cdate_yes n y m d h hd w)
  have HX2 := Lib.hid (fun w => cdate_yes (n + 1) (y) (m) (d + 1) h2 hd2 w)
  obtain ⟨e1, e2, e3⟩ := wkd_next n0 n1
  have HW := fun w => cweekday n ⟨by omega, by omega⟩ w
  have HW2 := fun w => cweekday (n + 1) ⟨by omega, by omega⟩ w
  rw [e1] at HW2
  obtain ⟨y0, y1, m0, m1, d0, d1⟩ := vld_bd h
  obtain ⟨Y0, Y1, M0, M1, D0, D1⟩ := vld_bd h2
  have HL := fun w ht => clen y m ⟨by omega, by omega⟩ ⟨by omega, by omega⟩ w ht
  rw [hL] at HL
  replace HL := Lib.hid HL
  have HY := fun w ht => cyearday y m d ⟨by omega, by omega⟩ ⟨by omega, by omega⟩ ⟨by omega, by omega⟩ w ht
  have HY2 := fun w ht => cyearday (y) (m) (d + 1) ⟨by omega, by omega⟩ ⟨by omega, by omega⟩ ⟨by omega, by omega⟩ w ht
  rw [hy2] at HY2
  obtain ⟨u0, u1⟩ := ydy_bd h
  generalize wkd n = W at *
  generalize ydy y m d = U at *
  replace HW := Lib.hid HW
  replace HW2 := Lib.hid HW2
  replace HY := Lib.hid HY
  replace HY2 := Lib.hid HY2
  have k1 : decide (n < -719162) = false := decide_eq_false (by omega)
  have k2 : decide (2932896 ≤ n) = false := decide_eq_false (by omega)
  replace ht := Lib.hid ht
  clear h hd h2 hd2 hy2 e1 hL
  go_enter Tryd.func9, Tryd.ntmps9
  go_wp2_with fail
  refine (awake_all _ ht.out).mono ?_
  rintro e w1 ⟨rfl, A1⟩
  replace A1 := Lib.hid A1
  go_wp2_with fail
  refine (HX.out _).mono ?_
  rintro e w2 ⟨rfl, hb⟩
  have A2 := Lib.hid (down A1.out hb)
  clear hb A1
  go_wp2_with fail
  refine (HX2.out _).mono ?_
  rintro e w3 ⟨rfl, hb⟩
  have A3 := Lib.hid (down (grow A2.out _) hb)
  have B3 := Lib.hid (Box.new hb)
  clear hb A2
  obtain ⟨c0, c1, c2, z⟩ := B3.out
  obtain ⟨w4, hw4⟩ : ∃ w4 : World, (w3.alloc (.cells #[.int .i64 (y), .int .i64 (m), .int .i64 (d + 1)] 23)).alloc (.cells #[.int .i64 y, .int .i64 m, .int .i64 (d + 1)] 23) = w4 := ⟨_, rfl⟩
  have A4 : Hid (Below w.heap.size w w4) := by rw [← hw4]; exact grow (grow A3.out _) _
  have B4 : Hid (Box w4 w2.heap.size (.int .i64 y) (.int .i64 m) (.int .i64 d)) := by rw [← hw4]; exact (B3.out.old _).old _
  have C4 : Hid (Box w4 w3.heap.size (.int .i64 (y)) (.int .i64 (m)) (.int .i64 (d + 1))) := by rw [← hw4]; exact (Box.new (here _)).old _
  have s1 : (w3.alloc (.cells #[.int .i64 (y), .int .i64 (m), .int .i64 (d + 1)] 23)).heap.size = w3.heap.size + 1 := by simp
  have D4 : Hid (Box w4 (w3.heap.size + 1) (.int .i64 y) (.int .i64 m) (.int .i64 (d + 1))) := by rw [← hw4, ← s1]; exact Box.new (here _)
  have E4 : Hid (Free w4 (w3.heap.size + 1)) := by rw [← hw4, ← s1]; exact Free.new (here _)
  have z4 : Hid (w2.heap.size < w3.heap.size) := z
  replace s1 := Lib.hid s1
  go_wp2
  clear hw4 c0 c1 c2 z
  obtain ⟨c0, c1, c2, zc⟩ := B4.out
  obtain ⟨d0', d1', d2', zd⟩ := D4.out
  go_quiet ((go_at_call 19; exact qleft (HL.out _ (lens_drewN (lens_below ht.out A4.out) _))))
  go_wp2_with fail
  refine (HY.out _ (lens_below ht.out (below_drewN A4.out _))).mono ?_
  rintro e w6 ⟨rfl, hb⟩
  have A5 := Lib.hid (down (below_drewN A4.out _) hb)
  have B5 := Lib.hid ((B4.out.drewN _).keep hb)
  have C5 := Lib.hid ((C4.out.drewN _).keep hb)
  have D5 := Lib.hid ((D4.out.drewN _).keep hb)
  clear hb A4 B4 C4 D4 c0 c1 c2 zc d0' d1' d2' zd
  obtain ⟨c0, c1, c2, zc⟩ := B5.out
  obtain ⟨d0', d1', d2', zd⟩ := D5.out
  obtain ⟨f0, f1, f2, zf⟩ := C5.out
  have k6 : decide (U ≤ 366) = true := decide_eq_true u1
  obtain ⟨b, hb⟩ : ∃ b, (m == 1) = b := ⟨_, rfl⟩
  cases b
  all_goals
    go_wp2_with fail
    refine (HW2.out _).mono ?_
    rintro e w' ⟨rfl, j1, rfl⟩
    go_wp2_with fail
    refine (HW.out _).mono ?_
    rintro e w' ⟨rfl, j2, rfl⟩
    go_wp2_with fail
    refine (HY2.out _ (lens_below ht.out (below_drewN A5.out _))).mono ?_
    rintro e w7 ⟨rfl, hb2⟩
    have A6 := Lib.hid (down (below_drewN A5.out _) hb2)
    have B6 := Lib.hid ((B5.out.drewN _).keep hb2)
    clear hb2 c0 c1 c2 zc d0' d1' d2' zd f0 f1 f2 zf
    obtain ⟨c0, c1, c2, zc⟩ := B6.out
    go_wp2_with fail
    refine (HY.out _ (lens_below ht.out A6.out)).mono ?_
    rintro e w8 ⟨rfl, hb3⟩
    have A7 := Lib.hid (down A6.out hb3)
    clear hb3
    go_wp2
    go_ret
    exact ⟨rfl, A7.out⟩
set_option maxRecDepth 100000 in
set_option maxHeartbeats 2000000 in
theorem walk_two (n y m d L : Int) (n0 : -719162 ≤ n) (n1 : n < 2932896) (h : vld y m d = true) (hd : dayN y m d = n) (hL : lenM y m = L) (k : d = L) (km : m < 12) (w : World) (ht : Lens w) :
    Calls Tryd.prog 9 #[.int .i64 n] w fun e w' => e = .returned (.bool true) ∧ Below w.heap.size w w' := by
  obtain ⟨h2, hd2, hy2⟩ := next_month h (by omega) km
  have k3 : decide (L < d + 1) = true := decide_eq_true (by omega)
  have k4 : decide (12 < m + 1) = false := decide_eq_false (by omega)
  have k5 : (m + 1 == 1) = false := by have := vld_bd h; simp; omega
  subst k
  rw [hd] at hd2
  have HX := Lib.hid (fun w => cdate_yes n y m d h hd w)
  have HX2 := Lib.hid (fun w => cdate_yes (n + 1) (y) (m + 1) (1) h2 hd2 w)
  obtain ⟨e1, e2, e3⟩ := wkd_next n0 n1
  have HW := fun w => cweekday n ⟨by omega, by omega⟩ w
  have HW2 := fun w => cweekday (n + 1) ⟨by omega, by omega⟩ w
  rw [e1] at HW2
  obtain ⟨y0, y1, m0, m1, d0, d1⟩ := vld_bd h
  obtain ⟨Y0, Y1, M0, M1, D0, D1⟩ := vld_bd h2
  have HL := fun w ht => clen y m ⟨by omega, by omega⟩ ⟨by omega, by omega⟩ w ht
  rw [hL] at HL
  replace HL := Lib.hid HL
  have HY := fun w ht => cyearday y m d ⟨by omega, by omega⟩ ⟨by omega, by omega⟩ ⟨by omega, by omega⟩ w ht
  have HY2 := fun w ht => cyearday (y) (m + 1) (1) ⟨by omega, by omega⟩ ⟨by omega, by omega⟩ ⟨by omega, by omega⟩ w ht
  rw [hy2] at HY2
  obtain ⟨u0, u1⟩ := ydy_bd h
  generalize wkd n = W at *
  generalize ydy y m d = U at *
  replace HW := Lib.hid HW
  replace HW2 := Lib.hid HW2
  replace HY := Lib.hid HY
  replace HY2 := Lib.hid HY2
  have k1 : decide (n < -719162) = false := decide_eq_false (by omega)
  have k2 : decide (2932896 ≤ n) = false := decide_eq_false (by omega)
  replace ht := Lib.hid ht
  clear h hd h2 hd2 hy2 e1 hL
  go_enter Tryd.func9, Tryd.ntmps9
  go_wp2_with fail
  refine (awake_all _ ht.out).mono ?_
  rintro e w1 ⟨rfl, A1⟩
  replace A1 := Lib.hid A1
  go_wp2_with fail
  refine (HX.out _).mono ?_
  rintro e w2 ⟨rfl, hb⟩
  have A2 := Lib.hid (down A1.out hb)
  clear hb A1
  go_wp2_with fail
  refine (HX2.out _).mono ?_
  rintro e w3 ⟨rfl, hb⟩
  have A3 := Lib.hid (down (grow A2.out _) hb)
  have B3 := Lib.hid (Box.new hb)
  clear hb A2
  obtain ⟨c0, c1, c2, z⟩ := B3.out
  obtain ⟨w4, hw4⟩ : ∃ w4 : World, (w3.alloc (.cells #[.int .i64 (y), .int .i64 (m + 1), .int .i64 (1)] 23)).alloc (.cells #[.int .i64 y, .int .i64 m, .int .i64 (d + 1)] 23) = w4 := ⟨_, rfl⟩
  have A4 : Hid (Below w.heap.size w w4) := by rw [← hw4]; exact grow (grow A3.out _) _
  have B4 : Hid (Box w4 w2.heap.size (.int .i64 y) (.int .i64 m) (.int .i64 d)) := by rw [← hw4]; exact (B3.out.old _).old _
  have C4 : Hid (Box w4 w3.heap.size (.int .i64 (y)) (.int .i64 (m + 1)) (.int .i64 (1))) := by rw [← hw4]; exact (Box.new (here _)).old _
  have s1 : (w3.alloc (.cells #[.int .i64 (y), .int .i64 (m + 1), .int .i64 (1)] 23)).heap.size = w3.heap.size + 1 := by simp
  have D4 : Hid (Box w4 (w3.heap.size + 1) (.int .i64 y) (.int .i64 m) (.int .i64 (d + 1))) := by rw [← hw4, ← s1]; exact Box.new (here _)
  have E4 : Hid (Free w4 (w3.heap.size + 1)) := by rw [← hw4, ← s1]; exact Free.new (here _)
  have z4 : Hid (w2.heap.size < w3.heap.size) := z
  replace s1 := Lib.hid s1
  go_wp2
  clear hw4 c0 c1 c2 z
  obtain ⟨c0, c1, c2, zc⟩ := B4.out
  obtain ⟨d0', d1', d2', zd⟩ := D4.out
  go_quiet ((go_at_call 19; exact qleft (HL.out _ (lens_drewN (lens_below ht.out A4.out) _))))
  obtain ⟨g0, g1, g2⟩ := E4.out
  go_wp2
  go_region
  have P4 := Lib.hid (((D4.out.drewN (nq + 1)).put2 (.int .i64 1)).put1 (.int .i64 (m + 1)))
  have Q4 := Lib.hid (((B4.out.drewN (nq + 1)).far (b := w3.heap.size + 1) (by have := z4.out; omega) 2 (.int .i64 1)).far (b := w3.heap.size + 1) (by have := z4.out; omega) 1 (.int .i64 (m + 1)))
  have R4 := Lib.hid (((C4.out.drewN (nq + 1)).far (b := w3.heap.size + 1) (by omega) 2 (.int .i64 1)).far (b := w3.heap.size + 1) (by omega) 1 (.int .i64 (m + 1)))
  have S4 := Lib.hid (((E4.out.drewN (nq + 1)).set ⟨w3.heap.size + 1, 2, none⟩ (.int .i64 1)).set ⟨w3.heap.size + 1, 1, none⟩ (.int .i64 (m + 1)))
  have T4 := Lib.hid (((below_drewN A4.out (nq + 1)).setCell (p := ⟨w3.heap.size + 1, 2, none⟩) (Nat.le_succ_of_le A3.out.size) (.int .i64 1)).setCell (p := ⟨w3.heap.size + 1, 1, none⟩) (Nat.le_succ_of_le A3.out.size) (.int .i64 (m + 1)))
  clear A4 B4 C4 D4 E4 c0 c1 c2 zc d0' d1' d2' zd g0 g1 g2
  generalize (((w4.drewN (nq + 1)).setCell ⟨w3.heap.size + 1, 2, none⟩ (.int .i64 1)).setCell ⟨w3.heap.size + 1, 1, none⟩ (.int .i64 (m + 1))) = w5 at *
  obtain ⟨c0, c1, c2, zc⟩ := Q4.out
  obtain ⟨d0', d1', d2', zd⟩ := P4.out
  go_wp2_with fail
  refine (HY.out _ (lens_below ht.out T4.out)).mono ?_
  rintro e w6 ⟨rfl, hb⟩
  have A5 := Lib.hid (down T4.out hb)
  have B5 := Lib.hid (Q4.out.keep hb)
  have C5 := Lib.hid (R4.out.keep hb)
  have D5 := Lib.hid (P4.out.keep hb)
  clear hb P4 Q4 R4 S4 T4 c0 c1 c2 zc d0' d1' d2' zd
  obtain ⟨c0, c1, c2, zc⟩ := B5.out
  obtain ⟨d0', d1', d2', zd⟩ := D5.out
  obtain ⟨f0, f1, f2, zf⟩ := C5.out
  have k6 : decide (U ≤ 366) = true := decide_eq_true u1
  go_wp2_with fail
  refine (HW2.out _).mono ?_
  rintro e w' ⟨rfl, j1, rfl⟩
  go_wp2_with fail
  refine (HW.out _).mono ?_
  rintro e w' ⟨rfl, j2, rfl⟩
  go_wp2_with fail
  refine (HY2.out _ (lens_below ht.out (below_drewN A5.out _))).mono ?_
  rintro e w7 ⟨rfl, hb2⟩
  have A6 := Lib.hid (down (below_drewN A5.out _) hb2)
  have B6 := Lib.hid ((B5.out.drewN _).keep hb2)
  clear hb2 c0 c1 c2 zc d0' d1' d2' zd f0 f1 f2 zf
  obtain ⟨c0, c1, c2, zc⟩ := B6.out
  go_wp2_with fail
  refine (HY.out _ (lens_below ht.out A6.out)).mono ?_
  rintro e w8 ⟨rfl, hb3⟩
  have A7 := Lib.hid (down A6.out hb3)
  clear hb3
  go_wp2
  go_ret
  exact ⟨rfl, A7.out⟩
set_option maxRecDepth 100000 in
set_option maxHeartbeats 2000000 in
theorem walk_three (n y m d L : Int) (n0 : -719162 ≤ n) (n1 : n < 2932896) (h : vld y m d = true) (hd : dayN y m d = n) (hL : lenM y m = L) (k : d = L) (km : m = 12) (w : World) (ht : Lens w) :
    Calls Tryd.prog 9 #[.int .i64 n] w fun e w' => e = .returned (.bool true) ∧ Below w.heap.size w w' := by
  obtain ⟨h2, hd2, hy2⟩ := next_year h (by omega) km (by
    have b := vld_bd h
    rcases Int.lt_or_le y 9999 with q | q
    · exact q
    · obtain rfl : y = 9999 := by omega
      subst km
      unfold dayN at hd; rw [show first 9999 = 2932532 by decide, show cum 9999 12 = 334 by decide +kernel] at hd
      have : lenM 9999 12 = 31 := by decide +kernel
      omega)
  have k3 : decide (L < d + 1) = true := decide_eq_true (by omega)
  have k4 : decide (12 < m + 1) = true := decide_eq_true (by omega)
  subst k
  replace km := Lib.hid km
  rw [hd] at hd2
  have HX := Lib.hid (fun w => cdate_yes n y m d h hd w)
  have HX2 := Lib.hid (fun w => cdate_yes (n + 1) (y + 1) (1) (1) h2 hd2 w)
  obtain ⟨e1, e2, e3⟩ := wkd_next n0 n1
  have HW := fun w => cweekday n ⟨by omega, by omega⟩ w
  have HW2 := fun w => cweekday (n + 1) ⟨by omega, by omega⟩ w
  rw [e1] at HW2
  obtain ⟨y0, y1, m0, m1, d0, d1⟩ := vld_bd h
  obtain ⟨Y0, Y1, M0, M1, D0, D1⟩ := vld_bd h2
  have HL := fun w ht => clen y m ⟨by omega, by omega⟩ ⟨by omega, by omega⟩ w ht
  rw [hL] at HL
  replace HL := Lib.hid HL
  have HY := fun w ht => cyearday y m d ⟨by omega, by omega⟩ ⟨by omega, by omega⟩ ⟨by omega, by omega⟩ w ht
  have HY2 := fun w ht => cyearday (y + 1) (1) (1) ⟨by omega, by omega⟩ ⟨by omega, by omega⟩ ⟨by omega, by omega⟩ w ht
  rw [hy2] at HY2
  obtain ⟨u0, u1⟩ := ydy_bd h
  generalize wkd n = W at *
  generalize ydy y m d = U at *
  replace HW := Lib.hid HW
  replace HW2 := Lib.hid HW2
  replace HY := Lib.hid HY
  replace HY2 := Lib.hid HY2
  have k1 : decide (n < -719162) = false := decide_eq_false (by omega)
  have k2 : decide (2932896 ≤ n) = false := decide_eq_false (by omega)
  replace ht := Lib.hid ht
  clear h hd h2 hd2 hy2 e1 hL
  go_enter Tryd.func9, Tryd.ntmps9
  go_wp2_with fail
  refine (awake_all _ ht.out).mono ?_
  rintro e w1 ⟨rfl, A1⟩
  replace A1 := Lib.hid A1
  go_wp2_with fail
  refine (HX.out _).mono ?_
  rintro e w2 ⟨rfl, hb⟩
  have A2 := Lib.hid (down A1.out hb)
  clear hb A1
  go_wp2_with fail
  refine (HX2.out _).mono ?_
  rintro e w3 ⟨rfl, hb⟩
  have A3 := Lib.hid (down (grow A2.out _) hb)
  have B3 := Lib.hid (Box.new hb)
  clear hb A2
  obtain ⟨c0, c1, c2, z⟩ := B3.out
  obtain ⟨w4, hw4⟩ : ∃ w4 : World, (w3.alloc (.cells #[.int .i64 (y + 1), .int .i64 (1), .int .i64 (1)] 23)).alloc (.cells #[.int .i64 y, .int .i64 m, .int .i64 (d + 1)] 23) = w4 := ⟨_, rfl⟩
  have A4 : Hid (Below w.heap.size w w4) := by rw [← hw4]; exact grow (grow A3.out _) _
  have B4 : Hid (Box w4 w2.heap.size (.int .i64 y) (.int .i64 m) (.int .i64 d)) := by rw [← hw4]; exact (B3.out.old _).old _
  have C4 : Hid (Box w4 w3.heap.size (.int .i64 (y + 1)) (.int .i64 (1)) (.int .i64 (1))) := by rw [← hw4]; exact (Box.new (here _)).old _
  have s1 : (w3.alloc (.cells #[.int .i64 (y + 1), .int .i64 (1), .int .i64 (1)] 23)).heap.size = w3.heap.size + 1 := by simp
  have D4 : Hid (Box w4 (w3.heap.size + 1) (.int .i64 y) (.int .i64 m) (.int .i64 (d + 1))) := by rw [← hw4, ← s1]; exact Box.new (here _)
  have E4 : Hid (Free w4 (w3.heap.size + 1)) := by rw [← hw4, ← s1]; exact Free.new (here _)
  have z4 : Hid (w2.heap.size < w3.heap.size) := z
  replace s1 := Lib.hid s1
  go_wp2
  clear hw4 c0 c1 c2 z
  obtain ⟨c0, c1, c2, zc⟩ := B4.out
  obtain ⟨d0', d1', d2', zd⟩ := D4.out
  go_quiet ((go_at_call 19; exact qleft (HL.out _ (lens_drewN (lens_below ht.out A4.out) _))))
  obtain ⟨g0, g1, g2⟩ := E4.out
  go_wp2
  go_region
  have P4 := Lib.hid (((D4.out.drewN (nq + 1)).put2 (.int .i64 1)).put1 (.int .i64 (m + 1)))
  have Q4 := Lib.hid (((B4.out.drewN (nq + 1)).far (b := w3.heap.size + 1) (by have := z4.out; omega) 2 (.int .i64 1)).far (b := w3.heap.size + 1) (by have := z4.out; omega) 1 (.int .i64 (m + 1)))
  have R4 := Lib.hid (((C4.out.drewN (nq + 1)).far (b := w3.heap.size + 1) (by omega) 2 (.int .i64 1)).far (b := w3.heap.size + 1) (by omega) 1 (.int .i64 (m + 1)))
  have S4 := Lib.hid (((E4.out.drewN (nq + 1)).set ⟨w3.heap.size + 1, 2, none⟩ (.int .i64 1)).set ⟨w3.heap.size + 1, 1, none⟩ (.int .i64 (m + 1)))
  have T4 := Lib.hid (((below_drewN A4.out (nq + 1)).setCell (p := ⟨w3.heap.size + 1, 2, none⟩) (Nat.le_succ_of_le A3.out.size) (.int .i64 1)).setCell (p := ⟨w3.heap.size + 1, 1, none⟩) (Nat.le_succ_of_le A3.out.size) (.int .i64 (m + 1)))
  clear A4 B4 C4 D4 E4 c0 c1 c2 zc d0' d1' d2' zd g0 g1 g2
  generalize (((w4.drewN (nq + 1)).setCell ⟨w3.heap.size + 1, 2, none⟩ (.int .i64 1)).setCell ⟨w3.heap.size + 1, 1, none⟩ (.int .i64 (m + 1))) = w5 at *
  obtain ⟨c0, c1, c2, zc⟩ := Q4.out
  obtain ⟨d0', d1', d2', zd⟩ := P4.out
  obtain ⟨g0, g1, g2⟩ := S4.out
  go_wp2
  go_region
  have P5 := Lib.hid ((P4.out.put1 (.int .i64 1)).put0 (.int .i64 (y + 1))).drew
  have Q5 := Lib.hid ((Q4.out.far (b := w3.heap.size + 1) (by have := z4.out; omega) 1 (.int .i64 1)).far (b := w3.heap.size + 1) (by have := z4.out; omega) 0 (.int .i64 (y + 1))).drew
  have R5 := Lib.hid ((R4.out.far (b := w3.heap.size + 1) (by omega) 1 (.int .i64 1)).far (b := w3.heap.size + 1) (by omega) 0 (.int .i64 (y + 1))).drew
  have T5 := Lib.hid ((T4.out.setCell (p := ⟨w3.heap.size + 1, 1, none⟩) (Nat.le_succ_of_le A3.out.size) (.int .i64 1)).setCell (p := ⟨w3.heap.size + 1, 0, none⟩) (Nat.le_succ_of_le A3.out.size) (.int .i64 (y + 1))).drew
  clear P4 Q4 R4 S4 T4 c0 c1 c2 zc d0' d1' d2' zd g0 g1 g2
  generalize ((w5.setCell ⟨w3.heap.size + 1, 1, none⟩ (.int .i64 1)).setCell ⟨w3.heap.size + 1, 0, none⟩ (.int .i64 (y + 1))).drew = wz at *
  obtain ⟨c0, c1, c2, zc⟩ := Q5.out
  obtain ⟨d0', d1', d2', zd⟩ := P5.out
  go_wp2_with fail
  refine (HY.out _ (lens_below ht.out T5.out)).mono ?_
  rintro e w6 ⟨rfl, hb⟩
  have A5 := Lib.hid (down T5.out hb)
  have B5 := Lib.hid (Q5.out.keep hb)
  have C5 := Lib.hid (R5.out.keep hb)
  have D5 := Lib.hid (P5.out.keep hb)
  clear hb P5 Q5 R5 T5 c0 c1 c2 zc d0' d1' d2' zd
  obtain ⟨c0, c1, c2, zc⟩ := B5.out
  obtain ⟨d0', d1', d2', zd⟩ := D5.out
  obtain ⟨f0, f1, f2, zf⟩ := C5.out
  have k6 : decide (U ≤ 366) = true := decide_eq_true u1
  go_wp2_with fail
  refine (HW2.out _).mono ?_
  rintro e w' ⟨rfl, j1, rfl⟩
  go_wp2_with fail
  refine (HW.out _).mono ?_
  rintro e w' ⟨rfl, j2, rfl⟩
  go_wp2_with fail
  refine (HY2.out _ (lens_below ht.out (below_drewN A5.out _))).mono ?_
  rintro e w7 ⟨rfl, hb2⟩
  have A6 := Lib.hid (down (below_drewN A5.out _) hb2)
  have B6 := Lib.hid ((B5.out.drewN _).keep hb2)
  clear hb2 c0 c1 c2 zc d0' d1' d2' zd f0 f1 f2 zf
  obtain ⟨c0, c1, c2, zc⟩ := B6.out
  go_wp2_with fail
  refine (HY.out _ (lens_below ht.out A6.out)).mono ?_
  rintro e w8 ⟨rfl, hb3⟩
  have A7 := Lib.hid (down A6.out hb3)
  clear hb3
  go_wp2
  go_ret
  exact ⟨rfl, A7.out⟩
theorem walk (n : Int) (hn : (Lit.int .i64 n).wf = true) (w : World) (ht : Lens w) :
    Calls Tryd.prog 9 #[.int .i64 n] w fun e w' => e = .returned (.bool true) ∧ Below w.heap.size w w' := by
  obtain ⟨h0, h1⟩ := i64_wf hn
  by_cases k : n < -719162 ∨ 2932896 ≤ n
  · rcases k with k | k
    · have k1 : decide (n < -719162) = true := decide_eq_true k
      go_enter Tryd.func9, Tryd.ntmps9
      go_wp2_with fail
      refine (awake_all _ ht).mono ?_
      rintro e w1 ⟨rfl, A1⟩
      go_wp2
      go_ret
      exact ⟨rfl, A1⟩
    · have k1 : decide (n < -719162) = false := decide_eq_false (by omega)
      have k2 : decide (2932896 ≤ n) = true := decide_eq_true k
      go_enter Tryd.func9, Tryd.ntmps9
      go_wp2_with fail
      refine (awake_all _ ht).mono ?_
      rintro e w1 ⟨rfl, A1⟩
      go_wp2
      go_ret
      exact ⟨rfl, A1⟩
  · obtain ⟨y, m, d, hv, he⟩ := date_of (n := n) (by omega) (by omega)
    have v := vld_iff.1 hv
    have b := vld_bd hv
    by_cases c : d < lenM y m
    · exact walk_one n y m d _ (by omega) (by omega) hv he rfl c w ht
    · by_cases km : m < 12
      · exact walk_two n y m d _ (by omega) (by omega) hv he rfl (by omega) km w ht
      · exact walk_three n y m d _ (by omega) (by omega) hv he rfl (by omega) (by omega) w ht
end CivilNext
end Go.Proofs.YtdhedkcbkchpgaaDoor
