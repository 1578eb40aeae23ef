/- The walks of ClockSteps, ClockOrder: the Go text returns true, at every input. -/
import Derived.Test.YtehbegjocdahmaaDoorAwakeM
import Derived.Test.YtehbegjocdahmaaDoorLawC
import Derived.Test.YtehbegjocdahmaaDoorShelfThree
namespace Go.Proofs.YtehbegjocdahmaaDoor
open Go.RowKit
set_option linter.unusedVariables false
theorem Six.far {w : World} {b b' : Nat} {p q r x y z : Value} (h : Six w b' p q r x y z) (hne : b ≠ b') (o : Nat) (v : Value) : Six (w.setCell ⟨b, o, none⟩ v) b' p q r x y z := by
  have k : ∀ j, (⟨b, o, none⟩ : Addr) ≠ ⟨b', j, none⟩ := fun j e => hne (congrArg Addr.block e)
  exact ⟨by rw [World.cell?_setCell_other (h := k 0)]; exact h.c0, by rw [World.cell?_setCell_other (h := k 1)]; exact h.c1, by rw [World.cell?_setCell_other (h := k 2)]; exact h.c2, by rw [World.cell?_setCell_other (h := k 3)]; exact h.c3, by rw [World.cell?_setCell_other (h := k 4)]; exact h.c4, by rw [World.cell?_setCell_other (h := k 5)]; exact h.c5, by rw [size_set]; exact h.lt⟩
theorem Six.put3 {w : World} {b : Nat} {p q r x y z : Value} (h : Six w b p q r x y z) (v : Value) : Six (w.setCell ⟨b, 3, none⟩ v) b p q r v y z :=
  ⟨by rw [World.cell?_setCell_other (h := by simp)]; exact h.c0, by rw [World.cell?_setCell_other (h := by simp)]; exact h.c1, by rw [World.cell?_setCell_other (h := by simp)]; exact h.c2, World.cell?_setCell_same w _ v h.c3, by rw [World.cell?_setCell_other (h := by simp)]; exact h.c4, by rw [World.cell?_setCell_other (h := by simp)]; exact h.c5, by rw [size_set]; exact h.lt⟩
theorem Six.put4 {w : World} {b : Nat} {p q r x y z : Value} (h : Six w b p q r x y z) (v : Value) : Six (w.setCell ⟨b, 4, none⟩ v) b p q r x v z :=
  ⟨by rw [World.cell?_setCell_other (h := by simp)]; exact h.c0, by rw [World.cell?_setCell_other (h := by simp)]; exact h.c1, by rw [World.cell?_setCell_other (h := by simp)]; exact h.c2, by rw [World.cell?_setCell_other (h := by simp)]; exact h.c3, World.cell?_setCell_same w _ v h.c4, by rw [World.cell?_setCell_other (h := by simp)]; exact h.c5, by rw [size_set]; exact h.lt⟩
theorem Six.put5 {w : World} {b : Nat} {p q r x y z : Value} (h : Six w b p q r x y z) (v : Value) : Six (w.setCell ⟨b, 5, none⟩ v) b p q r x y v :=
  ⟨by rw [World.cell?_setCell_other (h := by simp)]; exact h.c0, by rw [World.cell?_setCell_other (h := by simp)]; exact h.c1, by rw [World.cell?_setCell_other (h := by simp)]; exact h.c2, by rw [World.cell?_setCell_other (h := by simp)]; exact h.c3, by rw [World.cell?_setCell_other (h := by simp)]; exact h.c4, World.cell?_setCell_same w _ v h.c5, by rw [size_set]; exact h.lt⟩
theorem Free6.set {w : World} {b : Nat} (h : Free6 w b) (a : Addr) (v : Value) : Free6 (w.setCell a v) b :=
  ⟨by rw [World.frozen?_setCell]; exact h.f0, by rw [World.frozen?_setCell]; exact h.f1, by rw [World.frozen?_setCell]; exact h.f2, by rw [World.frozen?_setCell]; exact h.f3, by rw [World.frozen?_setCell]; exact h.f4, by rw [World.frozen?_setCell]; exact h.f5⟩
namespace ClockSteps
set_option maxRecDepth 100000 in
set_option maxHeartbeats 2000000 in
theorem out (n : Int) (hn : I64 n) (v : (decide (n < -62135596800) || decide (253402300799 ≤ n)) = true) (w : World) (hl : Listed w) :
    Calls Tryd.prog 6 #[.int .i64 n] w fun e w' => e = .returned (.bool true) ∧ Below w.heap.size w w' := by
  obtain ⟨x1, hx1⟩ : ∃ x, decide (n < -62135596800) = x := ⟨_, rfl⟩
  obtain ⟨x2, hx2⟩ : ∃ x, decide (253402300799 ≤ n) = x := ⟨_, rfl⟩
  rw [hx1, hx2] at v
  replace hl := Lib.hid hl
  clear hn
  cases x1 <;> cases x2 <;> (try cases v)
  all_goals
    go_enter Tryd.func6, Tryd.ntmps6
    go_wp2_with fail
    refine (awake_all _ hl.out).mono ?_
    rintro e w1 ⟨rfl, A1⟩
    replace A1 := Lib.hid A1
    go_wp2
    go_ret
    exact ⟨rfl, A1.out⟩
set_option maxRecDepth 100000 in
set_option maxHeartbeats 2000000 in
theorem same (n a b c p q r : Int) (v : vld a b c = true) (t : vldT p q r = true) (e : 86400 * dayN a b c + secT p q r = n) (k : r < 59) (n1 : n < 253402300799) (w : World) (hl : Listed w) :
    Calls Tryd.prog 6 #[.int .i64 n] w fun e w' => e = .returned (.bool true) ∧ Below w.heap.size w w' := by
  obtain ⟨⟨t0, t1⟩, ⟨t2, t3⟩, t4, t5⟩ := vldT_iff.1 t
  have dr := day_range v
  have sb := secT_bd t
  have n0 : -62135596800 ≤ n := by omega
  have HM := Lib.hid (fun w => kmom_yes n a b c p q r v t e w)
  have HN := Lib.hid (fun w => kmom_yes (n + 1) a b c p q (r + 1) v (vldT_iff.2 (by omega)) (by unfold secT at *; omega) w)
  have y1 : (r + 1 == 60) = false := by simp; omega
  have y2 : (q == 60) = false := by simp; omega
  have y3 : (p == 24) = false := by simp; omega
  have x1 : decide (n < -62135596800) = false := decide_eq_false (by omega)
  have x2 : decide (253402300799 ≤ n) = false := decide_eq_false (by omega)
  replace hl := Lib.hid hl
  clear v t e sb
  go_enter Tryd.func6, Tryd.ntmps6
  go_wp2_with fail
  refine (awake_all _ hl.out).mono ?_
  rintro e w0 ⟨rfl, A0⟩
  replace A0 := Lib.hid A0
  go_wp2_with fail
  refine (HM.out _).mono ?_
  rintro e w1 ⟨rfl, hb⟩
  have A1 := Lib.hid (down A0.out hb)
  clear hb A0
  have A2 := Lib.hid (grow A1.out (.cells #[.int .i64 a, .int .i64 b, .int .i64 c, .int .i64 p, .int .i64 q, .int .i64 r] 44))
  have S2 := Lib.hid (Six.new (here (w1.alloc (.cells #[.int .i64 a, .int .i64 b, .int .i64 c, .int .i64 p, .int .i64 q, .int .i64 r] 44))))
  have F2 := Lib.hid (Free6.new (here (w1.alloc (.cells #[.int .i64 a, .int .i64 b, .int .i64 c, .int .i64 p, .int .i64 q, .int .i64 r] 44))))
  obtain ⟨w2, hw2⟩ : ∃ w2, w1.alloc (.cells #[.int .i64 a, .int .i64 b, .int .i64 c, .int .i64 p, .int .i64 q, .int .i64 r] 44) = w2 := ⟨_, rfl⟩
  rw [hw2] at A2 S2 F2
  have hB : w.heap.size ≤ w1.heap.size := A1.out.size
  clear A1
  go_wp2_with fail
  clear hw2
  refine (HN.out _).mono ?_
  rintro e w3 ⟨rfl, hb⟩
  have A3 := Lib.hid (down A2.out hb)
  have S3 := Lib.hid (S2.out.keep hb)
  have F3 := Lib.hid (F2.out.keep S2.out.lt hb)
  clear hb A2 S2 F2
  have hne : ¬ w1.heap.size = w3.heap.size := by have := S3.out.lt; omega
  have hne2 : ¬ w3.heap.size = w1.heap.size := fun x => hne x.symm
  have A4 := Lib.hid (grow A3.out (.cells #[.int .i64 a, .int .i64 b, .int .i64 c, .int .i64 p, .int .i64 q, .int .i64 (r + 1)] 44))
  have S4 := Lib.hid (S3.out.old (.cells #[.int .i64 a, .int .i64 b, .int .i64 c, .int .i64 p, .int .i64 q, .int .i64 (r + 1)] 44))
  have F4 := Lib.hid (F3.out.keep S3.out.lt (grow (here _) (.cells #[.int .i64 a, .int .i64 b, .int .i64 c, .int .i64 p, .int .i64 q, .int .i64 (r + 1)] 44)))
  have N4 := Lib.hid (Six.new (here (w3.alloc (.cells #[.int .i64 a, .int .i64 b, .int .i64 c, .int .i64 p, .int .i64 q, .int .i64 (r + 1)] 44))))
  obtain ⟨w4, hw4⟩ : ∃ w4, w3.alloc (.cells #[.int .i64 a, .int .i64 b, .int .i64 c, .int .i64 p, .int .i64 q, .int .i64 (r + 1)] 44) = w4 := ⟨_, rfl⟩
  rw [hw4] at A4 S4 F4 N4
  clear A3 S3 F3
  have G4 := Lib.hid (Free6.new (here (w3.alloc (.cells #[.int .i64 a, .int .i64 b, .int .i64 c, .int .i64 p, .int .i64 q, .int .i64 (r + 1)] 44))))
  rw [hw4] at G4
  obtain ⟨c0, c1, c2, c3, c4, c5, cz⟩ := S4.out
  obtain ⟨f0, f1, f2, f3, f4, f5⟩ := F4.out
  obtain ⟨w5, hw5⟩ : ∃ w', w4.setCell ⟨w1.heap.size, 5, none⟩ (.int .i64 (r + 1)) = w' := ⟨_, rfl⟩
  have A5 : Hid (Below w.heap.size w w5) := by rw [← hw5]; exact A4.out.setCell hB _
  have S5 : Hid (Six w5 w1.heap.size (.int .i64 a) (.int .i64 b) (.int .i64 c) (.int .i64 p) (.int .i64 q) (.int .i64 (r + 1))) := by rw [← hw5]; exact S4.out.put5 _
  have F5 : Hid (Free6 w5 w1.heap.size) := by rw [← hw5]; exact F4.out.set _ _
  have N5 := Lib.hid (N4.out.far hne 5 (.int .i64 (r + 1)))
  rw [hw5] at N5
  obtain ⟨c40, c41, c42, c43, c44, c45, -⟩ := S5.out
  obtain ⟨-, -, -, f43, f44, f45⟩ := F5.out
  obtain ⟨d0, d1, d2, d3, d4, d5, dz⟩ := N5.out
  go_wp2
  go_ret
  exact ⟨rfl, A5.out⟩
set_option maxRecDepth 100000 in
set_option maxHeartbeats 2000000 in
theorem minute (n a b c p q r : Int) (v : vld a b c = true) (t : vldT p q r = true) (e : 86400 * dayN a b c + secT p q r = n) (k : r = 59) (k2 : q < 59) (n1 : n < 253402300799) (w : World) (hl : Listed w) :
    Calls Tryd.prog 6 #[.int .i64 n] w fun e w' => e = .returned (.bool true) ∧ Below w.heap.size w w' := by
  obtain ⟨⟨t0, t1⟩, ⟨t2, t3⟩, t4, t5⟩ := vldT_iff.1 t
  have dr := day_range v
  have sb := secT_bd t
  have n0 : -62135596800 ≤ n := by omega
  have HM := Lib.hid (fun w => kmom_yes n a b c p q r v t e w)
  have HN := Lib.hid (fun w => kmom_yes (n + 1) a b c p (q + 1) 0 v (vldT_iff.2 (by omega)) (by unfold secT at *; omega) w)
  have y2 : (q + 1 == 60) = false := by simp; omega
  have y3 : (p == 24) = false := by simp; omega
  subst k
  have x1 : decide (n < -62135596800) = false := decide_eq_false (by omega)
  have x2 : decide (253402300799 ≤ n) = false := decide_eq_false (by omega)
  replace hl := Lib.hid hl
  clear v t e sb
  go_enter Tryd.func6, Tryd.ntmps6
  go_wp2_with fail
  refine (awake_all _ hl.out).mono ?_
  rintro e w0 ⟨rfl, A0⟩
  replace A0 := Lib.hid A0
  go_wp2_with fail
  refine (HM.out _).mono ?_
  rintro e w1 ⟨rfl, hb⟩
  have A1 := Lib.hid (down A0.out hb)
  clear hb A0
  have A2 := Lib.hid (grow A1.out (.cells #[.int .i64 a, .int .i64 b, .int .i64 c, .int .i64 p, .int .i64 q, .int .i64 59] 44))
  have S2 := Lib.hid (Six.new (here (w1.alloc (.cells #[.int .i64 a, .int .i64 b, .int .i64 c, .int .i64 p, .int .i64 q, .int .i64 59] 44))))
  have F2 := Lib.hid (Free6.new (here (w1.alloc (.cells #[.int .i64 a, .int .i64 b, .int .i64 c, .int .i64 p, .int .i64 q, .int .i64 59] 44))))
  obtain ⟨w2, hw2⟩ : ∃ w2, w1.alloc (.cells #[.int .i64 a, .int .i64 b, .int .i64 c, .int .i64 p, .int .i64 q, .int .i64 59] 44) = w2 := ⟨_, rfl⟩
  rw [hw2] at A2 S2 F2
  have hB : w.heap.size ≤ w1.heap.size := A1.out.size
  clear A1
  go_wp2_with fail
  clear hw2
  refine (HN.out _).mono ?_
  rintro e w3 ⟨rfl, hb⟩
  have A3 := Lib.hid (down A2.out hb)
  have S3 := Lib.hid (S2.out.keep hb)
  have F3 := Lib.hid (F2.out.keep S2.out.lt hb)
  clear hb A2 S2 F2
  have hne : ¬ w1.heap.size = w3.heap.size := by have := S3.out.lt; omega
  have hne2 : ¬ w3.heap.size = w1.heap.size := fun x => hne x.symm
  have A4 := Lib.hid (grow A3.out (.cells #[.int .i64 a, .int .i64 b, .int .i64 c, .int .i64 p, .int .i64 (q + 1), .int .i64 0] 44))
  have S4 := Lib.hid (S3.out.old (.cells #[.int .i64 a, .int .i64 b, .int .i64 c, .int .i64 p, .int .i64 (q + 1), .int .i64 0] 44))
  have F4 := Lib.hid (F3.out.keep S3.out.lt (grow (here _) (.cells #[.int .i64 a, .int .i64 b, .int .i64 c, .int .i64 p, .int .i64 (q + 1), .int .i64 0] 44)))
  have N4 := Lib.hid (Six.new (here (w3.alloc (.cells #[.int .i64 a, .int .i64 b, .int .i64 c, .int .i64 p, .int .i64 (q + 1), .int .i64 0] 44))))
  obtain ⟨w4, hw4⟩ : ∃ w4, w3.alloc (.cells #[.int .i64 a, .int .i64 b, .int .i64 c, .int .i64 p, .int .i64 (q + 1), .int .i64 0] 44) = w4 := ⟨_, rfl⟩
  rw [hw4] at A4 S4 F4 N4
  clear A3 S3 F3
  have G4 := Lib.hid (Free6.new (here (w3.alloc (.cells #[.int .i64 a, .int .i64 b, .int .i64 c, .int .i64 p, .int .i64 (q + 1), .int .i64 0] 44))))
  rw [hw4] at G4
  obtain ⟨c0, c1, c2, c3, c4, c5, cz⟩ := S4.out
  obtain ⟨f0, f1, f2, f3, f4, f5⟩ := F4.out
  obtain ⟨nd0, nd1, nd2, nd3, nd4, nd5, -⟩ := N4.out
  obtain ⟨ng0, ng1, ng2, ng3, ng4, ng5⟩ := G4.out
  have nz5 : w4.setCell ⟨w3.heap.size, 5, none⟩ (.int .i64 0) = w4 := by rw [← hw4, World.setCell_alloc_new]; rfl
  obtain ⟨w5, hw5⟩ : ∃ w', w4.setCell ⟨w1.heap.size, 5, none⟩ (.int .i64 60) = w' := ⟨_, rfl⟩
  have A5 : Hid (Below w.heap.size w w5) := by rw [← hw5]; exact A4.out.setCell hB _
  have S5 : Hid (Six w5 w1.heap.size (.int .i64 a) (.int .i64 b) (.int .i64 c) (.int .i64 p) (.int .i64 q) (.int .i64 60)) := by rw [← hw5]; exact S4.out.put5 _
  have F5 : Hid (Free6 w5 w1.heap.size) := by rw [← hw5]; exact F4.out.set _ _
  have N5 := Lib.hid (N4.out.far hne 5 (.int .i64 60))
  rw [hw5] at N5
  obtain ⟨c40, c41, c42, c43, c44, c45, -⟩ := S5.out
  obtain ⟨-, -, -, f43, f44, f45⟩ := F5.out
  obtain ⟨w6, hw6⟩ : ∃ w', w5.setCell ⟨w1.heap.size, 5, none⟩ (.int .i64 0) = w' := ⟨_, rfl⟩
  have A6 : Hid (Below w.heap.size w w6) := by rw [← hw6]; exact A5.out.setCell hB _
  have S6 : Hid (Six w6 w1.heap.size (.int .i64 a) (.int .i64 b) (.int .i64 c) (.int .i64 p) (.int .i64 q) (.int .i64 0)) := by rw [← hw6]; exact S5.out.put5 _
  have F6 : Hid (Free6 w6 w1.heap.size) := by rw [← hw6]; exact F5.out.set _ _
  have N6 := Lib.hid (N5.out.far hne 5 (.int .i64 0))
  rw [hw6] at N6
  obtain ⟨c50, c51, c52, c53, c54, c55, -⟩ := S6.out
  obtain ⟨-, -, -, f53, f54, f55⟩ := F6.out
  obtain ⟨w7, hw7⟩ : ∃ w', w6.setCell ⟨w1.heap.size, 4, none⟩ (.int .i64 (q + 1)) = w' := ⟨_, rfl⟩
  have A7 : Hid (Below w.heap.size w w7) := by rw [← hw7]; exact A6.out.setCell hB _
  have S7 : Hid (Six w7 w1.heap.size (.int .i64 a) (.int .i64 b) (.int .i64 c) (.int .i64 p) (.int .i64 (q + 1)) (.int .i64 0)) := by rw [← hw7]; exact S6.out.put4 _
  have F7 : Hid (Free6 w7 w1.heap.size) := by rw [← hw7]; exact F6.out.set _ _
  have N7 := Lib.hid (N6.out.far hne 4 (.int .i64 (q + 1)))
  rw [hw7] at N7
  obtain ⟨c60, c61, c62, c63, c64, c65, -⟩ := S7.out
  obtain ⟨-, -, -, f63, f64, f65⟩ := F7.out
  obtain ⟨d0, d1, d2, d3, d4, d5, dz⟩ := N7.out
  go_wp2
  go_ret
  exact ⟨rfl, A7.out⟩
set_option maxRecDepth 100000 in
set_option maxHeartbeats 2000000 in
theorem hour (n a b c p q r : Int) (v : vld a b c = true) (t : vldT p q r = true) (e : 86400 * dayN a b c + secT p q r = n) (k : r = 59) (k2 : q = 59) (k3 : p < 23) (n1 : n < 253402300799) (w : World) (hl : Listed w) :
    Calls Tryd.prog 6 #[.int .i64 n] w fun e w' => e = .returned (.bool true) ∧ Below w.heap.size w w' := by
  obtain ⟨⟨t0, t1⟩, ⟨t2, t3⟩, t4, t5⟩ := vldT_iff.1 t
  have dr := day_range v
  have sb := secT_bd t
  have n0 : -62135596800 ≤ n := by omega
  have HM := Lib.hid (fun w => kmom_yes n a b c p q r v t e w)
  have HN := Lib.hid (fun w => kmom_yes (n + 1) a b c (p + 1) 0 0 v (vldT_iff.2 (by omega)) (by unfold secT at *; omega) w)
  have y3 : (p + 1 == 24) = false := by simp; omega
  subst k k2
  have x1 : decide (n < -62135596800) = false := decide_eq_false (by omega)
  have x2 : decide (253402300799 ≤ n) = false := decide_eq_false (by omega)
  replace hl := Lib.hid hl
  clear v t e sb
  go_enter Tryd.func6, Tryd.ntmps6
  go_wp2_with fail
  refine (awake_all _ hl.out).mono ?_
  rintro e w0 ⟨rfl, A0⟩
  replace A0 := Lib.hid A0
  go_wp2_with fail
  refine (HM.out _).mono ?_
  rintro e w1 ⟨rfl, hb⟩
  have A1 := Lib.hid (down A0.out hb)
  clear hb A0
  have A2 := Lib.hid (grow A1.out (.cells #[.int .i64 a, .int .i64 b, .int .i64 c, .int .i64 p, .int .i64 59, .int .i64 59] 44))
  have S2 := Lib.hid (Six.new (here (w1.alloc (.cells #[.int .i64 a, .int .i64 b, .int .i64 c, .int .i64 p, .int .i64 59, .int .i64 59] 44))))
  have F2 := Lib.hid (Free6.new (here (w1.alloc (.cells #[.int .i64 a, .int .i64 b, .int .i64 c, .int .i64 p, .int .i64 59, .int .i64 59] 44))))
  obtain ⟨w2, hw2⟩ : ∃ w2, w1.alloc (.cells #[.int .i64 a, .int .i64 b, .int .i64 c, .int .i64 p, .int .i64 59, .int .i64 59] 44) = w2 := ⟨_, rfl⟩
  rw [hw2] at A2 S2 F2
  have hB : w.heap.size ≤ w1.heap.size := A1.out.size
  clear A1
  go_wp2_with fail
  clear hw2
  refine (HN.out _).mono ?_
  rintro e w3 ⟨rfl, hb⟩
  have A3 := Lib.hid (down A2.out hb)
  have S3 := Lib.hid (S2.out.keep hb)
  have F3 := Lib.hid (F2.out.keep S2.out.lt hb)
  clear hb A2 S2 F2
  have hne : ¬ w1.heap.size = w3.heap.size := by have := S3.out.lt; omega
  have hne2 : ¬ w3.heap.size = w1.heap.size := fun x => hne x.symm
  have A4 := Lib.hid (grow A3.out (.cells #[.int .i64 a, .int .i64 b, .int .i64 c, .int .i64 (p + 1), .int .i64 0, .int .i64 0] 44))
  have S4 := Lib.hid (S3.out.old (.cells #[.int .i64 a, .int .i64 b, .int .i64 c, .int .i64 (p + 1), .int .i64 0, .int .i64 0] 44))
  have F4 := Lib.hid (F3.out.keep S3.out.lt (grow (here _) (.cells #[.int .i64 a, .int .i64 b, .int .i64 c, .int .i64 (p + 1), .int .i64 0, .int .i64 0] 44)))
  have N4 := Lib.hid (Six.new (here (w3.alloc (.cells #[.int .i64 a, .int .i64 b, .int .i64 c, .int .i64 (p + 1), .int .i64 0, .int .i64 0] 44))))
  obtain ⟨w4, hw4⟩ : ∃ w4, w3.alloc (.cells #[.int .i64 a, .int .i64 b, .int .i64 c, .int .i64 (p + 1), .int .i64 0, .int .i64 0] 44) = w4 := ⟨_, rfl⟩
  rw [hw4] at A4 S4 F4 N4
  clear A3 S3 F3
  have G4 := Lib.hid (Free6.new (here (w3.alloc (.cells #[.int .i64 a, .int .i64 b, .int .i64 c, .int .i64 (p + 1), .int .i64 0, .int .i64 0] 44))))
  rw [hw4] at G4
  obtain ⟨c0, c1, c2, c3, c4, c5, cz⟩ := S4.out
  obtain ⟨f0, f1, f2, f3, f4, f5⟩ := F4.out
  obtain ⟨nd0, nd1, nd2, nd3, nd4, nd5, -⟩ := N4.out
  obtain ⟨ng0, ng1, ng2, ng3, ng4, ng5⟩ := G4.out
  have nz4 : w4.setCell ⟨w3.heap.size, 4, none⟩ (.int .i64 0) = w4 := by rw [← hw4, World.setCell_alloc_new]; rfl
  have nz5 : w4.setCell ⟨w3.heap.size, 5, none⟩ (.int .i64 0) = w4 := by rw [← hw4, World.setCell_alloc_new]; rfl
  obtain ⟨w5, hw5⟩ : ∃ w', w4.setCell ⟨w1.heap.size, 5, none⟩ (.int .i64 60) = w' := ⟨_, rfl⟩
  have A5 : Hid (Below w.heap.size w w5) := by rw [← hw5]; exact A4.out.setCell hB _
  have S5 : Hid (Six w5 w1.heap.size (.int .i64 a) (.int .i64 b) (.int .i64 c) (.int .i64 p) (.int .i64 59) (.int .i64 60)) := by rw [← hw5]; exact S4.out.put5 _
  have F5 : Hid (Free6 w5 w1.heap.size) := by rw [← hw5]; exact F4.out.set _ _
  have N5 := Lib.hid (N4.out.far hne 5 (.int .i64 60))
  rw [hw5] at N5
  obtain ⟨c40, c41, c42, c43, c44, c45, -⟩ := S5.out
  obtain ⟨-, -, -, f43, f44, f45⟩ := F5.out
  obtain ⟨w6, hw6⟩ : ∃ w', w5.setCell ⟨w1.heap.size, 5, none⟩ (.int .i64 0) = w' := ⟨_, rfl⟩
  have A6 : Hid (Below w.heap.size w w6) := by rw [← hw6]; exact A5.out.setCell hB _
  have S6 : Hid (Six w6 w1.heap.size (.int .i64 a) (.int .i64 b) (.int .i64 c) (.int .i64 p) (.int .i64 59) (.int .i64 0)) := by rw [← hw6]; exact S5.out.put5 _
  have F6 : Hid (Free6 w6 w1.heap.size) := by rw [← hw6]; exact F5.out.set _ _
  have N6 := Lib.hid (N5.out.far hne 5 (.int .i64 0))
  rw [hw6] at N6
  obtain ⟨c50, c51, c52, c53, c54, c55, -⟩ := S6.out
  obtain ⟨-, -, -, f53, f54, f55⟩ := F6.out
  obtain ⟨w7, hw7⟩ : ∃ w', w6.setCell ⟨w1.heap.size, 4, none⟩ (.int .i64 60) = w' := ⟨_, rfl⟩
  have A7 : Hid (Below w.heap.size w w7) := by rw [← hw7]; exact A6.out.setCell hB _
  have S7 : Hid (Six w7 w1.heap.size (.int .i64 a) (.int .i64 b) (.int .i64 c) (.int .i64 p) (.int .i64 60) (.int .i64 0)) := by rw [← hw7]; exact S6.out.put4 _
  have F7 : Hid (Free6 w7 w1.heap.size) := by rw [← hw7]; exact F6.out.set _ _
  have N7 := Lib.hid (N6.out.far hne 4 (.int .i64 60))
  rw [hw7] at N7
  obtain ⟨c60, c61, c62, c63, c64, c65, -⟩ := S7.out
  obtain ⟨-, -, -, f63, f64, f65⟩ := F7.out
  obtain ⟨w8, hw8⟩ : ∃ w', w7.setCell ⟨w1.heap.size, 4, none⟩ (.int .i64 0) = w' := ⟨_, rfl⟩
  have A8 : Hid (Below w.heap.size w w8) := by rw [← hw8]; exact A7.out.setCell hB _
  have S8 : Hid (Six w8 w1.heap.size (.int .i64 a) (.int .i64 b) (.int .i64 c) (.int .i64 p) (.int .i64 0) (.int .i64 0)) := by rw [← hw8]; exact S7.out.put4 _
  have F8 : Hid (Free6 w8 w1.heap.size) := by rw [← hw8]; exact F7.out.set _ _
  have N8 := Lib.hid (N7.out.far hne 4 (.int .i64 0))
  rw [hw8] at N8
  obtain ⟨c70, c71, c72, c73, c74, c75, -⟩ := S8.out
  obtain ⟨-, -, -, f73, f74, f75⟩ := F8.out
  obtain ⟨w9, hw9⟩ : ∃ w', w8.setCell ⟨w1.heap.size, 3, none⟩ (.int .i64 (p + 1)) = w' := ⟨_, rfl⟩
  have A9 : Hid (Below w.heap.size w w9) := by rw [← hw9]; exact A8.out.setCell hB _
  have S9 : Hid (Six w9 w1.heap.size (.int .i64 a) (.int .i64 b) (.int .i64 c) (.int .i64 (p + 1)) (.int .i64 0) (.int .i64 0)) := by rw [← hw9]; exact S8.out.put3 _
  have F9 : Hid (Free6 w9 w1.heap.size) := by rw [← hw9]; exact F8.out.set _ _
  have N9 := Lib.hid (N8.out.far hne 3 (.int .i64 (p + 1)))
  rw [hw9] at N9
  obtain ⟨c80, c81, c82, c83, c84, c85, -⟩ := S9.out
  obtain ⟨-, -, -, f83, f84, f85⟩ := F9.out
  obtain ⟨d0, d1, d2, d3, d4, d5, dz⟩ := N9.out
  go_wp2
  go_ret
  exact ⟨rfl, A9.out⟩
set_option maxRecDepth 100000 in
set_option maxHeartbeats 2000000 in
theorem day (n a b c p q r : Int) (v : vld a b c = true) (t : vldT p q r = true) (e : 86400 * dayN a b c + secT p q r = n) (k : r = 59) (k2 : q = 59) (k3 : p = 23) (n1 : n < 253402300799) (w : World) (hl : Listed w) :
    Calls Tryd.prog 6 #[.int .i64 n] w fun e w' => e = .returned (.bool true) ∧ Below w.heap.size w w' := by
  obtain ⟨⟨t0, t1⟩, ⟨t2, t3⟩, t4, t5⟩ := vldT_iff.1 t
  have dr := day_range v
  have sb := secT_bd t
  have n0 : -62135596800 ≤ n := by omega
  have HM := Lib.hid (fun w => kmom_yes n a b c p q r v t e w)
  have dn : dayN a b c + 1 < 2932897 := by unfold secT at *; omega
  obtain ⟨a2, b2, c2, v2, e2⟩ := date_of (n := dayN a b c + 1) (by omega) dn
  have HN := Lib.hid (fun w => kmom_yes (n + 1) a2 b2 c2 0 0 0 v2 (by decide) (by rw [e2]; unfold secT at *; omega) w)
  have HD := Lib.hid (fun w ht => cday_yes a b c v w ht)
  have HE := Lib.hid (fun w => cdate_yes (dayN a b c + 1) a2 b2 c2 v2 e2 w)
  have dr0 := dr.1
  clear e2 v2
  subst k k2 k3
  generalize dayN a b c = DD at *
  have x1 : decide (n < -62135596800) = false := decide_eq_false (by omega)
  have x2 : decide (253402300799 ≤ n) = false := decide_eq_false (by omega)
  replace hl := Lib.hid hl
  clear v t e sb
  go_enter Tryd.func6, Tryd.ntmps6
  go_wp2_with fail
  refine (awake_all _ hl.out).mono ?_
  rintro e w0 ⟨rfl, A0⟩
  replace A0 := Lib.hid A0
  go_wp2_with fail
  refine (HM.out _).mono ?_
  rintro e w1 ⟨rfl, hb⟩
  have A1 := Lib.hid (down A0.out hb)
  clear hb A0
  have A2 := Lib.hid (grow A1.out (.cells #[.int .i64 a, .int .i64 b, .int .i64 c, .int .i64 23, .int .i64 59, .int .i64 59] 44))
  have S2 := Lib.hid (Six.new (here (w1.alloc (.cells #[.int .i64 a, .int .i64 b, .int .i64 c, .int .i64 23, .int .i64 59, .int .i64 59] 44))))
  have F2 := Lib.hid (Free6.new (here (w1.alloc (.cells #[.int .i64 a, .int .i64 b, .int .i64 c, .int .i64 23, .int .i64 59, .int .i64 59] 44))))
  obtain ⟨w2, hw2⟩ : ∃ w2, w1.alloc (.cells #[.int .i64 a, .int .i64 b, .int .i64 c, .int .i64 23, .int .i64 59, .int .i64 59] 44) = w2 := ⟨_, rfl⟩
  rw [hw2] at A2 S2 F2
  have hB : w.heap.size ≤ w1.heap.size := A1.out.size
  clear A1
  go_wp2_with fail
  clear hw2
  refine (HN.out _).mono ?_
  rintro e w3 ⟨rfl, hb⟩
  have A3 := Lib.hid (down A2.out hb)
  have S3 := Lib.hid (S2.out.keep hb)
  have F3 := Lib.hid (F2.out.keep S2.out.lt hb)
  clear hb A2 S2 F2
  have hne : ¬ w1.heap.size = w3.heap.size := by have := S3.out.lt; omega
  have hne2 : ¬ w3.heap.size = w1.heap.size := fun x => hne x.symm
  have A4 := Lib.hid (grow A3.out (.cells #[.int .i64 a2, .int .i64 b2, .int .i64 c2, .int .i64 0, .int .i64 0, .int .i64 0] 44))
  have S4 := Lib.hid (S3.out.old (.cells #[.int .i64 a2, .int .i64 b2, .int .i64 c2, .int .i64 0, .int .i64 0, .int .i64 0] 44))
  have F4 := Lib.hid (F3.out.keep S3.out.lt (grow (here _) (.cells #[.int .i64 a2, .int .i64 b2, .int .i64 c2, .int .i64 0, .int .i64 0, .int .i64 0] 44)))
  have N4 := Lib.hid (Six.new (here (w3.alloc (.cells #[.int .i64 a2, .int .i64 b2, .int .i64 c2, .int .i64 0, .int .i64 0, .int .i64 0] 44))))
  obtain ⟨w4, hw4⟩ : ∃ w4, w3.alloc (.cells #[.int .i64 a2, .int .i64 b2, .int .i64 c2, .int .i64 0, .int .i64 0, .int .i64 0] 44) = w4 := ⟨_, rfl⟩
  rw [hw4] at A4 S4 F4 N4
  clear A3 S3 F3
  have G4 := Lib.hid (Free6.new (here (w3.alloc (.cells #[.int .i64 a2, .int .i64 b2, .int .i64 c2, .int .i64 0, .int .i64 0, .int .i64 0] 44))))
  rw [hw4] at G4
  obtain ⟨c0, c1, c2, c3, c4, c5, cz⟩ := S4.out
  obtain ⟨f0, f1, f2, f3, f4, f5⟩ := F4.out
  obtain ⟨nd0, nd1, nd2, nd3, nd4, nd5, -⟩ := N4.out
  obtain ⟨ng0, ng1, ng2, ng3, ng4, ng5⟩ := G4.out
  have nz3 : w4.setCell ⟨w3.heap.size, 3, none⟩ (.int .i64 0) = w4 := by rw [← hw4, World.setCell_alloc_new]; rfl
  have nz4 : w4.setCell ⟨w3.heap.size, 4, none⟩ (.int .i64 0) = w4 := by rw [← hw4, World.setCell_alloc_new]; rfl
  have nz5 : w4.setCell ⟨w3.heap.size, 5, none⟩ (.int .i64 0) = w4 := by rw [← hw4, World.setCell_alloc_new]; rfl
  obtain ⟨w5, hw5⟩ : ∃ w', w4.setCell ⟨w1.heap.size, 5, none⟩ (.int .i64 60) = w' := ⟨_, rfl⟩
  have A5 : Hid (Below w.heap.size w w5) := by rw [← hw5]; exact A4.out.setCell hB _
  have S5 : Hid (Six w5 w1.heap.size (.int .i64 a) (.int .i64 b) (.int .i64 c) (.int .i64 23) (.int .i64 59) (.int .i64 60)) := by rw [← hw5]; exact S4.out.put5 _
  have F5 : Hid (Free6 w5 w1.heap.size) := by rw [← hw5]; exact F4.out.set _ _
  have N5 := Lib.hid (N4.out.far hne 5 (.int .i64 60))
  rw [hw5] at N5
  obtain ⟨c40, c41, c42, c43, c44, c45, -⟩ := S5.out
  obtain ⟨-, -, -, f43, f44, f45⟩ := F5.out
  obtain ⟨w6, hw6⟩ : ∃ w', w5.setCell ⟨w1.heap.size, 5, none⟩ (.int .i64 0) = w' := ⟨_, rfl⟩
  have A6 : Hid (Below w.heap.size w w6) := by rw [← hw6]; exact A5.out.setCell hB _
  have S6 : Hid (Six w6 w1.heap.size (.int .i64 a) (.int .i64 b) (.int .i64 c) (.int .i64 23) (.int .i64 59) (.int .i64 0)) := by rw [← hw6]; exact S5.out.put5 _
  have F6 : Hid (Free6 w6 w1.heap.size) := by rw [← hw6]; exact F5.out.set _ _
  have N6 := Lib.hid (N5.out.far hne 5 (.int .i64 0))
  rw [hw6] at N6
  obtain ⟨c50, c51, c52, c53, c54, c55, -⟩ := S6.out
  obtain ⟨-, -, -, f53, f54, f55⟩ := F6.out
  obtain ⟨w7, hw7⟩ : ∃ w', w6.setCell ⟨w1.heap.size, 4, none⟩ (.int .i64 60) = w' := ⟨_, rfl⟩
  have A7 : Hid (Below w.heap.size w w7) := by rw [← hw7]; exact A6.out.setCell hB _
  have S7 : Hid (Six w7 w1.heap.size (.int .i64 a) (.int .i64 b) (.int .i64 c) (.int .i64 23) (.int .i64 60) (.int .i64 0)) := by rw [← hw7]; exact S6.out.put4 _
  have F7 : Hid (Free6 w7 w1.heap.size) := by rw [← hw7]; exact F6.out.set _ _
  have N7 := Lib.hid (N6.out.far hne 4 (.int .i64 60))
  rw [hw7] at N7
  obtain ⟨c60, c61, c62, c63, c64, c65, -⟩ := S7.out
  obtain ⟨-, -, -, f63, f64, f65⟩ := F7.out
  obtain ⟨w8, hw8⟩ : ∃ w', w7.setCell ⟨w1.heap.size, 4, none⟩ (.int .i64 0) = w' := ⟨_, rfl⟩
  have A8 : Hid (Below w.heap.size w w8) := by rw [← hw8]; exact A7.out.setCell hB _
  have S8 : Hid (Six w8 w1.heap.size (.int .i64 a) (.int .i64 b) (.int .i64 c) (.int .i64 23) (.int .i64 0) (.int .i64 0)) := by rw [← hw8]; exact S7.out.put4 _
  have F8 : Hid (Free6 w8 w1.heap.size) := by rw [← hw8]; exact F7.out.set _ _
  have N8 := Lib.hid (N7.out.far hne 4 (.int .i64 0))
  rw [hw8] at N8
  obtain ⟨c70, c71, c72, c73, c74, c75, -⟩ := S8.out
  obtain ⟨-, -, -, f73, f74, f75⟩ := F8.out
  obtain ⟨w9, hw9⟩ : ∃ w', w8.setCell ⟨w1.heap.size, 3, none⟩ (.int .i64 24) = w' := ⟨_, rfl⟩
  have A9 : Hid (Below w.heap.size w w9) := by rw [← hw9]; exact A8.out.setCell hB _
  have S9 : Hid (Six w9 w1.heap.size (.int .i64 a) (.int .i64 b) (.int .i64 c) (.int .i64 24) (.int .i64 0) (.int .i64 0)) := by rw [← hw9]; exact S8.out.put3 _
  have F9 : Hid (Free6 w9 w1.heap.size) := by rw [← hw9]; exact F8.out.set _ _
  have N9 := Lib.hid (N8.out.far hne 3 (.int .i64 24))
  rw [hw9] at N9
  obtain ⟨c80, c81, c82, c83, c84, c85, -⟩ := S9.out
  obtain ⟨-, -, -, f83, f84, f85⟩ := F9.out
  obtain ⟨w10, hw10⟩ : ∃ w', w9.setCell ⟨w1.heap.size, 3, none⟩ (.int .i64 0) = w' := ⟨_, rfl⟩
  have A10 : Hid (Below w.heap.size w w10) := by rw [← hw10]; exact A9.out.setCell hB _
  have S10 : Hid (Six w10 w1.heap.size (.int .i64 a) (.int .i64 b) (.int .i64 c) (.int .i64 0) (.int .i64 0) (.int .i64 0)) := by rw [← hw10]; exact S9.out.put3 _
  have F10 : Hid (Free6 w10 w1.heap.size) := by rw [← hw10]; exact F9.out.set _ _
  have N10 := Lib.hid (N9.out.far hne 3 (.int .i64 0))
  rw [hw10] at N10
  obtain ⟨c90, c91, c92, c93, c94, c95, -⟩ := S10.out
  obtain ⟨-, -, -, f93, f94, f95⟩ := F10.out
  go_wp2_with fail
  refine (HD.out _ (lens_below hl.out.lens A10.out)).mono ?_
  rintro e w11 ⟨rfl, hb⟩
  have B1 := Lib.hid (down A10.out hb)
  have S1 := Lib.hid (S10.out.keep hb)
  have N1 := Lib.hid (N10.out.keep hb)
  have F1 := Lib.hid (F10.out.keep S10.out.lt hb)
  clear hb nd0 nd1 nd2 nd3 nd4 nd5 ng0 ng1 ng2 ng3 ng4 ng5 nz3 nz4 nz5 G4 c0 c1 c2 c3 c4 c5 cz f0 f1 f2 f3 f4 f5 c40 c41 c42 c43 c44 c45 f43 f44 f45 c50 c51 c52 c53 c54 c55 f53 f54 f55 c60 c61 c62 c63 c64 c65 f63 f64 f65 c70 c71 c72 c73 c74 c75 f73 f74 f75 c80 c81 c82 c83 c84 c85 f83 f84 f85 c90 c91 c92 c93 c94 c95 f93 f94 f95 hw4 hw5 hw6 hw7 hw8 hw9 hw10 A4 A5 A6 A7 A8 A9 A10 S4 S5 S6 S7 S8 S9 S10 N4 N5 N6 N7 N8 N9 N10 F4 F5 F6 F7 F8 F9 F10
  go_wp2_with fail
  refine (HE.out _).mono ?_
  rintro e w12 ⟨rfl, hb⟩
  have A6 := Lib.hid (down B1.out hb)
  have S6 := Lib.hid (S1.out.keep hb)
  have N6 := Lib.hid (N1.out.keep hb)
  have F6 := Lib.hid (F1.out.keep S1.out.lt hb)
  clear hb B1 S1 N1 F1
  have hne3 : ¬ w1.heap.size = w12.heap.size := by have := S6.out.lt; omega
  have hne4 : ¬ w12.heap.size = w1.heap.size := fun x => hne3 x.symm
  have hne5 : ¬ w3.heap.size = w12.heap.size := by have := N6.out.lt; omega
  have A7 := Lib.hid (grow A6.out (.cells #[.int .i64 a2, .int .i64 b2, .int .i64 c2] 42))
  have S7 := Lib.hid (S6.out.old (.cells #[.int .i64 a2, .int .i64 b2, .int .i64 c2] 42))
  have N7 := Lib.hid (N6.out.old (.cells #[.int .i64 a2, .int .i64 b2, .int .i64 c2] 42))
  have F7 := Lib.hid (F6.out.keep S6.out.lt (grow (here _) (.cells #[.int .i64 a2, .int .i64 b2, .int .i64 c2] 42)))
  have B7 := Lib.hid (Box.new (here (w12.alloc (.cells #[.int .i64 a2, .int .i64 b2, .int .i64 c2] 42))))
  obtain ⟨w13, hw13⟩ : ∃ w13, w12.alloc (.cells #[.int .i64 a2, .int .i64 b2, .int .i64 c2] 42) = w13 := ⟨_, rfl⟩
  rw [hw13] at A7 S7 N7 F7 B7
  obtain ⟨c0, c1, c2', c3, c4, c5, cz⟩ := S7.out
  obtain ⟨d0, d1, d2, d3, d4, d5, dz⟩ := N7.out
  obtain ⟨f0, f1, f2, f3, f4, f5⟩ := F7.out
  obtain ⟨e0, e1, e2, ez⟩ := B7.out
  go_wp2
  go_ret
  exact ⟨rfl, ((A7.out.setCell hB _).setCell hB _).setCell hB _⟩
theorem walk (n : Int) (hn : (Lit.int .i64 n).wf = true) (w : World) (hl : Listed w) :
    Calls Tryd.prog 6 #[.int .i64 n] w fun e w' => e = .returned (.bool true) ∧ Below w.heap.size w w' := by
  by_cases v : (decide (n < -62135596800) || decide (253402300799 ≤ n)) = true
  · exact out n (i64_wf hn) v w hl
  · simp only [Bool.or_eq_true, decide_eq_true_eq] at v
    obtain ⟨a, b, c, p, q, r, v1, t, e⟩ := ins_moment (n := n) (insB_iff.2 (by omega))
    obtain ⟨⟨t0, t1⟩, ⟨t2, t3⟩, t4, t5⟩ := vldT_iff.1 t
    by_cases k : r < 59
    · exact same n a b c p q r v1 t e k (by omega) w hl
    · by_cases k2 : q < 59
      · exact minute n a b c p q r v1 t e (by omega) k2 (by omega) w hl
      · by_cases k3 : p < 23
        · exact hour n a b c p q r v1 t e (by omega) (by omega) k3 (by omega) w hl
        · exact day n a b c p q r v1 t e (by omega) (by omega) (by omega) (by omega) w hl
end ClockSteps
end Go.Proofs.YtehbegjocdahmaaDoor
