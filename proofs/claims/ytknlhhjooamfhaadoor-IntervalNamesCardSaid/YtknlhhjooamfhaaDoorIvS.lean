/- Contracts of civiltimeref10: Meet, Hull, Move. -/
import Derived.Test.YtknlhhjooamfhaaDoorIvR
namespace Go.Proofs.YtknlhhjooamfhaaDoor
open Go.RowKit
set_option linter.unusedVariables false

theorem Tuo.put0 {w : World} {b : Nat} {x y : Value} (h : Tuo w b x y) (u : Value) : Tuo (w.setCell ⟨b, 0, none⟩ u) b u y :=
  ⟨⟨World.cell?_setCell_same w _ u h.t.c0, by rw [World.cell?_setCell_other (h := by simp)]; exact h.t.c1, by rw [size_set]; exact h.t.lt⟩, by rw [World.frozen?_setCell]; exact h.f0, by rw [World.frozen?_setCell]; exact h.f1⟩
theorem Tuo.put1 {w : World} {b : Nat} {x y : Value} (h : Tuo w b x y) (v : Value) : Tuo (w.setCell ⟨b, 1, none⟩ v) b x v :=
  ⟨⟨by rw [World.cell?_setCell_other (h := by simp)]; exact h.t.c0, World.cell?_setCell_same w _ v h.t.c1, by rw [size_set]; exact h.t.lt⟩, by rw [World.frozen?_setCell]; exact h.f0, by rw [World.frozen?_setCell]; exact h.f1⟩
set_option maxRecDepth 100000 in
set_option maxHeartbeats 1000000 in
theorem rmeet (a b c d : Int) (ha : I64 a) (hb : I64 b) (hc : I64 c) (hd : I64 d) (w : World) :
    Calls Tryd.prog 19 #[.agg #[.int .i64 a, .int .i64 b], .agg #[.int .i64 c, .int .i64 d]] w fun e w' => e = .returned (.tuple #[.agg #[.int .i64 (mtF a b c d), .int .i64 (mtT a b c d)], .bool (mtB a b c d)]) ∧ Below w.heap.size w w' := by
  have HVA := Lib.hid (fun w => rvalid a b ha hb w)
  have HVB := Lib.hid (fun w => rvalid c d hc hd w)
  obtain ⟨a0, a1⟩ := ha
  obtain ⟨b0, b1⟩ := hb
  obtain ⟨c0, c1⟩ := hc
  obtain ⟨d0, d1⟩ := hd
  obtain ⟨M, hM⟩ : ∃ M, (if a < c then c else a) = M := ⟨_, rfl⟩
  obtain ⟨N, hN⟩ : ∃ N, (if d < b then d else b) = N := ⟨_, rfl⟩
  have HM : Hid (loV a c = M) := hM
  have HN : Hid (hiV b d = N) := hN
  have M0 : -9223372036854775808 ≤ M ∧ M ≤ 9223372036854775807 := by rw [← hM]; split <;> omega
  have N0 : -9223372036854775808 ≤ N ∧ N ≤ 9223372036854775807 := by rw [← hN]; split <;> omega
  cases va : ivB a b
  · rw [va] at HVA
    have e0 : mtB a b c d = false := by unfold mtB; rw [va]; rfl
    rw [show mtF a b c d = 0 by unfold mtF; rw [e0]; rfl, show mtT a b c d = 0 by unfold mtT; rw [e0]; rfl, e0]
    clear e0
    clear HVB HM HN va
    obtain ⟨w1, hw1⟩ : ∃ w1 : World, w.alloc (.cells #[.int .i64 (a), .int .i64 (b)] 23) = w1 := ⟨_, rfl⟩
    have s1 : w1.heap.size = w.heap.size + 1 := by rw [← hw1, size_two]
    obtain ⟨w2, hw2⟩ : ∃ w2 : World, w1.alloc (.cells #[.int .i64 (c), .int .i64 (d)] 23) = w2 := ⟨_, rfl⟩
    have s2 : w2.heap.size = w.heap.size + 2 := by rw [← hw2, size_two, s1]
    obtain ⟨w3, hw3⟩ : ∃ w3 : World, w2.alloc (.cells #[.int .i64 (0), .int .i64 (0)] 23) = w3 := ⟨_, rfl⟩
    have s3 : w3.heap.size = w.heap.size + 3 := by rw [← hw3, size_two, s2]
    obtain ⟨w4, hw4⟩ : ∃ w4 : World, w3.alloc (.cells #[.int .i64 (M), .int .i64 (N)] 23) = w4 := ⟨_, rfl⟩
    have s4 : w4.heap.size = w.heap.size + 4 := by rw [← hw4, size_two, s3]
    have X1 : Two w1 (w.heap.size) (.int .i64 (a)) (.int .i64 (b)) := by rw [← hw1]; exact Two.new (here _)
    have X2 : Two w2 (w.heap.size) (.int .i64 (a)) (.int .i64 (b)) := by rw [← hw2]; exact X1.keep (grow (here _) _)
    have X3 : Two w3 (w.heap.size) (.int .i64 (a)) (.int .i64 (b)) := by rw [← hw3]; exact X2.keep (grow (here _) _)
    have X4 : Two w4 (w.heap.size) (.int .i64 (a)) (.int .i64 (b)) := by rw [← hw4]; exact X3.keep (grow (here _) _)
    have Y2 : Two w2 (w.heap.size + 1) (.int .i64 (c)) (.int .i64 (d)) := by rw [← s1, ← hw2]; exact Two.new (here _)
    have Y3 : Two w3 (w.heap.size + 1) (.int .i64 (c)) (.int .i64 (d)) := by rw [← hw3]; exact Y2.keep (grow (here _) _)
    have Y4 : Two w4 (w.heap.size + 1) (.int .i64 (c)) (.int .i64 (d)) := by rw [← hw4]; exact Y3.keep (grow (here _) _)
    have R3 : Tuo w3 (w.heap.size + 2) (.int .i64 (0)) (.int .i64 (0)) := by rw [← s2, ← hw3]; exact Tuo.new _ _ _ _
    have R4 : Tuo w4 (w.heap.size + 2) (.int .i64 (0)) (.int .i64 (0)) := by rw [← hw4]; exact R3.keep (grow (here _) _)
    have S4 : Two w4 (w.heap.size + 3) (.int .i64 (M)) (.int .i64 (N)) := by rw [← s3, ← hw4]; exact Two.new (here _)
    have A4 : Below w.heap.size w w4 := by rw [← hw4, ← hw3, ← hw2, ← hw1]; exact (grow (grow (grow (grow (here w) _) _) _) _)
    replace X4 := Lib.hid X4
    replace Y4 := Lib.hid Y4
    replace R4 := Lib.hid R4
    replace S4 := Lib.hid S4
    replace A4 := Lib.hid A4
    obtain ⟨x3_0, x3_1, x3_l⟩ := X3
    obtain ⟨y3_0, y3_1, y3_l⟩ := Y3
    clear X1 X2
    clear Y2
    clear R3
    obtain ⟨x0, x1, xl⟩ := X4.out
    obtain ⟨y0, y1, yl⟩ := Y4.out
    obtain ⟨⟨r0, r1, rl⟩, rf0, rf1⟩ := R4.out
    obtain ⟨s0, s1, sl⟩ := S4.out
    go_enter Tryd.func19, Tryd.ntmps19
    go_wp2_with fail
    refine (HVA.out _).mono ?_
    rintro e w5 ⟨rfl, hb⟩
    clear x0 x1 xl y0 y1 yl r0 r1 rl rf0 rf1 s0 s1 sl
    have A5 := Lib.hid (down A4.out hb)
    have X5 := Lib.hid (X4.out.keep hb)
    have Y5 := Lib.hid (Y4.out.keep hb)
    have R5 := Lib.hid (R4.out.keep hb)
    have S5 := Lib.hid (S4.out.keep hb)
    clear hb A4 X4 Y4 R4 S4
    obtain ⟨x0, x1, xl⟩ := X5.out
    obtain ⟨y0, y1, yl⟩ := Y5.out
    obtain ⟨⟨r0, r1, rl⟩, rf0, rf1⟩ := R5.out
    obtain ⟨s0, s1, sl⟩ := S5.out
    obtain ⟨w6, hw6⟩ : ∃ w6 : World, w5.setCell ⟨w.heap.size + 2, 0, none⟩ (.int .i64 (0)) = w6 := ⟨_, rfl⟩
    obtain ⟨w7, hw7⟩ : ∃ w7 : World, w6.setCell ⟨w.heap.size + 2, 1, none⟩ (.int .i64 (0)) = w7 := ⟨_, rfl⟩
    have P1 : Tuo w6 (w.heap.size + 2) (.int .i64 (0)) (.int .i64 (0)) := by rw [← hw6]; exact R5.out.put0 _
    have P2 : Tuo w7 (w.heap.size + 2) (.int .i64 (0)) (.int .i64 (0)) := by rw [← hw7]; exact P1.put1 _
    obtain ⟨⟨p0, p1, pl⟩, pf0, pf1⟩ := P1
    obtain ⟨⟨q0, q1, ql⟩, qf0, qf1⟩ := P2
    have A7 : Hid (Below w.heap.size w w7) := by rw [← hw7, ← hw6]; exact (A5.out.setCell (by show _ ≤ w.heap.size + 2; omega) _).setCell (by show _ ≤ w.heap.size + 2; omega) _
    go_wp2
    exact bodyPost_ret (v := .tuple #[.agg #[.int .i64 (0), .int .i64 (0)], .bool false]) (by simp [results, Tryd.results19, go_sem, q0, q1]) rfl ⟨rfl, A7.out⟩
  · rw [va] at HVA
    cases vb : ivB c d
    · rw [vb] at HVB
      have e0 : mtB a b c d = false := by unfold mtB; rw [va, vb]; rfl
      rw [show mtF a b c d = 0 by unfold mtF; rw [e0]; rfl, show mtT a b c d = 0 by unfold mtT; rw [e0]; rfl, e0]
      clear e0
      clear HM HN va vb
      obtain ⟨w1, hw1⟩ : ∃ w1 : World, w.alloc (.cells #[.int .i64 (a), .int .i64 (b)] 23) = w1 := ⟨_, rfl⟩
      have s1 : w1.heap.size = w.heap.size + 1 := by rw [← hw1, size_two]
      obtain ⟨w2, hw2⟩ : ∃ w2 : World, w1.alloc (.cells #[.int .i64 (c), .int .i64 (d)] 23) = w2 := ⟨_, rfl⟩
      have s2 : w2.heap.size = w.heap.size + 2 := by rw [← hw2, size_two, s1]
      obtain ⟨w3, hw3⟩ : ∃ w3 : World, w2.alloc (.cells #[.int .i64 (0), .int .i64 (0)] 23) = w3 := ⟨_, rfl⟩
      have s3 : w3.heap.size = w.heap.size + 3 := by rw [← hw3, size_two, s2]
      obtain ⟨w4, hw4⟩ : ∃ w4 : World, w3.alloc (.cells #[.int .i64 (M), .int .i64 (N)] 23) = w4 := ⟨_, rfl⟩
      have s4 : w4.heap.size = w.heap.size + 4 := by rw [← hw4, size_two, s3]
      have X1 : Two w1 (w.heap.size) (.int .i64 (a)) (.int .i64 (b)) := by rw [← hw1]; exact Two.new (here _)
      have X2 : Two w2 (w.heap.size) (.int .i64 (a)) (.int .i64 (b)) := by rw [← hw2]; exact X1.keep (grow (here _) _)
      have X3 : Two w3 (w.heap.size) (.int .i64 (a)) (.int .i64 (b)) := by rw [← hw3]; exact X2.keep (grow (here _) _)
      have X4 : Two w4 (w.heap.size) (.int .i64 (a)) (.int .i64 (b)) := by rw [← hw4]; exact X3.keep (grow (here _) _)
      have Y2 : Two w2 (w.heap.size + 1) (.int .i64 (c)) (.int .i64 (d)) := by rw [← s1, ← hw2]; exact Two.new (here _)
      have Y3 : Two w3 (w.heap.size + 1) (.int .i64 (c)) (.int .i64 (d)) := by rw [← hw3]; exact Y2.keep (grow (here _) _)
      have Y4 : Two w4 (w.heap.size + 1) (.int .i64 (c)) (.int .i64 (d)) := by rw [← hw4]; exact Y3.keep (grow (here _) _)
      have R3 : Tuo w3 (w.heap.size + 2) (.int .i64 (0)) (.int .i64 (0)) := by rw [← s2, ← hw3]; exact Tuo.new _ _ _ _
      have R4 : Tuo w4 (w.heap.size + 2) (.int .i64 (0)) (.int .i64 (0)) := by rw [← hw4]; exact R3.keep (grow (here _) _)
      have S4 : Two w4 (w.heap.size + 3) (.int .i64 (M)) (.int .i64 (N)) := by rw [← s3, ← hw4]; exact Two.new (here _)
      have A4 : Below w.heap.size w w4 := by rw [← hw4, ← hw3, ← hw2, ← hw1]; exact (grow (grow (grow (grow (here w) _) _) _) _)
      replace X4 := Lib.hid X4
      replace Y4 := Lib.hid Y4
      replace R4 := Lib.hid R4
      replace S4 := Lib.hid S4
      replace A4 := Lib.hid A4
      obtain ⟨x3_0, x3_1, x3_l⟩ := X3
      obtain ⟨y3_0, y3_1, y3_l⟩ := Y3
      clear X1 X2
      clear Y2
      clear R3
      obtain ⟨x0, x1, xl⟩ := X4.out
      obtain ⟨y0, y1, yl⟩ := Y4.out
      obtain ⟨⟨r0, r1, rl⟩, rf0, rf1⟩ := R4.out
      obtain ⟨s0, s1, sl⟩ := S4.out
      go_enter Tryd.func19, Tryd.ntmps19
      go_wp2_with fail
      refine (HVA.out _).mono ?_
      rintro e w5 ⟨rfl, hb⟩
      clear x0 x1 xl y0 y1 yl r0 r1 rl rf0 rf1 s0 s1 sl
      have A5 := Lib.hid (down A4.out hb)
      have X5 := Lib.hid (X4.out.keep hb)
      have Y5 := Lib.hid (Y4.out.keep hb)
      have R5 := Lib.hid (R4.out.keep hb)
      have S5 := Lib.hid (S4.out.keep hb)
      clear hb A4 X4 Y4 R4 S4
      obtain ⟨x0, x1, xl⟩ := X5.out
      obtain ⟨y0, y1, yl⟩ := Y5.out
      obtain ⟨⟨r0, r1, rl⟩, rf0, rf1⟩ := R5.out
      obtain ⟨s0, s1, sl⟩ := S5.out
      go_wp2_with fail
      refine (HVB.out _).mono ?_
      rintro e w6 ⟨rfl, hb⟩
      clear x0 x1 xl y0 y1 yl r0 r1 rl rf0 rf1 s0 s1 sl
      have A6 := Lib.hid (down A5.out hb)
      have X6 := Lib.hid (X5.out.keep hb)
      have Y6 := Lib.hid (Y5.out.keep hb)
      have R6 := Lib.hid (R5.out.keep hb)
      have S6 := Lib.hid (S5.out.keep hb)
      clear hb A5 X5 Y5 R5 S5
      obtain ⟨x0, x1, xl⟩ := X6.out
      obtain ⟨y0, y1, yl⟩ := Y6.out
      obtain ⟨⟨r0, r1, rl⟩, rf0, rf1⟩ := R6.out
      obtain ⟨s0, s1, sl⟩ := S6.out
      obtain ⟨w7, hw7⟩ : ∃ w7 : World, w6.setCell ⟨w.heap.size + 2, 0, none⟩ (.int .i64 (0)) = w7 := ⟨_, rfl⟩
      obtain ⟨w8, hw8⟩ : ∃ w8 : World, w7.setCell ⟨w.heap.size + 2, 1, none⟩ (.int .i64 (0)) = w8 := ⟨_, rfl⟩
      have P1 : Tuo w7 (w.heap.size + 2) (.int .i64 (0)) (.int .i64 (0)) := by rw [← hw7]; exact R6.out.put0 _
      have P2 : Tuo w8 (w.heap.size + 2) (.int .i64 (0)) (.int .i64 (0)) := by rw [← hw8]; exact P1.put1 _
      obtain ⟨⟨p0, p1, pl⟩, pf0, pf1⟩ := P1
      obtain ⟨⟨q0, q1, ql⟩, qf0, qf1⟩ := P2
      have A8 : Hid (Below w.heap.size w w8) := by rw [← hw8, ← hw7]; exact (A6.out.setCell (by show _ ≤ w.heap.size + 2; omega) _).setCell (by show _ ≤ w.heap.size + 2; omega) _
      go_wp2
      exact bodyPost_ret (v := .tuple #[.agg #[.int .i64 (0), .int .i64 (0)], .bool false]) (by simp [results, Tryd.results19, go_sem, q0, q1]) rfl ⟨rfl, A8.out⟩
    · rw [vb] at HVB
      by_cases z : M < N
      · have kz : decide (N ≤ M) = false := decide_eq_false (by omega)
        have e0 : mtB a b c d = true := by unfold mtB; rw [va, vb, HM.out, HN.out, decide_eq_true z]; rfl
        rw [show mtF a b c d = M by unfold mtF; rw [e0]; exact HM.out, show mtT a b c d = N by unfold mtT; rw [e0]; exact HN.out, e0]
        clear HM HN va vb e0 z
        obtain ⟨w1, hw1⟩ : ∃ w1 : World, w.alloc (.cells #[.int .i64 (a), .int .i64 (b)] 23) = w1 := ⟨_, rfl⟩
        have s1 : w1.heap.size = w.heap.size + 1 := by rw [← hw1, size_two]
        obtain ⟨w2, hw2⟩ : ∃ w2 : World, w1.alloc (.cells #[.int .i64 (c), .int .i64 (d)] 23) = w2 := ⟨_, rfl⟩
        have s2 : w2.heap.size = w.heap.size + 2 := by rw [← hw2, size_two, s1]
        obtain ⟨w3, hw3⟩ : ∃ w3 : World, w2.alloc (.cells #[.int .i64 (0), .int .i64 (0)] 23) = w3 := ⟨_, rfl⟩
        have s3 : w3.heap.size = w.heap.size + 3 := by rw [← hw3, size_two, s2]
        obtain ⟨w4, hw4⟩ : ∃ w4 : World, w3.alloc (.cells #[.int .i64 (M), .int .i64 (N)] 23) = w4 := ⟨_, rfl⟩
        have s4 : w4.heap.size = w.heap.size + 4 := by rw [← hw4, size_two, s3]
        have X1 : Two w1 (w.heap.size) (.int .i64 (a)) (.int .i64 (b)) := by rw [← hw1]; exact Two.new (here _)
        have X2 : Two w2 (w.heap.size) (.int .i64 (a)) (.int .i64 (b)) := by rw [← hw2]; exact X1.keep (grow (here _) _)
        have X3 : Two w3 (w.heap.size) (.int .i64 (a)) (.int .i64 (b)) := by rw [← hw3]; exact X2.keep (grow (here _) _)
        have X4 : Two w4 (w.heap.size) (.int .i64 (a)) (.int .i64 (b)) := by rw [← hw4]; exact X3.keep (grow (here _) _)
        have Y2 : Two w2 (w.heap.size + 1) (.int .i64 (c)) (.int .i64 (d)) := by rw [← s1, ← hw2]; exact Two.new (here _)
        have Y3 : Two w3 (w.heap.size + 1) (.int .i64 (c)) (.int .i64 (d)) := by rw [← hw3]; exact Y2.keep (grow (here _) _)
        have Y4 : Two w4 (w.heap.size + 1) (.int .i64 (c)) (.int .i64 (d)) := by rw [← hw4]; exact Y3.keep (grow (here _) _)
        have R3 : Tuo w3 (w.heap.size + 2) (.int .i64 (0)) (.int .i64 (0)) := by rw [← s2, ← hw3]; exact Tuo.new _ _ _ _
        have R4 : Tuo w4 (w.heap.size + 2) (.int .i64 (0)) (.int .i64 (0)) := by rw [← hw4]; exact R3.keep (grow (here _) _)
        have S4 : Two w4 (w.heap.size + 3) (.int .i64 (M)) (.int .i64 (N)) := by rw [← s3, ← hw4]; exact Two.new (here _)
        have A4 : Below w.heap.size w w4 := by rw [← hw4, ← hw3, ← hw2, ← hw1]; exact (grow (grow (grow (grow (here w) _) _) _) _)
        replace X4 := Lib.hid X4
        replace Y4 := Lib.hid Y4
        replace R4 := Lib.hid R4
        replace S4 := Lib.hid S4
        replace A4 := Lib.hid A4
        obtain ⟨x3_0, x3_1, x3_l⟩ := X3
        obtain ⟨y3_0, y3_1, y3_l⟩ := Y3
        clear X1 X2
        clear Y2
        clear R3
        obtain ⟨x0, x1, xl⟩ := X4.out
        obtain ⟨y0, y1, yl⟩ := Y4.out
        obtain ⟨⟨r0, r1, rl⟩, rf0, rf1⟩ := R4.out
        obtain ⟨s0, s1, sl⟩ := S4.out
        go_enter Tryd.func19, Tryd.ntmps19
        go_wp2_with fail
        refine (HVA.out _).mono ?_
        rintro e w5 ⟨rfl, hb⟩
        clear x0 x1 xl y0 y1 yl r0 r1 rl rf0 rf1 s0 s1 sl
        have A5 := Lib.hid (down A4.out hb)
        have X5 := Lib.hid (X4.out.keep hb)
        have Y5 := Lib.hid (Y4.out.keep hb)
        have R5 := Lib.hid (R4.out.keep hb)
        have S5 := Lib.hid (S4.out.keep hb)
        clear hb A4 X4 Y4 R4 S4
        obtain ⟨x0, x1, xl⟩ := X5.out
        obtain ⟨y0, y1, yl⟩ := Y5.out
        obtain ⟨⟨r0, r1, rl⟩, rf0, rf1⟩ := R5.out
        obtain ⟨s0, s1, sl⟩ := S5.out
        go_wp2_with fail
        refine (HVB.out _).mono ?_
        rintro e w6 ⟨rfl, hb⟩
        clear x0 x1 xl y0 y1 yl r0 r1 rl rf0 rf1 s0 s1 sl
        have A6 := Lib.hid (down A5.out hb)
        have X6 := Lib.hid (X5.out.keep hb)
        have Y6 := Lib.hid (Y5.out.keep hb)
        have R6 := Lib.hid (R5.out.keep hb)
        have S6 := Lib.hid (S5.out.keep hb)
        clear hb A5 X5 Y5 R5 S5
        obtain ⟨x0, x1, xl⟩ := X6.out
        obtain ⟨y0, y1, yl⟩ := Y6.out
        obtain ⟨⟨r0, r1, rl⟩, rf0, rf1⟩ := R6.out
        obtain ⟨s0, s1, sl⟩ := S6.out
        obtain ⟨w7, hw7⟩ : ∃ w7 : World, w6.setCell ⟨w.heap.size + 2, 0, none⟩ (.int .i64 (M)) = w7 := ⟨_, rfl⟩
        obtain ⟨w8, hw8⟩ : ∃ w8 : World, w7.setCell ⟨w.heap.size + 2, 1, none⟩ (.int .i64 (N)) = w8 := ⟨_, rfl⟩
        have P1 : Tuo w7 (w.heap.size + 2) (.int .i64 (M)) (.int .i64 (0)) := by rw [← hw7]; exact R6.out.put0 _
        have P2 : Tuo w8 (w.heap.size + 2) (.int .i64 (M)) (.int .i64 (N)) := by rw [← hw8]; exact P1.put1 _
        obtain ⟨⟨p0, p1, pl⟩, pf0, pf1⟩ := P1
        obtain ⟨⟨q0, q1, ql⟩, qf0, qf1⟩ := P2
        have A8 : Hid (Below w.heap.size w w8) := by rw [← hw8, ← hw7]; exact (A6.out.setCell (by show _ ≤ w.heap.size + 2; omega) _).setCell (by show _ ≤ w.heap.size + 2; omega) _
        go_wp2
        exact bodyPost_ret (v := .tuple #[.agg #[.int .i64 (M), .int .i64 (N)], .bool true]) (by simp [results, Tryd.results19, go_sem, q0, q1]) rfl ⟨rfl, A8.out⟩
      · have kz : decide (N ≤ M) = true := decide_eq_true (by omega)
        have e0 : mtB a b c d = false := by unfold mtB; rw [va, vb, HM.out, HN.out, decide_eq_false z]; rfl
        rw [show mtF a b c d = 0 by unfold mtF; rw [e0]; rfl, show mtT a b c d = 0 by unfold mtT; rw [e0]; rfl, e0]
        clear e0
        clear HM HN va vb z
        obtain ⟨w1, hw1⟩ : ∃ w1 : World, w.alloc (.cells #[.int .i64 (a), .int .i64 (b)] 23) = w1 := ⟨_, rfl⟩
        have s1 : w1.heap.size = w.heap.size + 1 := by rw [← hw1, size_two]
        obtain ⟨w2, hw2⟩ : ∃ w2 : World, w1.alloc (.cells #[.int .i64 (c), .int .i64 (d)] 23) = w2 := ⟨_, rfl⟩
        have s2 : w2.heap.size = w.heap.size + 2 := by rw [← hw2, size_two, s1]
        obtain ⟨w3, hw3⟩ : ∃ w3 : World, w2.alloc (.cells #[.int .i64 (0), .int .i64 (0)] 23) = w3 := ⟨_, rfl⟩
        have s3 : w3.heap.size = w.heap.size + 3 := by rw [← hw3, size_two, s2]
        obtain ⟨w4, hw4⟩ : ∃ w4 : World, w3.alloc (.cells #[.int .i64 (M), .int .i64 (N)] 23) = w4 := ⟨_, rfl⟩
        have s4 : w4.heap.size = w.heap.size + 4 := by rw [← hw4, size_two, s3]
        have X1 : Two w1 (w.heap.size) (.int .i64 (a)) (.int .i64 (b)) := by rw [← hw1]; exact Two.new (here _)
        have X2 : Two w2 (w.heap.size) (.int .i64 (a)) (.int .i64 (b)) := by rw [← hw2]; exact X1.keep (grow (here _) _)
        have X3 : Two w3 (w.heap.size) (.int .i64 (a)) (.int .i64 (b)) := by rw [← hw3]; exact X2.keep (grow (here _) _)
        have X4 : Two w4 (w.heap.size) (.int .i64 (a)) (.int .i64 (b)) := by rw [← hw4]; exact X3.keep (grow (here _) _)
        have Y2 : Two w2 (w.heap.size + 1) (.int .i64 (c)) (.int .i64 (d)) := by rw [← s1, ← hw2]; exact Two.new (here _)
        have Y3 : Two w3 (w.heap.size + 1) (.int .i64 (c)) (.int .i64 (d)) := by rw [← hw3]; exact Y2.keep (grow (here _) _)
        have Y4 : Two w4 (w.heap.size + 1) (.int .i64 (c)) (.int .i64 (d)) := by rw [← hw4]; exact Y3.keep (grow (here _) _)
        have R3 : Tuo w3 (w.heap.size + 2) (.int .i64 (0)) (.int .i64 (0)) := by rw [← s2, ← hw3]; exact Tuo.new _ _ _ _
        have R4 : Tuo w4 (w.heap.size + 2) (.int .i64 (0)) (.int .i64 (0)) := by rw [← hw4]; exact R3.keep (grow (here _) _)
        have S4 : Two w4 (w.heap.size + 3) (.int .i64 (M)) (.int .i64 (N)) := by rw [← s3, ← hw4]; exact Two.new (here _)
        have A4 : Below w.heap.size w w4 := by rw [← hw4, ← hw3, ← hw2, ← hw1]; exact (grow (grow (grow (grow (here w) _) _) _) _)
        replace X4 := Lib.hid X4
        replace Y4 := Lib.hid Y4
        replace R4 := Lib.hid R4
        replace S4 := Lib.hid S4
        replace A4 := Lib.hid A4
        obtain ⟨x3_0, x3_1, x3_l⟩ := X3
        obtain ⟨y3_0, y3_1, y3_l⟩ := Y3
        clear X1 X2
        clear Y2
        clear R3
        obtain ⟨x0, x1, xl⟩ := X4.out
        obtain ⟨y0, y1, yl⟩ := Y4.out
        obtain ⟨⟨r0, r1, rl⟩, rf0, rf1⟩ := R4.out
        obtain ⟨s0, s1, sl⟩ := S4.out
        go_enter Tryd.func19, Tryd.ntmps19
        go_wp2_with fail
        refine (HVA.out _).mono ?_
        rintro e w5 ⟨rfl, hb⟩
        clear x0 x1 xl y0 y1 yl r0 r1 rl rf0 rf1 s0 s1 sl
        have A5 := Lib.hid (down A4.out hb)
        have X5 := Lib.hid (X4.out.keep hb)
        have Y5 := Lib.hid (Y4.out.keep hb)
        have R5 := Lib.hid (R4.out.keep hb)
        have S5 := Lib.hid (S4.out.keep hb)
        clear hb A4 X4 Y4 R4 S4
        obtain ⟨x0, x1, xl⟩ := X5.out
        obtain ⟨y0, y1, yl⟩ := Y5.out
        obtain ⟨⟨r0, r1, rl⟩, rf0, rf1⟩ := R5.out
        obtain ⟨s0, s1, sl⟩ := S5.out
        go_wp2_with fail
        refine (HVB.out _).mono ?_
        rintro e w6 ⟨rfl, hb⟩
        clear x0 x1 xl y0 y1 yl r0 r1 rl rf0 rf1 s0 s1 sl
        have A6 := Lib.hid (down A5.out hb)
        have X6 := Lib.hid (X5.out.keep hb)
        have Y6 := Lib.hid (Y5.out.keep hb)
        have R6 := Lib.hid (R5.out.keep hb)
        have S6 := Lib.hid (S5.out.keep hb)
        clear hb A5 X5 Y5 R5 S5
        obtain ⟨x0, x1, xl⟩ := X6.out
        obtain ⟨y0, y1, yl⟩ := Y6.out
        obtain ⟨⟨r0, r1, rl⟩, rf0, rf1⟩ := R6.out
        obtain ⟨s0, s1, sl⟩ := S6.out
        obtain ⟨w7, hw7⟩ : ∃ w7 : World, w6.setCell ⟨w.heap.size + 2, 0, none⟩ (.int .i64 (0)) = w7 := ⟨_, rfl⟩
        obtain ⟨w8, hw8⟩ : ∃ w8 : World, w7.setCell ⟨w.heap.size + 2, 1, none⟩ (.int .i64 (0)) = w8 := ⟨_, rfl⟩
        have P1 : Tuo w7 (w.heap.size + 2) (.int .i64 (0)) (.int .i64 (0)) := by rw [← hw7]; exact R6.out.put0 _
        have P2 : Tuo w8 (w.heap.size + 2) (.int .i64 (0)) (.int .i64 (0)) := by rw [← hw8]; exact P1.put1 _
        obtain ⟨⟨p0, p1, pl⟩, pf0, pf1⟩ := P1
        obtain ⟨⟨q0, q1, ql⟩, qf0, qf1⟩ := P2
        have A8 : Hid (Below w.heap.size w w8) := by rw [← hw8, ← hw7]; exact (A6.out.setCell (by show _ ≤ w.heap.size + 2; omega) _).setCell (by show _ ≤ w.heap.size + 2; omega) _
        go_wp2
        exact bodyPost_ret (v := .tuple #[.agg #[.int .i64 (0), .int .i64 (0)], .bool false]) (by simp [results, Tryd.results19, go_sem, q0, q1]) rfl ⟨rfl, A8.out⟩
set_option maxRecDepth 100000 in
set_option maxHeartbeats 1000000 in
theorem rhull (a b c d : Int) (ha : I64 a) (hb : I64 b) (hc : I64 c) (hd : I64 d) (w : World) :
    Calls Tryd.prog 21 #[.agg #[.int .i64 a, .int .i64 b], .agg #[.int .i64 c, .int .i64 d]] w fun e w' => e = .returned (.tuple #[.agg #[.int .i64 (hlF a b c d), .int .i64 (hlT a b c d)], .int .i64 (hlE a b c d)]) ∧ Below w.heap.size w w' := by
  have HVA := Lib.hid (fun w => rvalid a b ha hb w)
  have HVB := Lib.hid (fun w => rvalid c d hc hd w)
  obtain ⟨a0, a1⟩ := ha
  obtain ⟨b0, b1⟩ := hb
  obtain ⟨c0, c1⟩ := hc
  obtain ⟨d0, d1⟩ := hd
  obtain ⟨M, hM⟩ : ∃ M, (if c < a then c else a) = M := ⟨_, rfl⟩
  obtain ⟨N, hN⟩ : ∃ N, (if b < d then d else b) = N := ⟨_, rfl⟩
  have HM : Hid (hiV a c = M) := hM
  have HN : Hid (loV b d = N) := hN
  have M0 : -9223372036854775808 ≤ M ∧ M ≤ 9223372036854775807 := by rw [← hM]; split <;> omega
  have N0 : -9223372036854775808 ≤ N ∧ N ≤ 9223372036854775807 := by rw [← hN]; split <;> omega
  cases va : ivB a b
  · rw [va] at HVA
    have e0 : (ivB a b && ivB c d) = false := by rw [va]; rfl
    rw [show hlF a b c d = 0 by unfold hlF; rw [e0]; rfl, show hlT a b c d = 0 by unfold hlT; rw [e0]; rfl, show hlE a b c d = 1 by unfold hlE; rw [e0]; rfl]
    clear e0
    clear HVB HM HN va
    obtain ⟨w1, hw1⟩ : ∃ w1 : World, w.alloc (.cells #[.int .i64 (a), .int .i64 (b)] 23) = w1 := ⟨_, rfl⟩
    have s1 : w1.heap.size = w.heap.size + 1 := by rw [← hw1, size_two]
    obtain ⟨w2, hw2⟩ : ∃ w2 : World, w1.alloc (.cells #[.int .i64 (c), .int .i64 (d)] 23) = w2 := ⟨_, rfl⟩
    have s2 : w2.heap.size = w.heap.size + 2 := by rw [← hw2, size_two, s1]
    obtain ⟨w3, hw3⟩ : ∃ w3 : World, w2.alloc (.cells #[.int .i64 (0), .int .i64 (0)] 23) = w3 := ⟨_, rfl⟩
    have s3 : w3.heap.size = w.heap.size + 3 := by rw [← hw3, size_two, s2]
    have X1 : Two w1 (w.heap.size) (.int .i64 (a)) (.int .i64 (b)) := by rw [← hw1]; exact Two.new (here _)
    have X2 : Two w2 (w.heap.size) (.int .i64 (a)) (.int .i64 (b)) := by rw [← hw2]; exact X1.keep (grow (here _) _)
    have X3 : Two w3 (w.heap.size) (.int .i64 (a)) (.int .i64 (b)) := by rw [← hw3]; exact X2.keep (grow (here _) _)
    have Y2 : Two w2 (w.heap.size + 1) (.int .i64 (c)) (.int .i64 (d)) := by rw [← s1, ← hw2]; exact Two.new (here _)
    have Y3 : Two w3 (w.heap.size + 1) (.int .i64 (c)) (.int .i64 (d)) := by rw [← hw3]; exact Y2.keep (grow (here _) _)
    have R3 : Tuo w3 (w.heap.size + 2) (.int .i64 (0)) (.int .i64 (0)) := by rw [← s2, ← hw3]; exact Tuo.new _ _ _ _
    have A3 : Below w.heap.size w w3 := by rw [← hw3, ← hw2, ← hw1]; exact (grow (grow (grow (here w) _) _) _)
    replace X3 := Lib.hid X3
    replace Y3 := Lib.hid Y3
    replace R3 := Lib.hid R3
    replace A3 := Lib.hid A3
    clear X1 X2
    clear Y2
    obtain ⟨x0, x1, xl⟩ := X3.out
    obtain ⟨y0, y1, yl⟩ := Y3.out
    obtain ⟨⟨r0, r1, rl⟩, rf0, rf1⟩ := R3.out
    go_enter Tryd.func21, Tryd.ntmps21
    go_wp2_with fail
    refine (HVA.out _).mono ?_
    rintro e w4 ⟨rfl, hb⟩
    clear x0 x1 xl y0 y1 yl r0 r1 rl rf0 rf1
    have A4 := Lib.hid (down A3.out hb)
    have X4 := Lib.hid (X3.out.keep hb)
    have Y4 := Lib.hid (Y3.out.keep hb)
    have R4 := Lib.hid (R3.out.keep hb)
    clear hb A3 X3 Y3 R3
    obtain ⟨x0, x1, xl⟩ := X4.out
    obtain ⟨y0, y1, yl⟩ := Y4.out
    obtain ⟨⟨r0, r1, rl⟩, rf0, rf1⟩ := R4.out
    obtain ⟨w5, hw5⟩ : ∃ w5 : World, w4.setCell ⟨w.heap.size + 2, 0, none⟩ (.int .i64 (0)) = w5 := ⟨_, rfl⟩
    obtain ⟨w6, hw6⟩ : ∃ w6 : World, w5.setCell ⟨w.heap.size + 2, 1, none⟩ (.int .i64 (0)) = w6 := ⟨_, rfl⟩
    have P1 : Tuo w5 (w.heap.size + 2) (.int .i64 (0)) (.int .i64 (0)) := by rw [← hw5]; exact R4.out.put0 _
    have P2 : Tuo w6 (w.heap.size + 2) (.int .i64 (0)) (.int .i64 (0)) := by rw [← hw6]; exact P1.put1 _
    obtain ⟨⟨p0, p1, pl⟩, pf0, pf1⟩ := P1
    obtain ⟨⟨q0, q1, ql⟩, qf0, qf1⟩ := P2
    have A6 : Hid (Below w.heap.size w w6) := by rw [← hw6, ← hw5]; exact (A4.out.setCell (by show _ ≤ w.heap.size + 2; omega) _).setCell (by show _ ≤ w.heap.size + 2; omega) _
    go_wp2
    exact bodyPost_ret (v := .tuple #[.agg #[.int .i64 (0), .int .i64 (0)], .int .i64 1]) (by simp [results, Tryd.results21, go_sem, q0, q1]) rfl ⟨rfl, A6.out⟩
  · rw [va] at HVA
    cases vb : ivB c d
    · rw [vb] at HVB
      have e0 : (ivB a b && ivB c d) = false := by rw [va, vb]; rfl
      rw [show hlF a b c d = 0 by unfold hlF; rw [e0]; rfl, show hlT a b c d = 0 by unfold hlT; rw [e0]; rfl, show hlE a b c d = 1 by unfold hlE; rw [e0]; rfl]
      clear e0
      clear HM HN va vb
      obtain ⟨w1, hw1⟩ : ∃ w1 : World, w.alloc (.cells #[.int .i64 (a), .int .i64 (b)] 23) = w1 := ⟨_, rfl⟩
      have s1 : w1.heap.size = w.heap.size + 1 := by rw [← hw1, size_two]
      obtain ⟨w2, hw2⟩ : ∃ w2 : World, w1.alloc (.cells #[.int .i64 (c), .int .i64 (d)] 23) = w2 := ⟨_, rfl⟩
      have s2 : w2.heap.size = w.heap.size + 2 := by rw [← hw2, size_two, s1]
      obtain ⟨w3, hw3⟩ : ∃ w3 : World, w2.alloc (.cells #[.int .i64 (0), .int .i64 (0)] 23) = w3 := ⟨_, rfl⟩
      have s3 : w3.heap.size = w.heap.size + 3 := by rw [← hw3, size_two, s2]
      have X1 : Two w1 (w.heap.size) (.int .i64 (a)) (.int .i64 (b)) := by rw [← hw1]; exact Two.new (here _)
      have X2 : Two w2 (w.heap.size) (.int .i64 (a)) (.int .i64 (b)) := by rw [← hw2]; exact X1.keep (grow (here _) _)
      have X3 : Two w3 (w.heap.size) (.int .i64 (a)) (.int .i64 (b)) := by rw [← hw3]; exact X2.keep (grow (here _) _)
      have Y2 : Two w2 (w.heap.size + 1) (.int .i64 (c)) (.int .i64 (d)) := by rw [← s1, ← hw2]; exact Two.new (here _)
      have Y3 : Two w3 (w.heap.size + 1) (.int .i64 (c)) (.int .i64 (d)) := by rw [← hw3]; exact Y2.keep (grow (here _) _)
      have R3 : Tuo w3 (w.heap.size + 2) (.int .i64 (0)) (.int .i64 (0)) := by rw [← s2, ← hw3]; exact Tuo.new _ _ _ _
      have A3 : Below w.heap.size w w3 := by rw [← hw3, ← hw2, ← hw1]; exact (grow (grow (grow (here w) _) _) _)
      replace X3 := Lib.hid X3
      replace Y3 := Lib.hid Y3
      replace R3 := Lib.hid R3
      replace A3 := Lib.hid A3
      clear X1 X2
      clear Y2
      obtain ⟨x0, x1, xl⟩ := X3.out
      obtain ⟨y0, y1, yl⟩ := Y3.out
      obtain ⟨⟨r0, r1, rl⟩, rf0, rf1⟩ := R3.out
      go_enter Tryd.func21, Tryd.ntmps21
      go_wp2_with fail
      refine (HVA.out _).mono ?_
      rintro e w4 ⟨rfl, hb⟩
      clear x0 x1 xl y0 y1 yl r0 r1 rl rf0 rf1
      have A4 := Lib.hid (down A3.out hb)
      have X4 := Lib.hid (X3.out.keep hb)
      have Y4 := Lib.hid (Y3.out.keep hb)
      have R4 := Lib.hid (R3.out.keep hb)
      clear hb A3 X3 Y3 R3
      obtain ⟨x0, x1, xl⟩ := X4.out
      obtain ⟨y0, y1, yl⟩ := Y4.out
      obtain ⟨⟨r0, r1, rl⟩, rf0, rf1⟩ := R4.out
      go_wp2_with fail
      refine (HVB.out _).mono ?_
      rintro e w5 ⟨rfl, hb⟩
      clear x0 x1 xl y0 y1 yl r0 r1 rl rf0 rf1
      have A5 := Lib.hid (down A4.out hb)
      have X5 := Lib.hid (X4.out.keep hb)
      have Y5 := Lib.hid (Y4.out.keep hb)
      have R5 := Lib.hid (R4.out.keep hb)
      clear hb A4 X4 Y4 R4
      obtain ⟨x0, x1, xl⟩ := X5.out
      obtain ⟨y0, y1, yl⟩ := Y5.out
      obtain ⟨⟨r0, r1, rl⟩, rf0, rf1⟩ := R5.out
      obtain ⟨w6, hw6⟩ : ∃ w6 : World, w5.setCell ⟨w.heap.size + 2, 0, none⟩ (.int .i64 (0)) = w6 := ⟨_, rfl⟩
      obtain ⟨w7, hw7⟩ : ∃ w7 : World, w6.setCell ⟨w.heap.size + 2, 1, none⟩ (.int .i64 (0)) = w7 := ⟨_, rfl⟩
      have P1 : Tuo w6 (w.heap.size + 2) (.int .i64 (0)) (.int .i64 (0)) := by rw [← hw6]; exact R5.out.put0 _
      have P2 : Tuo w7 (w.heap.size + 2) (.int .i64 (0)) (.int .i64 (0)) := by rw [← hw7]; exact P1.put1 _
      obtain ⟨⟨p0, p1, pl⟩, pf0, pf1⟩ := P1
      obtain ⟨⟨q0, q1, ql⟩, qf0, qf1⟩ := P2
      have A7 : Hid (Below w.heap.size w w7) := by rw [← hw7, ← hw6]; exact (A5.out.setCell (by show _ ≤ w.heap.size + 2; omega) _).setCell (by show _ ≤ w.heap.size + 2; omega) _
      go_wp2
      exact bodyPost_ret (v := .tuple #[.agg #[.int .i64 (0), .int .i64 (0)], .int .i64 1]) (by simp [results, Tryd.results21, go_sem, q0, q1]) rfl ⟨rfl, A7.out⟩
    · rw [vb] at HVB
      rw [show hlF a b c d = M by unfold hlF; rw [va, vb]; exact HM.out, show hlT a b c d = N by unfold hlT; rw [va, vb]; exact HN.out, show hlE a b c d = 0 by unfold hlE; rw [va, vb]; rfl]
      clear HM HN va vb
      obtain ⟨w1, hw1⟩ : ∃ w1 : World, w.alloc (.cells #[.int .i64 (a), .int .i64 (b)] 23) = w1 := ⟨_, rfl⟩
      have s1 : w1.heap.size = w.heap.size + 1 := by rw [← hw1, size_two]
      obtain ⟨w2, hw2⟩ : ∃ w2 : World, w1.alloc (.cells #[.int .i64 (c), .int .i64 (d)] 23) = w2 := ⟨_, rfl⟩
      have s2 : w2.heap.size = w.heap.size + 2 := by rw [← hw2, size_two, s1]
      obtain ⟨w3, hw3⟩ : ∃ w3 : World, w2.alloc (.cells #[.int .i64 (0), .int .i64 (0)] 23) = w3 := ⟨_, rfl⟩
      have s3 : w3.heap.size = w.heap.size + 3 := by rw [← hw3, size_two, s2]
      have X1 : Two w1 (w.heap.size) (.int .i64 (a)) (.int .i64 (b)) := by rw [← hw1]; exact Two.new (here _)
      have X2 : Two w2 (w.heap.size) (.int .i64 (a)) (.int .i64 (b)) := by rw [← hw2]; exact X1.keep (grow (here _) _)
      have X3 : Two w3 (w.heap.size) (.int .i64 (a)) (.int .i64 (b)) := by rw [← hw3]; exact X2.keep (grow (here _) _)
      have Y2 : Two w2 (w.heap.size + 1) (.int .i64 (c)) (.int .i64 (d)) := by rw [← s1, ← hw2]; exact Two.new (here _)
      have Y3 : Two w3 (w.heap.size + 1) (.int .i64 (c)) (.int .i64 (d)) := by rw [← hw3]; exact Y2.keep (grow (here _) _)
      have R3 : Tuo w3 (w.heap.size + 2) (.int .i64 (0)) (.int .i64 (0)) := by rw [← s2, ← hw3]; exact Tuo.new _ _ _ _
      have A3 : Below w.heap.size w w3 := by rw [← hw3, ← hw2, ← hw1]; exact (grow (grow (grow (here w) _) _) _)
      replace X3 := Lib.hid X3
      replace Y3 := Lib.hid Y3
      replace R3 := Lib.hid R3
      replace A3 := Lib.hid A3
      clear X1 X2
      clear Y2
      obtain ⟨x0, x1, xl⟩ := X3.out
      obtain ⟨y0, y1, yl⟩ := Y3.out
      obtain ⟨⟨r0, r1, rl⟩, rf0, rf1⟩ := R3.out
      go_enter Tryd.func21, Tryd.ntmps21
      go_wp2_with fail
      refine (HVA.out _).mono ?_
      rintro e w4 ⟨rfl, hb⟩
      clear x0 x1 xl y0 y1 yl r0 r1 rl rf0 rf1
      have A4 := Lib.hid (down A3.out hb)
      have X4 := Lib.hid (X3.out.keep hb)
      have Y4 := Lib.hid (Y3.out.keep hb)
      have R4 := Lib.hid (R3.out.keep hb)
      clear hb A3 X3 Y3 R3
      obtain ⟨x0, x1, xl⟩ := X4.out
      obtain ⟨y0, y1, yl⟩ := Y4.out
      obtain ⟨⟨r0, r1, rl⟩, rf0, rf1⟩ := R4.out
      go_wp2_with fail
      refine (HVB.out _).mono ?_
      rintro e w5 ⟨rfl, hb⟩
      clear x0 x1 xl y0 y1 yl r0 r1 rl rf0 rf1
      have A5 := Lib.hid (down A4.out hb)
      have X5 := Lib.hid (X4.out.keep hb)
      have Y5 := Lib.hid (Y4.out.keep hb)
      have R5 := Lib.hid (R4.out.keep hb)
      clear hb A4 X4 Y4 R4
      obtain ⟨x0, x1, xl⟩ := X5.out
      obtain ⟨y0, y1, yl⟩ := Y5.out
      obtain ⟨⟨r0, r1, rl⟩, rf0, rf1⟩ := R5.out
      obtain ⟨w6, hw6⟩ : ∃ w6 : World, w5.setCell ⟨w.heap.size + 2, 0, none⟩ (.int .i64 (M)) = w6 := ⟨_, rfl⟩
      obtain ⟨w7, hw7⟩ : ∃ w7 : World, w6.setCell ⟨w.heap.size + 2, 1, none⟩ (.int .i64 (N)) = w7 := ⟨_, rfl⟩
      have P1 : Tuo w6 (w.heap.size + 2) (.int .i64 (M)) (.int .i64 (0)) := by rw [← hw6]; exact R5.out.put0 _
      have P2 : Tuo w7 (w.heap.size + 2) (.int .i64 (M)) (.int .i64 (N)) := by rw [← hw7]; exact P1.put1 _
      obtain ⟨⟨p0, p1, pl⟩, pf0, pf1⟩ := P1
      obtain ⟨⟨q0, q1, ql⟩, qf0, qf1⟩ := P2
      have A7 : Hid (Below w.heap.size w w7) := by rw [← hw7, ← hw6]; exact (A5.out.setCell (by show _ ≤ w.heap.size + 2; omega) _).setCell (by show _ ≤ w.heap.size + 2; omega) _
      go_wp2
      exact bodyPost_ret (v := .tuple #[.agg #[.int .i64 (M), .int .i64 (N)], .int .i64 0]) (by simp [results, Tryd.results21, go_sem, q0, q1]) rfl ⟨rfl, A7.out⟩
theorem iv_lin (a b n : Int) (h : ivB a b = true) : ivB (a + n) (b + n) = (liB (a + n) && liB (b + n)) := by
  have q := ivB_iff.1 h
  rw [iv_li, decide_eq_true (by omega : a + n < b + n), Bool.and_true]
set_option maxRecDepth 100000 in
set_option maxHeartbeats 1000000 in
theorem rmove (a b n : Int) (ha : I64 a) (hb : I64 b) (hn : I64 n) (w : World) :
    Calls Tryd.prog 27 #[.agg #[.int .i64 a, .int .i64 b], .int .i64 n] w fun e w' => e = .returned (.tuple #[.agg #[.int .i64 (mvF a b n), .int .i64 (mvT a b n)], .int .i64 (mvE a b n)]) ∧ Below w.heap.size w w' := by
  have HVA := Lib.hid (fun w => rvalid a b ha hb w)
  cases va : ivB a b
  · rw [va] at HVA
    have e0 : mvE a b n = 1 := by unfold mvE; rw [va]; rfl
    rw [show mvF a b n = 0 by unfold mvF; rw [e0]; rfl, show mvT a b n = 0 by unfold mvT; rw [e0]; rfl, e0]
    clear e0
    clear va
    obtain ⟨a0, a1⟩ := ha
    obtain ⟨b0, b1⟩ := hb
    obtain ⟨n0, n1⟩ := hn
    obtain ⟨w1, hw1⟩ : ∃ w1 : World, w.alloc (.cells #[.int .i64 (a), .int .i64 (b)] 23) = w1 := ⟨_, rfl⟩
    have s1 : w1.heap.size = w.heap.size + 1 := by rw [← hw1, size_two]
    obtain ⟨w2, hw2⟩ : ∃ w2 : World, w1.alloc (.cells #[.int .i64 (0), .int .i64 (0)] 23) = w2 := ⟨_, rfl⟩
    have s2 : w2.heap.size = w.heap.size + 2 := by rw [← hw2, size_two, s1]
    have X1 : Two w1 (w.heap.size) (.int .i64 (a)) (.int .i64 (b)) := by rw [← hw1]; exact Two.new (here _)
    have X2 : Two w2 (w.heap.size) (.int .i64 (a)) (.int .i64 (b)) := by rw [← hw2]; exact X1.keep (grow (here _) _)
    have R2 : Tuo w2 (w.heap.size + 1) (.int .i64 (0)) (.int .i64 (0)) := by rw [← s1, ← hw2]; exact Tuo.new _ _ _ _
    have A2 : Below w.heap.size w w2 := by rw [← hw2, ← hw1]; exact (grow (grow (here w) _) _)
    replace X2 := Lib.hid X2
    replace R2 := Lib.hid R2
    replace A2 := Lib.hid A2
    clear X1
    obtain ⟨x0, x1, xl⟩ := X2.out
    obtain ⟨⟨r0, r1, rl⟩, rf0, rf1⟩ := R2.out
    go_enter Tryd.func27, Tryd.ntmps27
    go_wp2_with fail
    refine (HVA.out _).mono ?_
    rintro e w3 ⟨rfl, hb⟩
    clear x0 x1 xl r0 r1 rl rf0 rf1
    have A3 := Lib.hid (down A2.out hb)
    have X3 := Lib.hid (X2.out.keep hb)
    have R3 := Lib.hid (R2.out.keep hb)
    clear hb A2 X2 R2
    obtain ⟨x0, x1, xl⟩ := X3.out
    obtain ⟨⟨r0, r1, rl⟩, rf0, rf1⟩ := R3.out
    obtain ⟨w4, hw4⟩ : ∃ w4 : World, w3.setCell ⟨w.heap.size + 1, 0, none⟩ (.int .i64 (0)) = w4 := ⟨_, rfl⟩
    obtain ⟨w5, hw5⟩ : ∃ w5 : World, w4.setCell ⟨w.heap.size + 1, 1, none⟩ (.int .i64 (0)) = w5 := ⟨_, rfl⟩
    have P1 : Tuo w4 (w.heap.size + 1) (.int .i64 (0)) (.int .i64 (0)) := by rw [← hw4]; exact R3.out.put0 _
    have P2 : Tuo w5 (w.heap.size + 1) (.int .i64 (0)) (.int .i64 (0)) := by rw [← hw5]; exact P1.put1 _
    obtain ⟨⟨p0, p1, pl⟩, pf0, pf1⟩ := P1
    obtain ⟨⟨q0, q1, ql⟩, qf0, qf1⟩ := P2
    have A5 : Hid (Below w.heap.size w w5) := by rw [← hw5, ← hw4]; exact (A3.out.setCell (by show _ ≤ w.heap.size + 1; omega) _).setCell (by show _ ≤ w.heap.size + 1; omega) _
    go_wp2
    exact bodyPost_ret (v := .tuple #[.agg #[.int .i64 (0), .int .i64 (0)], .int .i64 1]) (by simp [results, Tryd.results27, go_sem, q0, q1]) rfl ⟨rfl, A5.out⟩
  · rw [va] at HVA
    have q := ivB_iff.1 va
    by_cases z1 : 8796093022208 < n
    · have k1 := decide_eq_true z1
      have e0 : mvE a b n = 2 := by unfold mvE; rw [va, ivB_no.2 (by omega)]; rfl
      rw [show mvF a b n = 0 by unfold mvF; rw [e0]; rfl, show mvT a b n = 0 by unfold mvT; rw [e0]; rfl, e0]
      clear e0
      clear va q z1
      obtain ⟨a0, a1⟩ := ha
      obtain ⟨b0, b1⟩ := hb
      obtain ⟨n0, n1⟩ := hn
      obtain ⟨w1, hw1⟩ : ∃ w1 : World, w.alloc (.cells #[.int .i64 (a), .int .i64 (b)] 23) = w1 := ⟨_, rfl⟩
      have s1 : w1.heap.size = w.heap.size + 1 := by rw [← hw1, size_two]
      obtain ⟨w2, hw2⟩ : ∃ w2 : World, w1.alloc (.cells #[.int .i64 (0), .int .i64 (0)] 23) = w2 := ⟨_, rfl⟩
      have s2 : w2.heap.size = w.heap.size + 2 := by rw [← hw2, size_two, s1]
      have X1 : Two w1 (w.heap.size) (.int .i64 (a)) (.int .i64 (b)) := by rw [← hw1]; exact Two.new (here _)
      have X2 : Two w2 (w.heap.size) (.int .i64 (a)) (.int .i64 (b)) := by rw [← hw2]; exact X1.keep (grow (here _) _)
      have R2 : Tuo w2 (w.heap.size + 1) (.int .i64 (0)) (.int .i64 (0)) := by rw [← s1, ← hw2]; exact Tuo.new _ _ _ _
      have A2 : Below w.heap.size w w2 := by rw [← hw2, ← hw1]; exact (grow (grow (here w) _) _)
      replace X2 := Lib.hid X2
      replace R2 := Lib.hid R2
      replace A2 := Lib.hid A2
      clear X1
      obtain ⟨x0, x1, xl⟩ := X2.out
      obtain ⟨⟨r0, r1, rl⟩, rf0, rf1⟩ := R2.out
      go_enter Tryd.func27, Tryd.ntmps27
      go_wp2_with fail
      refine (HVA.out _).mono ?_
      rintro e w3 ⟨rfl, hb⟩
      clear x0 x1 xl r0 r1 rl rf0 rf1
      have A3 := Lib.hid (down A2.out hb)
      have X3 := Lib.hid (X2.out.keep hb)
      have R3 := Lib.hid (R2.out.keep hb)
      clear hb A2 X2 R2
      obtain ⟨x0, x1, xl⟩ := X3.out
      obtain ⟨⟨r0, r1, rl⟩, rf0, rf1⟩ := R3.out
      obtain ⟨w4, hw4⟩ : ∃ w4 : World, w3.setCell ⟨w.heap.size + 1, 0, none⟩ (.int .i64 (0)) = w4 := ⟨_, rfl⟩
      obtain ⟨w5, hw5⟩ : ∃ w5 : World, w4.setCell ⟨w.heap.size + 1, 1, none⟩ (.int .i64 (0)) = w5 := ⟨_, rfl⟩
      have P1 : Tuo w4 (w.heap.size + 1) (.int .i64 (0)) (.int .i64 (0)) := by rw [← hw4]; exact R3.out.put0 _
      have P2 : Tuo w5 (w.heap.size + 1) (.int .i64 (0)) (.int .i64 (0)) := by rw [← hw5]; exact P1.put1 _
      obtain ⟨⟨p0, p1, pl⟩, pf0, pf1⟩ := P1
      obtain ⟨⟨q0, q1, ql⟩, qf0, qf1⟩ := P2
      have A5 : Hid (Below w.heap.size w w5) := by rw [← hw5, ← hw4]; exact (A3.out.setCell (by show _ ≤ w.heap.size + 1; omega) _).setCell (by show _ ≤ w.heap.size + 1; omega) _
      go_wp2
      exact bodyPost_ret (v := .tuple #[.agg #[.int .i64 (0), .int .i64 (0)], .int .i64 2]) (by simp [results, Tryd.results27, go_sem, q0, q1]) rfl ⟨rfl, A5.out⟩
    · have k1 := decide_eq_false z1
      by_cases z2 : n < -8796093022208
      · have k2 := decide_eq_true z2
        have e0 : mvE a b n = 2 := by unfold mvE; rw [va, ivB_no.2 (by omega)]; rfl
        rw [show mvF a b n = 0 by unfold mvF; rw [e0]; rfl, show mvT a b n = 0 by unfold mvT; rw [e0]; rfl, e0]
        clear e0
        clear va q z1 z2
        obtain ⟨a0, a1⟩ := ha
        obtain ⟨b0, b1⟩ := hb
        obtain ⟨n0, n1⟩ := hn
        obtain ⟨w1, hw1⟩ : ∃ w1 : World, w.alloc (.cells #[.int .i64 (a), .int .i64 (b)] 23) = w1 := ⟨_, rfl⟩
        have s1 : w1.heap.size = w.heap.size + 1 := by rw [← hw1, size_two]
        obtain ⟨w2, hw2⟩ : ∃ w2 : World, w1.alloc (.cells #[.int .i64 (0), .int .i64 (0)] 23) = w2 := ⟨_, rfl⟩
        have s2 : w2.heap.size = w.heap.size + 2 := by rw [← hw2, size_two, s1]
        have X1 : Two w1 (w.heap.size) (.int .i64 (a)) (.int .i64 (b)) := by rw [← hw1]; exact Two.new (here _)
        have X2 : Two w2 (w.heap.size) (.int .i64 (a)) (.int .i64 (b)) := by rw [← hw2]; exact X1.keep (grow (here _) _)
        have R2 : Tuo w2 (w.heap.size + 1) (.int .i64 (0)) (.int .i64 (0)) := by rw [← s1, ← hw2]; exact Tuo.new _ _ _ _
        have A2 : Below w.heap.size w w2 := by rw [← hw2, ← hw1]; exact (grow (grow (here w) _) _)
        replace X2 := Lib.hid X2
        replace R2 := Lib.hid R2
        replace A2 := Lib.hid A2
        clear X1
        obtain ⟨x0, x1, xl⟩ := X2.out
        obtain ⟨⟨r0, r1, rl⟩, rf0, rf1⟩ := R2.out
        go_enter Tryd.func27, Tryd.ntmps27
        go_wp2_with fail
        refine (HVA.out _).mono ?_
        rintro e w3 ⟨rfl, hb⟩
        clear x0 x1 xl r0 r1 rl rf0 rf1
        have A3 := Lib.hid (down A2.out hb)
        have X3 := Lib.hid (X2.out.keep hb)
        have R3 := Lib.hid (R2.out.keep hb)
        clear hb A2 X2 R2
        obtain ⟨x0, x1, xl⟩ := X3.out
        obtain ⟨⟨r0, r1, rl⟩, rf0, rf1⟩ := R3.out
        obtain ⟨w4, hw4⟩ : ∃ w4 : World, w3.setCell ⟨w.heap.size + 1, 0, none⟩ (.int .i64 (0)) = w4 := ⟨_, rfl⟩
        obtain ⟨w5, hw5⟩ : ∃ w5 : World, w4.setCell ⟨w.heap.size + 1, 1, none⟩ (.int .i64 (0)) = w5 := ⟨_, rfl⟩
        have P1 : Tuo w4 (w.heap.size + 1) (.int .i64 (0)) (.int .i64 (0)) := by rw [← hw4]; exact R3.out.put0 _
        have P2 : Tuo w5 (w.heap.size + 1) (.int .i64 (0)) (.int .i64 (0)) := by rw [← hw5]; exact P1.put1 _
        obtain ⟨⟨p0, p1, pl⟩, pf0, pf1⟩ := P1
        obtain ⟨⟨q0, q1, ql⟩, qf0, qf1⟩ := P2
        have A5 : Hid (Below w.heap.size w w5) := by rw [← hw5, ← hw4]; exact (A3.out.setCell (by show _ ≤ w.heap.size + 1; omega) _).setCell (by show _ ≤ w.heap.size + 1; omega) _
        go_wp2
        exact bodyPost_ret (v := .tuple #[.agg #[.int .i64 (0), .int .i64 (0)], .int .i64 2]) (by simp [results, Tryd.results27, go_sem, q0, q1]) rfl ⟨rfl, A5.out⟩
      · have k2 := decide_eq_false z2
        have HP := Lib.hid (fun w => rline (a + n) ⟨by omega, by omega⟩ w)
        have HQ := Lib.hid (fun w => rline (b + n) ⟨by omega, by omega⟩ w)
        have l := iv_lin a b n va
        cases lp : liB (a + n)
        · rw [lp] at HP
          have e0 : mvE a b n = 2 := by unfold mvE; rw [va, l, lp]; rfl
          rw [show mvF a b n = 0 by unfold mvF; rw [e0]; rfl, show mvT a b n = 0 by unfold mvT; rw [e0]; rfl, e0]
          clear e0
          clear va l lp HQ
          obtain ⟨p, hp⟩ : ∃ p, a + n = p := ⟨_, rfl⟩
          rw [hp] at HP
          obtain ⟨a0, a1⟩ := ha
          obtain ⟨b0, b1⟩ := hb
          obtain ⟨n0, n1⟩ := hn
          obtain ⟨w1, hw1⟩ : ∃ w1 : World, w.alloc (.cells #[.int .i64 (a), .int .i64 (b)] 23) = w1 := ⟨_, rfl⟩
          have s1 : w1.heap.size = w.heap.size + 1 := by rw [← hw1, size_two]
          obtain ⟨w2, hw2⟩ : ∃ w2 : World, w1.alloc (.cells #[.int .i64 (0), .int .i64 (0)] 23) = w2 := ⟨_, rfl⟩
          have s2 : w2.heap.size = w.heap.size + 2 := by rw [← hw2, size_two, s1]
          have X1 : Two w1 (w.heap.size) (.int .i64 (a)) (.int .i64 (b)) := by rw [← hw1]; exact Two.new (here _)
          have X2 : Two w2 (w.heap.size) (.int .i64 (a)) (.int .i64 (b)) := by rw [← hw2]; exact X1.keep (grow (here _) _)
          have R2 : Tuo w2 (w.heap.size + 1) (.int .i64 (0)) (.int .i64 (0)) := by rw [← s1, ← hw2]; exact Tuo.new _ _ _ _
          have A2 : Below w.heap.size w w2 := by rw [← hw2, ← hw1]; exact (grow (grow (here w) _) _)
          replace X2 := Lib.hid X2
          replace R2 := Lib.hid R2
          replace A2 := Lib.hid A2
          clear X1
          obtain ⟨x0, x1, xl⟩ := X2.out
          obtain ⟨⟨r0, r1, rl⟩, rf0, rf1⟩ := R2.out
          go_enter Tryd.func27, Tryd.ntmps27
          go_wp2_with fail
          refine (HVA.out _).mono ?_
          rintro e w3 ⟨rfl, hb⟩
          clear x0 x1 xl r0 r1 rl rf0 rf1
          have A3 := Lib.hid (down A2.out hb)
          have X3 := Lib.hid (X2.out.keep hb)
          have R3 := Lib.hid (R2.out.keep hb)
          clear hb A2 X2 R2
          obtain ⟨x0, x1, xl⟩ := X3.out
          obtain ⟨⟨r0, r1, rl⟩, rf0, rf1⟩ := R3.out
          go_wp2_with fail
          refine (HP.out _).mono ?_
          rintro e x1 ⟨rfl, rfl⟩
          obtain ⟨w4, hw4⟩ : ∃ w4 : World, w3.setCell ⟨w.heap.size + 1, 0, none⟩ (.int .i64 (0)) = w4 := ⟨_, rfl⟩
          obtain ⟨w5, hw5⟩ : ∃ w5 : World, w4.setCell ⟨w.heap.size + 1, 1, none⟩ (.int .i64 (0)) = w5 := ⟨_, rfl⟩
          have P1 : Tuo w4 (w.heap.size + 1) (.int .i64 (0)) (.int .i64 (0)) := by rw [← hw4]; exact R3.out.put0 _
          have P2 : Tuo w5 (w.heap.size + 1) (.int .i64 (0)) (.int .i64 (0)) := by rw [← hw5]; exact P1.put1 _
          obtain ⟨⟨p0, p1, pl⟩, pf0, pf1⟩ := P1
          obtain ⟨⟨q0, q1, ql⟩, qf0, qf1⟩ := P2
          have A5 : Hid (Below w.heap.size w w5) := by rw [← hw5, ← hw4]; exact (A3.out.setCell (by show _ ≤ w.heap.size + 1; omega) _).setCell (by show _ ≤ w.heap.size + 1; omega) _
          go_wp2
          exact bodyPost_ret (v := .tuple #[.agg #[.int .i64 (0), .int .i64 (0)], .int .i64 2]) (by simp [results, Tryd.results27, go_sem, q0, q1]) rfl ⟨rfl, A5.out⟩
        · rw [lp] at HP
          cases lq : liB (b + n)
          · rw [lq] at HQ
            have e0 : mvE a b n = 2 := by unfold mvE; rw [va, l, lp, lq]; rfl
            rw [show mvF a b n = 0 by unfold mvF; rw [e0]; rfl, show mvT a b n = 0 by unfold mvT; rw [e0]; rfl, e0]
            clear e0
            clear va l lp lq
            obtain ⟨p, hp⟩ : ∃ p, a + n = p := ⟨_, rfl⟩
            obtain ⟨q', hq'⟩ : ∃ q', b + n = q' := ⟨_, rfl⟩
            rw [hp] at HP
            rw [hq'] at HQ
            obtain ⟨a0, a1⟩ := ha
            obtain ⟨b0, b1⟩ := hb
            obtain ⟨n0, n1⟩ := hn
            obtain ⟨w1, hw1⟩ : ∃ w1 : World, w.alloc (.cells #[.int .i64 (a), .int .i64 (b)] 23) = w1 := ⟨_, rfl⟩
            have s1 : w1.heap.size = w.heap.size + 1 := by rw [← hw1, size_two]
            obtain ⟨w2, hw2⟩ : ∃ w2 : World, w1.alloc (.cells #[.int .i64 (0), .int .i64 (0)] 23) = w2 := ⟨_, rfl⟩
            have s2 : w2.heap.size = w.heap.size + 2 := by rw [← hw2, size_two, s1]
            have X1 : Two w1 (w.heap.size) (.int .i64 (a)) (.int .i64 (b)) := by rw [← hw1]; exact Two.new (here _)
            have X2 : Two w2 (w.heap.size) (.int .i64 (a)) (.int .i64 (b)) := by rw [← hw2]; exact X1.keep (grow (here _) _)
            have R2 : Tuo w2 (w.heap.size + 1) (.int .i64 (0)) (.int .i64 (0)) := by rw [← s1, ← hw2]; exact Tuo.new _ _ _ _
            have A2 : Below w.heap.size w w2 := by rw [← hw2, ← hw1]; exact (grow (grow (here w) _) _)
            replace X2 := Lib.hid X2
            replace R2 := Lib.hid R2
            replace A2 := Lib.hid A2
            clear X1
            obtain ⟨x0, x1, xl⟩ := X2.out
            obtain ⟨⟨r0, r1, rl⟩, rf0, rf1⟩ := R2.out
            go_enter Tryd.func27, Tryd.ntmps27
            go_wp2_with fail
            refine (HVA.out _).mono ?_
            rintro e w3 ⟨rfl, hb⟩
            clear x0 x1 xl r0 r1 rl rf0 rf1
            have A3 := Lib.hid (down A2.out hb)
            have X3 := Lib.hid (X2.out.keep hb)
            have R3 := Lib.hid (R2.out.keep hb)
            clear hb A2 X2 R2
            obtain ⟨x0, x1, xl⟩ := X3.out
            obtain ⟨⟨r0, r1, rl⟩, rf0, rf1⟩ := R3.out
            go_wp2_with fail
            refine (HP.out _).mono ?_
            rintro e x1 ⟨rfl, rfl⟩
            go_wp2_with fail
            refine (HQ.out _).mono ?_
            rintro e x2 ⟨rfl, rfl⟩
            obtain ⟨w4, hw4⟩ : ∃ w4 : World, w3.setCell ⟨w.heap.size + 1, 0, none⟩ (.int .i64 (0)) = w4 := ⟨_, rfl⟩
            obtain ⟨w5, hw5⟩ : ∃ w5 : World, w4.setCell ⟨w.heap.size + 1, 1, none⟩ (.int .i64 (0)) = w5 := ⟨_, rfl⟩
            have P1 : Tuo w4 (w.heap.size + 1) (.int .i64 (0)) (.int .i64 (0)) := by rw [← hw4]; exact R3.out.put0 _
            have P2 : Tuo w5 (w.heap.size + 1) (.int .i64 (0)) (.int .i64 (0)) := by rw [← hw5]; exact P1.put1 _
            obtain ⟨⟨p0, p1, pl⟩, pf0, pf1⟩ := P1
            obtain ⟨⟨q0, q1, ql⟩, qf0, qf1⟩ := P2
            have A5 : Hid (Below w.heap.size w w5) := by rw [← hw5, ← hw4]; exact (A3.out.setCell (by show _ ≤ w.heap.size + 1; omega) _).setCell (by show _ ≤ w.heap.size + 1; omega) _
            go_wp2
            exact bodyPost_ret (v := .tuple #[.agg #[.int .i64 (0), .int .i64 (0)], .int .i64 2]) (by simp [results, Tryd.results27, go_sem, q0, q1]) rfl ⟨rfl, A5.out⟩
          · rw [lq] at HQ
            have e0 : mvE a b n = 0 := by unfold mvE; rw [va, l, lp, lq]; rfl
            rw [show mvF a b n = a + n by unfold mvF; rw [e0]; rfl, show mvT a b n = b + n by unfold mvT; rw [e0]; rfl, e0]
            clear va l lp lq e0
            obtain ⟨p, hp⟩ : ∃ p, a + n = p := ⟨_, rfl⟩
            obtain ⟨q', hq'⟩ : ∃ q', b + n = q' := ⟨_, rfl⟩
            rw [hp] at HP ⊢
            rw [hq'] at HQ ⊢
            obtain ⟨a0, a1⟩ := ha
            obtain ⟨b0, b1⟩ := hb
            obtain ⟨n0, n1⟩ := hn
            obtain ⟨w1, hw1⟩ : ∃ w1 : World, w.alloc (.cells #[.int .i64 (a), .int .i64 (b)] 23) = w1 := ⟨_, rfl⟩
            have s1 : w1.heap.size = w.heap.size + 1 := by rw [← hw1, size_two]
            obtain ⟨w2, hw2⟩ : ∃ w2 : World, w1.alloc (.cells #[.int .i64 (0), .int .i64 (0)] 23) = w2 := ⟨_, rfl⟩
            have s2 : w2.heap.size = w.heap.size + 2 := by rw [← hw2, size_two, s1]
            have X1 : Two w1 (w.heap.size) (.int .i64 (a)) (.int .i64 (b)) := by rw [← hw1]; exact Two.new (here _)
            have X2 : Two w2 (w.heap.size) (.int .i64 (a)) (.int .i64 (b)) := by rw [← hw2]; exact X1.keep (grow (here _) _)
            have R2 : Tuo w2 (w.heap.size + 1) (.int .i64 (0)) (.int .i64 (0)) := by rw [← s1, ← hw2]; exact Tuo.new _ _ _ _
            have A2 : Below w.heap.size w w2 := by rw [← hw2, ← hw1]; exact (grow (grow (here w) _) _)
            replace X2 := Lib.hid X2
            replace R2 := Lib.hid R2
            replace A2 := Lib.hid A2
            clear X1
            obtain ⟨x0, x1, xl⟩ := X2.out
            obtain ⟨⟨r0, r1, rl⟩, rf0, rf1⟩ := R2.out
            go_enter Tryd.func27, Tryd.ntmps27
            go_wp2_with fail
            refine (HVA.out _).mono ?_
            rintro e w3 ⟨rfl, hb⟩
            clear x0 x1 xl r0 r1 rl rf0 rf1
            have A3 := Lib.hid (down A2.out hb)
            have X3 := Lib.hid (X2.out.keep hb)
            have R3 := Lib.hid (R2.out.keep hb)
            clear hb A2 X2 R2
            obtain ⟨x0, x1, xl⟩ := X3.out
            obtain ⟨⟨r0, r1, rl⟩, rf0, rf1⟩ := R3.out
            go_wp2_with fail
            refine (HP.out _).mono ?_
            rintro e x1 ⟨rfl, rfl⟩
            go_wp2_with fail
            refine (HQ.out _).mono ?_
            rintro e x2 ⟨rfl, rfl⟩
            obtain ⟨w4, hw4⟩ : ∃ w4 : World, w3.setCell ⟨w.heap.size + 1, 0, none⟩ (.int .i64 (p)) = w4 := ⟨_, rfl⟩
            obtain ⟨w5, hw5⟩ : ∃ w5 : World, w4.setCell ⟨w.heap.size + 1, 1, none⟩ (.int .i64 (q')) = w5 := ⟨_, rfl⟩
            have P1 : Tuo w4 (w.heap.size + 1) (.int .i64 (p)) (.int .i64 (0)) := by rw [← hw4]; exact R3.out.put0 _
            have P2 : Tuo w5 (w.heap.size + 1) (.int .i64 (p)) (.int .i64 (q')) := by rw [← hw5]; exact P1.put1 _
            obtain ⟨⟨p0, p1, pl⟩, pf0, pf1⟩ := P1
            obtain ⟨⟨q0, q1, ql⟩, qf0, qf1⟩ := P2
            have A5 : Hid (Below w.heap.size w w5) := by rw [← hw5, ← hw4]; exact (A3.out.setCell (by show _ ≤ w.heap.size + 1; omega) _).setCell (by show _ ≤ w.heap.size + 1; omega) _
            go_wp2
            exact bodyPost_ret (v := .tuple #[.agg #[.int .i64 (p), .int .i64 (q')], .int .i64 0]) (by simp [results, Tryd.results27, go_sem, q0, q1]) rfl ⟨rfl, A5.out⟩
end Go.Proofs.YtknlhhjooamfhaaDoor
