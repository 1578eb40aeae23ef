/- Contracts of package interval: Meet, Hull, Move. -/
import Derived.Test.YtknlhhjooamfhaaDoorIvU1
namespace Go.Proofs.YtknlhhjooamfhaaDoor
open Go.RowKit
set_option linter.unusedVariables false

set_option maxRecDepth 100000 in
set_option maxHeartbeats 1000000 in
theorem uvmeet (a b c d : Int) (ha : I64 a) (hb : I64 b) (hc : I64 c) (hd : I64 d) (w : World) (ht : Tabs w) :
    Calls Tryd.prog 18 #[.agg #[.int .i64 a, .int .i64 b], .agg #[.int .i64 c, .int .i64 d]] w fun e w' => e = .returned (.tuple #[.agg #[.int .i64 (mtF a b c d), .int .i64 (mtT a b c d)], .bool (mtB a b c d)]) ∧ Below w.heap.size w w' := by
  have HV := Lib.hid (fun w ht => ubv a b c d ha hb hc hd w ht)
  obtain ⟨a0, a1⟩ := ha
  obtain ⟨b0, b1⟩ := hb
  obtain ⟨c0, c1⟩ := hc
  obtain ⟨d0, d1⟩ := hd
  obtain ⟨M, hM⟩ : ∃ M, (if a < c then c else a) = M := ⟨_, rfl⟩
  obtain ⟨N, hN⟩ : ∃ N, (if d < b then d else b) = N := ⟨_, rfl⟩
  have HM : Hid (loV a c = M) := hM
  have HN : Hid (hiV b d = N) := hN
  have M0 : -9223372036854775808 ≤ M ∧ M ≤ 9223372036854775807 := by rw [← hM]; split <;> omega
  have N0 : -9223372036854775808 ≤ N ∧ N ≤ 9223372036854775807 := by rw [← hN]; split <;> omega
  cases v : ivB a b && ivB c d
  · rw [v] at HV
    have e0 : mtB a b c d = false := by unfold mtB; rw [v]; rfl
    rw [show mtF a b c d = 0 by unfold mtF; rw [e0]; rfl, show mtT a b c d = 0 by unfold mtT; rw [e0]; rfl, e0]
    clear e0
    clear HM HN v
    obtain ⟨w1, hw1⟩ : ∃ w1 : World, w.alloc (.cells #[.int .i64 (a), .int .i64 (b)] 23) = w1 := ⟨_, rfl⟩
    have s1 : w1.heap.size = w.heap.size + 1 := by rw [← hw1, size_two]
    obtain ⟨w2, hw2⟩ : ∃ w2 : World, w1.alloc (.cells #[.int .i64 (c), .int .i64 (d)] 23) = w2 := ⟨_, rfl⟩
    have s2 : w2.heap.size = w.heap.size + 2 := by rw [← hw2, size_two, s1]
    obtain ⟨w3, hw3⟩ : ∃ w3 : World, w2.alloc (.cells #[.int .i64 (0), .int .i64 (0)] 23) = w3 := ⟨_, rfl⟩
    have s3 : w3.heap.size = w.heap.size + 3 := by rw [← hw3, size_two, s2]
    have X1 : Two w1 (w.heap.size) (.int .i64 (a)) (.int .i64 (b)) := by rw [← hw1]; exact Two.new (here _)
    have X2 : Two w2 (w.heap.size) (.int .i64 (a)) (.int .i64 (b)) := by rw [← hw2]; exact X1.keep (grow (here _) _)
    have X3 : Two w3 (w.heap.size) (.int .i64 (a)) (.int .i64 (b)) := by rw [← hw3]; exact X2.keep (grow (here _) _)
    have Y2 : Two w2 (w.heap.size + 1) (.int .i64 (c)) (.int .i64 (d)) := by rw [← s1, ← hw2]; exact Two.new (here _)
    have Y3 : Two w3 (w.heap.size + 1) (.int .i64 (c)) (.int .i64 (d)) := by rw [← hw3]; exact Y2.keep (grow (here _) _)
    have R3 : Tuo w3 (w.heap.size + 2) (.int .i64 (0)) (.int .i64 (0)) := by rw [← s2, ← hw3]; exact Tuo.new _ _ _ _
    have A3 : Below w.heap.size w w3 := by rw [← hw3, ← hw2, ← hw1]; exact (grow (grow (grow (here w) _) _) _)
    replace X3 := Lib.hid X3
    replace Y3 := Lib.hid Y3
    replace R3 := Lib.hid R3
    replace A3 := Lib.hid A3
    clear X1 X2
    clear Y2
    obtain ⟨x0, x1, xl⟩ := X3.out
    obtain ⟨y0, y1, yl⟩ := Y3.out
    obtain ⟨⟨r0, r1, rl⟩, rf0, rf1⟩ := R3.out
    have T3 : Hid (Tabs w3) := ht.below A3.out
    go_enter Tryd.func18, Tryd.ntmps18
    go_wp2_with fail
    refine (HV.out _ T3.out).mono ?_
    rintro e w4 ⟨rfl, hb⟩
    clear x0 x1 xl y0 y1 yl r0 r1 rl rf0 rf1
    have A4 := Lib.hid (down A3.out hb)
    have T4 := Lib.hid (T3.out.below hb)
    have X4 := Lib.hid (X3.out.keep hb)
    have Y4 := Lib.hid (Y3.out.keep hb)
    have R4 := Lib.hid (R3.out.keep hb)
    clear hb A3 T3 X3 Y3 R3
    obtain ⟨x0, x1, xl⟩ := X4.out
    obtain ⟨y0, y1, yl⟩ := Y4.out
    obtain ⟨⟨r0, r1, rl⟩, rf0, rf1⟩ := R4.out
    obtain ⟨w5, hw5⟩ : ∃ w5 : World, w4.setCell ⟨w.heap.size + 2, 0, none⟩ (.int .i64 (0)) = w5 := ⟨_, rfl⟩
    obtain ⟨w6, hw6⟩ : ∃ w6 : World, w5.setCell ⟨w.heap.size + 2, 1, none⟩ (.int .i64 (0)) = w6 := ⟨_, rfl⟩
    have P5 : Tuo w5 (w.heap.size + 2) (.int .i64 (0)) (.int .i64 (0)) := by rw [← hw5]; exact R4.out.put0 _
    have R6 : Hid (Tuo w6 (w.heap.size + 2) (.int .i64 (0)) (.int .i64 (0))) := by rw [← hw6]; exact P5.put1 _
    have A6 : Hid (Below w.heap.size w w6) := by rw [← hw6, ← hw5]; exact (A4.out.setCell (by show _ ≤ w.heap.size + 2; omega) _).setCell (by show _ ≤ w.heap.size + 2; omega) _
    have T6 : Hid (Tabs w6) := ht.below A6.out
    obtain ⟨⟨p40, p41, p4l⟩, p4f0, p4f1⟩ := P5
    obtain ⟨⟨q40, q41, q4l⟩, q4f0, q4f1⟩ := R6.out
    go_wp2
    exact bodyPost_ret (v := .tuple #[.agg #[.int .i64 (0), .int .i64 (0)], .bool false]) (by simp [results, Tryd.results18, go_sem, q40, q41]) rfl ⟨rfl, A6.out⟩
  · rw [v] at HV
    have HVC := Lib.hid (fun w ht => uvvalid M N ⟨by omega, by omega⟩ ⟨by omega, by omega⟩ w ht)
    have v1 := v
    rw [Bool.and_eq_true] at v1
    have q := ivB_iff.1 v1.1
    have p := ivB_iff.1 v1.2
    have l1 := loV_bd a c
    have l2 := hiV_bd b d
    rw [HM.out] at l1
    rw [HN.out] at l2
    by_cases z : M < N
    · rw [show ivB M N = true by rw [ivB_iff]; omega] at HVC
      have e0 : mtB a b c d = true := by unfold mtB; rw [v, HM.out, HN.out, decide_eq_true z]; rfl
      rw [show mtF a b c d = M by unfold mtF; rw [e0]; exact HM.out, show mtT a b c d = N by unfold mtT; rw [e0]; exact HN.out, e0]
      clear HM HN v v1 q p l1 l2 e0 z
      obtain ⟨w1, hw1⟩ : ∃ w1 : World, w.alloc (.cells #[.int .i64 (a), .int .i64 (b)] 23) = w1 := ⟨_, rfl⟩
      have s1 : w1.heap.size = w.heap.size + 1 := by rw [← hw1, size_two]
      obtain ⟨w2, hw2⟩ : ∃ w2 : World, w1.alloc (.cells #[.int .i64 (c), .int .i64 (d)] 23) = w2 := ⟨_, rfl⟩
      have s2 : w2.heap.size = w.heap.size + 2 := by rw [← hw2, size_two, s1]
      obtain ⟨w3, hw3⟩ : ∃ w3 : World, w2.alloc (.cells #[.int .i64 (0), .int .i64 (0)] 23) = w3 := ⟨_, rfl⟩
      have s3 : w3.heap.size = w.heap.size + 3 := by rw [← hw3, size_two, s2]
      have X1 : Two w1 (w.heap.size) (.int .i64 (a)) (.int .i64 (b)) := by rw [← hw1]; exact Two.new (here _)
      have X2 : Two w2 (w.heap.size) (.int .i64 (a)) (.int .i64 (b)) := by rw [← hw2]; exact X1.keep (grow (here _) _)
      have X3 : Two w3 (w.heap.size) (.int .i64 (a)) (.int .i64 (b)) := by rw [← hw3]; exact X2.keep (grow (here _) _)
      have Y2 : Two w2 (w.heap.size + 1) (.int .i64 (c)) (.int .i64 (d)) := by rw [← s1, ← hw2]; exact Two.new (here _)
      have Y3 : Two w3 (w.heap.size + 1) (.int .i64 (c)) (.int .i64 (d)) := by rw [← hw3]; exact Y2.keep (grow (here _) _)
      have R3 : Tuo w3 (w.heap.size + 2) (.int .i64 (0)) (.int .i64 (0)) := by rw [← s2, ← hw3]; exact Tuo.new _ _ _ _
      have A3 : Below w.heap.size w w3 := by rw [← hw3, ← hw2, ← hw1]; exact (grow (grow (grow (here w) _) _) _)
      replace X3 := Lib.hid X3
      replace Y3 := Lib.hid Y3
      replace R3 := Lib.hid R3
      replace A3 := Lib.hid A3
      clear X1 X2
      clear Y2
      obtain ⟨x0, x1, xl⟩ := X3.out
      obtain ⟨y0, y1, yl⟩ := Y3.out
      obtain ⟨⟨r0, r1, rl⟩, rf0, rf1⟩ := R3.out
      have T3 : Hid (Tabs w3) := ht.below A3.out
      go_enter Tryd.func18, Tryd.ntmps18
      go_wp2_with fail
      refine (HV.out _ T3.out).mono ?_
      rintro e w4 ⟨rfl, hb⟩
      clear x0 x1 xl y0 y1 yl r0 r1 rl rf0 rf1
      have A4 := Lib.hid (down A3.out hb)
      have T4 := Lib.hid (T3.out.below hb)
      have X4 := Lib.hid (X3.out.keep hb)
      have Y4 := Lib.hid (Y3.out.keep hb)
      have R4 := Lib.hid (R3.out.keep hb)
      clear hb A3 T3 X3 Y3 R3
      obtain ⟨x0, x1, xl⟩ := X4.out
      obtain ⟨y0, y1, yl⟩ := Y4.out
      obtain ⟨⟨r0, r1, rl⟩, rf0, rf1⟩ := R4.out
      obtain ⟨w5, hw5⟩ : ∃ w5 : World, w4.setCell ⟨w.heap.size + 2, 0, none⟩ (.int .i64 (M)) = w5 := ⟨_, rfl⟩
      obtain ⟨w6, hw6⟩ : ∃ w6 : World, w5.setCell ⟨w.heap.size + 2, 1, none⟩ (.int .i64 (N)) = w6 := ⟨_, rfl⟩
      have P5 : Tuo w5 (w.heap.size + 2) (.int .i64 (M)) (.int .i64 (0)) := by rw [← hw5]; exact R4.out.put0 _
      have R6 : Hid (Tuo w6 (w.heap.size + 2) (.int .i64 (M)) (.int .i64 (N))) := by rw [← hw6]; exact P5.put1 _
      have A6 : Hid (Below w.heap.size w w6) := by rw [← hw6, ← hw5]; exact (A4.out.setCell (by show _ ≤ w.heap.size + 2; omega) _).setCell (by show _ ≤ w.heap.size + 2; omega) _
      have T6 : Hid (Tabs w6) := ht.below A6.out
      obtain ⟨⟨p40, p41, p4l⟩, p4f0, p4f1⟩ := P5
      obtain ⟨⟨q40, q41, q4l⟩, q4f0, q4f1⟩ := R6.out
      go_wp2_with fail
      refine (HVC.out _ T6.out).mono ?_
      rintro e w7 ⟨rfl, hb⟩
      clear x0 x1 xl y0 y1 yl r0 r1 rl rf0 rf1 p40 p41 p4l p4f0 p4f1 q40 q41 q4l q4f0 q4f1
      have A7 := Lib.hid (down A6.out hb)
      have T7 := Lib.hid (T6.out.below hb)
      have R7 := Lib.hid (R6.out.keep hb)
      clear hb A6 T6 R6
      obtain ⟨⟨r0, r1, rl⟩, rf0, rf1⟩ := R7.out
      obtain ⟨w8, hw8⟩ : ∃ w8 : World, w7.setCell ⟨w.heap.size + 2, 0, none⟩ (.int .i64 (M)) = w8 := ⟨_, rfl⟩
      obtain ⟨w9, hw9⟩ : ∃ w9 : World, w8.setCell ⟨w.heap.size + 2, 1, none⟩ (.int .i64 (N)) = w9 := ⟨_, rfl⟩
      have P8 : Tuo w8 (w.heap.size + 2) (.int .i64 (M)) (.int .i64 (N)) := by rw [← hw8]; exact R7.out.put0 _
      have R9 : Hid (Tuo w9 (w.heap.size + 2) (.int .i64 (M)) (.int .i64 (N))) := by rw [← hw9]; exact P8.put1 _
      have A9 : Hid (Below w.heap.size w w9) := by rw [← hw9, ← hw8]; exact (A7.out.setCell (by show _ ≤ w.heap.size + 2; omega) _).setCell (by show _ ≤ w.heap.size + 2; omega) _
      have T9 : Hid (Tabs w9) := ht.below A9.out
      obtain ⟨⟨p70, p71, p7l⟩, p7f0, p7f1⟩ := P8
      obtain ⟨⟨q70, q71, q7l⟩, q7f0, q7f1⟩ := R9.out
      go_wp2
      exact bodyPost_ret (v := .tuple #[.agg #[.int .i64 (M), .int .i64 (N)], .bool true]) (by simp [results, Tryd.results18, go_sem, q70, q71]) rfl ⟨rfl, A9.out⟩
    · rw [show ivB M N = false by rw [ivB_no]; omega] at HVC
      have e0 : mtB a b c d = false := by unfold mtB; rw [v, HM.out, HN.out, decide_eq_false z]; rfl
      rw [show mtF a b c d = 0 by unfold mtF; rw [e0]; rfl, show mtT a b c d = 0 by unfold mtT; rw [e0]; rfl, e0]
      clear e0
      clear HM HN v v1 q p l1 l2 z
      obtain ⟨w1, hw1⟩ : ∃ w1 : World, w.alloc (.cells #[.int .i64 (a), .int .i64 (b)] 23) = w1 := ⟨_, rfl⟩
      have s1 : w1.heap.size = w.heap.size + 1 := by rw [← hw1, size_two]
      obtain ⟨w2, hw2⟩ : ∃ w2 : World, w1.alloc (.cells #[.int .i64 (c), .int .i64 (d)] 23) = w2 := ⟨_, rfl⟩
      have s2 : w2.heap.size = w.heap.size + 2 := by rw [← hw2, size_two, s1]
      obtain ⟨w3, hw3⟩ : ∃ w3 : World, w2.alloc (.cells #[.int .i64 (0), .int .i64 (0)] 23) = w3 := ⟨_, rfl⟩
      have s3 : w3.heap.size = w.heap.size + 3 := by rw [← hw3, size_two, s2]
      have X1 : Two w1 (w.heap.size) (.int .i64 (a)) (.int .i64 (b)) := by rw [← hw1]; exact Two.new (here _)
      have X2 : Two w2 (w.heap.size) (.int .i64 (a)) (.int .i64 (b)) := by rw [← hw2]; exact X1.keep (grow (here _) _)
      have X3 : Two w3 (w.heap.size) (.int .i64 (a)) (.int .i64 (b)) := by rw [← hw3]; exact X2.keep (grow (here _) _)
      have Y2 : Two w2 (w.heap.size + 1) (.int .i64 (c)) (.int .i64 (d)) := by rw [← s1, ← hw2]; exact Two.new (here _)
      have Y3 : Two w3 (w.heap.size + 1) (.int .i64 (c)) (.int .i64 (d)) := by rw [← hw3]; exact Y2.keep (grow (here _) _)
      have R3 : Tuo w3 (w.heap.size + 2) (.int .i64 (0)) (.int .i64 (0)) := by rw [← s2, ← hw3]; exact Tuo.new _ _ _ _
      have A3 : Below w.heap.size w w3 := by rw [← hw3, ← hw2, ← hw1]; exact (grow (grow (grow (here w) _) _) _)
      replace X3 := Lib.hid X3
      replace Y3 := Lib.hid Y3
      replace R3 := Lib.hid R3
      replace A3 := Lib.hid A3
      clear X1 X2
      clear Y2
      obtain ⟨x0, x1, xl⟩ := X3.out
      obtain ⟨y0, y1, yl⟩ := Y3.out
      obtain ⟨⟨r0, r1, rl⟩, rf0, rf1⟩ := R3.out
      have T3 : Hid (Tabs w3) := ht.below A3.out
      go_enter Tryd.func18, Tryd.ntmps18
      go_wp2_with fail
      refine (HV.out _ T3.out).mono ?_
      rintro e w4 ⟨rfl, hb⟩
      clear x0 x1 xl y0 y1 yl r0 r1 rl rf0 rf1
      have A4 := Lib.hid (down A3.out hb)
      have T4 := Lib.hid (T3.out.below hb)
      have X4 := Lib.hid (X3.out.keep hb)
      have Y4 := Lib.hid (Y3.out.keep hb)
      have R4 := Lib.hid (R3.out.keep hb)
      clear hb A3 T3 X3 Y3 R3
      obtain ⟨x0, x1, xl⟩ := X4.out
      obtain ⟨y0, y1, yl⟩ := Y4.out
      obtain ⟨⟨r0, r1, rl⟩, rf0, rf1⟩ := R4.out
      obtain ⟨w5, hw5⟩ : ∃ w5 : World, w4.setCell ⟨w.heap.size + 2, 0, none⟩ (.int .i64 (M)) = w5 := ⟨_, rfl⟩
      obtain ⟨w6, hw6⟩ : ∃ w6 : World, w5.setCell ⟨w.heap.size + 2, 1, none⟩ (.int .i64 (N)) = w6 := ⟨_, rfl⟩
      have P5 : Tuo w5 (w.heap.size + 2) (.int .i64 (M)) (.int .i64 (0)) := by rw [← hw5]; exact R4.out.put0 _
      have R6 : Hid (Tuo w6 (w.heap.size + 2) (.int .i64 (M)) (.int .i64 (N))) := by rw [← hw6]; exact P5.put1 _
      have A6 : Hid (Below w.heap.size w w6) := by rw [← hw6, ← hw5]; exact (A4.out.setCell (by show _ ≤ w.heap.size + 2; omega) _).setCell (by show _ ≤ w.heap.size + 2; omega) _
      have T6 : Hid (Tabs w6) := ht.below A6.out
      obtain ⟨⟨p40, p41, p4l⟩, p4f0, p4f1⟩ := P5
      obtain ⟨⟨q40, q41, q4l⟩, q4f0, q4f1⟩ := R6.out
      go_wp2_with fail
      refine (HVC.out _ T6.out).mono ?_
      rintro e w7 ⟨rfl, hb⟩
      clear x0 x1 xl y0 y1 yl r0 r1 rl rf0 rf1 p40 p41 p4l p4f0 p4f1 q40 q41 q4l q4f0 q4f1
      have A7 := Lib.hid (down A6.out hb)
      have T7 := Lib.hid (T6.out.below hb)
      have R7 := Lib.hid (R6.out.keep hb)
      clear hb A6 T6 R6
      obtain ⟨⟨r0, r1, rl⟩, rf0, rf1⟩ := R7.out
      obtain ⟨w8, hw8⟩ : ∃ w8 : World, w7.setCell ⟨w.heap.size + 2, 0, none⟩ (.int .i64 (0)) = w8 := ⟨_, rfl⟩
      obtain ⟨w9, hw9⟩ : ∃ w9 : World, w8.setCell ⟨w.heap.size + 2, 1, none⟩ (.int .i64 (0)) = w9 := ⟨_, rfl⟩
      have P8 : Tuo w8 (w.heap.size + 2) (.int .i64 (0)) (.int .i64 (N)) := by rw [← hw8]; exact R7.out.put0 _
      have R9 : Hid (Tuo w9 (w.heap.size + 2) (.int .i64 (0)) (.int .i64 (0))) := by rw [← hw9]; exact P8.put1 _
      have A9 : Hid (Below w.heap.size w w9) := by rw [← hw9, ← hw8]; exact (A7.out.setCell (by show _ ≤ w.heap.size + 2; omega) _).setCell (by show _ ≤ w.heap.size + 2; omega) _
      have T9 : Hid (Tabs w9) := ht.below A9.out
      obtain ⟨⟨p70, p71, p7l⟩, p7f0, p7f1⟩ := P8
      obtain ⟨⟨q70, q71, q7l⟩, q7f0, q7f1⟩ := R9.out
      go_wp2
      exact bodyPost_ret (v := .tuple #[.agg #[.int .i64 (0), .int .i64 (0)], .bool false]) (by simp [results, Tryd.results18, go_sem, q70, q71]) rfl ⟨rfl, A9.out⟩
set_option maxRecDepth 100000 in
set_option maxHeartbeats 1000000 in
theorem uvhull (a b c d : Int) (ha : I64 a) (hb : I64 b) (hc : I64 c) (hd : I64 d) (w : World) (ht : Tabs w) :
    Calls Tryd.prog 20 #[.agg #[.int .i64 a, .int .i64 b], .agg #[.int .i64 c, .int .i64 d]] w fun e w' => e = .returned (.tuple #[.agg #[.int .i64 (hlF a b c d), .int .i64 (hlT a b c d)], .int .i64 (hlE a b c d)]) ∧ Below w.heap.size w w' := by
  have HV := Lib.hid (fun w ht => ubv a b c d ha hb hc hd w ht)
  obtain ⟨a0, a1⟩ := ha
  obtain ⟨b0, b1⟩ := hb
  obtain ⟨c0, c1⟩ := hc
  obtain ⟨d0, d1⟩ := hd
  obtain ⟨M, hM⟩ : ∃ M, (if c < a then c else a) = M := ⟨_, rfl⟩
  obtain ⟨N, hN⟩ : ∃ N, (if b < d then d else b) = N := ⟨_, rfl⟩
  have HM : Hid (hiV a c = M) := hM
  have HN : Hid (loV b d = N) := hN
  have M0 : -9223372036854775808 ≤ M ∧ M ≤ 9223372036854775807 := by rw [← hM]; split <;> omega
  have N0 : -9223372036854775808 ≤ N ∧ N ≤ 9223372036854775807 := by rw [← hN]; split <;> omega
  cases v : ivB a b && ivB c d
  · rw [v] at HV
    have e0 : (ivB a b && ivB c d) = false := by exact v
    rw [show hlF a b c d = 0 by unfold hlF; rw [e0]; rfl, show hlT a b c d = 0 by unfold hlT; rw [e0]; rfl, show hlE a b c d = 1 by unfold hlE; rw [e0]; rfl]
    clear e0
    clear HM HN v
    obtain ⟨w1, hw1⟩ : ∃ w1 : World, w.alloc (.cells #[.int .i64 (a), .int .i64 (b)] 23) = w1 := ⟨_, rfl⟩
    have s1 : w1.heap.size = w.heap.size + 1 := by rw [← hw1, size_two]
    obtain ⟨w2, hw2⟩ : ∃ w2 : World, w1.alloc (.cells #[.int .i64 (c), .int .i64 (d)] 23) = w2 := ⟨_, rfl⟩
    have s2 : w2.heap.size = w.heap.size + 2 := by rw [← hw2, size_two, s1]
    obtain ⟨w3, hw3⟩ : ∃ w3 : World, w2.alloc (.cells #[.int .i64 (0), .int .i64 (0)] 23) = w3 := ⟨_, rfl⟩
    have s3 : w3.heap.size = w.heap.size + 3 := by rw [← hw3, size_two, s2]
    have X1 : Two w1 (w.heap.size) (.int .i64 (a)) (.int .i64 (b)) := by rw [← hw1]; exact Two.new (here _)
    have X2 : Two w2 (w.heap.size) (.int .i64 (a)) (.int .i64 (b)) := by rw [← hw2]; exact X1.keep (grow (here _) _)
    have X3 : Two w3 (w.heap.size) (.int .i64 (a)) (.int .i64 (b)) := by rw [← hw3]; exact X2.keep (grow (here _) _)
    have Y2 : Two w2 (w.heap.size + 1) (.int .i64 (c)) (.int .i64 (d)) := by rw [← s1, ← hw2]; exact Two.new (here _)
    have Y3 : Two w3 (w.heap.size + 1) (.int .i64 (c)) (.int .i64 (d)) := by rw [← hw3]; exact Y2.keep (grow (here _) _)
    have R3 : Tuo w3 (w.heap.size + 2) (.int .i64 (0)) (.int .i64 (0)) := by rw [← s2, ← hw3]; exact Tuo.new _ _ _ _
    have A3 : Below w.heap.size w w3 := by rw [← hw3, ← hw2, ← hw1]; exact (grow (grow (grow (here w) _) _) _)
    replace X3 := Lib.hid X3
    replace Y3 := Lib.hid Y3
    replace R3 := Lib.hid R3
    replace A3 := Lib.hid A3
    clear X1 X2
    clear Y2
    obtain ⟨x0, x1, xl⟩ := X3.out
    obtain ⟨y0, y1, yl⟩ := Y3.out
    obtain ⟨⟨r0, r1, rl⟩, rf0, rf1⟩ := R3.out
    have T3 : Hid (Tabs w3) := ht.below A3.out
    go_enter Tryd.func20, Tryd.ntmps20
    go_wp2_with fail
    refine (HV.out _ T3.out).mono ?_
    rintro e w4 ⟨rfl, hb⟩
    clear x0 x1 xl y0 y1 yl r0 r1 rl rf0 rf1
    have A4 := Lib.hid (down A3.out hb)
    have T4 := Lib.hid (T3.out.below hb)
    have X4 := Lib.hid (X3.out.keep hb)
    have Y4 := Lib.hid (Y3.out.keep hb)
    have R4 := Lib.hid (R3.out.keep hb)
    clear hb A3 T3 X3 Y3 R3
    obtain ⟨x0, x1, xl⟩ := X4.out
    obtain ⟨y0, y1, yl⟩ := Y4.out
    obtain ⟨⟨r0, r1, rl⟩, rf0, rf1⟩ := R4.out
    obtain ⟨w5, hw5⟩ : ∃ w5 : World, w4.setCell ⟨w.heap.size + 2, 0, none⟩ (.int .i64 (0)) = w5 := ⟨_, rfl⟩
    obtain ⟨w6, hw6⟩ : ∃ w6 : World, w5.setCell ⟨w.heap.size + 2, 1, none⟩ (.int .i64 (0)) = w6 := ⟨_, rfl⟩
    have P5 : Tuo w5 (w.heap.size + 2) (.int .i64 (0)) (.int .i64 (0)) := by rw [← hw5]; exact R4.out.put0 _
    have R6 : Hid (Tuo w6 (w.heap.size + 2) (.int .i64 (0)) (.int .i64 (0))) := by rw [← hw6]; exact P5.put1 _
    have A6 : Hid (Below w.heap.size w w6) := by rw [← hw6, ← hw5]; exact (A4.out.setCell (by show _ ≤ w.heap.size + 2; omega) _).setCell (by show _ ≤ w.heap.size + 2; omega) _
    have T6 : Hid (Tabs w6) := ht.below A6.out
    obtain ⟨⟨p40, p41, p4l⟩, p4f0, p4f1⟩ := P5
    obtain ⟨⟨q40, q41, q4l⟩, q4f0, q4f1⟩ := R6.out
    go_wp2
    exact bodyPost_ret (v := .tuple #[.agg #[.int .i64 (0), .int .i64 (0)], .int .i64 1]) (by simp [results, Tryd.results20, go_sem, q40, q41]) rfl ⟨rfl, A6.out⟩
  · rw [v] at HV
    rw [show hlF a b c d = M by unfold hlF; rw [v]; exact HM.out, show hlT a b c d = N by unfold hlT; rw [v]; exact HN.out, show hlE a b c d = 0 by unfold hlE; rw [v]; rfl]
    clear HM HN v
    obtain ⟨w1, hw1⟩ : ∃ w1 : World, w.alloc (.cells #[.int .i64 (a), .int .i64 (b)] 23) = w1 := ⟨_, rfl⟩
    have s1 : w1.heap.size = w.heap.size + 1 := by rw [← hw1, size_two]
    obtain ⟨w2, hw2⟩ : ∃ w2 : World, w1.alloc (.cells #[.int .i64 (c), .int .i64 (d)] 23) = w2 := ⟨_, rfl⟩
    have s2 : w2.heap.size = w.heap.size + 2 := by rw [← hw2, size_two, s1]
    obtain ⟨w3, hw3⟩ : ∃ w3 : World, w2.alloc (.cells #[.int .i64 (0), .int .i64 (0)] 23) = w3 := ⟨_, rfl⟩
    have s3 : w3.heap.size = w.heap.size + 3 := by rw [← hw3, size_two, s2]
    have X1 : Two w1 (w.heap.size) (.int .i64 (a)) (.int .i64 (b)) := by rw [← hw1]; exact Two.new (here _)
    have X2 : Two w2 (w.heap.size) (.int .i64 (a)) (.int .i64 (b)) := by rw [← hw2]; exact X1.keep (grow (here _) _)
    have X3 : Two w3 (w.heap.size) (.int .i64 (a)) (.int .i64 (b)) := by rw [← hw3]; exact X2.keep (grow (here _) _)
    have Y2 : Two w2 (w.heap.size + 1) (.int .i64 (c)) (.int .i64 (d)) := by rw [← s1, ← hw2]; exact Two.new (here _)
    have Y3 : Two w3 (w.heap.size + 1) (.int .i64 (c)) (.int .i64 (d)) := by rw [← hw3]; exact Y2.keep (grow (here _) _)
    have R3 : Tuo w3 (w.heap.size + 2) (.int .i64 (0)) (.int .i64 (0)) := by rw [← s2, ← hw3]; exact Tuo.new _ _ _ _
    have A3 : Below w.heap.size w w3 := by rw [← hw3, ← hw2, ← hw1]; exact (grow (grow (grow (here w) _) _) _)
    replace X3 := Lib.hid X3
    replace Y3 := Lib.hid Y3
    replace R3 := Lib.hid R3
    replace A3 := Lib.hid A3
    clear X1 X2
    clear Y2
    obtain ⟨x0, x1, xl⟩ := X3.out
    obtain ⟨y0, y1, yl⟩ := Y3.out
    obtain ⟨⟨r0, r1, rl⟩, rf0, rf1⟩ := R3.out
    have T3 : Hid (Tabs w3) := ht.below A3.out
    go_enter Tryd.func20, Tryd.ntmps20
    go_wp2_with fail
    refine (HV.out _ T3.out).mono ?_
    rintro e w4 ⟨rfl, hb⟩
    clear x0 x1 xl y0 y1 yl r0 r1 rl rf0 rf1
    have A4 := Lib.hid (down A3.out hb)
    have T4 := Lib.hid (T3.out.below hb)
    have X4 := Lib.hid (X3.out.keep hb)
    have Y4 := Lib.hid (Y3.out.keep hb)
    have R4 := Lib.hid (R3.out.keep hb)
    clear hb A3 T3 X3 Y3 R3
    obtain ⟨x0, x1, xl⟩ := X4.out
    obtain ⟨y0, y1, yl⟩ := Y4.out
    obtain ⟨⟨r0, r1, rl⟩, rf0, rf1⟩ := R4.out
    obtain ⟨w5, hw5⟩ : ∃ w5 : World, w4.setCell ⟨w.heap.size + 2, 0, none⟩ (.int .i64 (M)) = w5 := ⟨_, rfl⟩
    obtain ⟨w6, hw6⟩ : ∃ w6 : World, w5.setCell ⟨w.heap.size + 2, 1, none⟩ (.int .i64 (N)) = w6 := ⟨_, rfl⟩
    have P5 : Tuo w5 (w.heap.size + 2) (.int .i64 (M)) (.int .i64 (0)) := by rw [← hw5]; exact R4.out.put0 _
    have R6 : Hid (Tuo w6 (w.heap.size + 2) (.int .i64 (M)) (.int .i64 (N))) := by rw [← hw6]; exact P5.put1 _
    have A6 : Hid (Below w.heap.size w w6) := by rw [← hw6, ← hw5]; exact (A4.out.setCell (by show _ ≤ w.heap.size + 2; omega) _).setCell (by show _ ≤ w.heap.size + 2; omega) _
    have T6 : Hid (Tabs w6) := ht.below A6.out
    obtain ⟨⟨p40, p41, p4l⟩, p4f0, p4f1⟩ := P5
    obtain ⟨⟨q40, q41, q4l⟩, q4f0, q4f1⟩ := R6.out
    go_wp2
    exact bodyPost_ret (v := .tuple #[.agg #[.int .i64 (M), .int .i64 (N)], .int .i64 0]) (by simp [results, Tryd.results20, go_sem, q40, q41]) rfl ⟨rfl, A6.out⟩
set_option maxRecDepth 100000 in
set_option maxHeartbeats 1000000 in
theorem uvmove (a b : Int) (ha : I64 a) (hb : I64 b) (n : Int) (hn : I64 n) (w : World) (ht : Tabs w) :
    Calls Tryd.prog 26 #[.agg #[.int .i64 a, .int .i64 b], .int .i64 n] w fun e w' => e = .returned (.tuple #[.agg #[.int .i64 (mvF a b n), .int .i64 (mvT a b n)], .int .i64 (mvE a b n)]) ∧ Below w.heap.size w w' := by
  have HVA := Lib.hid (fun w ht => uvvalid a b ha hb w ht)
  obtain ⟨a0, a1⟩ := ha
  obtain ⟨b0, b1⟩ := hb
  obtain ⟨n0, n1⟩ := hn
  cases va : ivB a b
  · rw [va] at HVA
    have e0 : mvE a b n = 1 := by unfold mvE; rw [va]; rfl
    rw [show mvF a b n = 0 by unfold mvF; rw [e0]; rfl, show mvT a b n = 0 by unfold mvT; rw [e0]; rfl, e0]
    clear e0
    clear va
    obtain ⟨w1, hw1⟩ : ∃ w1 : World, w.alloc (.cells #[.int .i64 (a), .int .i64 (b)] 23) = w1 := ⟨_, rfl⟩
    have s1 : w1.heap.size = w.heap.size + 1 := by rw [← hw1, size_two]
    obtain ⟨w2, hw2⟩ : ∃ w2 : World, w1.alloc (.cells #[.int .i64 (0), .int .i64 (0)] 23) = w2 := ⟨_, rfl⟩
    have s2 : w2.heap.size = w.heap.size + 2 := by rw [← hw2, size_two, s1]
    have X1 : Two w1 (w.heap.size) (.int .i64 (a)) (.int .i64 (b)) := by rw [← hw1]; exact Two.new (here _)
    have X2 : Two w2 (w.heap.size) (.int .i64 (a)) (.int .i64 (b)) := by rw [← hw2]; exact X1.keep (grow (here _) _)
    have R2 : Tuo w2 (w.heap.size + 1) (.int .i64 (0)) (.int .i64 (0)) := by rw [← s1, ← hw2]; exact Tuo.new _ _ _ _
    have A2 : Below w.heap.size w w2 := by rw [← hw2, ← hw1]; exact (grow (grow (here w) _) _)
    replace X2 := Lib.hid X2
    replace R2 := Lib.hid R2
    replace A2 := Lib.hid A2
    clear X1
    obtain ⟨x0, x1, xl⟩ := X2.out
    obtain ⟨⟨r0, r1, rl⟩, rf0, rf1⟩ := R2.out
    have T2 : Hid (Tabs w2) := ht.below A2.out
    go_enter Tryd.func26, Tryd.ntmps26
    go_wp2_with fail
    refine (HVA.out _ T2.out).mono ?_
    rintro e w3 ⟨rfl, hb⟩
    clear x0 x1 xl r0 r1 rl rf0 rf1
    have A3 := Lib.hid (down A2.out hb)
    have T3 := Lib.hid (T2.out.below hb)
    have X3 := Lib.hid (X2.out.keep hb)
    have R3 := Lib.hid (R2.out.keep hb)
    clear hb A2 T2 X2 R2
    obtain ⟨x0, x1, xl⟩ := X3.out
    obtain ⟨⟨r0, r1, rl⟩, rf0, rf1⟩ := R3.out
    obtain ⟨w4, hw4⟩ : ∃ w4 : World, w3.setCell ⟨w.heap.size + 1, 0, none⟩ (.int .i64 (0)) = w4 := ⟨_, rfl⟩
    obtain ⟨w5, hw5⟩ : ∃ w5 : World, w4.setCell ⟨w.heap.size + 1, 1, none⟩ (.int .i64 (0)) = w5 := ⟨_, rfl⟩
    have P4 : Tuo w4 (w.heap.size + 1) (.int .i64 (0)) (.int .i64 (0)) := by rw [← hw4]; exact R3.out.put0 _
    have R5 : Hid (Tuo w5 (w.heap.size + 1) (.int .i64 (0)) (.int .i64 (0))) := by rw [← hw5]; exact P4.put1 _
    have A5 : Hid (Below w.heap.size w w5) := by rw [← hw5, ← hw4]; exact (A3.out.setCell (by show _ ≤ w.heap.size + 1; omega) _).setCell (by show _ ≤ w.heap.size + 1; omega) _
    have T5 : Hid (Tabs w5) := ht.below A5.out
    obtain ⟨⟨p30, p31, p3l⟩, p3f0, p3f1⟩ := P4
    obtain ⟨⟨q30, q31, q3l⟩, q3f0, q3f1⟩ := R5.out
    go_wp2
    exact bodyPost_ret (v := .tuple #[.agg #[.int .i64 (0), .int .i64 (0)], .int .i64 1]) (by simp [results, Tryd.results26, go_sem, q30, q31]) rfl ⟨rfl, A5.out⟩
  · rw [va] at HVA
    have q := ivB_iff.1 va
    by_cases z : -8796093022208 ≤ n ∧ n ≤ 8796093022208
    · obtain ⟨z0, z1⟩ := z
      have j : -9223372036854775808 ≤ a + n ∧ a + n ≤ 9223372036854775807 := by omega
      have j' : -9223372036854775808 ≤ b + n ∧ b + n ≤ 9223372036854775807 := by omega
      have HVC := Lib.hid (fun w ht => uvvalid (a + n) (b + n) ⟨by omega, by omega⟩ ⟨by omega, by omega⟩ w ht)
      cases vc : ivB (a + n) (b + n)
      · rw [vc] at HVC
        have e0 : mvE a b n = 2 := by unfold mvE; rw [va, vc]; rfl
        rw [show mvF a b n = 0 by unfold mvF; rw [e0]; rfl, show mvT a b n = 0 by unfold mvT; rw [e0]; rfl, e0]
        clear e0
        clear va vc q z0 z1
        obtain ⟨p, hp⟩ : ∃ p, a + n = p := ⟨_, rfl⟩
        obtain ⟨q', hq'⟩ : ∃ q', b + n = q' := ⟨_, rfl⟩
        rw [hp] at HVC j
        rw [hq'] at HVC j'
        obtain ⟨j0, j1⟩ := j
        obtain ⟨j2, j3⟩ := j'
        obtain ⟨w1, hw1⟩ : ∃ w1 : World, w.alloc (.cells #[.int .i64 (a), .int .i64 (b)] 23) = w1 := ⟨_, rfl⟩
        have s1 : w1.heap.size = w.heap.size + 1 := by rw [← hw1, size_two]
        obtain ⟨w2, hw2⟩ : ∃ w2 : World, w1.alloc (.cells #[.int .i64 (0), .int .i64 (0)] 23) = w2 := ⟨_, rfl⟩
        have s2 : w2.heap.size = w.heap.size + 2 := by rw [← hw2, size_two, s1]
        have X1 : Two w1 (w.heap.size) (.int .i64 (a)) (.int .i64 (b)) := by rw [← hw1]; exact Two.new (here _)
        have X2 : Two w2 (w.heap.size) (.int .i64 (a)) (.int .i64 (b)) := by rw [← hw2]; exact X1.keep (grow (here _) _)
        have R2 : Tuo w2 (w.heap.size + 1) (.int .i64 (0)) (.int .i64 (0)) := by rw [← s1, ← hw2]; exact Tuo.new _ _ _ _
        have A2 : Below w.heap.size w w2 := by rw [← hw2, ← hw1]; exact (grow (grow (here w) _) _)
        replace X2 := Lib.hid X2
        replace R2 := Lib.hid R2
        replace A2 := Lib.hid A2
        clear X1
        obtain ⟨x0, x1, xl⟩ := X2.out
        obtain ⟨⟨r0, r1, rl⟩, rf0, rf1⟩ := R2.out
        have T2 : Hid (Tabs w2) := ht.below A2.out
        go_enter Tryd.func26, Tryd.ntmps26
        go_wp2_with fail
        refine (HVA.out _ T2.out).mono ?_
        rintro e w3 ⟨rfl, hb⟩
        clear x0 x1 xl r0 r1 rl rf0 rf1
        have A3 := Lib.hid (down A2.out hb)
        have T3 := Lib.hid (T2.out.below hb)
        have X3 := Lib.hid (X2.out.keep hb)
        have R3 := Lib.hid (R2.out.keep hb)
        clear hb A2 T2 X2 R2
        obtain ⟨x0, x1, xl⟩ := X3.out
        obtain ⟨⟨r0, r1, rl⟩, rf0, rf1⟩ := R3.out
        obtain ⟨w4, hw4⟩ : ∃ w4 : World, w3.alloc (.cells #[.int .i64 (p), .int .i64 (q')] 23) = w4 := ⟨_, rfl⟩
        obtain ⟨B4, HB4⟩ : ∃ B, w3.heap.size = B := ⟨_, rfl⟩
        have S4 : Hid (Two w4 B4 (.int .i64 (p)) (.int .i64 (q'))) := by rw [← hw4, ← HB4]; exact Two.new (here _)
        have X4 := Lib.hid (X3.out.keep (show Below w3.heap.size w3 w4 by rw [← hw4]; exact grow (here _) _))
        have R4 := Lib.hid (R3.out.keep (show Below w3.heap.size w3 w4 by rw [← hw4]; exact grow (here _) _))
        have A4 : Hid (Below w.heap.size w w4) := by rw [← hw4]; exact grow A3.out _
        have T4 : Hid (Tabs w4) := ht.below A4.out
        clear A3 T3 X3 R3
        obtain ⟨nx0, nx1, nxl⟩ := X4.out
        obtain ⟨⟨nr0, nr1, nrl⟩, nrf0, nrf1⟩ := R4.out
        obtain ⟨ns0, ns1, nsl⟩ := S4.out
        go_wp2_with fail
        refine (HVC.out _ T4.out).mono ?_
        rintro e w5 ⟨rfl, hb⟩
        clear x0 x1 xl r0 r1 rl rf0 rf1 nx0 nx1 nxl nr0 nr1 nrl nrf0 nrf1 ns0 ns1 nsl
        have A5 := Lib.hid (down A4.out hb)
        have T5 := Lib.hid (T4.out.below hb)
        have X5 := Lib.hid (X4.out.keep hb)
        have R5 := Lib.hid (R4.out.keep hb)
        have S5 := Lib.hid (S4.out.keep hb)
        clear hb A4 T4 X4 R4 S4
        obtain ⟨x0, x1, xl⟩ := X5.out
        obtain ⟨⟨r0, r1, rl⟩, rf0, rf1⟩ := R5.out
        obtain ⟨s0, s1, sl⟩ := S5.out
        obtain ⟨w6, hw6⟩ : ∃ w6 : World, w5.setCell ⟨w.heap.size + 1, 0, none⟩ (.int .i64 (0)) = w6 := ⟨_, rfl⟩
        obtain ⟨w7, hw7⟩ : ∃ w7 : World, w6.setCell ⟨w.heap.size + 1, 1, none⟩ (.int .i64 (0)) = w7 := ⟨_, rfl⟩
        have P6 : Tuo w6 (w.heap.size + 1) (.int .i64 (0)) (.int .i64 (0)) := by rw [← hw6]; exact R5.out.put0 _
        have R7 : Hid (Tuo w7 (w.heap.size + 1) (.int .i64 (0)) (.int .i64 (0))) := by rw [← hw7]; exact P6.put1 _
        have A7 : Hid (Below w.heap.size w w7) := by rw [← hw7, ← hw6]; exact (A5.out.setCell (by show _ ≤ w.heap.size + 1; omega) _).setCell (by show _ ≤ w.heap.size + 1; omega) _
        have T7 : Hid (Tabs w7) := ht.below A7.out
        obtain ⟨⟨p50, p51, p5l⟩, p5f0, p5f1⟩ := P6
        obtain ⟨⟨q50, q51, q5l⟩, q5f0, q5f1⟩ := R7.out
        go_wp2
        exact bodyPost_ret (v := .tuple #[.agg #[.int .i64 (0), .int .i64 (0)], .int .i64 2]) (by simp [results, Tryd.results26, go_sem, q50, q51]) rfl ⟨rfl, A7.out⟩
      · rw [vc] at HVC
        have e0 : mvE a b n = 0 := by unfold mvE; rw [va, vc]; rfl
        rw [show mvF a b n = a + n by unfold mvF; rw [e0]; rfl, show mvT a b n = b + n by unfold mvT; rw [e0]; rfl, e0]
        clear va vc q z0 z1 e0
        obtain ⟨p, hp⟩ : ∃ p, a + n = p := ⟨_, rfl⟩
        obtain ⟨q', hq'⟩ : ∃ q', b + n = q' := ⟨_, rfl⟩
        rw [hp] at HVC j ⊢
        rw [hq'] at HVC j' ⊢
        obtain ⟨j0, j1⟩ := j
        obtain ⟨j2, j3⟩ := j'
        obtain ⟨w1, hw1⟩ : ∃ w1 : World, w.alloc (.cells #[.int .i64 (a), .int .i64 (b)] 23) = w1 := ⟨_, rfl⟩
        have s1 : w1.heap.size = w.heap.size + 1 := by rw [← hw1, size_two]
        obtain ⟨w2, hw2⟩ : ∃ w2 : World, w1.alloc (.cells #[.int .i64 (0), .int .i64 (0)] 23) = w2 := ⟨_, rfl⟩
        have s2 : w2.heap.size = w.heap.size + 2 := by rw [← hw2, size_two, s1]
        have X1 : Two w1 (w.heap.size) (.int .i64 (a)) (.int .i64 (b)) := by rw [← hw1]; exact Two.new (here _)
        have X2 : Two w2 (w.heap.size) (.int .i64 (a)) (.int .i64 (b)) := by rw [← hw2]; exact X1.keep (grow (here _) _)
        have R2 : Tuo w2 (w.heap.size + 1) (.int .i64 (0)) (.int .i64 (0)) := by rw [← s1, ← hw2]; exact Tuo.new _ _ _ _
        have A2 : Below w.heap.size w w2 := by rw [← hw2, ← hw1]; exact (grow (grow (here w) _) _)
        replace X2 := Lib.hid X2
        replace R2 := Lib.hid R2
        replace A2 := Lib.hid A2
        clear X1
        obtain ⟨x0, x1, xl⟩ := X2.out
        obtain ⟨⟨r0, r1, rl⟩, rf0, rf1⟩ := R2.out
        have T2 : Hid (Tabs w2) := ht.below A2.out
        go_enter Tryd.func26, Tryd.ntmps26
        go_wp2_with fail
        refine (HVA.out _ T2.out).mono ?_
        rintro e w3 ⟨rfl, hb⟩
        clear x0 x1 xl r0 r1 rl rf0 rf1
        have A3 := Lib.hid (down A2.out hb)
        have T3 := Lib.hid (T2.out.below hb)
        have X3 := Lib.hid (X2.out.keep hb)
        have R3 := Lib.hid (R2.out.keep hb)
        clear hb A2 T2 X2 R2
        obtain ⟨x0, x1, xl⟩ := X3.out
        obtain ⟨⟨r0, r1, rl⟩, rf0, rf1⟩ := R3.out
        obtain ⟨w4, hw4⟩ : ∃ w4 : World, w3.alloc (.cells #[.int .i64 (p), .int .i64 (q')] 23) = w4 := ⟨_, rfl⟩
        obtain ⟨B4, HB4⟩ : ∃ B, w3.heap.size = B := ⟨_, rfl⟩
        have S4 : Hid (Two w4 B4 (.int .i64 (p)) (.int .i64 (q'))) := by rw [← hw4, ← HB4]; exact Two.new (here _)
        have X4 := Lib.hid (X3.out.keep (show Below w3.heap.size w3 w4 by rw [← hw4]; exact grow (here _) _))
        have R4 := Lib.hid (R3.out.keep (show Below w3.heap.size w3 w4 by rw [← hw4]; exact grow (here _) _))
        have A4 : Hid (Below w.heap.size w w4) := by rw [← hw4]; exact grow A3.out _
        have T4 : Hid (Tabs w4) := ht.below A4.out
        clear A3 T3 X3 R3
        obtain ⟨nx0, nx1, nxl⟩ := X4.out
        obtain ⟨⟨nr0, nr1, nrl⟩, nrf0, nrf1⟩ := R4.out
        obtain ⟨ns0, ns1, nsl⟩ := S4.out
        go_wp2_with fail
        refine (HVC.out _ T4.out).mono ?_
        rintro e w5 ⟨rfl, hb⟩
        clear x0 x1 xl r0 r1 rl rf0 rf1 nx0 nx1 nxl nr0 nr1 nrl nrf0 nrf1 ns0 ns1 nsl
        have A5 := Lib.hid (down A4.out hb)
        have T5 := Lib.hid (T4.out.below hb)
        have X5 := Lib.hid (X4.out.keep hb)
        have R5 := Lib.hid (R4.out.keep hb)
        have S5 := Lib.hid (S4.out.keep hb)
        clear hb A4 T4 X4 R4 S4
        obtain ⟨x0, x1, xl⟩ := X5.out
        obtain ⟨⟨r0, r1, rl⟩, rf0, rf1⟩ := R5.out
        obtain ⟨s0, s1, sl⟩ := S5.out
        obtain ⟨w6, hw6⟩ : ∃ w6 : World, w5.setCell ⟨w.heap.size + 1, 0, none⟩ (.int .i64 (p)) = w6 := ⟨_, rfl⟩
        obtain ⟨w7, hw7⟩ : ∃ w7 : World, w6.setCell ⟨w.heap.size + 1, 1, none⟩ (.int .i64 (q')) = w7 := ⟨_, rfl⟩
        have P6 : Tuo w6 (w.heap.size + 1) (.int .i64 (p)) (.int .i64 (0)) := by rw [← hw6]; exact R5.out.put0 _
        have R7 : Hid (Tuo w7 (w.heap.size + 1) (.int .i64 (p)) (.int .i64 (q'))) := by rw [← hw7]; exact P6.put1 _
        have A7 : Hid (Below w.heap.size w w7) := by rw [← hw7, ← hw6]; exact (A5.out.setCell (by show _ ≤ w.heap.size + 1; omega) _).setCell (by show _ ≤ w.heap.size + 1; omega) _
        have T7 : Hid (Tabs w7) := ht.below A7.out
        obtain ⟨⟨p50, p51, p5l⟩, p5f0, p5f1⟩ := P6
        obtain ⟨⟨q50, q51, q5l⟩, q5f0, q5f1⟩ := R7.out
        go_wp2
        exact bodyPost_ret (v := .tuple #[.agg #[.int .i64 (p), .int .i64 (q')], .int .i64 0]) (by simp [results, Tryd.results26, go_sem, q50, q51]) rfl ⟨rfl, A7.out⟩
    · obtain ⟨p, hp⟩ : ∃ p, wrap64 (a + n) = p := ⟨_, rfl⟩
      obtain ⟨q', hq'⟩ : ∃ q', wrap64 (b + n) = q' := ⟨_, rfl⟩
      have hp2 := hp
      have hq2 := hq'
      have j : (-9223372036854775808 ≤ p ∧ p ≤ 9223372036854775807) ∧ ¬ (-4398046511104 ≤ p ∧ p ≤ 4398046511104) := by unfold wrap64 at hp; omega
      have j' : -9223372036854775808 ≤ q' ∧ q' ≤ 9223372036854775807 := by unfold wrap64 at hq'; omega
      have HVC := Lib.hid (fun w ht => uvvalid p q' j.1 j' w ht)
      have vq : ivB p q' = false := by
        rw [ivB_no]
        have : -4398046511104 ≤ q' ∧ q' ≤ 4398046511104 → False := by unfold wrap64 at hq'; omega
        omega
      rw [vq] at HVC
      have vc : ivB (a + n) (b + n) = false := by rw [ivB_no]; omega
      have e0 : mvE a b n = 2 := by unfold mvE; rw [va, vc]; rfl
      rw [show mvF a b n = 0 by unfold mvF; rw [e0]; rfl, show mvT a b n = 0 by unfold mvT; rw [e0]; rfl, e0]
      clear e0
      clear va vc q z vq hp2 hq2
      obtain ⟨⟨j0, j1⟩, -⟩ := j
      obtain ⟨j2, j3⟩ := j'
      obtain ⟨w1, hw1⟩ : ∃ w1 : World, w.alloc (.cells #[.int .i64 (a), .int .i64 (b)] 23) = w1 := ⟨_, rfl⟩
      have s1 : w1.heap.size = w.heap.size + 1 := by rw [← hw1, size_two]
      obtain ⟨w2, hw2⟩ : ∃ w2 : World, w1.alloc (.cells #[.int .i64 (0), .int .i64 (0)] 23) = w2 := ⟨_, rfl⟩
      have s2 : w2.heap.size = w.heap.size + 2 := by rw [← hw2, size_two, s1]
      have X1 : Two w1 (w.heap.size) (.int .i64 (a)) (.int .i64 (b)) := by rw [← hw1]; exact Two.new (here _)
      have X2 : Two w2 (w.heap.size) (.int .i64 (a)) (.int .i64 (b)) := by rw [← hw2]; exact X1.keep (grow (here _) _)
      have R2 : Tuo w2 (w.heap.size + 1) (.int .i64 (0)) (.int .i64 (0)) := by rw [← s1, ← hw2]; exact Tuo.new _ _ _ _
      have A2 : Below w.heap.size w w2 := by rw [← hw2, ← hw1]; exact (grow (grow (here w) _) _)
      replace X2 := Lib.hid X2
      replace R2 := Lib.hid R2
      replace A2 := Lib.hid A2
      clear X1
      obtain ⟨x0, x1, xl⟩ := X2.out
      obtain ⟨⟨r0, r1, rl⟩, rf0, rf1⟩ := R2.out
      have T2 : Hid (Tabs w2) := ht.below A2.out
      go_enter Tryd.func26, Tryd.ntmps26
      go_wp2_with fail
      refine (HVA.out _ T2.out).mono ?_
      rintro e w3 ⟨rfl, hb⟩
      clear x0 x1 xl r0 r1 rl rf0 rf1
      have A3 := Lib.hid (down A2.out hb)
      have T3 := Lib.hid (T2.out.below hb)
      have X3 := Lib.hid (X2.out.keep hb)
      have R3 := Lib.hid (R2.out.keep hb)
      clear hb A2 T2 X2 R2
      obtain ⟨x0, x1, xl⟩ := X3.out
      obtain ⟨⟨r0, r1, rl⟩, rf0, rf1⟩ := R3.out
      obtain ⟨w4, hw4⟩ : ∃ w4 : World, w3.alloc (.cells #[.int .i64 (p), .int .i64 (q')] 23) = w4 := ⟨_, rfl⟩
      obtain ⟨B4, HB4⟩ : ∃ B, w3.heap.size = B := ⟨_, rfl⟩
      have S4 : Hid (Two w4 B4 (.int .i64 (p)) (.int .i64 (q'))) := by rw [← hw4, ← HB4]; exact Two.new (here _)
      have X4 := Lib.hid (X3.out.keep (show Below w3.heap.size w3 w4 by rw [← hw4]; exact grow (here _) _))
      have R4 := Lib.hid (R3.out.keep (show Below w3.heap.size w3 w4 by rw [← hw4]; exact grow (here _) _))
      have A4 : Hid (Below w.heap.size w w4) := by rw [← hw4]; exact grow A3.out _
      have T4 : Hid (Tabs w4) := ht.below A4.out
      clear A3 T3 X3 R3
      obtain ⟨nx0, nx1, nxl⟩ := X4.out
      obtain ⟨⟨nr0, nr1, nrl⟩, nrf0, nrf1⟩ := R4.out
      obtain ⟨ns0, ns1, nsl⟩ := S4.out
      go_wp2_with fail
      refine (HVC.out _ T4.out).mono ?_
      rintro e w5 ⟨rfl, hb⟩
      clear x0 x1 xl r0 r1 rl rf0 rf1 nx0 nx1 nxl nr0 nr1 nrl nrf0 nrf1 ns0 ns1 nsl
      have A5 := Lib.hid (down A4.out hb)
      have T5 := Lib.hid (T4.out.below hb)
      have X5 := Lib.hid (X4.out.keep hb)
      have R5 := Lib.hid (R4.out.keep hb)
      have S5 := Lib.hid (S4.out.keep hb)
      clear hb A4 T4 X4 R4 S4
      obtain ⟨x0, x1, xl⟩ := X5.out
      obtain ⟨⟨r0, r1, rl⟩, rf0, rf1⟩ := R5.out
      obtain ⟨s0, s1, sl⟩ := S5.out
      obtain ⟨w6, hw6⟩ : ∃ w6 : World, w5.setCell ⟨w.heap.size + 1, 0, none⟩ (.int .i64 (0)) = w6 := ⟨_, rfl⟩
      obtain ⟨w7, hw7⟩ : ∃ w7 : World, w6.setCell ⟨w.heap.size + 1, 1, none⟩ (.int .i64 (0)) = w7 := ⟨_, rfl⟩
      have P6 : Tuo w6 (w.heap.size + 1) (.int .i64 (0)) (.int .i64 (0)) := by rw [← hw6]; exact R5.out.put0 _
      have R7 : Hid (Tuo w7 (w.heap.size + 1) (.int .i64 (0)) (.int .i64 (0))) := by rw [← hw7]; exact P6.put1 _
      have A7 : Hid (Below w.heap.size w w7) := by rw [← hw7, ← hw6]; exact (A5.out.setCell (by show _ ≤ w.heap.size + 1; omega) _).setCell (by show _ ≤ w.heap.size + 1; omega) _
      have T7 : Hid (Tabs w7) := ht.below A7.out
      obtain ⟨⟨p50, p51, p5l⟩, p5f0, p5f1⟩ := P6
      obtain ⟨⟨q50, q51, q5l⟩, q5f0, q5f1⟩ := R7.out
      go_wp2
      exact bodyPost_ret (v := .tuple #[.agg #[.int .i64 (0), .int .i64 (0)], .int .i64 2]) (by simp [results, Tryd.results26, go_sem, q50, q51]) rfl ⟨rfl, A7.out⟩
end Go.Proofs.YtknlhhjooamfhaaDoor
