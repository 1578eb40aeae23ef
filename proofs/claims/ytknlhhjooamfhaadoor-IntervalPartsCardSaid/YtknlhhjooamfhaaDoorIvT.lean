/- The contract of civiltimeref10.Minus. -/
import Derived.Test.YtknlhhjooamfhaaDoorIvR
import Derived.OwnWalk
namespace Go.Proofs.YtknlhhjooamfhaaDoor
open Go.RowKit
set_option linter.unusedVariables false

theorem Two.under {w w' : World} {B b : Nat} {x y : Value} (h : Two w b x y) (hb : Below B w w') (l : b < B) : Two w' b x y := by
  refine ⟨?_, ?_, by have := hb.size; have := h.lt; omega⟩
  · rw [hb.cell (p := ⟨b, 0, none⟩) l]; exact h.c0
  · rw [hb.cell (p := ⟨b, 1, none⟩) l]; exact h.c1
/-- One more span behind those that a function has made. -/
theorem own_snoc {w : World} {B : Nat} {v : Value} {n : Nat} {l : List (Int × Int)} {p : Int × Int} (h : w.ownsRow B 23 2 v n (pairs l ++ [.int .i64 p.1, .int .i64 p.2])) : w.ownsRow B 23 2 v n (pairs (l ++ [p])) := by
  rw [pairs_append]; exact h
set_option maxRecDepth 100000 in
set_option maxHeartbeats 1000000 in
theorem rminus (a b c d : Int) (ha : I64 a) (hb : I64 b) (hc : I64 c) (hd : I64 d) (w : World) :
    Calls Tryd.prog 24 #[.agg #[.int .i64 a, .int .i64 b], .agg #[.int .i64 c, .int .i64 d]] w fun e w' => (∃ v, e = .returned v ∧ PairS w.heap.size w' v (mnL a b c d)) ∧ Below w.heap.size w w' := by
  have HVA := Lib.hid (fun w => rvalid a b ha hb w)
  have HVB := Lib.hid (fun w => rvalid c d hc hd w)
  obtain ⟨a0, a1⟩ := ha
  obtain ⟨b0, b1⟩ := hb
  obtain ⟨c0, c1⟩ := hc
  obtain ⟨d0, d1⟩ := hd
  obtain ⟨N, hN⟩ : ∃ N, (if c < b then c else b) = N := ⟨_, rfl⟩
  obtain ⟨M, hM⟩ : ∃ M, (if a < d then d else a) = M := ⟨_, rfl⟩
  have HN : Hid (hiV b c = N) := hN
  have HM : Hid (loV a d = M) := hM
  have M0 : -9223372036854775808 ≤ M ∧ M ≤ 9223372036854775807 := by rw [← hM]; split <;> omega
  have N0 : -9223372036854775808 ≤ N ∧ N ≤ 9223372036854775807 := by rw [← hN]; split <;> omega
  obtain ⟨i0, hi, hz0, hz1, hz2⟩ := info_parts infoSpan
  cases va : ivB a b
  · rw [va] at HVA
    have HL : Hid (mnL a b c d = []) := mnL_out (by rw [va]; rfl)
    clear HVB HM HN va
    obtain ⟨w1, hw1⟩ : ∃ w1 : World, w.alloc (.cells #[.int .i64 (a), .int .i64 (b)] 23) = w1 := ⟨_, rfl⟩
    have s1 : w1.heap.size = w.heap.size + 1 := by rw [← hw1, size_two]
    obtain ⟨w2, hw2⟩ : ∃ w2 : World, w1.alloc (.cells #[.int .i64 (c), .int .i64 (d)] 23) = w2 := ⟨_, rfl⟩
    have s2 : w2.heap.size = w.heap.size + 2 := by rw [← hw2, size_two, s1]
    have X1 : Two w1 (w.heap.size) (.int .i64 (a)) (.int .i64 (b)) := by rw [← hw1]; exact Two.new (here _)
    have X2 : Two w2 (w.heap.size) (.int .i64 (a)) (.int .i64 (b)) := by rw [← hw2]; exact X1.keep (grow (here _) _)
    have Y2 : Two w2 (w.heap.size + 1) (.int .i64 (c)) (.int .i64 (d)) := by rw [← s1, ← hw2]; exact Two.new (here _)
    have A2 : Below w.heap.size w w2 := by rw [← hw2, ← hw1]; exact (grow (grow (here w) _) _)
    replace X2 := Lib.hid X2
    replace Y2 := Lib.hid Y2
    replace A2 := Lib.hid A2
    clear X1
    obtain ⟨x0, x1, xl⟩ := X2.out
    obtain ⟨y0, y1, yl⟩ := Y2.out
    go_enter Tryd.func24, Tryd.ntmps24
    go_wp2_with fail
    refine (HVA.out _).mono ?_
    rintro e w3 ⟨rfl, hb⟩
    clear x0 x1 xl y0 y1 yl
    have A3 := Lib.hid (down A2.out hb)
    have X3 := Lib.hid (X2.out.keep hb)
    have Y3 := Lib.hid (Y2.out.keep hb)
    clear hb A2 X2 Y2
    obtain ⟨x0, x1, xl⟩ := X3.out
    obtain ⟨y0, y1, yl⟩ := Y3.out
    go_wp2
    go_ret
    exact ⟨⟨_, rfl, by rw [HL.out]; exact Sl.none _ _⟩, A3.out⟩
  · rw [va] at HVA
    cases vb : ivB c d
    · rw [vb] at HVB
      have HL : Hid (mnL a b c d = []) := mnL_out (by rw [va, vb]; rfl)
      clear HM HN va vb
      obtain ⟨w1, hw1⟩ : ∃ w1 : World, w.alloc (.cells #[.int .i64 (a), .int .i64 (b)] 23) = w1 := ⟨_, rfl⟩
      have s1 : w1.heap.size = w.heap.size + 1 := by rw [← hw1, size_two]
      obtain ⟨w2, hw2⟩ : ∃ w2 : World, w1.alloc (.cells #[.int .i64 (c), .int .i64 (d)] 23) = w2 := ⟨_, rfl⟩
      have s2 : w2.heap.size = w.heap.size + 2 := by rw [← hw2, size_two, s1]
      have X1 : Two w1 (w.heap.size) (.int .i64 (a)) (.int .i64 (b)) := by rw [← hw1]; exact Two.new (here _)
      have X2 : Two w2 (w.heap.size) (.int .i64 (a)) (.int .i64 (b)) := by rw [← hw2]; exact X1.keep (grow (here _) _)
      have Y2 : Two w2 (w.heap.size + 1) (.int .i64 (c)) (.int .i64 (d)) := by rw [← s1, ← hw2]; exact Two.new (here _)
      have A2 : Below w.heap.size w w2 := by rw [← hw2, ← hw1]; exact (grow (grow (here w) _) _)
      replace X2 := Lib.hid X2
      replace Y2 := Lib.hid Y2
      replace A2 := Lib.hid A2
      clear X1
      obtain ⟨x0, x1, xl⟩ := X2.out
      obtain ⟨y0, y1, yl⟩ := Y2.out
      go_enter Tryd.func24, Tryd.ntmps24
      go_wp2_with fail
      refine (HVA.out _).mono ?_
      rintro e w3 ⟨rfl, hb⟩
      clear x0 x1 xl y0 y1 yl
      have A3 := Lib.hid (down A2.out hb)
      have X3 := Lib.hid (X2.out.keep hb)
      have Y3 := Lib.hid (Y2.out.keep hb)
      clear hb A2 X2 Y2
      obtain ⟨x0, x1, xl⟩ := X3.out
      obtain ⟨y0, y1, yl⟩ := Y3.out
      go_wp2_with fail
      refine (HVB.out _).mono ?_
      rintro e w4 ⟨rfl, hb⟩
      clear x0 x1 xl y0 y1 yl
      have A4 := Lib.hid (down A3.out hb)
      have X4 := Lib.hid (X3.out.keep hb)
      have Y4 := Lib.hid (Y3.out.keep hb)
      clear hb A3 X3 Y3
      obtain ⟨x0, x1, xl⟩ := X4.out
      obtain ⟨y0, y1, yl⟩ := Y4.out
      go_wp2
      go_ret
      exact ⟨⟨_, rfl, by rw [HL.out]; exact Sl.none _ _⟩, A4.out⟩
    · rw [vb] at HVB
      have HL0 : Hid (mnL a b c d = mnA a b c d ++ mnZ a b c d) := mnL_in va vb
      clear va vb
      by_cases z1 : a < N
      · have k1 := decide_eq_true z1
        have HA : Hid (mnA a b c d = [(a, N)]) := by show _ = _; rw [← HN.out]; exact mnA_yes (by rw [HN.out]; exact z1)
        by_cases z2 : M < b
        · have k2 := decide_eq_true z2
          have HL : Hid (mnL a b c d = [] ++ [(a, N)] ++ [(M, b)]) := by show _ = _; rw [HL0.out, HA.out, ← HM.out, mnZ_yes (by rw [HM.out]; exact z2)]; rfl
          clear HL0 HA HN HM z1 z2
          obtain ⟨w1, hw1⟩ : ∃ w1 : World, w.alloc (.cells #[.int .i64 (a), .int .i64 (b)] 23) = w1 := ⟨_, rfl⟩
          have s1 : w1.heap.size = w.heap.size + 1 := by rw [← hw1, size_two]
          obtain ⟨w2, hw2⟩ : ∃ w2 : World, w1.alloc (.cells #[.int .i64 (c), .int .i64 (d)] 23) = w2 := ⟨_, rfl⟩
          have s2 : w2.heap.size = w.heap.size + 2 := by rw [← hw2, size_two, s1]
          have X1 : Two w1 (w.heap.size) (.int .i64 (a)) (.int .i64 (b)) := by rw [← hw1]; exact Two.new (here _)
          have X2 : Two w2 (w.heap.size) (.int .i64 (a)) (.int .i64 (b)) := by rw [← hw2]; exact X1.keep (grow (here _) _)
          have Y2 : Two w2 (w.heap.size + 1) (.int .i64 (c)) (.int .i64 (d)) := by rw [← s1, ← hw2]; exact Two.new (here _)
          have A2 : Below w.heap.size w w2 := by rw [← hw2, ← hw1]; exact (grow (grow (here w) _) _)
          replace X2 := Lib.hid X2
          replace Y2 := Lib.hid Y2
          replace A2 := Lib.hid A2
          clear X1
          obtain ⟨x0, x1, xl⟩ := X2.out
          obtain ⟨y0, y1, yl⟩ := Y2.out
          have S2 : Hid (w.heap.size + 2 ≤ w2.heap.size) := by show _ ≤ _; omega
          go_enter Tryd.func24, Tryd.ntmps24
          go_wp2_with fail
          refine (HVA.out _).mono ?_
          rintro e w3 ⟨rfl, hb⟩
          clear x0 x1 xl y0 y1 yl
          have A3 := Lib.hid (down A2.out hb)
          have X3 := Lib.hid (X2.out.keep hb)
          have Y3 := Lib.hid (Y2.out.keep hb)
          clear hb A2 X2 Y2
          obtain ⟨x0, x1, xl⟩ := X3.out
          obtain ⟨y0, y1, yl⟩ := Y3.out
          go_wp2_with fail
          refine (HVB.out _).mono ?_
          rintro e w4 ⟨rfl, hb⟩
          clear x0 x1 xl y0 y1 yl
          have A4 := Lib.hid (down A3.out hb)
          have X4 := Lib.hid (X3.out.keep hb)
          have Y4 := Lib.hid (Y3.out.keep hb)
          clear hb A3 X3 Y3
          obtain ⟨x0, x1, xl⟩ := X4.out
          obtain ⟨y0, y1, yl⟩ := Y4.out
          have S4 : Hid (w.heap.size + 2 ≤ w4.heap.size) := by have := A4.out.size; show _ ≤ _; have := X4.out.lt; have := Y4.out.lt; omega
          have O4 : Hid (w4.ownsRow (w.heap.size + 2) 23 2 (.slice none 0 0) 0 (pairs [])) := World.ownsRow_nil _ _ _ _
          go_wp2_with (at_builtin; refine wpList_append_own _ rfl _ _ 39 rfl (w.heap.size + 2) 23 i0 (.agg #[.int .i64 0, .int .i64 0]) 2 16 Tryd.underlying39 hi hz0 hz1 hz2 rfl (by decide) (.slice none 0 0) 0 (pairs []) rfl (O4.out.alloc _) ⟨w4.heap.size, 0, none⟩ 1 1 [.int .i64 a, .int .i64 N] rfl rfl ?c1_4 ?c2_4 ?c3_4 ?c4_4 ?c5_4 ?_)
          case c1_4 =>
            intro j u hj
            rw [Addr.add_lit, Nat.zero_add, World.cell?_alloc_new]
            simpa using hj
          case c2_4 => intro u hu; simp at hu; rcases hu with rfl | rfl <;> rfl
          case c3_4 => unfold maxLen; omega
          case c4_4 => omega
          case c5_4 => have := S4.out; simp; omega
          intro v4 w5 hown hgrow _
          obtain ⟨ao4, cp4, rfl⟩ := (Sl.owns hown).shape
          have G : Below (w.heap.size + 2) w4 w5 := ((Below.refl _ _).alloc S4.out _).grown hgrow (by have := S4.out; simp; omega) (own_ge O4.out)
          have A5 := Lib.hid (A4.out.trans (G.mono (by omega)))
          have X5 := Lib.hid (X4.out.under G (by omega))
          have Y5 := Lib.hid (Y4.out.under G (by omega))
          have S5 : Hid (w.heap.size + 2 ≤ w5.heap.size) := Nat.le_trans S4.out G.size
          have O5 : Hid (w5.ownsRow (w.heap.size + 2) 23 2 (.slice ao4 (0 + 1) cp4) (0 + 1) (pairs ([] ++ [(a, N)]))) := own_snoc hown
          clear hown hgrow G x0 x1 xl y0 y1 yl
          obtain ⟨x0, x1, xl⟩ := X5.out
          obtain ⟨y0, y1, yl⟩ := Y5.out
          go_wp2_with (at_builtin; refine wpList_append_own _ rfl _ _ 39 rfl (w.heap.size + 2) 23 i0 (.agg #[.int .i64 0, .int .i64 0]) 2 16 Tryd.underlying39 hi hz0 hz1 hz2 rfl (by decide) (.slice ao4 (0 + 1) cp4) (0 + 1) (pairs ([] ++ [(a, N)])) rfl (O5.out.alloc _) ⟨w5.heap.size, 0, none⟩ 1 1 [.int .i64 M, .int .i64 b] rfl rfl ?c1_5 ?c2_5 ?c3_5 ?c4_5 ?c5_5 ?_)
          case c1_5 =>
            intro j u hj
            rw [Addr.add_lit, Nat.zero_add, World.cell?_alloc_new]
            simpa using hj
          case c2_5 => intro u hu; simp at hu; rcases hu with rfl | rfl <;> rfl
          case c3_5 => unfold maxLen; omega
          case c4_5 => omega
          case c5_5 => have := S5.out; simp; omega
          intro v5 w6 hown hgrow _
          obtain ⟨ao5, cp5, rfl⟩ := (Sl.owns hown).shape
          have G : Below (w.heap.size + 2) w5 w6 := ((Below.refl _ _).alloc S5.out _).grown hgrow (by have := S5.out; simp; omega) (own_ge O5.out)
          have A6 := Lib.hid (A5.out.trans (G.mono (by omega)))
          have X6 := Lib.hid (X5.out.under G (by omega))
          have Y6 := Lib.hid (Y5.out.under G (by omega))
          have S6 : Hid (w.heap.size + 2 ≤ w6.heap.size) := Nat.le_trans S5.out G.size
          have O6 : Hid (w6.ownsRow (w.heap.size + 2) 23 2 (.slice ao5 ((0 + 1) + 1) cp5) ((0 + 1) + 1) (pairs (([] ++ [(a, N)]) ++ [(M, b)]))) := own_snoc hown
          clear hown hgrow G x0 x1 xl y0 y1 yl
          obtain ⟨x0, x1, xl⟩ := X6.out
          obtain ⟨y0, y1, yl⟩ := Y6.out
          have PS := Sl.owns O6.out
          have PL : Hid (PairS w.heap.size w6 (.slice ao5 ((0 + 1) + 1) cp5) (mnL a b c d)) := by
            rw [HL.out]; exact Sl.weak PS (by omega)
          clear PS
          go_wp2
          go_ret
          exact ⟨⟨_, rfl, PL.out⟩, A6.out⟩
        · have k2 := decide_eq_false z2
          have HL : Hid (mnL a b c d = [] ++ [(a, N)]) := by show _ = _; rw [HL0.out, HA.out, mnZ_no (by rw [HM.out]; exact z2)]; rfl
          clear HL0 HA HN HM z1 z2
          obtain ⟨w1, hw1⟩ : ∃ w1 : World, w.alloc (.cells #[.int .i64 (a), .int .i64 (b)] 23) = w1 := ⟨_, rfl⟩
          have s1 : w1.heap.size = w.heap.size + 1 := by rw [← hw1, size_two]
          obtain ⟨w2, hw2⟩ : ∃ w2 : World, w1.alloc (.cells #[.int .i64 (c), .int .i64 (d)] 23) = w2 := ⟨_, rfl⟩
          have s2 : w2.heap.size = w.heap.size + 2 := by rw [← hw2, size_two, s1]
          have X1 : Two w1 (w.heap.size) (.int .i64 (a)) (.int .i64 (b)) := by rw [← hw1]; exact Two.new (here _)
          have X2 : Two w2 (w.heap.size) (.int .i64 (a)) (.int .i64 (b)) := by rw [← hw2]; exact X1.keep (grow (here _) _)
          have Y2 : Two w2 (w.heap.size + 1) (.int .i64 (c)) (.int .i64 (d)) := by rw [← s1, ← hw2]; exact Two.new (here _)
          have A2 : Below w.heap.size w w2 := by rw [← hw2, ← hw1]; exact (grow (grow (here w) _) _)
          replace X2 := Lib.hid X2
          replace Y2 := Lib.hid Y2
          replace A2 := Lib.hid A2
          clear X1
          obtain ⟨x0, x1, xl⟩ := X2.out
          obtain ⟨y0, y1, yl⟩ := Y2.out
          have S2 : Hid (w.heap.size + 2 ≤ w2.heap.size) := by show _ ≤ _; omega
          go_enter Tryd.func24, Tryd.ntmps24
          go_wp2_with fail
          refine (HVA.out _).mono ?_
          rintro e w3 ⟨rfl, hb⟩
          clear x0 x1 xl y0 y1 yl
          have A3 := Lib.hid (down A2.out hb)
          have X3 := Lib.hid (X2.out.keep hb)
          have Y3 := Lib.hid (Y2.out.keep hb)
          clear hb A2 X2 Y2
          obtain ⟨x0, x1, xl⟩ := X3.out
          obtain ⟨y0, y1, yl⟩ := Y3.out
          go_wp2_with fail
          refine (HVB.out _).mono ?_
          rintro e w4 ⟨rfl, hb⟩
          clear x0 x1 xl y0 y1 yl
          have A4 := Lib.hid (down A3.out hb)
          have X4 := Lib.hid (X3.out.keep hb)
          have Y4 := Lib.hid (Y3.out.keep hb)
          clear hb A3 X3 Y3
          obtain ⟨x0, x1, xl⟩ := X4.out
          obtain ⟨y0, y1, yl⟩ := Y4.out
          have S4 : Hid (w.heap.size + 2 ≤ w4.heap.size) := by have := A4.out.size; show _ ≤ _; have := X4.out.lt; have := Y4.out.lt; omega
          have O4 : Hid (w4.ownsRow (w.heap.size + 2) 23 2 (.slice none 0 0) 0 (pairs [])) := World.ownsRow_nil _ _ _ _
          go_wp2_with (at_builtin; refine wpList_append_own _ rfl _ _ 39 rfl (w.heap.size + 2) 23 i0 (.agg #[.int .i64 0, .int .i64 0]) 2 16 Tryd.underlying39 hi hz0 hz1 hz2 rfl (by decide) (.slice none 0 0) 0 (pairs []) rfl (O4.out.alloc _) ⟨w4.heap.size, 0, none⟩ 1 1 [.int .i64 a, .int .i64 N] rfl rfl ?c1_4 ?c2_4 ?c3_4 ?c4_4 ?c5_4 ?_)
          case c1_4 =>
            intro j u hj
            rw [Addr.add_lit, Nat.zero_add, World.cell?_alloc_new]
            simpa using hj
          case c2_4 => intro u hu; simp at hu; rcases hu with rfl | rfl <;> rfl
          case c3_4 => unfold maxLen; omega
          case c4_4 => omega
          case c5_4 => have := S4.out; simp; omega
          intro v4 w5 hown hgrow _
          obtain ⟨ao4, cp4, rfl⟩ := (Sl.owns hown).shape
          have G : Below (w.heap.size + 2) w4 w5 := ((Below.refl _ _).alloc S4.out _).grown hgrow (by have := S4.out; simp; omega) (own_ge O4.out)
          have A5 := Lib.hid (A4.out.trans (G.mono (by omega)))
          have X5 := Lib.hid (X4.out.under G (by omega))
          have Y5 := Lib.hid (Y4.out.under G (by omega))
          have S5 : Hid (w.heap.size + 2 ≤ w5.heap.size) := Nat.le_trans S4.out G.size
          have O5 : Hid (w5.ownsRow (w.heap.size + 2) 23 2 (.slice ao4 (0 + 1) cp4) (0 + 1) (pairs ([] ++ [(a, N)]))) := own_snoc hown
          clear hown hgrow G x0 x1 xl y0 y1 yl
          obtain ⟨x0, x1, xl⟩ := X5.out
          obtain ⟨y0, y1, yl⟩ := Y5.out
          have PS := Sl.owns O5.out
          have PL : Hid (PairS w.heap.size w5 (.slice ao4 (0 + 1) cp4) (mnL a b c d)) := by
            rw [HL.out]; exact Sl.weak PS (by omega)
          clear PS
          go_wp2
          go_ret
          exact ⟨⟨_, rfl, PL.out⟩, A5.out⟩
      · have k1 := decide_eq_false z1
        have HA : Hid (mnA a b c d = []) := mnA_no (by rw [HN.out]; exact z1)
        by_cases z2 : M < b
        · have k2 := decide_eq_true z2
          have HL : Hid (mnL a b c d = [] ++ [(M, b)]) := by show _ = _; rw [HL0.out, HA.out, ← HM.out, mnZ_yes (by rw [HM.out]; exact z2)]
          clear HL0 HA HN HM z1 z2
          obtain ⟨w1, hw1⟩ : ∃ w1 : World, w.alloc (.cells #[.int .i64 (a), .int .i64 (b)] 23) = w1 := ⟨_, rfl⟩
          have s1 : w1.heap.size = w.heap.size + 1 := by rw [← hw1, size_two]
          obtain ⟨w2, hw2⟩ : ∃ w2 : World, w1.alloc (.cells #[.int .i64 (c), .int .i64 (d)] 23) = w2 := ⟨_, rfl⟩
          have s2 : w2.heap.size = w.heap.size + 2 := by rw [← hw2, size_two, s1]
          have X1 : Two w1 (w.heap.size) (.int .i64 (a)) (.int .i64 (b)) := by rw [← hw1]; exact Two.new (here _)
          have X2 : Two w2 (w.heap.size) (.int .i64 (a)) (.int .i64 (b)) := by rw [← hw2]; exact X1.keep (grow (here _) _)
          have Y2 : Two w2 (w.heap.size + 1) (.int .i64 (c)) (.int .i64 (d)) := by rw [← s1, ← hw2]; exact Two.new (here _)
          have A2 : Below w.heap.size w w2 := by rw [← hw2, ← hw1]; exact (grow (grow (here w) _) _)
          replace X2 := Lib.hid X2
          replace Y2 := Lib.hid Y2
          replace A2 := Lib.hid A2
          clear X1
          obtain ⟨x0, x1, xl⟩ := X2.out
          obtain ⟨y0, y1, yl⟩ := Y2.out
          have S2 : Hid (w.heap.size + 2 ≤ w2.heap.size) := by show _ ≤ _; omega
          go_enter Tryd.func24, Tryd.ntmps24
          go_wp2_with fail
          refine (HVA.out _).mono ?_
          rintro e w3 ⟨rfl, hb⟩
          clear x0 x1 xl y0 y1 yl
          have A3 := Lib.hid (down A2.out hb)
          have X3 := Lib.hid (X2.out.keep hb)
          have Y3 := Lib.hid (Y2.out.keep hb)
          clear hb A2 X2 Y2
          obtain ⟨x0, x1, xl⟩ := X3.out
          obtain ⟨y0, y1, yl⟩ := Y3.out
          go_wp2_with fail
          refine (HVB.out _).mono ?_
          rintro e w4 ⟨rfl, hb⟩
          clear x0 x1 xl y0 y1 yl
          have A4 := Lib.hid (down A3.out hb)
          have X4 := Lib.hid (X3.out.keep hb)
          have Y4 := Lib.hid (Y3.out.keep hb)
          clear hb A3 X3 Y3
          obtain ⟨x0, x1, xl⟩ := X4.out
          obtain ⟨y0, y1, yl⟩ := Y4.out
          have S4 : Hid (w.heap.size + 2 ≤ w4.heap.size) := by have := A4.out.size; show _ ≤ _; have := X4.out.lt; have := Y4.out.lt; omega
          have O4 : Hid (w4.ownsRow (w.heap.size + 2) 23 2 (.slice none 0 0) 0 (pairs [])) := World.ownsRow_nil _ _ _ _
          go_wp2_with (at_builtin; refine wpList_append_own _ rfl _ _ 39 rfl (w.heap.size + 2) 23 i0 (.agg #[.int .i64 0, .int .i64 0]) 2 16 Tryd.underlying39 hi hz0 hz1 hz2 rfl (by decide) (.slice none 0 0) 0 (pairs []) rfl (O4.out.alloc _) ⟨w4.heap.size, 0, none⟩ 1 1 [.int .i64 M, .int .i64 b] rfl rfl ?c1_4 ?c2_4 ?c3_4 ?c4_4 ?c5_4 ?_)
          case c1_4 =>
            intro j u hj
            rw [Addr.add_lit, Nat.zero_add, World.cell?_alloc_new]
            simpa using hj
          case c2_4 => intro u hu; simp at hu; rcases hu with rfl | rfl <;> rfl
          case c3_4 => unfold maxLen; omega
          case c4_4 => omega
          case c5_4 => have := S4.out; simp; omega
          intro v4 w5 hown hgrow _
          obtain ⟨ao4, cp4, rfl⟩ := (Sl.owns hown).shape
          have G : Below (w.heap.size + 2) w4 w5 := ((Below.refl _ _).alloc S4.out _).grown hgrow (by have := S4.out; simp; omega) (own_ge O4.out)
          have A5 := Lib.hid (A4.out.trans (G.mono (by omega)))
          have X5 := Lib.hid (X4.out.under G (by omega))
          have Y5 := Lib.hid (Y4.out.under G (by omega))
          have S5 : Hid (w.heap.size + 2 ≤ w5.heap.size) := Nat.le_trans S4.out G.size
          have O5 : Hid (w5.ownsRow (w.heap.size + 2) 23 2 (.slice ao4 (0 + 1) cp4) (0 + 1) (pairs ([] ++ [(M, b)]))) := own_snoc hown
          clear hown hgrow G x0 x1 xl y0 y1 yl
          obtain ⟨x0, x1, xl⟩ := X5.out
          obtain ⟨y0, y1, yl⟩ := Y5.out
          have PS := Sl.owns O5.out
          have PL : Hid (PairS w.heap.size w5 (.slice ao4 (0 + 1) cp4) (mnL a b c d)) := by
            rw [HL.out]; exact Sl.weak PS (by omega)
          clear PS
          go_wp2
          go_ret
          exact ⟨⟨_, rfl, PL.out⟩, A5.out⟩
        · have k2 := decide_eq_false z2
          have HL : Hid (mnL a b c d = []) := by show _ = _; rw [HL0.out, HA.out, mnZ_no (by rw [HM.out]; exact z2)]; rfl
          clear HL0 HA HN HM z1 z2
          obtain ⟨w1, hw1⟩ : ∃ w1 : World, w.alloc (.cells #[.int .i64 (a), .int .i64 (b)] 23) = w1 := ⟨_, rfl⟩
          have s1 : w1.heap.size = w.heap.size + 1 := by rw [← hw1, size_two]
          obtain ⟨w2, hw2⟩ : ∃ w2 : World, w1.alloc (.cells #[.int .i64 (c), .int .i64 (d)] 23) = w2 := ⟨_, rfl⟩
          have s2 : w2.heap.size = w.heap.size + 2 := by rw [← hw2, size_two, s1]
          have X1 : Two w1 (w.heap.size) (.int .i64 (a)) (.int .i64 (b)) := by rw [← hw1]; exact Two.new (here _)
          have X2 : Two w2 (w.heap.size) (.int .i64 (a)) (.int .i64 (b)) := by rw [← hw2]; exact X1.keep (grow (here _) _)
          have Y2 : Two w2 (w.heap.size + 1) (.int .i64 (c)) (.int .i64 (d)) := by rw [← s1, ← hw2]; exact Two.new (here _)
          have A2 : Below w.heap.size w w2 := by rw [← hw2, ← hw1]; exact (grow (grow (here w) _) _)
          replace X2 := Lib.hid X2
          replace Y2 := Lib.hid Y2
          replace A2 := Lib.hid A2
          clear X1
          obtain ⟨x0, x1, xl⟩ := X2.out
          obtain ⟨y0, y1, yl⟩ := Y2.out
          have S2 : Hid (w.heap.size + 2 ≤ w2.heap.size) := by show _ ≤ _; omega
          go_enter Tryd.func24, Tryd.ntmps24
          go_wp2_with fail
          refine (HVA.out _).mono ?_
          rintro e w3 ⟨rfl, hb⟩
          clear x0 x1 xl y0 y1 yl
          have A3 := Lib.hid (down A2.out hb)
          have X3 := Lib.hid (X2.out.keep hb)
          have Y3 := Lib.hid (Y2.out.keep hb)
          clear hb A2 X2 Y2
          obtain ⟨x0, x1, xl⟩ := X3.out
          obtain ⟨y0, y1, yl⟩ := Y3.out
          go_wp2_with fail
          refine (HVB.out _).mono ?_
          rintro e w4 ⟨rfl, hb⟩
          clear x0 x1 xl y0 y1 yl
          have A4 := Lib.hid (down A3.out hb)
          have X4 := Lib.hid (X3.out.keep hb)
          have Y4 := Lib.hid (Y3.out.keep hb)
          clear hb A3 X3 Y3
          obtain ⟨x0, x1, xl⟩ := X4.out
          obtain ⟨y0, y1, yl⟩ := Y4.out
          have S4 : Hid (w.heap.size + 2 ≤ w4.heap.size) := by have := A4.out.size; show _ ≤ _; have := X4.out.lt; have := Y4.out.lt; omega
          have O4 : Hid (w4.ownsRow (w.heap.size + 2) 23 2 (.slice none 0 0) 0 (pairs [])) := World.ownsRow_nil _ _ _ _
          have PS := Sl.owns O4.out
          have PL : Hid (PairS w.heap.size w4 (.slice none 0 0) (mnL a b c d)) := by
            rw [HL.out]; exact Sl.weak PS (by omega)
          clear PS
          go_wp2
          go_ret
          exact ⟨⟨_, rfl, PL.out⟩, A4.out⟩
end Go.Proofs.YtknlhhjooamfhaaDoor
