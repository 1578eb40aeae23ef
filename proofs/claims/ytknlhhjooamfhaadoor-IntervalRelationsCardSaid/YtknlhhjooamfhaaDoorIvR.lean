/- Contracts of civiltimeref10 but for names. -/
import Derived.Test.YtknlhhjooamfhaaDoorLIvM
import Derived.Test.YtknlhhjooamfhaaDoorLSl
import Derived.Test.YtknlhhjooamfhaaDoorLOwn
import Derived.OwnWalk
import Derived.Deep.QuietTactic
import Derived.BigQuiet
import Derived.Outline
namespace Go.Proofs.YtknlhhjooamfhaaDoor
open Go.RowKit
set_option linter.unusedVariables false

theorem infoSpan : (Tryd.prog.info? 23).map (fun i => (i.zero, i.size, i.bytes)) = some (some (.agg #[.int .i64 0, .int .i64 0]), 2, 16) := by kernel_rfl
def liB (x : Int) : Bool := decide (-4398046511104 ≤ x) && decide (x ≤ 4398046511104)
theorem iv_li (a b : Int) : ivB a b = (liB a && liB b && decide (a < b)) := by
  unfold ivB liB
  rw [Bool.eq_iff_iff]; simp only [Bool.and_eq_true, decide_eq_true_eq]; omega
/-- A boxed struct of two cells that may be written. -/
structure Tuo (w : World) (b : Nat) (x y : Value) : Prop where
  t : Two w b x y
  f0 : w.frozen? ⟨b, 0, none⟩ = false
  f1 : w.frozen? ⟨b, 1, none⟩ = false
theorem Tuo.keep {w w' : World} {b : Nat} {x y : Value} (h : Tuo w b x y) (hb : Below w.heap.size w w') : Tuo w' b x y :=
  ⟨h.t.keep hb, by rw [hb.frozen (p := ⟨b, 0, none⟩) h.t.lt]; exact h.f0, by rw [hb.frozen (p := ⟨b, 1, none⟩) h.t.lt]; exact h.f1⟩
theorem Tuo.new (w : World) (x y : Value) (t : TypeId) : Tuo (w.alloc (.cells #[x, y] t)) w.heap.size x y :=
  ⟨Two.new (here _), World.frozen?_alloc_new _ _ _ _, World.frozen?_alloc_new _ _ _ _⟩
theorem Tuo.put {w : World} {b : Nat} {x y : Value} (h : Tuo w b x y) (u v : Value) : Two ((w.setCell ⟨b, 0, none⟩ u).setCell ⟨b, 1, none⟩ v) b u v :=
  ⟨by rw [World.cell?_setCell_other (h := by simp)]; exact World.cell?_setCell_same w _ u h.t.c0, World.cell?_setCell_same _ _ v (by rw [World.cell?_setCell_other (h := by simp)]; exact h.t.c1), by rw [size_set, size_set]; exact h.t.lt⟩
theorem rline (x : Int) (h : I64 x) (w : World) :
    Calls Tryd.prog 39 #[.int .i64 x] w fun e w' => e = .returned (.bool (liB x)) ∧ w = w' := by
  obtain ⟨h0, h1⟩ := h
  unfold liB
  cases p : decide (-4398046511104 ≤ x) <;> cases q : decide (x ≤ 4398046511104)
  all_goals
    go_enter Tryd.func39, Tryd.ntmps39
    go_wp2
    go_ret
    exact ⟨rfl, rfl⟩
theorem rvalid (a b : Int) (ha : I64 a) (hb : I64 b) (w : World) :
    Calls Tryd.prog 25 #[.agg #[.int .i64 a, .int .i64 b]] w fun e w' => e = .returned (.bool (ivB a b)) ∧ Below w.heap.size w w' := by
  have HA := fun w => rline a ha w
  have HB := fun w => rline b hb w
  rw [iv_li]
  obtain ⟨x0, x1, xlt⟩ := Two.new (here (w.alloc (.cells #[.int .i64 a, .int .i64 b] 23)))
  obtain ⟨a0, a1⟩ := ha
  obtain ⟨b0, b1⟩ := hb
  generalize liB a = p at *
  generalize liB b = q at *
  replace HA := Lib.hid HA
  replace HB := Lib.hid HB
  cases p <;> cases q <;> cases r : decide (a < b)
  all_goals
    go_enter Tryd.func25, Tryd.ntmps25
    go_wp2_with (first | (with_reducible refine (HA.out _).mono ?_) | refine (HB.out _).mono ?_); rintro e w1 ⟨rfl, rfl⟩
    try (go_wp2_with (first | (with_reducible refine (HB.out _).mono ?_) | refine (HA.out _).mono ?_); rintro e w2 ⟨rfl, rfl⟩)
    go_wp2
    go_ret
    exact ⟨rfl, grow (here w) _⟩
set_option maxRecDepth 100000 in
set_option maxHeartbeats 1000000 in
theorem rof (a b c d : Int) (ha : I64 a) (hb : I64 b) (hc : I64 c) (hd : I64 d) (w : World) :
    Calls Tryd.prog 13 #[.agg #[.int .i64 a, .int .i64 b], .agg #[.int .i64 c, .int .i64 d]] w fun e w' => e = .returned (.int .i64 (ofV a b c d)) ∧ Below w.heap.size w w' := by
  have HVA := Lib.hid (fun w => rvalid a b ha hb w)
  have HVB := Lib.hid (fun w => rvalid c d hc hd w)
  have A2 := Lib.hid (grow (grow (here w) (.cells #[.int .i64 a, .int .i64 b] 23)) (.cells #[.int .i64 c, .int .i64 d] 23))
  have X2 := Lib.hid ((Two.new (here (w.alloc (.cells #[.int .i64 a, .int .i64 b] 23)))).old (.cells #[.int .i64 c, .int .i64 d] 23))
  have Y2 := Lib.hid (Two.new (here ((w.alloc (.cells #[.int .i64 a, .int .i64 b] 23)).alloc (.cells #[.int .i64 c, .int .i64 d] 23))))
  rw [size_two] at Y2
  obtain ⟨x0, x1, xl⟩ := X2.out
  obtain ⟨y0, y1, yl⟩ := Y2.out
  cases va : ivB a b
  · rw [ofV_out (by rw [va]; rfl)]
    rw [va] at HVA
    clear HVB
    obtain ⟨a0, a1⟩ := ha
    obtain ⟨b0, b1⟩ := hb
    obtain ⟨c0, c1⟩ := hc
    obtain ⟨d0, d1⟩ := hd
    go_enter Tryd.func13, Tryd.ntmps13
    go_wp2_with fail
    refine (HVA.out _).mono ?_
    rintro e w3 ⟨rfl, hb3⟩
    have A3 := Lib.hid (down A2.out hb3)
    clear hb3 A2
    go_wp2
    go_ret
    exact ⟨rfl, A3.out⟩
  · rw [va] at HVA
    cases vb : ivB c d
    · rw [ofV_out (by rw [va, vb]; rfl)]
      rw [vb] at HVB
      obtain ⟨a0, a1⟩ := ha
      obtain ⟨b0, b1⟩ := hb
      obtain ⟨c0, c1⟩ := hc
      obtain ⟨d0, d1⟩ := hd
      go_enter Tryd.func13, Tryd.ntmps13
      go_wp2_with fail
      refine (HVA.out _).mono ?_
      rintro e w3 ⟨rfl, hb3⟩
      have A3 := Lib.hid (down A2.out hb3)
      have X3 := Lib.hid (X2.out.keep hb3)
      have Y3 := Lib.hid (Y2.out.keep hb3)
      clear hb3 A2 X2 Y2
      clear x0 x1 xl y0 y1 yl
      obtain ⟨x0, x1, xl⟩ := X3.out
      obtain ⟨y0, y1, yl⟩ := Y3.out
      go_wp2_with fail
      refine (HVB.out _).mono ?_
      rintro e w4 ⟨rfl, hb4⟩
      have A4 := Lib.hid (down A3.out hb4)
      clear hb4 A3
      go_wp2
      go_ret
      exact ⟨rfl, A4.out⟩
    · rw [ofV_in va vb]
      rw [vb] at HVB
      clear va vb
      obtain ⟨a0, a1⟩ := ha
      obtain ⟨b0, b1⟩ := hb
      obtain ⟨c0, c1⟩ := hc
      obtain ⟨d0, d1⟩ := hd
      go_enter Tryd.func13, Tryd.ntmps13
      go_wp2_with fail
      refine (HVA.out _).mono ?_
      rintro e w3 ⟨rfl, hb3⟩
      have A3 := Lib.hid (down A2.out hb3)
      have X3 := Lib.hid (X2.out.keep hb3)
      have Y3 := Lib.hid (Y2.out.keep hb3)
      clear hb3 A2 X2 Y2
      clear x0 x1 xl y0 y1 yl
      obtain ⟨x0, x1, xl⟩ := X3.out
      obtain ⟨y0, y1, yl⟩ := Y3.out
      go_wp2_with fail
      refine (HVB.out _).mono ?_
      rintro e w4 ⟨rfl, hb4⟩
      have A4 := Lib.hid (down A3.out hb4)
      have X4 := Lib.hid (X3.out.keep hb4)
      have Y4 := Lib.hid (Y3.out.keep hb4)
      clear hb4 A3 X3 Y3
      clear x0 x1 xl y0 y1 yl
      obtain ⟨x0, x1, xl⟩ := X4.out
      obtain ⟨y0, y1, yl⟩ := Y4.out
      by_cases h0 : b < c
      · have k0 : decide (b < c) = true := decide_eq_true h0
        have e : Hid (ofW a b c d = 0) := by show _ = _; unfold ofW; rw [if_pos h0]
        clear h0
        go_wp2
        go_ret
        exact ⟨by rw [e.out]; rfl, A4.out⟩
      · have k0 : decide (b < c) = false := decide_eq_false h0
        by_cases h1 : b = c
        · have k1 : (b == c) = true := beq_iff_eq.2 h1
          have e : Hid (ofW a b c d = 1) := by show _ = _; unfold ofW; rw [if_neg h0, if_pos h1]
          clear h0 h1
          go_wp2
          go_ret
          exact ⟨by rw [e.out]; rfl, A4.out⟩
        · have k1 : (b == c) = false := by rw [beq_eq_false_iff_ne]; exact h1
          by_cases h2 : d < a
          · have k2 : decide (d < a) = true := decide_eq_true h2
            have e : Hid (ofW a b c d = 12) := by show _ = _; unfold ofW; rw [if_neg h0, if_neg h1, if_pos h2]
            clear h0 h1 h2
            go_wp2
            go_ret
            exact ⟨by rw [e.out]; rfl, A4.out⟩
          · have k2 : decide (d < a) = false := decide_eq_false h2
            by_cases h3 : d = a
            · have k3 : (d == a) = true := beq_iff_eq.2 h3
              have e : Hid (ofW a b c d = 11) := by show _ = _; unfold ofW; rw [if_neg h0, if_neg h1, if_neg h2, if_pos h3]
              clear h0 h1 h2 h3
              go_wp2
              go_ret
              exact ⟨by rw [e.out]; rfl, A4.out⟩
            · have k3 : (d == a) = false := by rw [beq_eq_false_iff_ne]; exact h3
              by_cases h4 : a < c
              · have k4 : decide (a < c) = true := decide_eq_true h4
                by_cases h5 : b < d
                · have k5 : decide (b < d) = true := decide_eq_true h5
                  have e : Hid (ofW a b c d = 2) := by show _ = _; unfold ofW; rw [if_neg h0, if_neg h1, if_neg h2, if_neg h3, if_pos h4, if_pos h5]
                  clear h0 h1 h2 h3 h4 h5
                  go_wp2
                  go_ret
                  exact ⟨by rw [e.out]; rfl, A4.out⟩
                · have k5 : decide (b < d) = false := decide_eq_false h5
                  by_cases h6 : b = d
                  · have k6 : (b == d) = true := beq_iff_eq.2 h6
                    have e : Hid (ofW a b c d = 7) := by show _ = _; unfold ofW; rw [if_neg h0, if_neg h1, if_neg h2, if_neg h3, if_pos h4, if_neg h5, if_pos h6]
                    clear h0 h1 h2 h3 h4 h5 h6
                    go_wp2
                    go_ret
                    exact ⟨by rw [e.out]; rfl, A4.out⟩
                  · have k6 : (b == d) = false := by rw [beq_eq_false_iff_ne]; exact h6
                    have e : Hid (ofW a b c d = 8) := by show _ = _; unfold ofW; rw [if_neg h0, if_neg h1, if_neg h2, if_neg h3, if_pos h4, if_neg h5, if_neg h6]
                    clear h0 h1 h2 h3 h4 h5 h6
                    go_wp2
                    go_ret
                    exact ⟨by rw [e.out]; rfl, A4.out⟩
              · have k4 : decide (a < c) = false := decide_eq_false h4
                by_cases h5 : a = c
                · have k5 : (a == c) = true := beq_iff_eq.2 h5
                  by_cases h6 : b < d
                  · have k6 : decide (b < d) = true := decide_eq_true h6
                    have e : Hid (ofW a b c d = 3) := by show _ = _; unfold ofW; rw [if_neg h0, if_neg h1, if_neg h2, if_neg h3, if_neg h4, if_pos h5, if_pos h6]
                    clear h0 h1 h2 h3 h4 h5 h6
                    go_wp2
                    go_ret
                    exact ⟨by rw [e.out]; rfl, A4.out⟩
                  · have k6 : decide (b < d) = false := decide_eq_false h6
                    by_cases h7 : b = d
                    · have k7 : (b == d) = true := beq_iff_eq.2 h7
                      have e : Hid (ofW a b c d = 6) := by show _ = _; unfold ofW; rw [if_neg h0, if_neg h1, if_neg h2, if_neg h3, if_neg h4, if_pos h5, if_neg h6, if_pos h7]
                      clear h0 h1 h2 h3 h4 h5 h6 h7
                      go_wp2
                      go_ret
                      exact ⟨by rw [e.out]; rfl, A4.out⟩
                    · have k7 : (b == d) = false := by rw [beq_eq_false_iff_ne]; exact h7
                      have e : Hid (ofW a b c d = 9) := by show _ = _; unfold ofW; rw [if_neg h0, if_neg h1, if_neg h2, if_neg h3, if_neg h4, if_pos h5, if_neg h6, if_neg h7]
                      clear h0 h1 h2 h3 h4 h5 h6 h7
                      go_wp2
                      go_ret
                      exact ⟨by rw [e.out]; rfl, A4.out⟩
                · have k5 : (a == c) = false := by rw [beq_eq_false_iff_ne]; exact h5
                  by_cases h6 : b < d
                  · have k6 : decide (b < d) = true := decide_eq_true h6
                    have e : Hid (ofW a b c d = 4) := by show _ = _; unfold ofW; rw [if_neg h0, if_neg h1, if_neg h2, if_neg h3, if_neg h4, if_neg h5, if_pos h6]
                    clear h0 h1 h2 h3 h4 h5 h6
                    go_wp2
                    go_ret
                    exact ⟨by rw [e.out]; rfl, A4.out⟩
                  · have k6 : decide (b < d) = false := decide_eq_false h6
                    by_cases h7 : b = d
                    · have k7 : (b == d) = true := beq_iff_eq.2 h7
                      have e : Hid (ofW a b c d = 5) := by show _ = _; unfold ofW; rw [if_neg h0, if_neg h1, if_neg h2, if_neg h3, if_neg h4, if_neg h5, if_neg h6, if_pos h7]
                      clear h0 h1 h2 h3 h4 h5 h6 h7
                      go_wp2
                      go_ret
                      exact ⟨by rw [e.out]; rfl, A4.out⟩
                    · have k7 : (b == d) = false := by rw [beq_eq_false_iff_ne]; exact h7
                      have e : Hid (ofW a b c d = 10) := by show _ = _; unfold ofW; rw [if_neg h0, if_neg h1, if_neg h2, if_neg h3, if_neg h4, if_neg h5, if_neg h6, if_neg h7]
                      clear h0 h1 h2 h3 h4 h5 h6 h7
                      go_wp2
                      go_ret
                      exact ⟨by rw [e.out]; rfl, A4.out⟩
theorem rinv (r : Int) (h : I64 r) (w : World) :
    Calls Tryd.prog 15 #[.int .i64 r] w fun e w' => e = .returned (.int .i64 (invV r)) ∧ w = w' := by
  obtain ⟨h0, h1⟩ := h
  by_cases z : r < 0
  · have k0 := decide_eq_true z
    rw [invV_out (by omega)]
    go_enter Tryd.func15, Tryd.ntmps15
    go_wp2
    go_ret
    exact ⟨rfl, rfl⟩
  · have k0 := decide_eq_false z
    by_cases y : 12 < r
    · have k1 := decide_eq_true y
      rw [invV_out (by omega)]
      go_enter Tryd.func15, Tryd.ntmps15
      go_wp2
      go_ret
      exact ⟨rfl, rfl⟩
    · have k1 := decide_eq_false y
      rw [invV_in (by omega)]
      go_enter Tryd.func15, Tryd.ntmps15
      go_wp2
      go_ret
      exact ⟨rfl, rfl⟩
end Go.Proofs.YtknlhhjooamfhaaDoor
