/- Contracts of civiltimeref11: sets, places, relations. -/
import Derived.Test.YtiaidmjhgfaobaaDoorAlMath
import Derived.Test.YtiaidmjhgfaobaaDoorLSl
import Derived.Test.YtiaidmjhgfaobaaDoorLOwn
import Derived.OwnWalk
import Derived.Deep.QuietTactic
import Derived.BigQuiet
import Derived.Outline
namespace Go.Proofs.YtiaidmjhgfaobaaDoor
open Go.RowKit
set_option linter.unusedVariables false

theorem raset (s : Int) (h : I64 s) (w : World) :
    Calls Tryd.prog 41 #[.int .i64 s] w fun e w' => e = .returned (.bool (isS s)) ∧ w = w' := by
  obtain ⟨h0, h1⟩ := h
  unfold isS
  cases p : decide (0 ≤ s) <;> cases q : decide (s ≤ 8191)
  all_goals
    go_enter Tryd.func41, Tryd.ntmps41
    go_wp2
    go_ret
    exact ⟨rfl, rfl⟩
theorem rahas (S r : Nat) (hS : S < 8192) (hr : r ≤ 12) (w : World) :
    Calls Tryd.prog 43 #[.int .i64 S, .int .i64 r] w fun e w' => e = .returned (.bool (S.testBit r)) ∧ w = w' := by
  have e := Lib.hid (al_has S r hS)
  have s0 : (S : Int) ≤ 8191 := by omega
  go_enter Tryd.func43, Tryd.ntmps43
  go_wp2
  go_ret
  exact ⟨by rw [← e.out]; rfl, rfl⟩
theorem ravalid (a b : Int) (ha : I64 a) (hb : I64 b) (w : World) :
    Calls Tryd.prog 49 #[.agg #[.int .i64 a, .int .i64 b]] w fun e w' => e = .returned (.bool (ivB a b)) ∧ Below w.heap.size w w' := by
  have e : ivB a b = (decide (-4398046511104 ≤ a) && decide (b ≤ 4398046511104) && decide (a < b)) := by
    unfold ivB; rw [Bool.eq_iff_iff]; simp [and_assoc]
  rw [e]
  obtain ⟨x0, x1, xl⟩ := Two.new (here (w.alloc (.cells #[.int .i64 a, .int .i64 b] 30)))
  obtain ⟨a0, a1⟩ := ha
  obtain ⟨b0, b1⟩ := hb
  clear e
  cases p : decide (-4398046511104 ≤ a) <;> cases q : decide (b ≤ 4398046511104) <;> cases r : decide (a < b)
  all_goals
    go_enter Tryd.func49, Tryd.ntmps49
    go_wp2
    go_ret
    exact ⟨rfl, grow (here w) _⟩
theorem raplace (x c d : Int) (hx : I64 x) (hc : I64 c) (hd : I64 d) (w : World) :
    Calls Tryd.prog 60 #[.int .i64 x, .agg #[.int .i64 c, .int .i64 d]] w fun e w' => e = .returned (.int .i64 (plV x c d)) ∧ Below w.heap.size w w' := by
  obtain ⟨y0, y1, yl⟩ := Two.new (here (w.alloc (.cells #[.int .i64 c, .int .i64 d] 30)))
  obtain ⟨x0, x1⟩ := hx
  obtain ⟨c0, c1⟩ := hc
  obtain ⟨d0, d1⟩ := hd
  unfold plV
  by_cases h1 : x < c
  · rw [if_pos h1]
    have k1 := decide_eq_true h1
    clear h1
    go_enter Tryd.func60, Tryd.ntmps60
    go_wp2
    go_ret
    exact ⟨rfl, grow (here w) _⟩
  rw [if_neg h1]
  have k1 := decide_eq_false h1
  by_cases h2 : x = c
  · rw [if_pos h2]
    have k2 : (x == c) = true := beq_iff_eq.2 h2
    clear h1 h2
    go_enter Tryd.func60, Tryd.ntmps60
    go_wp2
    go_ret
    exact ⟨rfl, grow (here w) _⟩
  rw [if_neg h2]
  have k2 : (x == c) = false := by rw [beq_eq_false_iff_ne]; exact h2
  by_cases h3 : x < d
  · rw [if_pos h3]
    have k3 := decide_eq_true h3
    clear h1 h2 h3
    go_enter Tryd.func60, Tryd.ntmps60
    go_wp2
    go_ret
    exact ⟨rfl, grow (here w) _⟩
  rw [if_neg h3]
  have k3 := decide_eq_false h3
  by_cases h4 : x = d
  · rw [if_pos h4]
    have k4 : (x == d) = true := beq_iff_eq.2 h4
    clear h1 h2 h3 h4
    go_enter Tryd.func60, Tryd.ntmps60
    go_wp2
    go_ret
    exact ⟨rfl, grow (here w) _⟩
  rw [if_neg h4]
  have k4 : (x == d) = false := by rw [beq_eq_false_iff_ne]; exact h4
  clear h1 h2 h3 h4
  go_enter Tryd.func60, Tryd.ntmps60
  go_wp2
  go_ret
  exact ⟨rfl, grow (here w) _⟩
structure TabAt (w : World) (b : Nat) (f : Nat → Int) : Prop where
  c : ∀ k, k < 13 → w.cell? ⟨b, k, none⟩ = some (.int .i64 (f k))
  lt : b < w.heap.size
theorem TabAt.keep {w w' : World} {b : Nat} {f : Nat → Int} (h : TabAt w b f) (hb : Below w.heap.size w w') : TabAt w' b f :=
  ⟨fun k hk => by rw [hb.cell (p := ⟨b, k, none⟩) h.lt]; exact h.c k hk, by have := h.lt; have := hb.size; omega⟩
theorem TabAt.newF (w : World) : TabAt (w.alloc (.cells #[.int .i64 1, .int .i64 1, .int .i64 1, .int .i64 2, .int .i64 3, .int .i64 3, .int .i64 2, .int .i64 1, .int .i64 1, .int .i64 2, .int .i64 3, .int .i64 4, .int .i64 5] 3)) w.heap.size plF := by
  refine ⟨fun k hk => ?_, by simp⟩
  rw [World.cell?_alloc_new]
  match k, hk with
  | 0, _ => rfl
  | 1, _ => rfl
  | 2, _ => rfl
  | 3, _ => rfl
  | 4, _ => rfl
  | 5, _ => rfl
  | 6, _ => rfl
  | 7, _ => rfl
  | 8, _ => rfl
  | 9, _ => rfl
  | 10, _ => rfl
  | 11, _ => rfl
  | 12, _ => rfl
theorem TabAt.newS (w : World) : TabAt (w.alloc (.cells #[.int .i64 1, .int .i64 2, .int .i64 3, .int .i64 3, .int .i64 3, .int .i64 4, .int .i64 4, .int .i64 4, .int .i64 5, .int .i64 5, .int .i64 5, .int .i64 5, .int .i64 5] 3)) w.heap.size plS := by
  refine ⟨fun k hk => ?_, by simp⟩
  rw [World.cell?_alloc_new]
  match k, hk with
  | 0, _ => rfl
  | 1, _ => rfl
  | 2, _ => rfl
  | 3, _ => rfl
  | 4, _ => rfl
  | 5, _ => rfl
  | 6, _ => rfl
  | 7, _ => rfl
  | 8, _ => rfl
  | 9, _ => rfl
  | 10, _ => rfl
  | 11, _ => rfl
  | 12, _ => rfl
set_option maxRecDepth 100000 in
set_option maxHeartbeats 1000000 in
theorem raplaces (r : Nat) (hr : r ≤ 12) (w : World) :
    Calls Tryd.prog 54 #[.int .i64 r] w fun e w' => e = .returned (.tuple #[.int .i64 (plF r), .int .i64 (plS r)]) ∧ Below w.heap.size w w' := by
  obtain ⟨w1, hw1⟩ : ∃ w1 : World, w.alloc (.cells #[.int .i64 1, .int .i64 1, .int .i64 1, .int .i64 2, .int .i64 3, .int .i64 3, .int .i64 2, .int .i64 1, .int .i64 1, .int .i64 2, .int .i64 3, .int .i64 4, .int .i64 5] 3) = w1 := ⟨_, rfl⟩
  obtain ⟨w2, hw2⟩ : ∃ w2 : World, w1.alloc (.cells #[.int .i64 1, .int .i64 2, .int .i64 3, .int .i64 3, .int .i64 3, .int .i64 4, .int .i64 4, .int .i64 4, .int .i64 5, .int .i64 5, .int .i64 5, .int .i64 5, .int .i64 5] 3) = w2 := ⟨_, rfl⟩
  have s1 : w1.heap.size = w.heap.size + 1 := by rw [← hw1, size_two]
  have T1 : TabAt w1 w.heap.size plF := by rw [← hw1]; exact TabAt.newF _
  have T2 : TabAt w2 w.heap.size plF := by rw [← hw2]; exact T1.keep (grow (here _) _)
  have S2 : TabAt w2 (w.heap.size + 1) plS := by rw [← s1, ← hw2]; exact TabAt.newS _
  have A2 : Hid (Below w.heap.size w w2) := by rw [← hw2, ← hw1]; exact grow (grow (here w) _) _
  have c1 := T2.c r (by omega)
  have c2 := S2.c r (by omega)
  have l1 := T2.lt
  have l2 := S2.lt
  have r13 : (r : Int) < 13 := by omega
  generalize plF r = x at *
  generalize plS r = y at *
  clear T1 T2 S2
  go_enter Tryd.func54, Tryd.ntmps54
  go_wp2
  go_quiet (fail)
  go_wp2
  go_ret2
  exact ⟨rfl, below_drewN A2.out _⟩
set_option maxRecDepth 100000 in
set_option maxHeartbeats 1000000 in
theorem raof (a b c d : Int) (ha : I64 a) (hb : I64 b) (hc : I64 c) (hd : I64 d) (h : a < b) (k : c < d) (w : World) :
    Calls Tryd.prog 44 #[.agg #[.int .i64 a, .int .i64 b], .agg #[.int .i64 c, .int .i64 d]] w fun e w' => e = .returned (.int .i64 (ofW a b c d)) ∧ Below w.heap.size w w' := by
  have H1 := Lib.hid (fun w => raplace a c d ha hc hd w)
  have H2 := Lib.hid (fun w => raplace b c d hb hc hd w)
  have HP := Lib.hid (fun r hr w => raplaces r hr w)
  obtain ⟨p1, p2⟩ := pl_of h k
  have bd := ofW_bd h k
  obtain ⟨r, hr⟩ : ∃ r : Nat, ofW a b c d = r := ⟨(ofW a b c d).toNat, by omega⟩
  rw [hr] at p1 p2 bd ⊢
  rw [show (((r : Nat) : Int).toNat) = r from rfl] at p1 p2
  have r12 : r ≤ 12 := by omega
  have dist : Hid (∀ i, i < r → plF i = plF r → plS i = plS r → False) := fun i hi e1 e2 => by
    have := pl_dist ⟨i, by omega⟩ ⟨r, by omega⟩ ⟨e1, e2⟩
    have := congrArg Fin.val this
    simp only at this; omega
  rw [p1] at H1
  rw [p2] at H2
  have A2 := Lib.hid (grow (grow (here w) (.cells #[.int .i64 a, .int .i64 b] 30)) (.cells #[.int .i64 c, .int .i64 d] 30))
  have X2 := Lib.hid ((Two.new (here (w.alloc (.cells #[.int .i64 a, .int .i64 b] 30)))).old (.cells #[.int .i64 c, .int .i64 d] 30))
  have Y2 := Lib.hid (Two.new (here ((w.alloc (.cells #[.int .i64 a, .int .i64 b] 30)).alloc (.cells #[.int .i64 c, .int .i64 d] 30))))
  rw [size_two] at Y2
  obtain ⟨w2, hw2⟩ : ∃ w2 : World, (w.alloc (.cells #[.int .i64 a, .int .i64 b] 30)).alloc (.cells #[.int .i64 c, .int .i64 d] 30) = w2 := ⟨_, rfl⟩
  rw [hw2] at A2 X2 Y2
  clear p1 p2 bd hr h k ha hb hc hd
  go_enter Tryd.func44, Tryd.ntmps44
  go_wp2
  clear hw2
  have k0 : ∀ x : Kept w2, x.wd.cell? ⟨w.heap.size, 0, none⟩ = some (.int .i64 a) := fun x => (X2.out.keep x.ok).c0
  have k1 : ∀ x : Kept w2, x.wd.cell? ⟨w.heap.size, 1, none⟩ = some (.int .i64 b) := fun x => (X2.out.keep x.ok).c1
  have k2 : ∀ x : Kept w2, x.wd.cell? ⟨w.heap.size + 1, 0, none⟩ = some (.int .i64 c) := fun x => (Y2.out.keep x.ok).c0
  have k3 : ∀ x : Kept w2, x.wd.cell? ⟨w.heap.size + 1, 1, none⟩ = some (.int .i64 d) := fun x => (Y2.out.keep x.ok).c1
  refine wp_region_kept (by kernel_rfl) (by kernel_rfl) ?_
  repeat (go_big_quiet_step ((go_at_call 60; first | (with_reducible exact kept_call _ (H1.out _)) | (with_reducible exact kept_call _ (H2.out _)))))
  refine wpQuiet_nil ?_
  intro w3 hx
  obtain ⟨⟨x3, hb⟩, hw⟩ := hx
  replace hw : w3 = x3 := hw
  subst x3
  have A3 := Lib.hid (down A2.out hb)
  clear hb k0 k1 k2 k3 X2 Y2 A2 H1 H2
  go_wp2
  go_loopw [7] (fun i wr => ∃ k : Nat, k ≤ r ∧ i = .int .i64 k ∧ Hid (Below w.heap.size w wr)) (fun i _ => 13 - (intOf i).toNat)
  case atStart => exact ⟨0, Nat.zero_le _, rfl, A3.out⟩
  case round =>
    obtain ⟨k, hk, rfl, HA⟩ := hrel
    clear A3
    have kz : decide ((k : Int) ≤ 12) = true := decide_eq_true (by omega)
    have hp := Lib.hid (HP.out k (by omega))
    by_cases z : k = r
    · subst z
      generalize plF k = x at *
      generalize plS k = y at *
      clear HP dist
      go_wp2_with fail
      refine (hp.out _).mono ?_
      rintro e w4 ⟨rfl, hb⟩
      have A4 := Lib.hid (down HA.out hb)
      clear hb hp HA
      go_wp2
      go_ret
      exact ⟨rfl, A4.out⟩
    · have dk := Lib.hid (dist.out k (by omega))
      by_cases e1 : plF k = plF r
      · have t1 : (plF k == plF r) = true := beq_iff_eq.2 e1
        have t2 : (plS k == plS r) = false := by rw [beq_eq_false_iff_ne]; exact fun e2 => dk.out e1 e2
        clear HP dist dk e1
        generalize plF k = x at *
        generalize plS k = y at *
        generalize plF r = x' at *
        generalize plS r = y' at *
        go_wp2_with fail
        refine (hp.out _).mono ?_
        rintro e w4 ⟨rfl, hb⟩
        have A4 := Lib.hid (down HA.out hb)
        clear hb hp HA
        go_wp2
        go_roundw
        case rel => exact ⟨k + 1, by omega, by go_num, A4⟩
        case measure => simp [intOf]; omega
      · have t1 : (plF k == plF r) = false := by rw [beq_eq_false_iff_ne]; exact e1
        clear HP dist dk e1
        generalize plF k = x at *
        generalize plS k = y at *
        generalize plF r = x' at *
        generalize plS r = y' at *
        go_wp2_with fail
        refine (hp.out _).mono ?_
        rintro e w4 ⟨rfl, hb⟩
        have A4 := Lib.hid (down HA.out hb)
        clear hb hp HA
        go_wp2
        go_roundw
        case rel => exact ⟨k + 1, by omega, by go_num, A4⟩
        case measure => simp [intOf]; omega
end Go.Proofs.YtiaidmjhgfaobaaDoor
