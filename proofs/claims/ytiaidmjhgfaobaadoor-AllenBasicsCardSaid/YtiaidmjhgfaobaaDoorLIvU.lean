/- Contracts of package interval (90116dd). INm, ISh: its tables, the names and the relations of intervals that share integers. -/
import Derived.Test.YtiaidmjhgfaobaaDoorLIvM

import Derived.Test.YtiaidmjhgfaobaaDoorLIvN

import Derived.Test.YtiaidmjhgfaobaaDoorLIvB

namespace Go.Proofs.YtiaidmjhgfaobaaDoor

open Go.RowKit

set_option linter.unusedVariables false

def namesA : Array Value := #[.string (nmV 0), .string (nmV 1), .string (nmV 2), .string (nmV 3), .string (nmV 4), .string (nmV 5), .string (nmV 6), .string (nmV 7), .string (nmV 8), .string (nmV 9), .string (nmV 10), .string (nmV 11), .string (nmV 12)]
def shareA : Array Value := #[.int .i64 2, .int .i64 7, .int .i64 8, .int .i64 3, .int .i64 6, .int .i64 9, .int .i64 4, .int .i64 5, .int .i64 10]
def INm (w : World) : Prop := w.var? Tryd.prog "civiltime/interval.names" = some namesA
def ISh (w : World) : Prop := w.var? Tryd.prog "civiltime/interval.sharing" = some shareA
theorem gNames : Tryd.prog.globalNamed "civiltime/interval.names" = some 3 := by kernel_rfl
theorem gShare : Tryd.prog.globalNamed "civiltime/interval.sharing" = some 2 := by kernel_rfl
theorem INm.below {w w' : World} (h : INm w) (hb : Below w.heap.size w w') : INm w' := Joins.var_stays gNames h hb (Nat.le_refl _)
theorem ISh.below {w w' : World} (h : ISh w) (hb : Below w.heap.size w w') : ISh w' := Joins.var_stays gShare h hb (Nat.le_refl _)
theorem names_cell {w : World} (h : INm w) (k : Nat) (hk : k < 13) : w.cell? ⟨3, k, none⟩ = some (.string (nmV k)) := by
  rw [World.var?_cell gNames h k]
  match k, hk with
  | 0, _ => rfl
  | 1, _ => rfl
  | 2, _ => rfl
  | 3, _ => rfl
  | 4, _ => rfl
  | 5, _ => rfl
  | 6, _ => rfl
  | 7, _ => rfl
  | 8, _ => rfl
  | 9, _ => rfl
  | 10, _ => rfl
  | 11, _ => rfl
  | 12, _ => rfl
theorem share_cell {w : World} (h : ISh w) (k : Nat) (z : Int) (e : shareA[k]? = some (.int .i64 z)) : w.cell? ⟨2, k, none⟩ = some (.int .i64 z) := by
  rw [World.var?_cell gShare h k]; exact e
theorem iuvalid (a b : Int) (ha : I64 a) (hb : I64 b) (w : World) :
    Calls Tryd.prog 35 #[.agg #[.int .i64 a, .int .i64 b]] w fun e w' => e = .returned (.bool (ivB a b)) ∧ Below w.heap.size w w' := by
  have e : ivB a b = (decide (-4398046511104 ≤ a) && decide (a < b) && decide (b ≤ 4398046511104)) := by
    unfold ivB
    rw [Bool.eq_iff_iff]; simp only [Bool.and_eq_true, decide_eq_true_eq]; omega
  rw [e]
  clear e
  obtain ⟨x0, x1, xlt⟩ := Two.new (here (w.alloc (.cells #[.int .i64 a, .int .i64 b] 30)))
  obtain ⟨a0, a1⟩ := ha
  obtain ⟨b0, b1⟩ := hb
  cases p : decide (-4398046511104 ≤ a) <;> cases q : decide (a < b) <;> cases r : decide (b ≤ 4398046511104)
  all_goals
    go_enter Tryd.func35, Tryd.ntmps35
    go_wp2
    go_ret
    exact ⟨rfl, grow (here w) _⟩
set_option maxRecDepth 100000 in
set_option maxHeartbeats 1000000 in
theorem iubv (a b c d : Int) (ha : I64 a) (hb : I64 b) (hc : I64 c) (hd : I64 d) (w : World) :
    Calls Tryd.prog 56 #[.agg #[.int .i64 a, .int .i64 b], .agg #[.int .i64 c, .int .i64 d]] w fun e w' => e = .returned (.bool (ivB a b && ivB c d)) ∧ Below w.heap.size w w' := by
  have HVA := Lib.hid (fun w => iuvalid a b ha hb w)
  have HVB := Lib.hid (fun w => iuvalid c d hc hd w)
  obtain ⟨a0, a1⟩ := ha
  obtain ⟨b0, b1⟩ := hb
  obtain ⟨c0, c1⟩ := hc
  obtain ⟨d0, d1⟩ := hd
  cases va : ivB a b
  · rw [va] at HVA
    clear HVB va
    obtain ⟨w1, hw1⟩ : ∃ w1 : World, w.alloc (.cells #[.int .i64 (a), .int .i64 (b)] 30) = w1 := ⟨_, rfl⟩
    have s1 : w1.heap.size = w.heap.size + 1 := by rw [← hw1, size_two]
    obtain ⟨w2, hw2⟩ : ∃ w2 : World, w1.alloc (.cells #[.int .i64 (c), .int .i64 (d)] 30) = w2 := ⟨_, rfl⟩
    have s2 : w2.heap.size = w.heap.size + 2 := by rw [← hw2, size_two, s1]
    have X1 : Two w1 (w.heap.size) (.int .i64 (a)) (.int .i64 (b)) := by rw [← hw1]; exact Two.new (here _)
    have X2 : Two w2 (w.heap.size) (.int .i64 (a)) (.int .i64 (b)) := by rw [← hw2]; exact X1.keep (grow (here _) _)
    have Y2 : Two w2 (w.heap.size + 1) (.int .i64 (c)) (.int .i64 (d)) := by rw [← s1, ← hw2]; exact Two.new (here _)
    have A2 : Below w.heap.size w w2 := by rw [← hw2, ← hw1]; exact (grow (grow (here w) _) _)
    replace X2 := Lib.hid X2
    replace Y2 := Lib.hid Y2
    replace A2 := Lib.hid A2
    clear X1
    obtain ⟨x0, x1, xl⟩ := X2.out
    obtain ⟨y0, y1, yl⟩ := Y2.out
    go_enter Tryd.func56, Tryd.ntmps56
    go_wp2_with fail
    refine (HVA.out _).mono ?_
    rintro e w3 ⟨rfl, hb⟩
    clear x0 x1 xl y0 y1 yl
    have A3 := Lib.hid (down A2.out hb)
    have X3 := Lib.hid (X2.out.keep hb)
    have Y3 := Lib.hid (Y2.out.keep hb)
    clear hb A2 X2 Y2
    obtain ⟨x0, x1, xl⟩ := X3.out
    obtain ⟨y0, y1, yl⟩ := Y3.out
    go_wp2
    go_ret
    exact ⟨rfl, A3.out⟩
  · rw [va] at HVA
    clear va
    cases vb : ivB c d
    · rw [vb] at HVB
      clear vb
      obtain ⟨w1, hw1⟩ : ∃ w1 : World, w.alloc (.cells #[.int .i64 (a), .int .i64 (b)] 30) = w1 := ⟨_, rfl⟩
      have s1 : w1.heap.size = w.heap.size + 1 := by rw [← hw1, size_two]
      obtain ⟨w2, hw2⟩ : ∃ w2 : World, w1.alloc (.cells #[.int .i64 (c), .int .i64 (d)] 30) = w2 := ⟨_, rfl⟩
      have s2 : w2.heap.size = w.heap.size + 2 := by rw [← hw2, size_two, s1]
      have X1 : Two w1 (w.heap.size) (.int .i64 (a)) (.int .i64 (b)) := by rw [← hw1]; exact Two.new (here _)
      have X2 : Two w2 (w.heap.size) (.int .i64 (a)) (.int .i64 (b)) := by rw [← hw2]; exact X1.keep (grow (here _) _)
      have Y2 : Two w2 (w.heap.size + 1) (.int .i64 (c)) (.int .i64 (d)) := by rw [← s1, ← hw2]; exact Two.new (here _)
      have A2 : Below w.heap.size w w2 := by rw [← hw2, ← hw1]; exact (grow (grow (here w) _) _)
      replace X2 := Lib.hid X2
      replace Y2 := Lib.hid Y2
      replace A2 := Lib.hid A2
      clear X1
      obtain ⟨x0, x1, xl⟩ := X2.out
      obtain ⟨y0, y1, yl⟩ := Y2.out
      go_enter Tryd.func56, Tryd.ntmps56
      go_wp2_with fail
      refine (HVA.out _).mono ?_
      rintro e w3 ⟨rfl, hb⟩
      clear x0 x1 xl y0 y1 yl
      have A3 := Lib.hid (down A2.out hb)
      have X3 := Lib.hid (X2.out.keep hb)
      have Y3 := Lib.hid (Y2.out.keep hb)
      clear hb A2 X2 Y2
      obtain ⟨x0, x1, xl⟩ := X3.out
      obtain ⟨y0, y1, yl⟩ := Y3.out
      go_wp2_with fail
      refine (HVB.out _).mono ?_
      rintro e w4 ⟨rfl, hb⟩
      clear x0 x1 xl y0 y1 yl
      have A4 := Lib.hid (down A3.out hb)
      have X4 := Lib.hid (X3.out.keep hb)
      have Y4 := Lib.hid (Y3.out.keep hb)
      clear hb A3 X3 Y3
      obtain ⟨x0, x1, xl⟩ := X4.out
      obtain ⟨y0, y1, yl⟩ := Y4.out
      go_wp2
      go_ret
      exact ⟨rfl, A4.out⟩
    · rw [vb] at HVB
      clear vb
      obtain ⟨w1, hw1⟩ : ∃ w1 : World, w.alloc (.cells #[.int .i64 (a), .int .i64 (b)] 30) = w1 := ⟨_, rfl⟩
      have s1 : w1.heap.size = w.heap.size + 1 := by rw [← hw1, size_two]
      obtain ⟨w2, hw2⟩ : ∃ w2 : World, w1.alloc (.cells #[.int .i64 (c), .int .i64 (d)] 30) = w2 := ⟨_, rfl⟩
      have s2 : w2.heap.size = w.heap.size + 2 := by rw [← hw2, size_two, s1]
      have X1 : Two w1 (w.heap.size) (.int .i64 (a)) (.int .i64 (b)) := by rw [← hw1]; exact Two.new (here _)
      have X2 : Two w2 (w.heap.size) (.int .i64 (a)) (.int .i64 (b)) := by rw [← hw2]; exact X1.keep (grow (here _) _)
      have Y2 : Two w2 (w.heap.size + 1) (.int .i64 (c)) (.int .i64 (d)) := by rw [← s1, ← hw2]; exact Two.new (here _)
      have A2 : Below w.heap.size w w2 := by rw [← hw2, ← hw1]; exact (grow (grow (here w) _) _)
      replace X2 := Lib.hid X2
      replace Y2 := Lib.hid Y2
      replace A2 := Lib.hid A2
      clear X1
      obtain ⟨x0, x1, xl⟩ := X2.out
      obtain ⟨y0, y1, yl⟩ := Y2.out
      go_enter Tryd.func56, Tryd.ntmps56
      go_wp2_with fail
      refine (HVA.out _).mono ?_
      rintro e w3 ⟨rfl, hb⟩
      clear x0 x1 xl y0 y1 yl
      have A3 := Lib.hid (down A2.out hb)
      have X3 := Lib.hid (X2.out.keep hb)
      have Y3 := Lib.hid (Y2.out.keep hb)
      clear hb A2 X2 Y2
      obtain ⟨x0, x1, xl⟩ := X3.out
      obtain ⟨y0, y1, yl⟩ := Y3.out
      go_wp2_with fail
      refine (HVB.out _).mono ?_
      rintro e w4 ⟨rfl, hb⟩
      clear x0 x1 xl y0 y1 yl
      have A4 := Lib.hid (down A3.out hb)
      have X4 := Lib.hid (X3.out.keep hb)
      have Y4 := Lib.hid (Y3.out.keep hb)
      clear hb A3 X3 Y3
      obtain ⟨x0, x1, xl⟩ := X4.out
      obtain ⟨y0, y1, yl⟩ := Y4.out
      go_wp2
      go_ret
      exact ⟨rfl, A4.out⟩
set_option maxRecDepth 100000 in
set_option maxHeartbeats 1000000 in
theorem iulen (a b : Int) (ha : I64 a) (hb : I64 b) (w : World) :
    Calls Tryd.prog 55 #[.agg #[.int .i64 a, .int .i64 b]] w fun e w' => e = .returned (.int .i64 (lnV a b)) ∧ Below w.heap.size w w' := by
  have HVA := Lib.hid (fun w => iuvalid a b ha hb w)
  unfold lnV
  obtain ⟨a0, a1⟩ := ha
  obtain ⟨b0, b1⟩ := hb
  cases va : ivB a b
  · rw [va] at HVA
    clear va
    obtain ⟨w1, hw1⟩ : ∃ w1 : World, w.alloc (.cells #[.int .i64 (a), .int .i64 (b)] 30) = w1 := ⟨_, rfl⟩
    have s1 : w1.heap.size = w.heap.size + 1 := by rw [← hw1, size_two]
    have X1 : Two w1 (w.heap.size) (.int .i64 (a)) (.int .i64 (b)) := by rw [← hw1]; exact Two.new (here _)
    have A1 : Below w.heap.size w w1 := by rw [← hw1]; exact (grow (here w) _)
    replace X1 := Lib.hid X1
    replace A1 := Lib.hid A1
    obtain ⟨x0, x1, xl⟩ := X1.out
    go_enter Tryd.func55, Tryd.ntmps55
    go_wp2_with fail
    refine (HVA.out _).mono ?_
    rintro e w2 ⟨rfl, hb⟩
    clear x0 x1 xl
    have A2 := Lib.hid (down A1.out hb)
    have X2 := Lib.hid (X1.out.keep hb)
    clear hb A1 X1
    obtain ⟨x0, x1, xl⟩ := X2.out
    go_wp2
    go_ret
    exact ⟨rfl, A2.out⟩
  · rw [va] at HVA
    have q := ivB_iff.1 va
    clear va
    obtain ⟨q0, q1, q2⟩ := q
    obtain ⟨w1, hw1⟩ : ∃ w1 : World, w.alloc (.cells #[.int .i64 (a), .int .i64 (b)] 30) = w1 := ⟨_, rfl⟩
    have s1 : w1.heap.size = w.heap.size + 1 := by rw [← hw1, size_two]
    have X1 : Two w1 (w.heap.size) (.int .i64 (a)) (.int .i64 (b)) := by rw [← hw1]; exact Two.new (here _)
    have A1 : Below w.heap.size w w1 := by rw [← hw1]; exact (grow (here w) _)
    replace X1 := Lib.hid X1
    replace A1 := Lib.hid A1
    obtain ⟨x0, x1, xl⟩ := X1.out
    go_enter Tryd.func55, Tryd.ntmps55
    go_wp2_with fail
    refine (HVA.out _).mono ?_
    rintro e w2 ⟨rfl, hb⟩
    clear x0 x1 xl
    have A2 := Lib.hid (down A1.out hb)
    have X2 := Lib.hid (X1.out.keep hb)
    clear hb A1 X1
    obtain ⟨x0, x1, xl⟩ := X2.out
    go_wp2
    go_ret
    exact ⟨rfl, A2.out⟩
def cmpV (a b : Int) : Int := if a < b then -1 else if b < a then 1 else 0
theorem cmpV_lt {a b : Int} (h : a < b) : cmpV a b = -1 := by unfold cmpV; rw [if_pos h]
theorem cmpV_gt {a b : Int} (h : b < a) : cmpV a b = 1 := by unfold cmpV; rw [if_neg (by omega), if_pos h]
theorem cmpV_eq {a b : Int} (h : a = b) : cmpV a b = 0 := by unfold cmpV; rw [if_neg (by omega), if_neg (by omega)]
theorem iunan (a : Int) (ha : I64 a) (w : World) :
    Calls Tryd.prog 66 #[.int .i64 a] w fun e w' => e = .returned (.bool false) ∧ w = w' := by
  obtain ⟨a0, a1⟩ := ha
  have e : (a != a) = false := by simp
  go_enter Tryd.func66, Tryd.ntmps66
  go_wp2
  go_ret
  exact ⟨rfl, rfl⟩
theorem iucmp (a b : Int) (ha : I64 a) (hb : I64 b) (w : World) :
    Calls Tryd.prog 57 #[.int .i64 a, .int .i64 b] w fun e w' => e = .returned (.int .i64 (cmpV a b)) ∧ w = w' := by
  have HA := Lib.hid (fun w => iunan a ha w)
  have HB := Lib.hid (fun w => iunan b hb w)
  obtain ⟨a0, a1⟩ := ha
  obtain ⟨b0, b1⟩ := hb
  have go : ∀ p q : Bool, decide (a < b) = p → decide (b < a) = q → cmpV a b = (if p then -1 else if q then 1 else 0) := by
    rintro p q rfl rfl
    unfold cmpV
    simp
  cases p : decide (a < b) <;> cases q : decide (b < a)
  all_goals
    rw [go _ _ p q]
    clear go
    go_enter Tryd.func57, Tryd.ntmps57
    go_wp2_with (first | (with_reducible refine (HA.out _).mono ?_) | refine (HB.out _).mono ?_); rintro e w1 ⟨rfl, rfl⟩
    go_wp2_with (first | (with_reducible refine (HB.out _).mono ?_) | refine (HA.out _).mono ?_); rintro e w2 ⟨rfl, rfl⟩
    go_wp2
    go_ret
    exact ⟨rfl, rfl⟩
set_option maxRecDepth 100000 in
set_option maxHeartbeats 1000000 in
theorem iuof (a b c d : Int) (ha : I64 a) (hb : I64 b) (hc : I64 c) (hd : I64 d) (w : World) (ht : ISh w) :
    Calls Tryd.prog 34 #[.agg #[.int .i64 a, .int .i64 b], .agg #[.int .i64 c, .int .i64 d]] w fun e w' => e = .returned (.int .i64 (ofV a b c d)) ∧ Below w.heap.size w w' := by
  have HV := Lib.hid (fun w => iubv a b c d ha hb hc hd w)
  have H1 := Lib.hid (fun w => iucmp b c hb hc w)
  have H2 := Lib.hid (fun w => iucmp a d ha hd w)
  have H3 := Lib.hid (fun w => iucmp a c ha hc w)
  have H4 := Lib.hid (fun w => iucmp b d hb hd w)
  cases v : ivB a b && ivB c d
  · rw [ofV_out v]
    rw [v] at HV
    clear H1 H2 H3 H4 v
    obtain ⟨a0, a1⟩ := ha
    obtain ⟨b0, b1⟩ := hb
    obtain ⟨c0, c1⟩ := hc
    obtain ⟨d0, d1⟩ := hd
    obtain ⟨w1, hw1⟩ : ∃ w1 : World, w.alloc (.cells #[.int .i64 (a), .int .i64 (b)] 30) = w1 := ⟨_, rfl⟩
    have s1 : w1.heap.size = w.heap.size + 1 := by rw [← hw1, size_two]
    obtain ⟨w2, hw2⟩ : ∃ w2 : World, w1.alloc (.cells #[.int .i64 (c), .int .i64 (d)] 30) = w2 := ⟨_, rfl⟩
    have s2 : w2.heap.size = w.heap.size + 2 := by rw [← hw2, size_two, s1]
    have X1 : Two w1 (w.heap.size) (.int .i64 (a)) (.int .i64 (b)) := by rw [← hw1]; exact Two.new (here _)
    have X2 : Two w2 (w.heap.size) (.int .i64 (a)) (.int .i64 (b)) := by rw [← hw2]; exact X1.keep (grow (here _) _)
    have Y2 : Two w2 (w.heap.size + 1) (.int .i64 (c)) (.int .i64 (d)) := by rw [← s1, ← hw2]; exact Two.new (here _)
    have A2 : Below w.heap.size w w2 := by rw [← hw2, ← hw1]; exact (grow (grow (here w) _) _)
    replace X2 := Lib.hid X2
    replace Y2 := Lib.hid Y2
    replace A2 := Lib.hid A2
    clear X1
    obtain ⟨x0, x1, xl⟩ := X2.out
    obtain ⟨y0, y1, yl⟩ := Y2.out
    have T2 : Hid (ISh w2) := ht.below A2.out
    go_enter Tryd.func34, Tryd.ntmps34
    go_wp2_with fail
    refine (HV.out _).mono ?_
    rintro e w3 ⟨rfl, hb⟩
    clear x0 x1 xl y0 y1 yl
    have A3 := Lib.hid (down A2.out hb)
    have T3 := Lib.hid (T2.out.below hb)
    have X3 := Lib.hid (X2.out.keep hb)
    have Y3 := Lib.hid (Y2.out.keep hb)
    clear hb A2 T2 X2 Y2
    obtain ⟨x0, x1, xl⟩ := X3.out
    obtain ⟨y0, y1, yl⟩ := Y3.out
    go_wp2
    go_ret
    exact ⟨rfl, A3.out⟩
  · rw [v] at HV
    rw [Bool.and_eq_true] at v
    rw [ofV_in v.1 v.2]
    have q := ivB_iff.1 v.1
    have p := ivB_iff.1 v.2
    clear v
    rcases Int.lt_trichotomy b c with z1 | z1 | z1
    · rw [cmpV_lt z1] at H1
      have e : ofW a b c d = 0 := by rcases ofW_cases a b c d q.2.2 p.2.2 with u | u | u | u | u | u | u | u | u | u | u | u | u <;> omega
      rw [e]
      clear e p q H2 H3 H4 z1
      obtain ⟨a0, a1⟩ := ha
      obtain ⟨b0, b1⟩ := hb
      obtain ⟨c0, c1⟩ := hc
      obtain ⟨d0, d1⟩ := hd
      obtain ⟨w1, hw1⟩ : ∃ w1 : World, w.alloc (.cells #[.int .i64 (a), .int .i64 (b)] 30) = w1 := ⟨_, rfl⟩
      have s1 : w1.heap.size = w.heap.size + 1 := by rw [← hw1, size_two]
      obtain ⟨w2, hw2⟩ : ∃ w2 : World, w1.alloc (.cells #[.int .i64 (c), .int .i64 (d)] 30) = w2 := ⟨_, rfl⟩
      have s2 : w2.heap.size = w.heap.size + 2 := by rw [← hw2, size_two, s1]
      have X1 : Two w1 (w.heap.size) (.int .i64 (a)) (.int .i64 (b)) := by rw [← hw1]; exact Two.new (here _)
      have X2 : Two w2 (w.heap.size) (.int .i64 (a)) (.int .i64 (b)) := by rw [← hw2]; exact X1.keep (grow (here _) _)
      have Y2 : Two w2 (w.heap.size + 1) (.int .i64 (c)) (.int .i64 (d)) := by rw [← s1, ← hw2]; exact Two.new (here _)
      have A2 : Below w.heap.size w w2 := by rw [← hw2, ← hw1]; exact (grow (grow (here w) _) _)
      replace X2 := Lib.hid X2
      replace Y2 := Lib.hid Y2
      replace A2 := Lib.hid A2
      clear X1
      obtain ⟨x0, x1, xl⟩ := X2.out
      obtain ⟨y0, y1, yl⟩ := Y2.out
      have T2 : Hid (ISh w2) := ht.below A2.out
      go_enter Tryd.func34, Tryd.ntmps34
      go_wp2_with fail
      refine (HV.out _).mono ?_
      rintro e w3 ⟨rfl, hb⟩
      clear x0 x1 xl y0 y1 yl
      have A3 := Lib.hid (down A2.out hb)
      have T3 := Lib.hid (T2.out.below hb)
      have X3 := Lib.hid (X2.out.keep hb)
      have Y3 := Lib.hid (Y2.out.keep hb)
      clear hb A2 T2 X2 Y2
      obtain ⟨x0, x1, xl⟩ := X3.out
      obtain ⟨y0, y1, yl⟩ := Y3.out
      go_wp2_with fail
      refine (H1.out _).mono ?_
      rintro e wz ⟨rfl, rfl⟩
      go_wp2
      go_ret
      exact ⟨rfl, A3.out⟩
    · rw [cmpV_eq z1] at H1
      have e : ofW a b c d = 1 := by rcases ofW_cases a b c d q.2.2 p.2.2 with u | u | u | u | u | u | u | u | u | u | u | u | u <;> omega
      rw [e]
      clear e p q H2 H3 H4 z1
      obtain ⟨a0, a1⟩ := ha
      obtain ⟨b0, b1⟩ := hb
      obtain ⟨c0, c1⟩ := hc
      obtain ⟨d0, d1⟩ := hd
      obtain ⟨w1, hw1⟩ : ∃ w1 : World, w.alloc (.cells #[.int .i64 (a), .int .i64 (b)] 30) = w1 := ⟨_, rfl⟩
      have s1 : w1.heap.size = w.heap.size + 1 := by rw [← hw1, size_two]
      obtain ⟨w2, hw2⟩ : ∃ w2 : World, w1.alloc (.cells #[.int .i64 (c), .int .i64 (d)] 30) = w2 := ⟨_, rfl⟩
      have s2 : w2.heap.size = w.heap.size + 2 := by rw [← hw2, size_two, s1]
      have X1 : Two w1 (w.heap.size) (.int .i64 (a)) (.int .i64 (b)) := by rw [← hw1]; exact Two.new (here _)
      have X2 : Two w2 (w.heap.size) (.int .i64 (a)) (.int .i64 (b)) := by rw [← hw2]; exact X1.keep (grow (here _) _)
      have Y2 : Two w2 (w.heap.size + 1) (.int .i64 (c)) (.int .i64 (d)) := by rw [← s1, ← hw2]; exact Two.new (here _)
      have A2 : Below w.heap.size w w2 := by rw [← hw2, ← hw1]; exact (grow (grow (here w) _) _)
      replace X2 := Lib.hid X2
      replace Y2 := Lib.hid Y2
      replace A2 := Lib.hid A2
      clear X1
      obtain ⟨x0, x1, xl⟩ := X2.out
      obtain ⟨y0, y1, yl⟩ := Y2.out
      have T2 : Hid (ISh w2) := ht.below A2.out
      go_enter Tryd.func34, Tryd.ntmps34
      go_wp2_with fail
      refine (HV.out _).mono ?_
      rintro e w3 ⟨rfl, hb⟩
      clear x0 x1 xl y0 y1 yl
      have A3 := Lib.hid (down A2.out hb)
      have T3 := Lib.hid (T2.out.below hb)
      have X3 := Lib.hid (X2.out.keep hb)
      have Y3 := Lib.hid (Y2.out.keep hb)
      clear hb A2 T2 X2 Y2
      obtain ⟨x0, x1, xl⟩ := X3.out
      obtain ⟨y0, y1, yl⟩ := Y3.out
      go_wp2_with fail
      refine (H1.out _).mono ?_
      rintro e wz ⟨rfl, rfl⟩
      go_wp2
      go_ret
      exact ⟨rfl, A3.out⟩
    · rw [cmpV_gt z1] at H1
      rcases Int.lt_trichotomy a d with z2 | z2 | z2
      · rw [cmpV_lt z2] at H2
        rcases Int.lt_trichotomy a c with z3 | z3 | z3
        · rw [cmpV_lt z3] at H3
          rcases Int.lt_trichotomy b d with z4 | z4 | z4
          · rw [cmpV_lt z4] at H4
            have e : ofW a b c d = 2 := by rcases ofW_cases a b c d q.2.2 p.2.2 with u | u | u | u | u | u | u | u | u | u | u | u | u <;> omega
            rw [e]
            clear e p q z1 z2 z3 z4
            obtain ⟨a0, a1⟩ := ha
            obtain ⟨b0, b1⟩ := hb
            obtain ⟨c0, c1⟩ := hc
            obtain ⟨d0, d1⟩ := hd
            obtain ⟨w1, hw1⟩ : ∃ w1 : World, w.alloc (.cells #[.int .i64 (a), .int .i64 (b)] 30) = w1 := ⟨_, rfl⟩
            have s1 : w1.heap.size = w.heap.size + 1 := by rw [← hw1, size_two]
            obtain ⟨w2, hw2⟩ : ∃ w2 : World, w1.alloc (.cells #[.int .i64 (c), .int .i64 (d)] 30) = w2 := ⟨_, rfl⟩
            have s2 : w2.heap.size = w.heap.size + 2 := by rw [← hw2, size_two, s1]
            have X1 : Two w1 (w.heap.size) (.int .i64 (a)) (.int .i64 (b)) := by rw [← hw1]; exact Two.new (here _)
            have X2 : Two w2 (w.heap.size) (.int .i64 (a)) (.int .i64 (b)) := by rw [← hw2]; exact X1.keep (grow (here _) _)
            have Y2 : Two w2 (w.heap.size + 1) (.int .i64 (c)) (.int .i64 (d)) := by rw [← s1, ← hw2]; exact Two.new (here _)
            have A2 : Below w.heap.size w w2 := by rw [← hw2, ← hw1]; exact (grow (grow (here w) _) _)
            replace X2 := Lib.hid X2
            replace Y2 := Lib.hid Y2
            replace A2 := Lib.hid A2
            clear X1
            obtain ⟨x0, x1, xl⟩ := X2.out
            obtain ⟨y0, y1, yl⟩ := Y2.out
            have T2 : Hid (ISh w2) := ht.below A2.out
            go_enter Tryd.func34, Tryd.ntmps34
            go_wp2_with fail
            refine (HV.out _).mono ?_
            rintro e w3 ⟨rfl, hb⟩
            clear x0 x1 xl y0 y1 yl
            have A3 := Lib.hid (down A2.out hb)
            have T3 := Lib.hid (T2.out.below hb)
            have X3 := Lib.hid (X2.out.keep hb)
            have Y3 := Lib.hid (Y2.out.keep hb)
            clear hb A2 T2 X2 Y2
            obtain ⟨x0, x1, xl⟩ := X3.out
            obtain ⟨y0, y1, yl⟩ := Y3.out
            go_wp2_with fail
            refine (H1.out _).mono ?_
            rintro e wz ⟨rfl, rfl⟩
            go_wp2_with fail
            refine (H2.out _).mono ?_
            rintro e wz ⟨rfl, rfl⟩
            obtain ⟨g0, g1⟩ : w3.cell? ⟨2, 0, none⟩ = some (.int .i64 2) ∧ True := ⟨share_cell T3.out 0 2 rfl, trivial⟩
            go_wp2
            go_quiet ((go_at_call 57; first | (with_reducible exact qleft (H3.out _)) | exact qleft (H4.out _)))
            go_wp2
            go_ret
            exact ⟨rfl, below_drewN A3.out _⟩
          · rw [cmpV_eq z4] at H4
            have e : ofW a b c d = 7 := by rcases ofW_cases a b c d q.2.2 p.2.2 with u | u | u | u | u | u | u | u | u | u | u | u | u <;> omega
            rw [e]
            clear e p q z1 z2 z3 z4
            obtain ⟨a0, a1⟩ := ha
            obtain ⟨b0, b1⟩ := hb
            obtain ⟨c0, c1⟩ := hc
            obtain ⟨d0, d1⟩ := hd
            obtain ⟨w1, hw1⟩ : ∃ w1 : World, w.alloc (.cells #[.int .i64 (a), .int .i64 (b)] 30) = w1 := ⟨_, rfl⟩
            have s1 : w1.heap.size = w.heap.size + 1 := by rw [← hw1, size_two]
            obtain ⟨w2, hw2⟩ : ∃ w2 : World, w1.alloc (.cells #[.int .i64 (c), .int .i64 (d)] 30) = w2 := ⟨_, rfl⟩
            have s2 : w2.heap.size = w.heap.size + 2 := by rw [← hw2, size_two, s1]
            have X1 : Two w1 (w.heap.size) (.int .i64 (a)) (.int .i64 (b)) := by rw [← hw1]; exact Two.new (here _)
            have X2 : Two w2 (w.heap.size) (.int .i64 (a)) (.int .i64 (b)) := by rw [← hw2]; exact X1.keep (grow (here _) _)
            have Y2 : Two w2 (w.heap.size + 1) (.int .i64 (c)) (.int .i64 (d)) := by rw [← s1, ← hw2]; exact Two.new (here _)
            have A2 : Below w.heap.size w w2 := by rw [← hw2, ← hw1]; exact (grow (grow (here w) _) _)
            replace X2 := Lib.hid X2
            replace Y2 := Lib.hid Y2
            replace A2 := Lib.hid A2
            clear X1
            obtain ⟨x0, x1, xl⟩ := X2.out
            obtain ⟨y0, y1, yl⟩ := Y2.out
            have T2 : Hid (ISh w2) := ht.below A2.out
            go_enter Tryd.func34, Tryd.ntmps34
            go_wp2_with fail
            refine (HV.out _).mono ?_
            rintro e w3 ⟨rfl, hb⟩
            clear x0 x1 xl y0 y1 yl
            have A3 := Lib.hid (down A2.out hb)
            have T3 := Lib.hid (T2.out.below hb)
            have X3 := Lib.hid (X2.out.keep hb)
            have Y3 := Lib.hid (Y2.out.keep hb)
            clear hb A2 T2 X2 Y2
            obtain ⟨x0, x1, xl⟩ := X3.out
            obtain ⟨y0, y1, yl⟩ := Y3.out
            go_wp2_with fail
            refine (H1.out _).mono ?_
            rintro e wz ⟨rfl, rfl⟩
            go_wp2_with fail
            refine (H2.out _).mono ?_
            rintro e wz ⟨rfl, rfl⟩
            obtain ⟨g0, g1⟩ : w3.cell? ⟨2, 1, none⟩ = some (.int .i64 7) ∧ True := ⟨share_cell T3.out 1 7 rfl, trivial⟩
            go_wp2
            go_quiet ((go_at_call 57; first | (with_reducible exact qleft (H3.out _)) | exact qleft (H4.out _)))
            go_wp2
            go_ret
            exact ⟨rfl, below_drewN A3.out _⟩
          · rw [cmpV_gt z4] at H4
            have e : ofW a b c d = 8 := by rcases ofW_cases a b c d q.2.2 p.2.2 with u | u | u | u | u | u | u | u | u | u | u | u | u <;> omega
            rw [e]
            clear e p q z1 z2 z3 z4
            obtain ⟨a0, a1⟩ := ha
            obtain ⟨b0, b1⟩ := hb
            obtain ⟨c0, c1⟩ := hc
            obtain ⟨d0, d1⟩ := hd
            obtain ⟨w1, hw1⟩ : ∃ w1 : World, w.alloc (.cells #[.int .i64 (a), .int .i64 (b)] 30) = w1 := ⟨_, rfl⟩
            have s1 : w1.heap.size = w.heap.size + 1 := by rw [← hw1, size_two]
            obtain ⟨w2, hw2⟩ : ∃ w2 : World, w1.alloc (.cells #[.int .i64 (c), .int .i64 (d)] 30) = w2 := ⟨_, rfl⟩
            have s2 : w2.heap.size = w.heap.size + 2 := by rw [← hw2, size_two, s1]
            have X1 : Two w1 (w.heap.size) (.int .i64 (a)) (.int .i64 (b)) := by rw [← hw1]; exact Two.new (here _)
            have X2 : Two w2 (w.heap.size) (.int .i64 (a)) (.int .i64 (b)) := by rw [← hw2]; exact X1.keep (grow (here _) _)
            have Y2 : Two w2 (w.heap.size + 1) (.int .i64 (c)) (.int .i64 (d)) := by rw [← s1, ← hw2]; exact Two.new (here _)
            have A2 : Below w.heap.size w w2 := by rw [← hw2, ← hw1]; exact (grow (grow (here w) _) _)
            replace X2 := Lib.hid X2
            replace Y2 := Lib.hid Y2
            replace A2 := Lib.hid A2
            clear X1
            obtain ⟨x0, x1, xl⟩ := X2.out
            obtain ⟨y0, y1, yl⟩ := Y2.out
            have T2 : Hid (ISh w2) := ht.below A2.out
            go_enter Tryd.func34, Tryd.ntmps34
            go_wp2_with fail
            refine (HV.out _).mono ?_
            rintro e w3 ⟨rfl, hb⟩
            clear x0 x1 xl y0 y1 yl
            have A3 := Lib.hid (down A2.out hb)
            have T3 := Lib.hid (T2.out.below hb)
            have X3 := Lib.hid (X2.out.keep hb)
            have Y3 := Lib.hid (Y2.out.keep hb)
            clear hb A2 T2 X2 Y2
            obtain ⟨x0, x1, xl⟩ := X3.out
            obtain ⟨y0, y1, yl⟩ := Y3.out
            go_wp2_with fail
            refine (H1.out _).mono ?_
            rintro e wz ⟨rfl, rfl⟩
            go_wp2_with fail
            refine (H2.out _).mono ?_
            rintro e wz ⟨rfl, rfl⟩
            obtain ⟨g0, g1⟩ : w3.cell? ⟨2, 2, none⟩ = some (.int .i64 8) ∧ True := ⟨share_cell T3.out 2 8 rfl, trivial⟩
            go_wp2
            go_quiet ((go_at_call 57; first | (with_reducible exact qleft (H3.out _)) | exact qleft (H4.out _)))
            go_wp2
            go_ret
            exact ⟨rfl, below_drewN A3.out _⟩
        · rw [cmpV_eq z3] at H3
          rcases Int.lt_trichotomy b d with z4 | z4 | z4
          · rw [cmpV_lt z4] at H4
            have e : ofW a b c d = 3 := by rcases ofW_cases a b c d q.2.2 p.2.2 with u | u | u | u | u | u | u | u | u | u | u | u | u <;> omega
            rw [e]
            clear e p q z1 z2 z3 z4
            obtain ⟨a0, a1⟩ := ha
            obtain ⟨b0, b1⟩ := hb
            obtain ⟨c0, c1⟩ := hc
            obtain ⟨d0, d1⟩ := hd
            obtain ⟨w1, hw1⟩ : ∃ w1 : World, w.alloc (.cells #[.int .i64 (a), .int .i64 (b)] 30) = w1 := ⟨_, rfl⟩
            have s1 : w1.heap.size = w.heap.size + 1 := by rw [← hw1, size_two]
            obtain ⟨w2, hw2⟩ : ∃ w2 : World, w1.alloc (.cells #[.int .i64 (c), .int .i64 (d)] 30) = w2 := ⟨_, rfl⟩
            have s2 : w2.heap.size = w.heap.size + 2 := by rw [← hw2, size_two, s1]
            have X1 : Two w1 (w.heap.size) (.int .i64 (a)) (.int .i64 (b)) := by rw [← hw1]; exact Two.new (here _)
            have X2 : Two w2 (w.heap.size) (.int .i64 (a)) (.int .i64 (b)) := by rw [← hw2]; exact X1.keep (grow (here _) _)
            have Y2 : Two w2 (w.heap.size + 1) (.int .i64 (c)) (.int .i64 (d)) := by rw [← s1, ← hw2]; exact Two.new (here _)
            have A2 : Below w.heap.size w w2 := by rw [← hw2, ← hw1]; exact (grow (grow (here w) _) _)
            replace X2 := Lib.hid X2
            replace Y2 := Lib.hid Y2
            replace A2 := Lib.hid A2
            clear X1
            obtain ⟨x0, x1, xl⟩ := X2.out
            obtain ⟨y0, y1, yl⟩ := Y2.out
            have T2 : Hid (ISh w2) := ht.below A2.out
            go_enter Tryd.func34, Tryd.ntmps34
            go_wp2_with fail
            refine (HV.out _).mono ?_
            rintro e w3 ⟨rfl, hb⟩
            clear x0 x1 xl y0 y1 yl
            have A3 := Lib.hid (down A2.out hb)
            have T3 := Lib.hid (T2.out.below hb)
            have X3 := Lib.hid (X2.out.keep hb)
            have Y3 := Lib.hid (Y2.out.keep hb)
            clear hb A2 T2 X2 Y2
            obtain ⟨x0, x1, xl⟩ := X3.out
            obtain ⟨y0, y1, yl⟩ := Y3.out
            go_wp2_with fail
            refine (H1.out _).mono ?_
            rintro e wz ⟨rfl, rfl⟩
            go_wp2_with fail
            refine (H2.out _).mono ?_
            rintro e wz ⟨rfl, rfl⟩
            obtain ⟨g0, g1⟩ : w3.cell? ⟨2, 3, none⟩ = some (.int .i64 3) ∧ True := ⟨share_cell T3.out 3 3 rfl, trivial⟩
            go_wp2
            go_quiet ((go_at_call 57; first | (with_reducible exact qleft (H3.out _)) | exact qleft (H4.out _)))
            go_wp2
            go_ret
            exact ⟨rfl, below_drewN A3.out _⟩
          · rw [cmpV_eq z4] at H4
            have e : ofW a b c d = 6 := by rcases ofW_cases a b c d q.2.2 p.2.2 with u | u | u | u | u | u | u | u | u | u | u | u | u <;> omega
            rw [e]
            clear e p q z1 z2 z3 z4
            obtain ⟨a0, a1⟩ := ha
            obtain ⟨b0, b1⟩ := hb
            obtain ⟨c0, c1⟩ := hc
            obtain ⟨d0, d1⟩ := hd
            obtain ⟨w1, hw1⟩ : ∃ w1 : World, w.alloc (.cells #[.int .i64 (a), .int .i64 (b)] 30) = w1 := ⟨_, rfl⟩
            have s1 : w1.heap.size = w.heap.size + 1 := by rw [← hw1, size_two]
            obtain ⟨w2, hw2⟩ : ∃ w2 : World, w1.alloc (.cells #[.int .i64 (c), .int .i64 (d)] 30) = w2 := ⟨_, rfl⟩
            have s2 : w2.heap.size = w.heap.size + 2 := by rw [← hw2, size_two, s1]
            have X1 : Two w1 (w.heap.size) (.int .i64 (a)) (.int .i64 (b)) := by rw [← hw1]; exact Two.new (here _)
            have X2 : Two w2 (w.heap.size) (.int .i64 (a)) (.int .i64 (b)) := by rw [← hw2]; exact X1.keep (grow (here _) _)
            have Y2 : Two w2 (w.heap.size + 1) (.int .i64 (c)) (.int .i64 (d)) := by rw [← s1, ← hw2]; exact Two.new (here _)
            have A2 : Below w.heap.size w w2 := by rw [← hw2, ← hw1]; exact (grow (grow (here w) _) _)
            replace X2 := Lib.hid X2
            replace Y2 := Lib.hid Y2
            replace A2 := Lib.hid A2
            clear X1
            obtain ⟨x0, x1, xl⟩ := X2.out
            obtain ⟨y0, y1, yl⟩ := Y2.out
            have T2 : Hid (ISh w2) := ht.below A2.out
            go_enter Tryd.func34, Tryd.ntmps34
            go_wp2_with fail
            refine (HV.out _).mono ?_
            rintro e w3 ⟨rfl, hb⟩
            clear x0 x1 xl y0 y1 yl
            have A3 := Lib.hid (down A2.out hb)
            have T3 := Lib.hid (T2.out.below hb)
            have X3 := Lib.hid (X2.out.keep hb)
            have Y3 := Lib.hid (Y2.out.keep hb)
            clear hb A2 T2 X2 Y2
            obtain ⟨x0, x1, xl⟩ := X3.out
            obtain ⟨y0, y1, yl⟩ := Y3.out
            go_wp2_with fail
            refine (H1.out _).mono ?_
            rintro e wz ⟨rfl, rfl⟩
            go_wp2_with fail
            refine (H2.out _).mono ?_
            rintro e wz ⟨rfl, rfl⟩
            obtain ⟨g0, g1⟩ : w3.cell? ⟨2, 4, none⟩ = some (.int .i64 6) ∧ True := ⟨share_cell T3.out 4 6 rfl, trivial⟩
            go_wp2
            go_quiet ((go_at_call 57; first | (with_reducible exact qleft (H3.out _)) | exact qleft (H4.out _)))
            go_wp2
            go_ret
            exact ⟨rfl, below_drewN A3.out _⟩
          · rw [cmpV_gt z4] at H4
            have e : ofW a b c d = 9 := by rcases ofW_cases a b c d q.2.2 p.2.2 with u | u | u | u | u | u | u | u | u | u | u | u | u <;> omega
            rw [e]
            clear e p q z1 z2 z3 z4
            obtain ⟨a0, a1⟩ := ha
            obtain ⟨b0, b1⟩ := hb
            obtain ⟨c0, c1⟩ := hc
            obtain ⟨d0, d1⟩ := hd
            obtain ⟨w1, hw1⟩ : ∃ w1 : World, w.alloc (.cells #[.int .i64 (a), .int .i64 (b)] 30) = w1 := ⟨_, rfl⟩
            have s1 : w1.heap.size = w.heap.size + 1 := by rw [← hw1, size_two]
            obtain ⟨w2, hw2⟩ : ∃ w2 : World, w1.alloc (.cells #[.int .i64 (c), .int .i64 (d)] 30) = w2 := ⟨_, rfl⟩
            have s2 : w2.heap.size = w.heap.size + 2 := by rw [← hw2, size_two, s1]
            have X1 : Two w1 (w.heap.size) (.int .i64 (a)) (.int .i64 (b)) := by rw [← hw1]; exact Two.new (here _)
            have X2 : Two w2 (w.heap.size) (.int .i64 (a)) (.int .i64 (b)) := by rw [← hw2]; exact X1.keep (grow (here _) _)
            have Y2 : Two w2 (w.heap.size + 1) (.int .i64 (c)) (.int .i64 (d)) := by rw [← s1, ← hw2]; exact Two.new (here _)
            have A2 : Below w.heap.size w w2 := by rw [← hw2, ← hw1]; exact (grow (grow (here w) _) _)
            replace X2 := Lib.hid X2
            replace Y2 := Lib.hid Y2
            replace A2 := Lib.hid A2
            clear X1
            obtain ⟨x0, x1, xl⟩ := X2.out
            obtain ⟨y0, y1, yl⟩ := Y2.out
            have T2 : Hid (ISh w2) := ht.below A2.out
            go_enter Tryd.func34, Tryd.ntmps34
            go_wp2_with fail
            refine (HV.out _).mono ?_
            rintro e w3 ⟨rfl, hb⟩
            clear x0 x1 xl y0 y1 yl
            have A3 := Lib.hid (down A2.out hb)
            have T3 := Lib.hid (T2.out.below hb)
            have X3 := Lib.hid (X2.out.keep hb)
            have Y3 := Lib.hid (Y2.out.keep hb)
            clear hb A2 T2 X2 Y2
            obtain ⟨x0, x1, xl⟩ := X3.out
            obtain ⟨y0, y1, yl⟩ := Y3.out
            go_wp2_with fail
            refine (H1.out _).mono ?_
            rintro e wz ⟨rfl, rfl⟩
            go_wp2_with fail
            refine (H2.out _).mono ?_
            rintro e wz ⟨rfl, rfl⟩
            obtain ⟨g0, g1⟩ : w3.cell? ⟨2, 5, none⟩ = some (.int .i64 9) ∧ True := ⟨share_cell T3.out 5 9 rfl, trivial⟩
            go_wp2
            go_quiet ((go_at_call 57; first | (with_reducible exact qleft (H3.out _)) | exact qleft (H4.out _)))
            go_wp2
            go_ret
            exact ⟨rfl, below_drewN A3.out _⟩
        · rw [cmpV_gt z3] at H3
          rcases Int.lt_trichotomy b d with z4 | z4 | z4
          · rw [cmpV_lt z4] at H4
            have e : ofW a b c d = 4 := by rcases ofW_cases a b c d q.2.2 p.2.2 with u | u | u | u | u | u | u | u | u | u | u | u | u <;> omega
            rw [e]
            clear e p q z1 z2 z3 z4
            obtain ⟨a0, a1⟩ := ha
            obtain ⟨b0, b1⟩ := hb
            obtain ⟨c0, c1⟩ := hc
            obtain ⟨d0, d1⟩ := hd
            obtain ⟨w1, hw1⟩ : ∃ w1 : World, w.alloc (.cells #[.int .i64 (a), .int .i64 (b)] 30) = w1 := ⟨_, rfl⟩
            have s1 : w1.heap.size = w.heap.size + 1 := by rw [← hw1, size_two]
            obtain ⟨w2, hw2⟩ : ∃ w2 : World, w1.alloc (.cells #[.int .i64 (c), .int .i64 (d)] 30) = w2 := ⟨_, rfl⟩
            have s2 : w2.heap.size = w.heap.size + 2 := by rw [← hw2, size_two, s1]
            have X1 : Two w1 (w.heap.size) (.int .i64 (a)) (.int .i64 (b)) := by rw [← hw1]; exact Two.new (here _)
            have X2 : Two w2 (w.heap.size) (.int .i64 (a)) (.int .i64 (b)) := by rw [← hw2]; exact X1.keep (grow (here _) _)
            have Y2 : Two w2 (w.heap.size + 1) (.int .i64 (c)) (.int .i64 (d)) := by rw [← s1, ← hw2]; exact Two.new (here _)
            have A2 : Below w.heap.size w w2 := by rw [← hw2, ← hw1]; exact (grow (grow (here w) _) _)
            replace X2 := Lib.hid X2
            replace Y2 := Lib.hid Y2
            replace A2 := Lib.hid A2
            clear X1
            obtain ⟨x0, x1, xl⟩ := X2.out
            obtain ⟨y0, y1, yl⟩ := Y2.out
            have T2 : Hid (ISh w2) := ht.below A2.out
            go_enter Tryd.func34, Tryd.ntmps34
            go_wp2_with fail
            refine (HV.out _).mono ?_
            rintro e w3 ⟨rfl, hb⟩
            clear x0 x1 xl y0 y1 yl
            have A3 := Lib.hid (down A2.out hb)
            have T3 := Lib.hid (T2.out.below hb)
            have X3 := Lib.hid (X2.out.keep hb)
            have Y3 := Lib.hid (Y2.out.keep hb)
            clear hb A2 T2 X2 Y2
            obtain ⟨x0, x1, xl⟩ := X3.out
            obtain ⟨y0, y1, yl⟩ := Y3.out
            go_wp2_with fail
            refine (H1.out _).mono ?_
            rintro e wz ⟨rfl, rfl⟩
            go_wp2_with fail
            refine (H2.out _).mono ?_
            rintro e wz ⟨rfl, rfl⟩
            obtain ⟨g0, g1⟩ : w3.cell? ⟨2, 6, none⟩ = some (.int .i64 4) ∧ True := ⟨share_cell T3.out 6 4 rfl, trivial⟩
            go_wp2
            go_quiet ((go_at_call 57; first | (with_reducible exact qleft (H3.out _)) | exact qleft (H4.out _)))
            go_wp2
            go_ret
            exact ⟨rfl, below_drewN A3.out _⟩
          · rw [cmpV_eq z4] at H4
            have e : ofW a b c d = 5 := by rcases ofW_cases a b c d q.2.2 p.2.2 with u | u | u | u | u | u | u | u | u | u | u | u | u <;> omega
            rw [e]
            clear e p q z1 z2 z3 z4
            obtain ⟨a0, a1⟩ := ha
            obtain ⟨b0, b1⟩ := hb
            obtain ⟨c0, c1⟩ := hc
            obtain ⟨d0, d1⟩ := hd
            obtain ⟨w1, hw1⟩ : ∃ w1 : World, w.alloc (.cells #[.int .i64 (a), .int .i64 (b)] 30) = w1 := ⟨_, rfl⟩
            have s1 : w1.heap.size = w.heap.size + 1 := by rw [← hw1, size_two]
            obtain ⟨w2, hw2⟩ : ∃ w2 : World, w1.alloc (.cells #[.int .i64 (c), .int .i64 (d)] 30) = w2 := ⟨_, rfl⟩
            have s2 : w2.heap.size = w.heap.size + 2 := by rw [← hw2, size_two, s1]
            have X1 : Two w1 (w.heap.size) (.int .i64 (a)) (.int .i64 (b)) := by rw [← hw1]; exact Two.new (here _)
            have X2 : Two w2 (w.heap.size) (.int .i64 (a)) (.int .i64 (b)) := by rw [← hw2]; exact X1.keep (grow (here _) _)
            have Y2 : Two w2 (w.heap.size + 1) (.int .i64 (c)) (.int .i64 (d)) := by rw [← s1, ← hw2]; exact Two.new (here _)
            have A2 : Below w.heap.size w w2 := by rw [← hw2, ← hw1]; exact (grow (grow (here w) _) _)
            replace X2 := Lib.hid X2
            replace Y2 := Lib.hid Y2
            replace A2 := Lib.hid A2
            clear X1
            obtain ⟨x0, x1, xl⟩ := X2.out
            obtain ⟨y0, y1, yl⟩ := Y2.out
            have T2 : Hid (ISh w2) := ht.below A2.out
            go_enter Tryd.func34, Tryd.ntmps34
            go_wp2_with fail
            refine (HV.out _).mono ?_
            rintro e w3 ⟨rfl, hb⟩
            clear x0 x1 xl y0 y1 yl
            have A3 := Lib.hid (down A2.out hb)
            have T3 := Lib.hid (T2.out.below hb)
            have X3 := Lib.hid (X2.out.keep hb)
            have Y3 := Lib.hid (Y2.out.keep hb)
            clear hb A2 T2 X2 Y2
            obtain ⟨x0, x1, xl⟩ := X3.out
            obtain ⟨y0, y1, yl⟩ := Y3.out
            go_wp2_with fail
            refine (H1.out _).mono ?_
            rintro e wz ⟨rfl, rfl⟩
            go_wp2_with fail
            refine (H2.out _).mono ?_
            rintro e wz ⟨rfl, rfl⟩
            obtain ⟨g0, g1⟩ : w3.cell? ⟨2, 7, none⟩ = some (.int .i64 5) ∧ True := ⟨share_cell T3.out 7 5 rfl, trivial⟩
            go_wp2
            go_quiet ((go_at_call 57; first | (with_reducible exact qleft (H3.out _)) | exact qleft (H4.out _)))
            go_wp2
            go_ret
            exact ⟨rfl, below_drewN A3.out _⟩
          · rw [cmpV_gt z4] at H4
            have e : ofW a b c d = 10 := by rcases ofW_cases a b c d q.2.2 p.2.2 with u | u | u | u | u | u | u | u | u | u | u | u | u <;> omega
            rw [e]
            clear e p q z1 z2 z3 z4
            obtain ⟨a0, a1⟩ := ha
            obtain ⟨b0, b1⟩ := hb
            obtain ⟨c0, c1⟩ := hc
            obtain ⟨d0, d1⟩ := hd
            obtain ⟨w1, hw1⟩ : ∃ w1 : World, w.alloc (.cells #[.int .i64 (a), .int .i64 (b)] 30) = w1 := ⟨_, rfl⟩
            have s1 : w1.heap.size = w.heap.size + 1 := by rw [← hw1, size_two]
            obtain ⟨w2, hw2⟩ : ∃ w2 : World, w1.alloc (.cells #[.int .i64 (c), .int .i64 (d)] 30) = w2 := ⟨_, rfl⟩
            have s2 : w2.heap.size = w.heap.size + 2 := by rw [← hw2, size_two, s1]
            have X1 : Two w1 (w.heap.size) (.int .i64 (a)) (.int .i64 (b)) := by rw [← hw1]; exact Two.new (here _)
            have X2 : Two w2 (w.heap.size) (.int .i64 (a)) (.int .i64 (b)) := by rw [← hw2]; exact X1.keep (grow (here _) _)
            have Y2 : Two w2 (w.heap.size + 1) (.int .i64 (c)) (.int .i64 (d)) := by rw [← s1, ← hw2]; exact Two.new (here _)
            have A2 : Below w.heap.size w w2 := by rw [← hw2, ← hw1]; exact (grow (grow (here w) _) _)
            replace X2 := Lib.hid X2
            replace Y2 := Lib.hid Y2
            replace A2 := Lib.hid A2
            clear X1
            obtain ⟨x0, x1, xl⟩ := X2.out
            obtain ⟨y0, y1, yl⟩ := Y2.out
            have T2 : Hid (ISh w2) := ht.below A2.out
            go_enter Tryd.func34, Tryd.ntmps34
            go_wp2_with fail
            refine (HV.out _).mono ?_
            rintro e w3 ⟨rfl, hb⟩
            clear x0 x1 xl y0 y1 yl
            have A3 := Lib.hid (down A2.out hb)
            have T3 := Lib.hid (T2.out.below hb)
            have X3 := Lib.hid (X2.out.keep hb)
            have Y3 := Lib.hid (Y2.out.keep hb)
            clear hb A2 T2 X2 Y2
            obtain ⟨x0, x1, xl⟩ := X3.out
            obtain ⟨y0, y1, yl⟩ := Y3.out
            go_wp2_with fail
            refine (H1.out _).mono ?_
            rintro e wz ⟨rfl, rfl⟩
            go_wp2_with fail
            refine (H2.out _).mono ?_
            rintro e wz ⟨rfl, rfl⟩
            obtain ⟨g0, g1⟩ : w3.cell? ⟨2, 8, none⟩ = some (.int .i64 10) ∧ True := ⟨share_cell T3.out 8 10 rfl, trivial⟩
            go_wp2
            go_quiet ((go_at_call 57; first | (with_reducible exact qleft (H3.out _)) | exact qleft (H4.out _)))
            go_wp2
            go_ret
            exact ⟨rfl, below_drewN A3.out _⟩
      · rw [cmpV_eq z2] at H2
        have e : ofW a b c d = 11 := by rcases ofW_cases a b c d q.2.2 p.2.2 with u | u | u | u | u | u | u | u | u | u | u | u | u <;> omega
        rw [e]
        clear e p q H3 H4 z1 z2
        obtain ⟨a0, a1⟩ := ha
        obtain ⟨b0, b1⟩ := hb
        obtain ⟨c0, c1⟩ := hc
        obtain ⟨d0, d1⟩ := hd
        obtain ⟨w1, hw1⟩ : ∃ w1 : World, w.alloc (.cells #[.int .i64 (a), .int .i64 (b)] 30) = w1 := ⟨_, rfl⟩
        have s1 : w1.heap.size = w.heap.size + 1 := by rw [← hw1, size_two]
        obtain ⟨w2, hw2⟩ : ∃ w2 : World, w1.alloc (.cells #[.int .i64 (c), .int .i64 (d)] 30) = w2 := ⟨_, rfl⟩
        have s2 : w2.heap.size = w.heap.size + 2 := by rw [← hw2, size_two, s1]
        have X1 : Two w1 (w.heap.size) (.int .i64 (a)) (.int .i64 (b)) := by rw [← hw1]; exact Two.new (here _)
        have X2 : Two w2 (w.heap.size) (.int .i64 (a)) (.int .i64 (b)) := by rw [← hw2]; exact X1.keep (grow (here _) _)
        have Y2 : Two w2 (w.heap.size + 1) (.int .i64 (c)) (.int .i64 (d)) := by rw [← s1, ← hw2]; exact Two.new (here _)
        have A2 : Below w.heap.size w w2 := by rw [← hw2, ← hw1]; exact (grow (grow (here w) _) _)
        replace X2 := Lib.hid X2
        replace Y2 := Lib.hid Y2
        replace A2 := Lib.hid A2
        clear X1
        obtain ⟨x0, x1, xl⟩ := X2.out
        obtain ⟨y0, y1, yl⟩ := Y2.out
        have T2 : Hid (ISh w2) := ht.below A2.out
        go_enter Tryd.func34, Tryd.ntmps34
        go_wp2_with fail
        refine (HV.out _).mono ?_
        rintro e w3 ⟨rfl, hb⟩
        clear x0 x1 xl y0 y1 yl
        have A3 := Lib.hid (down A2.out hb)
        have T3 := Lib.hid (T2.out.below hb)
        have X3 := Lib.hid (X2.out.keep hb)
        have Y3 := Lib.hid (Y2.out.keep hb)
        clear hb A2 T2 X2 Y2
        obtain ⟨x0, x1, xl⟩ := X3.out
        obtain ⟨y0, y1, yl⟩ := Y3.out
        go_wp2_with fail
        refine (H1.out _).mono ?_
        rintro e wz ⟨rfl, rfl⟩
        go_wp2_with fail
        refine (H2.out _).mono ?_
        rintro e wz ⟨rfl, rfl⟩
        go_wp2
        go_ret
        exact ⟨rfl, A3.out⟩
      · rw [cmpV_gt z2] at H2
        have e : ofW a b c d = 12 := by rcases ofW_cases a b c d q.2.2 p.2.2 with u | u | u | u | u | u | u | u | u | u | u | u | u <;> omega
        rw [e]
        clear e p q H3 H4 z1 z2
        obtain ⟨a0, a1⟩ := ha
        obtain ⟨b0, b1⟩ := hb
        obtain ⟨c0, c1⟩ := hc
        obtain ⟨d0, d1⟩ := hd
        obtain ⟨w1, hw1⟩ : ∃ w1 : World, w.alloc (.cells #[.int .i64 (a), .int .i64 (b)] 30) = w1 := ⟨_, rfl⟩
        have s1 : w1.heap.size = w.heap.size + 1 := by rw [← hw1, size_two]
        obtain ⟨w2, hw2⟩ : ∃ w2 : World, w1.alloc (.cells #[.int .i64 (c), .int .i64 (d)] 30) = w2 := ⟨_, rfl⟩
        have s2 : w2.heap.size = w.heap.size + 2 := by rw [← hw2, size_two, s1]
        have X1 : Two w1 (w.heap.size) (.int .i64 (a)) (.int .i64 (b)) := by rw [← hw1]; exact Two.new (here _)
        have X2 : Two w2 (w.heap.size) (.int .i64 (a)) (.int .i64 (b)) := by rw [← hw2]; exact X1.keep (grow (here _) _)
        have Y2 : Two w2 (w.heap.size + 1) (.int .i64 (c)) (.int .i64 (d)) := by rw [← s1, ← hw2]; exact Two.new (here _)
        have A2 : Below w.heap.size w w2 := by rw [← hw2, ← hw1]; exact (grow (grow (here w) _) _)
        replace X2 := Lib.hid X2
        replace Y2 := Lib.hid Y2
        replace A2 := Lib.hid A2
        clear X1
        obtain ⟨x0, x1, xl⟩ := X2.out
        obtain ⟨y0, y1, yl⟩ := Y2.out
        have T2 : Hid (ISh w2) := ht.below A2.out
        go_enter Tryd.func34, Tryd.ntmps34
        go_wp2_with fail
        refine (HV.out _).mono ?_
        rintro e w3 ⟨rfl, hb⟩
        clear x0 x1 xl y0 y1 yl
        have A3 := Lib.hid (down A2.out hb)
        have T3 := Lib.hid (T2.out.below hb)
        have X3 := Lib.hid (X2.out.keep hb)
        have Y3 := Lib.hid (Y2.out.keep hb)
        clear hb A2 T2 X2 Y2
        obtain ⟨x0, x1, xl⟩ := X3.out
        obtain ⟨y0, y1, yl⟩ := Y3.out
        go_wp2_with fail
        refine (H1.out _).mono ?_
        rintro e wz ⟨rfl, rfl⟩
        go_wp2_with fail
        refine (H2.out _).mono ?_
        rintro e wz ⟨rfl, rfl⟩
        go_wp2
        go_ret
        exact ⟨rfl, A3.out⟩
def isR (r : Int) : Bool := decide (0 ≤ r) && decide (r < 13)
theorem isR_iff {r : Int} : isR r = true ↔ 0 ≤ r ∧ r ≤ 12 := by unfold isR; simp; omega
theorem iurel (r : Int) (hr : I64 r) (w : World) :
    Calls Tryd.prog 58 #[.int .i64 r] w fun e w' => e = .returned (.bool (isR r)) ∧ w = w' := by
  obtain ⟨h0, h1⟩ := hr
  unfold isR
  cases p : decide (0 ≤ r) <;> cases q : decide (r < 13)
  all_goals
    go_enter Tryd.func58, Tryd.ntmps58
    go_wp2
    go_ret
    exact ⟨rfl, rfl⟩
theorem iuinv (r : Int) (hr : I64 r) (w : World) :
    Calls Tryd.prog 45 #[.int .i64 r] w fun e w' => e = .returned (.int .i64 (invV r)) ∧ Below w.heap.size w w' := by
  have HR := Lib.hid (fun w => iurel r hr w)
  cases v : isR r
  · rw [invV_out (by rw [← isR_iff, v]; simp)]
    rw [v] at HR
    clear v
    obtain ⟨h0, h1⟩ := hr
    go_enter Tryd.func45, Tryd.ntmps45
    go_wp2_with fail
    refine (HR.out _).mono ?_
    rintro e wz ⟨rfl, rfl⟩
    go_wp2
    go_ret
    exact ⟨rfl, here w⟩
  · rw [invV_in (isR_iff.1 v)]
    have q := isR_iff.1 v
    rw [v] at HR
    clear v hr
    obtain ⟨h0, h1⟩ := q
    go_enter Tryd.func45, Tryd.ntmps45
    go_wp2_with fail
    refine (HR.out _).mono ?_
    rintro e wz ⟨rfl, rfl⟩
    go_wp2
    go_ret
    exact ⟨rfl, here w⟩
theorem iuname (r : Int) (hr : I64 r) (w : World) (ht : INm w) :
    Calls Tryd.prog 37 #[.int .i64 r] w fun e w' => e = .returned (.string (nmR r)) ∧ Below w.heap.size w w' := by
  have HR := Lib.hid (fun w => iurel r hr w)
  cases v : isR r
  · rw [nmR_out (by rw [← isR_iff, v]; simp)]
    rw [v] at HR
    clear v ht
    obtain ⟨h0, h1⟩ := hr
    go_enter Tryd.func37, Tryd.ntmps37
    go_wp2_with fail
    refine (HR.out _).mono ?_
    rintro e wz ⟨rfl, rfl⟩
    go_wp2
    go_ret
    exact ⟨rfl, here w⟩
  · have q := isR_iff.1 v
    rw [v] at HR
    obtain ⟨k, rfl⟩ : ∃ k : Nat, r = k := ⟨r.toNat, by omega⟩
    have k13 : (k : Int) < 13 := by omega
    rw [nmR_in (by omega)]
    have cc := names_cell ht k (by omega)
    clear v hr q ht
    generalize nmV k = S at *
    go_enter Tryd.func37, Tryd.ntmps37
    go_wp2_with fail
    refine (HR.out _).mono ?_
    rintro e wz ⟨rfl, rfl⟩
    go_wp2
    go_ret
    exact ⟨rfl, here w⟩
theorem ix_names (X : Nat → ByteArray) (k : Nat) (hk : k < 13) (w : World) : (Instr.index 71 (.agg #[.string (X 0), .string (X 1), .string (X 2), .string (X 3), .string (X 4), .string (X 5), .string (X 6), .string (X 7), .string (X 8), .string (X 9), .string (X 10), .string (X 11), .string (X 12)]) (.int .i64 (k : Int))).run Tryd.prog w = .ok (.string (X k)) w := by
  have h0 : ∀ w, (Instr.index 71 (.agg #[.string (X 0), .string (X 1), .string (X 2), .string (X 3), .string (X 4), .string (X 5), .string (X 6), .string (X 7), .string (X 8), .string (X 9), .string (X 10), .string (X 11), .string (X 12)]) (.int .i64 0)).run Tryd.prog w = .ok (.string (X 0)) w := fun _ => by kernel_rfl
  have h1 : ∀ w, (Instr.index 71 (.agg #[.string (X 0), .string (X 1), .string (X 2), .string (X 3), .string (X 4), .string (X 5), .string (X 6), .string (X 7), .string (X 8), .string (X 9), .string (X 10), .string (X 11), .string (X 12)]) (.int .i64 1)).run Tryd.prog w = .ok (.string (X 1)) w := fun _ => by kernel_rfl
  have h2 : ∀ w, (Instr.index 71 (.agg #[.string (X 0), .string (X 1), .string (X 2), .string (X 3), .string (X 4), .string (X 5), .string (X 6), .string (X 7), .string (X 8), .string (X 9), .string (X 10), .string (X 11), .string (X 12)]) (.int .i64 2)).run Tryd.prog w = .ok (.string (X 2)) w := fun _ => by kernel_rfl
  have h3 : ∀ w, (Instr.index 71 (.agg #[.string (X 0), .string (X 1), .string (X 2), .string (X 3), .string (X 4), .string (X 5), .string (X 6), .string (X 7), .string (X 8), .string (X 9), .string (X 10), .string (X 11), .string (X 12)]) (.int .i64 3)).run Tryd.prog w = .ok (.string (X 3)) w := fun _ => by kernel_rfl
  have h4 : ∀ w, (Instr.index 71 (.agg #[.string (X 0), .string (X 1), .string (X 2), .string (X 3), .string (X 4), .string (X 5), .string (X 6), .string (X 7), .string (X 8), .string (X 9), .string (X 10), .string (X 11), .string (X 12)]) (.int .i64 4)).run Tryd.prog w = .ok (.string (X 4)) w := fun _ => by kernel_rfl
  have h5 : ∀ w, (Instr.index 71 (.agg #[.string (X 0), .string (X 1), .string (X 2), .string (X 3), .string (X 4), .string (X 5), .string (X 6), .string (X 7), .string (X 8), .string (X 9), .string (X 10), .string (X 11), .string (X 12)]) (.int .i64 5)).run Tryd.prog w = .ok (.string (X 5)) w := fun _ => by kernel_rfl
  have h6 : ∀ w, (Instr.index 71 (.agg #[.string (X 0), .string (X 1), .string (X 2), .string (X 3), .string (X 4), .string (X 5), .string (X 6), .string (X 7), .string (X 8), .string (X 9), .string (X 10), .string (X 11), .string (X 12)]) (.int .i64 6)).run Tryd.prog w = .ok (.string (X 6)) w := fun _ => by kernel_rfl
  have h7 : ∀ w, (Instr.index 71 (.agg #[.string (X 0), .string (X 1), .string (X 2), .string (X 3), .string (X 4), .string (X 5), .string (X 6), .string (X 7), .string (X 8), .string (X 9), .string (X 10), .string (X 11), .string (X 12)]) (.int .i64 7)).run Tryd.prog w = .ok (.string (X 7)) w := fun _ => by kernel_rfl
  have h8 : ∀ w, (Instr.index 71 (.agg #[.string (X 0), .string (X 1), .string (X 2), .string (X 3), .string (X 4), .string (X 5), .string (X 6), .string (X 7), .string (X 8), .string (X 9), .string (X 10), .string (X 11), .string (X 12)]) (.int .i64 8)).run Tryd.prog w = .ok (.string (X 8)) w := fun _ => by kernel_rfl
  have h9 : ∀ w, (Instr.index 71 (.agg #[.string (X 0), .string (X 1), .string (X 2), .string (X 3), .string (X 4), .string (X 5), .string (X 6), .string (X 7), .string (X 8), .string (X 9), .string (X 10), .string (X 11), .string (X 12)]) (.int .i64 9)).run Tryd.prog w = .ok (.string (X 9)) w := fun _ => by kernel_rfl
  have h10 : ∀ w, (Instr.index 71 (.agg #[.string (X 0), .string (X 1), .string (X 2), .string (X 3), .string (X 4), .string (X 5), .string (X 6), .string (X 7), .string (X 8), .string (X 9), .string (X 10), .string (X 11), .string (X 12)]) (.int .i64 10)).run Tryd.prog w = .ok (.string (X 10)) w := fun _ => by kernel_rfl
  have h11 : ∀ w, (Instr.index 71 (.agg #[.string (X 0), .string (X 1), .string (X 2), .string (X 3), .string (X 4), .string (X 5), .string (X 6), .string (X 7), .string (X 8), .string (X 9), .string (X 10), .string (X 11), .string (X 12)]) (.int .i64 11)).run Tryd.prog w = .ok (.string (X 11)) w := fun _ => by kernel_rfl
  have h12 : ∀ w, (Instr.index 71 (.agg #[.string (X 0), .string (X 1), .string (X 2), .string (X 3), .string (X 4), .string (X 5), .string (X 6), .string (X 7), .string (X 8), .string (X 9), .string (X 10), .string (X 11), .string (X 12)]) (.int .i64 12)).run Tryd.prog w = .ok (.string (X 12)) w := fun _ => by kernel_rfl
  have c : k = 0 ∨ k = 1 ∨ k = 2 ∨ k = 3 ∨ k = 4 ∨ k = 5 ∨ k = 6 ∨ k = 7 ∨ k = 8 ∨ k = 9 ∨ k = 10 ∨ k = 11 ∨ k = 12 := by omega
  rcases c with rfl | rfl | rfl | rfl | rfl | rfl | rfl | rfl | rfl | rfl | rfl | rfl | rfl
  · exact h0 w
  · exact h1 w
  · exact h2 w
  · exact h3 w
  · exact h4 w
  · exact h5 w
  · exact h6 w
  · exact h7 w
  · exact h8 w
  · exact h9 w
  · exact h10 w
  · exact h11 w
  · exact h12 w
set_option maxRecDepth 100000 in
set_option maxHeartbeats 1000000 in
theorem iuparse (s : ByteArray) (hs : s.size ≤ 1000) (w : World) (ht : INm w) :
    Calls Tryd.prog 51 #[.string s] w fun e w' => e = .returned (.tuple #[.int .i64 (prV s), .int .i64 (prE s)]) ∧ Below w.heap.size w w' := by
  have NO := Lib.hid (@pr_no s)
  have AT := Lib.hid (fun k => @pr_at s k)
  obtain ⟨X, hX⟩ : ∃ X, nmV = X := ⟨_, rfl⟩
  have c0 := names_cell ht 0 (by omega)
  have c1 := names_cell ht 1 (by omega)
  have c2 := names_cell ht 2 (by omega)
  have c3 := names_cell ht 3 (by omega)
  have c4 := names_cell ht 4 (by omega)
  have c5 := names_cell ht 5 (by omega)
  have c6 := names_cell ht 6 (by omega)
  have c7 := names_cell ht 7 (by omega)
  have c8 := names_cell ht 8 (by omega)
  have c9 := names_cell ht 9 (by omega)
  have c10 := names_cell ht 10 (by omega)
  have c11 := names_cell ht 11 (by omega)
  have c12 := names_cell ht 12 (by omega)
  rw [hX] at NO AT c0 c1 c2 c3 c4 c5 c6 c7 c8 c9 c10 c11 c12
  clear hX ht
  generalize prV s = V at *
  generalize prE s = E at *
  go_enter Tryd.func51, Tryd.ntmps51
  go_wp2
  clear c0 c1 c2 c3 c4 c5 c6 c7 c8 c9 c10 c11 c12
  go_loop [7] (fun i => ∃ k : Nat, k ≤ 13 ∧ i = .int .i64 k ∧ Hid (∀ j, j < k → ¬ X j = s)) (fun i => 13 - (intOf i).toNat)
  case atStart => exact ⟨0, Nat.zero_le _, rfl, fun j hj => absurd hj (Nat.not_lt_zero _)⟩
  case round =>
    obtain ⟨k, hk, rfl, HF⟩ := hrel
    by_cases z : k < 13
    · have kz : decide ((k : Int) < 13) = true := decide_eq_true (by omega)
      have ix := fun w => ix_names X k z w
      have at' := Lib.hid (AT.out k z HF.out)
      have nx : Hid (¬ X k = s → ∀ j, j < k + 1 → ¬ X j = s) := fun e j hj => by
        rcases Nat.lt_or_ge j k with q | q
        · exact HF.out j q
        · obtain rfl : j = k := by omega
          exact e
      clear NO AT HF
      generalize X k = S at *
      by_cases e : S = s
      · obtain ⟨rfl, rfl⟩ := at'.out e
        subst e
        have eq : (S.toList == S.toList) = true := beq_self_eq_true _
        clear at' nx
        go_wp2
        go_ret2
        exact ⟨rfl, here w⟩
      · replace nx := Lib.hid (nx.out e)
        have ne : (S.toList == s.toList) = false := by rw [beq_eq_false_iff_ne, ByteArray.toList_eq, ByteArray.toList_eq]; exact fun x => e (ba_list x)
        clear at'
        go_wp2
        go_round
        case rel => exact ⟨k + 1, by omega, by go_num, nx⟩
        case measure => simp [intOf]; omega
    · have kz : decide ((k : Int) < 13) = false := decide_eq_false (by omega)
      obtain ⟨rfl, rfl⟩ := NO.out (fun j hj => HF.out j (by omega))
      clear NO AT HF
      go_wp2
      go_ret2
      exact ⟨rfl, here w⟩
/-- A list of 13 cells, filled as far as k. -/
structure Fil (w : World) (b k : Nat) : Prop where
  c : ∀ j, j < 13 → w.cell? ⟨b, j, none⟩ = some (.int .i64 (if j < k then (j : Int) else 0))
  f : ∀ j, j < 13 → w.frozen? ⟨b, j, none⟩ = false
  lt : b < w.heap.size
theorem Fil.put {w : World} {b k : Nat} (h : Fil w b k) (hk : k < 13) : Fil (w.setCell ⟨b, k, none⟩ (.int .i64 (k : Int))) b (k + 1) := by
  refine ⟨fun j hj => ?_, fun j hj => by rw [World.frozen?_setCell]; exact h.f j hj, by rw [size_set]; exact h.lt⟩
  by_cases e : j = k
  · subst e
    rw [World.cell?_setCell_same w _ _ (h.c j hj), if_pos (by omega)]
  · rw [World.cell?_setCell_other (h := by intro q; simp at q), h.c j hj]
    by_cases l : j < k
    · rw [if_pos l, if_pos (by omega)]
    · rw [if_neg l, if_neg (by omega)]
end Go.Proofs.YtiaidmjhgfaobaaDoor
