/- Contracts of package interval; Tabs: its two tables, the names and the relations of intervals that share integers. -/
import Derived.Test.YtknlhhjooamfhaaDoorLIvM
import Derived.Test.YtknlhhjooamfhaaDoorLIvN
import Derived.Test.YtknlhhjooamfhaaDoorLSl
import Derived.Test.YtknlhhjooamfhaaDoorLOwn
import Derived.Test.YtknlhhjooamfhaaDoorIvS
import Derived.Test.YtknlhhjooamfhaaDoorIvT
import Derived.OwnWalk
import Derived.Deep.QuietTactic
import Derived.BigQuiet
import Derived.Outline
import Derived.Lib.SmallJoins
namespace Go.Proofs.YtknlhhjooamfhaaDoor
open Go.RowKit
set_option linter.unusedVariables false

def namesA : Array Value := #[.string (nmV 0), .string (nmV 1), .string (nmV 2), .string (nmV 3), .string (nmV 4), .string (nmV 5), .string (nmV 6), .string (nmV 7), .string (nmV 8), .string (nmV 9), .string (nmV 10), .string (nmV 11), .string (nmV 12)]
def shareA : Array Value := #[.int .i64 2, .int .i64 7, .int .i64 8, .int .i64 3, .int .i64 6, .int .i64 9, .int .i64 4, .int .i64 5, .int .i64 10]
/-- The package's tables. -/
structure Tabs (w : World) : Prop where
  nm : w.var? Tryd.prog "civiltime/interval.names" = some namesA
  sh : w.var? Tryd.prog "civiltime/interval.sharing" = some shareA
theorem gNames : Tryd.prog.globalNamed "civiltime/interval.names" = some 1 := by kernel_rfl
theorem gShare : Tryd.prog.globalNamed "civiltime/interval.sharing" = some 0 := by kernel_rfl
theorem Tabs.below {w w' : World} (h : Tabs w) (hb : Below w.heap.size w w') : Tabs w' :=
  ⟨Joins.var_stays gNames h.nm hb (Nat.le_refl _), Joins.var_stays gShare h.sh hb (Nat.le_refl _)⟩
theorem names_cell {w : World} (h : Tabs w) (k : Nat) (hk : k < 13) : w.cell? ⟨1, k, none⟩ = some (.string (nmV k)) := by
  rw [World.var?_cell gNames h.nm k]
  match k, hk with
  | 0, _ => rfl
  | 1, _ => rfl
  | 2, _ => rfl
  | 3, _ => rfl
  | 4, _ => rfl
  | 5, _ => rfl
  | 6, _ => rfl
  | 7, _ => rfl
  | 8, _ => rfl
  | 9, _ => rfl
  | 10, _ => rfl
  | 11, _ => rfl
  | 12, _ => rfl
theorem share_cell {w : World} (h : Tabs w) (k : Nat) (z : Int) (e : shareA[k]? = some (.int .i64 z)) : w.cell? ⟨0, k, none⟩ = some (.int .i64 z) := by
  rw [World.var?_cell gShare h.sh k]; exact e
theorem uvvalid (a b : Int) (ha : I64 a) (hb : I64 b) (w : World) (ht : Tabs w) :
    Calls Tryd.prog 28 #[.agg #[.int .i64 a, .int .i64 b]] w fun e w' => e = .returned (.bool (ivB a b)) ∧ Below w.heap.size w w' := by
  have e : ivB a b = (decide (-4398046511104 ≤ a) && decide (a < b) && decide (b ≤ 4398046511104)) := by
    unfold ivB
    rw [Bool.eq_iff_iff]; simp only [Bool.and_eq_true, decide_eq_true_eq]; omega
  rw [e]
  clear e ht
  obtain ⟨x0, x1, xlt⟩ := Two.new (here (w.alloc (.cells #[.int .i64 a, .int .i64 b] 23)))
  obtain ⟨a0, a1⟩ := ha
  obtain ⟨b0, b1⟩ := hb
  cases p : decide (-4398046511104 ≤ a) <;> cases q : decide (a < b) <;> cases r : decide (b ≤ 4398046511104)
  all_goals
    go_enter Tryd.func28, Tryd.ntmps28
    go_wp2
    go_ret
    exact ⟨rfl, grow (here w) _⟩
set_option maxRecDepth 100000 in
set_option maxHeartbeats 1000000 in
theorem ubv (a b c d : Int) (ha : I64 a) (hb : I64 b) (hc : I64 c) (hd : I64 d) (w : World) (ht : Tabs w) :
    Calls Tryd.prog 36 #[.agg #[.int .i64 a, .int .i64 b], .agg #[.int .i64 c, .int .i64 d]] w fun e w' => e = .returned (.bool (ivB a b && ivB c d)) ∧ Below w.heap.size w w' := by
  have HVA := Lib.hid (fun w ht => uvvalid a b ha hb w ht)
  have HVB := Lib.hid (fun w ht => uvvalid c d hc hd w ht)
  obtain ⟨a0, a1⟩ := ha
  obtain ⟨b0, b1⟩ := hb
  obtain ⟨c0, c1⟩ := hc
  obtain ⟨d0, d1⟩ := hd
  cases va : ivB a b
  · rw [va] at HVA
    clear HVB va
    obtain ⟨w1, hw1⟩ : ∃ w1 : World, w.alloc (.cells #[.int .i64 (a), .int .i64 (b)] 23) = w1 := ⟨_, rfl⟩
    have s1 : w1.heap.size = w.heap.size + 1 := by rw [← hw1, size_two]
    obtain ⟨w2, hw2⟩ : ∃ w2 : World, w1.alloc (.cells #[.int .i64 (c), .int .i64 (d)] 23) = w2 := ⟨_, rfl⟩
    have s2 : w2.heap.size = w.heap.size + 2 := by rw [← hw2, size_two, s1]
    have X1 : Two w1 (w.heap.size) (.int .i64 (a)) (.int .i64 (b)) := by rw [← hw1]; exact Two.new (here _)
    have X2 : Two w2 (w.heap.size) (.int .i64 (a)) (.int .i64 (b)) := by rw [← hw2]; exact X1.keep (grow (here _) _)
    have Y2 : Two w2 (w.heap.size + 1) (.int .i64 (c)) (.int .i64 (d)) := by rw [← s1, ← hw2]; exact Two.new (here _)
    have A2 : Below w.heap.size w w2 := by rw [← hw2, ← hw1]; exact (grow (grow (here w) _) _)
    replace X2 := Lib.hid X2
    replace Y2 := Lib.hid Y2
    replace A2 := Lib.hid A2
    clear X1
    obtain ⟨x0, x1, xl⟩ := X2.out
    obtain ⟨y0, y1, yl⟩ := Y2.out
    have T2 : Hid (Tabs w2) := ht.below A2.out
    go_enter Tryd.func36, Tryd.ntmps36
    go_wp2_with fail
    refine (HVA.out _ T2.out).mono ?_
    rintro e w3 ⟨rfl, hb⟩
    clear x0 x1 xl y0 y1 yl
    have A3 := Lib.hid (down A2.out hb)
    have T3 := Lib.hid (T2.out.below hb)
    have X3 := Lib.hid (X2.out.keep hb)
    have Y3 := Lib.hid (Y2.out.keep hb)
    clear hb A2 T2 X2 Y2
    obtain ⟨x0, x1, xl⟩ := X3.out
    obtain ⟨y0, y1, yl⟩ := Y3.out
    go_wp2
    go_ret
    exact ⟨rfl, A3.out⟩
  · rw [va] at HVA
    clear va
    cases vb : ivB c d
    · rw [vb] at HVB
      clear vb
      obtain ⟨w1, hw1⟩ : ∃ w1 : World, w.alloc (.cells #[.int .i64 (a), .int .i64 (b)] 23) = w1 := ⟨_, rfl⟩
      have s1 : w1.heap.size = w.heap.size + 1 := by rw [← hw1, size_two]
      obtain ⟨w2, hw2⟩ : ∃ w2 : World, w1.alloc (.cells #[.int .i64 (c), .int .i64 (d)] 23) = w2 := ⟨_, rfl⟩
      have s2 : w2.heap.size = w.heap.size + 2 := by rw [← hw2, size_two, s1]
      have X1 : Two w1 (w.heap.size) (.int .i64 (a)) (.int .i64 (b)) := by rw [← hw1]; exact Two.new (here _)
      have X2 : Two w2 (w.heap.size) (.int .i64 (a)) (.int .i64 (b)) := by rw [← hw2]; exact X1.keep (grow (here _) _)
      have Y2 : Two w2 (w.heap.size + 1) (.int .i64 (c)) (.int .i64 (d)) := by rw [← s1, ← hw2]; exact Two.new (here _)
      have A2 : Below w.heap.size w w2 := by rw [← hw2, ← hw1]; exact (grow (grow (here w) _) _)
      replace X2 := Lib.hid X2
      replace Y2 := Lib.hid Y2
      replace A2 := Lib.hid A2
      clear X1
      obtain ⟨x0, x1, xl⟩ := X2.out
      obtain ⟨y0, y1, yl⟩ := Y2.out
      have T2 : Hid (Tabs w2) := ht.below A2.out
      go_enter Tryd.func36, Tryd.ntmps36
      go_wp2_with fail
      refine (HVA.out _ T2.out).mono ?_
      rintro e w3 ⟨rfl, hb⟩
      clear x0 x1 xl y0 y1 yl
      have A3 := Lib.hid (down A2.out hb)
      have T3 := Lib.hid (T2.out.below hb)
      have X3 := Lib.hid (X2.out.keep hb)
      have Y3 := Lib.hid (Y2.out.keep hb)
      clear hb A2 T2 X2 Y2
      obtain ⟨x0, x1, xl⟩ := X3.out
      obtain ⟨y0, y1, yl⟩ := Y3.out
      go_wp2_with fail
      refine (HVB.out _ T3.out).mono ?_
      rintro e w4 ⟨rfl, hb⟩
      clear x0 x1 xl y0 y1 yl
      have A4 := Lib.hid (down A3.out hb)
      have T4 := Lib.hid (T3.out.below hb)
      have X4 := Lib.hid (X3.out.keep hb)
      have Y4 := Lib.hid (Y3.out.keep hb)
      clear hb A3 T3 X3 Y3
      obtain ⟨x0, x1, xl⟩ := X4.out
      obtain ⟨y0, y1, yl⟩ := Y4.out
      go_wp2
      go_ret
      exact ⟨rfl, A4.out⟩
    · rw [vb] at HVB
      clear vb
      obtain ⟨w1, hw1⟩ : ∃ w1 : World, w.alloc (.cells #[.int .i64 (a), .int .i64 (b)] 23) = w1 := ⟨_, rfl⟩
      have s1 : w1.heap.size = w.heap.size + 1 := by rw [← hw1, size_two]
      obtain ⟨w2, hw2⟩ : ∃ w2 : World, w1.alloc (.cells #[.int .i64 (c), .int .i64 (d)] 23) = w2 := ⟨_, rfl⟩
      have s2 : w2.heap.size = w.heap.size + 2 := by rw [← hw2, size_two, s1]
      have X1 : Two w1 (w.heap.size) (.int .i64 (a)) (.int .i64 (b)) := by rw [← hw1]; exact Two.new (here _)
      have X2 : Two w2 (w.heap.size) (.int .i64 (a)) (.int .i64 (b)) := by rw [← hw2]; exact X1.keep (grow (here _) _)
      have Y2 : Two w2 (w.heap.size + 1) (.int .i64 (c)) (.int .i64 (d)) := by rw [← s1, ← hw2]; exact Two.new (here _)
      have A2 : Below w.heap.size w w2 := by rw [← hw2, ← hw1]; exact (grow (grow (here w) _) _)
      replace X2 := Lib.hid X2
      replace Y2 := Lib.hid Y2
      replace A2 := Lib.hid A2
      clear X1
      obtain ⟨x0, x1, xl⟩ := X2.out
      obtain ⟨y0, y1, yl⟩ := Y2.out
      have T2 : Hid (Tabs w2) := ht.below A2.out
      go_enter Tryd.func36, Tryd.ntmps36
      go_wp2_with fail
      refine (HVA.out _ T2.out).mono ?_
      rintro e w3 ⟨rfl, hb⟩
      clear x0 x1 xl y0 y1 yl
      have A3 := Lib.hid (down A2.out hb)
      have T3 := Lib.hid (T2.out.below hb)
      have X3 := Lib.hid (X2.out.keep hb)
      have Y3 := Lib.hid (Y2.out.keep hb)
      clear hb A2 T2 X2 Y2
      obtain ⟨x0, x1, xl⟩ := X3.out
      obtain ⟨y0, y1, yl⟩ := Y3.out
      go_wp2_with fail
      refine (HVB.out _ T3.out).mono ?_
      rintro e w4 ⟨rfl, hb⟩
      clear x0 x1 xl y0 y1 yl
      have A4 := Lib.hid (down A3.out hb)
      have T4 := Lib.hid (T3.out.below hb)
      have X4 := Lib.hid (X3.out.keep hb)
      have Y4 := Lib.hid (Y3.out.keep hb)
      clear hb A3 T3 X3 Y3
      obtain ⟨x0, x1, xl⟩ := X4.out
      obtain ⟨y0, y1, yl⟩ := Y4.out
      go_wp2
      go_ret
      exact ⟨rfl, A4.out⟩
set_option maxRecDepth 100000 in
set_option maxHeartbeats 1000000 in
theorem uvhas (a b : Int) (ha : I64 a) (hb : I64 b) (x : Int) (hx : I64 x) (w : World) (ht : Tabs w) :
    Calls Tryd.prog 29 #[.agg #[.int .i64 a, .int .i64 b], .int .i64 x] w fun e w' => e = .returned (.bool (hsB a b x)) ∧ Below w.heap.size w w' := by
  have HVA := Lib.hid (fun w ht => uvvalid a b ha hb w ht)
  unfold hsB
  obtain ⟨a0, a1⟩ := ha
  obtain ⟨b0, b1⟩ := hb
  obtain ⟨x0, x1⟩ := hx
  cases va : ivB a b
  · rw [va] at HVA
    clear va
    obtain ⟨w1, hw1⟩ : ∃ w1 : World, w.alloc (.cells #[.int .i64 (a), .int .i64 (b)] 23) = w1 := ⟨_, rfl⟩
    have s1 : w1.heap.size = w.heap.size + 1 := by rw [← hw1, size_two]
    have X1 : Two w1 (w.heap.size) (.int .i64 (a)) (.int .i64 (b)) := by rw [← hw1]; exact Two.new (here _)
    have A1 : Below w.heap.size w w1 := by rw [← hw1]; exact (grow (here w) _)
    replace X1 := Lib.hid X1
    replace A1 := Lib.hid A1
    obtain ⟨x0, x1, xl⟩ := X1.out
    have T1 : Hid (Tabs w1) := ht.below A1.out
    go_enter Tryd.func29, Tryd.ntmps29
    go_wp2_with fail
    refine (HVA.out _ T1.out).mono ?_
    rintro e w2 ⟨rfl, hb⟩
    clear x0 x1 xl
    have A2 := Lib.hid (down A1.out hb)
    have T2 := Lib.hid (T1.out.below hb)
    have X2 := Lib.hid (X1.out.keep hb)
    clear hb A1 T1 X1
    obtain ⟨x0, x1, xl⟩ := X2.out
    go_wp2
    go_ret
    exact ⟨rfl, A2.out⟩
  · rw [va] at HVA
    clear va
    cases p : decide (a ≤ x) <;> cases q : decide (x < b)
    all_goals
      obtain ⟨w1, hw1⟩ : ∃ w1 : World, w.alloc (.cells #[.int .i64 (a), .int .i64 (b)] 23) = w1 := ⟨_, rfl⟩
      have s1 : w1.heap.size = w.heap.size + 1 := by rw [← hw1, size_two]
      have X1 : Two w1 (w.heap.size) (.int .i64 (a)) (.int .i64 (b)) := by rw [← hw1]; exact Two.new (here _)
      have A1 : Below w.heap.size w w1 := by rw [← hw1]; exact (grow (here w) _)
      replace X1 := Lib.hid X1
      replace A1 := Lib.hid A1
      obtain ⟨x0, x1, xl⟩ := X1.out
      have T1 : Hid (Tabs w1) := ht.below A1.out
      go_enter Tryd.func29, Tryd.ntmps29
      go_wp2_with fail
      refine (HVA.out _ T1.out).mono ?_
      rintro e w2 ⟨rfl, hb⟩
      clear x0 x1 xl
      have A2 := Lib.hid (down A1.out hb)
      have T2 := Lib.hid (T1.out.below hb)
      have X2 := Lib.hid (X1.out.keep hb)
      clear hb A1 T1 X1
      obtain ⟨x0, x1, xl⟩ := X2.out
      go_wp2
      go_ret
      exact ⟨rfl, A2.out⟩
set_option maxRecDepth 100000 in
set_option maxHeartbeats 1000000 in
theorem uvlen (a b : Int) (ha : I64 a) (hb : I64 b) (w : World) (ht : Tabs w) :
    Calls Tryd.prog 30 #[.agg #[.int .i64 a, .int .i64 b]] w fun e w' => e = .returned (.int .i64 (lnV a b)) ∧ Below w.heap.size w w' := by
  have HVA := Lib.hid (fun w ht => uvvalid a b ha hb w ht)
  unfold lnV
  obtain ⟨a0, a1⟩ := ha
  obtain ⟨b0, b1⟩ := hb
  cases va : ivB a b
  · rw [va] at HVA
    clear va
    obtain ⟨w1, hw1⟩ : ∃ w1 : World, w.alloc (.cells #[.int .i64 (a), .int .i64 (b)] 23) = w1 := ⟨_, rfl⟩
    have s1 : w1.heap.size = w.heap.size + 1 := by rw [← hw1, size_two]
    have X1 : Two w1 (w.heap.size) (.int .i64 (a)) (.int .i64 (b)) := by rw [← hw1]; exact Two.new (here _)
    have A1 : Below w.heap.size w w1 := by rw [← hw1]; exact (grow (here w) _)
    replace X1 := Lib.hid X1
    replace A1 := Lib.hid A1
    obtain ⟨x0, x1, xl⟩ := X1.out
    have T1 : Hid (Tabs w1) := ht.below A1.out
    go_enter Tryd.func30, Tryd.ntmps30
    go_wp2_with fail
    refine (HVA.out _ T1.out).mono ?_
    rintro e w2 ⟨rfl, hb⟩
    clear x0 x1 xl
    have A2 := Lib.hid (down A1.out hb)
    have T2 := Lib.hid (T1.out.below hb)
    have X2 := Lib.hid (X1.out.keep hb)
    clear hb A1 T1 X1
    obtain ⟨x0, x1, xl⟩ := X2.out
    go_wp2
    go_ret
    exact ⟨rfl, A2.out⟩
  · rw [va] at HVA
    have q := ivB_iff.1 va
    clear va
    obtain ⟨q0, q1, q2⟩ := q
    obtain ⟨w1, hw1⟩ : ∃ w1 : World, w.alloc (.cells #[.int .i64 (a), .int .i64 (b)] 23) = w1 := ⟨_, rfl⟩
    have s1 : w1.heap.size = w.heap.size + 1 := by rw [← hw1, size_two]
    have X1 : Two w1 (w.heap.size) (.int .i64 (a)) (.int .i64 (b)) := by rw [← hw1]; exact Two.new (here _)
    have A1 : Below w.heap.size w w1 := by rw [← hw1]; exact (grow (here w) _)
    replace X1 := Lib.hid X1
    replace A1 := Lib.hid A1
    obtain ⟨x0, x1, xl⟩ := X1.out
    have T1 : Hid (Tabs w1) := ht.below A1.out
    go_enter Tryd.func30, Tryd.ntmps30
    go_wp2_with fail
    refine (HVA.out _ T1.out).mono ?_
    rintro e w2 ⟨rfl, hb⟩
    clear x0 x1 xl
    have A2 := Lib.hid (down A1.out hb)
    have T2 := Lib.hid (T1.out.below hb)
    have X2 := Lib.hid (X1.out.keep hb)
    clear hb A1 T1 X1
    obtain ⟨x0, x1, xl⟩ := X2.out
    go_wp2
    go_ret
    exact ⟨rfl, A2.out⟩
def cmpV (a b : Int) : Int := if a < b then -1 else if b < a then 1 else 0
theorem cmpV_lt {a b : Int} (h : a < b) : cmpV a b = -1 := by unfold cmpV; rw [if_pos h]
theorem cmpV_gt {a b : Int} (h : b < a) : cmpV a b = 1 := by unfold cmpV; rw [if_neg (by omega), if_pos h]
theorem cmpV_eq {a b : Int} (h : a = b) : cmpV a b = 0 := by unfold cmpV; rw [if_neg (by omega), if_neg (by omega)]
theorem unan (a : Int) (ha : I64 a) (w : World) :
    Calls Tryd.prog 41 #[.int .i64 a] w fun e w' => e = .returned (.bool false) ∧ w = w' := by
  obtain ⟨a0, a1⟩ := ha
  have e : (a != a) = false := by simp
  go_enter Tryd.func41, Tryd.ntmps41
  go_wp2
  go_ret
  exact ⟨rfl, rfl⟩
theorem ucmp (a b : Int) (ha : I64 a) (hb : I64 b) (w : World) :
    Calls Tryd.prog 37 #[.int .i64 a, .int .i64 b] w fun e w' => e = .returned (.int .i64 (cmpV a b)) ∧ w = w' := by
  have HA := Lib.hid (fun w => unan a ha w)
  have HB := Lib.hid (fun w => unan b hb w)
  obtain ⟨a0, a1⟩ := ha
  obtain ⟨b0, b1⟩ := hb
  have go : ∀ p q : Bool, decide (a < b) = p → decide (b < a) = q → cmpV a b = (if p then -1 else if q then 1 else 0) := by
    rintro p q rfl rfl
    unfold cmpV
    simp
  cases p : decide (a < b) <;> cases q : decide (b < a)
  all_goals
    rw [go _ _ p q]
    clear go
    go_enter Tryd.func37, Tryd.ntmps37
    go_wp2_with (first | (with_reducible refine (HA.out _).mono ?_) | refine (HB.out _).mono ?_); rintro e w1 ⟨rfl, rfl⟩
    go_wp2_with (first | (with_reducible refine (HB.out _).mono ?_) | refine (HA.out _).mono ?_); rintro e w2 ⟨rfl, rfl⟩
    go_wp2
    go_ret
    exact ⟨rfl, rfl⟩
set_option maxRecDepth 100000 in
set_option maxHeartbeats 1000000 in
theorem uvof (a b c d : Int) (ha : I64 a) (hb : I64 b) (hc : I64 c) (hd : I64 d) (w : World) (ht : Tabs w) :
    Calls Tryd.prog 12 #[.agg #[.int .i64 a, .int .i64 b], .agg #[.int .i64 c, .int .i64 d]] w fun e w' => e = .returned (.int .i64 (ofV a b c d)) ∧ Below w.heap.size w w' := by
  have HV := Lib.hid (fun w ht => ubv a b c d ha hb hc hd w ht)
  have H1 := Lib.hid (fun w => ucmp b c hb hc w)
  have H2 := Lib.hid (fun w => ucmp a d ha hd w)
  have H3 := Lib.hid (fun w => ucmp a c ha hc w)
  have H4 := Lib.hid (fun w => ucmp b d hb hd w)
  cases v : ivB a b && ivB c d
  · rw [ofV_out v]
    rw [v] at HV
    clear H1 H2 H3 H4 v
    obtain ⟨a0, a1⟩ := ha
    obtain ⟨b0, b1⟩ := hb
    obtain ⟨c0, c1⟩ := hc
    obtain ⟨d0, d1⟩ := hd
    obtain ⟨w1, hw1⟩ : ∃ w1 : World, w.alloc (.cells #[.int .i64 (a), .int .i64 (b)] 23) = w1 := ⟨_, rfl⟩
    have s1 : w1.heap.size = w.heap.size + 1 := by rw [← hw1, size_two]
    obtain ⟨w2, hw2⟩ : ∃ w2 : World, w1.alloc (.cells #[.int .i64 (c), .int .i64 (d)] 23) = w2 := ⟨_, rfl⟩
    have s2 : w2.heap.size = w.heap.size + 2 := by rw [← hw2, size_two, s1]
    have X1 : Two w1 (w.heap.size) (.int .i64 (a)) (.int .i64 (b)) := by rw [← hw1]; exact Two.new (here _)
    have X2 : Two w2 (w.heap.size) (.int .i64 (a)) (.int .i64 (b)) := by rw [← hw2]; exact X1.keep (grow (here _) _)
    have Y2 : Two w2 (w.heap.size + 1) (.int .i64 (c)) (.int .i64 (d)) := by rw [← s1, ← hw2]; exact Two.new (here _)
    have A2 : Below w.heap.size w w2 := by rw [← hw2, ← hw1]; exact (grow (grow (here w) _) _)
    replace X2 := Lib.hid X2
    replace Y2 := Lib.hid Y2
    replace A2 := Lib.hid A2
    clear X1
    obtain ⟨x0, x1, xl⟩ := X2.out
    obtain ⟨y0, y1, yl⟩ := Y2.out
    have T2 : Hid (Tabs w2) := ht.below A2.out
    go_enter Tryd.func12, Tryd.ntmps12
    go_wp2_with fail
    refine (HV.out _ T2.out).mono ?_
    rintro e w3 ⟨rfl, hb⟩
    clear x0 x1 xl y0 y1 yl
    have A3 := Lib.hid (down A2.out hb)
    have T3 := Lib.hid (T2.out.below hb)
    have X3 := Lib.hid (X2.out.keep hb)
    have Y3 := Lib.hid (Y2.out.keep hb)
    clear hb A2 T2 X2 Y2
    obtain ⟨x0, x1, xl⟩ := X3.out
    obtain ⟨y0, y1, yl⟩ := Y3.out
    go_wp2
    go_ret
    exact ⟨rfl, A3.out⟩
  · rw [v] at HV
    rw [Bool.and_eq_true] at v
    rw [ofV_in v.1 v.2]
    have q := ivB_iff.1 v.1
    have p := ivB_iff.1 v.2
    clear v
    rcases Int.lt_trichotomy b c with z1 | z1 | z1
    · rw [cmpV_lt z1] at H1
      have e : ofW a b c d = 0 := by rcases ofW_cases a b c d q.2.2 p.2.2 with u | u | u | u | u | u | u | u | u | u | u | u | u <;> omega
      rw [e]
      clear e p q H2 H3 H4 z1
      obtain ⟨a0, a1⟩ := ha
      obtain ⟨b0, b1⟩ := hb
      obtain ⟨c0, c1⟩ := hc
      obtain ⟨d0, d1⟩ := hd
      obtain ⟨w1, hw1⟩ : ∃ w1 : World, w.alloc (.cells #[.int .i64 (a), .int .i64 (b)] 23) = w1 := ⟨_, rfl⟩
      have s1 : w1.heap.size = w.heap.size + 1 := by rw [← hw1, size_two]
      obtain ⟨w2, hw2⟩ : ∃ w2 : World, w1.alloc (.cells #[.int .i64 (c), .int .i64 (d)] 23) = w2 := ⟨_, rfl⟩
      have s2 : w2.heap.size = w.heap.size + 2 := by rw [← hw2, size_two, s1]
      have X1 : Two w1 (w.heap.size) (.int .i64 (a)) (.int .i64 (b)) := by rw [← hw1]; exact Two.new (here _)
      have X2 : Two w2 (w.heap.size) (.int .i64 (a)) (.int .i64 (b)) := by rw [← hw2]; exact X1.keep (grow (here _) _)
      have Y2 : Two w2 (w.heap.size + 1) (.int .i64 (c)) (.int .i64 (d)) := by rw [← s1, ← hw2]; exact Two.new (here _)
      have A2 : Below w.heap.size w w2 := by rw [← hw2, ← hw1]; exact (grow (grow (here w) _) _)
      replace X2 := Lib.hid X2
      replace Y2 := Lib.hid Y2
      replace A2 := Lib.hid A2
      clear X1
      obtain ⟨x0, x1, xl⟩ := X2.out
      obtain ⟨y0, y1, yl⟩ := Y2.out
      have T2 : Hid (Tabs w2) := ht.below A2.out
      go_enter Tryd.func12, Tryd.ntmps12
      go_wp2_with fail
      refine (HV.out _ T2.out).mono ?_
      rintro e w3 ⟨rfl, hb⟩
      clear x0 x1 xl y0 y1 yl
      have A3 := Lib.hid (down A2.out hb)
      have T3 := Lib.hid (T2.out.below hb)
      have X3 := Lib.hid (X2.out.keep hb)
      have Y3 := Lib.hid (Y2.out.keep hb)
      clear hb A2 T2 X2 Y2
      obtain ⟨x0, x1, xl⟩ := X3.out
      obtain ⟨y0, y1, yl⟩ := Y3.out
      go_wp2_with fail
      refine (H1.out _).mono ?_
      rintro e wz ⟨rfl, rfl⟩
      go_wp2
      go_ret
      exact ⟨rfl, A3.out⟩
    · rw [cmpV_eq z1] at H1
      have e : ofW a b c d = 1 := by rcases ofW_cases a b c d q.2.2 p.2.2 with u | u | u | u | u | u | u | u | u | u | u | u | u <;> omega
      rw [e]
      clear e p q H2 H3 H4 z1
      obtain ⟨a0, a1⟩ := ha
      obtain ⟨b0, b1⟩ := hb
      obtain ⟨c0, c1⟩ := hc
      obtain ⟨d0, d1⟩ := hd
      obtain ⟨w1, hw1⟩ : ∃ w1 : World, w.alloc (.cells #[.int .i64 (a), .int .i64 (b)] 23) = w1 := ⟨_, rfl⟩
      have s1 : w1.heap.size = w.heap.size + 1 := by rw [← hw1, size_two]
      obtain ⟨w2, hw2⟩ : ∃ w2 : World, w1.alloc (.cells #[.int .i64 (c), .int .i64 (d)] 23) = w2 := ⟨_, rfl⟩
      have s2 : w2.heap.size = w.heap.size + 2 := by rw [← hw2, size_two, s1]
      have X1 : Two w1 (w.heap.size) (.int .i64 (a)) (.int .i64 (b)) := by rw [← hw1]; exact Two.new (here _)
      have X2 : Two w2 (w.heap.size) (.int .i64 (a)) (.int .i64 (b)) := by rw [← hw2]; exact X1.keep (grow (here _) _)
      have Y2 : Two w2 (w.heap.size + 1) (.int .i64 (c)) (.int .i64 (d)) := by rw [← s1, ← hw2]; exact Two.new (here _)
      have A2 : Below w.heap.size w w2 := by rw [← hw2, ← hw1]; exact (grow (grow (here w) _) _)
      replace X2 := Lib.hid X2
      replace Y2 := Lib.hid Y2
      replace A2 := Lib.hid A2
      clear X1
      obtain ⟨x0, x1, xl⟩ := X2.out
      obtain ⟨y0, y1, yl⟩ := Y2.out
      have T2 : Hid (Tabs w2) := ht.below A2.out
      go_enter Tryd.func12, Tryd.ntmps12
      go_wp2_with fail
      refine (HV.out _ T2.out).mono ?_
      rintro e w3 ⟨rfl, hb⟩
      clear x0 x1 xl y0 y1 yl
      have A3 := Lib.hid (down A2.out hb)
      have T3 := Lib.hid (T2.out.below hb)
      have X3 := Lib.hid (X2.out.keep hb)
      have Y3 := Lib.hid (Y2.out.keep hb)
      clear hb A2 T2 X2 Y2
      obtain ⟨x0, x1, xl⟩ := X3.out
      obtain ⟨y0, y1, yl⟩ := Y3.out
      go_wp2_with fail
      refine (H1.out _).mono ?_
      rintro e wz ⟨rfl, rfl⟩
      go_wp2
      go_ret
      exact ⟨rfl, A3.out⟩
    · rw [cmpV_gt z1] at H1
      rcases Int.lt_trichotomy a d with z2 | z2 | z2
      · rw [cmpV_lt z2] at H2
        rcases Int.lt_trichotomy a c with z3 | z3 | z3
        · rw [cmpV_lt z3] at H3
          rcases Int.lt_trichotomy b d with z4 | z4 | z4
          · rw [cmpV_lt z4] at H4
            have e : ofW a b c d = 2 := by rcases ofW_cases a b c d q.2.2 p.2.2 with u | u | u | u | u | u | u | u | u | u | u | u | u <;> omega
            rw [e]
            clear e p q z1 z2 z3 z4
            obtain ⟨a0, a1⟩ := ha
            obtain ⟨b0, b1⟩ := hb
            obtain ⟨c0, c1⟩ := hc
            obtain ⟨d0, d1⟩ := hd
            obtain ⟨w1, hw1⟩ : ∃ w1 : World, w.alloc (.cells #[.int .i64 (a), .int .i64 (b)] 23) = w1 := ⟨_, rfl⟩
            have s1 : w1.heap.size = w.heap.size + 1 := by rw [← hw1, size_two]
            obtain ⟨w2, hw2⟩ : ∃ w2 : World, w1.alloc (.cells #[.int .i64 (c), .int .i64 (d)] 23) = w2 := ⟨_, rfl⟩
            have s2 : w2.heap.size = w.heap.size + 2 := by rw [← hw2, size_two, s1]
            have X1 : Two w1 (w.heap.size) (.int .i64 (a)) (.int .i64 (b)) := by rw [← hw1]; exact Two.new (here _)
            have X2 : Two w2 (w.heap.size) (.int .i64 (a)) (.int .i64 (b)) := by rw [← hw2]; exact X1.keep (grow (here _) _)
            have Y2 : Two w2 (w.heap.size + 1) (.int .i64 (c)) (.int .i64 (d)) := by rw [← s1, ← hw2]; exact Two.new (here _)
            have A2 : Below w.heap.size w w2 := by rw [← hw2, ← hw1]; exact (grow (grow (here w) _) _)
            replace X2 := Lib.hid X2
            replace Y2 := Lib.hid Y2
            replace A2 := Lib.hid A2
            clear X1
            obtain ⟨x0, x1, xl⟩ := X2.out
            obtain ⟨y0, y1, yl⟩ := Y2.out
            have T2 : Hid (Tabs w2) := ht.below A2.out
            go_enter Tryd.func12, Tryd.ntmps12
            go_wp2_with fail
            refine (HV.out _ T2.out).mono ?_
            rintro e w3 ⟨rfl, hb⟩
            clear x0 x1 xl y0 y1 yl
            have A3 := Lib.hid (down A2.out hb)
            have T3 := Lib.hid (T2.out.below hb)
            have X3 := Lib.hid (X2.out.keep hb)
            have Y3 := Lib.hid (Y2.out.keep hb)
            clear hb A2 T2 X2 Y2
            obtain ⟨x0, x1, xl⟩ := X3.out
            obtain ⟨y0, y1, yl⟩ := Y3.out
            go_wp2_with fail
            refine (H1.out _).mono ?_
            rintro e wz ⟨rfl, rfl⟩
            go_wp2_with fail
            refine (H2.out _).mono ?_
            rintro e wz ⟨rfl, rfl⟩
            obtain ⟨g0, g1⟩ : w3.cell? ⟨0, 0, none⟩ = some (.int .i64 2) ∧ True := ⟨share_cell T3.out 0 2 rfl, trivial⟩
            go_wp2
            go_quiet ((go_at_call 37; first | (with_reducible exact qleft (H3.out _)) | exact qleft (H4.out _)))
            go_wp2
            go_ret
            exact ⟨rfl, below_drewN A3.out _⟩
          · rw [cmpV_eq z4] at H4
            have e : ofW a b c d = 7 := by rcases ofW_cases a b c d q.2.2 p.2.2 with u | u | u | u | u | u | u | u | u | u | u | u | u <;> omega
            rw [e]
            clear e p q z1 z2 z3 z4
            obtain ⟨a0, a1⟩ := ha
            obtain ⟨b0, b1⟩ := hb
            obtain ⟨c0, c1⟩ := hc
            obtain ⟨d0, d1⟩ := hd
            obtain ⟨w1, hw1⟩ : ∃ w1 : World, w.alloc (.cells #[.int .i64 (a), .int .i64 (b)] 23) = w1 := ⟨_, rfl⟩
            have s1 : w1.heap.size = w.heap.size + 1 := by rw [← hw1, size_two]
            obtain ⟨w2, hw2⟩ : ∃ w2 : World, w1.alloc (.cells #[.int .i64 (c), .int .i64 (d)] 23) = w2 := ⟨_, rfl⟩
            have s2 : w2.heap.size = w.heap.size + 2 := by rw [← hw2, size_two, s1]
            have X1 : Two w1 (w.heap.size) (.int .i64 (a)) (.int .i64 (b)) := by rw [← hw1]; exact Two.new (here _)
            have X2 : Two w2 (w.heap.size) (.int .i64 (a)) (.int .i64 (b)) := by rw [← hw2]; exact X1.keep (grow (here _) _)
            have Y2 : Two w2 (w.heap.size + 1) (.int .i64 (c)) (.int .i64 (d)) := by rw [← s1, ← hw2]; exact Two.new (here _)
            have A2 : Below w.heap.size w w2 := by rw [← hw2, ← hw1]; exact (grow (grow (here w) _) _)
            replace X2 := Lib.hid X2
            replace Y2 := Lib.hid Y2
            replace A2 := Lib.hid A2
            clear X1
            obtain ⟨x0, x1, xl⟩ := X2.out
            obtain ⟨y0, y1, yl⟩ := Y2.out
            have T2 : Hid (Tabs w2) := ht.below A2.out
            go_enter Tryd.func12, Tryd.ntmps12
            go_wp2_with fail
            refine (HV.out _ T2.out).mono ?_
            rintro e w3 ⟨rfl, hb⟩
            clear x0 x1 xl y0 y1 yl
            have A3 := Lib.hid (down A2.out hb)
            have T3 := Lib.hid (T2.out.below hb)
            have X3 := Lib.hid (X2.out.keep hb)
            have Y3 := Lib.hid (Y2.out.keep hb)
            clear hb A2 T2 X2 Y2
            obtain ⟨x0, x1, xl⟩ := X3.out
            obtain ⟨y0, y1, yl⟩ := Y3.out
            go_wp2_with fail
            refine (H1.out _).mono ?_
            rintro e wz ⟨rfl, rfl⟩
            go_wp2_with fail
            refine (H2.out _).mono ?_
            rintro e wz ⟨rfl, rfl⟩
            obtain ⟨g0, g1⟩ : w3.cell? ⟨0, 1, none⟩ = some (.int .i64 7) ∧ True := ⟨share_cell T3.out 1 7 rfl, trivial⟩
            go_wp2
            go_quiet ((go_at_call 37; first | (with_reducible exact qleft (H3.out _)) | exact qleft (H4.out _)))
            go_wp2
            go_ret
            exact ⟨rfl, below_drewN A3.out _⟩
          · rw [cmpV_gt z4] at H4
            have e : ofW a b c d = 8 := by rcases ofW_cases a b c d q.2.2 p.2.2 with u | u | u | u | u | u | u | u | u | u | u | u | u <;> omega
            rw [e]
            clear e p q z1 z2 z3 z4
            obtain ⟨a0, a1⟩ := ha
            obtain ⟨b0, b1⟩ := hb
            obtain ⟨c0, c1⟩ := hc
            obtain ⟨d0, d1⟩ := hd
            obtain ⟨w1, hw1⟩ : ∃ w1 : World, w.alloc (.cells #[.int .i64 (a), .int .i64 (b)] 23) = w1 := ⟨_, rfl⟩
            have s1 : w1.heap.size = w.heap.size + 1 := by rw [← hw1, size_two]
            obtain ⟨w2, hw2⟩ : ∃ w2 : World, w1.alloc (.cells #[.int .i64 (c), .int .i64 (d)] 23) = w2 := ⟨_, rfl⟩
            have s2 : w2.heap.size = w.heap.size + 2 := by rw [← hw2, size_two, s1]
            have X1 : Two w1 (w.heap.size) (.int .i64 (a)) (.int .i64 (b)) := by rw [← hw1]; exact Two.new (here _)
            have X2 : Two w2 (w.heap.size) (.int .i64 (a)) (.int .i64 (b)) := by rw [← hw2]; exact X1.keep (grow (here _) _)
            have Y2 : Two w2 (w.heap.size + 1) (.int .i64 (c)) (.int .i64 (d)) := by rw [← s1, ← hw2]; exact Two.new (here _)
            have A2 : Below w.heap.size w w2 := by rw [← hw2, ← hw1]; exact (grow (grow (here w) _) _)
            replace X2 := Lib.hid X2
            replace Y2 := Lib.hid Y2
            replace A2 := Lib.hid A2
            clear X1
            obtain ⟨x0, x1, xl⟩ := X2.out
            obtain ⟨y0, y1, yl⟩ := Y2.out
            have T2 : Hid (Tabs w2) := ht.below A2.out
            go_enter Tryd.func12, Tryd.ntmps12
            go_wp2_with fail
            refine (HV.out _ T2.out).mono ?_
            rintro e w3 ⟨rfl, hb⟩
            clear x0 x1 xl y0 y1 yl
            have A3 := Lib.hid (down A2.out hb)
            have T3 := Lib.hid (T2.out.below hb)
            have X3 := Lib.hid (X2.out.keep hb)
            have Y3 := Lib.hid (Y2.out.keep hb)
            clear hb A2 T2 X2 Y2
            obtain ⟨x0, x1, xl⟩ := X3.out
            obtain ⟨y0, y1, yl⟩ := Y3.out
            go_wp2_with fail
            refine (H1.out _).mono ?_
            rintro e wz ⟨rfl, rfl⟩
            go_wp2_with fail
            refine (H2.out _).mono ?_
            rintro e wz ⟨rfl, rfl⟩
            obtain ⟨g0, g1⟩ : w3.cell? ⟨0, 2, none⟩ = some (.int .i64 8) ∧ True := ⟨share_cell T3.out 2 8 rfl, trivial⟩
            go_wp2
            go_quiet ((go_at_call 37; first | (with_reducible exact qleft (H3.out _)) | exact qleft (H4.out _)))
            go_wp2
            go_ret
            exact ⟨rfl, below_drewN A3.out _⟩
        · rw [cmpV_eq z3] at H3
          rcases Int.lt_trichotomy b d with z4 | z4 | z4
          · rw [cmpV_lt z4] at H4
            have e : ofW a b c d = 3 := by rcases ofW_cases a b c d q.2.2 p.2.2 with u | u | u | u | u | u | u | u | u | u | u | u | u <;> omega
            rw [e]
            clear e p q z1 z2 z3 z4
            obtain ⟨a0, a1⟩ := ha
            obtain ⟨b0, b1⟩ := hb
            obtain ⟨c0, c1⟩ := hc
            obtain ⟨d0, d1⟩ := hd
            obtain ⟨w1, hw1⟩ : ∃ w1 : World, w.alloc (.cells #[.int .i64 (a), .int .i64 (b)] 23) = w1 := ⟨_, rfl⟩
            have s1 : w1.heap.size = w.heap.size + 1 := by rw [← hw1, size_two]
            obtain ⟨w2, hw2⟩ : ∃ w2 : World, w1.alloc (.cells #[.int .i64 (c), .int .i64 (d)] 23) = w2 := ⟨_, rfl⟩
            have s2 : w2.heap.size = w.heap.size + 2 := by rw [← hw2, size_two, s1]
            have X1 : Two w1 (w.heap.size) (.int .i64 (a)) (.int .i64 (b)) := by rw [← hw1]; exact Two.new (here _)
            have X2 : Two w2 (w.heap.size) (.int .i64 (a)) (.int .i64 (b)) := by rw [← hw2]; exact X1.keep (grow (here _) _)
            have Y2 : Two w2 (w.heap.size + 1) (.int .i64 (c)) (.int .i64 (d)) := by rw [← s1, ← hw2]; exact Two.new (here _)
            have A2 : Below w.heap.size w w2 := by rw [← hw2, ← hw1]; exact (grow (grow (here w) _) _)
            replace X2 := Lib.hid X2
            replace Y2 := Lib.hid Y2
            replace A2 := Lib.hid A2
            clear X1
            obtain ⟨x0, x1, xl⟩ := X2.out
            obtain ⟨y0, y1, yl⟩ := Y2.out
            have T2 : Hid (Tabs w2) := ht.below A2.out
            go_enter Tryd.func12, Tryd.ntmps12
            go_wp2_with fail
            refine (HV.out _ T2.out).mono ?_
            rintro e w3 ⟨rfl, hb⟩
            clear x0 x1 xl y0 y1 yl
            have A3 := Lib.hid (down A2.out hb)
            have T3 := Lib.hid (T2.out.below hb)
            have X3 := Lib.hid (X2.out.keep hb)
            have Y3 := Lib.hid (Y2.out.keep hb)
            clear hb A2 T2 X2 Y2
            obtain ⟨x0, x1, xl⟩ := X3.out
            obtain ⟨y0, y1, yl⟩ := Y3.out
            go_wp2_with fail
            refine (H1.out _).mono ?_
            rintro e wz ⟨rfl, rfl⟩
            go_wp2_with fail
            refine (H2.out _).mono ?_
            rintro e wz ⟨rfl, rfl⟩
            obtain ⟨g0, g1⟩ : w3.cell? ⟨0, 3, none⟩ = some (.int .i64 3) ∧ True := ⟨share_cell T3.out 3 3 rfl, trivial⟩
            go_wp2
            go_quiet ((go_at_call 37; first | (with_reducible exact qleft (H3.out _)) | exact qleft (H4.out _)))
            go_wp2
            go_ret
            exact ⟨rfl, below_drewN A3.out _⟩
          · rw [cmpV_eq z4] at H4
            have e : ofW a b c d = 6 := by rcases ofW_cases a b c d q.2.2 p.2.2 with u | u | u | u | u | u | u | u | u | u | u | u | u <;> omega
            rw [e]
            clear e p q z1 z2 z3 z4
            obtain ⟨a0, a1⟩ := ha
            obtain ⟨b0, b1⟩ := hb
            obtain ⟨c0, c1⟩ := hc
            obtain ⟨d0, d1⟩ := hd
            obtain ⟨w1, hw1⟩ : ∃ w1 : World, w.alloc (.cells #[.int .i64 (a), .int .i64 (b)] 23) = w1 := ⟨_, rfl⟩
            have s1 : w1.heap.size = w.heap.size + 1 := by rw [← hw1, size_two]
            obtain ⟨w2, hw2⟩ : ∃ w2 : World, w1.alloc (.cells #[.int .i64 (c), .int .i64 (d)] 23) = w2 := ⟨_, rfl⟩
            have s2 : w2.heap.size = w.heap.size + 2 := by rw [← hw2, size_two, s1]
            have X1 : Two w1 (w.heap.size) (.int .i64 (a)) (.int .i64 (b)) := by rw [← hw1]; exact Two.new (here _)
            have X2 : Two w2 (w.heap.size) (.int .i64 (a)) (.int .i64 (b)) := by rw [← hw2]; exact X1.keep (grow (here _) _)
            have Y2 : Two w2 (w.heap.size + 1) (.int .i64 (c)) (.int .i64 (d)) := by rw [← s1, ← hw2]; exact Two.new (here _)
            have A2 : Below w.heap.size w w2 := by rw [← hw2, ← hw1]; exact (grow (grow (here w) _) _)
            replace X2 := Lib.hid X2
            replace Y2 := Lib.hid Y2
            replace A2 := Lib.hid A2
            clear X1
            obtain ⟨x0, x1, xl⟩ := X2.out
            obtain ⟨y0, y1, yl⟩ := Y2.out
            have T2 : Hid (Tabs w2) := ht.below A2.out
            go_enter Tryd.func12, Tryd.ntmps12
            go_wp2_with fail
            refine (HV.out _ T2.out).mono ?_
            rintro e w3 ⟨rfl, hb⟩
            clear x0 x1 xl y0 y1 yl
            have A3 := Lib.hid (down A2.out hb)
            have T3 := Lib.hid (T2.out.below hb)
            have X3 := Lib.hid (X2.out.keep hb)
            have Y3 := Lib.hid (Y2.out.keep hb)
            clear hb A2 T2 X2 Y2
            obtain ⟨x0, x1, xl⟩ := X3.out
            obtain ⟨y0, y1, yl⟩ := Y3.out
            go_wp2_with fail
            refine (H1.out _).mono ?_
            rintro e wz ⟨rfl, rfl⟩
            go_wp2_with fail
            refine (H2.out _).mono ?_
            rintro e wz ⟨rfl, rfl⟩
            obtain ⟨g0, g1⟩ : w3.cell? ⟨0, 4, none⟩ = some (.int .i64 6) ∧ True := ⟨share_cell T3.out 4 6 rfl, trivial⟩
            go_wp2
            go_quiet ((go_at_call 37; first | (with_reducible exact qleft (H3.out _)) | exact qleft (H4.out _)))
            go_wp2
            go_ret
            exact ⟨rfl, below_drewN A3.out _⟩
          · rw [cmpV_gt z4] at H4
            have e : ofW a b c d = 9 := by rcases ofW_cases a b c d q.2.2 p.2.2 with u | u | u | u | u | u | u | u | u | u | u | u | u <;> omega
            rw [e]
            clear e p q z1 z2 z3 z4
            obtain ⟨a0, a1⟩ := ha
            obtain ⟨b0, b1⟩ := hb
            obtain ⟨c0, c1⟩ := hc
            obtain ⟨d0, d1⟩ := hd
            obtain ⟨w1, hw1⟩ : ∃ w1 : World, w.alloc (.cells #[.int .i64 (a), .int .i64 (b)] 23) = w1 := ⟨_, rfl⟩
            have s1 : w1.heap.size = w.heap.size + 1 := by rw [← hw1, size_two]
            obtain ⟨w2, hw2⟩ : ∃ w2 : World, w1.alloc (.cells #[.int .i64 (c), .int .i64 (d)] 23) = w2 := ⟨_, rfl⟩
            have s2 : w2.heap.size = w.heap.size + 2 := by rw [← hw2, size_two, s1]
            have X1 : Two w1 (w.heap.size) (.int .i64 (a)) (.int .i64 (b)) := by rw [← hw1]; exact Two.new (here _)
            have X2 : Two w2 (w.heap.size) (.int .i64 (a)) (.int .i64 (b)) := by rw [← hw2]; exact X1.keep (grow (here _) _)
            have Y2 : Two w2 (w.heap.size + 1) (.int .i64 (c)) (.int .i64 (d)) := by rw [← s1, ← hw2]; exact Two.new (here _)
            have A2 : Below w.heap.size w w2 := by rw [← hw2, ← hw1]; exact (grow (grow (here w) _) _)
            replace X2 := Lib.hid X2
            replace Y2 := Lib.hid Y2
            replace A2 := Lib.hid A2
            clear X1
            obtain ⟨x0, x1, xl⟩ := X2.out
            obtain ⟨y0, y1, yl⟩ := Y2.out
            have T2 : Hid (Tabs w2) := ht.below A2.out
            go_enter Tryd.func12, Tryd.ntmps12
            go_wp2_with fail
            refine (HV.out _ T2.out).mono ?_
            rintro e w3 ⟨rfl, hb⟩
            clear x0 x1 xl y0 y1 yl
            have A3 := Lib.hid (down A2.out hb)
            have T3 := Lib.hid (T2.out.below hb)
            have X3 := Lib.hid (X2.out.keep hb)
            have Y3 := Lib.hid (Y2.out.keep hb)
            clear hb A2 T2 X2 Y2
            obtain ⟨x0, x1, xl⟩ := X3.out
            obtain ⟨y0, y1, yl⟩ := Y3.out
            go_wp2_with fail
            refine (H1.out _).mono ?_
            rintro e wz ⟨rfl, rfl⟩
            go_wp2_with fail
            refine (H2.out _).mono ?_
            rintro e wz ⟨rfl, rfl⟩
            obtain ⟨g0, g1⟩ : w3.cell? ⟨0, 5, none⟩ = some (.int .i64 9) ∧ True := ⟨share_cell T3.out 5 9 rfl, trivial⟩
            go_wp2
            go_quiet ((go_at_call 37; first | (with_reducible exact qleft (H3.out _)) | exact qleft (H4.out _)))
            go_wp2
            go_ret
            exact ⟨rfl, below_drewN A3.out _⟩
        · rw [cmpV_gt z3] at H3
          rcases Int.lt_trichotomy b d with z4 | z4 | z4
          · rw [cmpV_lt z4] at H4
            have e : ofW a b c d = 4 := by rcases ofW_cases a b c d q.2.2 p.2.2 with u | u | u | u | u | u | u | u | u | u | u | u | u <;> omega
            rw [e]
            clear e p q z1 z2 z3 z4
            obtain ⟨a0, a1⟩ := ha
            obtain ⟨b0, b1⟩ := hb
            obtain ⟨c0, c1⟩ := hc
            obtain ⟨d0, d1⟩ := hd
            obtain ⟨w1, hw1⟩ : ∃ w1 : World, w.alloc (.cells #[.int .i64 (a), .int .i64 (b)] 23) = w1 := ⟨_, rfl⟩
            have s1 : w1.heap.size = w.heap.size + 1 := by rw [← hw1, size_two]
            obtain ⟨w2, hw2⟩ : ∃ w2 : World, w1.alloc (.cells #[.int .i64 (c), .int .i64 (d)] 23) = w2 := ⟨_, rfl⟩
            have s2 : w2.heap.size = w.heap.size + 2 := by rw [← hw2, size_two, s1]
            have X1 : Two w1 (w.heap.size) (.int .i64 (a)) (.int .i64 (b)) := by rw [← hw1]; exact Two.new (here _)
            have X2 : Two w2 (w.heap.size) (.int .i64 (a)) (.int .i64 (b)) := by rw [← hw2]; exact X1.keep (grow (here _) _)
            have Y2 : Two w2 (w.heap.size + 1) (.int .i64 (c)) (.int .i64 (d)) := by rw [← s1, ← hw2]; exact Two.new (here _)
            have A2 : Below w.heap.size w w2 := by rw [← hw2, ← hw1]; exact (grow (grow (here w) _) _)
            replace X2 := Lib.hid X2
            replace Y2 := Lib.hid Y2
            replace A2 := Lib.hid A2
            clear X1
            obtain ⟨x0, x1, xl⟩ := X2.out
            obtain ⟨y0, y1, yl⟩ := Y2.out
            have T2 : Hid (Tabs w2) := ht.below A2.out
            go_enter Tryd.func12, Tryd.ntmps12
            go_wp2_with fail
            refine (HV.out _ T2.out).mono ?_
            rintro e w3 ⟨rfl, hb⟩
            clear x0 x1 xl y0 y1 yl
            have A3 := Lib.hid (down A2.out hb)
            have T3 := Lib.hid (T2.out.below hb)
            have X3 := Lib.hid (X2.out.keep hb)
            have Y3 := Lib.hid (Y2.out.keep hb)
            clear hb A2 T2 X2 Y2
            obtain ⟨x0, x1, xl⟩ := X3.out
            obtain ⟨y0, y1, yl⟩ := Y3.out
            go_wp2_with fail
            refine (H1.out _).mono ?_
            rintro e wz ⟨rfl, rfl⟩
            go_wp2_with fail
            refine (H2.out _).mono ?_
            rintro e wz ⟨rfl, rfl⟩
            obtain ⟨g0, g1⟩ : w3.cell? ⟨0, 6, none⟩ = some (.int .i64 4) ∧ True := ⟨share_cell T3.out 6 4 rfl, trivial⟩
            go_wp2
            go_quiet ((go_at_call 37; first | (with_reducible exact qleft (H3.out _)) | exact qleft (H4.out _)))
            go_wp2
            go_ret
            exact ⟨rfl, below_drewN A3.out _⟩
          · rw [cmpV_eq z4] at H4
            have e : ofW a b c d = 5 := by rcases ofW_cases a b c d q.2.2 p.2.2 with u | u | u | u | u | u | u | u | u | u | u | u | u <;> omega
            rw [e]
            clear e p q z1 z2 z3 z4
            obtain ⟨a0, a1⟩ := ha
            obtain ⟨b0, b1⟩ := hb
            obtain ⟨c0, c1⟩ := hc
            obtain ⟨d0, d1⟩ := hd
            obtain ⟨w1, hw1⟩ : ∃ w1 : World, w.alloc (.cells #[.int .i64 (a), .int .i64 (b)] 23) = w1 := ⟨_, rfl⟩
            have s1 : w1.heap.size = w.heap.size + 1 := by rw [← hw1, size_two]
            obtain ⟨w2, hw2⟩ : ∃ w2 : World, w1.alloc (.cells #[.int .i64 (c), .int .i64 (d)] 23) = w2 := ⟨_, rfl⟩
            have s2 : w2.heap.size = w.heap.size + 2 := by rw [← hw2, size_two, s1]
            have X1 : Two w1 (w.heap.size) (.int .i64 (a)) (.int .i64 (b)) := by rw [← hw1]; exact Two.new (here _)
            have X2 : Two w2 (w.heap.size) (.int .i64 (a)) (.int .i64 (b)) := by rw [← hw2]; exact X1.keep (grow (here _) _)
            have Y2 : Two w2 (w.heap.size + 1) (.int .i64 (c)) (.int .i64 (d)) := by rw [← s1, ← hw2]; exact Two.new (here _)
            have A2 : Below w.heap.size w w2 := by rw [← hw2, ← hw1]; exact (grow (grow (here w) _) _)
            replace X2 := Lib.hid X2
            replace Y2 := Lib.hid Y2
            replace A2 := Lib.hid A2
            clear X1
            obtain ⟨x0, x1, xl⟩ := X2.out
            obtain ⟨y0, y1, yl⟩ := Y2.out
            have T2 : Hid (Tabs w2) := ht.below A2.out
            go_enter Tryd.func12, Tryd.ntmps12
            go_wp2_with fail
            refine (HV.out _ T2.out).mono ?_
            rintro e w3 ⟨rfl, hb⟩
            clear x0 x1 xl y0 y1 yl
            have A3 := Lib.hid (down A2.out hb)
            have T3 := Lib.hid (T2.out.below hb)
            have X3 := Lib.hid (X2.out.keep hb)
            have Y3 := Lib.hid (Y2.out.keep hb)
            clear hb A2 T2 X2 Y2
            obtain ⟨x0, x1, xl⟩ := X3.out
            obtain ⟨y0, y1, yl⟩ := Y3.out
            go_wp2_with fail
            refine (H1.out _).mono ?_
            rintro e wz ⟨rfl, rfl⟩
            go_wp2_with fail
            refine (H2.out _).mono ?_
            rintro e wz ⟨rfl, rfl⟩
            obtain ⟨g0, g1⟩ : w3.cell? ⟨0, 7, none⟩ = some (.int .i64 5) ∧ True := ⟨share_cell T3.out 7 5 rfl, trivial⟩
            go_wp2
            go_quiet ((go_at_call 37; first | (with_reducible exact qleft (H3.out _)) | exact qleft (H4.out _)))
            go_wp2
            go_ret
            exact ⟨rfl, below_drewN A3.out _⟩
          · rw [cmpV_gt z4] at H4
            have e : ofW a b c d = 10 := by rcases ofW_cases a b c d q.2.2 p.2.2 with u | u | u | u | u | u | u | u | u | u | u | u | u <;> omega
            rw [e]
            clear e p q z1 z2 z3 z4
            obtain ⟨a0, a1⟩ := ha
            obtain ⟨b0, b1⟩ := hb
            obtain ⟨c0, c1⟩ := hc
            obtain ⟨d0, d1⟩ := hd
            obtain ⟨w1, hw1⟩ : ∃ w1 : World, w.alloc (.cells #[.int .i64 (a), .int .i64 (b)] 23) = w1 := ⟨_, rfl⟩
            have s1 : w1.heap.size = w.heap.size + 1 := by rw [← hw1, size_two]
            obtain ⟨w2, hw2⟩ : ∃ w2 : World, w1.alloc (.cells #[.int .i64 (c), .int .i64 (d)] 23) = w2 := ⟨_, rfl⟩
            have s2 : w2.heap.size = w.heap.size + 2 := by rw [← hw2, size_two, s1]
            have X1 : Two w1 (w.heap.size) (.int .i64 (a)) (.int .i64 (b)) := by rw [← hw1]; exact Two.new (here _)
            have X2 : Two w2 (w.heap.size) (.int .i64 (a)) (.int .i64 (b)) := by rw [← hw2]; exact X1.keep (grow (here _) _)
            have Y2 : Two w2 (w.heap.size + 1) (.int .i64 (c)) (.int .i64 (d)) := by rw [← s1, ← hw2]; exact Two.new (here _)
            have A2 : Below w.heap.size w w2 := by rw [← hw2, ← hw1]; exact (grow (grow (here w) _) _)
            replace X2 := Lib.hid X2
            replace Y2 := Lib.hid Y2
            replace A2 := Lib.hid A2
            clear X1
            obtain ⟨x0, x1, xl⟩ := X2.out
            obtain ⟨y0, y1, yl⟩ := Y2.out
            have T2 : Hid (Tabs w2) := ht.below A2.out
            go_enter Tryd.func12, Tryd.ntmps12
            go_wp2_with fail
            refine (HV.out _ T2.out).mono ?_
            rintro e w3 ⟨rfl, hb⟩
            clear x0 x1 xl y0 y1 yl
            have A3 := Lib.hid (down A2.out hb)
            have T3 := Lib.hid (T2.out.below hb)
            have X3 := Lib.hid (X2.out.keep hb)
            have Y3 := Lib.hid (Y2.out.keep hb)
            clear hb A2 T2 X2 Y2
            obtain ⟨x0, x1, xl⟩ := X3.out
            obtain ⟨y0, y1, yl⟩ := Y3.out
            go_wp2_with fail
            refine (H1.out _).mono ?_
            rintro e wz ⟨rfl, rfl⟩
            go_wp2_with fail
            refine (H2.out _).mono ?_
            rintro e wz ⟨rfl, rfl⟩
            obtain ⟨g0, g1⟩ : w3.cell? ⟨0, 8, none⟩ = some (.int .i64 10) ∧ True := ⟨share_cell T3.out 8 10 rfl, trivial⟩
            go_wp2
            go_quiet ((go_at_call 37; first | (with_reducible exact qleft (H3.out _)) | exact qleft (H4.out _)))
            go_wp2
            go_ret
            exact ⟨rfl, below_drewN A3.out _⟩
      · rw [cmpV_eq z2] at H2
        have e : ofW a b c d = 11 := by rcases ofW_cases a b c d q.2.2 p.2.2 with u | u | u | u | u | u | u | u | u | u | u | u | u <;> omega
        rw [e]
        clear e p q H3 H4 z1 z2
        obtain ⟨a0, a1⟩ := ha
        obtain ⟨b0, b1⟩ := hb
        obtain ⟨c0, c1⟩ := hc
        obtain ⟨d0, d1⟩ := hd
        obtain ⟨w1, hw1⟩ : ∃ w1 : World, w.alloc (.cells #[.int .i64 (a), .int .i64 (b)] 23) = w1 := ⟨_, rfl⟩
        have s1 : w1.heap.size = w.heap.size + 1 := by rw [← hw1, size_two]
        obtain ⟨w2, hw2⟩ : ∃ w2 : World, w1.alloc (.cells #[.int .i64 (c), .int .i64 (d)] 23) = w2 := ⟨_, rfl⟩
        have s2 : w2.heap.size = w.heap.size + 2 := by rw [← hw2, size_two, s1]
        have X1 : Two w1 (w.heap.size) (.int .i64 (a)) (.int .i64 (b)) := by rw [← hw1]; exact Two.new (here _)
        have X2 : Two w2 (w.heap.size) (.int .i64 (a)) (.int .i64 (b)) := by rw [← hw2]; exact X1.keep (grow (here _) _)
        have Y2 : Two w2 (w.heap.size + 1) (.int .i64 (c)) (.int .i64 (d)) := by rw [← s1, ← hw2]; exact Two.new (here _)
        have A2 : Below w.heap.size w w2 := by rw [← hw2, ← hw1]; exact (grow (grow (here w) _) _)
        replace X2 := Lib.hid X2
        replace Y2 := Lib.hid Y2
        replace A2 := Lib.hid A2
        clear X1
        obtain ⟨x0, x1, xl⟩ := X2.out
        obtain ⟨y0, y1, yl⟩ := Y2.out
        have T2 : Hid (Tabs w2) := ht.below A2.out
        go_enter Tryd.func12, Tryd.ntmps12
        go_wp2_with fail
        refine (HV.out _ T2.out).mono ?_
        rintro e w3 ⟨rfl, hb⟩
        clear x0 x1 xl y0 y1 yl
        have A3 := Lib.hid (down A2.out hb)
        have T3 := Lib.hid (T2.out.below hb)
        have X3 := Lib.hid (X2.out.keep hb)
        have Y3 := Lib.hid (Y2.out.keep hb)
        clear hb A2 T2 X2 Y2
        obtain ⟨x0, x1, xl⟩ := X3.out
        obtain ⟨y0, y1, yl⟩ := Y3.out
        go_wp2_with fail
        refine (H1.out _).mono ?_
        rintro e wz ⟨rfl, rfl⟩
        go_wp2_with fail
        refine (H2.out _).mono ?_
        rintro e wz ⟨rfl, rfl⟩
        go_wp2
        go_ret
        exact ⟨rfl, A3.out⟩
      · rw [cmpV_gt z2] at H2
        have e : ofW a b c d = 12 := by rcases ofW_cases a b c d q.2.2 p.2.2 with u | u | u | u | u | u | u | u | u | u | u | u | u <;> omega
        rw [e]
        clear e p q H3 H4 z1 z2
        obtain ⟨a0, a1⟩ := ha
        obtain ⟨b0, b1⟩ := hb
        obtain ⟨c0, c1⟩ := hc
        obtain ⟨d0, d1⟩ := hd
        obtain ⟨w1, hw1⟩ : ∃ w1 : World, w.alloc (.cells #[.int .i64 (a), .int .i64 (b)] 23) = w1 := ⟨_, rfl⟩
        have s1 : w1.heap.size = w.heap.size + 1 := by rw [← hw1, size_two]
        obtain ⟨w2, hw2⟩ : ∃ w2 : World, w1.alloc (.cells #[.int .i64 (c), .int .i64 (d)] 23) = w2 := ⟨_, rfl⟩
        have s2 : w2.heap.size = w.heap.size + 2 := by rw [← hw2, size_two, s1]
        have X1 : Two w1 (w.heap.size) (.int .i64 (a)) (.int .i64 (b)) := by rw [← hw1]; exact Two.new (here _)
        have X2 : Two w2 (w.heap.size) (.int .i64 (a)) (.int .i64 (b)) := by rw [← hw2]; exact X1.keep (grow (here _) _)
        have Y2 : Two w2 (w.heap.size + 1) (.int .i64 (c)) (.int .i64 (d)) := by rw [← s1, ← hw2]; exact Two.new (here _)
        have A2 : Below w.heap.size w w2 := by rw [← hw2, ← hw1]; exact (grow (grow (here w) _) _)
        replace X2 := Lib.hid X2
        replace Y2 := Lib.hid Y2
        replace A2 := Lib.hid A2
        clear X1
        obtain ⟨x0, x1, xl⟩ := X2.out
        obtain ⟨y0, y1, yl⟩ := Y2.out
        have T2 : Hid (Tabs w2) := ht.below A2.out
        go_enter Tryd.func12, Tryd.ntmps12
        go_wp2_with fail
        refine (HV.out _ T2.out).mono ?_
        rintro e w3 ⟨rfl, hb⟩
        clear x0 x1 xl y0 y1 yl
        have A3 := Lib.hid (down A2.out hb)
        have T3 := Lib.hid (T2.out.below hb)
        have X3 := Lib.hid (X2.out.keep hb)
        have Y3 := Lib.hid (Y2.out.keep hb)
        clear hb A2 T2 X2 Y2
        obtain ⟨x0, x1, xl⟩ := X3.out
        obtain ⟨y0, y1, yl⟩ := Y3.out
        go_wp2_with fail
        refine (H1.out _).mono ?_
        rintro e wz ⟨rfl, rfl⟩
        go_wp2_with fail
        refine (H2.out _).mono ?_
        rintro e wz ⟨rfl, rfl⟩
        go_wp2
        go_ret
        exact ⟨rfl, A3.out⟩
def isR (r : Int) : Bool := decide (0 ≤ r) && decide (r < 13)
theorem isR_iff {r : Int} : isR r = true ↔ 0 ≤ r ∧ r ≤ 12 := by unfold isR; simp; omega
theorem urel (r : Int) (hr : I64 r) (w : World) :
    Calls Tryd.prog 38 #[.int .i64 r] w fun e w' => e = .returned (.bool (isR r)) ∧ w = w' := by
  obtain ⟨h0, h1⟩ := hr
  unfold isR
  cases p : decide (0 ≤ r) <;> cases q : decide (r < 13)
  all_goals
    go_enter Tryd.func38, Tryd.ntmps38
    go_wp2
    go_ret
    exact ⟨rfl, rfl⟩
theorem uvinv (r : Int) (hr : I64 r) (w : World) (ht : Tabs w) :
    Calls Tryd.prog 14 #[.int .i64 r] w fun e w' => e = .returned (.int .i64 (invV r)) ∧ Below w.heap.size w w' := by
  have HR := Lib.hid (fun w => urel r hr w)
  clear ht
  cases v : isR r
  · rw [invV_out (by rw [← isR_iff, v]; simp)]
    rw [v] at HR
    clear v
    obtain ⟨h0, h1⟩ := hr
    go_enter Tryd.func14, Tryd.ntmps14
    go_wp2_with fail
    refine (HR.out _).mono ?_
    rintro e wz ⟨rfl, rfl⟩
    go_wp2
    go_ret
    exact ⟨rfl, here w⟩
  · rw [invV_in (isR_iff.1 v)]
    have q := isR_iff.1 v
    rw [v] at HR
    clear v hr
    obtain ⟨h0, h1⟩ := q
    go_enter Tryd.func14, Tryd.ntmps14
    go_wp2_with fail
    refine (HR.out _).mono ?_
    rintro e wz ⟨rfl, rfl⟩
    go_wp2
    go_ret
    exact ⟨rfl, here w⟩
theorem uvname (r : Int) (hr : I64 r) (w : World) (ht : Tabs w) :
    Calls Tryd.prog 33 #[.int .i64 r] w fun e w' => e = .returned (.string (nmR r)) ∧ Below w.heap.size w w' := by
  have HR := Lib.hid (fun w => urel r hr w)
  cases v : isR r
  · rw [nmR_out (by rw [← isR_iff, v]; simp)]
    rw [v] at HR
    clear v ht
    obtain ⟨h0, h1⟩ := hr
    go_enter Tryd.func33, Tryd.ntmps33
    go_wp2_with fail
    refine (HR.out _).mono ?_
    rintro e wz ⟨rfl, rfl⟩
    go_wp2
    go_ret
    exact ⟨rfl, here w⟩
  · have q := isR_iff.1 v
    rw [v] at HR
    obtain ⟨k, rfl⟩ : ∃ k : Nat, r = k := ⟨r.toNat, by omega⟩
    have k13 : (k : Int) < 13 := by omega
    rw [nmR_in (by omega)]
    have cc := names_cell ht k (by omega)
    clear v hr q ht
    generalize nmV k = S at *
    go_enter Tryd.func33, Tryd.ntmps33
    go_wp2_with fail
    refine (HR.out _).mono ?_
    rintro e wz ⟨rfl, rfl⟩
    go_wp2
    go_ret
    exact ⟨rfl, here w⟩
end Go.Proofs.YtknlhhjooamfhaaDoor
