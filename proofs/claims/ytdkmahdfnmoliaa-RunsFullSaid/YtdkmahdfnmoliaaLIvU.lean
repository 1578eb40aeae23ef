/- Contracts of package interval (90116dd). INm, ISh: its tables, the names and the relations of intervals that share integers. -/
import Derived.Test.YtdkmahdfnmoliaaLIvM

import Derived.Test.YtdkmahdfnmoliaaLIvN

import Derived.Test.YtdkmahdfnmoliaaLIvB

namespace Go.Proofs.Ytdkmahdfnmoliaa

open Go.RowKit

set_option linter.unusedVariables false

def namesA : Array Value := #[.string (nmV 0), .string (nmV 1), .string (nmV 2), .string (nmV 3), .string (nmV 4), .string (nmV 5), .string (nmV 6), .string (nmV 7), .string (nmV 8), .string (nmV 9), .string (nmV 10), .string (nmV 11), .string (nmV 12)]
def shareA : Array Value := #[.int .i64 2, .int .i64 7, .int .i64 8, .int .i64 3, .int .i64 6, .int .i64 9, .int .i64 4, .int .i64 5, .int .i64 10]
def INm (w : World) : Prop := w.var? Try.prog "civiltime/interval.names" = some namesA
def ISh (w : World) : Prop := w.var? Try.prog "civiltime/interval.sharing" = some shareA
theorem iuvalid (a b : Int) (ha : I64 a) (hb : I64 b) (w : World) :
    Calls Try.prog 47 #[.agg #[.int .i64 a, .int .i64 b]] w fun e w' => e = .returned (.bool (ivB a b)) ∧ Below w.heap.size w w' := by
  have e : ivB a b = (decide (-4398046511104 ≤ a) && decide (a < b) && decide (b ≤ 4398046511104)) := by
    unfold ivB
    rw [Bool.eq_iff_iff]; simp only [Bool.and_eq_true, decide_eq_true_eq]; omega
  rw [e]
  clear e
  obtain ⟨x0, x1, xlt⟩ := Two.new (here (w.alloc (.cells #[.int .i64 a, .int .i64 b] 33)))
  obtain ⟨a0, a1⟩ := ha
  obtain ⟨b0, b1⟩ := hb
  cases p : decide (-4398046511104 ≤ a) <;> cases q : decide (a < b) <;> cases r : decide (b ≤ 4398046511104)
  all_goals
    go_enter Try.func47, Try.ntmps47
    go_wp2
    go_ret
    exact ⟨rfl, grow (here w) _⟩
set_option maxRecDepth 100000 in
set_option maxHeartbeats 1000000 in
theorem iulen (a b : Int) (ha : I64 a) (hb : I64 b) (w : World) :
    Calls Try.prog 64 #[.agg #[.int .i64 a, .int .i64 b]] w fun e w' => e = .returned (.int .i64 (lnV a b)) ∧ Below w.heap.size w w' := by
  have HVA := Lib.hid (fun w => iuvalid a b ha hb w)
  unfold lnV
  obtain ⟨a0, a1⟩ := ha
  obtain ⟨b0, b1⟩ := hb
  cases va : ivB a b
  · rw [va] at HVA
    clear va
    obtain ⟨w1, hw1⟩ : ∃ w1 : World, w.alloc (.cells #[.int .i64 (a), .int .i64 (b)] 33) = w1 := ⟨_, rfl⟩
    have s1 : w1.heap.size = w.heap.size + 1 := by rw [← hw1, size_two]
    have X1 : Two w1 (w.heap.size) (.int .i64 (a)) (.int .i64 (b)) := by rw [← hw1]; exact Two.new (here _)
    have A1 : Below w.heap.size w w1 := by rw [← hw1]; exact (grow (here w) _)
    replace X1 := Lib.hid X1
    replace A1 := Lib.hid A1
    obtain ⟨x0, x1, xl⟩ := X1.out
    go_enter Try.func64, Try.ntmps64
    go_wp2_with fail
    refine (HVA.out _).mono ?_
    rintro e w2 ⟨rfl, hb⟩
    clear x0 x1 xl
    have A2 := Lib.hid (down A1.out hb)
    have X2 := Lib.hid (X1.out.keep hb)
    clear hb A1 X1
    obtain ⟨x0, x1, xl⟩ := X2.out
    go_wp2
    go_ret
    exact ⟨rfl, A2.out⟩
  · rw [va] at HVA
    have q := ivB_iff.1 va
    clear va
    obtain ⟨q0, q1, q2⟩ := q
    obtain ⟨w1, hw1⟩ : ∃ w1 : World, w.alloc (.cells #[.int .i64 (a), .int .i64 (b)] 33) = w1 := ⟨_, rfl⟩
    have s1 : w1.heap.size = w.heap.size + 1 := by rw [← hw1, size_two]
    have X1 : Two w1 (w.heap.size) (.int .i64 (a)) (.int .i64 (b)) := by rw [← hw1]; exact Two.new (here _)
    have A1 : Below w.heap.size w w1 := by rw [← hw1]; exact (grow (here w) _)
    replace X1 := Lib.hid X1
    replace A1 := Lib.hid A1
    obtain ⟨x0, x1, xl⟩ := X1.out
    go_enter Try.func64, Try.ntmps64
    go_wp2_with fail
    refine (HVA.out _).mono ?_
    rintro e w2 ⟨rfl, hb⟩
    clear x0 x1 xl
    have A2 := Lib.hid (down A1.out hb)
    have X2 := Lib.hid (X1.out.keep hb)
    clear hb A1 X1
    obtain ⟨x0, x1, xl⟩ := X2.out
    go_wp2
    go_ret
    exact ⟨rfl, A2.out⟩
def cmpV (a b : Int) : Int := if a < b then -1 else if b < a then 1 else 0
theorem cmpV_lt {a b : Int} (h : a < b) : cmpV a b = -1 := by unfold cmpV; rw [if_pos h]
theorem cmpV_gt {a b : Int} (h : b < a) : cmpV a b = 1 := by unfold cmpV; rw [if_neg (by omega), if_pos h]
theorem cmpV_eq {a b : Int} (h : a = b) : cmpV a b = 0 := by unfold cmpV; rw [if_neg (by omega), if_neg (by omega)]
theorem iunan (a : Int) (ha : I64 a) (w : World) :
    Calls Try.prog 70 #[.int .i64 a] w fun e w' => e = .returned (.bool false) ∧ w = w' := by
  obtain ⟨a0, a1⟩ := ha
  have e : (a != a) = false := by simp
  go_enter Try.func70, Try.ntmps70
  go_wp2
  go_ret
  exact ⟨rfl, rfl⟩
theorem iucmp (a b : Int) (ha : I64 a) (hb : I64 b) (w : World) :
    Calls Try.prog 53 #[.int .i64 a, .int .i64 b] w fun e w' => e = .returned (.int .i64 (cmpV a b)) ∧ w = w' := by
  have HA := Lib.hid (fun w => iunan a ha w)
  have HB := Lib.hid (fun w => iunan b hb w)
  obtain ⟨a0, a1⟩ := ha
  obtain ⟨b0, b1⟩ := hb
  have go : ∀ p q : Bool, decide (a < b) = p → decide (b < a) = q → cmpV a b = (if p then -1 else if q then 1 else 0) := by
    rintro p q rfl rfl
    unfold cmpV
    simp
  cases p : decide (a < b) <;> cases q : decide (b < a)
  all_goals
    rw [go _ _ p q]
    clear go
    go_enter Try.func53, Try.ntmps53
    go_wp2_with (first | (with_reducible refine (HA.out _).mono ?_) | refine (HB.out _).mono ?_); rintro e w1 ⟨rfl, rfl⟩
    go_wp2_with (first | (with_reducible refine (HB.out _).mono ?_) | refine (HA.out _).mono ?_); rintro e w2 ⟨rfl, rfl⟩
    go_wp2
    go_ret
    exact ⟨rfl, rfl⟩
def isR (r : Int) : Bool := decide (0 ≤ r) && decide (r < 13)
theorem isR_iff {r : Int} : isR r = true ↔ 0 ≤ r ∧ r ≤ 12 := by unfold isR; simp; omega
set_option maxRecDepth 100000 in
set_option maxHeartbeats 1000000 in
theorem iumove (a b : Int) (ha : I64 a) (hb : I64 b) (n : Int) (hn : I64 n) (w : World) :
    Calls Try.prog 66 #[.agg #[.int .i64 a, .int .i64 b], .int .i64 n] w fun e w' => e = .returned (.tuple #[.agg #[.int .i64 (mvF a b n), .int .i64 (mvT a b n)], .int .i64 (mvE a b n)]) ∧ Below w.heap.size w w' := by
  have HVA := Lib.hid (fun w => iuvalid a b ha hb w)
  obtain ⟨a0, a1⟩ := ha
  obtain ⟨b0, b1⟩ := hb
  obtain ⟨n0, n1⟩ := hn
  cases va : ivB a b
  · rw [va] at HVA
    have e0 : mvE a b n = 1 := by unfold mvE; rw [va]; rfl
    rw [show mvF a b n = 0 by unfold mvF; rw [e0]; rfl, show mvT a b n = 0 by unfold mvT; rw [e0]; rfl, e0]
    clear e0
    clear va
    obtain ⟨w1, hw1⟩ : ∃ w1 : World, w.alloc (.cells #[.int .i64 (a), .int .i64 (b)] 33) = w1 := ⟨_, rfl⟩
    have s1 : w1.heap.size = w.heap.size + 1 := by rw [← hw1, size_two]
    obtain ⟨w2, hw2⟩ : ∃ w2 : World, w1.alloc (.cells #[.int .i64 (0), .int .i64 (0)] 33) = w2 := ⟨_, rfl⟩
    have s2 : w2.heap.size = w.heap.size + 2 := by rw [← hw2, size_two, s1]
    have X1 : Two w1 (w.heap.size) (.int .i64 (a)) (.int .i64 (b)) := by rw [← hw1]; exact Two.new (here _)
    have X2 : Two w2 (w.heap.size) (.int .i64 (a)) (.int .i64 (b)) := by rw [← hw2]; exact X1.keep (grow (here _) _)
    have R2 : Tuo w2 (w.heap.size + 1) (.int .i64 (0)) (.int .i64 (0)) := by rw [← s1, ← hw2]; exact Tuo.new _ _ _ _
    have A2 : Below w.heap.size w w2 := by rw [← hw2, ← hw1]; exact (grow (grow (here w) _) _)
    replace X2 := Lib.hid X2
    replace R2 := Lib.hid R2
    replace A2 := Lib.hid A2
    clear X1
    obtain ⟨x0, x1, xl⟩ := X2.out
    obtain ⟨⟨r0, r1, rl⟩, rf0, rf1⟩ := R2.out
    go_enter Try.func66, Try.ntmps66
    go_wp2_with fail
    refine (HVA.out _).mono ?_
    rintro e w3 ⟨rfl, hb⟩
    clear x0 x1 xl r0 r1 rl rf0 rf1
    have A3 := Lib.hid (down A2.out hb)
    have X3 := Lib.hid (X2.out.keep hb)
    have R3 := Lib.hid (R2.out.keep hb)
    clear hb A2 X2 R2
    obtain ⟨x0, x1, xl⟩ := X3.out
    obtain ⟨⟨r0, r1, rl⟩, rf0, rf1⟩ := R3.out
    obtain ⟨w4, hw4⟩ : ∃ w4 : World, w3.setCell ⟨w.heap.size + 1, 0, none⟩ (.int .i64 (0)) = w4 := ⟨_, rfl⟩
    obtain ⟨w5, hw5⟩ : ∃ w5 : World, w4.setCell ⟨w.heap.size + 1, 1, none⟩ (.int .i64 (0)) = w5 := ⟨_, rfl⟩
    have P4 : Tuo w4 (w.heap.size + 1) (.int .i64 (0)) (.int .i64 (0)) := by rw [← hw4]; exact R3.out.put0 _
    have R5 : Hid (Tuo w5 (w.heap.size + 1) (.int .i64 (0)) (.int .i64 (0))) := by rw [← hw5]; exact P4.put1 _
    have A5 : Hid (Below w.heap.size w w5) := by rw [← hw5, ← hw4]; exact (A3.out.setCell (by show _ ≤ w.heap.size + 1; omega) _).setCell (by show _ ≤ w.heap.size + 1; omega) _
    obtain ⟨⟨p30, p31, p3l⟩, p3f0, p3f1⟩ := P4
    obtain ⟨⟨q30, q31, q3l⟩, q3f0, q3f1⟩ := R5.out
    go_wp2
    exact bodyPost_ret (v := .tuple #[.agg #[.int .i64 (0), .int .i64 (0)], .int .i64 1]) (by simp [results, Try.results66, go_sem, q30, q31]) rfl ⟨rfl, A5.out⟩
  · rw [va] at HVA
    have q := ivB_iff.1 va
    by_cases z : -8796093022208 ≤ n ∧ n ≤ 8796093022208
    · obtain ⟨z0, z1⟩ := z
      have j : -9223372036854775808 ≤ a + n ∧ a + n ≤ 9223372036854775807 := by omega
      have j' : -9223372036854775808 ≤ b + n ∧ b + n ≤ 9223372036854775807 := by omega
      have HVC := Lib.hid (fun w => iuvalid (a + n) (b + n) ⟨by omega, by omega⟩ ⟨by omega, by omega⟩ w)
      cases vc : ivB (a + n) (b + n)
      · rw [vc] at HVC
        have e0 : mvE a b n = 2 := by unfold mvE; rw [va, vc]; rfl
        rw [show mvF a b n = 0 by unfold mvF; rw [e0]; rfl, show mvT a b n = 0 by unfold mvT; rw [e0]; rfl, e0]
        clear e0
        clear va vc q z0 z1
        obtain ⟨p, hp⟩ : ∃ p, a + n = p := ⟨_, rfl⟩
        obtain ⟨q', hq'⟩ : ∃ q', b + n = q' := ⟨_, rfl⟩
        rw [hp] at HVC j
        rw [hq'] at HVC j'
        obtain ⟨j0, j1⟩ := j
        obtain ⟨j2, j3⟩ := j'
        obtain ⟨w1, hw1⟩ : ∃ w1 : World, w.alloc (.cells #[.int .i64 (a), .int .i64 (b)] 33) = w1 := ⟨_, rfl⟩
        have s1 : w1.heap.size = w.heap.size + 1 := by rw [← hw1, size_two]
        obtain ⟨w2, hw2⟩ : ∃ w2 : World, w1.alloc (.cells #[.int .i64 (0), .int .i64 (0)] 33) = w2 := ⟨_, rfl⟩
        have s2 : w2.heap.size = w.heap.size + 2 := by rw [← hw2, size_two, s1]
        have X1 : Two w1 (w.heap.size) (.int .i64 (a)) (.int .i64 (b)) := by rw [← hw1]; exact Two.new (here _)
        have X2 : Two w2 (w.heap.size) (.int .i64 (a)) (.int .i64 (b)) := by rw [← hw2]; exact X1.keep (grow (here _) _)
        have R2 : Tuo w2 (w.heap.size + 1) (.int .i64 (0)) (.int .i64 (0)) := by rw [← s1, ← hw2]; exact Tuo.new _ _ _ _
        have A2 : Below w.heap.size w w2 := by rw [← hw2, ← hw1]; exact (grow (grow (here w) _) _)
        replace X2 := Lib.hid X2
        replace R2 := Lib.hid R2
        replace A2 := Lib.hid A2
        clear X1
        obtain ⟨x0, x1, xl⟩ := X2.out
        obtain ⟨⟨r0, r1, rl⟩, rf0, rf1⟩ := R2.out
        go_enter Try.func66, Try.ntmps66
        go_wp2_with fail
        refine (HVA.out _).mono ?_
        rintro e w3 ⟨rfl, hb⟩
        clear x0 x1 xl r0 r1 rl rf0 rf1
        have A3 := Lib.hid (down A2.out hb)
        have X3 := Lib.hid (X2.out.keep hb)
        have R3 := Lib.hid (R2.out.keep hb)
        clear hb A2 X2 R2
        obtain ⟨x0, x1, xl⟩ := X3.out
        obtain ⟨⟨r0, r1, rl⟩, rf0, rf1⟩ := R3.out
        obtain ⟨w4, hw4⟩ : ∃ w4 : World, w3.alloc (.cells #[.int .i64 (p), .int .i64 (q')] 33) = w4 := ⟨_, rfl⟩
        obtain ⟨B4, HB4⟩ : ∃ B, w3.heap.size = B := ⟨_, rfl⟩
        have S4 : Hid (Two w4 B4 (.int .i64 (p)) (.int .i64 (q'))) := by rw [← hw4, ← HB4]; exact Two.new (here _)
        have X4 := Lib.hid (X3.out.keep (show Below w3.heap.size w3 w4 by rw [← hw4]; exact grow (here _) _))
        have R4 := Lib.hid (R3.out.keep (show Below w3.heap.size w3 w4 by rw [← hw4]; exact grow (here _) _))
        have A4 : Hid (Below w.heap.size w w4) := by rw [← hw4]; exact grow A3.out _
        clear A3 X3 R3
        obtain ⟨nx0, nx1, nxl⟩ := X4.out
        obtain ⟨⟨nr0, nr1, nrl⟩, nrf0, nrf1⟩ := R4.out
        obtain ⟨ns0, ns1, nsl⟩ := S4.out
        go_wp2_with fail
        refine (HVC.out _).mono ?_
        rintro e w5 ⟨rfl, hb⟩
        clear x0 x1 xl r0 r1 rl rf0 rf1 nx0 nx1 nxl nr0 nr1 nrl nrf0 nrf1 ns0 ns1 nsl
        have A5 := Lib.hid (down A4.out hb)
        have X5 := Lib.hid (X4.out.keep hb)
        have R5 := Lib.hid (R4.out.keep hb)
        have S5 := Lib.hid (S4.out.keep hb)
        clear hb A4 X4 R4 S4
        obtain ⟨x0, x1, xl⟩ := X5.out
        obtain ⟨⟨r0, r1, rl⟩, rf0, rf1⟩ := R5.out
        obtain ⟨s0, s1, sl⟩ := S5.out
        obtain ⟨w6, hw6⟩ : ∃ w6 : World, w5.setCell ⟨w.heap.size + 1, 0, none⟩ (.int .i64 (0)) = w6 := ⟨_, rfl⟩
        obtain ⟨w7, hw7⟩ : ∃ w7 : World, w6.setCell ⟨w.heap.size + 1, 1, none⟩ (.int .i64 (0)) = w7 := ⟨_, rfl⟩
        have P6 : Tuo w6 (w.heap.size + 1) (.int .i64 (0)) (.int .i64 (0)) := by rw [← hw6]; exact R5.out.put0 _
        have R7 : Hid (Tuo w7 (w.heap.size + 1) (.int .i64 (0)) (.int .i64 (0))) := by rw [← hw7]; exact P6.put1 _
        have A7 : Hid (Below w.heap.size w w7) := by rw [← hw7, ← hw6]; exact (A5.out.setCell (by show _ ≤ w.heap.size + 1; omega) _).setCell (by show _ ≤ w.heap.size + 1; omega) _
        obtain ⟨⟨p50, p51, p5l⟩, p5f0, p5f1⟩ := P6
        obtain ⟨⟨q50, q51, q5l⟩, q5f0, q5f1⟩ := R7.out
        go_wp2
        exact bodyPost_ret (v := .tuple #[.agg #[.int .i64 (0), .int .i64 (0)], .int .i64 2]) (by simp [results, Try.results66, go_sem, q50, q51]) rfl ⟨rfl, A7.out⟩
      · rw [vc] at HVC
        have e0 : mvE a b n = 0 := by unfold mvE; rw [va, vc]; rfl
        rw [show mvF a b n = a + n by unfold mvF; rw [e0]; rfl, show mvT a b n = b + n by unfold mvT; rw [e0]; rfl, e0]
        clear va vc q z0 z1 e0
        obtain ⟨p, hp⟩ : ∃ p, a + n = p := ⟨_, rfl⟩
        obtain ⟨q', hq'⟩ : ∃ q', b + n = q' := ⟨_, rfl⟩
        rw [hp] at HVC j ⊢
        rw [hq'] at HVC j' ⊢
        obtain ⟨j0, j1⟩ := j
        obtain ⟨j2, j3⟩ := j'
        obtain ⟨w1, hw1⟩ : ∃ w1 : World, w.alloc (.cells #[.int .i64 (a), .int .i64 (b)] 33) = w1 := ⟨_, rfl⟩
        have s1 : w1.heap.size = w.heap.size + 1 := by rw [← hw1, size_two]
        obtain ⟨w2, hw2⟩ : ∃ w2 : World, w1.alloc (.cells #[.int .i64 (0), .int .i64 (0)] 33) = w2 := ⟨_, rfl⟩
        have s2 : w2.heap.size = w.heap.size + 2 := by rw [← hw2, size_two, s1]
        have X1 : Two w1 (w.heap.size) (.int .i64 (a)) (.int .i64 (b)) := by rw [← hw1]; exact Two.new (here _)
        have X2 : Two w2 (w.heap.size) (.int .i64 (a)) (.int .i64 (b)) := by rw [← hw2]; exact X1.keep (grow (here _) _)
        have R2 : Tuo w2 (w.heap.size + 1) (.int .i64 (0)) (.int .i64 (0)) := by rw [← s1, ← hw2]; exact Tuo.new _ _ _ _
        have A2 : Below w.heap.size w w2 := by rw [← hw2, ← hw1]; exact (grow (grow (here w) _) _)
        replace X2 := Lib.hid X2
        replace R2 := Lib.hid R2
        replace A2 := Lib.hid A2
        clear X1
        obtain ⟨x0, x1, xl⟩ := X2.out
        obtain ⟨⟨r0, r1, rl⟩, rf0, rf1⟩ := R2.out
        go_enter Try.func66, Try.ntmps66
        go_wp2_with fail
        refine (HVA.out _).mono ?_
        rintro e w3 ⟨rfl, hb⟩
        clear x0 x1 xl r0 r1 rl rf0 rf1
        have A3 := Lib.hid (down A2.out hb)
        have X3 := Lib.hid (X2.out.keep hb)
        have R3 := Lib.hid (R2.out.keep hb)
        clear hb A2 X2 R2
        obtain ⟨x0, x1, xl⟩ := X3.out
        obtain ⟨⟨r0, r1, rl⟩, rf0, rf1⟩ := R3.out
        obtain ⟨w4, hw4⟩ : ∃ w4 : World, w3.alloc (.cells #[.int .i64 (p), .int .i64 (q')] 33) = w4 := ⟨_, rfl⟩
        obtain ⟨B4, HB4⟩ : ∃ B, w3.heap.size = B := ⟨_, rfl⟩
        have S4 : Hid (Two w4 B4 (.int .i64 (p)) (.int .i64 (q'))) := by rw [← hw4, ← HB4]; exact Two.new (here _)
        have X4 := Lib.hid (X3.out.keep (show Below w3.heap.size w3 w4 by rw [← hw4]; exact grow (here _) _))
        have R4 := Lib.hid (R3.out.keep (show Below w3.heap.size w3 w4 by rw [← hw4]; exact grow (here _) _))
        have A4 : Hid (Below w.heap.size w w4) := by rw [← hw4]; exact grow A3.out _
        clear A3 X3 R3
        obtain ⟨nx0, nx1, nxl⟩ := X4.out
        obtain ⟨⟨nr0, nr1, nrl⟩, nrf0, nrf1⟩ := R4.out
        obtain ⟨ns0, ns1, nsl⟩ := S4.out
        go_wp2_with fail
        refine (HVC.out _).mono ?_
        rintro e w5 ⟨rfl, hb⟩
        clear x0 x1 xl r0 r1 rl rf0 rf1 nx0 nx1 nxl nr0 nr1 nrl nrf0 nrf1 ns0 ns1 nsl
        have A5 := Lib.hid (down A4.out hb)
        have X5 := Lib.hid (X4.out.keep hb)
        have R5 := Lib.hid (R4.out.keep hb)
        have S5 := Lib.hid (S4.out.keep hb)
        clear hb A4 X4 R4 S4
        obtain ⟨x0, x1, xl⟩ := X5.out
        obtain ⟨⟨r0, r1, rl⟩, rf0, rf1⟩ := R5.out
        obtain ⟨s0, s1, sl⟩ := S5.out
        obtain ⟨w6, hw6⟩ : ∃ w6 : World, w5.setCell ⟨w.heap.size + 1, 0, none⟩ (.int .i64 (p)) = w6 := ⟨_, rfl⟩
        obtain ⟨w7, hw7⟩ : ∃ w7 : World, w6.setCell ⟨w.heap.size + 1, 1, none⟩ (.int .i64 (q')) = w7 := ⟨_, rfl⟩
        have P6 : Tuo w6 (w.heap.size + 1) (.int .i64 (p)) (.int .i64 (0)) := by rw [← hw6]; exact R5.out.put0 _
        have R7 : Hid (Tuo w7 (w.heap.size + 1) (.int .i64 (p)) (.int .i64 (q'))) := by rw [← hw7]; exact P6.put1 _
        have A7 : Hid (Below w.heap.size w w7) := by rw [← hw7, ← hw6]; exact (A5.out.setCell (by show _ ≤ w.heap.size + 1; omega) _).setCell (by show _ ≤ w.heap.size + 1; omega) _
        obtain ⟨⟨p50, p51, p5l⟩, p5f0, p5f1⟩ := P6
        obtain ⟨⟨q50, q51, q5l⟩, q5f0, q5f1⟩ := R7.out
        go_wp2
        exact bodyPost_ret (v := .tuple #[.agg #[.int .i64 (p), .int .i64 (q')], .int .i64 0]) (by simp [results, Try.results66, go_sem, q50, q51]) rfl ⟨rfl, A7.out⟩
    · obtain ⟨p, hp⟩ : ∃ p, wrap64 (a + n) = p := ⟨_, rfl⟩
      obtain ⟨q', hq'⟩ : ∃ q', wrap64 (b + n) = q' := ⟨_, rfl⟩
      have hp2 := hp
      have hq2 := hq'
      have j : (-9223372036854775808 ≤ p ∧ p ≤ 9223372036854775807) ∧ ¬ (-4398046511104 ≤ p ∧ p ≤ 4398046511104) := by unfold wrap64 at hp; omega
      have j' : -9223372036854775808 ≤ q' ∧ q' ≤ 9223372036854775807 := by unfold wrap64 at hq'; omega
      have HVC := Lib.hid (fun w => iuvalid p q' j.1 j' w)
      have vq : ivB p q' = false := by
        rw [ivB_no]
        have : -4398046511104 ≤ q' ∧ q' ≤ 4398046511104 → False := by unfold wrap64 at hq'; omega
        omega
      rw [vq] at HVC
      have vc : ivB (a + n) (b + n) = false := by rw [ivB_no]; omega
      have e0 : mvE a b n = 2 := by unfold mvE; rw [va, vc]; rfl
      rw [show mvF a b n = 0 by unfold mvF; rw [e0]; rfl, show mvT a b n = 0 by unfold mvT; rw [e0]; rfl, e0]
      clear e0
      clear va vc q z vq hp2 hq2
      obtain ⟨⟨j0, j1⟩, -⟩ := j
      obtain ⟨j2, j3⟩ := j'
      obtain ⟨w1, hw1⟩ : ∃ w1 : World, w.alloc (.cells #[.int .i64 (a), .int .i64 (b)] 33) = w1 := ⟨_, rfl⟩
      have s1 : w1.heap.size = w.heap.size + 1 := by rw [← hw1, size_two]
      obtain ⟨w2, hw2⟩ : ∃ w2 : World, w1.alloc (.cells #[.int .i64 (0), .int .i64 (0)] 33) = w2 := ⟨_, rfl⟩
      have s2 : w2.heap.size = w.heap.size + 2 := by rw [← hw2, size_two, s1]
      have X1 : Two w1 (w.heap.size) (.int .i64 (a)) (.int .i64 (b)) := by rw [← hw1]; exact Two.new (here _)
      have X2 : Two w2 (w.heap.size) (.int .i64 (a)) (.int .i64 (b)) := by rw [← hw2]; exact X1.keep (grow (here _) _)
      have R2 : Tuo w2 (w.heap.size + 1) (.int .i64 (0)) (.int .i64 (0)) := by rw [← s1, ← hw2]; exact Tuo.new _ _ _ _
      have A2 : Below w.heap.size w w2 := by rw [← hw2, ← hw1]; exact (grow (grow (here w) _) _)
      replace X2 := Lib.hid X2
      replace R2 := Lib.hid R2
      replace A2 := Lib.hid A2
      clear X1
      obtain ⟨x0, x1, xl⟩ := X2.out
      obtain ⟨⟨r0, r1, rl⟩, rf0, rf1⟩ := R2.out
      go_enter Try.func66, Try.ntmps66
      go_wp2_with fail
      refine (HVA.out _).mono ?_
      rintro e w3 ⟨rfl, hb⟩
      clear x0 x1 xl r0 r1 rl rf0 rf1
      have A3 := Lib.hid (down A2.out hb)
      have X3 := Lib.hid (X2.out.keep hb)
      have R3 := Lib.hid (R2.out.keep hb)
      clear hb A2 X2 R2
      obtain ⟨x0, x1, xl⟩ := X3.out
      obtain ⟨⟨r0, r1, rl⟩, rf0, rf1⟩ := R3.out
      obtain ⟨w4, hw4⟩ : ∃ w4 : World, w3.alloc (.cells #[.int .i64 (p), .int .i64 (q')] 33) = w4 := ⟨_, rfl⟩
      obtain ⟨B4, HB4⟩ : ∃ B, w3.heap.size = B := ⟨_, rfl⟩
      have S4 : Hid (Two w4 B4 (.int .i64 (p)) (.int .i64 (q'))) := by rw [← hw4, ← HB4]; exact Two.new (here _)
      have X4 := Lib.hid (X3.out.keep (show Below w3.heap.size w3 w4 by rw [← hw4]; exact grow (here _) _))
      have R4 := Lib.hid (R3.out.keep (show Below w3.heap.size w3 w4 by rw [← hw4]; exact grow (here _) _))
      have A4 : Hid (Below w.heap.size w w4) := by rw [← hw4]; exact grow A3.out _
      clear A3 X3 R3
      obtain ⟨nx0, nx1, nxl⟩ := X4.out
      obtain ⟨⟨nr0, nr1, nrl⟩, nrf0, nrf1⟩ := R4.out
      obtain ⟨ns0, ns1, nsl⟩ := S4.out
      go_wp2_with fail
      refine (HVC.out _).mono ?_
      rintro e w5 ⟨rfl, hb⟩
      clear x0 x1 xl r0 r1 rl rf0 rf1 nx0 nx1 nxl nr0 nr1 nrl nrf0 nrf1 ns0 ns1 nsl
      have A5 := Lib.hid (down A4.out hb)
      have X5 := Lib.hid (X4.out.keep hb)
      have R5 := Lib.hid (R4.out.keep hb)
      have S5 := Lib.hid (S4.out.keep hb)
      clear hb A4 X4 R4 S4
      obtain ⟨x0, x1, xl⟩ := X5.out
      obtain ⟨⟨r0, r1, rl⟩, rf0, rf1⟩ := R5.out
      obtain ⟨s0, s1, sl⟩ := S5.out
      obtain ⟨w6, hw6⟩ : ∃ w6 : World, w5.setCell ⟨w.heap.size + 1, 0, none⟩ (.int .i64 (0)) = w6 := ⟨_, rfl⟩
      obtain ⟨w7, hw7⟩ : ∃ w7 : World, w6.setCell ⟨w.heap.size + 1, 1, none⟩ (.int .i64 (0)) = w7 := ⟨_, rfl⟩
      have P6 : Tuo w6 (w.heap.size + 1) (.int .i64 (0)) (.int .i64 (0)) := by rw [← hw6]; exact R5.out.put0 _
      have R7 : Hid (Tuo w7 (w.heap.size + 1) (.int .i64 (0)) (.int .i64 (0))) := by rw [← hw7]; exact P6.put1 _
      have A7 : Hid (Below w.heap.size w w7) := by rw [← hw7, ← hw6]; exact (A5.out.setCell (by show _ ≤ w.heap.size + 1; omega) _).setCell (by show _ ≤ w.heap.size + 1; omega) _
      obtain ⟨⟨p50, p51, p5l⟩, p5f0, p5f1⟩ := P6
      obtain ⟨⟨q50, q51, q5l⟩, q5f0, q5f1⟩ := R7.out
      go_wp2
      exact bodyPost_ret (v := .tuple #[.agg #[.int .i64 (0), .int .i64 (0)], .int .i64 2]) (by simp [results, Try.results66, go_sem, q50, q51]) rfl ⟨rfl, A7.out⟩
/-- A list of 13 cells, filled as far as k. -/
structure Fil (w : World) (b k : Nat) : Prop where
  c : ∀ j, j < 13 → w.cell? ⟨b, j, none⟩ = some (.int .i64 (if j < k then (j : Int) else 0))
  f : ∀ j, j < 13 → w.frozen? ⟨b, j, none⟩ = false
  lt : b < w.heap.size
theorem Fil.put {w : World} {b k : Nat} (h : Fil w b k) (hk : k < 13) : Fil (w.setCell ⟨b, k, none⟩ (.int .i64 (k : Int))) b (k + 1) := by
  refine ⟨fun j hj => ?_, fun j hj => by rw [World.frozen?_setCell]; exact h.f j hj, by rw [size_set]; exact h.lt⟩
  by_cases e : j = k
  · subst e
    rw [World.cell?_setCell_same w _ _ (h.c j hj), if_pos (by omega)]
  · rw [World.cell?_setCell_other (h := by intro q; simp at q), h.c j hj]
    by_cases l : j < k
    · rw [if_pos l, if_pos (by omega)]
    · rw [if_neg l, if_neg (by omega)]
end Go.Proofs.Ytdkmahdfnmoliaa
