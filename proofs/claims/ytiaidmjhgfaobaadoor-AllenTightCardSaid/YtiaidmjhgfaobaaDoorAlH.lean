/- Contracts of civiltimeref11: Basic, Holds. -/
import Derived.Test.YtiaidmjhgfaobaaDoorAlC
import Derived.OwnWalk
import Derived.Deep.QuietTactic
import Derived.BigQuiet
import Derived.Outline
namespace Go.Proofs.YtiaidmjhgfaobaaDoor
open Go.RowKit
set_option linter.unusedVariables false

/-- The composition of two relations; whether a set holds. -/
def baS (a b : Int) : Int := if (0 ≤ a ∧ a ≤ 12) ∧ 0 ≤ b ∧ b ≤ 12 then cmS ((2 ^ a.toNat : Nat) : Int) ((2 ^ b.toNat : Nat) : Int) else -1
theorem baS_no {a b : Int} (h : ¬ ((0 ≤ a ∧ a ≤ 12) ∧ 0 ≤ b ∧ b ≤ 12)) : baS a b = -1 := by unfold baS; rw [if_neg h]
theorem baS_yes {p q : Nat} (hp : p ≤ 12) (hq : q ≤ 12) : baS p q = cmS ((2 ^ p : Nat) : Int) ((2 ^ q : Nat) : Int) := by unfold baS; rw [if_pos (by omega)]; rfl
def hoB (s a b c d : Int) : Bool := isS s && ivB a b && ivB c d && s.toNat.testBit (ofW a b c d).toNat
set_option maxRecDepth 100000 in
set_option maxHeartbeats 1000000 in
theorem rabasic (a b : Int) (ha : I64 a) (hb : I64 b) (w : World) :
    Calls Tryd.prog 22 #[.int .i64 a, .int .i64 b] w fun e w' => e = .returned (.int .i64 (baS a b)) ∧ Below w.heap.size w w' := by
  obtain ⟨a0, a1⟩ := ha
  obtain ⟨b0, b1⟩ := hb
  by_cases z1 : a < 0
  · have k1 := decide_eq_true z1
    rw [baS_no (by omega)]
    go_enter Tryd.func22, Tryd.ntmps22
    go_wp2
    go_ret
    exact ⟨rfl, here _⟩
  have k1 := decide_eq_false z1
  by_cases z2 : 12 < a
  · have k2 := decide_eq_true z2
    rw [baS_no (by omega)]
    go_enter Tryd.func22, Tryd.ntmps22
    go_wp2
    go_ret
    exact ⟨rfl, here _⟩
  have k2 := decide_eq_false z2
  by_cases z3 : b < 0
  · have k3 := decide_eq_true z3
    rw [baS_no (by omega)]
    go_enter Tryd.func22, Tryd.ntmps22
    go_wp2
    go_ret
    exact ⟨rfl, here _⟩
  have k3 := decide_eq_false z3
  by_cases z4 : 12 < b
  · have k4 := decide_eq_true z4
    rw [baS_no (by omega)]
    go_enter Tryd.func22, Tryd.ntmps22
    go_wp2
    go_ret
    exact ⟨rfl, here _⟩
  have k4 := decide_eq_false z4
  obtain ⟨p, rfl⟩ : ∃ p : Nat, a = p := ⟨a.toNat, by omega⟩
  obtain ⟨q, rfl⟩ : ∃ q : Nat, b = q := ⟨b.toNat, by omega⟩
  have p12 : p ≤ 12 := by omega
  have q12 : q ≤ 12 := by omega
  have pl := pow_lt p12
  have ql := pow_lt q12
  have e1 := al_pow p12
  have e2 := al_pow q12
  rw [baS_yes p12 q12]
  obtain ⟨m, hm⟩ : ∃ m : Nat, 2 ^ p = m := ⟨_, rfl⟩
  obtain ⟨n, hn⟩ : ∃ n : Nat, 2 ^ q = n := ⟨_, rfl⟩
  rw [hm] at pl e1
  rw [hn] at ql e2
  rw [hm, hn]
  have HC := Lib.hid (fun w => racompose (m : Int) (n : Int) ⟨by clear e1 e2; omega, by clear e1 e2; omega⟩ ⟨by clear e1 e2; omega, by clear e1 e2; omega⟩ w)
  obtain ⟨V, hV⟩ : ∃ V, cmS (m : Int) (n : Int) = V := ⟨_, rfl⟩
  rw [hV] at HC ⊢
  clear z1 z2 z3 z4 hm hn hV pl ql
  go_enter Tryd.func22, Tryd.ntmps22
  go_wp2
  refine wp_region_kept (by kernel_rfl) (by kernel_rfl) ?_
  repeat (go_big_quiet_step ((go_at_call 15; with_reducible exact kept_call _ (HC.out _))))
  refine wpQuiet_nil ?_
  intro w3 hy
  obtain ⟨⟨y3, hb⟩, hw⟩ := hy
  replace hw : w3 = y3 := hw
  subst y3
  go_wp2
  go_ret
  exact ⟨rfl, hb⟩
set_option maxRecDepth 100000 in
set_option maxHeartbeats 1000000 in
theorem raholds (s a b c d : Int) (hs : I64 s) (ha : I64 a) (hb : I64 b) (hc : I64 c) (hd : I64 d) (w : World) :
    Calls Tryd.prog 24 #[.int .i64 s, .agg #[.int .i64 a, .int .i64 b], .agg #[.int .i64 c, .int .i64 d]] w fun e w' => e = .returned (.bool (hoB s a b c d)) ∧ Below w.heap.size w w' := by
  have HS := Lib.hid (fun w => raset s hs w)
  have HA := Lib.hid (fun w => ravalid a b ha hb w)
  have HB := Lib.hid (fun w => ravalid c d hc hd w)
  have A2 := Lib.hid (grow (grow (here w) (.cells #[.int .i64 a, .int .i64 b] 30)) (.cells #[.int .i64 c, .int .i64 d] 30))
  have X2 := Lib.hid ((Two.new (here (w.alloc (.cells #[.int .i64 a, .int .i64 b] 30)))).old (.cells #[.int .i64 c, .int .i64 d] 30))
  have Y2 := Lib.hid (Two.new (here ((w.alloc (.cells #[.int .i64 a, .int .i64 b] 30)).alloc (.cells #[.int .i64 c, .int .i64 d] 30))))
  rw [size_two] at Y2
  obtain ⟨w2, hw2⟩ : ∃ w2 : World, (w.alloc (.cells #[.int .i64 a, .int .i64 b] 30)).alloc (.cells #[.int .i64 c, .int .i64 d] 30) = w2 := ⟨_, rfl⟩
  rw [hw2] at A2 X2 Y2
  obtain ⟨x0, x1, xl⟩ := X2.out
  obtain ⟨y0, y1, yl⟩ := Y2.out
  cases v : isS s
  · rw [show hoB s a b c d = false by unfold hoB; rw [v]; rfl]
    rw [v] at HS
    go_enter Tryd.func24, Tryd.ntmps24
    go_wp2_with fail
    refine (HS.out _).mono ?_
    rintro e w3 ⟨rfl, rfl⟩
    go_wp2
    go_ret
    exact ⟨rfl, A2.out⟩
  rw [v] at HS
  cases va : ivB a b
  · rw [show hoB s a b c d = false by unfold hoB; rw [v, va]; rfl]
    rw [va] at HA
    go_enter Tryd.func24, Tryd.ntmps24
    go_wp2_with fail
    refine (HS.out _).mono ?_
    rintro e w3 ⟨rfl, rfl⟩
    go_wp2_with fail
    refine (HA.out _).mono ?_
    rintro e w4 ⟨rfl, hb⟩
    have A3 := Lib.hid (down A2.out hb)
    have X3 := Lib.hid (X2.out.keep hb)
    have Y3 := Lib.hid (Y2.out.keep hb)
    clear hb A2 X2 Y2 x0 x1 xl y0 y1 yl
    obtain ⟨x0, x1, xl⟩ := X3.out
    obtain ⟨y0, y1, yl⟩ := Y3.out
    go_wp2
    go_ret
    exact ⟨rfl, A3.out⟩
  rw [va] at HA
  cases vb : ivB c d
  · rw [show hoB s a b c d = false by unfold hoB; rw [v, va, vb]; rfl]
    rw [vb] at HB
    go_enter Tryd.func24, Tryd.ntmps24
    go_wp2_with fail
    refine (HS.out _).mono ?_
    rintro e w3 ⟨rfl, rfl⟩
    go_wp2_with fail
    refine (HA.out _).mono ?_
    rintro e w4 ⟨rfl, hb⟩
    have A3 := Lib.hid (down A2.out hb)
    have X3 := Lib.hid (X2.out.keep hb)
    have Y3 := Lib.hid (Y2.out.keep hb)
    clear hb A2 X2 Y2 x0 x1 xl y0 y1 yl
    obtain ⟨x0, x1, xl⟩ := X3.out
    obtain ⟨y0, y1, yl⟩ := Y3.out
    go_wp2_with fail
    refine (HB.out _).mono ?_
    rintro e w5 ⟨rfl, hb⟩
    have A4 := Lib.hid (down A3.out hb)
    have X4 := Lib.hid (X3.out.keep hb)
    have Y4 := Lib.hid (Y3.out.keep hb)
    clear hb A3 X3 Y3 x0 x1 xl y0 y1 yl
    obtain ⟨x0, x1, xl⟩ := X4.out
    obtain ⟨y0, y1, yl⟩ := Y4.out
    go_wp2
    go_ret
    exact ⟨rfl, A4.out⟩
  rw [vb] at HB
  obtain ⟨v0, v1⟩ := isS_iff.1 v
  obtain ⟨S, rfl⟩ : ∃ S : Nat, s = S := ⟨s.toNat, by omega⟩
  have hS : S < 8192 := by omega
  have p := ivB_iff.1 va
  have q := ivB_iff.1 vb
  have bd := ofW_bd p.2.2 q.2.2
  have HO := fun w => raof a b c d ha hb hc hd p.2.2 q.2.2 w
  obtain ⟨r, hr⟩ : ∃ r : Nat, ofW a b c d = r := ⟨(ofW a b c d).toNat, by omega⟩
  rw [show hoB S a b c d = S.testBit r by unfold hoB; rw [v, va, vb, hr]; rfl]
  rw [hr] at HO bd
  replace HO := Lib.hid HO
  have HH := Lib.hid (fun w => rahas S r hS (by omega) w)
  generalize S.testBit r = t at *
  clear v va vb v0 v1 p q hr hs ha hb hc hd hS
  obtain ⟨r0, r1⟩ := bd
  go_enter Tryd.func24, Tryd.ntmps24
  go_wp2_with fail
  refine (HS.out _).mono ?_
  rintro e w3 ⟨rfl, rfl⟩
  go_wp2_with fail
  refine (HA.out _).mono ?_
  rintro e w4 ⟨rfl, hb⟩
  have A3 := Lib.hid (down A2.out hb)
  have X3 := Lib.hid (X2.out.keep hb)
  have Y3 := Lib.hid (Y2.out.keep hb)
  clear hb A2 X2 Y2 x0 x1 xl y0 y1 yl
  obtain ⟨x0, x1, xl⟩ := X3.out
  obtain ⟨y0, y1, yl⟩ := Y3.out
  go_wp2_with fail
  refine (HB.out _).mono ?_
  rintro e w5 ⟨rfl, hb⟩
  have A4 := Lib.hid (down A3.out hb)
  have X4 := Lib.hid (X3.out.keep hb)
  have Y4 := Lib.hid (Y3.out.keep hb)
  clear hb A3 X3 Y3 x0 x1 xl y0 y1 yl
  obtain ⟨x0, x1, xl⟩ := X4.out
  obtain ⟨y0, y1, yl⟩ := Y4.out
  go_wp2_with fail
  refine (HO.out _).mono ?_
  rintro e w6 ⟨rfl, hb⟩
  have A5 := Lib.hid (down A4.out hb)
  have X5 := Lib.hid (X4.out.keep hb)
  have Y5 := Lib.hid (Y4.out.keep hb)
  clear hb A4 X4 Y4 x0 x1 xl y0 y1 yl
  obtain ⟨x0, x1, xl⟩ := X5.out
  obtain ⟨y0, y1, yl⟩ := Y5.out
  go_wp2_with fail
  refine (HH.out _).mono ?_
  rintro e w7 ⟨rfl, rfl⟩
  go_wp2
  go_ret
  exact ⟨rfl, A5.out⟩
end Go.Proofs.YtiaidmjhgfaobaaDoor
