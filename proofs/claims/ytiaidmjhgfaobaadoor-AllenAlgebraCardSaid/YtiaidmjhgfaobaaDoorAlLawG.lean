/- The walk of AllenAlgebra. -/
import Derived.Test.YtiaidmjhgfaobaaDoorAlAwakec
import Derived.Test.YtiaidmjhgfaobaaDoorAlTab
import Derived.BigQuiet
import Derived.Deep.QuietTactic
import Derived.Deep.RegionHeld3
import Derived.Deep.Cut
import Derived.Outline
namespace Go.Proofs.YtiaidmjhgfaobaaDoor
open Go.RowKit
set_option linter.unusedVariables false

theorem lis (s : Int) (hs : I64 s) (w : World) :
    Calls Tryd.prog 36 #[.int .i64 s] w fun e w' => e = .returned (.bool (isS s)) ∧ w = w' := by
  obtain ⟨h0, h1⟩ := hs
  unfold isS
  cases p : decide (0 ≤ s) <;> cases q : decide (s ≤ 8191)
  all_goals
    go_enter Tryd.func36, Tryd.ntmps36
    go_wp2
    go_ret
    exact ⟨rfl, rfl⟩
theorem cm_bd (a b : Int) : -1 ≤ cmS a b ∧ cmS a b ≤ 8191 := by
  unfold cmS
  split
  · have := cmI_lt a.toNat b.toNat 15 (Nat.le_refl _); omega
  · omega
set_option maxRecDepth 100000 in
set_option maxHeartbeats 4000000 in
theorem AllenAlgebra.walk (a b d : Int) (ha : (Lit.int .i64 a).wf = true) (hb : (Lit.int .i64 b).wf = true) (hd : (Lit.int .i64 d).wf = true) (w : World) (ht : Tabs w) :
    Calls Tryd.prog 10 #[.int .i64 a, .int .i64 b, .int .i64 d] w fun e w' => e = .returned (.bool true) ∧ Below w.heap.size w w' := by
  replace ha := i64_wf ha
  replace hb := i64_wf hb
  replace hd := i64_wf hd
  have IA := fun w => lis a ha w
  have IB := fun w => lis b hb w
  have ID := fun w => lis d hd w
  have AW := Lib.hid (fun w ht => awake_all w ht)
  replace ht := Lib.hid ht
  by_cases all : (isS a && isS b && isS d) = true
  · rw [Bool.and_eq_true, Bool.and_eq_true] at all
    obtain ⟨⟨ia, ib⟩, id⟩ := all
    have ia2 := isS_iff.1 ia
    have ib2 := isS_iff.1 ib
    have id2 := isS_iff.1 id
    rw [ia] at IA
    rw [ib] at IB
    rw [id] at ID
    obtain ⟨A, rfl⟩ : ∃ A : Nat, a = A := ⟨a.toNat, by omega⟩
    obtain ⟨B, rfl⟩ : ∃ B : Nat, b = B := ⟨b.toNat, by omega⟩
    obtain ⟨D, rfl⟩ : ∃ D : Nat, d = D := ⟨d.toNat, by omega⟩
    have lA : A < 8192 := by omega
    have lB : B < 8192 := by omega
    have lD : D < 8192 := by omega
    clear ia ib id ia2 ib2 id2 ha hb hd
    have is (n : Nat) (h : n < 8192) : isS (n : Int) = true := isS_iff.2 (by omega)
    have lc (x y : Nat) : cmI x y 15 < 8192 := cmI_lt x y 15 (Nat.le_refl _)
    have CC : ∀ (x y : Nat), x < 8192 → y < 8192 → ∀ w, Tabs w → Calls Tryd.prog 14 #[.int .i64 x, .int .i64 y] w fun e w' => e = .returned (.int .i64 (cmI x y 15 : Nat)) ∧ Below w.heap.size w w' := fun x y hx hy w ht => by
      have := uacomp x y ⟨by omega, by omega⟩ ⟨by omega, by omega⟩ w ht
      rwa [show cmS (x : Int) (y : Int) = (cmI x y 15 : Nat) by unfold cmS; rw [is x hx, is y hy]; rfl] at this
    have II : ∀ (x : Nat), x < 8192 → ∀ w, Tabs w → Calls Tryd.prog 16 #[.int .i64 x] w fun e w' => e = .returned (.int .i64 (ivK x 13 : Nat)) ∧ Below w.heap.size w w' := fun x hx w ht => by
      have := uainv x ⟨by omega, by omega⟩ w ht
      rwa [show ivS (x : Int) = (ivK x 13 : Nat) by unfold ivS; rw [is x hx]; rfl] at this
    have lO := or_lt lA lB
    have C1 := CC A B lA lB
    have C2 := CC (cmI A B 15) D (lc A B) lD
    have C3 := CC B D lB lD
    have C4 := CC A (cmI B D 15) lA (lc B D)
    have C5 := CC (A ||| B) D lO lD
    have C6 := CC A D lA lD
    have C7 := CC A 64 lA (by decide)
    have C8 := CC 64 A (by decide) lA
    have I1 := II (cmI A B 15) (lc A B)
    have I2 := II B lB
    have I3 := II A lA
    have C9 := CC (ivK B 13) (ivK A 13) (ivK_lt _ _) (ivK_lt _ _)
    have I4 := II (ivK A 13) (ivK_lt _ _)
    have I5 := II (A ||| B) lO
    rw [(cm_unit lA).1] at C7
    rw [(cm_unit lA).2] at C8
    rw [← cm_assoc] at C4
    rw [cm_or] at C5
    rw [inv_inv lA] at I4
    rw [inv_or] at I5
    rw [← cm_inv] at C9
    have o1 := or_i64 A B (by omega) (by omega)
    have o2 := or_i64 (cmI A D 15) (cmI B D 15) (by have := lc A D; omega) (by have := lc B D; omega)
    have o3 := or_i64 (ivK A 13) (ivK B 13) (by have := ivK_lt A 13; omega) (by have := ivK_lt B 13; omega)
    generalize cmI (cmI A B 15) D 15 = Q at *
    generalize ivK (cmI A B 15) 13 = Z at *
    generalize cmI A B 15 = P at *
    generalize cmI A D 15 = V at *
    generalize cmI B D 15 = R at *
    generalize V ||| R = U at *
    generalize A ||| B = O at *
    generalize ivK A 13 = A' at *
    generalize ivK B 13 = B' at *
    generalize A' ||| B' = O' at *
    clear CC II is lc
    replace IA := Lib.hid IA
    replace IB := Lib.hid IB
    replace ID := Lib.hid ID
    replace C1 := Lib.hid C1
    replace C2 := Lib.hid C2
    replace C3 := Lib.hid C3
    replace C4 := Lib.hid C4
    replace C5 := Lib.hid C5
    replace C6 := Lib.hid C6
    replace C7 := Lib.hid C7
    replace C8 := Lib.hid C8
    replace C9 := Lib.hid C9
    replace I1 := Lib.hid I1
    replace I2 := Lib.hid I2
    replace I3 := Lib.hid I3
    replace I4 := Lib.hid I4
    replace I5 := Lib.hid I5
    go_enter Tryd.func10, Tryd.ntmps10
    go_wp2_with fail
    refine (AW.out _ (ht.out.below (here w))).mono ?_
    rintro e w1 ⟨rfl, hb⟩
    have A1 := Lib.hid (down (here w) hb)
    clear hb
    go_wp2_with fail
    refine (IA.out _).mono ?_
    rintro e x1 ⟨rfl, rfl⟩
    go_wp2_with fail
    refine (IB.out _).mono ?_
    rintro e x2 ⟨rfl, rfl⟩
    go_wp2_with fail
    refine (ID.out _).mono ?_
    rintro e x3 ⟨rfl, rfl⟩
    go_wp2_with fail
    refine (C1.out _ (ht.out.below A1.out)).mono ?_
    rintro e w2 ⟨rfl, hb⟩
    have A2 := Lib.hid (down A1.out hb)
    clear hb A1
    go_wp2_with fail
    refine (C2.out _ (ht.out.below A2.out)).mono ?_
    rintro e w3 ⟨rfl, hb⟩
    have A3 := Lib.hid (down A2.out hb)
    clear hb A2
    go_wp2_with fail
    refine (C3.out _ (ht.out.below A3.out)).mono ?_
    rintro e w4 ⟨rfl, hb⟩
    have A4 := Lib.hid (down A3.out hb)
    clear hb A3
    go_wp2_with fail
    refine (C4.out _ (ht.out.below A4.out)).mono ?_
    rintro e w5 ⟨rfl, hb⟩
    have A5 := Lib.hid (down A4.out hb)
    clear hb A4
    go_wp2_with fail
    refine (C5.out _ (ht.out.below A5.out)).mono ?_
    rintro e w6 ⟨rfl, hb⟩
    have A6 := Lib.hid (down A5.out hb)
    clear hb A5
    go_wp2_with fail
    refine (C6.out _ (ht.out.below A6.out)).mono ?_
    rintro e w7 ⟨rfl, hb⟩
    have A7 := Lib.hid (down A6.out hb)
    clear hb A6
    go_wp2_with fail
    refine (C3.out _ (ht.out.below A7.out)).mono ?_
    rintro e w8 ⟨rfl, hb⟩
    have A8 := Lib.hid (down A7.out hb)
    clear hb A7
    go_wp2_with fail
    refine (C7.out _ (ht.out.below A8.out)).mono ?_
    rintro e w9 ⟨rfl, hb⟩
    have A9 := Lib.hid (down A8.out hb)
    clear hb A8
    go_wp2_with fail
    refine (C8.out _ (ht.out.below A9.out)).mono ?_
    rintro e w10 ⟨rfl, hb⟩
    have A10 := Lib.hid (down A9.out hb)
    clear hb A9
    go_wp2_with fail
    refine (C1.out _ (ht.out.below A10.out)).mono ?_
    rintro e w11 ⟨rfl, hb⟩
    have A11 := Lib.hid (down A10.out hb)
    clear hb A10
    go_wp2_with fail
    refine (I1.out _ (ht.out.below A11.out)).mono ?_
    rintro e w12 ⟨rfl, hb⟩
    have A12 := Lib.hid (down A11.out hb)
    clear hb A11
    go_wp2_with fail
    refine (I2.out _ (ht.out.below A12.out)).mono ?_
    rintro e w13 ⟨rfl, hb⟩
    have A13 := Lib.hid (down A12.out hb)
    clear hb A12
    go_wp2_with fail
    refine (I3.out _ (ht.out.below A13.out)).mono ?_
    rintro e w14 ⟨rfl, hb⟩
    have A14 := Lib.hid (down A13.out hb)
    clear hb A13
    go_wp2_with fail
    refine (C9.out _ (ht.out.below A14.out)).mono ?_
    rintro e w15 ⟨rfl, hb⟩
    have A15 := Lib.hid (down A14.out hb)
    clear hb A14
    go_wp2_with fail
    refine (I3.out _ (ht.out.below A15.out)).mono ?_
    rintro e w16 ⟨rfl, hb⟩
    have A16 := Lib.hid (down A15.out hb)
    clear hb A15
    go_wp2_with fail
    refine (I4.out _ (ht.out.below A16.out)).mono ?_
    rintro e w17 ⟨rfl, hb⟩
    have A17 := Lib.hid (down A16.out hb)
    clear hb A16
    go_wp2_with fail
    refine (I5.out _ (ht.out.below A17.out)).mono ?_
    rintro e w18 ⟨rfl, hb⟩
    have A18 := Lib.hid (down A17.out hb)
    clear hb A17
    go_wp2_with fail
    refine (I3.out _ (ht.out.below A18.out)).mono ?_
    rintro e w19 ⟨rfl, hb⟩
    have A19 := Lib.hid (down A18.out hb)
    clear hb A18
    go_wp2_with fail
    refine (I2.out _ (ht.out.below A19.out)).mono ?_
    rintro e w20 ⟨rfl, hb⟩
    have A20 := Lib.hid (down A19.out hb)
    clear hb A19
    go_wp2
    go_ret
    exact ⟨rfl, by first | exact A20.out | exact grow A20.out _ | exact below_drewN A20.out _ | exact grow (grow A20.out _) _ | exact grow (grow (grow A20.out _) _) _⟩
  · have E1 := fun w ht => uacomp b d hb hd w ht
    have bd := cm_bd b d
    have E2 := fun w ht => uacomp a (cmS b d) ha ⟨by omega, by omega⟩ w ht
    rw [show cmS a (cmS b d) = -1 by
      unfold cmS
      cases x : isS a
      · rfl
      · have y : (isS b && isS d) = false := by
          cases y : isS b && isS d
          · rfl
          · rw [Bool.and_assoc, x, y] at all; exact absurd rfl all
        rw [y]; rfl] at E2
    generalize cmS b d = X at *
    clear ha hb hd bd
    cases x : isS a
    · rw [x] at IA
      clear all x
      replace IA := Lib.hid IA
      replace E1 := Lib.hid E1
      replace E2 := Lib.hid E2
      go_enter Tryd.func10, Tryd.ntmps10
      go_wp2_with fail
      refine (AW.out _ (ht.out.below (here w))).mono ?_
      rintro e w1 ⟨rfl, hb⟩
      have A1 := Lib.hid (down (here w) hb)
      clear hb
      go_wp2_with fail
      refine (IA.out _).mono ?_
      rintro e x1 ⟨rfl, rfl⟩
      go_wp2_with fail
      refine (E1.out _ (ht.out.below A1.out)).mono ?_
      rintro e w2 ⟨rfl, hb⟩
      have A2 := Lib.hid (down A1.out hb)
      clear hb A1
      go_wp2_with fail
      refine (E2.out _ (ht.out.below A2.out)).mono ?_
      rintro e w3 ⟨rfl, hb⟩
      have A3 := Lib.hid (down A2.out hb)
      clear hb A2
      go_wp2
      go_ret
      exact ⟨rfl, by first | exact A3.out | exact grow A3.out _ | exact below_drewN A3.out _ | exact grow (grow A3.out _) _ | exact grow (grow (grow A3.out _) _) _⟩
    · cases y : isS b
      · rw [x] at IA
        rw [y] at IB
        clear all x y
        replace IA := Lib.hid IA
        replace IB := Lib.hid IB
        replace E1 := Lib.hid E1
        replace E2 := Lib.hid E2
        go_enter Tryd.func10, Tryd.ntmps10
        go_wp2_with fail
        refine (AW.out _ (ht.out.below (here w))).mono ?_
        rintro e w1 ⟨rfl, hb⟩
        have A1 := Lib.hid (down (here w) hb)
        clear hb
        go_wp2_with fail
        refine (IA.out _).mono ?_
        rintro e x1 ⟨rfl, rfl⟩
        go_wp2_with fail
        refine (IB.out _).mono ?_
        rintro e x2 ⟨rfl, rfl⟩
        go_wp2_with fail
        refine (E1.out _ (ht.out.below A1.out)).mono ?_
        rintro e w2 ⟨rfl, hb⟩
        have A2 := Lib.hid (down A1.out hb)
        clear hb A1
        go_wp2_with fail
        refine (E2.out _ (ht.out.below A2.out)).mono ?_
        rintro e w3 ⟨rfl, hb⟩
        have A3 := Lib.hid (down A2.out hb)
        clear hb A2
        go_wp2
        go_ret
        exact ⟨rfl, by first | exact A3.out | exact grow A3.out _ | exact below_drewN A3.out _ | exact grow (grow A3.out _) _ | exact grow (grow (grow A3.out _) _) _⟩
      · have z : isS d = false := by
          cases z : isS d
          · rfl
          · rw [x, y, z] at all; exact absurd rfl all
        rw [x] at IA
        rw [y] at IB
        rw [z] at ID
        clear all x y z
        replace IA := Lib.hid IA
        replace IB := Lib.hid IB
        replace ID := Lib.hid ID
        replace E1 := Lib.hid E1
        replace E2 := Lib.hid E2
        go_enter Tryd.func10, Tryd.ntmps10
        go_wp2_with fail
        refine (AW.out _ (ht.out.below (here w))).mono ?_
        rintro e w1 ⟨rfl, hb⟩
        have A1 := Lib.hid (down (here w) hb)
        clear hb
        go_wp2_with fail
        refine (IA.out _).mono ?_
        rintro e x1 ⟨rfl, rfl⟩
        go_wp2_with fail
        refine (IB.out _).mono ?_
        rintro e x2 ⟨rfl, rfl⟩
        go_wp2_with fail
        refine (ID.out _).mono ?_
        rintro e x3 ⟨rfl, rfl⟩
        go_wp2_with fail
        refine (E1.out _ (ht.out.below A1.out)).mono ?_
        rintro e w2 ⟨rfl, hb⟩
        have A2 := Lib.hid (down A1.out hb)
        clear hb A1
        go_wp2_with fail
        refine (E2.out _ (ht.out.below A2.out)).mono ?_
        rintro e w3 ⟨rfl, hb⟩
        have A3 := Lib.hid (down A2.out hb)
        clear hb A2
        go_wp2
        go_ret
        exact ⟨rfl, by first | exact A3.out | exact grow A3.out _ | exact below_drewN A3.out _ | exact grow (grow A3.out _) _ | exact grow (grow (grow A3.out _) _) _⟩
end Go.Proofs.YtiaidmjhgfaobaaDoor
