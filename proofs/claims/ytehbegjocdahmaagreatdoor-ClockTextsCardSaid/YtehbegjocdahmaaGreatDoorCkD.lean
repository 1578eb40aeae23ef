/- The contract of clock.Duration. -/
import Derived.Test.YtehbegjocdahmaaGreatDoorCkU

import Derived.Test.YtehbegjocdahmaaGreatDoorLIntT

import Derived.WalkSpells

namespace Go.Proofs.YtehbegjocdahmaaGreatDoor

open Go.RowKit

set_option linter.unusedVariables false

/-- The text's parts, one after another. -/
def dRun : Nat → List (UInt8 × Int) → Int → List UInt8 → Bool → List UInt8
  | _, [], _, l, _ => l
  | i, (c, u) :: us, n, l, t =>
    if n / u = 0 then dRun (i + 1) us (n % u) l t
    else dRun (i + 1) us (n % u) ((if 1 ≤ i ∧ t = false then l ++ [84] else l) ++ (Lib.decDigits (n / u).toNat ++ [c])) (decide (1 ≤ i) || t)
theorem dRun_zero {i : Nat} {c : UInt8} {u : Int} {us : List (UInt8 × Int)} {n : Int} {l : List UInt8} {t : Bool} (h : n / u = 0) : dRun i ((c, u) :: us) n l t = dRun (i + 1) us (n % u) l t := by
  conv => lhs; unfold dRun
  rw [if_pos h]
theorem dRun_more {i : Nat} {c : UInt8} {u : Int} {us : List (UInt8 × Int)} {n : Int} {l : List UInt8} {t : Bool} (h : n / u ≠ 0) :
    dRun i ((c, u) :: us) n l t = dRun (i + 1) us (n % u) ((if 1 ≤ i ∧ t = false then l ++ [84] else l) ++ (Lib.decDigits (n / u).toNat ++ [c])) (decide (1 ≤ i) || t) := by
  conv => lhs; unfold dRun
  rw [if_neg h]
theorem partL_ne {x : Int} {c : UInt8} (h : x ≠ 0) : partL x c = Lib.decDigits x.toNat ++ [c] := by unfold partL; rw [if_neg h]
theorem dRun_all {a : Int} (a0 : 0 < a) : dRun 0 usAll a [80] false = 80 :: bodyL a := by
  have e1 : a % 86400 / 3600 = a / 3600 % 24 := by omega
  have e2 : a % 86400 % 3600 / 60 = a / 60 % 60 := by omega
  have e3 : a % 86400 % 3600 % 60 / 1 = a % 60 := by omega
  have key : ∀ l : List UInt8, dRun 1 [(72, 3600), (77, 60), (83, 1)] (a % 86400) l false = l ++ (if restL a = [] then [] else 84 :: restL a) := by
    intro l
    unfold restL
    by_cases h : a / 3600 % 24 = 0
    · rw [dRun_zero (by rw [e1]; exact h), h, partL_zero, List.nil_append]
      by_cases m : a / 60 % 60 = 0
      · rw [dRun_zero (by rw [e2]; exact m), m, partL_zero, List.nil_append]
        by_cases s : a % 60 = 0
        · rw [dRun_zero (by rw [e3]; exact s), s, partL_zero]; simp [dRun]
        · rw [dRun_more (by rw [e3]; exact s), e3, partL_ne s]; simp [dRun]
      · rw [dRun_more (by rw [e2]; exact m), e2, partL_ne m]
        by_cases s : a % 60 = 0
        · rw [dRun_zero (by rw [e3]; exact s), s, partL_zero]; simp [dRun]
        · rw [dRun_more (by rw [e3]; exact s), e3, partL_ne s]; simp [dRun]
    · rw [dRun_more (by rw [e1]; exact h), e1, partL_ne h]
      by_cases m : a / 60 % 60 = 0
      · rw [dRun_zero (by rw [e2]; exact m), m, partL_zero, List.nil_append]
        by_cases s : a % 60 = 0
        · rw [dRun_zero (by rw [e3]; exact s), s, partL_zero]; simp [dRun]
        · rw [dRun_more (by rw [e3]; exact s), e3, partL_ne s]; simp [dRun]
      · rw [dRun_more (by rw [e2]; exact m), e2, partL_ne m]
        by_cases s : a % 60 = 0
        · rw [dRun_zero (by rw [e3]; exact s), s, partL_zero]; simp [dRun]
        · rw [dRun_more (by rw [e3]; exact s), e3, partL_ne s]; simp [dRun]
  unfold usAll bodyL
  by_cases d : a / 86400 = 0
  · rw [dRun_zero d, key, d, partL_zero]; simp
  · rw [dRun_more d, partL_ne d]
    show dRun 1 _ _ (([80] : List UInt8) ++ (Lib.decDigits (a / 86400).toNat ++ [68])) false = _
    rw [key]; simp
theorem textL_zero {n : Int} (h : 0 < n) : textL n 0 = Lib.decDigits n.toNat := by
  unfold textL
  have e : mg n = n := by unfold mg; rw [if_neg (by omega)]
  rw [if_neg (by omega), if_neg (by omega), e, show ((0 : Int) - ((Lib.decDigits n.toNat).length : Int)).toNat = 0 by omega]
  rfl
theorem dec_len {n : Int} (h : 0 < n) (h2 : n ≤ 4398046511104) : (Lib.decDigits n.toNat).length ≤ 13 := (digL_dec 12 n.toNat (by omega)).1
theorem kText (n : Int) (h : 0 < n) (h2 : n ≤ 4398046511104) (w : World) (ht : Tab w) :
    Calls Tryz.prog 16 #[.int .i64 n, .int .i64 0] w fun e w' => e = .returned (.string ⟨(Lib.decDigits n.toNat).toArray⟩) ∧ Below w.heap.size w w' := by
  have := text_all n 0 (by omega) (by omega) (by omega) (by omega) w ht
  rw [textL_zero h] at this
  exact this
theorem dRun_step {k : Nat} {c : UInt8} {u : Int} {n : Int} {l F : List UInt8} {t : Bool} (h : usAll[k]? = some (c, u)) (HR : dRun k (usAll.drop k) n l t = F) :
    (n / u = 0 → dRun (k + 1) (usAll.drop (k + 1)) (n % u) l t = F) ∧
    (n / u ≠ 0 → dRun (k + 1) (usAll.drop (k + 1)) (n % u) ((if 1 ≤ k ∧ t = false then l ++ [84] else l) ++ (Lib.decDigits (n / u).toNat ++ [c])) (decide (1 ≤ k) || t) = F) := by
  have e : usAll.drop k = (c, u) :: usAll.drop (k + 1) := by
    have c4 : k = 0 ∨ k = 1 ∨ k = 2 ∨ k = 3 ∨ 4 ≤ k := by omega
    rcases c4 with rfl | rfl | rfl | rfl | q <;> first | (simp [usAll] at h; obtain ⟨rfl, rfl⟩ := h; rfl) | skip
    rw [List.getElem?_eq_none (by show 4 ≤ k; exact q)] at h; cases h
  rw [e] at HR
  exact ⟨fun z => by rw [← HR, dRun_zero z], fun z => by rw [← HR, dRun_more z]⟩
set_option maxRecDepth 100000 in
set_option maxHeartbeats 8000000 in
theorem kdur_pos (a : Int) (a0 : 0 < a) (a1 : a ≤ 4398046511104) (w : World) (hu : Units w) (hp : Tab w) :
    Calls Tryz.prog 13 #[.int .i64 a] w fun e w' => e = .returned (.string ⟨(80 :: bodyL a).toArray⟩) ∧ Below w.heap.size w w' := by
  obtain ⟨F, hF⟩ : ∃ F, 80 :: bodyL a = F := ⟨_, rfl⟩
  have HS := Lib.hid ((dRun_all a0).trans hF)
  rw [hF]
  have HL := fun w => kline a ⟨by omega, by omega⟩ w
  rw [linB_iff.2 ⟨by omega, a1⟩] at HL
  replace HL := Lib.hid HL
  have g0 := units_cell hu 0
  have g1 := units_cell hu 1
  have g2 := units_cell hu 2
  have g3 := units_cell hu 3
  have g4 := units_cell hu 4
  have g5 := units_cell hu 5
  have g6 := units_cell hu 6
  have g7 := units_cell hu 7
  change _ = some (Value.int .u8 68) at g0
  change _ = some (Value.int .i64 86400) at g1
  change _ = some (Value.int .u8 72) at g2
  change _ = some (Value.int .i64 3600) at g3
  change _ = some (Value.int .u8 77) at g4
  change _ = some (Value.int .i64 60) at g5
  change _ = some (Value.int .u8 83) at g6
  change _ = some (Value.int .i64 1) at g7
  have k0 : (a == 0) = false := by simp; omega
  have k1 : decide (a < 0) = false := decide_eq_false (by omega)
  replace hp := Lib.hid hp
  clear hu hF
  have i0 : ∀ w, (Instr.index 64 (.agg unitsA) (.int .i64 0)).run Tryz.prog w = .ok (.agg #[.int .u8 68, .int .i64 86400]) w := fun _ => by kernel_rfl
  have i1 : ∀ w, (Instr.index 64 (.agg unitsA) (.int .i64 1)).run Tryz.prog w = .ok (.agg #[.int .u8 72, .int .i64 3600]) w := fun _ => by kernel_rfl
  have i2 : ∀ w, (Instr.index 64 (.agg unitsA) (.int .i64 2)).run Tryz.prog w = .ok (.agg #[.int .u8 77, .int .i64 60]) w := fun _ => by kernel_rfl
  have i3 : ∀ w, (Instr.index 64 (.agg unitsA) (.int .i64 3)).run Tryz.prog w = .ok (.agg #[.int .u8 83, .int .i64 1]) w := fun _ => by kernel_rfl
  unfold unitsA at i0 i1 i2 i3
  have t68 : Utf8.encode 68 = ⟨#[68]⟩ := by decide
  have t72 : Utf8.encode 72 = ⟨#[72]⟩ := by decide
  have t77 : Utf8.encode 77 = ⟨#[77]⟩ := by decide
  have t83 : Utf8.encode 83 = ⟨#[83]⟩ := by decide
  go_enter Tryz.func13, Tryz.ntmps13
  go_wp2_with fail
  refine (HL.out _).mono ?_
  rintro e w' ⟨rfl, rfl⟩
  go_wp2
  clear g0 g1 g2 g3 g4 g5 g6 g7 HL
  go_loopw [0, 3, 4, 23] (fun x y z i wr => ∃ (k : Nat) (n : Int) (l : List UInt8) (t : Bool), k ≤ 4 ∧ 0 ≤ n ∧ n ≤ 4398046511104 ∧ l.length ≤ 1 + 20 * k ∧ Hid (dRun k (usAll.drop k) n l t = F) ∧ x = .int .i64 n ∧ y = .string ⟨l.toArray⟩ ∧ z = .bool t ∧ i = .int .i64 k ∧ Hid (Below w.heap.size w wr)) (fun _ _ _ i _ => 4 - (intOf i).toNat)
  case atStart => exact ⟨0, a, [80], false, by omega, by omega, a1, by simp, HS, rfl, rfl, rfl, rfl, Lib.hid (here w)⟩
  case round =>
    obtain ⟨k, n, l, t, k4, n0, n1, ll, HR, rfl, rfl, rfl, rfl, A⟩ := hrel
    clear HS
    by_cases hlt : k < 4
    · have hcase : (k = 0 ∧ usAll[k]? = some (68, 86400)) ∨ (k = 1 ∧ usAll[k]? = some (72, 3600)) ∨ (k = 2 ∧ usAll[k]? = some (77, 60)) ∨ (k = 3 ∧ usAll[k]? = some (83, 1)) := by
        have c : k = 0 ∨ k = 1 ∨ k = 2 ∨ k = 3 := by omega
        rcases c with rfl | rfl | rfl | rfl
        · exact .inl ⟨rfl, rfl⟩
        · exact .inr (.inl ⟨rfl, rfl⟩)
        · exact .inr (.inr (.inl ⟨rfl, rfl⟩))
        · exact .inr (.inr (.inr ⟨rfl, rfl⟩))
      rcases hcase with ⟨rfl, hc⟩ | ⟨rfl, hc⟩ | ⟨rfl, hc⟩ | ⟨rfl, hc⟩
      · have st := dRun_step hc HR.out
        clear HR hc i0 i1 i2 i3 t72 t77 t83
        have ix : ∀ w, (Instr.index 64 (.agg #[.int .u8 68, .int .i64 86400, .int .u8 72, .int .i64 3600, .int .u8 77, .int .i64 60, .int .u8 83, .int .i64 1]) (.int .i64 0)).run Tryz.prog w = .ok (.agg #[.int .u8 68, .int .i64 86400]) w := fun _ => by kernel_rfl
        obtain ⟨w4, hw4⟩ : ∃ w4 : World, wr.alloc (.cells #[.int .u8 68, .int .i64 86400] 63) = w4 := ⟨_, rfl⟩
        have A4 : Hid (Below w.heap.size w w4) := by rw [← hw4]; exact grow A.out _
        have B4 : Hid (Two w4 wr.heap.size (.int .u8 68) (.int .i64 86400)) := by rw [← hw4]; exact Two.new (here _)
        have q0 : 0 ≤ n / 86400 := by omega
        have q1 : n / 86400 ≤ 4398046511104 := by omega
        have r0 : 0 ≤ n % 86400 := by omega
        have r1 : n % 86400 ≤ 4398046511104 := by omega
        clear A
        by_cases z : n / 86400 = 0
        · have HN := Lib.hid (st.1 z)
          have zq : (n / 86400 == 0) = true := by simpa using z
          clear st z
          obtain ⟨b0, b1, bz⟩ := B4.out
          go_wp2
          clear hw4
          go_roundw
          case rel => exact ⟨_, n % 86400, l, t, by omega, r0, r1, by omega, HN.out, rfl, rfl, rfl, rfl, A4⟩
          case measure => simp [intOf]
        · have HN := st.2 z
          have zq : (n / 86400 == 0) = false := by simpa using z
          have dl := dec_len (n := n / 86400) (by omega) q1
          have HT := Lib.hid (fun w ht => kText (n / 86400) (by omega) q1 w ht)
          generalize Lib.decDigits (n / 86400).toNat = D at *
          have HP : Hid (∀ x : Kept w4, Tab x.wd) := fun x => tab_below hp.out (down A4.out x.ok)
          have c0 : ∀ x : Kept w4, x.wd.cell? ⟨wr.heap.size, 0, none⟩ = some (.int .u8 68) := fun x => (B4.out.keep x.ok).c0
          obtain ⟨b0, b1, bz⟩ := B4.out
          clear st z
          replace HN : Hid (dRun _ _ _ (l ++ (D ++ [68])) t = F) := HN
          go_wp2
          clear hw4
          refine wp_region_kept (by kernel_rfl) (by kernel_rfl) ?_
          repeat (go_big_quiet_step ((go_at_call 16; exact kept_call _ (HT.out _ (HP.out _)))))
          refine wpQuiet_nil ?_
          intro w3 hx
          obtain ⟨⟨x3, hb3⟩, hw⟩ := hx
          replace hw : w3 = x3 := hw
          subst x3
          have A5 := Lib.hid (down A4.out hb3)
          go_wp2
          go_roundw
          case rel => exact ⟨_, _, l ++ (D ++ [68]), t, by omega, r0, r1, by simp only [List.length_append, List.length_cons, List.length_nil] <;> omega, HN.out, rfl, by rw [← ba_append, ← ba_append], rfl, rfl, A5⟩
          case measure => simp [intOf]
      · have st := dRun_step hc HR.out
        clear HR hc i0 i1 i2 i3 t68 t77 t83
        have ix : ∀ w, (Instr.index 64 (.agg #[.int .u8 68, .int .i64 86400, .int .u8 72, .int .i64 3600, .int .u8 77, .int .i64 60, .int .u8 83, .int .i64 1]) (.int .i64 1)).run Tryz.prog w = .ok (.agg #[.int .u8 72, .int .i64 3600]) w := fun _ => by kernel_rfl
        obtain ⟨w4, hw4⟩ : ∃ w4 : World, wr.alloc (.cells #[.int .u8 72, .int .i64 3600] 63) = w4 := ⟨_, rfl⟩
        have A4 : Hid (Below w.heap.size w w4) := by rw [← hw4]; exact grow A.out _
        have B4 : Hid (Two w4 wr.heap.size (.int .u8 72) (.int .i64 3600)) := by rw [← hw4]; exact Two.new (here _)
        have q0 : 0 ≤ n / 3600 := by omega
        have q1 : n / 3600 ≤ 4398046511104 := by omega
        have r0 : 0 ≤ n % 3600 := by omega
        have r1 : n % 3600 ≤ 4398046511104 := by omega
        clear A
        by_cases z : n / 3600 = 0
        · have HN := Lib.hid (st.1 z)
          have zq : (n / 3600 == 0) = true := by simpa using z
          clear st z
          obtain ⟨b0, b1, bz⟩ := B4.out
          go_wp2
          clear hw4
          go_roundw
          case rel => exact ⟨_, n % 3600, l, t, by omega, r0, r1, by omega, HN.out, rfl, rfl, rfl, rfl, A4⟩
          case measure => simp [intOf]
        · have HN := st.2 z
          have zq : (n / 3600 == 0) = false := by simpa using z
          have dl := dec_len (n := n / 3600) (by omega) q1
          have HT := Lib.hid (fun w ht => kText (n / 3600) (by omega) q1 w ht)
          generalize Lib.decDigits (n / 3600).toNat = D at *
          have HP : Hid (∀ x : Kept w4, Tab x.wd) := fun x => tab_below hp.out (down A4.out x.ok)
          have c0 : ∀ x : Kept w4, x.wd.cell? ⟨wr.heap.size, 0, none⟩ = some (.int .u8 72) := fun x => (B4.out.keep x.ok).c0
          obtain ⟨b0, b1, bz⟩ := B4.out
          clear st z
          cases t
          · replace HN : Hid (dRun _ _ _ ((l ++ [84]) ++ (D ++ [72])) true = F) := HN
            go_wp2
            clear hw4
            refine wp_region_kept (by kernel_rfl) (by kernel_rfl) ?_
            repeat (go_big_quiet_step ((go_at_call 16; exact kept_call _ (HT.out _ (HP.out _)))))
            refine wpQuiet_nil ?_
            intro w3 hx
            obtain ⟨⟨x3, hb3⟩, hw⟩ := hx
            replace hw : w3 = x3 := hw
            subst x3
            have A5 := Lib.hid (down A4.out hb3)
            go_wp2
            go_roundw
            case rel => exact ⟨_, _, (l ++ [84]) ++ (D ++ [72]), true, by omega, r0, r1, by simp only [List.length_append, List.length_cons, List.length_nil] <;> omega, HN.out, rfl, by rw [← ba_append, ← ba_append, ← ba_append], rfl, rfl, A5⟩
            case measure => simp [intOf]
          · replace HN : Hid (dRun _ _ _ (l ++ (D ++ [72])) true = F) := HN
            go_wp2
            clear hw4
            refine wp_region_kept (by kernel_rfl) (by kernel_rfl) ?_
            repeat (go_big_quiet_step ((go_at_call 16; exact kept_call _ (HT.out _ (HP.out _)))))
            refine wpQuiet_nil ?_
            intro w3 hx
            obtain ⟨⟨x3, hb3⟩, hw⟩ := hx
            replace hw : w3 = x3 := hw
            subst x3
            have A5 := Lib.hid (down A4.out hb3)
            go_wp2
            go_roundw
            case rel => exact ⟨_, _, l ++ (D ++ [72]), true, by omega, r0, r1, by simp only [List.length_append, List.length_cons, List.length_nil] <;> omega, HN.out, rfl, by rw [← ba_append, ← ba_append], rfl, rfl, A5⟩
            case measure => simp [intOf]
      · have st := dRun_step hc HR.out
        clear HR hc i0 i1 i2 i3 t68 t72 t83
        have ix : ∀ w, (Instr.index 64 (.agg #[.int .u8 68, .int .i64 86400, .int .u8 72, .int .i64 3600, .int .u8 77, .int .i64 60, .int .u8 83, .int .i64 1]) (.int .i64 2)).run Tryz.prog w = .ok (.agg #[.int .u8 77, .int .i64 60]) w := fun _ => by kernel_rfl
        obtain ⟨w4, hw4⟩ : ∃ w4 : World, wr.alloc (.cells #[.int .u8 77, .int .i64 60] 63) = w4 := ⟨_, rfl⟩
        have A4 : Hid (Below w.heap.size w w4) := by rw [← hw4]; exact grow A.out _
        have B4 : Hid (Two w4 wr.heap.size (.int .u8 77) (.int .i64 60)) := by rw [← hw4]; exact Two.new (here _)
        have q0 : 0 ≤ n / 60 := by omega
        have q1 : n / 60 ≤ 4398046511104 := by omega
        have r0 : 0 ≤ n % 60 := by omega
        have r1 : n % 60 ≤ 4398046511104 := by omega
        clear A
        by_cases z : n / 60 = 0
        · have HN := Lib.hid (st.1 z)
          have zq : (n / 60 == 0) = true := by simpa using z
          clear st z
          obtain ⟨b0, b1, bz⟩ := B4.out
          go_wp2
          clear hw4
          go_roundw
          case rel => exact ⟨_, n % 60, l, t, by omega, r0, r1, by omega, HN.out, rfl, rfl, rfl, rfl, A4⟩
          case measure => simp [intOf]
        · have HN := st.2 z
          have zq : (n / 60 == 0) = false := by simpa using z
          have dl := dec_len (n := n / 60) (by omega) q1
          have HT := Lib.hid (fun w ht => kText (n / 60) (by omega) q1 w ht)
          generalize Lib.decDigits (n / 60).toNat = D at *
          have HP : Hid (∀ x : Kept w4, Tab x.wd) := fun x => tab_below hp.out (down A4.out x.ok)
          have c0 : ∀ x : Kept w4, x.wd.cell? ⟨wr.heap.size, 0, none⟩ = some (.int .u8 77) := fun x => (B4.out.keep x.ok).c0
          obtain ⟨b0, b1, bz⟩ := B4.out
          clear st z
          cases t
          · replace HN : Hid (dRun _ _ _ ((l ++ [84]) ++ (D ++ [77])) true = F) := HN
            go_wp2
            clear hw4
            refine wp_region_kept (by kernel_rfl) (by kernel_rfl) ?_
            repeat (go_big_quiet_step ((go_at_call 16; exact kept_call _ (HT.out _ (HP.out _)))))
            refine wpQuiet_nil ?_
            intro w3 hx
            obtain ⟨⟨x3, hb3⟩, hw⟩ := hx
            replace hw : w3 = x3 := hw
            subst x3
            have A5 := Lib.hid (down A4.out hb3)
            go_wp2
            go_roundw
            case rel => exact ⟨_, _, (l ++ [84]) ++ (D ++ [77]), true, by omega, r0, r1, by simp only [List.length_append, List.length_cons, List.length_nil] <;> omega, HN.out, rfl, by rw [← ba_append, ← ba_append, ← ba_append], rfl, rfl, A5⟩
            case measure => simp [intOf]
          · replace HN : Hid (dRun _ _ _ (l ++ (D ++ [77])) true = F) := HN
            go_wp2
            clear hw4
            refine wp_region_kept (by kernel_rfl) (by kernel_rfl) ?_
            repeat (go_big_quiet_step ((go_at_call 16; exact kept_call _ (HT.out _ (HP.out _)))))
            refine wpQuiet_nil ?_
            intro w3 hx
            obtain ⟨⟨x3, hb3⟩, hw⟩ := hx
            replace hw : w3 = x3 := hw
            subst x3
            have A5 := Lib.hid (down A4.out hb3)
            go_wp2
            go_roundw
            case rel => exact ⟨_, _, l ++ (D ++ [77]), true, by omega, r0, r1, by simp only [List.length_append, List.length_cons, List.length_nil] <;> omega, HN.out, rfl, by rw [← ba_append, ← ba_append], rfl, rfl, A5⟩
            case measure => simp [intOf]
      · have st := dRun_step hc HR.out
        rw [Int.ediv_one, Int.emod_one] at st
        clear HR hc i0 i1 i2 i3 t68 t72 t77
        have ix : ∀ w, (Instr.index 64 (.agg #[.int .u8 68, .int .i64 86400, .int .u8 72, .int .i64 3600, .int .u8 77, .int .i64 60, .int .u8 83, .int .i64 1]) (.int .i64 3)).run Tryz.prog w = .ok (.agg #[.int .u8 83, .int .i64 1]) w := fun _ => by kernel_rfl
        obtain ⟨w4, hw4⟩ : ∃ w4 : World, wr.alloc (.cells #[.int .u8 83, .int .i64 1] 63) = w4 := ⟨_, rfl⟩
        have A4 : Hid (Below w.heap.size w w4) := by rw [← hw4]; exact grow A.out _
        have B4 : Hid (Two w4 wr.heap.size (.int .u8 83) (.int .i64 1)) := by rw [← hw4]; exact Two.new (here _)
        clear A
        by_cases z : n = 0
        · have HN := Lib.hid (st.1 z)
          have zq : (n == 0) = true := by simpa using z
          clear st z
          obtain ⟨b0, b1, bz⟩ := B4.out
          go_wp2
          clear hw4
          go_roundw
          case rel => exact ⟨_, 0, l, t, by omega, by omega, by omega, by omega, HN.out, rfl, rfl, rfl, rfl, A4⟩
          case measure => simp [intOf]
        · have HN := st.2 z
          have zq : (n == 0) = false := by simpa using z
          have dl := dec_len (n := n) (by omega) n1
          have HT := Lib.hid (fun w ht => kText (n) (by omega) n1 w ht)
          generalize Lib.decDigits (n).toNat = D at *
          have HP : Hid (∀ x : Kept w4, Tab x.wd) := fun x => tab_below hp.out (down A4.out x.ok)
          have c0 : ∀ x : Kept w4, x.wd.cell? ⟨wr.heap.size, 0, none⟩ = some (.int .u8 83) := fun x => (B4.out.keep x.ok).c0
          obtain ⟨b0, b1, bz⟩ := B4.out
          clear st z
          cases t
          · replace HN : Hid (dRun _ _ _ ((l ++ [84]) ++ (D ++ [83])) true = F) := HN
            go_wp2
            clear hw4
            refine wp_region_kept (by kernel_rfl) (by kernel_rfl) ?_
            repeat (go_big_quiet_step ((go_at_call 16; exact kept_call _ (HT.out _ (HP.out _)))))
            refine wpQuiet_nil ?_
            intro w3 hx
            obtain ⟨⟨x3, hb3⟩, hw⟩ := hx
            replace hw : w3 = x3 := hw
            subst x3
            have A5 := Lib.hid (down A4.out hb3)
            go_wp2
            go_roundw
            case rel => exact ⟨_, _, (l ++ [84]) ++ (D ++ [83]), true, by omega, by omega, by omega, by simp only [List.length_append, List.length_cons, List.length_nil] <;> omega, HN.out, rfl, by rw [← ba_append, ← ba_append, ← ba_append], rfl, rfl, A5⟩
            case measure => simp [intOf]
          · replace HN : Hid (dRun _ _ _ (l ++ (D ++ [83])) true = F) := HN
            go_wp2
            clear hw4
            refine wp_region_kept (by kernel_rfl) (by kernel_rfl) ?_
            repeat (go_big_quiet_step ((go_at_call 16; exact kept_call _ (HT.out _ (HP.out _)))))
            refine wpQuiet_nil ?_
            intro w3 hx
            obtain ⟨⟨x3, hb3⟩, hw⟩ := hx
            replace hw : w3 = x3 := hw
            subst x3
            have A5 := Lib.hid (down A4.out hb3)
            go_wp2
            go_roundw
            case rel => exact ⟨_, _, l ++ (D ++ [83]), true, by omega, by omega, by omega, by simp only [List.length_append, List.length_cons, List.length_nil] <;> omega, HN.out, rfl, by rw [← ba_append, ← ba_append], rfl, rfl, A5⟩
            case measure => simp [intOf]
    · have HE : Hid (F = l) := by
        obtain rfl : k = 4 := by omega
        exact HR.out.symm
      have kz : decide ((k : Int) < 4) = false := decide_eq_false (by omega)
      clear HR i0 i1 i2 i3
      go_wp2
      go_ret
      exact ⟨by rw [HE.out]; rfl, A.out⟩
end Go.Proofs.YtehbegjocdahmaaGreatDoor
