/- The walk of HebrewNewYears: the Go text returns true, at every input. -/
import Derived.Test.YtpkkhkkanpcniaaHeAwake
import Derived.Test.YtpkkhkkanpcniaaLCivA
namespace Go.Proofs.Ytpkkhkkanpcniaa
open Go.RowKit
set_option linter.unusedVariables false

/-- The lengths of the months before a number, added up. -/
def hcum (b : Bool) (l : Int) : Nat → Int
  | 0 => 0
  | k + 1 => hcum b l k + hlenB b l (1 + (k : Int))
theorem hcum_end {b : Bool} {l : Int} (h : hsix b l) : hcum b l (hcn b) = l := by
  rcases h with ⟨rfl, h0, h1⟩ | ⟨rfl, h0, h1⟩
  · have : l = 383 ∨ l = 384 ∨ l = 385 := by omega
    rcases this with rfl | rfl | rfl <;> decide
  · have : l = 353 ∨ l = 354 ∨ l = 355 := by omega
    rcases this with rfl | rfl | rfl <;> decide
theorem hcum_bd (b : Bool) (l : Int) : ∀ k : Nat, 0 ≤ hcum b l k ∧ hcum b l k ≤ 30 * k := by
  intro k
  induction k with
  | zero => unfold hcum; omega
  | succ k ih => unfold hcum; have := hlenB_bd b l (1 + (k : Int)); omega
namespace HebrewNewYears
set_option maxRecDepth 100000 in
set_option maxHeartbeats 2000000 in
theorem bad (y : Int) (hy : I64 y) (t : decide (y < 1) = true ∨ decide (y < 1) = false ∧ decide (20000 < y) = true) (H1 : ∀ w, Tabs w → Calls Try.prog 16 #[.int .i64 y] w fun e w' => e = .returned (.tuple #[.int .i64 0, .int .i64 2]) ∧ Below w.heap.size w w') (w : World) (ht : Tabs w) :
    Calls Try.prog 10 #[.int .i64 y] w fun e w' => e = .returned (.bool true) ∧ Below w.heap.size w w' := by
  obtain ⟨hy0, hy1⟩ := hy
  have AW := Lib.hid (fun w ht => awake_all w ht)
  replace ht := Lib.hid ht
  replace H1 := Lib.hid H1
  rcases t with t | ⟨t, t2⟩
  all_goals
    go_enter Try.func10, Try.ntmps10
    go_wp2_with fail
    refine (AW.out _ (ht.out.below (here w))).mono ?_
    rintro e w1 ⟨rfl, hb⟩
    have A1 := Lib.hid (down (here w) hb)
    clear hb
    go_wp2_with fail
    refine (H1.out _ (ht.out.below A1.out)).mono ?_
    rintro e w2 ⟨rfl, hb⟩
    have A2 := Lib.hid (down A1.out hb)
    clear hb A1
    go_wp2
    go_ret
    exact ⟨rfl, by first | exact A2.out | exact grow A2.out _ | exact below_drewN A2.out _ | exact grow (grow A2.out _) _ | exact grow (grow (grow A2.out _) _) _⟩
set_option maxRecDepth 100000 in
set_option maxHeartbeats 8000000 in
theorem good (y S n T E X : Int) (N : Nat) (C : Nat → Int) (b : Bool) (y0 : 1 ≤ y) (y1 : y ≤ 20000) (N13 : N ≤ 13) (C0 : C 0 = 0) (CN : C N = n) (s0 : -3000000 ≤ S) (s1 : S ≤ 6000000) (t0 : -3000000 ≤ T) (t1 : T ≤ 6000000)
    (HC : ∀ k : Nat, k < N → 0 ≤ C k ∧ C k ≤ 500 ∧ 0 ≤ C (k + 1) - C k ∧ C (k + 1) - C k ≤ 30) (t : b = false ∧ (n = 353 ∨ n = 354 ∨ n = 355) ∨ b = true ∧ (n = 383 ∨ n = 384 ∨ n = 385)) (H1 : ∀ w, Tabs w → Calls Try.prog 16 #[.int .i64 y] w fun e w' => e = .returned (.tuple #[.int .i64 S, .int .i64 0]) ∧ Below w.heap.size w w')
    (H2 : ∀ w, Tabs w → Calls Try.prog 21 #[.int .i64 y] w fun e w' => e = .returned (.int .i64 n) ∧ Below w.heap.size w w')
    (H3 : ∀ w, Tabs w → Calls Try.prog 17 #[.int .i64 y] w fun e w' => e = .returned (.bool b) ∧ Below w.heap.size w w')
    (H4 : ∀ w, Tabs w → Calls Try.prog 19 #[.int .i64 y] w fun e w' => e = .returned (.int .i64 (N : Int)) ∧ Below w.heap.size w w')
    (H5 : ∀ k : Nat, k < N → ∀ w, Tabs w → Calls Try.prog 28 #[.int .i64 y, .int .i64 (1 + (k : Int))] w fun e w' => e = .returned (.int .i64 (C (k + 1) - C k)) ∧ Below w.heap.size w w')
    (H6 : ∀ w, Tabs w → Calls Try.prog 16 #[.int .i64 (y + 1)] w fun e w' => e = .returned (.tuple #[.int .i64 T, .int .i64 E]) ∧ Below w.heap.size w w') (t6 : E = 0 ∧ (T - S != n) = false ∨ E = 2)
    (HW : ∀ w, Calls Try.prog 37 #[.int .i64 S] w fun e w' => e = .returned (.int .i64 X) ∧ ∃ k, w' = w.drewN k)
    (t7 : decide (-719162 ≤ S) = false ∨ decide (-719162 ≤ S) = true ∧ decide (S < 2932897) = false ∨ decide (-719162 ≤ S) = true ∧ decide (S < 2932897) = true ∧ (X == 7) = false ∧ (X == 3) = false ∧ (X == 5) = false) (w : World) (ht : Tabs w) :
    Calls Try.prog 10 #[.int .i64 y] w fun e w' => e = .returned (.bool true) ∧ Below w.heap.size w w' := by
  replace t6 := Lib.hid t6
  replace t7 := Lib.hid t7
  have AW := Lib.hid (fun w ht => awake_all w ht)
  replace ht := Lib.hid ht
  rcases t with ⟨rfl, rfl | rfl | rfl⟩ | ⟨rfl, rfl | rfl | rfl⟩
  all_goals
    replace H1 := Lib.hid H1
    replace H2 := Lib.hid H2
    replace H3 := Lib.hid H3
    replace H4 := Lib.hid H4
    replace H5 := Lib.hid H5
    replace H6 := Lib.hid H6
    replace HC := Lib.hid HC
    replace C0 := Lib.hid C0
    replace CN := Lib.hid CN
    replace HW := Lib.hid HW
    go_enter Try.func10, Try.ntmps10
    go_wp2_with fail
    refine (AW.out _ (ht.out.below (here w))).mono ?_
    rintro e w1 ⟨rfl, hb⟩
    have A1 := Lib.hid (down (here w) hb)
    clear hb
    go_wp2_with fail
    refine (H1.out _ (ht.out.below A1.out)).mono ?_
    rintro e w2 ⟨rfl, hb⟩
    have A2 := Lib.hid (down A1.out hb)
    clear hb A1
    go_wp2_with fail
    refine (H2.out _ (ht.out.below A2.out)).mono ?_
    rintro e w3 ⟨rfl, hb⟩
    have A3 := Lib.hid (down A2.out hb)
    clear hb A2
    go_wp2_with fail
    refine (H3.out _ (ht.out.below A3.out)).mono ?_
    rintro e w4 ⟨rfl, hb⟩
    have A4 := Lib.hid (down A3.out hb)
    clear hb A3
    go_wp2
    go_loopw [6, 7] (fun a c wr => ∃ k : Nat, k ≤ N ∧ a = .int .i64 (C k) ∧ c = .int .i64 (1 + (k : Int)) ∧ Hid (Below w.heap.size w wr)) (fun _ c _ => (20 - intOf c).toNat)
    case atStart => exact ⟨0, Nat.zero_le _, by rw [C0.out], by go_num, A4⟩
    case round =>
      obtain ⟨k, hk, rfl, rfl, HA⟩ := hrel
      by_cases z : k < N
      · have kz : decide (1 + (k : Int) ≤ (N : Int)) = true := decide_eq_true (by omega)
        have kz2 : decide (1 + (k : Int) ≤ 13) = true := decide_eq_true (by omega)
        obtain ⟨c0, c1, d0, d1⟩ := HC.out k z
        have G := Lib.hid (fun w ht => H5.out k z w ht)
        clear H1 H2 H3 H5 H6 HC C0 CN HW t6 t7
        generalize hp : C (k + 1) = p at *
        generalize C k = u at *
        obtain ⟨dd, hdd⟩ : ∃ dd, p - u = dd := ⟨_, rfl⟩
        rw [hdd] at d0 d1 G
        have hp' := Lib.hid hp
        have hdd' := Lib.hid hdd
        clear hp hdd
        go_wp2_with fail
        refine (H4.out _ (ht.out.below HA.out)).mono ?_
        rintro e w13 ⟨rfl, hb⟩
        have A13 := Lib.hid (down HA.out hb)
        clear hb HA
        go_wp2_with fail
        refine (G.out _ (ht.out.below A13.out)).mono ?_
        rintro e w14 ⟨rfl, hb⟩
        have A14 := Lib.hid (down A13.out hb)
        clear hb A13
        go_wp2
        go_roundw
        case rel => exact ⟨k + 1, z, by rw [hp'.out]; have := hdd'.out; congr 1; omega, by go_num, A14⟩
        case measure => simp [intOf]; omega
      · obtain rfl : k = N := by omega
        have kz : decide (1 + (k : Int) ≤ (k : Int)) = false := decide_eq_false (by omega)
        rw [CN.out]
        clear H1 H2 H3 H5 HC C0 CN
        rcases t6.out with ⟨rfl, g⟩ | rfl <;> rcases t7.out with v | ⟨v, v2⟩ | ⟨v, v2, v3, v4, v5⟩
        all_goals
          clear t6 t7
          go_wp2_with fail
          refine (H4.out _ (ht.out.below HA.out)).mono ?_
          rintro e w13 ⟨rfl, hb⟩
          have A13 := Lib.hid (down HA.out hb)
          clear hb HA
          go_wp2_with fail
          refine (H6.out _ (ht.out.below A13.out)).mono ?_
          rintro e w14 ⟨rfl, hb⟩
          have A14 := Lib.hid (down A13.out hb)
          clear hb A13
          first
            | (go_wp2_with fail
               refine (HW.out _).mono ?_
               rintro e w15 ⟨rfl, dn, rfl⟩
               go_wp2
               go_ret
               exact ⟨rfl, below_drewN A14.out _⟩)
            | (go_wp2
               go_ret
               exact ⟨rfl, A14.out⟩)
theorem walk (y : Int) (hy : (Lit.int .i64 y).wf = true) (w : World) (ht : Tabs w) :
    Calls Try.prog 10 #[.int .i64 y] w fun e w' => e = .returned (.bool true) ∧ Below w.heap.size w w' := by
  replace hy := i64_wf hy
  have H1 := fun w ht => uhnew y hy w ht
  cases h : hyr y
  · rw [show hnwN y = 0 by unfold hnwN; rw [h]; rfl, show hyE y = 2 by unfold hyE; rw [h]; rfl] at H1
    refine bad y hy ?_ H1 w ht
    have q : ¬ (1 ≤ y ∧ y ≤ 20000) := fun q => by rw [hyr_iff.2 q] at h; exact absurd h (by simp)
    by_cases z : y < 1
    · exact .inl (decide_eq_true z)
    · exact .inr ⟨decide_eq_false z, decide_eq_true (by omega)⟩
  · obtain ⟨y0, y1⟩ := hyr_iff.1 h
    rw [show hnwN y = hN y by unfold hnwN; rw [h]; rfl, show hyE y = 0 by unfold hyE; rw [h]; rfl] at H1
    have H2 := fun w ht => uhyl y hy w ht
    rw [show hylN y = hyl y by unfold hylN; rw [if_pos h]] at H2
    have H3 := fun w ht => uhleap y hy w ht
    rw [h, Bool.true_and] at H3
    have H4 := fun w ht => uhmonths y hy w ht
    rw [hmn_cn h] at H4
    have H6 := fun w ht => uhnew (y + 1) ⟨by omega, by omega⟩ w ht
    have six := hsix_yr y
    have a := hN_bd (y := y) y0 (by omega)
    have wd := (hyear y).2.1
    have c13 : hcn (hlp y) ≤ 13 := by cases hlp y <;> decide
    have tb : -3000000 ≤ hnwN (y + 1) ∧ hnwN (y + 1) ≤ 6000000 := by
      unfold hnwN
      split
      · rename_i q
        have q' := hyr_iff.1 q
        have := hN_bd (y := y + 1) (by omega) (by omega)
        omega
      · omega
    refine good y (hN y) (hyl y) _ _ _ (hcn (hlp y)) (hcum (hlp y) (hyl y)) (hlp y) y0 y1 c13 rfl (hcum_end six) (by omega) (by omega) tb.1 tb.2 (fun k hk => ?_) ?_ H1 H2 H3 H4 (fun k hk w ht => ?_) H6 ?_ (fun w => cweekday (hN y) ⟨by omega, by omega⟩ w) ?_ w ht
    · have q := hcum_bd (hlp y) (hyl y) k
      have r := hlenB_bd (hlp y) (hyl y) (1 + (k : Int))
      have e : hcum (hlp y) (hyl y) (k + 1) = hcum (hlp y) (hyl y) k + hlenB (hlp y) (hyl y) (1 + (k : Int)) := rfl
      omega
    · rcases six with ⟨p, q, r⟩ | ⟨p, q, r⟩
      · exact .inr ⟨p, by omega⟩
      · exact .inl ⟨p, by omega⟩
    · have q := uhlen y (1 + (k : Int)) hy ⟨by omega, by omega⟩ w ht
      have e : hcum (hlp y) (hyl y) (k + 1) = hcum (hlp y) (hyl y) k + hlenB (hlp y) (hyl y) (1 + (k : Int)) := rfl
      rw [hlenM_at h (by omega) (by rw [hmn_cn h]; omega), show hlenB (hlp y) (hyl y) (1 + (k : Int)) = hcum (hlp y) (hyl y) (k + 1) - hcum (hlp y) (hyl y) k by omega] at q
      exact q
    · cases r : hyr (y + 1)
      · right; unfold hyE; rw [r]; rfl
      · left
        refine ⟨by unfold hyE; rw [r]; rfl, ?_⟩
        unfold hnwN hyl; rw [r]; simp
    · by_cases z0 : -719162 ≤ hN y
      · by_cases z1 : hN y < 2932897
        · right; right
          have e : wkd (hN y) = (hN y + 719162) % 7 + 1 := by unfold wkd; rw [if_neg (by omega)]
          rw [e]
          exact ⟨decide_eq_true z0, decide_eq_true z1, by simpa using wd.1, by simpa using wd.2.1, by simpa using wd.2.2⟩
        · exact .inr (.inl ⟨decide_eq_true z0, decide_eq_false z1⟩)
      · exact .inl (decide_eq_false z0)
end HebrewNewYears
end Go.Proofs.Ytpkkhkkanpcniaa
