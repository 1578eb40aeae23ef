/- Contracts of package islamic: kinds, leap years, lengths, years, months within a year. -/
import Derived.Test.YtobipbmigpkhmaaDoorIsOne
import Derived.Test.YtobipbmigpkhmaaDoorLIntA
import Derived.Test.YtobipbmigpkhmaaDoorLCivA
namespace Go.Proofs.YtobipbmigpkhmaaDoor
open Go.RowKit
set_option linter.unusedVariables false

theorem cmodn (a b : Int) (ha : I64 a) (b0 : 0 < b) (b1 : b ≤ 9223372036854775807) (w : World) :
    Calls Tryd.prog 36 #[.int .i64 a, .int .i64 b] w fun e w' => e = .returned (.int .i64 (a % b)) ∧ ∃ n, w' = w.drewN n := by
  have h := mod_all a b ha.1 ha.2 (by omega) (by omega) w
  rw [dR_pos b0] at h
  exact h
theorem cfloorn (a b : Int) (ha : I64 a) (b0 : 0 < b) (b1 : b ≤ 146097) (w : World) :
    Calls Tryd.prog 55 #[.int .i64 a, .int .i64 b] w fun e w' => e = .returned (.int .i64 (a / b)) ∧ ∃ n, w' = w.drewN n := by
  have h := floor_all a b ha.1 ha.2 (by omega) (by omega) w
  rw [dQ_pos b0] at h
  exact h
theorem xikd (k : Int) (hk : I64 k) (w : World) :
    Calls Tryd.prog 13 #[.int .i64 k] w fun e w' => e = .returned (.bool (ikd k)) ∧ w = w' := by
  obtain ⟨h0, h1⟩ := hk
  rw [ikd_eq]
  obtain ⟨a, ha⟩ : ∃ a, decide (1 ≤ k) = a := ⟨_, rfl⟩
  obtain ⟨b, hb⟩ : ∃ a, decide (k ≤ 4) = a := ⟨_, rfl⟩
  rw [ha, hb]
  cases a <;> cases b
  all_goals
    go_enter Tryd.func13, Tryd.ntmps13
    go_wp2
    go_ret
    exact ⟨rfl, rfl⟩
def iyB (y : Int) : Bool := decide (1 ≤ y) && decide (y ≤ 9600)
theorem iyB_iff {y : Int} : iyB y = true ↔ 1 ≤ y ∧ y ≤ 9600 := by unfold iyB; simp
theorem iyr_two {k y : Int} : iyr k y = (ikd k && iyB y) := by rw [iyr_eq, iyB, Bool.and_assoc]
theorem xiyear (y : Int) (hy : I64 y) (w : World) :
    Calls Tryd.prog 35 #[.int .i64 y] w fun e w' => e = .returned (.bool (iyB y)) ∧ w = w' := by
  obtain ⟨h0, h1⟩ := hy
  unfold iyB
  obtain ⟨a, ha⟩ : ∃ a, decide (1 ≤ y) = a := ⟨_, rfl⟩
  obtain ⟨b, hb⟩ : ∃ a, decide (y ≤ 9600) = a := ⟨_, rfl⟩
  rw [ha, hb]
  cases a <;> cases b
  all_goals
    go_enter Tryd.func35, Tryd.ntmps35
    go_wp2
    go_ret
    exact ⟨rfl, rfl⟩
theorem bit_all : ∀ p : Fin 31, ∀ k : Fin 4, (bits .and .u32 (maskK ((k : Nat) + 1 : Int) / 2 ^ (p : Nat)) 1 == 1) = ilpP ((k : Nat) + 1 : Int) (p : Nat) := by decide +kernel
theorem bit_at {k p : Int} (k0 : 1 ≤ k) (k1 : k ≤ 4) (p0 : 0 ≤ p) (p1 : p ≤ 30) : (bits .and .u32 (maskK k / 2 ^ p.toNat) 1 == 1) = ilpP k p := by
  have h := bit_all ⟨p.toNat, by omega⟩ ⟨(k - 1).toNat, by omega⟩
  simp only [show (((k - 1).toNat : Nat) : Int) + 1 = k by omega, show ((p.toNat : Nat) : Int) = p by omega] at h
  exact h
set_option maxHeartbeats 400000 in
theorem xileap (k y : Int) (hk : I64 k) (hy : I64 y) (w : World) (ht : Tabs w) :
    Calls Tryd.prog 15 #[.int .i64 k, .int .i64 y] w fun e w' => e = .returned (.bool (ileapB k y)) ∧ ∃ n, w' = w.drewN n := by
  have HK := fun w => xikd k hk w
  have HY := fun w => xiyear y hy w
  obtain ⟨h0, h1⟩ := hk
  obtain ⟨h2, h3⟩ := hy
  cases a : ikd k
  · have e : ileapB k y = false := by unfold ileapB; rw [iyr_two, a]; rfl
    rw [e]
    rw [a] at HK
    replace HK := Lib.hid HK
    clear a e HY
    go_enter Tryd.func15, Tryd.ntmps15
    go_wp2_with fail
    refine (HK.out _).mono ?_
    rintro e w1 ⟨rfl, rfl⟩
    go_wp2
    go_ret
    exact ⟨rfl, 0, rfl⟩
  · rw [a] at HK
    replace HK := Lib.hid HK
    cases b : iyB y
    · have e : ileapB k y = false := by unfold ileapB; rw [iyr_two, a, b]; rfl
      rw [e]
      rw [b] at HY
      replace HY := Lib.hid HY
      clear a e b
      go_enter Tryd.func15, Tryd.ntmps15
      go_wp2_with fail
      refine (HK.out _).mono ?_
      rintro e w1 ⟨rfl, rfl⟩
      go_wp2_with fail
      refine (HY.out _).mono ?_
      rintro e w1 ⟨rfl, rfl⟩
      go_wp2
      go_ret
      exact ⟨rfl, 0, rfl⟩
    · rw [b] at HY
      replace HY := Lib.hid HY
      obtain ⟨k0, k1⟩ := ikd_iff.1 a
      obtain ⟨y0, y1⟩ := iyB_iff.1 b
      have hb := bit_at (p := (y - 1) % 30 + 1) k0 k1 (by omega) (by omega)
      have e : ileapB k y = ilpP k ((y - 1) % 30 + 1) := by unfold ileapB; rw [iyr_two, a, b]; rfl
      rw [e, ← hb]
      have HM := fun w => cmodn (y - 1) 30 ⟨by omega, by omega⟩ (by omega) (by omega) w
      have q0 : 0 ≤ (y - 1) % 30 := by omega
      have q1 : (y - 1) % 30 ≤ 29 := by omega
      generalize (y - 1) % 30 = q at *
      replace HM := Lib.hid HM
      have hm : ∀ n, (w.drewN n).cell? ⟨0, k.toNat, none⟩ = some (.int .u32 (maskK k)) := fun n => mask_cell (ht.drewN n) k0 k1
      clear a b e hb
      generalize maskK k = M at *
      go_enter Tryd.func15, Tryd.ntmps15
      go_wp2_with fail
      refine (HK.out _).mono ?_
      rintro e w1 ⟨rfl, rfl⟩
      go_wp2_with fail
      refine (HY.out _).mono ?_
      rintro e w1 ⟨rfl, rfl⟩
      go_wp2_with fail
      refine (HM.out _).mono ?_
      rintro e w1 ⟨rfl, n, rfl⟩
      have hn := hm n
      clear hm
      go_wp2
      go_ret
      exact ⟨rfl, n, rfl⟩
set_option maxHeartbeats 400000 in
theorem xilen (k y m : Int) (hk : I64 k) (hy : I64 y) (hm : I64 m) (w : World) (ht : Tabs w) :
    Calls Tryd.prog 17 #[.int .i64 k, .int .i64 y, .int .i64 m] w fun e w' => e = .returned (.int .i64 (ilenM k y m)) ∧ ∃ n, w' = w.drewN n := by
  have HK := fun w => xikd k hk w
  have HY := fun w => xiyear y hy w
  have HL := fun w ht => xileap k y hk hy w ht
  obtain ⟨h0, h1⟩ := hk
  obtain ⟨h2, h3⟩ := hy
  obtain ⟨h4, h5⟩ := hm
  cases a : ikd k
  · have e : ilenM k y m = 0 := by apply ilenM_out; left; rw [iyr_two, a]; rfl
    rw [e]
    rw [a] at HK
    replace HK := Lib.hid HK
    clear a e HY HL
    go_enter Tryd.func17, Tryd.ntmps17
    go_wp2_with fail
    refine (HK.out _).mono ?_
    rintro e w1 ⟨rfl, rfl⟩
    go_wp2
    go_ret
    exact ⟨rfl, 0, rfl⟩
  · rw [a] at HK
    replace HK := Lib.hid HK
    by_cases bad : iyB y = false ∨ m < 1 ∨ 12 < m
    · have e : ilenM k y m = 0 := by
        apply ilenM_out
        rcases bad with b | b
        · left; rw [iyr_two, a, b]; rfl
        · right; exact b
      rw [e]
      have t : iyB y = false ∨ iyB y = true ∧ (decide (m < 1) = true ∨ decide (m < 1) = false ∧ decide (12 < m) = true) := by
        cases b : iyB y
        · exact .inl rfl
        · rw [b] at bad
          rcases bad with b | b | b
          · cases b
          · exact .inr ⟨rfl, .inl (decide_eq_true b)⟩
          · exact .inr ⟨rfl, .inr ⟨decide_eq_false (by omega), decide_eq_true b⟩⟩
      clear a e bad HL
      generalize iyB y = b at *
      rcases t with rfl | ⟨rfl, t | ⟨t, u⟩⟩
      all_goals
        replace HY := Lib.hid HY
        go_enter Tryd.func17, Tryd.ntmps17
        go_wp2_with fail
        refine (HK.out _).mono ?_
        rintro e w1 ⟨rfl, rfl⟩
        go_wp2_with fail
        refine (HY.out _).mono ?_
        rintro e w1 ⟨rfl, rfl⟩
        go_wp2
        go_ret
        exact ⟨rfl, 0, rfl⟩
    · have b : iyB y = true := by
        cases b : iyB y
        · exact absurd (Or.inl b) bad
        · rfl
      have m0 : 1 ≤ m := by omega
      have m1 : m ≤ 12 := by omega
      have t1 : decide (m < 1) = false := decide_eq_false (by omega)
      have t2 : decide (12 < m) = false := decide_eq_false (by omega)
      rw [ilenM_at (by rw [iyr_two, a, b]; rfl) m0 m1]
      rw [b] at HY
      replace HY := Lib.hid HY
      clear a b bad
      have md : m.tmod 2 = m % 2 := Int.tmod_eq_emod_of_nonneg (by omega)
      by_cases o : m % 2 = 1
      · rw [if_pos (Or.inl o)]
        have u : (m % 2 == 1) = true := by simpa using o
        clear o HL
        go_enter Tryd.func17, Tryd.ntmps17
        go_wp2_with fail
        refine (HK.out _).mono ?_
        rintro e w1 ⟨rfl, rfl⟩
        go_wp2_with fail
        refine (HY.out _).mono ?_
        rintro e w1 ⟨rfl, rfl⟩
        go_wp2
        go_ret
        exact ⟨rfl, 0, rfl⟩
      · have u : (m % 2 == 1) = false := by simpa using o
        by_cases z : m = 12
        · have v : (m == 12) = true := by simpa using z
          have e : (if m % 2 = 1 ∨ m = 12 ∧ ileapB k y = true then 30 else 29 : Int) = if ileapB k y = true then 30 else 29 := by
            cases ileapB k y
            · rw [if_neg (by rintro (c | c); exact o c; exact absurd c.2 (by simp)), if_neg (by simp)]
            · rw [if_pos (Or.inr ⟨z, rfl⟩), if_pos rfl]
          rw [e]
          clear e
          generalize ileapB k y = l at *
          replace HL := Lib.hid HL
          clear o z
          cases l
          all_goals
            go_enter Tryd.func17, Tryd.ntmps17
            go_wp2_with fail
            refine (HK.out _).mono ?_
            rintro e w1 ⟨rfl, rfl⟩
            go_wp2_with fail
            refine (HY.out _).mono ?_
            rintro e w1 ⟨rfl, rfl⟩
            go_wp2_with fail
            refine (HL.out _ ht).mono ?_
            rintro e w1 ⟨rfl, n, rfl⟩
            go_wp2
            go_ret
            exact ⟨rfl, n, rfl⟩
        · have v : (m == 12) = false := by simpa using z
          rw [if_neg (by rintro (c | c); exact o c; exact z c.1)]
          clear o z HL
          go_enter Tryd.func17, Tryd.ntmps17
          go_wp2_with fail
          refine (HK.out _).mono ?_
          rintro e w1 ⟨rfl, rfl⟩
          go_wp2_with fail
          refine (HY.out _).mono ?_
          rintro e w1 ⟨rfl, rfl⟩
          go_wp2
          go_ret
          exact ⟨rfl, 0, rfl⟩
set_option maxHeartbeats 400000 in
theorem xiyl (k y : Int) (hk : I64 k) (hy : I64 y) (w : World) (ht : Tabs w) :
    Calls Tryd.prog 19 #[.int .i64 k, .int .i64 y] w fun e w' => e = .returned (.int .i64 (iylN k y)) ∧ ∃ n, w' = w.drewN n := by
  have HK := fun w => xikd k hk w
  have HY := fun w => xiyear y hy w
  have HL := fun w ht => xileap k y hk hy w ht
  cases a : ikd k
  · have e : iylN k y = 0 := by unfold iylN; rw [iyr_two, a]; rfl
    rw [e]
    rw [a] at HK
    replace HK := Lib.hid HK
    clear a e HY HL
    go_enter Tryd.func19, Tryd.ntmps19
    go_wp2_with fail
    refine (HK.out _).mono ?_
    rintro e w1 ⟨rfl, rfl⟩
    go_wp2
    go_ret
    exact ⟨rfl, 0, rfl⟩
  · rw [a] at HK
    replace HK := Lib.hid HK
    cases b : iyB y
    · have e : iylN k y = 0 := by unfold iylN; rw [iyr_two, a, b]; rfl
      rw [e]
      rw [b] at HY
      replace HY := Lib.hid HY
      clear a e b HL
      go_enter Tryd.func19, Tryd.ntmps19
      go_wp2_with fail
      refine (HK.out _).mono ?_
      rintro e w1 ⟨rfl, rfl⟩
      go_wp2_with fail
      refine (HY.out _).mono ?_
      rintro e w1 ⟨rfl, rfl⟩
      go_wp2
      go_ret
      exact ⟨rfl, 0, rfl⟩
    · rw [b] at HY
      replace HY := Lib.hid HY
      have r : iyr k y = true := by rw [iyr_two, a, b]; rfl
      rw [iylN_at r]
      have t := ilp_eq r
      generalize ilp k y = z at *
      generalize ileapB k y = l at *
      replace HL := Lib.hid HL
      clear a b r
      rcases t with ⟨rfl, rfl⟩ | ⟨rfl, rfl⟩
      all_goals
        go_enter Tryd.func19, Tryd.ntmps19
        go_wp2_with fail
        refine (HK.out _).mono ?_
        rintro e w1 ⟨rfl, rfl⟩
        go_wp2_with fail
        refine (HY.out _).mono ?_
        rintro e w1 ⟨rfl, rfl⟩
        go_wp2_with fail
        refine (HL.out _ ht).mono ?_
        rintro e w1 ⟨rfl, n, rfl⟩
        go_wp2
        go_ret
        exact ⟨rfl, n, rfl⟩
end Go.Proofs.YtobipbmigpkhmaaDoor
