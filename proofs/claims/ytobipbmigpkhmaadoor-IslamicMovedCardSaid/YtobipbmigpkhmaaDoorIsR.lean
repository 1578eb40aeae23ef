/- Contracts of civiltimeref06: kinds, years, leap years, lengths, the first day of a year. -/
import Derived.Test.YtobipbmigpkhmaaDoorIsMath
import Derived.Test.YtobipbmigpkhmaaDoorLSl
import Derived.Deep.RegionWith
import Derived.Laws.BitsLemmas
namespace Go.Proofs.YtobipbmigpkhmaaDoor
open Go.RowKit
set_option linter.unusedVariables false

theorem ikd_eq {k : Int} : ikd k = (decide (1 ≤ k) && decide (k ≤ 4)) := by unfold ikd; simp
theorem iyr_eq {k y : Int} : iyr k y = (ikd k && decide (1 ≤ y) && decide (y ≤ 9600)) := by
  rw [Bool.eq_iff_iff, iyr_iff]; simp only [Bool.and_eq_true, ikd_iff, decide_eq_true_eq]; omega
theorem Lies.new (w : World) (xs : List Value) (t : TypeId) : Lies (w.alloc (.cells xs.toArray t)) w.heap.size 0 xs := by
  refine ⟨by simp, fun j u hj => ?_⟩
  rw [World.cell?_alloc_new]
  simpa using hj
theorem rikd (k : Int) (hk : I64 k) (w : World) :
    Calls Tryd.prog 14 #[.int .i64 k] w fun e w' => e = .returned (.bool (ikd k)) ∧ w = w' := by
  obtain ⟨h0, h1⟩ := hk
  rw [ikd_eq]
  obtain ⟨a, ha⟩ : ∃ a, decide (1 ≤ k) = a := ⟨_, rfl⟩
  obtain ⟨b, hb⟩ : ∃ a, decide (k ≤ 4) = a := ⟨_, rfl⟩
  rw [ha, hb]
  cases a <;> cases b
  all_goals
    go_enter Tryd.func14, Tryd.ntmps14
    go_wp2
    go_ret
    exact ⟨rfl, rfl⟩
theorem riyr (k y : Int) (hk : I64 k) (hy : I64 y) (w : World) :
    Calls Tryd.prog 37 #[.int .i64 k, .int .i64 y] w fun e w' => e = .returned (.bool (iyr k y)) ∧ w = w' := by
  have HK := Lib.hid (fun w => rikd k hk w)
  obtain ⟨h0, h1⟩ := hy
  rw [iyr_eq]
  generalize ikd k = c at *
  obtain ⟨a, ha⟩ : ∃ a, decide (1 ≤ y) = a := ⟨_, rfl⟩
  obtain ⟨b, hb⟩ : ∃ a, decide (y ≤ 9600) = a := ⟨_, rfl⟩
  rw [ha, hb]
  cases c <;> cases a <;> cases b
  all_goals
    go_enter Tryd.func37, Tryd.ntmps37
    go_wp2_with fail
    refine (HK.out _).mono ?_
    rintro e w' ⟨rfl, rfl⟩
    go_wp2
    go_ret
    exact ⟨rfl, rfl⟩
theorem rileaps (k : Int) (k0 : 1 ≤ k) (k1 : k ≤ 4) (w : World) :
    Calls Tryd.prog 38 #[.int .i64 k] w fun e w' => (∃ b c, e = .returned (.slice (some ⟨b, 0, none⟩) 11 c) ∧ Lies w' b 0 (ints (ileapL k))) ∧ Below w.heap.size w w' := by
  rcases kind_cases k0 k1 with rfl | rfl | rfl | rfl
  all_goals
    go_enter Tryd.func38, Tryd.ntmps38
    go_wp2
    go_ret
    exact ⟨⟨_, _, rfl, Lies.new _ _ _⟩, grow (here w) _⟩
theorem ileapL_len {k : Int} (k0 : 1 ≤ k) (k1 : k ≤ 4) : (ileapL k).length = 11 := by
  rcases kind_cases k0 k1 with rfl | rfl | rfl | rfl <;> decide
theorem ileapL_bd {k : Int} (k0 : 1 ≤ k) (k1 : k ≤ 4) (j : Nat) (hj : j < 11) : 1 ≤ (ileapL k).getD j 0 ∧ (ileapL k).getD j 0 ≤ 30 := by
  have h : ∀ c : Fin 4, ∀ j : Fin 11, 1 ≤ (ileapL ((c : Nat) + 1 : Int)).getD j 0 ∧ (ileapL ((c : Nat) + 1 : Int)).getD j 0 ≤ 30 := by decide +kernel
  have q := h ⟨(k - 1).toNat, by omega⟩ ⟨j, hj⟩
  simp only [show (((k - 1).toNat : Nat) : Int) + 1 = k by omega] at q
  exact q
theorem rileap_no (k y : Int) (hk : I64 k) (hy : I64 y) (h : iyr k y = false) (w : World) :
    Calls Tryd.prog 16 #[.int .i64 k, .int .i64 y] w fun e w' => e = .returned (.bool false) ∧ Below w.heap.size w w' := by
  have HY := fun w => riyr k y hk hy w
  rw [h] at HY
  replace HY := Lib.hid HY
  go_enter Tryd.func16, Tryd.ntmps16
  go_wp2_with fail
  refine (HY.out _).mono ?_
  rintro e w' ⟨rfl, rfl⟩
  go_wp2
  go_ret
  exact ⟨rfl, here w⟩
set_option maxHeartbeats 400000 in
theorem rileap_yes (k y : Int) (h : iyr k y = true) (w : World) :
    Calls Tryd.prog 16 #[.int .i64 k, .int .i64 y] w fun e w' => e = .returned (.bool (ilpP k ((y - 1) % 30 + 1))) ∧ Below w.heap.size w w' := by
  obtain ⟨k0, k1, y0, y1⟩ := iyr_iff.1 h
  have HY := fun w => riyr k y ⟨by omega, by omega⟩ ⟨by omega, by omega⟩ w
  rw [h] at HY
  replace HY := Lib.hid HY
  have HL := Lib.hid (fun w => rileaps k k0 k1 w)
  have len := ileapL_len k0 k1
  have bd := Lib.hid (fun j hj => ileapL_bd k0 k1 j hj)
  have pb : 0 ≤ (y - 1) % 30 ∧ (y - 1) % 30 ≤ 29 := by omega
  obtain ⟨p0, p1⟩ := pb
  obtain ⟨p, hp⟩ : ∃ p, (y - 1) % 30 = p := ⟨_, rfl⟩
  have hz : ilpP k ((y - 1) % 30 + 1) = (ileapL k).contains (p + 1) := by rw [hp]; rfl
  rw [hp] at p0 p1
  rw [hz]
  clear h hz
  generalize ileapL k = zs at *
  obtain ⟨R, hR⟩ : ∃ R, zs.contains (p + 1) = R := ⟨_, rfl⟩
  rw [hR]
  replace hR := Lib.hid hR
  have L : Hid (zs.length = 11) := len
  clear len
  go_enter Tryd.func16, Tryd.ntmps16
  go_wp2_with fail
  refine (HY.out _).mono ?_
  rintro e w' ⟨rfl, rfl⟩
  go_wp2_with fail
  refine (HL.out _).mono ?_
  rintro e w1 ⟨⟨b, c, rfl, LI⟩, hb⟩
  have C1 := Lib.hid (fun j (hj : j < 11) => ints_at LI j (by have := L.out; omega))
  have A1 := Lib.hid hb
  clear LI hb HY HL
  go_wp2
  go_loop [6] (fun a => ∃ i : Nat, i ≤ 11 ∧ a = .int .i64 i ∧ Hid (∀ j, j < i → ¬ zs.getD j 0 = p + 1)) (fun a => 11 - (intOf a).toNat)
  case atStart => exact ⟨0, by omega, rfl, fun j hj => absurd hj (Nat.not_lt_zero _)⟩
  case round =>
    obtain ⟨i, hi, rfl, HE⟩ := hrel
    by_cases z : i < 11
    · have kz : decide ((i : Int) < 11) = true := decide_eq_true (by omega)
      have d1 := C1.out i z
      rw [Nat.zero_add] at d1
      obtain ⟨b0, b1⟩ := bd.out i z
      by_cases e : zs.getD i 0 = p + 1
      · have hm : Hid (R = true) := by
          show R = true
          rw [← hR.out, List.contains_iff_mem]
          have q : i < zs.length := by have := L.out; omega
          rw [← e, List.getD_eq_getElem?_getD, List.getElem?_eq_getElem q]; exact List.getElem_mem q
        rw [e] at d1
        clear e HE b0 b1
        go_wp2
        go_ret
        exact ⟨by rw [hm.out]; rfl, A1.out⟩
      · have ke : (p + 1 == zs.getD i 0) = false := by simp; exact fun q => e q.symm
        have HE' : Hid (∀ j, j < i + 1 → ¬ zs.getD j 0 = p + 1) := fun j hj => by
          rcases Nat.lt_or_ge j i with c | c
          · exact HE.out j c
          · obtain rfl : j = i := by omega
            exact e
        clear e HE
        generalize zs.getD i 0 = x at *
        go_wp2
        go_round
        case rel => exact ⟨i + 1, by omega, by go_num, HE'⟩
        case measure => simp [intOf]; omega
    · obtain rfl : i = 11 := by omega
      have hm : Hid (R = false) := by
        show _ = false
        rw [← hR.out, ← Bool.not_eq_true, List.contains_iff_mem]
        intro q
        obtain ⟨j, hj, e⟩ := List.getElem_of_mem q
        refine HE.out j (by have := L.out; omega) ?_
        rw [List.getD_eq_getElem?_getD, List.getElem?_eq_getElem hj]; exact e
      clear C1 HE L z bd
      go_wp2
      go_ret
      exact ⟨by rw [hm.out]; rfl, A1.out⟩
theorem rileap (k y : Int) (hk : I64 k) (hy : I64 y) (w : World) :
    Calls Tryd.prog 16 #[.int .i64 k, .int .i64 y] w fun e w' => e = .returned (.bool (ileapB k y)) ∧ Below w.heap.size w w' := by
  unfold ileapB
  cases h : iyr k y
  · exact rileap_no k y hk hy h w
  · exact rileap_yes k y h w
theorem rilen_no (k y m : Int) (hk : I64 k) (hy : I64 y) (hm : I64 m) (h : iyr k y = false ∨ m < 1 ∨ 12 < m) (w : World) :
    Calls Tryd.prog 18 #[.int .i64 k, .int .i64 y, .int .i64 m] w fun e w' => e = .returned (.int .i64 0) ∧ Below w.heap.size w w' := by
  have HY := Lib.hid (fun w => riyr k y hk hy w)
  have t : iyr k y = false ∨ iyr k y = true ∧ decide (m < 1) = true ∨ iyr k y = true ∧ decide (m < 1) = false ∧ decide (12 < m) = true := by
    cases q : iyr k y
    · exact .inl rfl
    · rw [q] at h
      by_cases z : m < 1
      · exact .inr (.inl ⟨rfl, decide_eq_true z⟩)
      · exact .inr (.inr ⟨rfl, decide_eq_false z, decide_eq_true (by simp at h; omega)⟩)
  obtain ⟨h0, h1⟩ := hm
  clear h
  generalize iyr k y = c at *
  rcases t with rfl | ⟨rfl, q⟩ | ⟨rfl, q, q2⟩
  all_goals
    go_enter Tryd.func18, Tryd.ntmps18
    go_wp2_with fail
    refine (HY.out _).mono ?_
    rintro e w' ⟨rfl, rfl⟩
    go_wp2
    go_ret
    exact ⟨rfl, here w⟩
set_option maxHeartbeats 400000 in
theorem rilen_yes (k y m : Int) (h : iyr k y = true) (m0 : 1 ≤ m) (m1 : m ≤ 12) (w : World) :
    Calls Tryd.prog 18 #[.int .i64 k, .int .i64 y, .int .i64 m] w fun e w' => e = .returned (.int .i64 (ilenM k y m)) ∧ Below w.heap.size w w' := by
  obtain ⟨k0, k1, y0, y1⟩ := iyr_iff.1 h
  have HY := fun w => riyr k y ⟨by omega, by omega⟩ ⟨by omega, by omega⟩ w
  rw [h] at HY
  replace HY := Lib.hid HY
  have HL := Lib.hid (fun w => rileap k y ⟨by omega, by omega⟩ ⟨by omega, by omega⟩ w)
  have e := ilenM_at h m0 m1
  have q0 : decide (m < 1) = false := decide_eq_false (by omega)
  have q1 : decide (12 < m) = false := decide_eq_false (by omega)
  clear h
  by_cases o : m % 2 = 1
  · rw [if_pos (Or.inl o)] at e
    rw [e]
    have ko : (m % 2 == 1) = true := by simpa using o
    clear e o
    go_enter Tryd.func18, Tryd.ntmps18
    go_wp2_with fail
    refine (HY.out _).mono ?_
    rintro e w' ⟨rfl, rfl⟩
    go_wp2
    go_ret
    exact ⟨rfl, here w⟩
  · have ko : (m % 2 == 1) = false := by simpa using o
    by_cases m2 : m = 12
    · generalize ileapB k y = l at *
      subst m2
      cases l
      · rw [if_neg (by simp)] at e
        rw [e]
        clear e o ko
        go_enter Tryd.func18, Tryd.ntmps18
        go_wp2_with fail
        refine (HY.out _).mono ?_
        rintro e w' ⟨rfl, rfl⟩
        go_wp2_with fail
        refine (HL.out _).mono ?_
        rintro e w1 ⟨rfl, hb⟩
        go_wp2
        go_ret
        exact ⟨rfl, hb⟩
      · rw [if_pos (Or.inr ⟨rfl, rfl⟩)] at e
        rw [e]
        clear e o ko
        go_enter Tryd.func18, Tryd.ntmps18
        go_wp2_with fail
        refine (HY.out _).mono ?_
        rintro e w' ⟨rfl, rfl⟩
        go_wp2_with fail
        refine (HL.out _).mono ?_
        rintro e w1 ⟨rfl, hb⟩
        go_wp2
        go_ret
        exact ⟨rfl, hb⟩
    · rw [if_neg (by rintro (c | c); exact o c; exact m2 c.1)] at e
      rw [e]
      have k2 : (m == 12) = false := by simpa using m2
      clear e o m2
      go_enter Tryd.func18, Tryd.ntmps18
      go_wp2_with fail
      refine (HY.out _).mono ?_
      rintro e w' ⟨rfl, rfl⟩
      go_wp2
      go_ret
      exact ⟨rfl, here w⟩
theorem rilen (k y m : Int) (hk : I64 k) (hy : I64 y) (hm : I64 m) (w : World) :
    Calls Tryd.prog 18 #[.int .i64 k, .int .i64 y, .int .i64 m] w fun e w' => e = .returned (.int .i64 (ilenM k y m)) ∧ Below w.heap.size w w' := by
  by_cases h : iyr k y = false ∨ m < 1 ∨ 12 < m
  · rw [ilenM_out h]; exact rilen_no k y m hk hy hm h w
  · refine rilen_yes k y m ?_ (by omega) (by omega) w
    cases q : iyr k y
    · exact absurd (Or.inl q) h
    · rfl
/-- The length of a year. -/
def iylN (k y : Int) : Int := if iyr k y then 354 + ilp k y else 0
def icumA (k y m : Int) : Int := if iyr k y then icumL k y m else 0
theorem iylN_bd (k y : Int) : 0 ≤ iylN k y ∧ iylN k y ≤ 355 := by
  have := ilp_01 k y
  unfold iylN; split <;> omega
theorem iylN_at {k y : Int} (h : iyr k y = true) : iylN k y = 354 + ilp k y := by unfold iylN; rw [if_pos h]
theorem icumA_succ {k y m : Int} (m0 : 1 ≤ m) (m1 : m ≤ 12) : icumA k y (m + 1) = icumA k y m + ilenM k y m := by
  unfold icumA
  cases h : iyr k y
  · rw [ilenM_out (Or.inl h)]; rfl
  · exact icumL_succ h m0 m1
theorem icumA_bd {k y m : Int} (m0 : 1 ≤ m) (m1 : m ≤ 13) : 0 ≤ icumA k y m ∧ icumA k y m ≤ 355 := by
  unfold icumA
  cases h : iyr k y
  · exact ⟨by simp, by simp⟩
  · exact icumL_bd h m0 m1
theorem icumA_one (k y : Int) : icumA k y 1 = 0 := by unfold icumA; rw [icumL_one]; split <;> rfl
theorem icumA_end (k y : Int) : icumA k y 13 = iylN k y := rfl
set_option maxHeartbeats 400000 in
theorem riyl (k y : Int) (hk : I64 k) (hy : I64 y) (w : World) :
    Calls Tryd.prog 20 #[.int .i64 k, .int .i64 y] w fun e w' => e = .returned (.int .i64 (iylN k y)) ∧ Below w.heap.size w w' := by
  have HL := Lib.hid (fun m (m0 : 1 ≤ m) (m1 : m ≤ 12) w => rilen k y m hk hy ⟨by omega, by omega⟩ w)
  have HJ : Hid (∀ m : Int, 1 ≤ m → m ≤ 12 → icumA k y (m + 1) = icumA k y m + ilenM k y m ∧ 0 ≤ icumA k y (m + 1) ∧ icumA k y (m + 1) ≤ 355 ∧ 0 ≤ ilenM k y m ∧ ilenM k y m ≤ 30) := fun m m0 m1 => by
    have a := icumA_succ (k := k) (y := y) m0 m1
    have b := icumA_bd (k := k) (y := y) (show 1 ≤ m + 1 by omega) (show m + 1 ≤ 13 by omega)
    have l := ilenM_bd k y m
    omega
  have HE : Hid (iylN k y = icumA k y 13) := rfl
  go_enter Tryd.func20, Tryd.ntmps20
  go_wp2
  go_loopw [5, 6] (fun a b wr => ∃ (m s : Int), 1 ≤ m ∧ m ≤ 13 ∧ 0 ≤ s ∧ s ≤ 355 ∧ Hid (s = icumA k y m) ∧ a = .int .i64 s ∧ b = .int .i64 m ∧ Below w.heap.size w wr) (fun _ b _ => (13 - intOf b).toNat)
  case atStart => exact ⟨1, 0, by omega, by omega, by omega, by omega, (icumA_one k y).symm, rfl, rfl, here w⟩
  case round =>
    obtain ⟨m, s, m0, m1, s0, s1, HC, rfl, rfl, hb0⟩ := hrel
    replace hb0 := Lib.hid hb0
    by_cases z : m ≤ 12
    · have kz : decide (m ≤ 12) = true := decide_eq_true z
      have q := HJ.out m m0 z
      have HK := Lib.hid (fun w => HL.out m m0 z w)
      have HC' : Hid (s + ilenM k y m = icumA k y (m + 1)) := by show s + ilenM k y m = _; rw [q.1, ← HC.out]
      have sb : 0 ≤ s + ilenM k y m ∧ s + ilenM k y m ≤ 355 := by rw [HC'.out]; omega
      have lb : 0 ≤ ilenM k y m ∧ ilenM k y m ≤ 30 := by omega
      clear q HC HL HJ HE
      generalize ilenM k y m = l at *
      obtain ⟨sb0, sb1⟩ := sb
      obtain ⟨lb0, lb1⟩ := lb
      go_wp2_with fail
      refine (HK.out _).mono ?_
      rintro e w2 ⟨rfl, hb⟩
      go_wp2
      go_roundw
      case rel => exact ⟨m + 1, s + l, by omega, by omega, by omega, by omega, HC', rfl, rfl, down hb0.out hb⟩
      case measure => simp [intOf]; omega
    · obtain rfl : m = 13 := by omega
      have kz : decide ((13 : Int) ≤ 12) = false := decide_eq_false (by omega)
      have e : Hid (s = iylN k y) := by show s = _; rw [HE.out, ← HC.out]
      clear HC HL HJ HE z
      go_wp2
      go_ret
      exact ⟨by rw [← e.out]; rfl, hb0.out⟩
theorem rinew_kind (k y : Int) (hk : I64 k) (hy : I64 y) (h : ikd k = false) (w : World) :
    Calls Tryd.prog 22 #[.int .i64 k, .int .i64 y] w fun e w' => e = .returned (.tuple #[.int .i64 0, .int .i64 1]) ∧ Below w.heap.size w w' := by
  have HK := fun w => rikd k hk w
  rw [h] at HK
  replace HK := Lib.hid HK
  go_enter Tryd.func22, Tryd.ntmps22
  go_wp2_with fail
  refine (HK.out _).mono ?_
  rintro e w' ⟨rfl, rfl⟩
  go_wp2
  go_ret2
  exact ⟨rfl, here w⟩
theorem rinew_range (k y : Int) (hk : I64 k) (hy : I64 y) (h : ikd k = true) (h2 : y < 1 ∨ 9601 < y) (w : World) :
    Calls Tryd.prog 22 #[.int .i64 k, .int .i64 y] w fun e w' => e = .returned (.tuple #[.int .i64 0, .int .i64 2]) ∧ Below w.heap.size w w' := by
  have HK := fun w => rikd k hk w
  rw [h] at HK
  replace HK := Lib.hid HK
  have t : decide (y < 1) = true ∨ decide (y < 1) = false ∧ decide (9601 < y) = true := by
    by_cases z : y < 1
    · exact .inl (decide_eq_true z)
    · exact .inr ⟨decide_eq_false z, decide_eq_true (by omega)⟩
  obtain ⟨h0, h1⟩ := hy
  clear h2
  rcases t with q | ⟨q, q2⟩
  all_goals
    go_enter Tryd.func22, Tryd.ntmps22
    go_wp2_with fail
    refine (HK.out _).mono ?_
    rintro e w' ⟨rfl, rfl⟩
    go_wp2
    go_ret2
    exact ⟨rfl, here w⟩
theorem icycle {y : Int} (y0 : 1 ≤ y) : 1 ≤ 30 * ((y - 1) / 30) + 1 ∧ 30 * ((y - 1) / 30) + 1 ≤ y ∧ y ≤ 30 * ((y - 1) / 30) + 30 ∧ (30 * ((y - 1) / 30) + 1 - 1) % 30 = 0 ∧ (30 * ((y - 1) / 30) + 1 - 1) / 30 = (y - 1) / 30 := by omega
set_option maxHeartbeats 400000 in
theorem rinew_yes (k y : Int) (h : ikd k = true) (y0 : 1 ≤ y) (y1 : y ≤ 9601) (w : World) :
    Calls Tryd.prog 22 #[.int .i64 k, .int .i64 y] w fun e w' => e = .returned (.tuple #[.int .i64 (ifirst k y), .int .i64 0]) ∧ Below w.heap.size w w' := by
  obtain ⟨k0, k1⟩ := ikd_iff.1 h
  have HK := fun w => rikd k ⟨by omega, by omega⟩ w
  rw [h] at HK
  replace HK := Lib.hid HK
  have q0 : decide (y < 1) = false := decide_eq_false (by omega)
  have q1 : decide (9601 < y) = false := decide_eq_false (by omega)
  obtain ⟨c0, c1, c2, c3, c4⟩ := icycle y0
  have st := ifirst_cycle k0 k1 c3
  rw [c4] at st
  have HL := Lib.hid (fun x (x0 : 1 ≤ x) (x1 : x ≤ 9600) w => riyl k x ⟨by omega, by omega⟩ ⟨by omega, by omega⟩ w)
  have HJ : Hid (∀ x : Int, 1 ≤ x → x ≤ 9600 → ifirst k (x + 1) = ifirst k x + iylN k x ∧ -492148 ≤ ifirst k (x + 1) ∧ ifirst k (x + 1) ≤ 2909772 ∧ 0 ≤ iylN k x ∧ iylN k x ≤ 355) := fun x x0 x1 => by
    have a := ifirst_succ k0 k1 x0
    have b := ifirst_bd k0 k1 (show 1 ≤ x + 1 by omega) (show x + 1 ≤ 9601 by omega)
    have c := iylN_bd k x
    rw [iylN_at (iyr_iff.2 (by omega))] at c ⊢
    omega
  have sb := ifirst_bd k0 k1 (show 1 ≤ 30 * ((y - 1) / 30) + 1 by omega) (show 30 * ((y - 1) / 30) + 1 ≤ 9601 by omega)
  have cb : 0 ≤ (y - 1) / 30 ∧ (y - 1) / 30 ≤ 320 := by omega
  obtain ⟨cy, hcy⟩ : ∃ c, (y - 1) / 30 = c := ⟨_, rfl⟩
  rw [hcy] at c0 c1 c2 st sb cb
  obtain ⟨cb0, cb1⟩ := cb
  obtain ⟨sb0, sb1⟩ := sb
  have st' : Hid (-492148 + cy * 10631 = ifirst k (30 * cy + 1)) := st.symm
  clear st c3 c4 h
  go_enter Tryd.func22, Tryd.ntmps22
  go_wp2_with fail
  refine (HK.out _).mono ?_
  rintro e w' ⟨rfl, rfl⟩
  go_wp2
  simp only [hcy]
  clear hcy
  go_loopw [7, 8] (fun a b wr => ∃ (x s : Int), 30 * cy + 1 ≤ x ∧ x ≤ y ∧ -492148 ≤ s ∧ s ≤ 2909772 ∧ Hid (s = ifirst k x) ∧ a = .int .i64 s ∧ b = .int .i64 x ∧ Below w.heap.size w wr) (fun _ b _ => (y - intOf b).toNat)
  case atStart => exact ⟨30 * cy + 1, -492148 + cy * 10631, by omega, c1, by rw [st'.out]; exact sb0, by rw [st'.out]; exact sb1, st', rfl, rfl, here w⟩
  case round =>
    obtain ⟨x, s, x0, x1, s0, s1, HC, rfl, rfl, hb0⟩ := hrel
    replace hb0 := Lib.hid hb0
    by_cases z : x < y
    · have kz : decide (x < y) = true := decide_eq_true z
      have q := HJ.out x (by omega) (by omega)
      have HK := Lib.hid (fun w => HL.out x (by omega) (by omega) w)
      have HC' : Hid (s + iylN k x = ifirst k (x + 1)) := by show s + iylN k x = _; rw [q.1, ← HC.out]
      have sb : -492148 ≤ s + iylN k x ∧ s + iylN k x ≤ 2909772 := by rw [HC'.out]; omega
      have lb : 0 ≤ iylN k x ∧ iylN k x ≤ 355 := by omega
      clear q HC HL HJ st'
      generalize iylN k x = l at *
      obtain ⟨sb0, sb1⟩ := sb
      obtain ⟨lb0, lb1⟩ := lb
      go_wp2_with fail
      refine (HK.out _).mono ?_
      rintro e w2 ⟨rfl, hb⟩
      go_wp2
      go_roundw
      case rel => exact ⟨x + 1, s + l, by omega, by omega, by omega, by omega, HC', rfl, rfl, down hb0.out hb⟩
      case measure => simp [intOf]; omega
    · obtain rfl : x = y := by omega
      have kz : decide (x < x) = false := decide_eq_false (by omega)
      clear HL HJ z st'
      go_wp2
      go_ret2
      exact ⟨by rw [← HC.out]; rfl, hb0.out⟩
theorem rivd (k y m d : Int) (hk : I64 k) (hy : I64 y) (hm : I64 m) (hd : I64 d) (w : World) :
    Calls Tryd.prog 42 #[.int .i64 k, .agg #[.int .i64 y, .int .i64 m, .int .i64 d]] w fun e w' => e = .returned (.bool (ivld k y m d)) ∧ Below w.heap.size w w' := by
  have HL := Lib.hid (fun w => rilen k y m hk hy hm w)
  have lb := ilenM_bd k y m
  rw [ivld_split]
  generalize ilenM k y m = l at *
  obtain ⟨l0, l1⟩ := lb
  by_cases a : 1 ≤ d
  · have q : decide (1 ≤ d) = true := decide_eq_true a
    rw [q]
    obtain ⟨w1, hw1⟩ : ∃ w1 : World, w.alloc (.cells #[.int .i64 y, .int .i64 m, .int .i64 d] 29) = w1 := ⟨_, rfl⟩
    have A1 : Hid (Below w.heap.size w w1) := by rw [← hw1]; exact grow (here w) _
    have B1 : Hid (Box w1 w.heap.size (.int .i64 y) (.int .i64 m) (.int .i64 d)) := by rw [← hw1]; exact Box.new (here _)
    have k0 : ∀ x : Kept w1, x.wd.cell? ⟨w.heap.size, 0, none⟩ = some (.int .i64 y) := fun x => (B1.out.keep x.ok).c0
    have k1 : ∀ x : Kept w1, x.wd.cell? ⟨w.heap.size, 1, none⟩ = some (.int .i64 m) := fun x => (B1.out.keep x.ok).c1
    have k2 : ∀ x : Kept w1, x.wd.cell? ⟨w.heap.size, 2, none⟩ = some (.int .i64 d) := fun x => (B1.out.keep x.ok).c2
    obtain ⟨hd0, hd1⟩ := hd
    go_enter Tryd.func42, Tryd.ntmps42
    go_wp2
    clear hw1
    refine wp_region_kept (by kernel_rfl) (by kernel_rfl) ?_
    repeat (go_big_quiet_step ((go_at_call 18; exact kept_call _ (HL.out _))))
    refine wpQuiet_nil ?_
    intro w2 hx
    obtain ⟨⟨xx, hb⟩, hw⟩ := hx
    replace hw : w2 = xx := hw
    subst xx
    go_wp2
    go_ret
    exact ⟨rfl, down A1.out hb⟩
  · have q : decide (1 ≤ d) = false := decide_eq_false a
    rw [q]
    obtain ⟨hd0, hd1⟩ := hd
    go_enter Tryd.func42, Tryd.ntmps42
    go_wp2
    go_quiet (fail)
    go_wp2
    go_ret
    exact ⟨rfl, below_drewN (grow (here w) _) _⟩
end Go.Proofs.YtobipbmigpkhmaaDoor
