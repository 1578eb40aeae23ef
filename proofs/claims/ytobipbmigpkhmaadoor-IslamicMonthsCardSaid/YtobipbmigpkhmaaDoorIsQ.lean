/- Contracts of package islamic: the first day of a year, years and months within days, days of months, days, dates. -/
import Derived.Test.YtobipbmigpkhmaaDoorIsP
namespace Go.Proofs.YtobipbmigpkhmaaDoor
open Go.RowKit
set_option linter.unusedVariables false

theorem xinew_kind (k y : Int) (hk : I64 k) (hy : I64 y) (h : ikd k = false) (w : World) :
    Calls Tryd.prog 21 #[.int .i64 k, .int .i64 y] w fun e w' => e = .returned (.tuple #[.int .i64 0, .int .i64 1]) ∧ ∃ n, w' = w.drewN n := by
  have HK := fun w => xikd k hk w
  rw [h] at HK
  replace HK := Lib.hid HK
  clear h
  go_enter Tryd.func21, Tryd.ntmps21
  go_wp2_with fail
  refine (HK.out _).mono ?_
  rintro e w1 ⟨rfl, rfl⟩
  go_wp2
  go_ret2
  exact ⟨rfl, 0, rfl⟩
theorem xinew_out (k y : Int) (hk : I64 k) (hy : I64 y) (h : ikd k = true) (q : y < 1 ∨ 9601 < y) (w : World) :
    Calls Tryd.prog 21 #[.int .i64 k, .int .i64 y] w fun e w' => e = .returned (.tuple #[.int .i64 0, .int .i64 2]) ∧ ∃ n, w' = w.drewN n := by
  have HK := fun w => xikd k hk w
  rw [h] at HK
  replace HK := Lib.hid HK
  have t : decide (y < 1) = true ∨ decide (y < 1) = false ∧ decide (9601 < y) = true := by
    rcases q with q | q
    · exact .inl (decide_eq_true q)
    · exact .inr ⟨decide_eq_false (by omega), decide_eq_true q⟩
  clear h q
  rcases t with t | ⟨t, u⟩
  all_goals
    go_enter Tryd.func21, Tryd.ntmps21
    go_wp2_with fail
    refine (HK.out _).mono ?_
    rintro e w1 ⟨rfl, rfl⟩
    go_wp2
    go_ret2
    exact ⟨rfl, 0, rfl⟩
theorem xinew_in (k y : Int) (hk : I64 k) (h : ikd k = true) (y0 : 1 ≤ y) (y1 : y ≤ 9601) (w : World) (ht : Tabs w) :
    Calls Tryd.prog 21 #[.int .i64 k, .int .i64 y] w fun e w' => e = .returned (.tuple #[.int .i64 (ifirst k y), .int .i64 0]) ∧ ∃ n, w' = w.drewN n := by
  have HK := fun w => xikd k hk w
  rw [h] at HK
  replace HK := Lib.hid HK
  obtain ⟨k0, k1⟩ := ikd_iff.1 h
  have t : decide (y < 1) = false := decide_eq_false (by omega)
  have u : decide (9601 < y) = false := decide_eq_false (by omega)
  have HD := fun w => cdiv (y - 1) 30 ⟨by omega, by omega⟩ (by omega) (by omega) w
  have HY := fun w ht => xidays k ((y - 1) % 30) k0 k1 (by omega) (by omega) w ht
  have bd := iD_bd (r := (y - 1) % 30) k0 k1 (by omega) (by omega)
  rw [ifirst_iD]
  have q0 : 0 ≤ (y - 1) / 30 := by omega
  have q1 : (y - 1) / 30 ≤ 320 := by omega
  generalize iD k ((y - 1) % 30) = D at *
  generalize (y - 1) / 30 = c at *
  generalize (y - 1) % 30 = r at *
  obtain ⟨bd0, bd1⟩ := bd
  replace HD := Lib.hid HD
  replace HY := Lib.hid HY
  clear h
  go_enter Tryd.func21, Tryd.ntmps21
  go_wp2_with fail
  refine (HK.out _).mono ?_
  rintro e w1 ⟨rfl, rfl⟩
  go_wp2_with fail
  refine (HD.out _).mono ?_
  rintro e w1 ⟨rfl, n, rfl⟩
  go_wp2_with fail
  refine (HY.out _ (ht.drewN n)).mono ?_
  rintro e w1 ⟨rfl, n2, rfl⟩
  go_wp2
  go_ret2
  exact ⟨rfl, n + n2, by first | rfl | simp⟩
theorem xiyears (k r x : Int) (k0 : 1 ≤ k) (k1 : k ≤ 4) (r0 : 0 ≤ r) (r1 : r ≤ 29) (a : iD k r ≤ x) (b : x < iD k (r + 1)) (w : World) (ht : Tabs w) :
    Calls Tryd.prog 43 #[.int .i64 k, .int .i64 x] w fun e w' => e = .returned (.int .i64 r) ∧ ∃ n, w' = w.drewN n := by
  obtain ⟨x0, x1, q0, q1, alt⟩ := iyears k0 k1 r0 r1 a b
  have HF := fun w => cfloorn x 354 ⟨by omega, by omega⟩ (by omega) (by omega) w
  have HY := fun w ht => xidays k (x / 354) k0 k1 q0 q1 w ht
  have d0 := iD_bd k0 k1 q0 q1
  generalize hq : x / 354 = q at *
  clear hq
  rcases alt with ⟨rfl, c⟩ | ⟨rfl, c⟩
  · have t : decide (x < iD k q) = false := decide_eq_false (by omega)
    replace HF := Lib.hid HF
    replace HY := Lib.hid HY
    clear a b c
    generalize iD k q = D at *
    go_enter Tryd.func43, Tryd.ntmps43
    go_wp2_with fail
    refine (HF.out _).mono ?_
    rintro e w1 ⟨rfl, n, rfl⟩
    go_wp2_with fail
    refine (HY.out _ (ht.drewN n)).mono ?_
    rintro e w1 ⟨rfl, n2, rfl⟩
    go_wp2
    go_ret
    exact ⟨rfl, n + n2, by first | rfl | simp⟩
  · have t : decide (x < iD k (r + 1)) = true := decide_eq_true c
    replace HF := Lib.hid HF
    replace HY := Lib.hid HY
    clear a b c
    generalize iD k (r + 1) = D at *
    go_enter Tryd.func43, Tryd.ntmps43
    go_wp2_with fail
    refine (HF.out _).mono ?_
    rintro e w1 ⟨rfl, n, rfl⟩
    go_wp2_with fail
    refine (HY.out _ (ht.drewN n)).mono ?_
    rintro e w1 ⟨rfl, n2, rfl⟩
    go_wp2
    go_ret
    exact ⟨rfl, n + n2, by first | rfl | simp⟩
theorem xidom (m : Int) (m0 : 0 ≤ m) (m1 : m ≤ 12) (w : World) :
    Calls Tryd.prog 41 #[.int .i64 m] w fun e w' => e = .returned (.int .i64 (icum (m + 1))) ∧ ∃ n, w' = w.drewN n := by
  have HF := Lib.hid (fun w => cfloorn (59 * m + 1) 2 ⟨by omega, by omega⟩ (by omega) (by omega) w)
  rw [← icum_div m0]
  go_enter Tryd.func41, Tryd.ntmps41
  go_wp2_with fail
  refine (HF.out _).mono ?_
  rintro e w1 ⟨rfl, n, rfl⟩
  go_wp2
  go_ret
  exact ⟨rfl, n, rfl⟩
theorem ximw (k y m x : Int) (h : iyr k y = true) (m0 : 1 ≤ m) (m1 : m ≤ 12) (a : icum m ≤ x) (b : x < icumL k y (m + 1)) (w : World) :
    Calls Tryd.prog 44 #[.int .i64 x] w fun e w' => e = .returned (.int .i64 (m - 1)) ∧ ∃ n, w' = w.drewN n := by
  obtain ⟨x0, x1, q0, alt⟩ := imonths h m0 m1 a b
  have HF := Lib.hid (fun w => cfloorn (2 * x) 59 ⟨by omega, by omega⟩ (by omega) (by omega) w)
  have q1 : 2 * x / 59 ≤ 12 := by omega
  clear a b h
  have e : (if 11 < 2 * x / 59 then 11 else 2 * x / 59) = m - 1 := by split <;> omega
  have e' : min (2 * x / 59) 11 = m - 1 := by omega
  clear alt
  generalize 2 * x / 59 = q at *
  go_enter Tryd.func44, Tryd.ntmps44
  go_wp2_with fail
  refine (HF.out _).mono ?_
  rintro e w1 ⟨rfl, n, rfl⟩
  go_wp2
  go_ret
  exact ⟨rfl, n, rfl⟩
theorem xidic (k j : Int) (k0 : 1 ≤ k) (k1 : k ≤ 4) (j0 : 0 ≤ j) (j1 : j ≤ 360) (w : World) (ht : Tabs w) :
    Calls Tryd.prog 45 #[.int .i64 k, .int .i64 j] w fun e w' => e = .returned (.int .i64 (imon k j)) ∧ ∃ n, w' = w.drewN n := by
  have HD := Lib.hid (fun w => cdiv j 12 ⟨by omega, by omega⟩ (by omega) (by omega) w)
  have HY := Lib.hid (fun w ht => xidays k (j / 12) k0 k1 (by omega) (by omega) w ht)
  have HM := Lib.hid (fun w => xidom (j % 12) (by omega) (by omega) w)
  have b := iD_bd (r := j / 12) k0 k1 (by omega) (by omega)
  have c : 0 ≤ icum (j % 12 + 1) ∧ icum (j % 12 + 1) ≤ 400 := by unfold icum; omega
  have e : imon k j = iD k (j / 12) + icum (j % 12 + 1) := rfl
  rw [e]
  clear e
  generalize iD k (j / 12) = D at *
  generalize icum (j % 12 + 1) = M at *
  generalize j / 12 = p at *
  generalize j % 12 = q at *
  obtain ⟨b0, b1⟩ := b
  obtain ⟨c0, c1⟩ := c
  go_enter Tryd.func45, Tryd.ntmps45
  go_wp2_with fail
  refine (HD.out _).mono ?_
  rintro e w1 ⟨rfl, n, rfl⟩
  go_wp2_with fail
  refine (HY.out _ (ht.drewN n)).mono ?_
  rintro e w1 ⟨rfl, n2, rfl⟩
  go_wp2_with fail
  refine (HM.out _).mono ?_
  rintro e w1 ⟨rfl, n3, rfl⟩
  go_wp2
  go_ret
  exact ⟨rfl, n + n2 + n3, by first | rfl | simp⟩
theorem quiet_down {P : Program} {f : FuncId} {args : Array Value} {w : World} {v : Value} (h : Calls P f args w fun e w' => e = .returned v ∧ ∃ n, w' = w.drewN n) :
    Calls P f args w fun e w' => e = .returned v ∧ Below w.heap.size w w' :=
  h.mono fun _ _ ⟨he, n, hw⟩ => ⟨he, hw ▸ below_drewN (here w) n⟩
theorem uikd (k : Int) (hk : I64 k) (w : World) (ht : Tabs w) :
    Calls Tryd.prog 13 #[.int .i64 k] w fun e w' => e = .returned (.bool (ikd k)) ∧ Below w.heap.size w w' :=
  (xikd k hk w).mono fun _ _ ⟨he, hw⟩ => ⟨he, hw ▸ here _⟩
theorem uileap (k y : Int) (hk : I64 k) (hy : I64 y) (w : World) (ht : Tabs w) :
    Calls Tryd.prog 15 #[.int .i64 k, .int .i64 y] w fun e w' => e = .returned (.bool (ileapB k y)) ∧ Below w.heap.size w w' := quiet_down (xileap k y hk hy w ht)
theorem uilen (k y m : Int) (hk : I64 k) (hy : I64 y) (hm : I64 m) (w : World) (ht : Tabs w) :
    Calls Tryd.prog 17 #[.int .i64 k, .int .i64 y, .int .i64 m] w fun e w' => e = .returned (.int .i64 (ilenM k y m)) ∧ Below w.heap.size w w' := quiet_down (xilen k y m hk hy hm w ht)
theorem uiyl (k y : Int) (hk : I64 k) (hy : I64 y) (w : World) (ht : Tabs w) :
    Calls Tryd.prog 19 #[.int .i64 k, .int .i64 y] w fun e w' => e = .returned (.int .i64 (iylN k y)) ∧ Below w.heap.size w w' := quiet_down (xiyl k y hk hy w ht)
theorem xinew (k y : Int) (hk : I64 k) (hy : I64 y) (w : World) (ht : Tabs w) :
    Calls Tryd.prog 21 #[.int .i64 k, .int .i64 y] w fun e w' => e = .returned (.tuple #[.int .i64 (inewN k y), .int .i64 (inewE k y)]) ∧ ∃ n, w' = w.drewN n := by
  cases a : ikd k
  · rw [(inew_kind a).1, (inew_kind a).2]; exact xinew_kind k y hk hy a w
  · by_cases q : y < 1 ∨ 9601 < y
    · rw [(inew_out a q).1, (inew_out a q).2]; exact xinew_out k y hk hy a q w
    · rw [(inew_in a (by omega) (by omega)).1, (inew_in a (by omega) (by omega)).2]; exact xinew_in k y hk a (by omega) (by omega) w ht
theorem uinew (k y : Int) (hk : I64 k) (hy : I64 y) (w : World) (ht : Tabs w) :
    Calls Tryd.prog 21 #[.int .i64 k, .int .i64 y] w fun e w' => e = .returned (.tuple #[.int .i64 (inewN k y), .int .i64 (inewE k y)]) ∧ Below w.heap.size w w' := quiet_down (xinew k y hk hy w ht)
end Go.Proofs.YtobipbmigpkhmaaDoor
