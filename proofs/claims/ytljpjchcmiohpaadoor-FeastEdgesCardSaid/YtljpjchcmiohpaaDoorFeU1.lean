/- Contracts of package feast, all but Years. -/
import Derived.Test.YtljpjchcmiohpaaDoorFeV
import Derived.Test.YtljpjchcmiohpaaDoorLJuA
import Derived.Deep.Cut
namespace Go.Proofs.YtljpjchcmiohpaaDoor
open Go.RowKit
set_option linter.unusedVariables false

structure Tabs (w : World) : Prop where
  cl : Lens w
  jl : JLens w
theorem Tabs.below {w w' : World} (h : Tabs w) (hb : Below w.heap.size w w') : Tabs w' := ⟨lens_below h.cl hb, jlens_below h.jl hb⟩
theorem xfyr (y : Int) (hy : I64 y) (w : World) :
    Calls Tryd.prog 29 #[.int .i64 y] w fun e w' => e = .returned (.bool (yrB y)) ∧ w = w' := by
  obtain ⟨h0, h1⟩ := hy
  rw [yrB_eq]
  obtain ⟨a, ha⟩ : ∃ a, decide (1 ≤ y) = a := ⟨_, rfl⟩
  obtain ⟨b, hb⟩ : ∃ a, decide (y ≤ 9999) = a := ⟨_, rfl⟩
  rw [ha, hb]
  cases a <;> cases b
  all_goals
    go_enter Tryd.func29, Tryd.ntmps29
    go_wp2
    go_ret
    exact ⟨rfl, rfl⟩
theorem xfgo (y : Int) (y0 : 1 ≤ y) (y1 : y ≤ 9999) (w : World) :
    Calls Tryd.prog 30 #[.int .i64 y] w fun e w' => e = .returned (.int .i64 (fG y)) ∧ w = w' := by
  go_enter Tryd.func30, Tryd.ntmps30
  go_wp2
  go_ret
  exact ⟨rfl, rfl⟩
theorem xfmod (a : Int) (a0 : -1000000 ≤ a) (a1 : a ≤ 1000000) (w : World) :
    Calls Tryd.prog 35 #[.int .i64 a, .int .i64 30] w fun e w' => e = .returned (.int .i64 (a % 30)) ∧ w = w' := by
  have t := Int.tdiv_mul_add_tmod a 30
  have b := (tr_bd (a := a) (b := 30) (by decide)).1
  obtain ⟨q, hq⟩ : ∃ q, a.tmod 30 = q := ⟨_, rfl⟩
  rw [hq] at t b
  have b0 : -29 ≤ q := by omega
  have b1 : q ≤ 29 := by omega
  have e : Hid ((q + 30) % 30 = a % 30) := by show _ = _; omega
  clear t b
  go_enter Tryd.func35, Tryd.ntmps35
  go_wp2
  go_ret
  exact ⟨by rw [e.out]; rfl, rfl⟩
set_option maxRecDepth 100000 in
set_option maxHeartbeats 1000000 in
theorem xfep (y : Int) (y0 : 1 ≤ y) (y1 : y ≤ 9999) (w : World) :
    Calls Tryd.prog 31 #[.int .i64 y] w fun e w' => e = .returned (.int .i64 (fE y)) ∧ w = w' := by
  have HG := Lib.hid (fun w => xfgo y y0 y1 w)
  have gb := fG_bd y
  have e : Hid (fE y = (8 + y / 100 / 4 - y / 100 + (8 * (y / 100) + 13) / 25 + 11 * (fG y - 1)) % 30) := by show _ = _; unfold fE fG; omega
  rw [e.out]
  clear e
  have cb : 0 ≤ y / 100 ∧ y / 100 ≤ 99 := by omega
  obtain ⟨c, hc⟩ : ∃ c, y / 100 = c := ⟨_, rfl⟩
  rw [hc] at cb ⊢
  obtain ⟨q, hq⟩ : ∃ q, c / 4 = q := ⟨_, rfl⟩
  obtain ⟨r, hr⟩ : ∃ r, (8 * c + 13) / 25 = r := ⟨_, rfl⟩
  have qb : 0 ≤ q ∧ q ≤ 24 := by omega
  have rb : 0 ≤ r ∧ r ≤ 33 := by omega
  rw [hq, hr]
  generalize fG y = g at *
  have HM := Lib.hid (fun w => xfmod (8 + q - c + r + 11 * (g - 1)) (by omega) (by omega) w)
  obtain ⟨g0, g1⟩ := gb
  obtain ⟨c0, c1⟩ := cb
  obtain ⟨q0, q1⟩ := qb
  obtain ⟨r0, r1⟩ := rb
  go_enter Tryd.func31, Tryd.ntmps31
  go_wp2_with fail
  refine (HG.out _).mono ?_
  rintro e w1 ⟨rfl, rfl⟩
  go_wp2_with fail
  refine (HM.out _).mono ?_
  rintro e w2 ⟨rfl, rfl⟩
  go_wp2
  go_ret
  exact ⟨rfl, rfl⟩
theorem fF_at (y : Int) : fE y = 24 ∧ fF y = 49 ∨ fE y = 25 ∧ 11 < fG y ∧ fF y = 48 ∨ fE y = 25 ∧ ¬ 11 < fG y ∧ fF y = 49 ∨ fE y ≠ 24 ∧ fE y ≠ 25 ∧ (44 - fE y < 21 ∧ fF y = 74 - fE y ∨ ¬ 44 - fE y < 21 ∧ fF y = 44 - fE y) := by
  by_cases a : fE y = 24
  · have x : fX y = 25 := by unfold fX; rw [if_pos (Or.inl a), a]; rfl
    left; unfold fF; rw [x]; exact ⟨a, rfl⟩
  · right
    by_cases b : fE y = 25
    · by_cases c : 11 < fG y
      · have x : fX y = 26 := by unfold fX; rw [if_pos (Or.inr ⟨b, c⟩), b]; rfl
        left; unfold fF; rw [x]; exact ⟨b, c, rfl⟩
      · have x : fX y = 25 := by unfold fX; rw [if_neg (by rintro (z | ⟨-, z⟩); exact a z; exact c z), b]
        right; left; unfold fF; rw [x]; exact ⟨b, c, rfl⟩
    · have x : fX y = fE y := by unfold fX; rw [if_neg (by rintro (z | ⟨z, -⟩); exact a z; exact b z)]
      right; right; unfold fF; rw [x]
      refine ⟨a, b, ?_⟩
      by_cases d : 44 - fE y < 21
      · left; rw [if_pos d]; exact ⟨d, rfl⟩
      · right; rw [if_neg d]; exact ⟨d, rfl⟩
set_option maxRecDepth 100000 in
set_option maxHeartbeats 1000000 in
theorem xffm (y : Int) (y0 : 1 ≤ y) (y1 : y ≤ 9999) (w : World) :
    Calls Tryd.prog 33 #[.int .i64 y] w fun e w' => e = .returned (.int .i64 (fF y)) ∧ w = w' := by
  have HE := fun w => xfep y y0 y1 w
  have HG := fun w => xfgo y y0 y1 w
  have eb := fE_bd y
  have gb := fG_bd y
  have at4 := fF_at y
  generalize fE y = E at *
  generalize fG y = g at *
  obtain ⟨g0, g1⟩ := gb
  rcases at4 with ⟨rfl, e⟩ | ⟨rfl, k, e⟩ | ⟨rfl, k, e⟩ | ⟨k1, k2, q⟩
  · rw [e]
    replace HE := Lib.hid HE
    clear e eb
    go_enter Tryd.func33, Tryd.ntmps33
    go_wp2_with fail
    refine (HE.out _).mono ?_
    rintro e w1 ⟨rfl, rfl⟩
    go_wp2
    go_ret
    exact ⟨rfl, rfl⟩
  · rw [e]
    have k := decide_eq_true k
    replace HE := Lib.hid HE
    replace HG := Lib.hid HG
    clear e eb
    go_enter Tryd.func33, Tryd.ntmps33
    go_wp2_with fail
    refine (HE.out _).mono ?_
    rintro e w1 ⟨rfl, rfl⟩
    go_wp2_with fail
    refine (HG.out _).mono ?_
    rintro e w2 ⟨rfl, rfl⟩
    go_wp2
    go_ret
    exact ⟨rfl, rfl⟩
  · rw [e]
    have k := decide_eq_false k
    replace HE := Lib.hid HE
    replace HG := Lib.hid HG
    clear e eb
    go_enter Tryd.func33, Tryd.ntmps33
    go_wp2_with fail
    refine (HE.out _).mono ?_
    rintro e w1 ⟨rfl, rfl⟩
    go_wp2_with fail
    refine (HG.out _).mono ?_
    rintro e w2 ⟨rfl, rfl⟩
    go_wp2
    go_ret
    exact ⟨rfl, rfl⟩
  · have j1 : (E == 24) = false := by simpa using k1
    have j2 : (E == 25) = false := by simpa using k2
    clear k1 k2
    obtain ⟨e0, e1⟩ := eb
    replace HE := Lib.hid HE
    rcases q with ⟨q, e⟩ | ⟨q, e⟩
    · rw [e]
      have e2 : Hid (44 - E + 30 = 74 - E) := by show _ = _; omega
      clear e
      have qd : decide (44 - E < 21) = true := decide_eq_true q
      rw [← e2.out]
      go_enter Tryd.func33, Tryd.ntmps33
      go_wp2_with fail
      refine (HE.out _).mono ?_
      rintro e w1 ⟨rfl, rfl⟩
      go_wp2
      go_ret
      exact ⟨rfl, rfl⟩
    · rw [e]
      clear e
      have qd : decide (44 - E < 21) = false := decide_eq_false q
      go_enter Tryd.func33, Tryd.ntmps33
      go_wp2_with fail
      refine (HE.out _).mono ?_
      rintro e w1 ⟨rfl, rfl⟩
      go_wp2
      go_ret
      exact ⟨rfl, rfl⟩
set_option maxRecDepth 100000 in
set_option maxHeartbeats 1000000 in
theorem xfsa (d : Int) (d0 : -719162 ≤ d) (d1 : d < 2932897) (w : World) :
    Calls Tryd.prog 32 #[.int .i64 d] w fun e w' => e = .returned (.int .i64 (fS d)) ∧ Below w.heap.size w w' := by
  have HW := fun w => cwd d ⟨by omega, by omega⟩ w
  have e : Hid (d + 7 - wkd d % 7 = fS d) := by show _ = _; unfold wkd fS; rw [if_neg (by omega)]; omega
  have b : 1 ≤ wkd d ∧ wkd d ≤ 7 := by unfold wkd; rw [if_neg (by omega)]; omega
  rw [← e.out]
  clear e
  generalize wkd d = k at *
  obtain ⟨b0, b1⟩ := b
  obtain ⟨m, hm⟩ : ∃ m, k % 7 = m := ⟨_, rfl⟩
  have m0 : 0 ≤ m := by omega
  have m1 : m ≤ 6 := by omega
  rw [hm]
  replace HW := Lib.hid HW
  go_enter Tryd.func32, Tryd.ntmps32
  go_wp2_with fail
  refine (HW.out _).mono ?_
  rintro e w1 ⟨rfl, hb⟩
  have A1 := Lib.hid (down (here w) hb)
  clear hb
  go_wp2
  go_ret
  exact ⟨rfl, by first | exact A1.out | exact grow A1.out _ | exact below_drewN A1.out _ | exact grow (grow A1.out _) _ | exact grow (grow (grow A1.out _) _) _⟩
set_option maxRecDepth 100000 in
set_option maxHeartbeats 1000000 in
theorem ugold (y : Int) (hy : I64 y) (w : World) (ht : Tabs w) :
    Calls Tryd.prog 12 #[.int .i64 y] w fun e w' => e = .returned (.int .i64 (fgV y)) ∧ Below w.heap.size w w' := by
  refine Calls.mono (R := fun e w' => e = .returned (.int .i64 (fgV y)) ∧ w = w') ?_ fun e w' ⟨he, hw⟩ => ⟨he, hw ▸ here w⟩
  have HY := fun w => xfyr y hy w
  clear ht
  unfold fgV
  obtain ⟨h0, h1⟩ := hy
  cases a : yrB y
  · rw [a] at HY
    replace HY := Lib.hid HY
    clear a
    show Calls _ _ _ _ fun e w' => e = .returned (.int .i64 (0)) ∧ w = w'
    go_enter Tryd.func12, Tryd.ntmps12
    go_wp2_with fail
    refine (HY.out _).mono ?_
    rintro e w1 ⟨rfl, rfl⟩
    go_wp2
    go_ret
    exact ⟨rfl, rfl⟩
  · rw [a] at HY
    replace HY := Lib.hid HY
    obtain ⟨y0, y1⟩ := yrB_iff.1 a
    have HG := Lib.hid (fun w => xfgo y y0 y1 w)
    clear a
    show Calls _ _ _ _ fun e w' => e = .returned (.int .i64 (fG y)) ∧ w = w'
    generalize fG y = g at *
    go_enter Tryd.func12, Tryd.ntmps12
    go_wp2_with fail
    refine (HY.out _).mono ?_
    rintro e w1 ⟨rfl, rfl⟩
    go_wp2_with fail
    refine (HG.out _).mono ?_
    rintro e w2 ⟨rfl, rfl⟩
    go_wp2
    go_ret
    exact ⟨rfl, rfl⟩
set_option maxRecDepth 100000 in
set_option maxHeartbeats 1000000 in
theorem uepact (y : Int) (hy : I64 y) (w : World) (ht : Tabs w) :
    Calls Tryd.prog 13 #[.int .i64 y] w fun e w' => e = .returned (.int .i64 (fpV y)) ∧ Below w.heap.size w w' := by
  refine Calls.mono (R := fun e w' => e = .returned (.int .i64 (fpV y)) ∧ w = w') ?_ fun e w' ⟨he, hw⟩ => ⟨he, hw ▸ here w⟩
  have HY := fun w => xfyr y hy w
  clear ht
  unfold fpV
  obtain ⟨h0, h1⟩ := hy
  cases a : yrB y
  · rw [a] at HY
    replace HY := Lib.hid HY
    clear a
    show Calls _ _ _ _ fun e w' => e = .returned (.int .i64 (-1)) ∧ w = w'
    go_enter Tryd.func13, Tryd.ntmps13
    go_wp2_with fail
    refine (HY.out _).mono ?_
    rintro e w1 ⟨rfl, rfl⟩
    go_wp2
    go_ret
    exact ⟨rfl, rfl⟩
  · rw [a] at HY
    replace HY := Lib.hid HY
    obtain ⟨y0, y1⟩ := yrB_iff.1 a
    have HG := Lib.hid (fun w => xfep y y0 y1 w)
    clear a
    show Calls _ _ _ _ fun e w' => e = .returned (.int .i64 (fE y)) ∧ w = w'
    generalize fE y = g at *
    go_enter Tryd.func13, Tryd.ntmps13
    go_wp2_with fail
    refine (HY.out _).mono ?_
    rintro e w1 ⟨rfl, rfl⟩
    go_wp2_with fail
    refine (HG.out _).mono ?_
    rintro e w2 ⟨rfl, rfl⟩
    go_wp2
    go_ret
    exact ⟨rfl, rfl⟩
set_option maxRecDepth 100000 in
set_option maxHeartbeats 1000000 in
theorem ueaster (y : Int) (hy : I64 y) (w : World) (ht : Tabs w) :
    Calls Tryd.prog 17 #[.int .i64 y] w fun e w' => e = .returned (.tuple #[.int .i64 (feV y), .int .i64 (fyE y)]) ∧ Below w.heap.size w w' := by
  have HY := fun w => xfyr y hy w
  have yc := yr_cases y
  obtain ⟨h0, h1⟩ := hy
  rcases yc with ⟨a, -, -, e1, -, e2⟩ | ⟨a, y0, y1, -, -, e1, -, e2⟩
  · rw [a] at HY
    rw [e1, e2]
    replace HY := Lib.hid HY
    replace ht := Lib.hid ht
    clear a e1 e2
    go_enter Tryd.func17, Tryd.ntmps17
    go_wp2_with fail
    refine (HY.out _).mono ?_
    rintro e x1 ⟨rfl, rfl⟩
    go_wp2
    go_ret2
    exact ⟨rfl, by first | exact (here w) | exact grow (here w) _ | exact below_drewN (here w) _ | exact grow (grow (here w) _) _ | exact grow (grow (grow (here w) _) _) _⟩
  · rw [a] at HY
    rw [e1, e2]
    have s := spring y0 y1
    have v := (s.2.2.2.2.1 1 (by omega) (by omega)).1
    have f := fF_bd y
    have r := day_range v
    have HD := fun w ht => cday_yes y 3 1 v w ht
    have HF := fun w => xffm y y0 y1 w
    have r2 := day_range s.2.2.2.1
    have HS := fun w => xfsa (dayN y 3 1 + fF y - 1) (by omega) (by omega) w
    show Calls _ _ _ _ fun e w' => e = .returned (.tuple #[.int .i64 (fS (dayN y 3 1 + fF y - 1)), .int .i64 0]) ∧ Below w.heap.size w w'
    generalize fS (dayN y 3 1 + fF y - 1) = R at *
    clear s r2 v
    generalize dayN y 3 1 = M at *
    generalize fF y = F at *
    obtain ⟨r0, r1⟩ := r
    obtain ⟨f0, f1⟩ := f
    replace HY := Lib.hid HY
    replace HD := Lib.hid HD
    replace HF := Lib.hid HF
    replace HS := Lib.hid HS
    replace ht := Lib.hid ht
    clear a e1 e2
    go_enter Tryd.func17, Tryd.ntmps17
    go_wp2_with fail
    refine (HY.out _).mono ?_
    rintro e x1 ⟨rfl, rfl⟩
    go_wp2_with fail
    refine (HD.out _ (ht.out.below (here w)).cl).mono ?_
    rintro e w1 ⟨rfl, hb⟩
    have A1 := Lib.hid (down (here w) hb)
    clear hb
    go_wp2_with fail
    refine (HF.out _).mono ?_
    rintro e x2 ⟨rfl, rfl⟩
    go_wp2_with fail
    refine (HS.out _).mono ?_
    rintro e w2 ⟨rfl, hb⟩
    have A2 := Lib.hid (down A1.out hb)
    clear hb A1
    go_wp2
    go_ret2
    exact ⟨rfl, by first | exact A2.out | exact grow A2.out _ | exact below_drewN A2.out _ | exact grow (grow A2.out _) _ | exact grow (grow (grow A2.out _) _) _⟩
set_option maxRecDepth 100000 in
set_option maxHeartbeats 1000000 in
theorem ujulian (y : Int) (hy : I64 y) (w : World) (ht : Tabs w) :
    Calls Tryd.prog 18 #[.int .i64 y] w fun e w' => e = .returned (.tuple #[.int .i64 (fjV y), .int .i64 (fyE y)]) ∧ Below w.heap.size w w' := by
  have HY := fun w => xfyr y hy w
  have yc := yr_cases y
  obtain ⟨h0, h1⟩ := hy
  rcases yc with ⟨a, -, -, -, e1, e2⟩ | ⟨a, y0, y1, -, -, -, e1, e2⟩
  · rw [a] at HY
    rw [e1, e2]
    replace HY := Lib.hid HY
    replace ht := Lib.hid ht
    clear a e1 e2
    go_enter Tryd.func18, Tryd.ntmps18
    go_wp2_with fail
    refine (HY.out _).mono ?_
    rintro e x1 ⟨rfl, rfl⟩
    go_wp2
    go_ret2
    exact ⟨rfl, by first | exact (here w) | exact grow (here w) _ | exact below_drewN (here w) _ | exact grow (grow (here w) _) _ | exact grow (grow (grow (here w) _) _) _⟩
  · rw [a] at HY
    rw [e1, e2]
    have s := jspring y0 y1
    have v := (s.2.1 21 (by omega) (by omega)).1
    have f := fjF_bd y
    have jb : -719162 ≤ jdayN y 3 21 ∧ jdayN y 3 21 + 40 < 2932897 := by have := s.1; omega
    have HD := fun w ht => ujday_yes y 3 21 v w ht
    rw [show dyB (jdayN y 3 21) = true from dyB_iff.2 ⟨jb.1, by omega⟩, if_pos rfl, if_pos rfl] at HD
    have HG := fun w => xfgo y y0 y1 w
    have gb := fG_bd y
    have HM := fun w => xfmod (19 * (fG y - 1) + 15) (by omega) (by omega) w
    have em : (19 * (fG y - 1) + 15) % 30 = fjF y := by unfold fG fjF; omega
    rw [em] at HM
    have HS := fun w => xfsa (jdayN y 3 21 + fjF y) (by omega) (by omega) w
    show Calls _ _ _ _ fun e w' => e = .returned (.tuple #[.int .i64 (fS (jdayN y 3 21 + fjF y)), .int .i64 0]) ∧ Below w.heap.size w w'
    generalize fS (jdayN y 3 21 + fjF y) = R at *
    clear s v em
    generalize jdayN y 3 21 = M at *
    generalize fjF y = F at *
    generalize fG y = g at *
    obtain ⟨r0, r1⟩ := jb
    obtain ⟨f0, f1⟩ := f
    obtain ⟨g0, g1⟩ := gb
    replace HY := Lib.hid HY
    replace HD := Lib.hid HD
    replace HG := Lib.hid HG
    replace HM := Lib.hid HM
    replace HS := Lib.hid HS
    replace ht := Lib.hid ht
    clear a e1 e2
    go_enter Tryd.func18, Tryd.ntmps18
    go_wp2_with fail
    refine (HY.out _).mono ?_
    rintro e x1 ⟨rfl, rfl⟩
    go_wp2_with fail
    refine (HD.out _ (ht.out.below (here w)).jl).mono ?_
    rintro e w1 ⟨rfl, hb⟩
    have A1 := Lib.hid (down (here w) hb)
    clear hb
    go_wp2_with fail
    refine (HG.out _).mono ?_
    rintro e x2 ⟨rfl, rfl⟩
    go_wp2_with fail
    refine (HM.out _).mono ?_
    rintro e x3 ⟨rfl, rfl⟩
    go_wp2_with fail
    refine (HS.out _).mono ?_
    rintro e w2 ⟨rfl, hb⟩
    have A2 := Lib.hid (down A1.out hb)
    clear hb A1
    go_wp2
    go_ret2
    exact ⟨rfl, by first | exact A2.out | exact grow A2.out _ | exact below_drewN A2.out _ | exact grow (grow A2.out _) _ | exact grow (grow (grow A2.out _) _) _⟩
set_option maxRecDepth 100000 in
set_option maxHeartbeats 1000000 in
theorem umove (y o : Int) (hy : I64 y) (ho : I64 o) (w : World) (ht : Tabs w) :
    Calls Tryd.prog 24 #[.int .i64 y, .int .i64 o] w fun e w' => e = .returned (.tuple #[.int .i64 (fmN y o), .int .i64 (fmE y o)]) ∧ Below w.heap.size w w' := by
  have HE := fun w ht => ueaster y hy w ht
  have yc := yr_cases y
  obtain ⟨ho0, ho1⟩ := ho
  have no : fmB y o = false → fmN y o = 0 ∧ fmE y o = 2 := fun h => by unfold fmN fmE; rw [h]; exact ⟨rfl, rfl⟩
  have yes : fmB y o = true → fmN y o = feN y + o ∧ fmE y o = 0 := fun h => by unfold fmN fmE; rw [h]; exact ⟨rfl, rfl⟩
  rcases yc with ⟨a, -, -, e1, -, e2⟩ | ⟨a, y0, y1, -, -, e1, -, e2⟩
  · have e : fmB y o = false := by unfold fmB; rw [a]; rfl
    rw [e1, e2] at HE
    rw [(no e).1, (no e).2]
    replace HE := Lib.hid HE
    replace ht := Lib.hid ht
    clear a e no yes e1 e2
    go_enter Tryd.func24, Tryd.ntmps24
    go_wp2_with fail
    refine (HE.out _ (ht.out.below (here w))).mono ?_
    rintro e w1 ⟨rfl, hb⟩
    have A1 := Lib.hid (down (here w) hb)
    clear hb
    go_wp2
    go_ret2
    exact ⟨rfl, by first | exact A1.out | exact grow A1.out _ | exact below_drewN A1.out _ | exact grow (grow A1.out _) _ | exact grow (grow (grow A1.out _) _) _⟩
  · rw [e1, e2] at HE
    have fb := feN_in y0 y1
    obtain ⟨-, -, -, f0, f1⟩ := fb
    clear a e1 e2
    replace ht := Lib.hid ht
    by_cases o0 : o < -400
    · have e : fmB y o = false := by rw [← Bool.not_eq_true, fmB_iff]; omega
      rw [(no e).1, (no e).2]
      have k : decide (o < -400) = true := decide_eq_true o0
      generalize feN y = F at *
      replace HE := Lib.hid HE
      clear e no yes
      go_enter Tryd.func24, Tryd.ntmps24
      go_wp2_with fail
      refine (HE.out _ (ht.out.below (here w))).mono ?_
      rintro e w1 ⟨rfl, hb⟩
      have A1 := Lib.hid (down (here w) hb)
      clear hb
      go_wp2
      go_ret2
      exact ⟨rfl, by first | exact A1.out | exact grow A1.out _ | exact below_drewN A1.out _ | exact grow (grow A1.out _) _ | exact grow (grow (grow A1.out _) _) _⟩
    · have k : decide (o < -400) = false := decide_eq_false o0
      by_cases o1 : 400 < o
      · have e : fmB y o = false := by rw [← Bool.not_eq_true, fmB_iff]; omega
        rw [(no e).1, (no e).2]
        have k1 : decide (400 < o) = true := decide_eq_true o1
        generalize feN y = F at *
        replace HE := Lib.hid HE
        clear e no yes
        go_enter Tryd.func24, Tryd.ntmps24
        go_wp2_with fail
        refine (HE.out _ (ht.out.below (here w))).mono ?_
        rintro e w1 ⟨rfl, hb⟩
        have A1 := Lib.hid (down (here w) hb)
        clear hb
        go_wp2
        go_ret2
        exact ⟨rfl, by first | exact A1.out | exact grow A1.out _ | exact below_drewN A1.out _ | exact grow (grow A1.out _) _ | exact grow (grow (grow A1.out _) _) _⟩
      · have k1 : decide (400 < o) = false := decide_eq_false o1
        have o2 : -400 ≤ o := by omega
        have o3 : o ≤ 400 := by omega
        by_cases d0 : feN y + o < -719162
        · have e : fmB y o = false := by rw [← Bool.not_eq_true, fmB_iff]; omega
          rw [(no e).1, (no e).2]
          have k2 : decide (feN y + o < -719162) = true := decide_eq_true d0
          generalize feN y = F at *
          replace HE := Lib.hid HE
          clear e no yes
          go_enter Tryd.func24, Tryd.ntmps24
          go_wp2_with fail
          refine (HE.out _ (ht.out.below (here w))).mono ?_
          rintro e w1 ⟨rfl, hb⟩
          have A1 := Lib.hid (down (here w) hb)
          clear hb
          go_wp2
          go_ret2
          exact ⟨rfl, by first | exact A1.out | exact grow A1.out _ | exact below_drewN A1.out _ | exact grow (grow A1.out _) _ | exact grow (grow (grow A1.out _) _) _⟩
        · have k2 : decide (feN y + o < -719162) = false := decide_eq_false d0
          by_cases d1 : 2932897 ≤ feN y + o
          · have e : fmB y o = false := by rw [← Bool.not_eq_true, fmB_iff]; omega
            rw [(no e).1, (no e).2]
            have k3 : decide (2932897 ≤ feN y + o) = true := decide_eq_true d1
            generalize feN y = F at *
            replace HE := Lib.hid HE
            clear e no yes
            go_enter Tryd.func24, Tryd.ntmps24
            go_wp2_with fail
            refine (HE.out _ (ht.out.below (here w))).mono ?_
            rintro e w1 ⟨rfl, hb⟩
            have A1 := Lib.hid (down (here w) hb)
            clear hb
            go_wp2
            go_ret2
            exact ⟨rfl, by first | exact A1.out | exact grow A1.out _ | exact below_drewN A1.out _ | exact grow (grow A1.out _) _ | exact grow (grow (grow A1.out _) _) _⟩
          · have e : fmB y o = true := fmB_iff.2 (by omega)
            rw [(yes e).1, (yes e).2]
            have k3 : decide (2932897 ≤ feN y + o) = false := decide_eq_false d1
            generalize feN y = F at *
            replace HE := Lib.hid HE
            clear e no yes
            go_enter Tryd.func24, Tryd.ntmps24
            go_wp2_with fail
            refine (HE.out _ (ht.out.below (here w))).mono ?_
            rintro e w1 ⟨rfl, hb⟩
            have A1 := Lib.hid (down (here w) hb)
            clear hb
            go_wp2
            go_ret2
            exact ⟨rfl, by first | exact A1.out | exact grow A1.out _ | exact below_drewN A1.out _ | exact grow (grow A1.out _) _ | exact grow (grow (grow A1.out _) _) _⟩
set_option maxRecDepth 100000 in
set_option maxHeartbeats 1000000 in
theorem ufind (n : Int) (hn : I64 n) (w : World) (ht : Tabs w) :
    Calls Tryd.prog 27 #[.int .i64 n] w fun e w' => e = .returned (.tuple #[.int .i64 (ffY n), .int .i64 (ffO n), .int .i64 (ffE n)]) ∧ Below w.heap.size w w' := by
  have HD := fun w => cdate_all n hn w
  obtain ⟨h0, h1⟩ := hn
  unfold ffY ffO ffE
  unfold cdY cdM cdD cdE at HD
  cases a : dyB n
  · rw [a] at HD
    clear a
    replace HD : ∀ w, Calls Tryd.prog 26 #[.int .i64 n] w fun e w' => e = .returned (.tuple #[.agg #[.int .i64 0, .int .i64 0, .int .i64 0], .int .i64 2]) ∧ Below w.heap.size w w' := HD
    show Calls _ _ _ _ fun e w' => e = .returned (.tuple #[.int .i64 0, .int .i64 0, .int .i64 2]) ∧ Below w.heap.size w w'
    replace HD := Lib.hid HD
    replace ht := Lib.hid ht
    go_enter Tryd.func27, Tryd.ntmps27
    go_wp2_with fail
    refine (HD.out _).mono ?_
    rintro e w1 ⟨rfl, hb⟩
    have A1 := Lib.hid (down (here w) hb)
    clear hb
    go_wp2
    exact bodyPost_ret (v := .tuple #[.int .i64 0, .int .i64 0, .int .i64 2]) (by simp [results, Tryd.results27, go_sem]) rfl ⟨rfl, by first | exact A1.out | exact grow A1.out _ | exact below_drewN A1.out _ | exact grow (grow A1.out _) _ | exact grow (grow (grow A1.out _) _) _⟩
  · rw [a] at HD
    obtain ⟨n0, n1⟩ := dyB_iff.1 a
    have dv := dt_of n0 n1
    obtain ⟨y0, y1, -, -, -, -⟩ := vld_bd dv.1
    replace HD : ∀ w, Calls Tryd.prog 26 #[.int .i64 n] w fun e w' => e = .returned (.tuple #[.agg #[.int .i64 (dtY n), .int .i64 (dtM n), .int .i64 (dtD n)], .int .i64 0]) ∧ Below w.heap.size w w' := HD
    show Calls _ _ _ _ fun e w' => e = .returned (.tuple #[.int .i64 (dtY n), .int .i64 (n - feN (dtY n)), .int .i64 0]) ∧ Below w.heap.size w w'
    have fb := feN_in y0 y1
    obtain ⟨-, -, -, f0, f1⟩ := fb
    have HE := fun w ht => ueaster (dtY n) ⟨by omega, by omega⟩ w ht
    rcases yr_cases (dtY n) with ⟨z, -⟩ | ⟨-, -, -, -, -, e1, -, e2⟩
    · rw [yrB_iff.2 ⟨y0, y1⟩] at z; cases z
    rw [e1, e2] at HE
    clear a dv e1 e2
    generalize feN (dtY n) = F at *
    generalize dtY n = Y at *
    generalize dtM n = M at *
    generalize dtD n = D at *
    replace HD := Lib.hid HD
    replace HE := Lib.hid HE
    replace ht := Lib.hid ht
    go_enter Tryd.func27, Tryd.ntmps27
    go_wp2_with fail
    refine (HD.out _).mono ?_
    rintro e w1 ⟨rfl, hb⟩
    have A1 := Lib.hid (down (here w) hb)
    clear hb
    go_wp2_with fail
    refine (HE.out _ (ht.out.below (grow A1.out _))).mono ?_
    rintro e w2 ⟨rfl, hb⟩
    have A2 := Lib.hid (down (grow A1.out _) hb)
    have D2 := Lib.hid (Box.new hb)
    clear hb A1
    obtain ⟨d2_0, d2_1, d2_2, d2_z⟩ := D2.out
    go_wp2
    exact bodyPost_ret (v := .tuple #[.int .i64 Y, .int .i64 (n - F), .int .i64 0]) (by simp [results, Tryd.results27, go_sem]) rfl ⟨rfl, by first | exact A2.out | exact grow A2.out _ | exact below_drewN A2.out _ | exact grow (grow A2.out _) _ | exact grow (grow (grow A2.out _) _) _⟩
end Go.Proofs.YtljpjchcmiohpaaDoor
