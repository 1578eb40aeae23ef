/- The walks of ClockRounds, ClockNear: the Go text returns true, at every input. -/
import Derived.Test.YtehbegjocdahmaaDoorAwakeM
namespace Go.Proofs.YtehbegjocdahmaaDoor
open Go.RowKit
set_option linter.unusedVariables false

namespace ClockRounds
set_option maxRecDepth 100000 in
set_option maxHeartbeats 2000000 in
theorem walk (n u k : Int) (hn : (Lit.int .i64 n).wf = true) (hu : (Lit.int .i64 u).wf = true) (hk : (Lit.int .i64 k).wf = true) (w : World) (hl : Listed w) :
    Calls Tryd.prog 10 #[.int .i64 n, .int .i64 u, .int .i64 k] w fun e w' => e = .returned (.bool true) ∧ Below w.heap.size w w' := by
  have HK := Lib.hid (fun w => kround n u k (i64_wf hn) (i64_wf hu) (i64_wf hk) w)
  have HR := Lib.hid (fun w => rround n u k (i64_wf hn) (i64_wf hu) (i64_wf hk) w)
  have eb : ∀ n u k, 0 ≤ rE n u k ∧ rE n u k ≤ 2 := by intro n u k; unfold rE; split <;> (try split) <;> omega
  obtain ⟨e0, e1⟩ := eb n u k
  generalize rV n u k = V at *
  generalize rE n u k = E at *
  clear hn hu hk eb
  replace hl := Lib.hid hl
  go_enter Tryd.func10, Tryd.ntmps10
  go_wp2_with fail
  refine (awake_all _ hl.out).mono ?_
  rintro e w1 ⟨rfl, A1⟩
  replace A1 := Lib.hid A1
  go_wp2_with fail
  refine (HK.out _).mono ?_
  rintro e w2 ⟨rfl, m, rfl⟩
  go_wp2_with fail
  refine (HR.out _).mono ?_
  rintro e w2 ⟨rfl, m2, rfl⟩
  go_wp2
  go_ret
  exact ⟨rfl, below_drewN A1.out _⟩
end ClockRounds
theorem rE_zero {n u k : Int} (h : rE n u k = 0) : argB u k = true ∧ linB n = true ∧ linB (rndV n u k) = true ∧ rV n u k = rndV n u k := by
  unfold rE at h
  unfold rV
  cases a : argB u k
  · rw [a] at h; simp at h
  · cases b : linB n
    · rw [a, b] at h; simp at h
    · cases c : linB (rndV n u k)
      · rw [a, b, c] at h; simp at h
      · exact ⟨rfl, rfl, rfl, rfl⟩
theorem rV_bd (n u k : Int) : -4398046511104 ≤ rV n u k ∧ rV n u k ≤ 4398046511104 := by
  unfold rV
  split
  · rename_i h
    simp only [Bool.and_eq_true] at h
    exact linB_iff.1 h.2
  · omega
theorem linB_neg (x : Int) : linB (-x) = linB x := by rw [Bool.eq_iff_iff, linB_iff, linB_iff]; omega
theorem near_all (n m u k : Int) (e : rE n u k = 0) (f : rE m u k = 0) : ∃ A B U D N H K : Int, rV n u k = A ∧ rV m u k = B ∧ (rV A u k = A ∧ rE A u k = 0) ∧ (rV (-n) u 2 = U ∧ rE (-n) u 2 = H) ∧ (rV n u 1 = D ∧ rE n u 1 = H) ∧ (rV n u 3 = N ∧ rE n u 3 = K) ∧
    (1 ≤ u ∧ u ≤ 4398046511104 ∧ 1 ≤ k ∧ k ≤ 3) ∧ (-4398046511104 ≤ n ∧ n ≤ 4398046511104) ∧ (-4398046511104 ≤ m ∧ m ≤ 4398046511104) ∧ (n ≤ m → A ≤ B) ∧ A % u = 0 ∧ A - n < u ∧ n - A < u ∧ (H = 0 → U = -D) ∧ (H = 0 → K = 0 → N - n ≤ n - D ∧ D ≤ N ∧ (N = D ↔ 2 * (n - D) < u)) := by
  obtain ⟨a, b, c, d⟩ := rE_zero e
  obtain ⟨-, b', c', d'⟩ := rE_zero f
  have hu := argB_iff.1 a
  obtain ⟨u0, u1, k0, k1⟩ := hu
  have up : 0 < u := by omega
  have near := rnd_near (n := n) up k0 k1
  have hmod := rnd_mod (n := n) (k := k) up
  have again := rnd_again (n := rndV n u k) (k := k) up hmod
  have a2 : argB u 2 = true := argB_iff.2 ⟨u0, u1, by omega, by omega⟩
  have a1 : argB u 1 = true := argB_iff.2 ⟨u0, u1, by omega, by omega⟩
  have mir := rnd_mirror (n := n) up
  have hH : rE (-n) u 2 = rE n u 1 := by
    unfold rE; rw [a2, a1, linB_neg, mir, linB_neg]
  refine ⟨_, _, rV (-n) u 2, rV n u 1, rV n u 3, rE n u 1, rE n u 3, rfl, rfl, ?_, ⟨rfl, hH⟩, ⟨rfl, rfl⟩, ⟨rfl, rfl⟩, ⟨u0, u1, k0, k1⟩, linB_iff.1 b, linB_iff.1 b', ?_, ?_, ?_, ?_, ?_, ?_⟩
  · rw [d]; unfold rV rE; rw [again, a, c]; exact ⟨rfl, rfl⟩
  · intro q; rw [d, d']; exact rnd_mono up k0 k1 q
  · rw [d]; exact hmod
  · rw [d]; exact near.1
  · rw [d]; exact near.2
  · intro q
    obtain ⟨-, -, -, p⟩ := rE_zero q
    obtain ⟨-, -, -, p2⟩ := rE_zero (hH.trans q)
    rw [p, p2, mir]
  · intro q q2
    obtain ⟨-, -, -, p⟩ := rE_zero q
    obtain ⟨-, -, -, p2⟩ := rE_zero q2
    rw [p, p2]
    exact rnd_half up
namespace ClockNear
set_option maxRecDepth 100000 in
set_option maxHeartbeats 4000000 in
theorem bad (n m u k : Int) (hn : I64 n) (hm : I64 m) (hu : I64 u) (hk : I64 k) (h : ((rE n u k != 0) || (rE m u k != 0)) = true) (w : World) (hl : Listed w) :
    Calls Tryd.prog 11 #[.int .i64 n, .int .i64 m, .int .i64 u, .int .i64 k] w fun e w' => e = .returned (.bool true) ∧ Below w.heap.size w w' := by
  have HK := Lib.hid (fun w => kround n u k hn hu hk w)
  have HM := Lib.hid (fun w => kround m u k hm hu hk w)
  generalize rV n u k = V at *
  generalize rE n u k = E at *
  generalize rV m u k = V' at *
  generalize rE m u k = E' at *
  clear hn hu hk hm
  obtain ⟨a, ha⟩ : ∃ a, (E != 0) = a := ⟨_, rfl⟩
  obtain ⟨b, hb⟩ : ∃ a, (E' != 0) = a := ⟨_, rfl⟩
  rw [ha, hb] at h
  replace hl := Lib.hid hl
  cases a <;> cases b <;> (try cases h)
  all_goals
    go_enter Tryd.func11, Tryd.ntmps11
    go_wp2_with fail
    refine (awake_all _ hl.out).mono ?_
    rintro e w1 ⟨rfl, A1⟩
    replace A1 := Lib.hid A1
    go_wp2_with fail
    refine (HK.out _).mono ?_
    rintro e w2 ⟨rfl, m, rfl⟩
    go_wp2_with fail
    refine (HM.out _).mono ?_
    rintro e w2 ⟨rfl, m2, rfl⟩
    go_wp2
    go_ret
    exact ⟨rfl, below_drewN A1.out _⟩
set_option maxRecDepth 100000 in
set_option maxHeartbeats 8000000 in
theorem good (n m u k : Int) (hn : I64 n) (hm : I64 m) (hu : I64 u) (hk : I64 k) (e : rE n u k = 0) (f : rE m u k = 0) (w : World) (hl : Listed w) :
    Calls Tryd.prog 11 #[.int .i64 n, .int .i64 m, .int .i64 u, .int .i64 k] w fun e w' => e = .returned (.bool true) ∧ Below w.heap.size w w' := by
  obtain ⟨A, B, U, D, N, H, K, eA, eB, ⟨eG, eG2⟩, ⟨eU, eH⟩, ⟨eD, eI⟩, ⟨eN, eK⟩, ⟨u0, u1, k0, k1⟩, ⟨n0, n1⟩, ⟨m0, m1⟩, mono, amod, an, na, sym, half⟩ := near_all n m u k e f
  have bA := rV_bd n u k
  have bB := rV_bd m u k
  have bU := rV_bd (-n) u 2
  have bD := rV_bd n u 1
  have bN := rV_bd n u 3
  rw [eA] at bA
  rw [eB] at bB
  rw [eU] at bU
  rw [eD] at bD
  rw [eN] at bN
  obtain ⟨A0, A1⟩ := bA
  obtain ⟨B0, B1⟩ := bB
  obtain ⟨U0, U1⟩ := bU
  obtain ⟨D0, D1⟩ := bD
  obtain ⟨N0, N1⟩ := bN
  have HK := fun w => kround n u k hn hu hk w
  have HM := fun w => kround m u k hm hu hk w
  have HG := fun w => kround A u k ⟨by omega, by omega⟩ hu hk w
  have HU := fun w => kround (-n) u 2 ⟨by omega, by omega⟩ hu ⟨by omega, by omega⟩ w
  have HD := fun w => kround n u 1 hn hu ⟨by omega, by omega⟩ w
  have HN := fun w => kround n u 3 hn hu ⟨by omega, by omega⟩ w
  rw [eA, e] at HK
  rw [eB, f] at HM
  rw [eG, eG2] at HG
  rw [eU, eH] at HU
  rw [eD, eI] at HD
  rw [eN, eK] at HN
  clear e f eA eB eG eG2 eU eH eD eI eN eK
  replace HK := Lib.hid HK
  replace HM := Lib.hid HM
  replace HG := Lib.hid HG
  replace HU := Lib.hid HU
  replace HD := Lib.hid HD
  replace HN := Lib.hid HN
  have c0 : (decide (n ≤ m) && decide (B < A)) = false := by
    by_cases q : n ≤ m
    · have := mono q
      rw [decide_eq_false (show ¬ B < A by omega), Bool.and_false]
    · rw [decide_eq_false q, Bool.false_and]
  obtain ⟨c1, hc1⟩ : ∃ c, decide (n ≤ m) = c := ⟨_, rfl⟩
  obtain ⟨c2, hc2⟩ : ∃ c, decide (B < A) = c := ⟨_, rfl⟩
  rw [hc1, hc2] at c0
  have tm : A.tmod u = 0 := by
    rw [Int.tmod_eq_zero_of_dvd]; exact Int.dvd_of_emod_eq_zero amod
  have uz : ¬ u = 0 := by omega
  have q1 : decide (u ≤ A - n) = false := decide_eq_false (by omega)
  have q2 : decide (u ≤ n - A) = false := decide_eq_false (by omega)
  obtain ⟨hz, hhz⟩ : ∃ c, (H == 0) = c := ⟨_, rfl⟩
  have hz2 : (H != 0) = !hz := by rw [← hhz]; rfl
  obtain ⟨kz, hkz⟩ : ∃ c, (K != 0) = c := ⟨_, rfl⟩
  have s1 : hz = true → U = -D := fun x => sym (by rw [x] at hhz; simpa using hhz)
  have s2 : hz = true → kz = false → decide (N - n ≤ n - D) = true ∧ decide (D ≤ N) = true ∧ (N == D) = decide (2 * (n - D) < u) := by
    intro x y
    obtain ⟨p, q, r⟩ := half (by rw [x] at hhz; simpa using hhz) (by rw [y] at hkz; simpa using hkz)
    refine ⟨decide_eq_true p, decide_eq_true q, ?_⟩
    rw [Bool.eq_iff_iff, beq_iff_eq, decide_eq_true_eq]; exact r
  clear mono amod an na sym half hn hm hu hk
  replace hl := Lib.hid hl
  cases hz
  · clear s1 s2
    cases kz <;> cases c1 <;> cases c2 <;> (try cases c0)
    all_goals
      go_enter Tryd.func11, Tryd.ntmps11
      go_wp2_with fail
      refine (awake_all _ hl.out).mono ?_
      rintro e w1 ⟨rfl, W1⟩
      replace W1 := Lib.hid W1
      go_wp2_with fail
      refine (HK.out _).mono ?_
      rintro e w2 ⟨rfl, m2, rfl⟩
      go_wp2_with fail
      refine (HM.out _).mono ?_
      rintro e w2 ⟨rfl, m3, rfl⟩
      go_wp2_with fail
      refine (HG.out _).mono ?_
      rintro e w2 ⟨rfl, m4, rfl⟩
      go_wp2_with fail
      refine (HU.out _).mono ?_
      rintro e w2 ⟨rfl, m5, rfl⟩
      go_wp2_with fail
      refine (HD.out _).mono ?_
      rintro e w2 ⟨rfl, m6, rfl⟩
      go_wp2_with fail
      refine (HN.out _).mono ?_
      rintro e w2 ⟨rfl, m7, rfl⟩
      go_wp2
      go_ret
      exact ⟨rfl, below_drewN W1.out _⟩
  · obtain rfl := s1 rfl
    cases kz
    · obtain ⟨x1, x2, x3⟩ := s2 rfl rfl
      obtain ⟨x4, hx4⟩ : ∃ c, decide (2 * (n - D) < u) = c := ⟨_, rfl⟩
      rw [hx4] at x3
      clear s1 s2
      cases x4 <;> cases c1 <;> cases c2 <;> (try cases c0)
      all_goals
        go_enter Tryd.func11, Tryd.ntmps11
        go_wp2_with fail
        refine (awake_all _ hl.out).mono ?_
        rintro e w1 ⟨rfl, W1⟩
        replace W1 := Lib.hid W1
        go_wp2_with fail
        refine (HK.out _).mono ?_
        rintro e w2 ⟨rfl, m2, rfl⟩
        go_wp2_with fail
        refine (HM.out _).mono ?_
        rintro e w2 ⟨rfl, m3, rfl⟩
        go_wp2_with fail
        refine (HG.out _).mono ?_
        rintro e w2 ⟨rfl, m4, rfl⟩
        go_wp2_with fail
        refine (HU.out _).mono ?_
        rintro e w2 ⟨rfl, m5, rfl⟩
        go_wp2_with fail
        refine (HD.out _).mono ?_
        rintro e w2 ⟨rfl, m6, rfl⟩
        go_wp2_with fail
        refine (HN.out _).mono ?_
        rintro e w2 ⟨rfl, m7, rfl⟩
        go_wp2
        go_ret
        exact ⟨rfl, below_drewN W1.out _⟩
    · clear s1 s2
      cases c1 <;> cases c2 <;> (try cases c0)
      all_goals
        go_enter Tryd.func11, Tryd.ntmps11
        go_wp2_with fail
        refine (awake_all _ hl.out).mono ?_
        rintro e w1 ⟨rfl, W1⟩
        replace W1 := Lib.hid W1
        go_wp2_with fail
        refine (HK.out _).mono ?_
        rintro e w2 ⟨rfl, m2, rfl⟩
        go_wp2_with fail
        refine (HM.out _).mono ?_
        rintro e w2 ⟨rfl, m3, rfl⟩
        go_wp2_with fail
        refine (HG.out _).mono ?_
        rintro e w2 ⟨rfl, m4, rfl⟩
        go_wp2_with fail
        refine (HU.out _).mono ?_
        rintro e w2 ⟨rfl, m5, rfl⟩
        go_wp2_with fail
        refine (HD.out _).mono ?_
        rintro e w2 ⟨rfl, m6, rfl⟩
        go_wp2_with fail
        refine (HN.out _).mono ?_
        rintro e w2 ⟨rfl, m7, rfl⟩
        go_wp2
        go_ret
        exact ⟨rfl, below_drewN W1.out _⟩
theorem walk (n m u k : Int) (hn : (Lit.int .i64 n).wf = true) (hm : (Lit.int .i64 m).wf = true) (hu : (Lit.int .i64 u).wf = true) (hk : (Lit.int .i64 k).wf = true) (w : World) (hl : Listed w) :
    Calls Tryd.prog 11 #[.int .i64 n, .int .i64 m, .int .i64 u, .int .i64 k] w fun e w' => e = .returned (.bool true) ∧ Below w.heap.size w w' := by
  by_cases h : ((rE n u k != 0) || (rE m u k != 0)) = true
  · exact bad n m u k (i64_wf hn) (i64_wf hm) (i64_wf hu) (i64_wf hk) h w hl
  · rw [Bool.not_eq_true, Bool.or_eq_false_iff] at h
    exact good n m u k (i64_wf hn) (i64_wf hm) (i64_wf hu) (i64_wf hk) (by simpa using h.1) (by simpa using h.2) w hl
end ClockNear
end Go.Proofs.YtehbegjocdahmaaDoor
