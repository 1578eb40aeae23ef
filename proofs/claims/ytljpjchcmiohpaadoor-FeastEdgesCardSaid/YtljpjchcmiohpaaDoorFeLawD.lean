/- The walk of FeastEdges: the Go text returns true, at every input. -/
import Derived.Test.YtljpjchcmiohpaaDoorFeAwake
import Derived.BigQuiet
import Derived.Deep.QuietTactic
import Derived.Deep.Cut
namespace Go.Proofs.YtljpjchcmiohpaaDoor
open Go.RowKit
set_option linter.unusedVariables false

theorem grow_to {w a : World} (h : Below w.heap.size w a) (o : Obj) : Below w.heap.size w (a.alloc o) := h.alloc h.size o
namespace FeastEdges
set_option maxRecDepth 100000 in
set_option maxHeartbeats 2000000 in
theorem good (y d M D : Int) (B : Int) (n : Nat) (x Y' : Int) (y0 : 1 ≤ y) (y1 : y ≤ 9999) (x0 : decide (x < 0) = false) (x1 : decide (300 < x) = false) (p : Int → Bool) (h : y + n ≤ y + x + 1) (h1 : n ≤ 301) (hn : 0 < n) (hp : p y = true)
    (HE : ∀ w, Tabs w → Calls Tryd.prog 17 #[.int .i64 y] w fun e w' => e = .returned (.tuple #[.int .i64 d, .int .i64 0]) ∧ Below w.heap.size w w')
    (HC : ∀ w, Calls Tryd.prog 26 #[.int .i64 d] w fun e w' => e = .returned (.tuple #[.agg #[.int .i64 Y', .int .i64 M, .int .i64 D], .int .i64 0]) ∧ Below w.heap.size w w')
    (HP : ∀ v, p v = true → ∃ g Z, (∀ w, Tabs w → Calls Tryd.prog 17 #[.int .i64 v] w fun e w' => e = .returned (.tuple #[.int .i64 g, .int .i64 0]) ∧ Below w.heap.size w w') ∧
      (∀ w, Calls Tryd.prog 26 #[.int .i64 g] w fun e w' => e = .returned (.tuple #[.agg #[.int .i64 Z, .int .i64 M, .int .i64 D], .int .i64 0]) ∧ Below w.heap.size w w'))
    (HL : ∀ w, Tabs w → Calls Tryd.prog 28 #[.int .i64 0, .int .i64 M, .int .i64 D, .int .i64 y, .int .i64 (y + x)] w fun e w' => (∃ v, e = .returned v ∧ IntS w.heap.size w' v (flt p y n)) ∧ Below w.heap.size w w') (w : World) (ht : Tabs w) :
    Calls Tryd.prog 10 #[.int .i64 y, .int .i64 x] w fun e w' => e = .returned (.bool true) ∧ Below w.heap.size w w' := by
  have x0' := of_decide_eq_false x0
  have x1' := of_decide_eq_false x1
  have HD := flt_head (p := p) (lo := y) hp hn
  have GT : ∀ i, i < (flt p y n).length → p ((flt p y n).getD i 0) = true ∧ y ≤ (flt p y n).getD i 0 ∧ (flt p y n).getD i 0 < y + n := fun i => flt_get
  have AS : ∀ i, i + 1 < (flt p y n).length → (flt p y n).getD i 0 < (flt p y n).getD (i + 1) 0 := fun i => flt_asc
  have LN := flt_len p y n
  generalize flt p y n = xs at *
  obtain ⟨l0, l1⟩ := HD
  have k1 : ((xs.length : Int) == 0) = false := by simp; intro q; rw [q] at l0; simp at l0
  replace l1 := Lib.hid l1
  replace GT := Lib.hid GT
  replace AS := Lib.hid AS
  replace HE := Lib.hid HE
  replace HC := Lib.hid HC
  replace HP := Lib.hid HP
  replace HL := Lib.hid HL
  have AW := Lib.hid (fun w ht => awake_all w ht)
  replace ht := Lib.hid ht
  go_enter Tryd.func10, Tryd.ntmps10
  go_wp2_with fail
  refine (AW.out _ (ht.out.below (here w))).mono ?_
  rintro e w1 ⟨rfl, hb⟩
  have A1 := Lib.hid (down (here w) hb)
  clear hb
  go_wp2_with fail
  refine (HE.out _ (ht.out.below A1.out)).mono ?_
  rintro e w2 ⟨rfl, hb⟩
  have A2 := Lib.hid (down A1.out hb)
  clear hb A1
  go_wp2_with fail
  refine (HC.out _).mono ?_
  rintro e w3 ⟨rfl, hb⟩
  have A3 := Lib.hid (down A2.out hb)
  clear hb A2
  go_wp2_with fail
  refine (HL.out _ (ht.out.below (grow A3.out _))).mono ?_
  rintro e w4 ⟨⟨v, rfl, hI⟩, hb⟩
  have A4 := Lib.hid (down (grow A3.out _) hb)
  have X4 := Lib.hid (Box.new hb)
  obtain ⟨q0, q1, q2, qz⟩ := X4.out
  rcases hI with ⟨hz, -⟩ | ⟨bb, off, cap, rfl, -, lies⟩
  · exact absurd hz (by omega)
  have P4 := Lib.hid lies
  generalize w3.heap.size = X at *
  have c0 : w4.cell? ⟨bb, off, Option.none⟩ = Option.some (.int .i64 y) := by
    have c := ints_at lies 0 l0
    rw [l1.out, Nat.add_zero] at c; exact c
  clear lies hb A3 HL HC HE
  go_wp2
  clear c0 q0 q1 q2 qz
  go_loopw [10] (fun i wr => ∃ k : Nat, k < xs.length ∧ i = .int .i64 ((k : Int) + 1) ∧ Hid (Below w.heap.size w wr) ∧ Hid (Box wr X (.int .i64 Y') (.int .i64 M) (.int .i64 D)) ∧ Hid (Lies wr bb off (ints xs))) (fun i _ => (1000 - intOf i).toNat)
  case atStart => exact ⟨0, l0, rfl, A4, X4, P4⟩
  case round =>
    obtain ⟨k, hk, rfl, AR, XR, PR⟩ := hrel
    clear A4 X4 P4
    by_cases z : k + 1 < xs.length
    · have kz : decide ((k : Int) + 1 < (xs.length : Int)) = true := decide_eq_true (by omega)
      have c := ints_at PR.out (k + 1) z
      have g := GT.out (k + 1) z
      have a := AS.out k z
      obtain ⟨G, Z, HE', HC'⟩ := HP.out _ g.1
      obtain ⟨v1, hv1⟩ : ∃ v1, xs.getD (k + 1) 0 = v1 := ⟨_, rfl⟩
      obtain ⟨v0, hv0⟩ : ∃ v0, xs.getD k 0 = v0 := ⟨_, rfl⟩
      rw [hv1] at c g a HE'
      rw [hv0] at a
      have E1 := Lib.hid hv1
      have E0 := Lib.hid hv0
      have k2 : decide (v1 ≤ v0) = false := decide_eq_false (by omega)
      have k3 : decide (y + x < v1) = false := decide_eq_false (by omega)
      clear hv1 hv0
      replace HE' := Lib.hid HE'
      replace HC' := Lib.hid HC'
      clear HP GT AS g a
      go_wp2_with fail
      refine (HE'.out _ (ht.out.below AR.out)).mono ?_
      rintro e w5 ⟨rfl, hb⟩
      have A5 := Lib.hid (down AR.out hb)
      have X5 := Lib.hid (XR.out.keep hb)
      have P5 := Lib.hid (PR.out.keep hb)
      clear hb AR XR PR c
      go_wp2_with fail
      refine (HC'.out _).mono ?_
      rintro e w6 ⟨rfl, hb⟩
      have A6 := Lib.hid (down A5.out hb)
      have X6 := Lib.hid (X5.out.keep hb)
      have P6 := Lib.hid (P5.out.keep hb)
      clear hb A5 X5 P5
      obtain ⟨w7, hw7⟩ : ∃ w7 : World, w6.alloc (.cells #[.int .i64 Z, .int .i64 M, .int .i64 D] 30) = w7 := ⟨_, rfl⟩
      have A7 : Hid (Below w.heap.size w w7) := by rw [← hw7]; exact grow_to A6.out _
      have X7 : Hid (Box w7 X (.int .i64 Y') (.int .i64 M) (.int .i64 D)) := by rw [← hw7]; exact X6.out.old _
      have Z7 : Hid (Box w7 w6.heap.size (.int .i64 Z) (.int .i64 M) (.int .i64 D)) := by rw [← hw7]; exact Box.new (here _)
      have P7 : Hid (Lies w7 bb off (ints xs)) := by rw [← hw7]; exact P6.out.keep (grow (here _) _)
      obtain ⟨q0, q1, q2, qz⟩ := X7.out
      obtain ⟨r0, r1, r2, rz⟩ := Z7.out
      have c1 := ints_at P7.out (k + 1) z
      have c2 := ints_at P7.out k (by omega)
      rw [E1.out] at c1
      rw [E0.out] at c2
      clear A6 X6 P6 E1 E0
      go_wp2
      clear hw7
      go_quiet (fail)
      go_wp2
      go_roundw
      case rel => exact ⟨k + 1, z, by go_num, Lib.hid (below_drewN A7.out _), Lib.hid (X7.out.drewN _), Lib.hid (P7.out.keep (below_drewN (here _) _))⟩
      case measure => simp [intOf]; omega
    · have kz : decide ((k : Int) + 1 < (xs.length : Int)) = false := decide_eq_false (by omega)
      clear HP GT AS
      go_wp2
      go_ret
      exact ⟨rfl, AR.out⟩
set_option maxRecDepth 100000 in
set_option maxHeartbeats 2000000 in
theorem walk (y x : Int) (hy : (Lit.int .i64 y).wf = true) (hx : (Lit.int .i64 x).wf = true) (w : World) (ht : Tabs w) :
    Calls Tryd.prog 10 #[.int .i64 y, .int .i64 x] w fun e w' => e = .returned (.bool true) ∧ Below w.heap.size w w' := by
  replace hy := i64_wf hy
  replace hx := i64_wf hx
  have HE := fun w ht => ueaster y hy w ht
  rcases yr_cases y with ⟨a, -, -, e1, -, e3⟩ | ⟨a, y0, y1, -, -, e1, -, e3⟩
  · rw [e1, e3] at HE
    replace HE := Lib.hid HE
    clear a e1 e3
    have AW := Lib.hid (fun w ht => awake_all w ht)
    replace ht := Lib.hid ht
    go_enter Tryd.func10, Tryd.ntmps10
    go_wp2_with fail
    refine (AW.out _ (ht.out.below (here w))).mono ?_
    rintro e w1 ⟨rfl, hb⟩
    have A1 := Lib.hid (down (here w) hb)
    clear hb
    go_wp2_with fail
    refine (HE.out _ (ht.out.below A1.out)).mono ?_
    rintro e w2 ⟨rfl, hb⟩
    have A2 := Lib.hid (down A1.out hb)
    clear hb A1
    go_wp2
    go_ret
    exact ⟨rfl, by first | exact A2.out | exact grow A2.out _ | exact below_drewN A2.out _ | exact grow (grow A2.out _) _ | exact grow (grow (grow A2.out _) _) _⟩
  · rw [e1, e3] at HE
    by_cases x0 : x < 0
    · have k0 : decide (x < 0) = true := decide_eq_true x0
      generalize feN y = d at *
      replace HE := Lib.hid HE
      clear a e1 e3
      have AW := Lib.hid (fun w ht => awake_all w ht)
      replace ht := Lib.hid ht
      go_enter Tryd.func10, Tryd.ntmps10
      go_wp2_with fail
      refine (AW.out _ (ht.out.below (here w))).mono ?_
      rintro e w1 ⟨rfl, hb⟩
      have A1 := Lib.hid (down (here w) hb)
      clear hb
      go_wp2_with fail
      refine (HE.out _ (ht.out.below A1.out)).mono ?_
      rintro e w2 ⟨rfl, hb⟩
      have A2 := Lib.hid (down A1.out hb)
      clear hb A1
      go_wp2
      go_ret
      exact ⟨rfl, by first | exact A2.out | exact grow A2.out _ | exact below_drewN A2.out _ | exact grow (grow A2.out _) _ | exact grow (grow (grow A2.out _) _) _⟩
    · by_cases x1 : 300 < x
      · have k0 : decide (x < 0) = false := decide_eq_false x0
        have k1 : decide (300 < x) = true := decide_eq_true x1
        generalize feN y = d at *
        replace HE := Lib.hid HE
        clear a e1 e3
        have AW := Lib.hid (fun w ht => awake_all w ht)
        replace ht := Lib.hid ht
        go_enter Tryd.func10, Tryd.ntmps10
        go_wp2_with fail
        refine (AW.out _ (ht.out.below (here w))).mono ?_
        rintro e w1 ⟨rfl, hb⟩
        have A1 := Lib.hid (down (here w) hb)
        clear hb
        go_wp2_with fail
        refine (HE.out _ (ht.out.below A1.out)).mono ?_
        rintro e w2 ⟨rfl, hb⟩
        have A2 := Lib.hid (down A1.out hb)
        clear hb A1
        go_wp2
        go_ret
        exact ⟨rfl, by first | exact A2.out | exact grow A2.out _ | exact below_drewN A2.out _ | exact grow (grow A2.out _) _ | exact grow (grow (grow A2.out _) _) _⟩
      · have fi := feN_in y0 y1
        have HC := fun w => cdate_all (feN y) ⟨by omega, by omega⟩ w
        have dy : dyB (feN y) = true := dyB_iff.2 (by omega)
        unfold cdY cdM cdD cdE at HC
        rw [dy] at HC
        simp only [if_true] at HC
        have vb := vld_bd (dt_of (n := feN y) (by omega) (by omega)).1
        have HL := fun w ht => uyears 0 (dtM (feN y)) (dtD (feN y)) y (y + x) ⟨by omega, by omega⟩ ⟨by omega, by omega⟩ ⟨by omega, by omega⟩ ⟨by omega, by omega⟩ ⟨by omega, by omega⟩ w ht
        have eA : max y 1 = y := by omega
        have nb : rgN y (min (y + x) 9999) ≤ 301 ∧ y + (rgN y (min (y + x) 9999) : Int) ≤ y + x + 1 ∧ 0 < rgN y (min (y + x) 9999) := by unfold rgN; omega
        rw [fyF_take (by rw [eA]; omega)] at HL
        unfold fyF at HL
        rw [eA] at HL
        refine good y _ _ _ 0 _ x _ y0 y1 (decide_eq_false x0) (decide_eq_false x1) _ nb.2.1 nb.1 nb.2.2 ?_ HE HC ?_ HL w ht
        · exact fyC_iff.2 ⟨fm_zero y0 y1, by rw [Int.add_zero], by rw [Int.add_zero]⟩
        · intro v hv
          obtain ⟨h1, h2, h3⟩ := fyC_iff.1 hv
          have q := fmB_iff.1 h1
          rw [Int.add_zero] at h2 h3 q
          have E := fun w ht => ueaster v ⟨by omega, by omega⟩ w ht
          rcases yr_cases v with ⟨a', -⟩ | ⟨-, -, -, -, -, e1', -, e3'⟩
          · rw [yrB_iff.2 ⟨q.1, q.2.1⟩] at a'; cases a'
          · rw [e1', e3'] at E
            have C := fun w => cdate_all (feN v) ⟨by omega, by omega⟩ w
            unfold cdY cdM cdD cdE at C
            rw [show dyB (feN v) = true from dyB_iff.2 (by omega)] at C
            simp only [if_true] at C
            rw [h2, h3] at C
            exact ⟨_, _, E, C⟩
end FeastEdges
end Go.Proofs.YtljpjchcmiohpaaDoor
