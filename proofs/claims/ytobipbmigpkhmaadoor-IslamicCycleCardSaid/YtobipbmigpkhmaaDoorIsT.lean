/- Contracts of package islamic: groups of months. -/
import Derived.Test.YtobipbmigpkhmaaDoorIsS
namespace Go.Proofs.YtobipbmigpkhmaaDoor
open Go.RowKit
set_option linter.unusedVariables false

theorem quiet_below {w w' : World} (h : ∃ n, w' = w.drewN n) : Below w.heap.size w w' := by obtain ⟨n, hw⟩ := h; rw [hw]; exact below_drewN (here _) _
theorem ximonths_kind (k f n : Int) (hk : I64 k) (hf : I64 f) (hn : I64 n) (h : ikd k = false) (w : World) :
    Calls Tryd.prog 27 #[.int .i64 k, .int .i64 f, .int .i64 n] w fun e w' => e = .returned (.tuple #[.agg #[.int .i64 0, .int .i64 0, .slice none 0 0], .int .i64 1]) ∧ Below w.heap.size w w' := by
  have HK := fun w => xikd k hk w
  rw [h] at HK
  replace HK := Lib.hid HK
  clear h
  go_enter Tryd.func27, Tryd.ntmps27
  go_wp2_with fail
  refine (HK.out _).mono ?_
  rintro e w1 ⟨rfl, rfl⟩
  go_wp2
  exact bodyPost_ret (v := .tuple #[.agg #[.int .i64 0, .int .i64 0, .slice none 0 0], .int .i64 1]) (by simp [results, Tryd.results27, go_sem]) rfl ⟨rfl, grow (here w) _⟩
set_option maxHeartbeats 400000 in
theorem ximonths_arg (k f n : Int) (hf : I64 f) (hn : I64 n) (h : ikd k = true) (h2 : n < 1 ∨ 360 < n ∨ ¬ 360 % n = 0) (w : World) :
    Calls Tryd.prog 27 #[.int .i64 k, .int .i64 f, .int .i64 n] w fun e w' => e = .returned (.tuple #[.agg #[.int .i64 0, .int .i64 0, .slice none 0 0], .int .i64 1]) ∧ Below w.heap.size w w' := by
  obtain ⟨k0, k1⟩ := ikd_iff.1 h
  have HK := fun w => xikd k ⟨by omega, by omega⟩ w
  rw [h] at HK
  replace HK := Lib.hid HK
  clear h
  obtain ⟨n0, n1⟩ := hn
  by_cases a : n < 1
  · have q : decide (n < 1) = true := decide_eq_true a
    clear h2
    go_enter Tryd.func27, Tryd.ntmps27
    go_wp2_with fail
    refine (HK.out _).mono ?_
    rintro e w1 ⟨rfl, rfl⟩
    go_wp2
    exact bodyPost_ret (v := .tuple #[.agg #[.int .i64 0, .int .i64 0, .slice none 0 0], .int .i64 1]) (by simp [results, Tryd.results27, go_sem]) rfl ⟨rfl, grow (here w) _⟩
  · by_cases b : 360 < n
    · have q : decide (n < 1) = false := decide_eq_false a
      have q2 : decide (360 < n) = true := decide_eq_true b
      clear h2
      go_enter Tryd.func27, Tryd.ntmps27
      go_wp2_with fail
      refine (HK.out _).mono ?_
      rintro e w1 ⟨rfl, rfl⟩
      go_wp2
      exact bodyPost_ret (v := .tuple #[.agg #[.int .i64 0, .int .i64 0, .slice none 0 0], .int .i64 1]) (by simp [results, Tryd.results27, go_sem]) rfl ⟨rfl, grow (here w) _⟩
    · have q : decide (n < 1) = false := decide_eq_false a
      have q2 : decide (360 < n) = false := decide_eq_false b
      have q3 : ¬ 360 % n = 0 := by omega
      have HM := fun w => cmodn 360 n ⟨by omega, by omega⟩ (by omega) (by omega) w
      have q4 : (360 % n != 0) = true := by simpa using q3
      have rb := Int.emod_nonneg 360 (show n ≠ 0 by omega)
      clear h2 a b q3
      generalize 360 % n = r at *
      replace HM := Lib.hid HM
      go_enter Tryd.func27, Tryd.ntmps27
      go_wp2_with fail
      refine (HK.out _).mono ?_
      rintro e w1 ⟨rfl, rfl⟩
      go_wp2_with fail
      refine (HM.out _).mono ?_
      rintro e w1 ⟨rfl, hb⟩
      replace hb := quiet_below hb
      have A1 := Lib.hid (down (grow (here w) _) hb)
      have B1 := Lib.hid (Box.new hb)
      have F1 := Lib.hid (Free.new hb)
      clear hb
      obtain ⟨c0, c1, c2, cz⟩ := B1.out
      obtain ⟨f0, f1, f2⟩ := F1.out
      go_wp2
      obtain ⟨w9, hw9⟩ : ∃ w9 : World, (((w1.setCell ⟨w.heap.size, 0, none⟩ (.int .i64 0)).setCell ⟨w.heap.size, 1, none⟩ (.int .i64 0)).setCell ⟨w.heap.size, 2, none⟩ (.slice none 0 0)) = w9 := ⟨_, rfl⟩
      have B9 : Box w9 w.heap.size (.int .i64 0) (.int .i64 0) (.slice none 0 0) := by rw [← hw9]; exact ((B1.out.put0 _).put1 _).put2 _
      have A9 : Below w.heap.size w w9 := by
        rw [← hw9]
        exact (((A1.out.setCell (p := ⟨w.heap.size, 0, none⟩) (Nat.le_refl _) (.int .i64 0)).setCell (p := ⟨w.heap.size, 1, none⟩) (Nat.le_refl _) (.int .i64 0)).setCell (p := ⟨w.heap.size, 2, none⟩) (Nat.le_refl _) (.slice none 0 0))
      obtain ⟨e0, e1, e2, -⟩ := B9
      rw [hw9]
      exact bodyPost_ret (v := .tuple #[.agg #[.int .i64 0, .int .i64 0, .slice none 0 0], .int .i64 1]) (by simp [results, Tryd.results27, go_sem, e0, e1, e2]) rfl ⟨rfl, A9⟩
set_option maxHeartbeats 400000 in
theorem ximonths_range (k f n : Int) (hf : I64 f) (h : ikd k = true) (n0 : 1 ≤ n) (n1 : n ≤ 360) (hd : 360 % n = 0) (h2 : f < 1 ∨ 9571 < f ∨ ¬ (f - 1) % 30 = 0) (w : World) :
    Calls Tryd.prog 27 #[.int .i64 k, .int .i64 f, .int .i64 n] w fun e w' => e = .returned (.tuple #[.agg #[.int .i64 0, .int .i64 0, .slice none 0 0], .int .i64 2]) ∧ Below w.heap.size w w' := by
  obtain ⟨k0, k1⟩ := ikd_iff.1 h
  have HK := fun w => xikd k ⟨by omega, by omega⟩ w
  rw [h] at HK
  replace HK := Lib.hid HK
  clear h
  obtain ⟨f0, f1⟩ := hf
  have q : decide (n < 1) = false := decide_eq_false (by omega)
  have q2 : decide (360 < n) = false := decide_eq_false (by omega)
  have HM := fun w => cmodn 360 n ⟨by omega, by omega⟩ (by omega) (by omega) w
  rw [hd] at HM
  replace HM := Lib.hid HM
  clear hd
  by_cases a : f < 1
  · have q3 : decide (f < 1) = true := decide_eq_true a
    clear h2
    go_enter Tryd.func27, Tryd.ntmps27
    go_wp2_with fail
    refine (HK.out _).mono ?_
    rintro e w1 ⟨rfl, rfl⟩
    go_wp2_with fail
    refine (HM.out _).mono ?_
    rintro e w1 ⟨rfl, hb⟩
    replace hb := quiet_below hb
    have A1 := Lib.hid (down (grow (here w) _) hb)
    have B1 := Lib.hid (Box.new hb)
    have F1 := Lib.hid (Free.new hb)
    clear hb
    obtain ⟨c0, c1, c2, cz⟩ := B1.out
    obtain ⟨f0, f1, f2⟩ := F1.out
    go_wp2
    obtain ⟨w9, hw9⟩ : ∃ w9 : World, (((w1.setCell ⟨w.heap.size, 0, none⟩ (.int .i64 0)).setCell ⟨w.heap.size, 1, none⟩ (.int .i64 0)).setCell ⟨w.heap.size, 2, none⟩ (.slice none 0 0)) = w9 := ⟨_, rfl⟩
    have B9 : Box w9 w.heap.size (.int .i64 0) (.int .i64 0) (.slice none 0 0) := by rw [← hw9]; exact ((B1.out.put0 _).put1 _).put2 _
    have A9 : Below w.heap.size w w9 := by
      rw [← hw9]
      exact (((A1.out.setCell (p := ⟨w.heap.size, 0, none⟩) (Nat.le_refl _) (.int .i64 0)).setCell (p := ⟨w.heap.size, 1, none⟩) (Nat.le_refl _) (.int .i64 0)).setCell (p := ⟨w.heap.size, 2, none⟩) (Nat.le_refl _) (.slice none 0 0))
    obtain ⟨e0, e1, e2, -⟩ := B9
    rw [hw9]
    exact bodyPost_ret (v := .tuple #[.agg #[.int .i64 0, .int .i64 0, .slice none 0 0], .int .i64 2]) (by simp [results, Tryd.results27, go_sem, e0, e1, e2]) rfl ⟨rfl, A9⟩
  · have q3 : decide (f < 1) = false := decide_eq_false a
    by_cases b : 9600 < f
    · have q4 : decide (9600 < f) = true := decide_eq_true b
      clear h2
      go_enter Tryd.func27, Tryd.ntmps27
      go_wp2_with fail
      refine (HK.out _).mono ?_
      rintro e w1 ⟨rfl, rfl⟩
      go_wp2_with fail
      refine (HM.out _).mono ?_
      rintro e w1 ⟨rfl, hb⟩
      replace hb := quiet_below hb
      have A1 := Lib.hid (down (grow (here w) _) hb)
      have B1 := Lib.hid (Box.new hb)
      have F1 := Lib.hid (Free.new hb)
      clear hb
      obtain ⟨c0, c1, c2, cz⟩ := B1.out
      obtain ⟨f0, f1, f2⟩ := F1.out
      go_wp2
      obtain ⟨w9, hw9⟩ : ∃ w9 : World, (((w1.setCell ⟨w.heap.size, 0, none⟩ (.int .i64 0)).setCell ⟨w.heap.size, 1, none⟩ (.int .i64 0)).setCell ⟨w.heap.size, 2, none⟩ (.slice none 0 0)) = w9 := ⟨_, rfl⟩
      have B9 : Box w9 w.heap.size (.int .i64 0) (.int .i64 0) (.slice none 0 0) := by rw [← hw9]; exact ((B1.out.put0 _).put1 _).put2 _
      have A9 : Below w.heap.size w w9 := by
        rw [← hw9]
        exact (((A1.out.setCell (p := ⟨w.heap.size, 0, none⟩) (Nat.le_refl _) (.int .i64 0)).setCell (p := ⟨w.heap.size, 1, none⟩) (Nat.le_refl _) (.int .i64 0)).setCell (p := ⟨w.heap.size, 2, none⟩) (Nat.le_refl _) (.slice none 0 0))
      obtain ⟨e0, e1, e2, -⟩ := B9
      rw [hw9]
      exact bodyPost_ret (v := .tuple #[.agg #[.int .i64 0, .int .i64 0, .slice none 0 0], .int .i64 2]) (by simp [results, Tryd.results27, go_sem, e0, e1, e2]) rfl ⟨rfl, A9⟩
    · have q4 : decide (9600 < f) = false := decide_eq_false b
      have q5 : ¬ (f - 1) % 30 = 0 := by omega
      have HN := fun w => cmodn (f - 1) 30 ⟨by omega, by omega⟩ (by omega) (by omega) w
      have q6 : ((f - 1) % 30 != 0) = true := by simpa using q5
      have f0' : 1 ≤ f := by omega
      have f1' : f ≤ 9600 := by omega
      clear h2 a b q5
      generalize (f - 1) % 30 = r at *
      replace HN := Lib.hid HN
      go_enter Tryd.func27, Tryd.ntmps27
      go_wp2_with fail
      refine (HK.out _).mono ?_
      rintro e w1 ⟨rfl, rfl⟩
      go_wp2_with fail
      refine (HM.out _).mono ?_
      rintro e w1 ⟨rfl, hb⟩
      replace hb := quiet_below hb
      have A1 := Lib.hid (down (grow (here w) _) hb)
      have B1 := Lib.hid (Box.new hb)
      have F1 := Lib.hid (Free.new hb)
      clear hb
      go_wp2_with fail
      refine (HN.out _).mono ?_
      rintro e w2 ⟨rfl, hb⟩
      replace hb := quiet_below hb
      have A2 := Lib.hid (down A1.out hb)
      have B2 := Lib.hid (B1.out.keep hb)
      have F2 := Lib.hid (F1.out.keep B1.out.lt hb)
      clear hb A1 B1 F1
      obtain ⟨c0, c1, c2, cz⟩ := B2.out
      obtain ⟨f0, f1, f2⟩ := F2.out
      go_wp2
      obtain ⟨w9, hw9⟩ : ∃ w9 : World, (((w2.setCell ⟨w.heap.size, 0, none⟩ (.int .i64 0)).setCell ⟨w.heap.size, 1, none⟩ (.int .i64 0)).setCell ⟨w.heap.size, 2, none⟩ (.slice none 0 0)) = w9 := ⟨_, rfl⟩
      have B9 : Box w9 w.heap.size (.int .i64 0) (.int .i64 0) (.slice none 0 0) := by rw [← hw9]; exact ((B2.out.put0 _).put1 _).put2 _
      have A9 : Below w.heap.size w w9 := by
        rw [← hw9]
        exact (((A2.out.setCell (p := ⟨w.heap.size, 0, none⟩) (Nat.le_refl _) (.int .i64 0)).setCell (p := ⟨w.heap.size, 1, none⟩) (Nat.le_refl _) (.int .i64 0)).setCell (p := ⟨w.heap.size, 2, none⟩) (Nat.le_refl _) (.slice none 0 0))
      obtain ⟨e0, e1, e2, -⟩ := B9
      rw [hw9]
      exact bodyPost_ret (v := .tuple #[.agg #[.int .i64 0, .int .i64 0, .slice none 0 0], .int .i64 2]) (by simp [results, Tryd.results27, go_sem, e0, e1, e2]) rfl ⟨rfl, A9⟩
set_option maxHeartbeats 2000000 in
set_option maxRecDepth 100000 in
theorem ximonths_yes (k f n : Int) (c : Nat) (h : ikd k = true) (n0 : 1 ≤ n) (n1 : n ≤ 360) (hc : (c : Int) * n = 360) (f0 : 1 ≤ f) (f1 : f ≤ 9571) (hf : (f - 1) % 30 = 0) (w : World) (ht : Tabs w) :
    Calls Tryd.prog 27 #[.int .i64 k, .int .i64 f, .int .i64 n] w fun e w' => (∃ v, e = .returned (.tuple #[.agg #[.int .i64 (ifirst k f), .int .i64 10631, v], .int .i64 0]) ∧ PairS w.heap.size w' v (ispans k n c)) ∧ Below w.heap.size w w' := by
  obtain ⟨k0, k1⟩ := ikd_iff.1 h
  have HK := fun w => xikd k ⟨by omega, by omega⟩ w
  rw [h] at HK
  replace HK := Lib.hid HK
  have q : decide (n < 1) = false := decide_eq_false (by omega)
  have q2 : decide (360 < n) = false := decide_eq_false (by omega)
  have hd : 360 % n = 0 := by rw [← hc]; exact Int.mul_emod_left _ _
  have qz : ¬ n = 0 := by omega
  have hq : (360 : Int) / n = c := by rw [← hc]; exact Int.mul_ediv_cancel _ qz
  have HM := fun w => cmodn 360 n ⟨by omega, by omega⟩ (by omega) (by omega) w
  rw [hd] at HM
  replace HM := Lib.hid HM
  have q6 : decide (f < 1) = false := decide_eq_false (by omega)
  have q7 : decide (9600 < f) = false := decide_eq_false (by omega)
  have HN := fun w => cmodn (f - 1) 30 ⟨by omega, by omega⟩ (by omega) (by omega) w
  rw [hf] at HN
  replace HN := Lib.hid HN
  have HW := fun w ht => xinew_in k f ⟨by omega, by omega⟩ h f0 (by omega) w ht
  have HC := Lib.hid (fun j (j0 : 0 ≤ j) (j1 : j ≤ 360) w ht => xidic k j k0 k1 j0 j1 w ht)
  have HB : Hid (∀ j : Int, 0 ≤ j → j ≤ 360 → 0 ≤ imon k j ∧ imon k j ≤ 10631) := fun j j0 j1 => imon_bd k0 k1 j0 j1
  have GC := Lib.hid hc
  obtain ⟨i0, hi, hz0, hz1, hz2⟩ := info_parts infoSpan
  have hcl : c ≤ 360 := by
    rcases Nat.lt_or_ge 360 c with z | z
    · have := Int.mul_le_mul_of_nonneg_left (show (1 : Int) ≤ n by omega) (show (0 : Int) ≤ (c : Int) by omega)
      omega
    · exact z
  clear h hd hf hc
  generalize ifirst k f = O at *
  replace HW := Lib.hid HW
  go_enter Tryd.func27, Tryd.ntmps27
  go_wp2_with fail
  refine (HK.out _).mono ?_
  rintro e w1 ⟨rfl, rfl⟩
  go_wp2_with fail
  refine (HM.out _).mono ?_
  rintro e w1 ⟨rfl, hb⟩
  replace hb := quiet_below hb
  have A1 := Lib.hid (down (grow (here w) _) hb)
  have B1 := Lib.hid (Box.new hb)
  have F1 := Lib.hid (Free.new hb)
  clear hb
  go_wp2_with fail
  refine (HN.out _).mono ?_
  rintro e w2 ⟨rfl, hb⟩
  replace hb := quiet_below hb
  have A2 := Lib.hid (down A1.out hb)
  have B2 := Lib.hid (B1.out.keep hb)
  have F2 := Lib.hid (F1.out.keep B1.out.lt hb)
  clear hb A1 B1 F1
  go_wp2_with fail
  refine (HW.out _ (ht.below A2.out)).mono ?_
  rintro e w3 ⟨rfl, hb⟩
  replace hb := quiet_below hb
  have A3 := Lib.hid (down A2.out hb)
  have B3 := Lib.hid (B2.out.keep hb)
  have F3 := Lib.hid (F2.out.keep B2.out.lt hb)
  clear hb A2 B2 F2
  go_wp2_with (at_make; refine wpList_make_own _ rfl _ _ 42 rfl w3.heap.size 60 i0 (.agg #[.int .i64 0, .int .i64 0]) 2 Tryd.underlying42 hi hz0 hz1 _ _ _ c rfl rfl ?mC ?m2 ?m3 ?m4 ?_)
  case mC => first | rfl | exact hq
  case m2 => rw [hz2]; omega
  case m3 => unfold maxLen; omega
  case m4 => exact Nat.le_refl _
  intro w4 hown hgrow
  have G : Below w3.heap.size w3 w4 := (Below.refl _ _).grown hgrow (Nat.le_refl _) (by intro k hk; cases hk)
  have A4 := Lib.hid (A3.out.trans (G.mono A3.out.size))
  have B4 := Lib.hid (B3.out.keep G)
  have F4 := Lib.hid (F3.out.keep B3.out.lt G)
  have O4 := Lib.hid hown
  have S4 : Hid (w3.heap.size ≤ w4.heap.size) := G.size
  have ne : Hid (w.heap.size < w3.heap.size) := B3.out.lt
  clear hown hgrow G A3 B3 F3
  go_wp2
  go_loopw [10, 11] (fun a b wr => ∃ (i : Nat) (X : Int) (v : Value), Hid (X = i * n) ∧ 0 ≤ X ∧ X ≤ 360 ∧ v = a ∧ b = .int .i64 X ∧ Hid (Below w3.heap.size w4 wr) ∧ Hid (w3.heap.size ≤ wr.heap.size) ∧ Hid (Box wr w.heap.size (.int .i64 0) (.int .i64 0) (.slice none 0 0)) ∧ Hid (Free wr w.heap.size) ∧
      Hid (wr.ownsRow w3.heap.size 60 2 v i (pairs (ispans k n i)))) (fun _ b _ => (360 - intOf b).toNat)
  case atStart => exact ⟨0, 0, _, by show (0 : Int) = _; simp, by omega, by omega, rfl, rfl, Below.refl _ _, S4.out, B4.out, F4.out, O4.out⟩
  case round =>
    obtain ⟨i, X, v, hX, X0, X1, rfl, rfl, HA, HS, HBx, HF, HO⟩ := hrel
    by_cases z : X < 360
    · have kz : decide (X < 360) = true := decide_eq_true z
      obtain ⟨g1, g2, g3⟩ := group_le n0 GC.out hX.out z
      have hX' : Hid (X + n = ((i + 1 : Nat) : Int) * n) := g3.symm
      have hsp : Hid (pairs (ispans k n (i + 1)) = pairs (ispans k n i) ++ [.int .i64 (imon k X), .int .i64 (imon k (X + n))]) := by
        show _ = _
        rw [ispans_succ, pairs_append, ← hX.out]; rfl
      have hicl : i < 360 := by omega
      have HC1 := fun w ht => HC.out X X0 X1 w ht
      have HC2 := fun w ht => HC.out (X + n) (by omega) g2 w ht
      generalize imon k X = P at *
      generalize imon k (X + n) = E at *
      replace HC1 := Lib.hid HC1
      replace HC2 := Lib.hid HC2
      clear hX g3 GC HC HB HK HM HN HW
      go_wp2_with fail
      refine (HC1.out _ (ht.below (A4.out.trans (HA.out.mono (Nat.le_of_lt ne.out))))).mono ?_
      rintro e w5 ⟨rfl, hb⟩
      replace hb := quiet_below hb
      have A5 := Lib.hid (HA.out.trans (hb.mono HS.out))
      have B5 := Lib.hid (HBx.out.keep hb)
      have F5 := Lib.hid (HF.out.keep HBx.out.lt hb)
      have O5 := Lib.hid (owns_below HO.out hb)
      have S5 : Hid (w3.heap.size ≤ w5.heap.size) := Nat.le_trans HS.out hb.size
      clear hb HA HBx HF HO HS
      go_wp2_with fail
      refine (HC2.out _ (ht.below (A4.out.trans (A5.out.mono (Nat.le_of_lt ne.out))))).mono ?_
      rintro e w6 ⟨rfl, hb⟩
      replace hb := quiet_below hb
      have A6 := Lib.hid (A5.out.trans (hb.mono S5.out))
      have B6 := Lib.hid (B5.out.keep hb)
      have F6 := Lib.hid (F5.out.keep B5.out.lt hb)
      have O6 := Lib.hid (owns_below O5.out hb)
      have S6 : Hid (w3.heap.size ≤ w6.heap.size) := Nat.le_trans S5.out hb.size
      clear hb A5 B5 F5 O5 S5
      go_wp2_with (at_builtin; refine wpList_append_own _ rfl _ _ 42 rfl w3.heap.size 60 i0 (.agg #[.int .i64 0, .int .i64 0]) 2 16 Tryd.underlying42 hi hz0 hz1 hz2 rfl (by decide) v i (pairs (ispans k n i)) rfl (O6.out.alloc _) ⟨w6.heap.size, 0, none⟩ 1 1 [.int .i64 P, .int .i64 E] rfl rfl ?c1 ?c2 ?c3 ?c4 ?c5 ?_)
      case c1 =>
        intro j u hj
        rw [Addr.add_lit, Nat.zero_add, World.cell?_alloc_new]
        simpa using hj
      case c2 => intro u hu; simp at hu; rcases hu with rfl | rfl <;> rfl
      case c3 => unfold maxLen; omega
      case c4 => omega
      case c5 => have := S6.out; simp; omega
      intro v' w7 hown hgrow _
      have G : Below w3.heap.size w6 w7 := ((Below.refl _ _).alloc S6.out _).grown hgrow (by have := S6.out; simp; omega) (own_ge O6.out)
      have A7 := Lib.hid (A6.out.trans G)
      have B7 := Lib.hid (B6.out.under G ne.out)
      have F7 := Lib.hid (F6.out.under G ne.out)
      have S7 : Hid (w3.heap.size ≤ w7.heap.size) := Nat.le_trans S6.out G.size
      have O7 : Hid (w7.ownsRow w3.heap.size 60 2 v' (i + 1) (pairs (ispans k n (i + 1)))) := by
        show World.ownsRow _ _ _ _ _ _ _
        rw [hsp.out]; exact hown
      clear hown hgrow G A6 B6 F6 O6 S6
      go_wp2
      go_roundw
      case rel => exact ⟨i + 1, X + n, _, hX', by omega, g2, rfl, rfl, A7, S7, B7, F7, O7⟩
      case measure => simp [intOf]; omega
    · obtain ⟨rfl, rfl⟩ := group_end n0 GC.out hX.out z X1
      have kz : decide ((360 : Int) < 360) = false := decide_eq_false (by omega)
      rcases HO.out.2 with ⟨-, hzz⟩ | ⟨g, cap, cur, rfl, -⟩
      · exact absurd GC.out (by rw [hzz]; simp)
      have A8 := Lib.hid (A4.out.trans (HA.out.mono (Nat.le_of_lt ne.out)))
      clear HK HM HN HW HC HB hX GC A4 B4 F4 O4 S4
      obtain ⟨c0, c1, c2, cz⟩ := HBx.out
      obtain ⟨e0, e1, e2⟩ := HF.out
      obtain ⟨w9, hw9⟩ : ∃ w9 : World, (((wr.setCell ⟨w.heap.size, 0, none⟩ (.int .i64 O)).setCell ⟨w.heap.size, 1, none⟩ (.int .i64 10631)).setCell ⟨w.heap.size, 2, none⟩ (.slice (some ⟨g, 0, none⟩) i cap)) = w9 := ⟨_, rfl⟩
      have B9 : Box w9 w.heap.size (.int .i64 O) (.int .i64 10631) (.slice (some ⟨g, 0, none⟩) i cap) := by rw [← hw9]; exact ((HBx.out.put0 _).put1 _).put2 _
      have A9 : Below w.heap.size w w9 := by rw [← hw9]; exact ((A8.out.setCell (Nat.le_refl _) _).setCell (Nat.le_refl _) _).setCell (Nat.le_refl _) _
      have O9 : w9.ownsRow w3.heap.size 60 2 (.slice (some ⟨g, 0, none⟩) i cap) i (pairs (ispans k n i)) := by
        rw [← hw9]; exact ownsRow_setCell_below (ownsRow_setCell_below (ownsRow_setCell_below HO.out ne.out _) ne.out _) ne.out _
      replace A9 := Lib.hid A9
      replace O9 := Lib.hid O9
      replace B9 := Lib.hid B9
      go_wp2
      obtain ⟨h0, h1, h2, -⟩ := B9.out
      exact bodyPost_ret (v := .tuple #[.agg #[.int .i64 O, .int .i64 10631, .slice (some ⟨g, 0, none⟩) i cap], .int .i64 0]) (by simp [results, Tryd.results27, go_sem, h0, h1, h2]) rfl ⟨⟨_, rfl, by have := (Sl.owns O9.out).weak (Nat.le_of_lt ne.out); unfold PairS; rw [ispans_length]; exact this⟩, A9.out⟩
theorem uimonths (k f n : Int) (hk : I64 k) (hf : I64 f) (hn : I64 n) (w : World) (ht : Tabs w) :
    Calls Tryd.prog 27 #[.int .i64 k, .int .i64 f, .int .i64 n] w fun e w' => (∃ v, e = .returned (.tuple #[.agg #[.int .i64 (imonO k f n), .int .i64 (imonP k f n), v], .int .i64 (imonE k f n)]) ∧ PairS w.heap.size w' v (imonL k f n)) ∧ Below w.heap.size w w' := by
  by_cases h : ikd k = false ∨ n < 1 ∨ 360 < n ∨ ¬ 360 % n = 0
  · obtain ⟨e1, e2, e3, e4⟩ := imon_arg (f := f) h
    rw [e1, e2, e3, e4]
    cases a : ikd k
    · exact (ximonths_kind k f n hk hf hn a w).mono fun e w' ⟨he, hb⟩ => ⟨⟨_, he, Sl.none _ _⟩, hb⟩
    · exact (ximonths_arg k f n hf hn a (by rcases h with h | h; (rw [a] at h; cases h); exact h) w).mono fun e w' ⟨he, hb⟩ => ⟨⟨_, he, Sl.none _ _⟩, hb⟩
  · obtain ⟨a, n0, n1, hd, hc, hl⟩ := imon_parts h
    by_cases h2 : f < 1 ∨ 9571 < f ∨ ¬ (f - 1) % 30 = 0
    · obtain ⟨e1, e2, e3, e4⟩ := imon_range h h2
      rw [e1, e2, e3, e4]
      exact (ximonths_range k f n hf a n0 n1 hd h2 w).mono fun e w' ⟨he, hb⟩ => ⟨⟨_, he, Sl.none _ _⟩, hb⟩
    · obtain ⟨e1, e2, e3, e4⟩ := imon_good h h2
      rw [e1, e2, e3, e4]
      exact ximonths_yes k f n _ a n0 n1 hc (by omega) (by omega) (by omega) w ht
end Go.Proofs.YtobipbmigpkhmaaDoor
