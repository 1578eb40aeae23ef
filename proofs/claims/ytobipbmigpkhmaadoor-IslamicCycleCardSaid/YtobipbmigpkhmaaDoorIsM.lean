/- Contracts of civiltimeref06: Months. -/
import Derived.Test.YtobipbmigpkhmaaDoorIsD
import Derived.Test.YtobipbmigpkhmaaDoorIsMon
namespace Go.Proofs.YtobipbmigpkhmaaDoor
open Go.RowKit
set_option linter.unusedVariables false

theorem Box.under {w w' : World} {B b : Nat} {x y z : Value} (h : Box w b x y z) (hb : Below B w w') (l : b < B) : Box w' b x y z := by
  refine ⟨?_, ?_, ?_, by have := hb.size; have := h.lt; omega⟩
  · rw [hb.cell (p := ⟨b, 0, none⟩) l]; exact h.c0
  · rw [hb.cell (p := ⟨b, 1, none⟩) l]; exact h.c1
  · rw [hb.cell (p := ⟨b, 2, none⟩) l]; exact h.c2
theorem Free.under {w w' : World} {B b : Nat} (h : Free w b) (hb : Below B w w') (l : b < B) : Free w' b :=
  ⟨by rw [hb.frozen (p := ⟨b, 0, none⟩) l]; exact h.f0, by rw [hb.frozen (p := ⟨b, 1, none⟩) l]; exact h.f1, by rw [hb.frozen (p := ⟨b, 2, none⟩) l]; exact h.f2⟩
theorem owns_below {w w' : World} {base : Nat} {e : TypeId} {size : Nat} {v : Value} {n : Nat} {xs : List Value} (h : w.ownsRow base e size v n xs) (hb : Below w.heap.size w w') : w'.ownsRow base e size v n xs :=
  h.kept (row := none) ⟨hb.os, hb.tape, hb.output, hb.size, fun k hk _ => hb.block k hk⟩ (by
    cases v.ownBlock <;> simp)
theorem own_ge {w : World} {base : Nat} {e : TypeId} {size : Nat} {v : Value} {n : Nat} {xs : List Value} (h : w.ownsRow base e size v n xs) : ∀ k, v.ownBlock = some k → base ≤ k := fun k hk => (h.lt k hk).1
theorem rimonths_kind (k f n : Int) (hk : I64 k) (hf : I64 f) (hn : I64 n) (h : ikd k = false) (w : World) :
    Calls Tryd.prog 28 #[.int .i64 k, .int .i64 f, .int .i64 n] w fun e w' => e = .returned (.tuple #[.agg #[.int .i64 0, .int .i64 0, .slice none 0 0], .int .i64 1]) ∧ Below w.heap.size w w' := by
  have HK := fun w => rikd k hk w
  rw [h] at HK
  replace HK := Lib.hid HK
  go_enter Tryd.func28, Tryd.ntmps28
  go_wp2_with fail
  refine (HK.out _).mono ?_
  rintro e w1 ⟨rfl, rfl⟩
  go_wp2
  exact bodyPost_ret (v := .tuple #[.agg #[.int .i64 0, .int .i64 0, .slice none 0 0], .int .i64 1]) (by simp [results, Tryd.results28, go_sem]) rfl ⟨rfl, grow (here w) _⟩
theorem rimonths_arg (k f n : Int) (hf : I64 f) (hn : I64 n) (h : ikd k = true) (h2 : n < 1 ∨ 360 < n ∨ ¬ 360 % n = 0) (w : World) :
    Calls Tryd.prog 28 #[.int .i64 k, .int .i64 f, .int .i64 n] w fun e w' => e = .returned (.tuple #[.agg #[.int .i64 0, .int .i64 0, .slice none 0 0], .int .i64 1]) ∧ Below w.heap.size w w' := by
  obtain ⟨k0, k1⟩ := ikd_iff.1 h
  have HK := fun w => rikd k ⟨by omega, by omega⟩ w
  rw [h] at HK
  replace HK := Lib.hid HK
  clear h
  by_cases a : n < 1
  · have q : decide (n < 1) = true := decide_eq_true a
    obtain ⟨n0, n1⟩ := hn
    clear h2
    go_enter Tryd.func28, Tryd.ntmps28
    go_wp2_with fail
    refine (HK.out _).mono ?_
    rintro e w1 ⟨rfl, rfl⟩
    go_wp2
    exact bodyPost_ret (v := .tuple #[.agg #[.int .i64 0, .int .i64 0, .slice none 0 0], .int .i64 1]) (by simp [results, Tryd.results28, go_sem]) rfl ⟨rfl, grow (here w) _⟩
  · by_cases b : 360 < n
    · have q : decide (n < 1) = false := decide_eq_false a
      have q2 : decide (360 < n) = true := decide_eq_true b
      obtain ⟨n0, n1⟩ := hn
      clear h2
      go_enter Tryd.func28, Tryd.ntmps28
      go_wp2_with fail
      refine (HK.out _).mono ?_
      rintro e w1 ⟨rfl, rfl⟩
      go_wp2
      exact bodyPost_ret (v := .tuple #[.agg #[.int .i64 0, .int .i64 0, .slice none 0 0], .int .i64 1]) (by simp [results, Tryd.results28, go_sem]) rfl ⟨rfl, grow (here w) _⟩
    · have q : decide (n < 1) = false := decide_eq_false a
      have q2 : decide (360 < n) = false := decide_eq_false b
      have q3 : ¬ 360 % n = 0 := by omega
      have q4 : (360 % n != 0) = true := by simpa using q3
      have qz : ¬ n = 0 := by omega
      have n0 : 1 ≤ n := by omega
      have n1 : n ≤ 360 := by omega
      have rb := Int.emod_nonneg 360 qz
      have rb2 := Int.emod_lt_of_pos 360 (show 0 < n by omega)
      clear h2 hn a b q3
      go_enter Tryd.func28, Tryd.ntmps28
      go_wp2_with fail
      refine (HK.out _).mono ?_
      rintro e w1 ⟨rfl, rfl⟩
      go_wp2
      exact bodyPost_ret (v := .tuple #[.agg #[.int .i64 0, .int .i64 0, .slice none 0 0], .int .i64 1]) (by simp [results, Tryd.results28, go_sem]) rfl ⟨rfl, grow (here w) _⟩
theorem rimonths_range (k f n : Int) (hf : I64 f) (h : ikd k = true) (n0 : 1 ≤ n) (n1 : n ≤ 360) (hd : 360 % n = 0) (h2 : f < 1 ∨ 9571 < f ∨ ¬ (f - 1) % 30 = 0) (w : World) :
    Calls Tryd.prog 28 #[.int .i64 k, .int .i64 f, .int .i64 n] w fun e w' => e = .returned (.tuple #[.agg #[.int .i64 0, .int .i64 0, .slice none 0 0], .int .i64 2]) ∧ Below w.heap.size w w' := by
  obtain ⟨k0, k1⟩ := ikd_iff.1 h
  have HK := fun w => rikd k ⟨by omega, by omega⟩ w
  rw [h] at HK
  replace HK := Lib.hid HK
  have q : decide (n < 1) = false := decide_eq_false (by omega)
  have q2 : decide (360 < n) = false := decide_eq_false (by omega)
  have q4 : (360 % n != 0) = false := by simpa using hd
  have qz : ¬ n = 0 := by omega
  clear h hd
  have t : decide (f < 1) = true ∨ decide (f < 1) = false ∧ decide (9571 < f) = true ∨ decide (f < 1) = false ∧ decide (9571 < f) = false ∧ 0 ≤ f - 1 ∧ f ≤ 9571 ∧ ((f - 1) % 30 != 0) = true := by
    by_cases a : f < 1
    · exact .inl (decide_eq_true a)
    · by_cases b : 9571 < f
      · exact .inr (.inl ⟨decide_eq_false a, decide_eq_true b⟩)
      · exact .inr (.inr ⟨decide_eq_false a, decide_eq_false b, by omega, by omega, by simp; omega⟩)
  obtain ⟨hf0, hf1⟩ := hf
  clear h2
  rcases t with r | ⟨r, r2⟩ | ⟨r, r2, r3, r4, r5⟩
  all_goals
    go_enter Tryd.func28, Tryd.ntmps28
    go_wp2_with fail
    refine (HK.out _).mono ?_
    rintro e w1 ⟨rfl, rfl⟩
    go_wp2
    exact bodyPost_ret (v := .tuple #[.agg #[.int .i64 0, .int .i64 0, .slice none 0 0], .int .i64 2]) (by simp [results, Tryd.results28, go_sem]) rfl ⟨rfl, grow (here w) _⟩
theorem infoSpan : (Tryd.prog.info? 60).map (fun i => (i.zero, i.size, i.bytes)) = some (some (.agg #[.int .i64 0, .int .i64 0]), 2, 16) := by kernel_rfl
set_option maxHeartbeats 2000000 in
set_option maxRecDepth 100000 in
theorem rimonths_yes (k f n : Int) (c : Nat) (h : ikd k = true) (n0 : 1 ≤ n) (n1 : n ≤ 360) (hc : (c : Int) * n = 360) (f0 : 1 ≤ f) (f1 : f ≤ 9571) (hf : (f - 1) % 30 = 0) (w : World) :
    Calls Tryd.prog 28 #[.int .i64 k, .int .i64 f, .int .i64 n] w fun e w' => (∃ v, e = .returned (.tuple #[.agg #[.int .i64 (ifirst k f), .int .i64 10631, v], .int .i64 0]) ∧ PairS w.heap.size w' v (ispans k n c)) ∧ Below w.heap.size w w' := by
  obtain ⟨k0, k1⟩ := ikd_iff.1 h
  have HK := fun w => rikd k ⟨by omega, by omega⟩ w
  rw [h] at HK
  replace HK := Lib.hid HK
  have q : decide (n < 1) = false := decide_eq_false (by omega)
  have q2 : decide (360 < n) = false := decide_eq_false (by omega)
  have hd : 360 % n = 0 := by rw [← hc]; exact Int.mul_emod_left _ _
  have q4 : (360 % n != 0) = false := by simpa using hd
  have qz : ¬ n = 0 := by omega
  have q5 : ((f - 1) % 30 != 0) = false := by simpa using hf
  have q6 : decide (f < 1) = false := decide_eq_false (by omega)
  have q7 : decide (9571 < f) = false := decide_eq_false (by omega)
  have HN := Lib.hid (fun w => rinew_yes k f h f0 (by omega) w)
  have fb := ifirst_bd k0 k1 f0 (show f ≤ 9601 by omega)
  have HL := Lib.hid (fun j (j0 : 0 ≤ j) (j1 : j < 360) w => rilen k (f + j / 12) (j % 12 + 1) ⟨by omega, by omega⟩ ⟨by omega, by omega⟩ ⟨by omega, by omega⟩ w)
  have HJ : Hid (∀ j : Int, 0 ≤ j → j < 360 → imon k (j + 1) = imon k j + ilenM k (f + j / 12) (j % 12 + 1) ∧ 0 ≤ ilenM k (f + j / 12) (j % 12 + 1) ∧ ilenM k (f + j / 12) (j % 12 + 1) ≤ 30) := fun j j0 j1 => by
    have a := imon_succ k0 k1 f0 f1 hf j0 j1
    have b := ilenM_bd k (f + j / 12) (j % 12 + 1)
    omega
  have HB : Hid (∀ j : Int, 0 ≤ j → j ≤ 360 → 0 ≤ imon k j ∧ imon k j ≤ 10631) := fun j j0 j1 => imon_bd k0 k1 j0 j1
  have HM : Hid (∀ i j : Int, 0 ≤ i → i ≤ j → j ≤ 360 → imon k i ≤ imon k j) := fun i j i0 h j1 => imon_le k0 k1 i0 h j1
  have H0 : Hid (imon k 0 = 0) := imon_zero k0 k1
  have GC := Lib.hid hc
  obtain ⟨fb0, fb1⟩ := fb
  obtain ⟨i0, hi, hz0, hz1, hz2⟩ := info_parts infoSpan
  have hcl : c ≤ 360 := by
    rcases Nat.lt_or_ge 360 c with z | z
    · have := Int.mul_le_mul_of_nonneg_left (show (1 : Int) ≤ n by omega) (show (0 : Int) ≤ (c : Int) by omega)
      omega
    · exact z
  clear h hd hf hc
  generalize ifirst k f = O at *
  obtain ⟨R, hR⟩ : ∃ R : World, w.alloc (.cells #[.int .i64 0, .int .i64 0, .slice none 0 0] 44) = R := ⟨_, rfl⟩
  have AR : Hid (Below w.heap.size w R) := by rw [← hR]; exact grow (here w) _
  have BR : Hid (Box R w.heap.size (.int .i64 0) (.int .i64 0) (.slice none 0 0)) := by rw [← hR]; exact Box.new (here _)
  have FR : Hid (Free R w.heap.size) := by rw [← hR]; exact Free.new (here _)
  go_enter Tryd.func28, Tryd.ntmps28
  go_wp2_with fail
  refine (HK.out _).mono ?_
  rintro e w1 ⟨rfl, rfl⟩
  go_wp2_with fail
  refine (HN.out _).mono ?_
  rintro e w1 ⟨rfl, hb⟩
  have A1 : Hid (Below w.heap.size w w1) := down AR.out hb
  have B1 := Lib.hid (BR.out.keep hb)
  have F1 := Lib.hid (FR.out.keep BR.out.lt hb)
  have ne : Hid (w.heap.size < w1.heap.size) := B1.out.lt
  clear hb hR AR BR FR HK HN
  go_wp2
  go_loopw [11, 12] (fun a b wr => ∃ (i : Nat) (X Z : Int) (v : Value), Hid (X = i * n) ∧ 0 ≤ X ∧ X ≤ 360 ∧ Hid (Z = imon k X) ∧ 0 ≤ Z ∧ Z ≤ 10631 ∧ a = .int .i64 Z ∧ b = .int .i64 X ∧ Hid (Below w1.heap.size w1 wr) ∧ Hid (w1.heap.size + 1 ≤ wr.heap.size) ∧ Hid (Box wr w1.heap.size (.int .i64 O) (.int .i64 10631) v) ∧ Hid (Free wr w1.heap.size) ∧
      Hid (wr.ownsRow (w1.heap.size + 1) 60 2 v i (pairs (ispans k n i)))) (fun _ b _ => (360 - intOf b).toNat)
  case atStart => exact ⟨0, 0, 0, .slice none 0 0, by show (0 : Int) = _; simp, by omega, by omega, H0.out.symm, by omega, by omega, rfl, rfl, grow (here w1) _, by show _ ≤ _; simp, Box.new (here _), Free.new (here _), World.ownsRow_nil _ _ _ _⟩
  case round =>
    obtain ⟨i, X, Z, v, hX, X0, X1, hZ, Z0, Z1, rfl, rfl, HA, HS, HBx, HF, HO⟩ := hrel
    by_cases z : X < 360
    · have kz : decide (X < 360) = true := decide_eq_true z
      obtain ⟨g1, g2, g3⟩ := group_le n0 GC.out hX.out z
      have hX' : Hid (X + n = ((i + 1 : Nat) : Int) * n) := g3.symm
      have hbd := HB.out (X + n) (by omega) g2
      have hmz := HM.out X (X + n) X0 (by omega) g2
      have hsp : Hid (pairs (ispans k n (i + 1)) = pairs (ispans k n i) ++ [.int .i64 Z, .int .i64 (imon k (X + n))]) := by
        show _ = _
        rw [ispans_succ, pairs_append, ← hX.out, ← hZ.out]; rfl
      have hicl : i < 360 := by omega
      clear hX g3 GC
      obtain ⟨E, hE⟩ : ∃ E, imon k (X + n) = E := ⟨_, rfl⟩
      rw [hE] at hbd hmz hsp
      rw [← hZ.out] at hmz
      have hE' : Hid (imon k (X + n) = E) := hE
      clear hE
      obtain ⟨hbd0, hbd1⟩ := hbd
      go_wp2
      go_loopw [13, 14] (fun a b wr2 => ∃ (t s : Int), X ≤ t ∧ t ≤ X + n ∧ 0 ≤ s ∧ s ≤ 10631 ∧ Hid (s = imon k t - imon k X) ∧ a = .int .i64 s ∧ b = .int .i64 t ∧ Hid (Below wr.heap.size wr wr2)) (fun _ b _ => (X + n - intOf b).toNat)
      case atStart => exact ⟨X, 0, by omega, by omega, by omega, by omega, by show (0 : Int) = _; omega, rfl, rfl, here _⟩
      case round =>
        obtain ⟨t, s, t0, t1, s0, s1, hs, rfl, rfl, HW⟩ := hrel
        by_cases y : t < X + n
        · have ky : decide (t < X + n) = true := decide_eq_true y
          have hj := HJ.out t (by omega) (by omega)
          have HLt := Lib.hid (fun w => HL.out t (by omega) (by omega) w)
          have hs' : Hid (s + ilenM k (f + t / 12) (t % 12 + 1) = imon k (t + 1) - imon k X) := by show _ = _; rw [hj.1, hs.out]; omega
          have sb : 0 ≤ s + ilenM k (f + t / 12) (t % 12 + 1) ∧ s + ilenM k (f + t / 12) (t % 12 + 1) ≤ 10631 := by
            rw [hs'.out]
            have a := HB.out (t + 1) (by omega) (by omega)
            have b := HM.out X (t + 1) X0 (by omega) (by omega)
            have d := HB.out X X0 (by omega)
            omega
          obtain ⟨sb0, sb1⟩ := sb
          obtain ⟨-, lb0, lb1⟩ := hj
          have td : 0 ≤ t / 12 ∧ t / 12 ≤ 30 := by omega
          have tm : 0 ≤ t % 12 ∧ t % 12 ≤ 11 := by omega
          obtain ⟨td0, td1⟩ := td
          obtain ⟨tm0, tm1⟩ := tm
          have t00 : 0 ≤ t := by omega
          clear HL HJ HB HM H0 hs hsp hE' hX' HA HS HBx HF HO
          generalize ilenM k (f + t / 12) (t % 12 + 1) = l at *
          go_wp2_with fail
          refine (HLt.out _).mono ?_
          rintro e w3 ⟨rfl, hb⟩
          go_wp2
          go_roundw
          case rel => exact ⟨t + 1, s + l, by omega, by omega, sb0, sb1, hs', rfl, rfl, down HW.out hb⟩
          case measure => simp [intOf]; omega
        · obtain rfl : t = X + n := by omega
          have ky : decide (X + n < X + n) = false := decide_eq_false (by omega)
          have hse : s = E - Z := by rw [hs.out, hE'.out, ← hZ.out]
          have ze : Z + s = E := by omega
          have B2 := Lib.hid (HBx.out.keep HW.out)
          have F2 := Lib.hid (HF.out.keep HBx.out.lt HW.out)
          have O2 := Lib.hid (owns_below HO.out HW.out)
          have A2 := Lib.hid (HA.out.trans (HW.out.mono HA.out.size))
          have S2 : Hid (w1.heap.size + 1 ≤ wr.heap.size) := by show _ ≤ _; have := HS.out; have := HW.out.size; omega
          have lt1 : Hid (w1.heap.size < wr.heap.size) := by show _ < _; have := S2.out; omega
          clear HL HJ HB HM H0 hs hZ HA HS HBx HF HO HW hse y
          obtain ⟨b0, b1, b2, bz⟩ := B2.out
          go_wp2_with (at_builtin; refine wpList_append_own _ rfl _ _ 42 rfl (w1.heap.size + 1) 60 i0 (.agg #[.int .i64 0, .int .i64 0]) 2 16 Tryd.underlying42 hi hz0 hz1 hz2 rfl (by decide) v i (pairs (ispans k n i)) rfl (O2.out.alloc _) ⟨wr.heap.size, 0, none⟩ 1 1 [.int .i64 Z, .int .i64 E] rfl rfl ?c1 ?c2 ?c3 ?c4 ?c5 ?_)
          case c1 =>
            intro j u hj
            rw [Addr.add_lit, Nat.zero_add, World.cell?_alloc_new]
            simpa using hj
          case c2 => intro u hu; simp at hu; rcases hu with rfl | rfl <;> rfl
          case c3 => unfold maxLen; omega
          case c4 => omega
          case c5 => have := S2.out; simp; omega
          intro v' w4 hown hgrow _
          have G : Below (w1.heap.size + 1) wr w4 := ((Below.refl _ _).alloc S2.out _).grown hgrow (by have := S2.out; simp; omega) (own_ge O2.out)
          have B4 := Lib.hid (B2.out.under G (Nat.lt_succ_self _))
          have F4 := Lib.hid (F2.out.under G (Nat.lt_succ_self _))
          have A4 := Lib.hid (A2.out.trans (G.mono (Nat.le_succ _)))
          have S4 : Hid (w1.heap.size + 1 ≤ w4.heap.size) := by show _ ≤ _; have := S2.out; have := G.size; omega
          rcases hown.2 with ⟨-, hzz⟩ | ⟨g, cap, cur, rfl, -⟩
          · exact absurd hzz (by omega)
          have O4 := Lib.hid hown
          clear hown hgrow G A2 B2 F2 O2 S2 b0 b1 b2 bz
          obtain ⟨b0, b1, b2, bz⟩ := B4.out
          obtain ⟨e0, e1, e2⟩ := F4.out
          obtain ⟨w5, hw5⟩ : ∃ w5 : World, w4.setCell ⟨w1.heap.size, 2, none⟩ (.slice (some ⟨g, 0, none⟩) (i + 1) cap) = w5 := ⟨_, rfl⟩
          have A5 : Hid (Below w1.heap.size w1 w5) := by rw [← hw5]; exact A4.out.setCell (Nat.le_refl _) _
          have B5 : Hid (Box w5 w1.heap.size (.int .i64 O) (.int .i64 10631) (.slice (some ⟨g, 0, none⟩) (i + 1) cap)) := by rw [← hw5]; exact B4.out.put2 _
          have F5 : Hid (Free w5 w1.heap.size) := by rw [← hw5]; exact F4.out.set _ _
          have O5 : Hid (w5.ownsRow (w1.heap.size + 1) 60 2 (.slice (some ⟨g, 0, none⟩) (i + 1) cap) (i + 1) (pairs (ispans k n (i + 1)))) := by rw [← hw5, hsp.out]; exact ownsRow_setCell_below O4.out (Nat.lt_succ_self _) _
          have S5 : Hid (w1.heap.size + 1 ≤ w5.heap.size) := by rw [← hw5, size_set]; exact S4.out
          clear A4 B4 F4 O4 S4
          go_wp2
          clear hw5
          go_roundw
          case rel => exact ⟨i + 1, X + n, E, .slice (some ⟨g, 0, none⟩) (i + 1) cap, hX', by omega, g2, hE'.out.symm, hbd0, hbd1, rfl, rfl, A5, S5, B5, F5, O5⟩
          case measure => simp [intOf]; omega
    · obtain ⟨rfl, rfl⟩ := group_end n0 GC.out hX.out z X1
      have kz : decide ((360 : Int) < 360) = false := decide_eq_false (by omega)
      rcases HO.out.2 with ⟨-, hzz⟩ | ⟨g, cap, cur, rfl, -⟩
      · exact absurd GC.out (by rw [hzz]; simp)
      have B2 := Lib.hid (B1.out.keep (HA.out))
      have F2 := Lib.hid (F1.out.keep B1.out.lt HA.out)
      have A2 := Lib.hid (down A1.out HA.out)
      obtain ⟨b0, b1, b2, bz⟩ := HBx.out
      obtain ⟨d0, d1, d2, dz⟩ := B2.out
      obtain ⟨e0, e1, e2⟩ := F2.out
      clear HL HJ HB HM H0 hZ hX GC
      obtain ⟨w9, hw9⟩ : ∃ w9 : World, (((wr.setCell ⟨w.heap.size, 0, none⟩ (.int .i64 O)).setCell ⟨w.heap.size, 1, none⟩ (.int .i64 10631)).setCell ⟨w.heap.size, 2, none⟩ (.slice (some ⟨g, 0, none⟩) i cap)) = w9 := ⟨_, rfl⟩
      have B9 : Box w9 w.heap.size (.int .i64 O) (.int .i64 10631) (.slice (some ⟨g, 0, none⟩) i cap) := by rw [← hw9]; exact ((B2.out.put0 _).put1 _).put2 _
      have A9 : Below w.heap.size w w9 := by rw [← hw9]; exact ((A2.out.setCell (Nat.le_refl _) _).setCell (Nat.le_refl _) _).setCell (Nat.le_refl _) _
      have l9 : w.heap.size < w1.heap.size + 1 := by have := ne.out; omega
      have O9 : w9.ownsRow (w1.heap.size + 1) 60 2 (.slice (some ⟨g, 0, none⟩) i cap) i (pairs (ispans k n i)) := by
        rw [← hw9]; exact ownsRow_setCell_below (ownsRow_setCell_below (ownsRow_setCell_below HO.out l9 _) l9 _) l9 _
      replace A9 := Lib.hid A9
      replace O9 := Lib.hid O9
      replace B9 := Lib.hid B9
      clear l9
      go_wp2
      obtain ⟨h0, h1, h2, -⟩ := B9.out
      exact bodyPost_ret (v := .tuple #[.agg #[.int .i64 O, .int .i64 10631, .slice (some ⟨g, 0, none⟩) i cap], .int .i64 0]) (by simp [results, Tryd.results28, go_sem, h0, h1, h2]) rfl ⟨⟨_, rfl, by have := (Sl.owns O9.out).weak (show w.heap.size ≤ w1.heap.size + 1 by have := ne.out; omega); unfold PairS; rw [ispans_length]; exact this⟩, A9.out⟩
end Go.Proofs.YtobipbmigpkhmaaDoor
