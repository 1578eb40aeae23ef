/- The walk of HebrewNext: the Go text returns true, at every input. -/
import Derived.Test.YtpkkhkkanpcniaaHeLawC
namespace Go.Proofs.Ytpkkhkkanpcniaa
open Go.RowKit
set_option linter.unusedVariables false

theorem hpos_next (b : Bool) {m : Int} (m0 : 1 ≤ m) (m1 : m ≤ hcn b) (h : ¬ m = 6) : hpos b (if 12 ≤ m ∧ m = hcn b then 1 else m + 1) = hpos b m + 1 ∧ 1 ≤ (if 12 ≤ m ∧ m = hcn b then 1 else m + 1) ∧ (if 12 ≤ m ∧ m = hcn b then 1 else m + 1) ≤ hcn b := by
  have q : ∀ b : Bool, ∀ k : Fin 13, (k : Nat) + 1 ≤ hcn b → ¬ ((k : Nat) + 1 : Int) = 6 → hpos b (if 12 ≤ ((k : Nat) + 1 : Int) ∧ ((k : Nat) + 1 : Int) = hcn b then 1 else ((k : Nat) + 1 : Int) + 1) = hpos b ((k : Nat) + 1 : Int) + 1 ∧ 1 ≤ (if 12 ≤ ((k : Nat) + 1 : Int) ∧ ((k : Nat) + 1 : Int) = hcn b then 1 else ((k : Nat) + 1 : Int) + 1) ∧ (if 12 ≤ ((k : Nat) + 1 : Int) ∧ ((k : Nat) + 1 : Int) = hcn b then 1 else ((k : Nat) + 1 : Int) + 1) ≤ (hcn b : Int) := by decide +kernel
  have c : hcn b ≤ 13 := by cases b <;> decide
  have r := q b ⟨(m - 1).toNat, by omega⟩ (by show (m - 1).toNat + 1 ≤ _; omega) (by show ¬ (((m - 1).toNat : Nat) : Int) + 1 = 6; omega)
  simp only [show (((m - 1).toNat : Nat) : Int) + 1 = m by omega] at r
  exact r
theorem hnext_in {y m d n : Int} (h : hvld y m d = true) (he : hday y m d = n) (c : d < hlenM y m) : hvld y m (d + 1) = true ∧ hday y m (d + 1) = n + 1 := by
  have v := hvld_iff.1 h
  refine ⟨hvld_iff.2 ⟨by omega, by omega⟩, ?_⟩
  unfold hday at *; omega
theorem hnext_out {y m d n : Int} (h : hvld y m d = true) (he : hday y m d = n) (c : d = hlenM y m) (hn : n + 1 < 5212335) : hvld (hfolY y m) (hfolM y m) 1 = true ∧ hday (hfolY y m) (hfolM y m) 1 = n + 1 := by
  obtain ⟨hy, y0, y1, m0, m1, m13, d0, d1⟩ := hvld_bd h
  have l := hlenM_at hy m0 m1
  rw [hmn_cn hy] at m1
  obtain ⟨p0, p1⟩ := hpos_at m0 m1
  have s := hS_succ (hlp y) (hyl y) _ p0
  rw [p1, ← l, ← c] at s
  have e : n + 1 = hN y + hS (hlp y) (hyl y) (hpos (hlp y) m + 1) := by unfold hday hfst at he; omega
  unfold hfolY hfolM
  by_cases a : m = 6
  · subst a
    rw [if_pos rfl, if_pos rfl]
    have z : hpos (hlp y) 6 + 1 = hcn (hlp y) := by cases hlp y <;> decide
    rw [z, hS_end (hsix_yr y)] at e
    unfold hyl at e
    have y2 : y + 1 ≤ 20000 := by
      rcases Int.lt_or_le 20000 (y + 1) with q | q
      · have : y + 1 = 20001 := by omega
        rw [this] at e; rw [hN_last] at e; omega
      · exact q
    have hy2 : hyr (y + 1) = true := hyr_iff.2 ⟨by omega, y2⟩
    have m7 : 7 ≤ hmn (y + 1) := by rcases hmn_in hy2 with ⟨-, q⟩ | ⟨-, q⟩ <;> omega
    have l7 := hlenM_in hy2 (m := 7) (by omega) m7
    refine ⟨hvld_iff.2 ⟨by omega, by omega⟩, ?_⟩
    unfold hday hfst
    rw [show hpos (hlp (y + 1)) 7 = 0 by cases hlp (y + 1) <;> decide, hS_zero]
    omega
  · rw [if_neg a, if_neg a, hmn_cn hy]
    have q := hpos_next (hlp y) m0 m1 a
    generalize (if 12 ≤ m ∧ m = (hcn (hlp y) : Int) then 1 else m + 1) = m' at *
    have l2 := hlenM_in hy (m := m') q.2.1 (by rw [hmn_cn hy]; exact q.2.2)
    refine ⟨hvld_iff.2 ⟨by omega, by omega⟩, ?_⟩
    unfold hday hfst
    rw [q.1]; omega
namespace HebrewNext
set_option maxRecDepth 100000 in
set_option maxHeartbeats 2000000 in
theorem off (n : Int) (hn : I64 n) (t : decide (n < -719162) = true ∨ decide (n < -719162) = false ∧ decide (2932896 ≤ n) = true) (w : World) (ht : Tabs w) :
    Calls Try.prog 9 #[.int .i64 n] w fun e w' => e = .returned (.bool true) ∧ Below w.heap.size w w' := by
  obtain ⟨hn0, hn1⟩ := hn
  have AW := Lib.hid (fun w ht => awake_all w ht)
  replace ht := Lib.hid ht
  rcases t with t | ⟨t, t2⟩
  all_goals
    go_enter Try.func9, Try.ntmps9
    go_wp2_with fail
    refine (AW.out _ (ht.out.below (here w))).mono ?_
    rintro e w1 ⟨rfl, hb⟩
    have A1 := Lib.hid (down (here w) hb)
    clear hb
    go_wp2
    go_ret
    exact ⟨rfl, by first | exact A1.out | exact grow A1.out _ | exact below_drewN A1.out _ | exact grow (grow A1.out _) _ | exact grow (grow (grow A1.out _) _) _⟩
set_option maxRecDepth 100000 in
set_option maxHeartbeats 2000000 in
theorem inner (n a b c L : Int) (z0 : -719162 ≤ n) (z1 : n < 2932896) (c0 : 1 ≤ c) (c1 : c < L) (l1 : L ≤ 30)
    (H1 : ∀ w, Tabs w → Calls Try.prog 32 #[.int .i64 n] w fun e w' => e = .returned (.tuple #[.agg #[.int .i64 a, .int .i64 b, .int .i64 c], .int .i64 0]) ∧ Below w.heap.size w w') (H2 : ∀ w, Tabs w → Calls Try.prog 32 #[.int .i64 (n + 1)] w fun e w' => e = .returned (.tuple #[.agg #[.int .i64 a, .int .i64 b, .int .i64 (c + 1)], .int .i64 0]) ∧ Below w.heap.size w w') (H3 : ∀ w, Tabs w → Calls Try.prog 28 #[.int .i64 a, .int .i64 b] w fun e w' => e = .returned (.int .i64 L) ∧ Below w.heap.size w w') (w : World) (ht : Tabs w) :
    Calls Try.prog 9 #[.int .i64 n] w fun e w' => e = .returned (.bool true) ∧ Below w.heap.size w w' := by
  have u1 : decide (n < -719162) = false := decide_eq_false (by omega)
  have u2 : decide (2932896 ≤ n) = false := decide_eq_false (by omega)
  have u3 : decide (c < L) = true := decide_eq_true c1
  have AW := Lib.hid (fun w ht => awake_all w ht)
  replace ht := Lib.hid ht
  replace H1 := Lib.hid H1
  replace H2 := Lib.hid H2
  replace H3 := Lib.hid H3
  go_enter Try.func9, Try.ntmps9
  go_wp2_with fail
  refine (AW.out _ (ht.out.below (here w))).mono ?_
  rintro e w1 ⟨rfl, hb⟩
  have A1 := Lib.hid (down (here w) hb)
  clear hb
  go_wp2_with fail
  refine (H1.out _ (ht.out.below A1.out)).mono ?_
  rintro e w2 ⟨rfl, hb⟩
  have A2 := Lib.hid (down A1.out hb)
  clear hb A1
  go_wp2_with fail
  refine (H2.out _ (ht.out.below (grow A2.out _))).mono ?_
  rintro e w3 ⟨rfl, hb⟩
  have A3 := Lib.hid (down (grow A2.out _) hb)
  have X3 := Lib.hid (Box.new hb)
  clear hb A2
  obtain ⟨x3_0, x3_1, x3_2, x3_z⟩ := X3.out
  go_wp2_with fail
  refine (H3.out _ (ht.out.below (grow A3.out _))).mono ?_
  rintro e w4 ⟨rfl, hb⟩
  have A4 := Lib.hid (down (grow A3.out _) hb)
  have X4 := Lib.hid ((X3.out.old _).keep hb)
  have Y4 := Lib.hid (Box.new hb)
  clear hb A3 X3 x3_0 x3_1 x3_2 x3_z
  obtain ⟨x4_0, x4_1, x4_2, x4_z⟩ := X4.out
  obtain ⟨y4_0, y4_1, y4_2, y4_z⟩ := Y4.out
  go_wp2
  go_ret
  exact ⟨rfl, by first | exact A4.out | exact grow A4.out _ | exact below_drewN A4.out _ | exact grow (grow A4.out _) _ | exact grow (grow (grow A4.out _) _) _⟩
set_option maxRecDepth 100000 in
set_option maxHeartbeats 2000000 in
theorem outer (n a b c L y2 m2 : Int) (z0 : -719162 ≤ n) (z1 : n < 2932896) (c0 : 1 ≤ c) (c1 : c = L) (l1 : L ≤ 30)
    (H1 : ∀ w, Tabs w → Calls Try.prog 32 #[.int .i64 n] w fun e w' => e = .returned (.tuple #[.agg #[.int .i64 a, .int .i64 b, .int .i64 c], .int .i64 0]) ∧ Below w.heap.size w w') (H2 : ∀ w, Tabs w → Calls Try.prog 32 #[.int .i64 (n + 1)] w fun e w' => e = .returned (.tuple #[.agg #[.int .i64 y2, .int .i64 m2, .int .i64 1], .int .i64 0]) ∧ Below w.heap.size w w') (H3 : ∀ w, Tabs w → Calls Try.prog 28 #[.int .i64 a, .int .i64 b] w fun e w' => e = .returned (.int .i64 L) ∧ Below w.heap.size w w')
    (H4 : ∀ w, Tabs w → Calls Try.prog 36 #[.int .i64 a, .int .i64 b] w fun e w' => e = .returned (.tuple #[.int .i64 y2, .int .i64 m2]) ∧ Below w.heap.size w w') (w : World) (ht : Tabs w) :
    Calls Try.prog 9 #[.int .i64 n] w fun e w' => e = .returned (.bool true) ∧ Below w.heap.size w w' := by
  have u1 : decide (n < -719162) = false := decide_eq_false (by omega)
  have u2 : decide (2932896 ≤ n) = false := decide_eq_false (by omega)
  subst c1
  have u3 : decide (c < c) = false := decide_eq_false (by omega)
  have AW := Lib.hid (fun w ht => awake_all w ht)
  replace ht := Lib.hid ht
  replace H1 := Lib.hid H1
  replace H2 := Lib.hid H2
  replace H3 := Lib.hid H3
  replace H4 := Lib.hid H4
  go_enter Try.func9, Try.ntmps9
  go_wp2_with fail
  refine (AW.out _ (ht.out.below (here w))).mono ?_
  rintro e w1 ⟨rfl, hb⟩
  have A1 := Lib.hid (down (here w) hb)
  clear hb
  go_wp2_with fail
  refine (H1.out _ (ht.out.below A1.out)).mono ?_
  rintro e w2 ⟨rfl, hb⟩
  have A2 := Lib.hid (down A1.out hb)
  clear hb A1
  go_wp2_with fail
  refine (H2.out _ (ht.out.below (grow A2.out _))).mono ?_
  rintro e w3 ⟨rfl, hb⟩
  have A3 := Lib.hid (down (grow A2.out _) hb)
  have X3 := Lib.hid (Box.new hb)
  clear hb A2
  obtain ⟨x3_0, x3_1, x3_2, x3_z⟩ := X3.out
  go_wp2_with fail
  refine (H3.out _ (ht.out.below (grow A3.out _))).mono ?_
  rintro e w4 ⟨rfl, hb⟩
  have A4 := Lib.hid (down (grow A3.out _) hb)
  have X4 := Lib.hid ((X3.out.old _).keep hb)
  have Y4 := Lib.hid (Box.new hb)
  clear hb A3 X3 x3_0 x3_1 x3_2 x3_z
  obtain ⟨x4_0, x4_1, x4_2, x4_z⟩ := X4.out
  obtain ⟨y4_0, y4_1, y4_2, y4_z⟩ := Y4.out
  go_wp2_with fail
  refine (H4.out _ (ht.out.below A4.out)).mono ?_
  rintro e w5 ⟨rfl, hb⟩
  have A5 := Lib.hid (down A4.out hb)
  have X5 := Lib.hid (X4.out.keep hb)
  have Y5 := Lib.hid (Y4.out.keep hb)
  clear hb A4 X4 Y4 x4_0 x4_1 x4_2 x4_z y4_0 y4_1 y4_2 y4_z
  obtain ⟨x5_0, x5_1, x5_2, x5_z⟩ := X5.out
  obtain ⟨y5_0, y5_1, y5_2, y5_z⟩ := Y5.out
  go_wp2
  go_ret
  exact ⟨rfl, by first | exact A5.out | exact grow A5.out _ | exact below_drewN A5.out _ | exact grow (grow A5.out _) _ | exact grow (grow (grow A5.out _) _) _⟩
theorem walk (n : Int) (hn : (Lit.int .i64 n).wf = true) (w : World) (ht : Tabs w) :
    Calls Try.prog 9 #[.int .i64 n] w fun e w' => e = .returned (.bool true) ∧ Below w.heap.size w w' := by
  replace hn := i64_wf hn
  by_cases z0 : n < -719162
  · exact off n hn (.inl (decide_eq_true z0)) w ht
  · by_cases z1 : 2932896 ≤ n
    · exact off n hn (.inr ⟨decide_eq_false z0, decide_eq_true z1⟩) w ht
    · have h1 : hins n = true := hins_iff.2 ⟨by omega, by omega⟩
      have h2 : hins (n + 1) = true := hins_iff.2 ⟨by omega, by omega⟩
      obtain ⟨a, b, c, hv, he⟩ := hins_date h1
      obtain ⟨-, a0, a1, b0, b1, b13, c0, -⟩ := hvld_bd hv
      have v := hvld_iff.1 hv
      have lb := hlenM_bd a b
      have H1 := fun w ht => uhdate_yes n a b c h1 hv he w ht
      have H3 := fun w ht => uhlen a b ⟨by omega, by omega⟩ ⟨by omega, by omega⟩ w ht
      by_cases u : c < hlenM a b
      · obtain ⟨hv2, he2⟩ := hnext_in hv he u
        exact inner n a b c _ (by omega) (by omega) c0 u lb.2 H1 (fun w ht => uhdate_yes _ _ _ _ h2 hv2 he2 w ht) H3 w ht
      · obtain ⟨hv2, he2⟩ := hnext_out hv he (by omega) (by omega)
        exact outer n a b c _ _ _ (by omega) (by omega) c0 (by omega) lb.2 H1 (fun w ht => uhdate_yes _ _ _ _ h2 hv2 he2 w ht) H3 (fun w ht => ufol a b a0 a1 b0 b13 w ht) w ht
end HebrewNext
end Go.Proofs.Ytpkkhkkanpcniaa
