/- The walk of HebrewYearly: the Go text returns true, at every input. -/
import Derived.Test.YtpkkhkkanpcniaaHeLawD
namespace Go.Proofs.Ytpkkhkkanpcniaa
open Go.RowKit
set_option linter.unusedVariables false

theorem hanM_own {y m : Int} : hanM y m y = m := by unfold hanM; split <;> omega
theorem hann_fate {y m d g Y M D : Int} (h : hvld y m d = true) (hg : hyr g = true) (hv : hvld Y M D = true) (he : hday Y M D = hanN y m d g) :
    D = d ∧ Y = g ∧ (M = m ∨ 12 ≤ m ∧ 12 ≤ M) ∨ d = 30 ∧ D = 1 := by
  obtain ⟨hy, y0, y1, m0, m1, m13, d0, d30⟩ := hvld_bd h
  have am := hanM_in h hg
  have lm := hlenM_in hg am.1 am.2
  by_cases z : d ≤ hlenM g (hanM y m g)
  · left
    have v : hvld g (hanM y m g) d = true := hvld_iff.2 ⟨d0, z⟩
    obtain ⟨rfl, rfl, rfl⟩ := hday_inj hv v (by rw [he]; rfl)
    refine ⟨rfl, rfl, ?_⟩
    unfold hanM
    by_cases q : m = hmn y
    · right
      rw [if_pos q]
      rcases hmn_in hy with ⟨-, a⟩ | ⟨-, a⟩ <;> rcases hmn_in hg with ⟨-, b⟩ | ⟨-, b⟩ <;> omega
    · left; rw [if_neg q]
  · right
    have v : hvld g (hanM y m g) (hlenM g (hanM y m g)) = true := hvld_iff.2 ⟨by omega, by omega⟩
    have e : hday g (hanM y m g) (hlenM g (hanM y m g)) = hanN y m d g - 1 := by unfold hday hanN; omega
    have b := hday_bd hv
    obtain ⟨hv2, he2⟩ := hnext_out v e rfl (by omega)
    obtain ⟨-, -, rfl⟩ := hday_inj hv hv2 (by rw [he, he2]; omega)
    exact ⟨by omega, rfl⟩
theorem hann_late {y m d g : Int} (h : hyr g = false ∨ hvld y m d = true ∧ hyr g = true ∧ 5212335 ≤ hanN y m d g) : g < 1 ∨ 20000 ≤ g := by
  rcases h with h | ⟨h, hg, q⟩
  · by_cases z : g < 1
    · exact .inl z
    · right
      rcases Int.lt_or_le g 20001 with u | u
      · rw [hyr_iff.2 ⟨by omega, by omega⟩] at h; exact absurd h (by simp)
      · omega
  · right
    have b := hanN_bd h hg
    have r := hyr_iff.1 hg
    rcases Int.lt_or_le g 20000 with u | u
    · have := hN_le (y := g + 1) (z := 20001) (by omega)
      rw [hN_last] at this; omega
    · exact u
namespace HebrewYearly
set_option maxRecDepth 100000 in
set_option maxHeartbeats 2000000 in
theorem bad (y m d g : Int) (HV : ∀ w, Calls Try.prog 38 #[.agg #[.int .i64 y, .int .i64 m, .int .i64 d]] w fun e w' => e = .returned (.bool false) ∧ Below w.heap.size w w') (H1 : ∀ w, Tabs w → Calls Try.prog 34 #[.agg #[.int .i64 y, .int .i64 m, .int .i64 d], .int .i64 g] w fun e w' => e = .returned (.tuple #[.agg #[.int .i64 0, .int .i64 0, .int .i64 0], .int .i64 2]) ∧ Below w.heap.size w w') (w : World) (ht : Tabs w) :
    Calls Try.prog 13 #[.agg #[.int .i64 y, .int .i64 m, .int .i64 d], .int .i64 g] w fun e w' => e = .returned (.bool true) ∧ Below w.heap.size w w' := by
  have AW := Lib.hid (fun w ht => awake_all w ht)
  replace ht := Lib.hid ht
  replace HV := Lib.hid HV
  replace H1 := Lib.hid H1
  go_enter Try.func13, Try.ntmps13
  go_wp2_with fail
  refine (AW.out _ (ht.out.below (grow (here w) _))).mono ?_
  rintro e w1 ⟨rfl, hb⟩
  have A1 := Lib.hid (down (grow (here w) _) hb)
  have D1 := Lib.hid (Box.new hb)
  clear hb
  obtain ⟨d1_0, d1_1, d1_2, d1_z⟩ := D1.out
  go_wp2_with fail
  refine (HV.out _).mono ?_
  rintro e w2 ⟨rfl, hb⟩
  have A2 := Lib.hid (down A1.out hb)
  have D2 := Lib.hid (D1.out.keep hb)
  clear hb A1 D1 d1_0 d1_1 d1_2 d1_z
  obtain ⟨d2_0, d2_1, d2_2, d2_z⟩ := D2.out
  go_wp2_with fail
  refine (H1.out _ (ht.out.below A2.out)).mono ?_
  rintro e w3 ⟨rfl, hb⟩
  have A3 := Lib.hid (down A2.out hb)
  have D3 := Lib.hid (D2.out.keep hb)
  clear hb A2 D2 d2_0 d2_1 d2_2 d2_z
  obtain ⟨d3_0, d3_1, d3_2, d3_z⟩ := D3.out
  go_wp2
  go_ret
  exact ⟨rfl, by first | exact A3.out | exact grow A3.out _ | exact below_drewN A3.out _ | exact grow (grow A3.out _) _ | exact grow (grow (grow A3.out _) _) _⟩
set_option maxRecDepth 100000 in
set_option maxHeartbeats 2000000 in
theorem late (y m d g : Int) (hg : I64 g) (t : decide (g < 1) = true ∨ decide (g < 1) = false ∧ decide (20000 ≤ g) = true) (HV : ∀ w, Calls Try.prog 38 #[.agg #[.int .i64 y, .int .i64 m, .int .i64 d]] w fun e w' => e = .returned (.bool true) ∧ Below w.heap.size w w') (H1 : ∀ w, Tabs w → Calls Try.prog 34 #[.agg #[.int .i64 y, .int .i64 m, .int .i64 d], .int .i64 y] w fun e w' => e = .returned (.tuple #[.agg #[.int .i64 y, .int .i64 m, .int .i64 d], .int .i64 0]) ∧ Below w.heap.size w w') (H2 : ∀ w, Tabs w → Calls Try.prog 34 #[.agg #[.int .i64 y, .int .i64 m, .int .i64 d], .int .i64 g] w fun e w' => e = .returned (.tuple #[.agg #[.int .i64 0, .int .i64 0, .int .i64 0], .int .i64 2]) ∧ Below w.heap.size w w') (w : World) (ht : Tabs w) :
    Calls Try.prog 13 #[.agg #[.int .i64 y, .int .i64 m, .int .i64 d], .int .i64 g] w fun e w' => e = .returned (.bool true) ∧ Below w.heap.size w w' := by
  have AW := Lib.hid (fun w ht => awake_all w ht)
  replace ht := Lib.hid ht
  replace HV := Lib.hid HV
  replace H1 := Lib.hid H1
  replace H2 := Lib.hid H2
  obtain ⟨hg0, hg1⟩ := hg
  rcases t with t | ⟨t, t2⟩
  all_goals
    go_enter Try.func13, Try.ntmps13
    go_wp2_with fail
    refine (AW.out _ (ht.out.below (grow (here w) _))).mono ?_
    rintro e w1 ⟨rfl, hb⟩
    have A1 := Lib.hid (down (grow (here w) _) hb)
    have D1 := Lib.hid (Box.new hb)
    clear hb
    obtain ⟨d1_0, d1_1, d1_2, d1_z⟩ := D1.out
    go_wp2_with fail
    refine (HV.out _).mono ?_
    rintro e w2 ⟨rfl, hb⟩
    have A2 := Lib.hid (down A1.out hb)
    have D2 := Lib.hid (D1.out.keep hb)
    clear hb A1 D1 d1_0 d1_1 d1_2 d1_z
    obtain ⟨d2_0, d2_1, d2_2, d2_z⟩ := D2.out
    go_wp2_with fail
    refine (H1.out _ (ht.out.below A2.out)).mono ?_
    rintro e w3 ⟨rfl, hb⟩
    have A3 := Lib.hid (down A2.out hb)
    have D3 := Lib.hid (D2.out.keep hb)
    clear hb A2 D2 d2_0 d2_1 d2_2 d2_z
    obtain ⟨d3_0, d3_1, d3_2, d3_z⟩ := D3.out
    go_wp2_with fail
    refine (H2.out _ (ht.out.below (grow A3.out _))).mono ?_
    rintro e w4 ⟨rfl, hb⟩
    have A4 := Lib.hid (down (grow A3.out _) hb)
    have D4 := Lib.hid ((D3.out.old _).keep hb)
    have O4 := Lib.hid (Box.new hb)
    clear hb A3 D3 d3_0 d3_1 d3_2 d3_z
    obtain ⟨d4_0, d4_1, d4_2, d4_z⟩ := D4.out
    obtain ⟨o4_0, o4_1, o4_2, o4_z⟩ := O4.out
    go_wp2
    go_ret
    exact ⟨rfl, by first | exact A4.out | exact grow A4.out _ | exact below_drewN A4.out _ | exact grow (grow A4.out _) _ | exact grow (grow (grow A4.out _) _) _⟩
set_option maxRecDepth 100000 in
set_option maxHeartbeats 2000000 in
theorem slip (y m d g Y M D : Int) (hd : d = 30) (hD : D = 1) (HV : ∀ w, Calls Try.prog 38 #[.agg #[.int .i64 y, .int .i64 m, .int .i64 d]] w fun e w' => e = .returned (.bool true) ∧ Below w.heap.size w w') (H1 : ∀ w, Tabs w → Calls Try.prog 34 #[.agg #[.int .i64 y, .int .i64 m, .int .i64 d], .int .i64 y] w fun e w' => e = .returned (.tuple #[.agg #[.int .i64 y, .int .i64 m, .int .i64 d], .int .i64 0]) ∧ Below w.heap.size w w') (H2 : ∀ w, Tabs w → Calls Try.prog 34 #[.agg #[.int .i64 y, .int .i64 m, .int .i64 d], .int .i64 g] w fun e w' => e = .returned (.tuple #[.agg #[.int .i64 Y, .int .i64 M, .int .i64 D], .int .i64 0]) ∧ Below w.heap.size w w') (w : World) (ht : Tabs w) :
    Calls Try.prog 13 #[.agg #[.int .i64 y, .int .i64 m, .int .i64 d], .int .i64 g] w fun e w' => e = .returned (.bool true) ∧ Below w.heap.size w w' := by
  have AW := Lib.hid (fun w ht => awake_all w ht)
  replace ht := Lib.hid ht
  replace HV := Lib.hid HV
  replace H1 := Lib.hid H1
  replace H2 := Lib.hid H2
  subst hd
  subst hD
  go_enter Try.func13, Try.ntmps13
  go_wp2_with fail
  refine (AW.out _ (ht.out.below (grow (here w) _))).mono ?_
  rintro e w1 ⟨rfl, hb⟩
  have A1 := Lib.hid (down (grow (here w) _) hb)
  have D1 := Lib.hid (Box.new hb)
  clear hb
  obtain ⟨d1_0, d1_1, d1_2, d1_z⟩ := D1.out
  go_wp2_with fail
  refine (HV.out _).mono ?_
  rintro e w2 ⟨rfl, hb⟩
  have A2 := Lib.hid (down A1.out hb)
  have D2 := Lib.hid (D1.out.keep hb)
  clear hb A1 D1 d1_0 d1_1 d1_2 d1_z
  obtain ⟨d2_0, d2_1, d2_2, d2_z⟩ := D2.out
  go_wp2_with fail
  refine (H1.out _ (ht.out.below A2.out)).mono ?_
  rintro e w3 ⟨rfl, hb⟩
  have A3 := Lib.hid (down A2.out hb)
  have D3 := Lib.hid (D2.out.keep hb)
  clear hb A2 D2 d2_0 d2_1 d2_2 d2_z
  obtain ⟨d3_0, d3_1, d3_2, d3_z⟩ := D3.out
  go_wp2_with fail
  refine (H2.out _ (ht.out.below (grow A3.out _))).mono ?_
  rintro e w4 ⟨rfl, hb⟩
  have A4 := Lib.hid (down (grow A3.out _) hb)
  have D4 := Lib.hid ((D3.out.old _).keep hb)
  have O4 := Lib.hid (Box.new hb)
  clear hb A3 D3 d3_0 d3_1 d3_2 d3_z
  obtain ⟨d4_0, d4_1, d4_2, d4_z⟩ := D4.out
  obtain ⟨o4_0, o4_1, o4_2, o4_z⟩ := O4.out
  go_wp2
  go_ret
  exact ⟨rfl, by first | exact A4.out | exact grow A4.out _ | exact below_drewN A4.out _ | exact grow (grow A4.out _) _ | exact grow (grow (grow A4.out _) _) _⟩
set_option maxRecDepth 100000 in
set_option maxHeartbeats 2000000 in
theorem on (y m d g M : Int) (hm : I64 m) (hM : I64 M) (t : (M == m) = true ∨ (M == m) = false ∧ decide (12 ≤ m) = true ∧ decide (12 ≤ M) = true) (HV : ∀ w, Calls Try.prog 38 #[.agg #[.int .i64 y, .int .i64 m, .int .i64 d]] w fun e w' => e = .returned (.bool true) ∧ Below w.heap.size w w') (H1 : ∀ w, Tabs w → Calls Try.prog 34 #[.agg #[.int .i64 y, .int .i64 m, .int .i64 d], .int .i64 y] w fun e w' => e = .returned (.tuple #[.agg #[.int .i64 y, .int .i64 m, .int .i64 d], .int .i64 0]) ∧ Below w.heap.size w w') (H2 : ∀ w, Tabs w → Calls Try.prog 34 #[.agg #[.int .i64 y, .int .i64 m, .int .i64 d], .int .i64 g] w fun e w' => e = .returned (.tuple #[.agg #[.int .i64 g, .int .i64 M, .int .i64 d], .int .i64 0]) ∧ Below w.heap.size w w') (w : World) (ht : Tabs w) :
    Calls Try.prog 13 #[.agg #[.int .i64 y, .int .i64 m, .int .i64 d], .int .i64 g] w fun e w' => e = .returned (.bool true) ∧ Below w.heap.size w w' := by
  have AW := Lib.hid (fun w ht => awake_all w ht)
  replace ht := Lib.hid ht
  replace HV := Lib.hid HV
  replace H1 := Lib.hid H1
  replace H2 := Lib.hid H2
  obtain ⟨hm0, hm1⟩ := hm
  obtain ⟨hM0, hM1⟩ := hM
  rcases t with t | ⟨t, t2, t3⟩
  all_goals
    go_enter Try.func13, Try.ntmps13
    go_wp2_with fail
    refine (AW.out _ (ht.out.below (grow (here w) _))).mono ?_
    rintro e w1 ⟨rfl, hb⟩
    have A1 := Lib.hid (down (grow (here w) _) hb)
    have D1 := Lib.hid (Box.new hb)
    clear hb
    obtain ⟨d1_0, d1_1, d1_2, d1_z⟩ := D1.out
    go_wp2_with fail
    refine (HV.out _).mono ?_
    rintro e w2 ⟨rfl, hb⟩
    have A2 := Lib.hid (down A1.out hb)
    have D2 := Lib.hid (D1.out.keep hb)
    clear hb A1 D1 d1_0 d1_1 d1_2 d1_z
    obtain ⟨d2_0, d2_1, d2_2, d2_z⟩ := D2.out
    go_wp2_with fail
    refine (H1.out _ (ht.out.below A2.out)).mono ?_
    rintro e w3 ⟨rfl, hb⟩
    have A3 := Lib.hid (down A2.out hb)
    have D3 := Lib.hid (D2.out.keep hb)
    clear hb A2 D2 d2_0 d2_1 d2_2 d2_z
    obtain ⟨d3_0, d3_1, d3_2, d3_z⟩ := D3.out
    go_wp2_with fail
    refine (H2.out _ (ht.out.below (grow A3.out _))).mono ?_
    rintro e w4 ⟨rfl, hb⟩
    have A4 := Lib.hid (down (grow A3.out _) hb)
    have D4 := Lib.hid ((D3.out.old _).keep hb)
    have O4 := Lib.hid (Box.new hb)
    clear hb A3 D3 d3_0 d3_1 d3_2 d3_z
    obtain ⟨d4_0, d4_1, d4_2, d4_z⟩ := D4.out
    obtain ⟨o4_0, o4_1, o4_2, o4_z⟩ := O4.out
    go_wp2
    go_ret
    exact ⟨rfl, by first | exact A4.out | exact grow A4.out _ | exact below_drewN A4.out _ | exact grow (grow A4.out _) _ | exact grow (grow (grow A4.out _) _) _⟩
theorem walk (y m d g : Int) (hy : (Lit.int .i64 y).wf = true) (hm : (Lit.int .i64 m).wf = true) (hd : (Lit.int .i64 d).wf = true) (hg : (Lit.int .i64 g).wf = true) (w : World) (ht : Tabs w) :
    Calls Try.prog 13 #[.agg #[.int .i64 y, .int .i64 m, .int .i64 d], .int .i64 g] w fun e w' => e = .returned (.bool true) ∧ Below w.heap.size w w' := by
  replace hy := i64_wf hy
  replace hm := i64_wf hm
  replace hd := i64_wf hd
  replace hg := i64_wf hg
  have HV := fun w => rhvld y m d hy hm hd w
  cases h : hvld y m d
  · rw [h] at HV
    exact bad y m d g HV (fun w ht => uhann_bad y m d g hy hm hd hg (.inl h) w ht) w ht
  · rw [h] at HV
    have bd := hvld_bd h
    have H1 := fun w ht => uhann_yes y m d y y m d h bd.1 h (by unfold hanN; rw [hanM_own]; rfl) w ht
    rcases hann_cases y m d g with q | ⟨-, q, Y, M, D, hv, he⟩
    · have l := hann_late (y := y) (m := m) (d := d) (g := g) (by
        rcases q with q | q
        · rw [h] at q; exact absurd q (by simp)
        · exact q)
      refine late y m d g hg ?_ HV H1 (fun w ht => uhann_bad y m d g hy hm hd hg q w ht) w ht
      by_cases z : g < 1
      · exact .inl (decide_eq_true z)
      · exact .inr ⟨decide_eq_false z, decide_eq_true (by omega)⟩
    · have H2 := fun w ht => uhann_yes y m d g Y M D h q hv he w ht
      have bd2 := hvld_bd hv
      rcases hann_fate h q hv he with ⟨rfl, rfl, r⟩ | ⟨rfl, rfl⟩
      · refine on y m D Y M hm ⟨by omega, by omega⟩ ?_ HV H1 H2 w ht
        by_cases z : M = m
        · exact .inl (by simpa using z)
        · exact .inr ⟨by simpa using z, decide_eq_true (by omega), decide_eq_true (by omega)⟩
      · exact slip y m 30 g Y M 1 rfl rfl HV H1 H2 w ht
end HebrewYearly
end Go.Proofs.Ytpkkhkkanpcniaa
