/- The walk of IslamicWanders: the Go text returns true, at every input. -/
import Derived.Test.YtobipbmigpkhmaaDoorIsLawB
import Derived.Test.YtobipbmigpkhmaaDoorLCivA
namespace Go.Proofs.YtobipbmigpkhmaaDoor
open Go.RowKit
set_option linter.unusedVariables false

theorem in_year {g n : Int} (g0 : 1 ≤ g) (g1 : g ≤ 9999) (h0 : dayN g 1 1 ≤ n) (h1 : n ≤ dayN g 12 31) : ∃ m d, vld g m d = true ∧ dayN g m d = n := by
  obtain ⟨vf, vl, -, -⟩ := jan_first g0 g1
  have rf := day_range vf
  have rl := day_range vl
  have df := day_first g0 g1
  have dl := day_in vl
  obtain ⟨y, m, d, hv, he⟩ := date_of (n := n) (by omega) (by omega)
  have dv := day_in hv
  obtain ⟨y0, y1, -⟩ := vld_bd hv
  rw [he] at dv
  have hy : y = g := by
    rcases Int.lt_or_le y g with z | z
    · have := first_le (y := y + 1) (z := g) (by omega) (by omega) (by omega); omega
    · rcases Int.lt_or_le g y with z' | z'
      · have := first_le (y := g + 1) (z := y) (by omega) (by omega) (by omega); omega
      · omega
  subst hy
  exact ⟨m, d, hv, he⟩
theorem year_of_day {y m d : Int} (h : vld y m d = true) : dayN y 1 1 ≤ dayN y m d ∧ dayN y m d ≤ dayN y 12 31 := by
  obtain ⟨y0, y1, m0, m1, d0, d1⟩ := vld_bd h
  have df := day_first y0 y1
  have dv := day_in h
  obtain ⟨vf, vl, -, -⟩ := jan_first y0 y1
  have dl := day_in vl
  have f := first_succ y0 y1
  have c := cum_succ y0 y1 (m := 12) (by omega) (by omega)
  have e := cum_end y
  have l : lenM y 12 = 31 := by unfold lenM; rw [if_neg (by omega), if_neg (by omega), if_neg (by omega)]
  rw [show (12 : Int) + 1 = 13 by omega] at c
  omega
/-- What Moved finds. -/
theorem imv_found {k m d g : Int} (h : imvE k m d g = 0) (i : Nat) (hi : i < (imvL k m d g).length) :
    ∃ y a b, ivld k y m d = true ∧ idayN k y m d = (imvL k m d g).getD i 0 ∧ vld g a b = true ∧ dayN g a b = (imvL k m d g).getD i 0 ∧ -492148 ≤ (imvL k m d g).getD i 0 ∧ (imvL k m d g).getD i 0 ≤ 2909771 := by
  have hm : (imvL k m d g).getD i 0 ∈ imvL k m d g := by rw [List.getD_eq_getElem?_getD, List.getElem?_eq_getElem hi]; exact List.getElem_mem hi
  generalize (imvL k m d g).getD i 0 = n at *
  unfold imvL at hm
  split at hm
  · rename_i q
    obtain ⟨j, -, hv, he, h0, h1⟩ := imov_mem.1 hm
    obtain ⟨a, b, hc, hd⟩ := in_year q.2.1 q.2.2 h0 h1
    have r := iday_range hv
    exact ⟨j, a, b, hv, he, hc, hd, by omega, by omega⟩
  · exact absurd hm (by simp)
theorem imv_up {k m d g : Int} (i : Nat) (hi : i + 1 < (imvL k m d g).length) : (imvL k m d g).getD i 0 < (imvL k m d g).getD (i + 1) 0 := by
  have s : (imvL k m d g).Pairwise (· < ·) := by
    unfold imvL; split
    · exact imov_sorted _ _ _ _ _ _
    · exact List.Pairwise.nil
  have := List.pairwise_iff_getElem.1 s i (i + 1) (by omega) hi (by omega)
  rw [List.getD_eq_getElem?_getD, List.getD_eq_getElem?_getD, List.getElem?_eq_getElem hi, List.getElem?_eq_getElem (show i < _ by omega)]
  exact this
theorem imv_two {k m d g : Int} : (imvL k m d g).length ≤ 2 := by
  unfold imvL; split
  · rename_i q
    exact imov_two (jan_first q.2.1 q.2.2).2.2.1
  · simp
theorem imv_none {k m d g : Int} (h : (imvE k m d g != 0) = true) : imvL k m d g = [] := by
  unfold imvL; unfold imvE at h
  split
  · rename_i q
    rw [if_neg (by rw [q.1]; simp), if_neg (by omega)] at h
    exact absurd h (by decide)
  · rfl
theorem imv_own {k y m d g n : Int} (h : ivld k y m d = true) (he : idayN k y m d = n) (g0 : 1 ≤ g) (g1 : g ≤ 9999) (h0 : dayN g 1 1 ≤ n) (h1 : n ≤ dayN g 12 31) : imvE k m d g = 0 ∧ n ∈ imvL k m d g := by
  obtain ⟨k0, k1, y0, y1, m0, m1, d0, d1⟩ := ivld_bd h
  have v := ivld_iff.1 h
  have ok : imovB k m d = true := imovB_iff.2 ⟨k0, k1, m0, m1, d0, by omega, by
    rintro ⟨a, b, c⟩
    have l := ilenM_at (ivld_yr h) m0 m1
    rw [if_neg (by rintro (q | q); omega; exact c q.1)] at l
    omega⟩
  have e := imv_good ok g0 g1
  refine ⟨e.1, ?_⟩
  rw [e.2, imov_mem]
  exact ⟨y.toNat, by omega, by rw [Int.toNat_of_nonneg (by omega)]; exact h, by rw [Int.toNat_of_nonneg (by omega)]; exact he, h0, h1⟩
namespace IslamicWanders
set_option maxRecDepth 100000 in
set_option maxHeartbeats 2000000 in
theorem out (k y m d n a b c E a' b' c' E' : Int) (HG : ∀ w, Calls Tryd.prog 33 #[.int .i64 n] w fun e w' => e = .returned (.tuple #[.agg #[.int .i64 a, .int .i64 b, .int .i64 c], .int .i64 E]) ∧ Below w.heap.size w w') (HX : ∀ w, Tabs w → Calls Tryd.prog 25 #[.int .i64 k, .int .i64 n] w fun e w' => e = .returned (.tuple #[.agg #[.int .i64 a', .int .i64 b', .int .i64 c'], .int .i64 E']) ∧ Below w.heap.size w w') (t : (E != 0) = true ∨ E = 0 ∧ (E' != 0) = true) (w : World) (ht : TabsM w) :
    Calls Tryd.prog 11 #[.int .i64 k, .agg #[.int .i64 y, .int .i64 m, .int .i64 d], .int .i64 n] w fun e w' => e = .returned (.bool true) ∧ Below w.heap.size w w' := by
  have AW := Lib.hid (fun w ht => awake_all w ht)
  replace ht := Lib.hid ht
  replace HG := Lib.hid HG
  replace HX := Lib.hid HX
  rcases t with q | ⟨rfl, q⟩
  all_goals
    go_enter Tryd.func11, Tryd.ntmps11
    go_wp2_with fail
    refine (AW.out _ (ht.out.below (grow (here w) _))).mono ?_
    rintro e w1 ⟨rfl, hb⟩
    have A1 := Lib.hid (down (grow (here w) _) hb)
    have D1 := Lib.hid (Box.new hb)
    clear hb
    obtain ⟨d1_0, d1_1, d1_2, d1_z⟩ := D1.out
    go_wp2_with fail
    refine (HG.out _).mono ?_
    rintro e w2 ⟨rfl, hb⟩
    have A2 := Lib.hid (down A1.out hb)
    have D2 := Lib.hid (D1.out.keep hb)
    clear hb A1 D1 d1_0 d1_1 d1_2 d1_z
    obtain ⟨d2_0, d2_1, d2_2, d2_z⟩ := D2.out
    go_wp2_with fail
    refine (HX.out _ (ht.out.below (grow A2.out _))).mono ?_
    rintro e w3 ⟨rfl, hb⟩
    have A3 := Lib.hid (down (grow A2.out _) hb)
    have D3 := Lib.hid ((D2.out.old _).keep hb)
    have G3 := Lib.hid (Box.new hb)
    clear hb A2 D2 d2_0 d2_1 d2_2 d2_z
    obtain ⟨d3_0, d3_1, d3_2, d3_z⟩ := D3.out
    obtain ⟨g3_0, g3_1, g3_2, g3_z⟩ := G3.out
    go_wp2
    go_ret
    exact ⟨rfl, by first | exact A3.out | exact grow A3.out _ | exact below_drewN A3.out _ | exact grow (grow A3.out _) _ | exact grow (grow (grow A3.out _) _) _⟩
set_option maxRecDepth 100000 in
set_option maxHeartbeats 2000000 in
theorem err (k y m d n a b c a' b' c' E : Int) (HG : ∀ w, Calls Tryd.prog 33 #[.int .i64 n] w fun e w' => e = .returned (.tuple #[.agg #[.int .i64 a, .int .i64 b, .int .i64 c], .int .i64 0]) ∧ Below w.heap.size w w') (HX : ∀ w, Tabs w → Calls Tryd.prog 25 #[.int .i64 k, .int .i64 n] w fun e w' => e = .returned (.tuple #[.agg #[.int .i64 a', .int .i64 b', .int .i64 c'], .int .i64 0]) ∧ Below w.heap.size w w') (HM : ∀ w, TabsM w → Calls Tryd.prog 30 #[.int .i64 k, .agg #[.int .i64 y, .int .i64 m, .int .i64 d], .int .i64 a] w fun e w' => (∃ v, e = .returned (.tuple #[v, .int .i64 E]) ∧ IntS w.heap.size w' v []) ∧ Below w.heap.size w w') (q : (E != 0) = true) (w : World) (ht : TabsM w) :
    Calls Tryd.prog 11 #[.int .i64 k, .agg #[.int .i64 y, .int .i64 m, .int .i64 d], .int .i64 n] w fun e w' => e = .returned (.bool true) ∧ Below w.heap.size w w' := by
  have AW := Lib.hid (fun w ht => awake_all w ht)
  replace ht := Lib.hid ht
  replace HG := Lib.hid HG
  replace HX := Lib.hid HX
  replace HM := Lib.hid HM
  go_enter Tryd.func11, Tryd.ntmps11
  go_wp2_with fail
  refine (AW.out _ (ht.out.below (grow (here w) _))).mono ?_
  rintro e w1 ⟨rfl, hb⟩
  have A1 := Lib.hid (down (grow (here w) _) hb)
  have D1 := Lib.hid (Box.new hb)
  clear hb
  obtain ⟨d1_0, d1_1, d1_2, d1_z⟩ := D1.out
  go_wp2_with fail
  refine (HG.out _).mono ?_
  rintro e w2 ⟨rfl, hb⟩
  have A2 := Lib.hid (down A1.out hb)
  have D2 := Lib.hid (D1.out.keep hb)
  clear hb A1 D1 d1_0 d1_1 d1_2 d1_z
  obtain ⟨d2_0, d2_1, d2_2, d2_z⟩ := D2.out
  go_wp2_with fail
  refine (HX.out _ (ht.out.below (grow A2.out _))).mono ?_
  rintro e w3 ⟨rfl, hb⟩
  have A3 := Lib.hid (down (grow A2.out _) hb)
  have D3 := Lib.hid ((D2.out.old _).keep hb)
  have G3 := Lib.hid (Box.new hb)
  clear hb A2 D2 d2_0 d2_1 d2_2 d2_z
  obtain ⟨d3_0, d3_1, d3_2, d3_z⟩ := D3.out
  obtain ⟨g3_0, g3_1, g3_2, g3_z⟩ := G3.out
  go_wp2_with fail
  refine (HM.out _ (ht.out.belowM (grow A3.out _))).mono ?_
  rintro e w4 ⟨⟨v, rfl, S⟩, hb⟩
  obtain ⟨ao, ac, rfl⟩ := S.shape
  simp only [List.length_nil] at S
  have A4 := Lib.hid (down (grow A3.out _) hb)
  have D4 := Lib.hid ((D3.out.old _).keep hb)
  have G4 := Lib.hid ((G3.out.old _).keep hb)
  have X4 := Lib.hid (Box.new hb)
  clear hb A3 D3 G3 d3_0 d3_1 d3_2 d3_z g3_0 g3_1 g3_2 g3_z
  obtain ⟨d4_0, d4_1, d4_2, d4_z⟩ := D4.out
  obtain ⟨g4_0, g4_1, g4_2, g4_z⟩ := G4.out
  obtain ⟨x4_0, x4_1, x4_2, x4_z⟩ := X4.out
  have S4 := Lib.hid S
  clear S
  go_wp2
  go_ret
  exact ⟨rfl, by first | exact A4.out | exact grow A4.out _ | exact below_drewN A4.out _ | exact grow (grow A4.out _) _ | exact grow (grow (grow A4.out _) _) _⟩
set_option maxRecDepth 100000 in
set_option maxHeartbeats 2000000 in
theorem good (k y m d n a b c a' b' c' : Int) (L O : List Int) (N : Nat) (hN : L.length = N) (N2 : N ≤ 2) (hO : O.length ≤ 9601) (hn : I64 n) (mem : n ∈ O)
    (HL : ∀ i : Nat, i < N → ∃ y' a2 b2 : Int, (-492148 ≤ L.getD i 0 ∧ L.getD i 0 ≤ 2909771) ∧ (∀ w, Tabs w → Calls Tryd.prog 25 #[.int .i64 k, .int .i64 (L.getD i 0)] w fun e w' => e = .returned (.tuple #[.agg #[.int .i64 y', .int .i64 m, .int .i64 d], .int .i64 0]) ∧ Below w.heap.size w w') ∧
      (∀ w, Calls Tryd.prog 33 #[.int .i64 (L.getD i 0)] w fun e w' => e = .returned (.tuple #[.agg #[.int .i64 a, .int .i64 a2, .int .i64 b2], .int .i64 0]) ∧ Below w.heap.size w w'))
    (HU : ∀ i : Nat, i + 1 < N → L.getD i 0 < L.getD (i + 1) 0)
    (HG : ∀ w, Calls Tryd.prog 33 #[.int .i64 n] w fun e w' => e = .returned (.tuple #[.agg #[.int .i64 a, .int .i64 b, .int .i64 c], .int .i64 0]) ∧ Below w.heap.size w w') (HX : ∀ w, Tabs w → Calls Tryd.prog 25 #[.int .i64 k, .int .i64 n] w fun e w' => e = .returned (.tuple #[.agg #[.int .i64 a', .int .i64 b', .int .i64 c'], .int .i64 0]) ∧ Below w.heap.size w w') (HM : ∀ w, TabsM w → Calls Tryd.prog 30 #[.int .i64 k, .agg #[.int .i64 y, .int .i64 m, .int .i64 d], .int .i64 a] w fun e w' => (∃ v, e = .returned (.tuple #[v, .int .i64 0]) ∧ IntS w.heap.size w' v L) ∧ Below w.heap.size w w') (HW : ∀ w, TabsM w → Calls Tryd.prog 30 #[.int .i64 k, .agg #[.int .i64 a', .int .i64 b', .int .i64 c'], .int .i64 a] w fun e w' => (∃ v, e = .returned (.tuple #[v, .int .i64 0]) ∧ IntS w.heap.size w' v O) ∧ Below w.heap.size w w') (w : World) (ht : TabsM w) :
    Calls Tryd.prog 11 #[.int .i64 k, .agg #[.int .i64 y, .int .i64 m, .int .i64 d], .int .i64 n] w fun e w' => e = .returned (.bool true) ∧ Below w.heap.size w w' := by
  have HC := fun v w p (h : IntS p w v O) => has_int O n hn v (by omega) w h
  rw [decide_eq_true mem] at HC
  have hN' := Lib.hid hN
  have n2 : decide ((N : Int) ≤ 2) = true := decide_eq_true (by omega)
  clear mem hO hN
  have AW := Lib.hid (fun w ht => awake_all w ht)
  replace ht := Lib.hid ht
  replace HG := Lib.hid HG
  replace HX := Lib.hid HX
  replace HM := Lib.hid HM
  replace HW := Lib.hid HW
  replace HC := Lib.hid HC
  replace HL := Lib.hid HL
  replace HU := Lib.hid HU
  go_enter Tryd.func11, Tryd.ntmps11
  go_wp2_with fail
  refine (AW.out _ (ht.out.below (grow (here w) _))).mono ?_
  rintro e w1 ⟨rfl, hb⟩
  have A1 := Lib.hid (down (grow (here w) _) hb)
  have D1 := Lib.hid (Box.new hb)
  clear hb
  obtain ⟨d1_0, d1_1, d1_2, d1_z⟩ := D1.out
  go_wp2_with fail
  refine (HG.out _).mono ?_
  rintro e w2 ⟨rfl, hb⟩
  have A2 := Lib.hid (down A1.out hb)
  have D2 := Lib.hid (D1.out.keep hb)
  clear hb A1 D1 d1_0 d1_1 d1_2 d1_z
  obtain ⟨d2_0, d2_1, d2_2, d2_z⟩ := D2.out
  go_wp2_with fail
  refine (HX.out _ (ht.out.below (grow A2.out _))).mono ?_
  rintro e w3 ⟨rfl, hb⟩
  have A3 := Lib.hid (down (grow A2.out _) hb)
  have D3 := Lib.hid ((D2.out.old _).keep hb)
  have G3 := Lib.hid (Box.new hb)
  clear hb A2 D2 d2_0 d2_1 d2_2 d2_z
  obtain ⟨d3_0, d3_1, d3_2, d3_z⟩ := D3.out
  obtain ⟨g3_0, g3_1, g3_2, g3_z⟩ := G3.out
  go_wp2_with fail
  refine (HM.out _ (ht.out.belowM (grow A3.out _))).mono ?_
  rintro e w4 ⟨⟨v, rfl, S⟩, hb⟩
  obtain ⟨ao, ac, rfl⟩ := S.shape
  rw [hN'.out]
  unfold IntS at S
  rw [hN'.out] at S
  have A4 := Lib.hid (down (grow A3.out _) hb)
  have D4 := Lib.hid ((D3.out.old _).keep hb)
  have G4 := Lib.hid ((G3.out.old _).keep hb)
  have X4 := Lib.hid (Box.new hb)
  clear hb A3 D3 G3 d3_0 d3_1 d3_2 d3_z g3_0 g3_1 g3_2 g3_z
  obtain ⟨d4_0, d4_1, d4_2, d4_z⟩ := D4.out
  obtain ⟨g4_0, g4_1, g4_2, g4_z⟩ := G4.out
  obtain ⟨x4_0, x4_1, x4_2, x4_z⟩ := X4.out
  have S4 := Lib.hid S
  clear S
  go_wp2
  go_loopw [55] (fun p wr => ∃ i : Nat, i ≤ N ∧ p = .int .i64 i ∧ Hid (Below w4.heap.size w4 wr)) (fun p _ => N - (intOf p).toNat)
  case atStart => exact ⟨0, Nat.zero_le _, rfl, here _⟩
  case round =>
    obtain ⟨i, hi, rfl, HA⟩ := hrel
    have DA := Lib.hid (D4.out.keep HA.out)
    have GA := Lib.hid (G4.out.keep HA.out)
    have XA := Lib.hid (X4.out.keep HA.out)
    have AA := Lib.hid (down A4.out HA.out)
    have SA := Lib.hid (S4.out.keep HA.out)
    clear d4_0 d4_1 d4_2 d4_z g4_0 g4_1 g4_2 g4_z x4_0 x4_1 x4_2 x4_z
    by_cases z : i < N
    · have kz : decide ((i : Int) < (N : Int)) = true := decide_eq_true (by omega)
      obtain ⟨y', a2, b2, nb, HY, HZ⟩ := HL.out i z
      replace HY := Lib.hid HY
      replace HZ := Lib.hid HZ
      rcases SA.out with ⟨q, -⟩ | ⟨vb, vo, vc, heq, -, LI⟩
      · exact absurd q (by omega)
      · injection heq with h1 h2 h3
        subst h1
        subst h3
        have LA := Lib.hid LI
        have e0 := ints_at LI i (by have := hN'.out; omega)
        have prev : i = 0 ∨ ∃ j : Nat, i = j + 1 ∧ L.getD j 0 < L.getD i 0 := by
          rcases Nat.eq_zero_or_pos i with q | q
          · exact .inl q
          · exact .inr ⟨i - 1, by omega, by have := HU.out (i - 1) (by omega); rw [show i - 1 + 1 = i by omega] at this; exact this⟩
        replace prev := Lib.hid prev
        clear LI HC HM HW HG HX HU HL
        obtain ⟨nb0, nb1⟩ := nb
        generalize hE : L.getD i 0 = e at *
        replace hE := Lib.hid hE

        have A90 := Lib.hid AA.out
        have LA90 := Lib.hid LA.out
        clear AA LA
        obtain ⟨d_0, d_1, d_2, d_z⟩ := DA.out
        go_wp2_with fail
        refine (HY.out _ (ht.out.below A90.out)).mono ?_
        rintro e1 w91 ⟨rfl, hb⟩
        have B91 := Lib.hid (HA.out.trans (hb.mono HA.out.size))
        have A91 := Lib.hid (down A90.out hb)
        have D91 := Lib.hid (DA.out.keep hb)
        have G91 := Lib.hid (GA.out.keep hb)
        have LA91 := Lib.hid (LA90.out.keep hb)
        clear hb A90 DA GA LA90 HA XA SA d_0 d_1 d_2 d_z e0
        go_wp2_with fail
        refine (HZ.out _).mono ?_
        rintro e1 w92 ⟨rfl, hb⟩
        have B92 := Lib.hid (B91.out.trans (((grow (here w91) _).trans (hb.mono (by simp))).mono B91.out.size))
        have D92 := Lib.hid ((D91.out.old _).keep hb)
        have G92 := Lib.hid ((G91.out.old _).keep hb)
        have Y92 := Lib.hid (Box.new hb)
        have LA92 := Lib.hid ((LA91.out.keep (grow (here _) _)).keep hb)
        clear hb A91 D91 G91 LA91 B91
        obtain ⟨d_0, d_1, d_2, d_z⟩ := D92.out
        obtain ⟨g_0, g_1, g_2, g_z⟩ := G92.out
        obtain ⟨y_0, y_1, y_2, y_z⟩ := Y92.out
        rcases prev.out with rfl | ⟨j, rfl, lt⟩
        · go_wp2
          go_roundw
          case rel => exact ⟨1, by omega, rfl, B92.out.trans ((grow (here w92) _).mono B92.out.size)⟩
          case measure => simp [intOf]; omega
        · have p0 := ints_at LA92.out j (by have := hN'.out; omega)
          have vlt := LA92.out.lt
          have pl : decide (e ≤ L.getD j 0) = false := decide_eq_false (by omega)
          have pj : decide ((0 : Int) < ((j + 1 : Nat) : Int)) = true := decide_eq_true (by omega)
          have pb : (((j + 1 : Nat) : Int) - 1) = (j : Int) := by omega
          have jn : j < N := by omega
          have jk : decide ((j : Int) < (N : Int)) = true := decide_eq_true (by omega)
          clear lt
          generalize L.getD j 0 = p at *
          go_wp2
          go_roundw
          case rel => exact ⟨j + 2, by omega, by go_num, B92.out.trans ((grow (here w92) _).mono B92.out.size)⟩
          case measure => simp [intOf]; omega
    · obtain rfl : i = N := by omega
      have kz : decide ((i : Int) < (i : Int)) = false := decide_eq_false (by omega)
      clear HL HU HG HX HM z
      obtain ⟨g_0, g_1, g_2, g_z⟩ := GA.out
      obtain ⟨x_0, x_1, x_2, x_z⟩ := XA.out
      go_wp2_with fail
      refine (HW.out _ (ht.out.belowM AA.out)).mono ?_
      rintro e1 w91 ⟨⟨u, rfl, U⟩, hb⟩
      have A91 := Lib.hid (down AA.out hb)
      obtain ⟨bo, bc, rfl⟩ := U.shape
      replace U := Lib.hid U
      clear hb g_0 g_1 g_2 g_z x_0 x_1 x_2 x_z
      go_wp2_with fail
      refine (HC.out _ _ _ U.out).mono ?_
      rintro e1 x9 ⟨rfl, rfl⟩
      go_wp2
      go_ret
      exact ⟨rfl, A91.out⟩
theorem walk (k y m d n : Int) (hk : (Lit.int .i64 k).wf = true) (hy : (Lit.int .i64 y).wf = true) (hm : (Lit.int .i64 m).wf = true) (hd : (Lit.int .i64 d).wf = true) (hn : (Lit.int .i64 n).wf = true) (w : World) (ht : TabsM w) :
    Calls Tryd.prog 11 #[.int .i64 k, .agg #[.int .i64 y, .int .i64 m, .int .i64 d], .int .i64 n] w fun e w' => e = .returned (.bool true) ∧ Below w.heap.size w w' := by
  replace hk := i64_wf hk
  replace hy := i64_wf hy
  replace hm := i64_wf hm
  replace hd := i64_wf hd
  replace hn := i64_wf hn
  obtain ⟨a', b', c', E', HX, -⟩ := both_date k n hk hn
  by_cases r : n < -719162 ∨ 2932897 ≤ n
  · exact out k y m d n _ _ _ _ a' b' c' E' (fun w => cdate_no n hn r w) HX (.inl rfl) w ht
  · obtain ⟨a, b, c, hv, he⟩ := date_of (n := n) (by omega) (by omega)
    have HG := fun w => cdate_yes n a b c hv he w
    by_cases q : ikd k = false ∨ n < -492148 ∨ 2909772 ≤ n
    · by_cases qk : ikd k = false
      · exact out k y m d n _ _ _ _ 0 0 0 1 HG (fun w ht => uidate_kind k n hk hn qk w ht) (.inr ⟨rfl, rfl⟩) w ht
      · exact out k y m d n _ _ _ _ 0 0 0 2 HG (fun w ht => uidate_out k n hn (by simpa using qk) (by rcases q with q | q; exact absurd q qk; exact q) w ht) (.inr ⟨rfl, rfl⟩) w ht
    · have qk : ikd k = true := by
        cases z : ikd k
        · exact absurd (Or.inl z) q
        · rfl
      obtain ⟨k0, k1⟩ := ikd_iff.1 qk
      obtain ⟨ya, ma, da, iv, ie⟩ := idate_of (n := n) k0 k1 (by omega) (by omega)
      obtain ⟨a0, a1, -⟩ := vld_bd hv
      obtain ⟨-, -, y0, y1, m0, m1, d0, d1⟩ := ivld_bd iv
      have HM := fun w ht => uimoved k y m d a hk hy hm hd ⟨by omega, by omega⟩ w ht
      have hxx := fun w ht => uidate_yes k n ya ma da iv ie w ht
      cases e : (imvE k m d a != 0)
      · have e0 : imvE k m d a = 0 := by simpa using e
        have yd := year_of_day hv
        rw [he] at yd
        have ow := imv_own iv ie a0 a1 yd.1 yd.2
        have HW := fun w ht => uimoved k ya ma da a hk ⟨by omega, by omega⟩ ⟨by omega, by omega⟩ ⟨by omega, by omega⟩ ⟨by omega, by omega⟩ w ht
        rw [e0] at HM
        rw [ow.1] at HW
        refine good k y m d n a b c ya ma da _ _ _ rfl imv_two (imvL_len _ _ _ _) hn ow.2 (fun i hi => ?_) (fun i hi => imv_up i hi) HG hxx HM HW w ht
        obtain ⟨y', a2, b2, h1, h2, h3, h4, h5, h6⟩ := imv_found e0 i hi
        exact ⟨y', a2, b2, ⟨h5, h6⟩, fun w ht => uidate_yes k _ y' m d h1 h2 w ht, fun w => cdate_yes _ a a2 b2 h3 h4 w⟩
      · rw [imv_none e] at HM
        exact err k y m d n a b c ya ma da _ HG hxx HM e w ht
end IslamicWanders
end Go.Proofs.YtobipbmigpkhmaaDoor
