/- The walk of IslamicKinds: the Go text returns true, at every input. -/
import Derived.Test.YtobipbmigpkhmaaDoorIsAwake
namespace Go.Proofs.YtobipbmigpkhmaaDoor
open Go.RowKit
set_option linter.unusedVariables false

theorem iday_fate (k y m d : Int) : idE k y m d = 1 ∧ ivld k y m d = false ∨ idE k y m d = 0 ∧ ivld k y m d = true ∧ idN k y m d = idayN k y m d ∧ -492148 ≤ idN k y m d ∧ idN k y m d ≤ 2909771 := by
  cases h : ivld k y m d
  · left; unfold idE; rw [if_neg (by rw [h]; simp)]; exact ⟨rfl, rfl⟩
  · right
    have r := iday_range h
    unfold idE idN
    rw [if_pos h, if_pos h]
    exact ⟨rfl, rfl, rfl, r.1, by omega⟩
theorem idN_bd (k y m d : Int) : -492148 ≤ idN k y m d ∧ idN k y m d ≤ 2909771 := by
  rcases iday_fate k y m d with ⟨h, q⟩ | ⟨h, q, e, r⟩
  · unfold idN; rw [if_neg (by rw [q]; simp)]; omega
  · exact r
theorem inew_same {a b y : Int} (ha : ikd a = true) (hb : ikd b = true) (y0 : 1 ≤ y) (y1 : y ≤ 9601) (h : (y - 1) % 30 = 0) : inewN a y = inewN b y ∧ inewE a y = 0 ∧ inewE b y = 0 := by
  obtain ⟨a0, a1⟩ := ikd_iff.1 ha
  obtain ⟨b0, b1⟩ := ikd_iff.1 hb
  rw [(inew_in ha y0 y1).1, (inew_in hb y0 y1).1, ifirst_cycle a0 a1 h, ifirst_cycle b0 b1 h]
  exact ⟨rfl, (inew_in ha y0 y1).2, (inew_in hb y0 y1).2⟩
theorem inewN_bd (k y : Int) : -492148 ≤ inewN k y ∧ inewN k y ≤ 2909772 := by
  unfold inewN
  split
  · rename_i h
    obtain ⟨k0, k1⟩ := ikd_iff.1 h.1
    exact ifirst_bd k0 k1 h.2.1 h.2.2
  · omega
namespace IslamicKinds
set_option maxRecDepth 100000 in
set_option maxHeartbeats 2000000 in
theorem walk (a b y m d : Int) (ha : (Lit.int .i64 a).wf = true) (hb : (Lit.int .i64 b).wf = true) (hy : (Lit.int .i64 y).wf = true) (hm : (Lit.int .i64 m).wf = true) (hd : (Lit.int .i64 d).wf = true) (w : World) (ht : Tabs w) :
    Calls Tryd.prog 9 #[.int .i64 a, .int .i64 b, .agg #[.int .i64 y, .int .i64 m, .int .i64 d]] w fun e w' => e = .returned (.bool true) ∧ Below w.heap.size w w' := by
  replace ha := i64_wf ha
  replace hb := i64_wf hb
  replace hy := i64_wf hy
  replace hm := i64_wf hm
  replace hd := i64_wf hd
  have H1 := fun w ht => uiday a y m d ha hy hm hd w ht
  have H2 := fun w ht => uiday b y m d hb hy hm hd w ht
  have H3 := fun w ht => uikd a ha w ht
  have H4 := fun w ht => uikd b hb w ht
  have b1 := idN_bd a y m d
  have b2 := idN_bd b y m d
  have t1 : idE a y m d = 1 ∨ idE a y m d = 0 ∧ idE b y m d = 1 ∨ idE a y m d = 0 ∧ idE b y m d = 0 ∧ decide (1 < idN a y m d - idN b y m d) = false ∧ decide (1 < idN b y m d - idN a y m d) = false := by
    rcases iday_fate a y m d with ⟨h, q⟩ | ⟨h, q, e, r⟩
    · exact .inl h
    · rcases iday_fate b y m d with ⟨h', q'⟩ | ⟨h', q', e', r'⟩
      · exact .inr (.inl ⟨h, h'⟩)
      · have n1 := iday_near q q'
        have n2 := iday_near q' q
        rw [e, e']
        exact .inr (.inr ⟨h, h', decide_eq_false (by omega), decide_eq_false (by omega)⟩)
  have t2 : ikd a = false ∨ ikd a = true ∧ ikd b = false ∨ ikd a = true ∧ ikd b = true ∧ decide (y < 1) = true ∨ ikd a = true ∧ ikd b = true ∧ decide (y < 1) = false ∧ decide (9600 < y) = true ∨
      ikd a = true ∧ ikd b = true ∧ decide (y < 1) = false ∧ decide (9600 < y) = false ∧ 0 ≤ y - 1 ∧ y ≤ 9600 ∧ inewN a (y - (y - 1) % 30) = inewN b (y - (y - 1) % 30) ∧ inewE a (y - (y - 1) % 30) = 0 ∧ inewE b (y - (y - 1) % 30) = 0 := by
    cases p : ikd a
    · exact .inl rfl
    · cases q : ikd b
      · exact .inr (.inl ⟨rfl, rfl⟩)
      · by_cases z : y < 1
        · exact .inr (.inr (.inl ⟨rfl, rfl, decide_eq_true z⟩))
        · by_cases z2 : 9600 < y
          · exact .inr (.inr (.inr (.inl ⟨rfl, rfl, decide_eq_false z, decide_eq_true z2⟩)))
          · exact .inr (.inr (.inr (.inr ⟨rfl, rfl, decide_eq_false z, decide_eq_false z2, by omega, by omega, inew_same p q (by omega) (by omega) (by omega)⟩)))
  have H5 := fun f (hf : I64 f) w ht => uinew a f ha hf w ht
  have H6 := fun f (hf : I64 f) w ht => uinew b f hb hf w ht
  obtain ⟨b10, b11⟩ := b1
  obtain ⟨b20, b21⟩ := b2
  generalize idN a y m d = N1 at *
  generalize idE a y m d = E1 at *
  generalize idN b y m d = N2 at *
  generalize idE b y m d = E2 at *
  generalize ikd a = K1 at *
  generalize ikd b = K2 at *
  obtain ⟨hy0, hy1⟩ := hy
  have AW := Lib.hid (fun w ht => awake_all w ht)
  replace ht := Lib.hid ht
  replace H1 := Lib.hid H1
  replace H2 := Lib.hid H2
  replace H3 := Lib.hid H3
  replace H4 := Lib.hid H4
  replace H5 := Lib.hid H5
  replace H6 := Lib.hid H6
  replace t2 := Lib.hid t2
  rcases t1 with rfl | ⟨rfl, rfl⟩ | ⟨rfl, rfl, q1, q2⟩
  all_goals
    go_enter Tryd.func9, Tryd.ntmps9
    go_wp2_with fail
    refine (AW.out _ (ht.out.below (grow (here w) _))).mono ?_
    rintro e w1 ⟨rfl, hb⟩
    have A1 := Lib.hid (down (grow (here w) _) hb)
    have D1 := Lib.hid (Box.new hb)
    clear hb
    obtain ⟨d1_0, d1_1, d1_2, d1_z⟩ := D1.out
    go_wp2_with fail
    refine (H1.out _ (ht.out.below A1.out)).mono ?_
    rintro e w2 ⟨rfl, hb⟩
    have A2 := Lib.hid (down A1.out hb)
    have D2 := Lib.hid (D1.out.keep hb)
    clear hb A1 D1 d1_0 d1_1 d1_2 d1_z
    obtain ⟨d2_0, d2_1, d2_2, d2_z⟩ := D2.out
    go_wp2_with fail
    refine (H2.out _ (ht.out.below A2.out)).mono ?_
    rintro e w3 ⟨rfl, hb⟩
    have A3 := Lib.hid (down A2.out hb)
    have D3 := Lib.hid (D2.out.keep hb)
    clear hb A2 D2 d2_0 d2_1 d2_2 d2_z
    obtain ⟨d3_0, d3_1, d3_2, d3_z⟩ := D3.out
    rcases t2.out with rfl | ⟨rfl, rfl⟩ | ⟨rfl, rfl, u1⟩ | ⟨rfl, rfl, u1, u2⟩ | ⟨rfl, rfl, u1, u2, u3, u4, u5, u6, u7⟩
    · skip
      go_wp2_with fail
      refine (H3.out _ (ht.out.below A3.out)).mono ?_
      rintro e w4 ⟨rfl, hb⟩
      have A4 := Lib.hid (down A3.out hb)
      have D4 := Lib.hid (D3.out.keep hb)
      clear hb A3 D3 d3_0 d3_1 d3_2 d3_z
      obtain ⟨d4_0, d4_1, d4_2, d4_z⟩ := D4.out
      go_wp2
      go_ret
      exact ⟨rfl, by first | exact A4.out | exact grow A4.out _ | exact below_drewN A4.out _ | exact grow (grow A4.out _) _ | exact grow (grow (grow A4.out _) _) _⟩
    · skip
      go_wp2_with fail
      refine (H3.out _ (ht.out.below A3.out)).mono ?_
      rintro e w4 ⟨rfl, hb⟩
      have A4 := Lib.hid (down A3.out hb)
      have D4 := Lib.hid (D3.out.keep hb)
      clear hb A3 D3 d3_0 d3_1 d3_2 d3_z
      obtain ⟨d4_0, d4_1, d4_2, d4_z⟩ := D4.out
      go_wp2_with fail
      refine (H4.out _ (ht.out.below A4.out)).mono ?_
      rintro e w5 ⟨rfl, hb⟩
      have A5 := Lib.hid (down A4.out hb)
      have D5 := Lib.hid (D4.out.keep hb)
      clear hb A4 D4 d4_0 d4_1 d4_2 d4_z
      obtain ⟨d5_0, d5_1, d5_2, d5_z⟩ := D5.out
      go_wp2
      go_ret
      exact ⟨rfl, by first | exact A5.out | exact grow A5.out _ | exact below_drewN A5.out _ | exact grow (grow A5.out _) _ | exact grow (grow (grow A5.out _) _) _⟩
    · skip
      go_wp2_with fail
      refine (H3.out _ (ht.out.below A3.out)).mono ?_
      rintro e w4 ⟨rfl, hb⟩
      have A4 := Lib.hid (down A3.out hb)
      have D4 := Lib.hid (D3.out.keep hb)
      clear hb A3 D3 d3_0 d3_1 d3_2 d3_z
      obtain ⟨d4_0, d4_1, d4_2, d4_z⟩ := D4.out
      go_wp2_with fail
      refine (H4.out _ (ht.out.below A4.out)).mono ?_
      rintro e w5 ⟨rfl, hb⟩
      have A5 := Lib.hid (down A4.out hb)
      have D5 := Lib.hid (D4.out.keep hb)
      clear hb A4 D4 d4_0 d4_1 d4_2 d4_z
      obtain ⟨d5_0, d5_1, d5_2, d5_z⟩ := D5.out
      go_wp2
      go_ret
      exact ⟨rfl, by first | exact A5.out | exact grow A5.out _ | exact below_drewN A5.out _ | exact grow (grow A5.out _) _ | exact grow (grow (grow A5.out _) _) _⟩
    · skip
      go_wp2_with fail
      refine (H3.out _ (ht.out.below A3.out)).mono ?_
      rintro e w4 ⟨rfl, hb⟩
      have A4 := Lib.hid (down A3.out hb)
      have D4 := Lib.hid (D3.out.keep hb)
      clear hb A3 D3 d3_0 d3_1 d3_2 d3_z
      obtain ⟨d4_0, d4_1, d4_2, d4_z⟩ := D4.out
      go_wp2_with fail
      refine (H4.out _ (ht.out.below A4.out)).mono ?_
      rintro e w5 ⟨rfl, hb⟩
      have A5 := Lib.hid (down A4.out hb)
      have D5 := Lib.hid (D4.out.keep hb)
      clear hb A4 D4 d4_0 d4_1 d4_2 d4_z
      obtain ⟨d5_0, d5_1, d5_2, d5_z⟩ := D5.out
      go_wp2
      go_ret
      exact ⟨rfl, by first | exact A5.out | exact grow A5.out _ | exact below_drewN A5.out _ | exact grow (grow A5.out _) _ | exact grow (grow (grow A5.out _) _) _⟩
    · skip
      go_wp2_with fail
      refine (H3.out _ (ht.out.below A3.out)).mono ?_
      rintro e w4 ⟨rfl, hb⟩
      have A4 := Lib.hid (down A3.out hb)
      have D4 := Lib.hid (D3.out.keep hb)
      clear hb A3 D3 d3_0 d3_1 d3_2 d3_z
      obtain ⟨d4_0, d4_1, d4_2, d4_z⟩ := D4.out
      go_wp2_with fail
      refine (H4.out _ (ht.out.below A4.out)).mono ?_
      rintro e w5 ⟨rfl, hb⟩
      have A5 := Lib.hid (down A4.out hb)
      have D5 := Lib.hid (D4.out.keep hb)
      clear hb A4 D4 d4_0 d4_1 d4_2 d4_z
      obtain ⟨d5_0, d5_1, d5_2, d5_z⟩ := D5.out
      have mb : 0 ≤ (y - 1) % 30 ∧ (y - 1) % 30 ≤ 29 := by omega
      have H5b := Lib.hid (fun w ht => H5.out (y - (y - 1) % 30) ⟨by omega, by omega⟩ w ht)
      have H6b := H6.out (y - (y - 1) % 30) ⟨by omega, by omega⟩
      rw [← u5, u7] at H6b
      have H5c := H5b.out
      rw [u6] at H5c
      replace H5c := Lib.hid H5c
      replace H6b := Lib.hid H6b
      have nb := inewN_bd a (y - (y - 1) % 30)
      obtain ⟨nb0, nb1⟩ := nb
      obtain ⟨mb0, mb1⟩ := mb
      clear u5 u6 u7 H5 H6 H5b
      generalize inewN a (y - (y - 1) % 30) = Z at *
      go_wp2_with fail
      refine (H5c.out _ (ht.out.below A5.out)).mono ?_
      rintro e w6 ⟨rfl, hb⟩
      have A6 := Lib.hid (down A5.out hb)
      have D6 := Lib.hid (D5.out.keep hb)
      clear hb A5 D5 d5_0 d5_1 d5_2 d5_z
      obtain ⟨d6_0, d6_1, d6_2, d6_z⟩ := D6.out
      go_wp2_with fail
      refine (H6b.out _ (ht.out.below A6.out)).mono ?_
      rintro e w7 ⟨rfl, hb⟩
      have A7 := Lib.hid (down A6.out hb)
      have D7 := Lib.hid (D6.out.keep hb)
      clear hb A6 D6 d6_0 d6_1 d6_2 d6_z
      obtain ⟨d7_0, d7_1, d7_2, d7_z⟩ := D7.out
      go_wp2
      go_ret
      exact ⟨rfl, by first | exact A7.out | exact grow A7.out _ | exact below_drewN A7.out _ | exact grow (grow A7.out _) _ | exact grow (grow (grow A7.out _) _) _⟩
end IslamicKinds
end Go.Proofs.YtobipbmigpkhmaaDoor
