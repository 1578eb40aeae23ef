/- The contract of islamic.Moved. -/
import Derived.Test.YtobipbmigpkhmaaDoorIsT
namespace Go.Proofs.YtobipbmigpkhmaaDoor
open Go.RowKit
set_option linter.unusedVariables false

/-- The package's variable and the one of package civil. -/
structure TabsM (w : World) : Prop where
  lp : Tabs w
  cl : Lens w
theorem TabsM.below {w w' : World} (h : TabsM w) (hb : Below w.heap.size w w') : Tabs w' := h.lp.below hb
theorem TabsM.belowM {w w' : World} (h : TabsM w) (hb : Below w.heap.size w w') : TabsM w' := ⟨h.lp.below hb, lens_below h.cl hb⟩
def ilongN (m : Int) : Int := if m < 1 ∨ 12 < m then 0 else if m % 2 = 1 ∨ m = 12 then 30 else 29
theorem ilongN_bd (m : Int) : 0 ≤ ilongN m ∧ ilongN m ≤ 30 := by
  unfold ilongN; split <;> (try split) <;> omega
theorem xilong (m : Int) (hm : I64 m) (w : World) :
    Calls Tryd.prog 47 #[.int .i64 m] w fun e w' => e = .returned (.int .i64 (ilongN m)) ∧ w = w' := by
  obtain ⟨m0, m1⟩ := hm
  unfold ilongN
  by_cases a : m < 1 ∨ 12 < m
  · rw [if_pos a]
    have t : decide (m < 1) = true ∨ decide (m < 1) = false ∧ decide (12 < m) = true := by
      rcases a with a | a
      · exact .inl (decide_eq_true a)
      · exact .inr ⟨decide_eq_false (by omega), decide_eq_true a⟩
    clear a
    rcases t with t | ⟨t, u⟩
    all_goals
      go_enter Tryd.func47, Tryd.ntmps47
      go_wp2
      go_ret
      exact ⟨rfl, rfl⟩
  · rw [if_neg a]
    have t1 : decide (m < 1) = false := decide_eq_false (by omega)
    have t2 : decide (12 < m) = false := decide_eq_false (by omega)
    have b0 : 1 ≤ m := by omega
    have b1 : m ≤ 12 := by omega
    clear a
    by_cases o : m % 2 = 1
    · rw [if_pos (Or.inl o)]
      have u : (m % 2 == 1) = true := by simpa using o
      clear o
      go_enter Tryd.func47, Tryd.ntmps47
      go_wp2
      go_ret
      exact ⟨rfl, rfl⟩
    · have u : (m % 2 == 1) = false := by simpa using o
      by_cases z : m = 12
      · rw [if_pos (Or.inr z)]
        have v : (m == 12) = true := by simpa using z
        clear o z
        go_enter Tryd.func47, Tryd.ntmps47
        go_wp2
        go_ret
        exact ⟨rfl, rfl⟩
      · rw [if_neg (by rintro (c | c); exact o c; exact z c)]
        have v : (m == 12) = false := by simpa using z
        clear o z
        go_enter Tryd.func47, Tryd.ntmps47
        go_wp2
        go_ret
        exact ⟨rfl, rfl⟩
theorem imovB_long {k m d : Int} : imovB k m d = true ↔ ikd k = true ∧ 1 ≤ d ∧ d ≤ ilongN m := by
  rw [imovB_iff, ikd_iff]
  unfold ilongN
  by_cases a : m < 1 ∨ 12 < m
  · rw [if_pos a]; omega
  · rw [if_neg a]
    by_cases b : m % 2 = 1 ∨ m = 12
    · rw [if_pos b]; omega
    · rw [if_neg b]; omega
set_option maxHeartbeats 400000 in
theorem ximoved_arg (k y m d g : Int) (hk : I64 k) (hy : I64 y) (hm : I64 m) (hd : I64 d) (hg : I64 g) (h : imovB k m d = false) (w : World) :
    Calls Tryd.prog 30 #[.int .i64 k, .agg #[.int .i64 y, .int .i64 m, .int .i64 d], .int .i64 g] w fun e w' => e = .returned (.tuple #[.slice none 0 0, .int .i64 1]) ∧ Below w.heap.size w w' := by
  have HK := fun w => xikd k hk w
  have HL := fun w => xilong m hm w
  have lb := ilongN_bd m
  have t : ikd k = false ∨ ikd k = true ∧ (decide (d < 1) = true ∨ decide (d < 1) = false ∧ decide (ilongN m < d) = true) := by
    cases a : ikd k
    · exact .inl rfl
    · refine .inr ⟨rfl, ?_⟩
      by_cases b : d < 1
      · exact .inl (decide_eq_true b)
      · refine .inr ⟨decide_eq_false b, decide_eq_true ?_⟩
        rcases Int.lt_or_le (ilongN m) d with z | z
        · exact z
        · rw [imovB_long.2 ⟨a, by omega, z⟩] at h; cases h
  clear h
  generalize ikd k = K at *
  generalize ilongN m = l at *
  obtain ⟨l0, l1⟩ := lb
  obtain ⟨d0, d1⟩ := hd
  rcases t with rfl | ⟨rfl, t | ⟨t, u⟩⟩
  all_goals
    replace HK := Lib.hid HK
    replace HL := Lib.hid HL
    obtain ⟨w1, hw1⟩ : ∃ w1 : World, w.alloc (.cells #[.int .i64 y, .int .i64 m, .int .i64 d] 29) = w1 := ⟨_, rfl⟩
    have A1 : Hid (Below w.heap.size w w1) := by rw [← hw1]; exact grow (here w) _
    have B1 : Hid (Box w1 w.heap.size (.int .i64 y) (.int .i64 m) (.int .i64 d)) := by rw [← hw1]; exact Box.new (here _)
    have k0' : ∀ x : Kept w1, x.wd.cell? ⟨w.heap.size, 0, none⟩ = some (.int .i64 y) := fun x => (B1.out.keep x.ok).c0
    have k1' : ∀ x : Kept w1, x.wd.cell? ⟨w.heap.size, 1, none⟩ = some (.int .i64 m) := fun x => (B1.out.keep x.ok).c1
    have k2' : ∀ x : Kept w1, x.wd.cell? ⟨w.heap.size, 2, none⟩ = some (.int .i64 d) := fun x => (B1.out.keep x.ok).c2
    go_enter Tryd.func30, Tryd.ntmps30
    go_wp2
    clear hw1
    refine wp_region_kept (by kernel_rfl) (by kernel_rfl) ?_
    repeat (go_big_quiet_step (first
      | (go_at_call 13; exact kept_same _ (HK.out _))
      | (go_at_call 47; exact kept_same _ (HL.out _))))
    refine wpQuiet_nil ?_
    intro w2 hx
    obtain ⟨⟨xx, hb⟩, hw⟩ := hx
    replace hw : w2 = xx := hw
    subst xx
    go_wp2
    go_ret2
    exact ⟨rfl, down A1.out hb⟩
set_option maxHeartbeats 400000 in
theorem ximoved_range (k y m d g : Int) (hy : I64 y) (hg : I64 g) (h : imovB k m d = true) (h2 : g < 1 ∨ 9999 < g) (w : World) :
    Calls Tryd.prog 30 #[.int .i64 k, .agg #[.int .i64 y, .int .i64 m, .int .i64 d], .int .i64 g] w fun e w' => e = .returned (.tuple #[.slice none 0 0, .int .i64 2]) ∧ Below w.heap.size w w' := by
  obtain ⟨k0, k1, m0, m1, d0, d1, -⟩ := imovB_iff.1 h
  obtain ⟨a, -, b⟩ := imovB_long.1 h
  have HK := fun w => xikd k ⟨by omega, by omega⟩ w
  have HL := fun w => xilong m ⟨by omega, by omega⟩ w
  have lb := ilongN_bd m
  rw [a] at HK
  have t1 : decide (d < 1) = false := decide_eq_false (by omega)
  have t2 : decide (ilongN m < d) = false := decide_eq_false (by omega)
  have t : decide (g < 1) = true ∨ decide (g < 1) = false ∧ decide (9999 < g) = true := by
    rcases h2 with q | q
    · exact .inl (decide_eq_true q)
    · exact .inr ⟨decide_eq_false (by omega), decide_eq_true q⟩
  clear h a b h2
  generalize ilongN m = l at *
  obtain ⟨l0, l1⟩ := lb
  obtain ⟨g0, g1⟩ := hg
  replace HK := Lib.hid HK
  replace HL := Lib.hid HL
  rcases t with t | ⟨t, u⟩
  all_goals
    obtain ⟨w1, hw1⟩ : ∃ w1 : World, w.alloc (.cells #[.int .i64 y, .int .i64 m, .int .i64 d] 29) = w1 := ⟨_, rfl⟩
    have A1 : Hid (Below w.heap.size w w1) := by rw [← hw1]; exact grow (here w) _
    have B1 : Hid (Box w1 w.heap.size (.int .i64 y) (.int .i64 m) (.int .i64 d)) := by rw [← hw1]; exact Box.new (here _)
    have k0' : ∀ x : Kept w1, x.wd.cell? ⟨w.heap.size, 0, none⟩ = some (.int .i64 y) := fun x => (B1.out.keep x.ok).c0
    have k1' : ∀ x : Kept w1, x.wd.cell? ⟨w.heap.size, 1, none⟩ = some (.int .i64 m) := fun x => (B1.out.keep x.ok).c1
    have k2' : ∀ x : Kept w1, x.wd.cell? ⟨w.heap.size, 2, none⟩ = some (.int .i64 d) := fun x => (B1.out.keep x.ok).c2
    go_enter Tryd.func30, Tryd.ntmps30
    go_wp2
    clear hw1
    refine wp_region_kept (by kernel_rfl) (by kernel_rfl) ?_
    repeat (go_big_quiet_step (first
      | (go_at_call 13; exact kept_same _ (HK.out _))
      | (go_at_call 47; exact kept_same _ (HL.out _))))
    refine wpQuiet_nil ?_
    intro w2 hx
    obtain ⟨⟨xx, hb⟩, hw⟩ := hx
    replace hw : w2 = xx := hw
    subst xx
    go_wp2
    go_ret2
    exact ⟨rfl, down A1.out hb⟩
set_option maxHeartbeats 400000 in
theorem ximoved_off (k y m d g : Int) (hy : I64 y) (h : imovB k m d = true) (g0 : 1 ≤ g) (g1 : g ≤ 9999) (hoff : 2909772 ≤ dayN g 1 1) (w : World) (ht : TabsM w) :
    Calls Tryd.prog 30 #[.int .i64 k, .agg #[.int .i64 y, .int .i64 m, .int .i64 d], .int .i64 g] w fun e w' => e = .returned (.tuple #[.slice none 0 0, .int .i64 0]) ∧ Below w.heap.size w w' := by
  obtain ⟨k0, k1, m0, m1, d0, d1, -⟩ := imovB_iff.1 h
  obtain ⟨a, -, b⟩ := imovB_long.1 h
  have HK := fun w => xikd k ⟨by omega, by omega⟩ w
  have HL := fun w => xilong m ⟨by omega, by omega⟩ w
  have lb := ilongN_bd m
  rw [a] at HK
  have t1 : decide (d < 1) = false := decide_eq_false (by omega)
  have t2 : decide (ilongN m < d) = false := decide_eq_false (by omega)
  have u1 : decide (g < 1) = false := decide_eq_false (by omega)
  have u2 : decide (9999 < g) = false := decide_eq_false (by omega)
  obtain ⟨vf, vl, lf, ll⟩ := jan_first g0 g1
  have rf := day_range vf
  have rl := day_range vl
  have HF := fun w hc => cday_yes g 1 1 vf w hc
  have HG := fun w hc => cday_yes g 12 31 vl w hc
  have HD := fun w ht => uidate_out k (dayN g 1 1) ⟨by omega, by omega⟩ a (.inr hoff) w ht
  have e : max (dayN g 1 1) (-492148) = dayN g 1 1 := by omega
  clear h a b vf vl
  generalize dayN g 1 1 = F at *
  generalize dayN g 12 31 = L at *
  generalize ilongN m = l at *
  obtain ⟨l0, l1⟩ := lb
  obtain ⟨rf0, rf1⟩ := rf
  obtain ⟨rl0, rl1⟩ := rl
  replace HK := Lib.hid HK
  replace HL := Lib.hid HL
  replace HF := Lib.hid HF
  replace HG := Lib.hid HG
  replace HD := Lib.hid HD
  obtain ⟨w1, hw1⟩ : ∃ w1 : World, w.alloc (.cells #[.int .i64 y, .int .i64 m, .int .i64 d] 29) = w1 := ⟨_, rfl⟩
  have A1 : Hid (Below w.heap.size w w1) := by rw [← hw1]; exact grow (here w) _
  have B1 : Hid (Box w1 w.heap.size (.int .i64 y) (.int .i64 m) (.int .i64 d)) := by rw [← hw1]; exact Box.new (here _)
  have k0' : ∀ x : Kept w1, x.wd.cell? ⟨w.heap.size, 0, none⟩ = some (.int .i64 y) := fun x => (B1.out.keep x.ok).c0
  have k1' : ∀ x : Kept w1, x.wd.cell? ⟨w.heap.size, 1, none⟩ = some (.int .i64 m) := fun x => (B1.out.keep x.ok).c1
  have k2' : ∀ x : Kept w1, x.wd.cell? ⟨w.heap.size, 2, none⟩ = some (.int .i64 d) := fun x => (B1.out.keep x.ok).c2
  go_enter Tryd.func30, Tryd.ntmps30
  go_wp2
  clear hw1
  refine wp_region_kept (by kernel_rfl) (by kernel_rfl) ?_
  repeat (go_big_quiet_step (first
    | (go_at_call 13; exact kept_same _ (HK.out _))
    | (go_at_call 47; exact kept_same _ (HL.out _))))
  refine wpQuiet_nil ?_
  intro w2 hx
  obtain ⟨⟨xx, hb⟩, hw⟩ := hx
  replace hw : w2 = xx := hw
  subst xx
  have A2 := Lib.hid (down A1.out hb)
  have B2 := Lib.hid (B1.out.keep hb)
  clear hb A1 B1 k0' k1' k2' HK HL
  go_wp2_with fail
  refine (HF.out _ (ht.belowM A2.out).cl).mono ?_
  rintro e w3 ⟨rfl, hb⟩
  have A3 := Lib.hid (down A2.out hb)
  have B3 := Lib.hid (B2.out.keep hb)
  clear hb A2 B2 HF
  go_wp2_with fail
  refine (HG.out _ (ht.belowM A3.out).cl).mono ?_
  rintro e w4 ⟨rfl, hb⟩
  have A4 := Lib.hid (down A3.out hb)
  have B4 := Lib.hid (B3.out.keep hb)
  clear hb A3 B3 HG
  go_wp2_with fail
  refine (HD.out _ (ht.below A4.out)).mono ?_
  rintro e w5 ⟨rfl, hb⟩
  have A5 := Lib.hid (down A4.out hb)
  have B5 := Lib.hid (B4.out.keep hb)
  clear hb A4 B4 HD
  go_wp2
  go_ret2
  exact ⟨rfl, grow A5.out _⟩
set_option maxHeartbeats 2000000 in
set_option maxRecDepth 100000 in
theorem ximoved_in (k y m d g Y mm dd : Int) (hy : I64 y) (h : imovB k m d = true) (g0 : 1 ≤ g) (g1 : g ≤ 9999) (hv : ivld k Y mm dd = true) (he : idayN k Y mm dd = max (dayN g 1 1) (-492148)) (w : World) (ht : TabsM w) :
    Calls Tryd.prog 30 #[.int .i64 k, .agg #[.int .i64 y, .int .i64 m, .int .i64 d], .int .i64 g] w fun e w' => (∃ v, e = .returned (.tuple #[v, .int .i64 0]) ∧ IntS w.heap.size w' v (imovL k m d (dayN g 1 1) (dayN g 12 31) 9601)) ∧ Below w.heap.size w w' := by
  obtain ⟨k0, k1, m0, m1, d0, d1, -⟩ := imovB_iff.1 h
  obtain ⟨a, -, b⟩ := imovB_long.1 h
  have HK := fun w => xikd k ⟨by omega, by omega⟩ w
  have HL := fun w => xilong m ⟨by omega, by omega⟩ w
  have lb := ilongN_bd m
  rw [a] at HK
  have t1 : decide (d < 1) = false := decide_eq_false (by omega)
  have t2 : decide (ilongN m < d) = false := decide_eq_false (by omega)
  have u1 : decide (g < 1) = false := decide_eq_false (by omega)
  have u2 : decide (9999 < g) = false := decide_eq_false (by omega)
  obtain ⟨vf, vl, lf, ll⟩ := jan_first g0 g1
  have rf := day_range vf
  have rl := day_range vl
  have HF := fun w hc => cday_yes g 1 1 vf w hc
  have HG := fun w hc => cday_yes g 12 31 vl w hc
  have HD := fun w ht => uidate_yes k _ Y mm dd hv rfl w ht
  obtain ⟨-, -, Y0, Y1, -⟩ := ivld_bd hv
  have di := iday_in hv
  generalize dayN g 1 1 = F at *
  generalize dayN g 12 31 = L at *
  have e : max F (-492148) = idayN k Y mm dd := he.symm
  have fin : imovL k m d F L Y.toNat = [] ∧ imovL k m d F L (Y + 3).toNat = imovL k m d F L 9601 := by
    have c : (idayN k Y mm dd = F ∨ idayN k Y mm dd = -492148 ∧ F < -492148) := by
      rw [he]; omega
    have first : ifirst k Y ≤ F ∨ Y = 1 := by
      rcases c with c | ⟨c, -⟩
      · exact .inl (by omega)
      · by_cases z : Y = 1
        · exact .inr z
        · have f := ifirst_le k0 k1 (y := 1) (z := Y) (by omega) (by omega)
          rw [ifirst_one k0 k1] at f
          omega
    have up : F < ifirst k (Y + 1) := by omega
    have none : ∀ i : Nat, min (Y + 3).toNat 9601 ≤ i → imovO k m d F L i = .none := fun i hi => by
      by_cases z : 9600 < (i : Int)
      · exact imov_zero (.inr z)
      · exact imov_behind k0 k1 Y0 up lf (by omega)
    refine ⟨imovL_none fun i hi => imov_before k0 k1 Y0 first (by omega), ?_⟩
    have p := imovL_more (k := k) (m := m) (d := d) (a := F) (b := L) (x := min (Y + 3).toNat 9601) ((Y + 3).toNat - min (Y + 3).toNat 9601) (fun i h0 h1 => none i h0)
    have q := imovL_more (k := k) (m := m) (d := d) (a := F) (b := L) (x := min (Y + 3).toNat 9601) (9601 - min (Y + 3).toNat 9601) (fun i h0 h1 => none i h0)
    rw [show min (Y + 3).toNat 9601 + ((Y + 3).toNat - min (Y + 3).toNat 9601) = (Y + 3).toNat by omega] at p
    rw [show min (Y + 3).toNat 9601 + (9601 - min (Y + 3).toNat 9601) = 9601 by omega] at q
    rw [p, q]
  obtain ⟨LA, LB⟩ := fin
  have dr := iday_range hv
  have HDx := Lib.hid (fun x (x0 : 1 ≤ x) (x1 : x ≤ 9700) w ht => uiday k x m d ⟨by omega, by omega⟩ ⟨by omega, by omega⟩ ⟨by omega, by omega⟩ ⟨by omega, by omega⟩ w ht)
  have HQ : Hid (∀ x : Int, -1000000 ≤ idN k x m d ∧ idN k x m d ≤ 3000000) := fun x => by
    unfold idN
    split
    · rename_i q; have := iday_range q; omega
    · omega
  have LAh := Lib.hid LA
  have LBh := Lib.hid LB
  have LLh : Hid (∀ x : Nat, (imovL k m d F L x).length ≤ x) := fun x => imovL_len k m d F L x
  have Hhit : Hid (∀ x : Nat, ivld k x m d = true → F ≤ idayN k x m d → idayN k x m d ≤ L → imovL k m d F L (x + 1) = imovL k m d F L x ++ [idayN k x m d]) := fun x h a b => imovL_hit h a b
  have Hmiss : Hid (∀ x : Nat, ¬ (ivld k x m d = true ∧ F ≤ idayN k x m d ∧ idayN k x m d ≤ L) → imovL k m d F L (x + 1) = imovL k m d F L x) := fun x h => imovL_miss h
  obtain ⟨i0, hi, hz0, hz1, hz2⟩ := info_parts infoInt
  generalize imovL k m d F L = LL at *
  generalize idayN k Y mm dd = M at *
  have hm : I64 mm ∧ I64 dd := by obtain ⟨-, -, -, -, a0, a1, a2, a3⟩ := ivld_bd hv; exact ⟨⟨by omega, by omega⟩, by omega, by omega⟩
  obtain ⟨Z, rfl⟩ : ∃ Z : Nat, Y = Z := ⟨Y.toNat, by omega⟩
  rw [show ((Z : Int)).toNat = Z by omega] at LAh LA
  rw [show ((Z : Int) + 3).toNat = Z + 3 by omega] at LBh LB
  clear h a b vf vl hv he di LA LB
  generalize ilongN m = l at *
  obtain ⟨l0, l1⟩ := lb
  obtain ⟨rf0, rf1⟩ := rf
  obtain ⟨rl0, rl1⟩ := rl
  obtain ⟨dr0, dr1⟩ := dr
  have Z0 : 1 ≤ Z := by omega
  have Z1 : Z ≤ 9600 := by omega
  replace HK := Lib.hid HK
  replace HL := Lib.hid HL
  replace HF := Lib.hid HF
  replace HG := Lib.hid HG
  replace HD := Lib.hid HD
  obtain ⟨w1, hw1⟩ : ∃ w1 : World, w.alloc (.cells #[.int .i64 y, .int .i64 m, .int .i64 d] 29) = w1 := ⟨_, rfl⟩
  have A1 : Hid (Below w.heap.size w w1) := by rw [← hw1]; exact grow (here w) _
  have B1 : Hid (Box w1 w.heap.size (.int .i64 y) (.int .i64 m) (.int .i64 d)) := by rw [← hw1]; exact Box.new (here _)
  have k0' : ∀ x : Kept w1, x.wd.cell? ⟨w.heap.size, 0, none⟩ = some (.int .i64 y) := fun x => (B1.out.keep x.ok).c0
  have k1' : ∀ x : Kept w1, x.wd.cell? ⟨w.heap.size, 1, none⟩ = some (.int .i64 m) := fun x => (B1.out.keep x.ok).c1
  have k2' : ∀ x : Kept w1, x.wd.cell? ⟨w.heap.size, 2, none⟩ = some (.int .i64 d) := fun x => (B1.out.keep x.ok).c2
  go_enter Tryd.func30, Tryd.ntmps30
  go_wp2
  clear hw1
  refine wp_region_kept (by kernel_rfl) (by kernel_rfl) ?_
  repeat (go_big_quiet_step (first
    | (go_at_call 13; exact kept_same _ (HK.out _))
    | (go_at_call 47; exact kept_same _ (HL.out _))))
  refine wpQuiet_nil ?_
  intro w2 hx
  obtain ⟨⟨xx, hb⟩, hw⟩ := hx
  replace hw : w2 = xx := hw
  subst xx
  have A2 := Lib.hid (down A1.out hb)
  have B2 := Lib.hid (B1.out.keep hb)
  clear hb A1 B1 k0' k1' k2' HK HL
  go_wp2_with fail
  refine (HF.out _ (ht.belowM A2.out).cl).mono ?_
  rintro e w3 ⟨rfl, hb⟩
  have A3 := Lib.hid (down A2.out hb)
  have B3 := Lib.hid (B2.out.keep hb)
  clear hb A2 B2 HF
  go_wp2_with fail
  refine (HG.out _ (ht.belowM A3.out).cl).mono ?_
  rintro e w4 ⟨rfl, hb⟩
  have A4 := Lib.hid (down A3.out hb)
  have B4 := Lib.hid (B3.out.keep hb)
  clear hb A3 B3 HG
  go_wp2_with fail
  refine (HD.out _ (ht.below A4.out)).mono ?_
  rintro e w5 ⟨rfl, hb⟩
  have A5 := Lib.hid (down A4.out hb)
  have B5 := Lib.hid (B4.out.keep hb)
  clear hb A4 B4 HD
  go_wp2
  have ne : Hid (w.heap.size < w5.heap.size) := B5.out.lt
  go_loopw [14, 15] (fun a b wr => ∃ (x : Nat) (v : Value), Z ≤ x ∧ x ≤ Z + 3 ∧ v = a ∧ b = .int .i64 x ∧ Hid (Below w5.heap.size w5 wr) ∧ Hid (w5.heap.size + 1 ≤ wr.heap.size) ∧ Hid (Box wr w.heap.size (.int .i64 y) (.int .i64 m) (.int .i64 d)) ∧ Hid (Box wr w5.heap.size (.int .i64 Z) (.int .i64 mm) (.int .i64 dd)) ∧
      Hid (wr.ownsRow (w5.heap.size + 1) 3 1 v (LL x).length (ints (LL x)))) (fun _ b _ => (Z + 3 - (intOf b).toNat))
  case atStart => exact ⟨Z, .slice none 0 0, Nat.le_refl _, by omega, rfl, rfl, grow (here w5) _, by show _ ≤ _; simp, B5.out.old _, Box.new (here _), by show World.ownsRow _ _ _ _ _ _ _; rw [LAh.out]; exact World.ownsRow_nil _ _ _ _⟩
  case round =>
    obtain ⟨x, v, x0, x1, rfl, rfl, HA, HS, HB1, HB2, HO⟩ := hrel
    obtain ⟨p0, p1, p2, pz⟩ := HB2.out
    by_cases z : x < Z + 3
    · have kz : decide ((x : Int) ≤ (Z : Int) + 2) = true := decide_eq_true (by omega)
      obtain ⟨bq0, bq1⟩ := HQ.out x
      have HDy := Lib.hid (fun w ht => HDx.out x (by omega) (by omega) w ht)
      have fate : (idE k x m d = 0 ∧ decide (F ≤ idN k x m d) = true ∧ decide (idN k x m d ≤ L) = true ∧ Hid (LL (x + 1) = LL x ++ [idN k x m d])) ∨ ((idE k x m d = 1 ∨ idE k x m d = 0 ∧ decide (F ≤ idN k x m d) = false ∨ idE k x m d = 0 ∧ decide (F ≤ idN k x m d) = true ∧ decide (idN k x m d ≤ L) = false) ∧ Hid (LL (x + 1) = LL x)) := by
        by_cases hv : ivld k x m d = true
        · have hN : idN k x m d = idayN k x m d := by unfold idN; rw [if_pos hv]
          have hE : idE k x m d = 0 := by unfold idE; rw [if_pos hv]
          rw [hN, hE]
          by_cases q1 : F ≤ idayN k x m d
          · by_cases q2 : idayN k x m d ≤ L
            · exact .inl ⟨rfl, decide_eq_true q1, decide_eq_true q2, Hhit.out x hv q1 q2⟩
            · exact .inr ⟨.inr (.inr ⟨rfl, decide_eq_true q1, decide_eq_false q2⟩), Hmiss.out x fun r => q2 r.2.2⟩
          · exact .inr ⟨.inr (.inl ⟨rfl, decide_eq_false q1⟩), Hmiss.out x fun r => q1 r.2.1⟩
        · have hE : idE k x m d = 1 := by unfold idE; rw [if_neg hv]
          exact .inr ⟨.inl hE, Hmiss.out x fun r => hv r.1⟩
      have lx := Lib.hid (LLh.out x)
      obtain ⟨c0, c1, c2, cz⟩ := HB1.out
      have HT := Lib.hid (ht.below (down A5.out HA.out))
      clear HQ LAh LLh Hhit Hmiss HDx LBh
      generalize idN k x m d = n at *
      generalize idE k x m d = E at *
      rcases fate with ⟨rfl, q1, q2, hs⟩ | ⟨q, hs⟩
      · go_wp2_with fail
        refine (HDy.out _ HT.out).mono ?_
        rintro e w6 ⟨rfl, hb⟩
        have A6 := Lib.hid (HA.out.trans (hb.mono HA.out.size))
        have B6 := Lib.hid (HB1.out.keep hb)
        have X6 := Lib.hid (HB2.out.keep hb)
        have O6 := Lib.hid (owns_below HO.out hb)
        have S6 : Hid (w5.heap.size + 1 ≤ w6.heap.size) := Nat.le_trans HS.out hb.size
        clear hb HA HB1 HB2 HO HS HT c0 c1 c2 cz p0 p1 p2 pz HDy
        go_wp2_with (at_builtin; refine wpList_append_own _ rfl _ _ 50 rfl (w5.heap.size + 1) 3 i0 (.int .i64 0) 1 8 Tryd.underlying50 hi hz0 hz1 hz2 rfl (by decide) v (LL x).length (ints (LL x)) rfl (O6.out.alloc _) ⟨w6.heap.size, 0, none⟩ 1 1 [.int .i64 n] rfl rfl ?c1 ?c2 ?c3 ?c4 ?c5 ?_)
        case c1 =>
          intro j u hj
          rw [Addr.add_lit, Nat.zero_add, World.cell?_alloc_new]
          simpa using hj
        case c2 => intro u hu; simp at hu; subst hu; rfl
        case c3 => have := lx.out; unfold maxLen; omega
        case c4 => have := lx.out; omega
        case c5 => have := S6.out; simp; omega
        intro v' w7 hown hgrow _
        have G : Below (w5.heap.size + 1) w6 w7 := ((Below.refl _ _).alloc S6.out _).grown hgrow (by have := S6.out; simp; omega) (own_ge O6.out)
        have A7 := Lib.hid (A6.out.trans (G.mono (Nat.le_succ _)))
        have B7 := Lib.hid (B6.out.under G (Nat.lt_succ_of_lt ne.out))
        have X7 := Lib.hid (X6.out.under G (Nat.lt_succ_self _))
        have S7 : Hid (w5.heap.size + 1 ≤ w7.heap.size) := Nat.le_trans S6.out G.size
        have O7 : Hid (w7.ownsRow (w5.heap.size + 1) 3 1 v' (LL (x + 1)).length (ints (LL (x + 1)))) := by
          show World.ownsRow _ _ _ _ _ _ _
          rw [hs.out]
          simpa [ints] using hown
        clear hown hgrow G A6 B6 X6 O6 S6
        go_wp2
        go_roundw
        case rel => exact ⟨x + 1, _, by omega, by omega, rfl, by go_num, A7, S7, B7, X7, O7⟩
        case measure => simp [intOf]; omega
      · rcases q with rfl | ⟨rfl, q1⟩ | ⟨rfl, q1, q2⟩
        all_goals
          go_wp2_with fail
          refine (HDy.out _ HT.out).mono ?_
          rintro e w6 ⟨rfl, hb⟩
          have A6 := Lib.hid (HA.out.trans (hb.mono HA.out.size))
          have B6 := Lib.hid (HB1.out.keep hb)
          have X6 := Lib.hid (HB2.out.keep hb)
          have S6 : Hid (w5.heap.size + 1 ≤ w6.heap.size) := Nat.le_trans HS.out hb.size
          have O6 : Hid (w6.ownsRow (w5.heap.size + 1) 3 1 v (LL (x + 1)).length (ints (LL (x + 1)))) := by
            show World.ownsRow _ _ _ _ _ _ _
            rw [hs.out]; exact owns_below HO.out hb
          clear hb HA HB1 HB2 HO HS HT c0 c1 c2 cz p0 p1 p2 pz HDy
          go_wp2
          go_roundw
          case rel => exact ⟨x + 1, _, by omega, by omega, rfl, by go_num, A6, S6, B6, X6, O6⟩
          case measure => simp [intOf]; omega
    · obtain rfl : x = Z + 3 := by omega
      have kz : decide (((Z + 3 : Nat) : Int) ≤ (Z : Int) + 2) = false := decide_eq_false (by omega)
      have O8 : Hid (IntS w.heap.size wr v (LL 9601)) := by
        show Sl _ _ _ _ _
        rw [← LBh.out]; exact (Sl.owns HO.out).weak (by have := ne.out; omega)
      have A8 := Lib.hid (down A5.out HA.out)
      clear HQ LAh LLh Hhit Hmiss HDx LBh HO HB1 HB2 HA HS
      go_wp2
      go_ret2
      exact ⟨⟨v, rfl, O8.out⟩, A8.out⟩
theorem uimoved (k y m d g : Int) (hk : I64 k) (hy : I64 y) (hm : I64 m) (hd : I64 d) (hg : I64 g) (w : World) (ht : TabsM w) :
    Calls Tryd.prog 30 #[.int .i64 k, .agg #[.int .i64 y, .int .i64 m, .int .i64 d], .int .i64 g] w fun e w' => (∃ v, e = .returned (.tuple #[v, .int .i64 (imvE k m d g)]) ∧ IntS w.heap.size w' v (imvL k m d g)) ∧ Below w.heap.size w w' := by
  cases h : imovB k m d
  · rw [(imv_arg h).1, (imv_arg h).2]
    exact (ximoved_arg k y m d g hk hy hm hd hg h w).mono fun e w' ⟨he, hb⟩ => ⟨⟨_, he, Sl.none _ _⟩, hb⟩
  · by_cases h2 : g < 1 ∨ 9999 < g
    · rw [(imv_range h h2).1, (imv_range h h2).2]
      exact (ximoved_range k y m d g hy hg h h2 w).mono fun e w' ⟨he, hb⟩ => ⟨⟨_, he, Sl.none _ _⟩, hb⟩
    · have g0 : 1 ≤ g := by omega
      have g1 : g ≤ 9999 := by omega
      rw [(imv_good h g0 g1).1, (imv_good h g0 g1).2]
      by_cases off : 2909772 ≤ dayN g 1 1
      · rw [imovL_none (fun i _ => imov_off off)]
        exact (ximoved_off k y m d g hy h g0 g1 off w ht).mono fun e w' ⟨he, hb⟩ => ⟨⟨_, he, Sl.none _ _⟩, hb⟩
      · obtain ⟨k0, k1, -⟩ := imovB_iff.1 h
        obtain ⟨Y, mm, dd, hv, he⟩ := idate_of (n := max (dayN g 1 1) (-492148)) k0 k1 (by omega) (by omega)
        exact ximoved_in k y m d g Y mm dd hy h g0 g1 hv he w ht
end Go.Proofs.YtobipbmigpkhmaaDoor
