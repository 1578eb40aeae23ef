/- Contracts of package islamic: days and dates. -/
import Derived.Test.YtobipbmigpkhmaaDoorIsQ
namespace Go.Proofs.YtobipbmigpkhmaaDoor
open Go.RowKit
set_option linter.unusedVariables false

set_option maxHeartbeats 400000 in
theorem uiday_no (k y m d : Int) (hk : I64 k) (hy : I64 y) (hm : I64 m) (hd : I64 d) (h : ivld k y m d = false) (w : World) (ht : Tabs w) :
    Calls Tryd.prog 23 #[.int .i64 k, .agg #[.int .i64 y, .int .i64 m, .int .i64 d]] w fun e w' => e = .returned (.tuple #[.int .i64 0, .int .i64 1]) ∧ Below w.heap.size w w' := by
  have HL := Lib.hid (fun w ht => uilen k y m hk hy hm w ht)
  have lb := ilenM_bd k y m
  have hv : ¬ (1 ≤ d ∧ d ≤ ilenM k y m) := fun c => by rw [ivld_iff.2 c] at h; cases h
  clear h
  generalize ilenM k y m = l at *
  obtain ⟨l0, l1⟩ := lb
  obtain ⟨hd0, hd1⟩ := hd
  by_cases a : d < 1
  · have q : decide (d < 1) = true := decide_eq_true a
    clear hv HL
    obtain ⟨w1, hw1⟩ : ∃ w1 : World, w.alloc (.cells #[.int .i64 y, .int .i64 m, .int .i64 d] 29) = w1 := ⟨_, rfl⟩
    have A1 : Hid (Below w.heap.size w w1) := by rw [← hw1]; exact grow (here w) _
    have B1 : Hid (Box w1 w.heap.size (.int .i64 y) (.int .i64 m) (.int .i64 d)) := by rw [← hw1]; exact Box.new (here _)
    have k0' : ∀ x : Kept w1, x.wd.cell? ⟨w.heap.size, 0, none⟩ = some (.int .i64 y) := fun x => (B1.out.keep x.ok).c0
    have k1' : ∀ x : Kept w1, x.wd.cell? ⟨w.heap.size, 1, none⟩ = some (.int .i64 m) := fun x => (B1.out.keep x.ok).c1
    have k2' : ∀ x : Kept w1, x.wd.cell? ⟨w.heap.size, 2, none⟩ = some (.int .i64 d) := fun x => (B1.out.keep x.ok).c2
    have HT1 : Hid (∀ x : Kept w1, Tabs x.wd) := fun x => ht.below (down A1.out x.ok)
    go_enter Tryd.func23, Tryd.ntmps23
    go_wp2
    clear hw1
    refine wp_region_kept (by kernel_rfl) (by kernel_rfl) ?_
    repeat (go_big_quiet_step ((fail)))
    refine wpQuiet_nil ?_
    intro w2 hx
    obtain ⟨⟨xx, hb⟩, hw⟩ := hx
    replace hw : w2 = xx := hw
    subst xx
    go_wp2
    go_ret2
    exact ⟨rfl, down A1.out hb⟩
  · have q : decide (d < 1) = false := decide_eq_false a
    have q2 : decide (l < d) = true := decide_eq_true (by omega)
    clear hv a
    obtain ⟨w1, hw1⟩ : ∃ w1 : World, w.alloc (.cells #[.int .i64 y, .int .i64 m, .int .i64 d] 29) = w1 := ⟨_, rfl⟩
    have A1 : Hid (Below w.heap.size w w1) := by rw [← hw1]; exact grow (here w) _
    have B1 : Hid (Box w1 w.heap.size (.int .i64 y) (.int .i64 m) (.int .i64 d)) := by rw [← hw1]; exact Box.new (here _)
    have k0' : ∀ x : Kept w1, x.wd.cell? ⟨w.heap.size, 0, none⟩ = some (.int .i64 y) := fun x => (B1.out.keep x.ok).c0
    have k1' : ∀ x : Kept w1, x.wd.cell? ⟨w.heap.size, 1, none⟩ = some (.int .i64 m) := fun x => (B1.out.keep x.ok).c1
    have k2' : ∀ x : Kept w1, x.wd.cell? ⟨w.heap.size, 2, none⟩ = some (.int .i64 d) := fun x => (B1.out.keep x.ok).c2
    have HT1 : Hid (∀ x : Kept w1, Tabs x.wd) := fun x => ht.below (down A1.out x.ok)
    go_enter Tryd.func23, Tryd.ntmps23
    go_wp2
    clear hw1
    refine wp_region_kept (by kernel_rfl) (by kernel_rfl) ?_
    repeat (go_big_quiet_step ((go_at_call 17; exact kept_call _ (HL.out _ (HT1.out _)))))
    refine wpQuiet_nil ?_
    intro w2 hx
    obtain ⟨⟨xx, hb⟩, hw⟩ := hx
    replace hw : w2 = xx := hw
    subst xx
    go_wp2
    go_ret2
    exact ⟨rfl, down A1.out hb⟩
set_option maxHeartbeats 400000 in
theorem uiday_yes (k y m d : Int) (h : ivld k y m d = true) (w : World) (ht : Tabs w) :
    Calls Tryd.prog 23 #[.int .i64 k, .agg #[.int .i64 y, .int .i64 m, .int .i64 d]] w fun e w' => e = .returned (.tuple #[.int .i64 (idayN k y m d), .int .i64 0]) ∧ Below w.heap.size w w' := by
  obtain ⟨k0, k1, y0, y1, m0, m1, d0, d1⟩ := ivld_bd h
  have hv := ivld_iff.1 h
  have HL := fun w ht => uilen k y m ⟨by omega, by omega⟩ ⟨by omega, by omega⟩ ⟨by omega, by omega⟩ w ht
  have lb := ilenM_bd k y m
  have HN := fun w ht => xinew_in k y ⟨by omega, by omega⟩ (ikd_iff.2 ⟨k0, k1⟩) y0 (by omega) w ht
  have HM := fun w => xidom (m - 1) (by omega) (by omega) w
  rw [show m - 1 + 1 = m by omega] at HM
  have fb := ifirst_bd k0 k1 y0 (show y ≤ 9601 by omega)
  have cb : 0 ≤ icum m ∧ icum m ≤ 400 := by unfold icum; omega
  unfold idayN
  generalize ilenM k y m = l at *
  generalize ifirst k y = f at *
  generalize icum m = c at *
  obtain ⟨l0, l1⟩ := lb
  obtain ⟨f0, f1⟩ := fb
  obtain ⟨c0, c1⟩ := cb
  replace HL := Lib.hid HL
  replace HN := Lib.hid HN
  replace HM := Lib.hid HM
  have q : decide (d < 1) = false := decide_eq_false (by omega)
  have q2 : decide (l < d) = false := decide_eq_false (by omega)
  clear h hv
  obtain ⟨w1, hw1⟩ : ∃ w1 : World, w.alloc (.cells #[.int .i64 y, .int .i64 m, .int .i64 d] 29) = w1 := ⟨_, rfl⟩
  have A1 : Hid (Below w.heap.size w w1) := by rw [← hw1]; exact grow (here w) _
  have B1 : Hid (Box w1 w.heap.size (.int .i64 y) (.int .i64 m) (.int .i64 d)) := by rw [← hw1]; exact Box.new (here _)
  have k0' : ∀ x : Kept w1, x.wd.cell? ⟨w.heap.size, 0, none⟩ = some (.int .i64 y) := fun x => (B1.out.keep x.ok).c0
  have k1' : ∀ x : Kept w1, x.wd.cell? ⟨w.heap.size, 1, none⟩ = some (.int .i64 m) := fun x => (B1.out.keep x.ok).c1
  have k2' : ∀ x : Kept w1, x.wd.cell? ⟨w.heap.size, 2, none⟩ = some (.int .i64 d) := fun x => (B1.out.keep x.ok).c2
  have HT1 : Hid (∀ x : Kept w1, Tabs x.wd) := fun x => ht.below (down A1.out x.ok)
  go_enter Tryd.func23, Tryd.ntmps23
  go_wp2
  clear hw1
  refine wp_region_kept (by kernel_rfl) (by kernel_rfl) ?_
  repeat (go_big_quiet_step ((go_at_call 17; exact kept_call _ (HL.out _ (HT1.out _)))))
  refine wpQuiet_nil ?_
  intro w2 hx
  obtain ⟨⟨xx, hb⟩, hw⟩ := hx
  replace hw : w2 = xx := hw
  subst xx
  clear k0' k1' k2'
  have A2 := Lib.hid (down A1.out hb)
  have B2 := Lib.hid (B1.out.keep hb)
  clear hb A1 B1
  obtain ⟨c0', c1', c2', cz'⟩ := B2.out
  go_wp2_with fail
  refine (HN.out _ (ht.below A2.out)).mono ?_
  rintro e w3 ⟨rfl, n3, hw3⟩
  have hb : Below w2.heap.size w2 w3 := hw3 ▸ below_drewN (here _) _
  have A3 := Lib.hid (down A2.out hb)
  have B3 := Lib.hid (B2.out.keep hb)
  clear hb A2 B2 c0' c1' c2' cz' hw3
  have k0' : ∀ x : Kept w3, x.wd.cell? ⟨w.heap.size, 0, none⟩ = some (.int .i64 y) := fun x => (B3.out.keep x.ok).c0
  have k1' : ∀ x : Kept w3, x.wd.cell? ⟨w.heap.size, 1, none⟩ = some (.int .i64 m) := fun x => (B3.out.keep x.ok).c1
  have k2' : ∀ x : Kept w3, x.wd.cell? ⟨w.heap.size, 2, none⟩ = some (.int .i64 d) := fun x => (B3.out.keep x.ok).c2
  go_wp2
  refine wp_region_kept (by kernel_rfl) (by kernel_rfl) ?_
  repeat (go_big_quiet_step ((go_at_call 41; exact kept_drew _ (HM.out _))))
  refine wpQuiet_nil ?_
  intro w4 hx
  obtain ⟨⟨xx, hb⟩, hw⟩ := hx
  replace hw : w4 = xx := hw
  subst xx
  go_wp2
  go_ret2
  exact ⟨rfl, down A3.out hb⟩
theorem uiday (k y m d : Int) (hk : I64 k) (hy : I64 y) (hm : I64 m) (hd : I64 d) (w : World) (ht : Tabs w) :
    Calls Tryd.prog 23 #[.int .i64 k, .agg #[.int .i64 y, .int .i64 m, .int .i64 d]] w fun e w' => e = .returned (.tuple #[.int .i64 (idN k y m d), .int .i64 (idE k y m d)]) ∧ Below w.heap.size w w' := by
  unfold idN idE
  cases h : ivld k y m d
  · exact uiday_no k y m d hk hy hm hd h w ht
  · exact uiday_yes k y m d h w ht
theorem uidate_kind (k n : Int) (hk : I64 k) (hn : I64 n) (h : ikd k = false) (w : World) (ht : Tabs w) :
    Calls Tryd.prog 25 #[.int .i64 k, .int .i64 n] w fun e w' => e = .returned (.tuple #[.agg #[.int .i64 0, .int .i64 0, .int .i64 0], .int .i64 1]) ∧ Below w.heap.size w w' := by
  have HK := fun w => xikd k hk w
  rw [h] at HK
  replace HK := Lib.hid HK
  clear h
  go_enter Tryd.func25, Tryd.ntmps25
  go_wp2_with fail
  refine (HK.out _).mono ?_
  rintro e w1 ⟨rfl, rfl⟩
  go_wp2
  exact bodyPost_ret (v := .tuple #[.agg #[.int .i64 0, .int .i64 0, .int .i64 0], .int .i64 1]) (by simp [results, Tryd.results25, go_sem]) rfl ⟨rfl, grow (here w) _⟩
theorem uidate_out (k n : Int) (hn : I64 n) (h : ikd k = true) (h2 : n < -492148 ∨ 2909772 ≤ n) (w : World) (ht : Tabs w) :
    Calls Tryd.prog 25 #[.int .i64 k, .int .i64 n] w fun e w' => e = .returned (.tuple #[.agg #[.int .i64 0, .int .i64 0, .int .i64 0], .int .i64 2]) ∧ Below w.heap.size w w' := by
  obtain ⟨k0, k1⟩ := ikd_iff.1 h
  have HK := fun w => xikd k ⟨by omega, by omega⟩ w
  rw [h] at HK
  replace HK := Lib.hid HK
  have t : decide (n < -492148) = true ∨ decide (n < -492148) = false ∧ decide (2909772 ≤ n) = true := by
    rcases h2 with q | q
    · exact .inl (decide_eq_true q)
    · exact .inr ⟨decide_eq_false (by omega), decide_eq_true q⟩
  clear h h2
  rcases t with t | ⟨t, u⟩
  all_goals
    go_enter Tryd.func25, Tryd.ntmps25
    go_wp2_with fail
    refine (HK.out _).mono ?_
    rintro e w1 ⟨rfl, rfl⟩
    go_wp2
    exact bodyPost_ret (v := .tuple #[.agg #[.int .i64 0, .int .i64 0, .int .i64 0], .int .i64 2]) (by simp [results, Tryd.results25, go_sem]) rfl ⟨rfl, grow (here w) _⟩
set_option maxHeartbeats 1000000 in
theorem uidate_yes (k n y m d : Int) (h : ivld k y m d = true) (hn : idayN k y m d = n) (w : World) (ht : Tabs w) :
    Calls Tryd.prog 25 #[.int .i64 k, .int .i64 n] w fun e w' => e = .returned (.tuple #[.agg #[.int .i64 y, .int .i64 m, .int .i64 d], .int .i64 0]) ∧ Below w.heap.size w w' := by
  obtain ⟨k0, k1, y0, y1, m0, m1, d0, d1⟩ := ivld_bd h
  have r := iday_range h
  have v := iday_in h
  have yr := ivld_yr h
  have l := ivld_iff.1 h
  rw [hn] at r v
  obtain ⟨e1, e2, e3, e4⟩ := icycle_of k0 k1 y0 v.1 v.2.1
  have ms := icumL_succ yr m0 m1
  have ml := icumL_late (k := k) (y := y) m1
  have HK := fun w => xikd k ⟨by omega, by omega⟩ w
  rw [ikd_iff.2 ⟨k0, k1⟩] at HK
  have HD := fun w => cdiv (n + 492148) 10631 ⟨by omega, by omega⟩ (by omega) (by omega) w
  have HY := fun w ht => xiyears k ((y - 1) % 30) ((n + 492148) % 10631) k0 k1 (by omega) (by omega) e2 e3 w ht
  have HX := fun w ht => xidays k ((y - 1) % 30) k0 k1 (by omega) (by omega) w ht
  have HM := fun w => ximw k y m (n - ifirst k y) yr m0 m1 (by omega) (by omega) w
  have HO := fun w => xidom (m - 1) (by omega) (by omega) w
  rw [show m - 1 + 1 = m by omega] at HO
  rw [e1] at HD
  have xb := iD_bd (r := (y - 1) % 30) k0 k1 (by omega) (by omega)
  have t1 : decide (n < -492148) = false := decide_eq_false (by omega)
  have t2 : decide (2909772 ≤ n) = false := decide_eq_false (by omega)
  have cb : 0 ≤ icum m ∧ icum m ≤ 400 := by unfold icum; omega
  have rb : 0 ≤ (n + 492148) % 10631 ∧ (n + 492148) % 10631 ≤ 10630 := by omega
  have pb : 0 ≤ (y - 1) / 30 ∧ (y - 1) / 30 ≤ 320 := by omega
  have qb : 0 ≤ (y - 1) % 30 ∧ (y - 1) % 30 ≤ 29 := by omega
  have fy : (y - 1) / 30 * 30 + (y - 1) % 30 + 1 = y := by omega
  have fd : n - ifirst k y - icum m + 1 = d := by omega
  have gb : 0 ≤ n - ifirst k y ∧ n - ifirst k y ≤ 400 := by
    have := ifirst_succ k0 k1 y0
    have := ilp_01 k y
    omega
  clear e1 e2 e3 ms ml hn v l h
  generalize icum m = c at *
  generalize n - ifirst k y = g at *
  generalize (n + 492148) % 10631 = R at *
  generalize iD k ((y - 1) % 30) = D at *
  generalize (y - 1) / 30 = p at *
  generalize (y - 1) % 30 = q at *
  obtain ⟨xb0, xb1⟩ := xb
  obtain ⟨cb0, cb1⟩ := cb
  obtain ⟨rb0, rb1⟩ := rb
  obtain ⟨pb0, pb1⟩ := pb
  obtain ⟨qb0, qb1⟩ := qb
  obtain ⟨gb0, gb1⟩ := gb
  obtain ⟨r0, r1⟩ := r
  replace HK := Lib.hid HK
  replace HD := Lib.hid HD
  replace HY := Lib.hid HY
  replace HX := Lib.hid HX
  replace HM := Lib.hid HM
  replace HO := Lib.hid HO
  have fm : m - 1 + 1 = m := by omega
  clear yr
  go_enter Tryd.func25, Tryd.ntmps25
  go_wp2_with fail
  refine (HK.out _).mono ?_
  rintro e w1 ⟨rfl, rfl⟩
  go_wp2_with fail
  refine (HD.out _).mono ?_
  rintro e w1 ⟨rfl, hb⟩
  replace hb : Below (w.alloc (.cells #[.int .i64 0, .int .i64 0, .int .i64 0] 29)).heap.size (w.alloc (.cells #[.int .i64 0, .int .i64 0, .int .i64 0] 29)) w1 := by obtain ⟨n', hw⟩ := hb; rw [hw]; exact below_drewN (here _) _
  have A1 := Lib.hid (down (grow (here w) _) hb)
  have B1 := Lib.hid (Box.new hb)
  have F1 := Lib.hid (Free.new hb)
  clear hb
  go_wp2_with fail
  refine (HY.out _ (ht.below A1.out)).mono ?_
  rintro e w2 ⟨rfl, hb⟩
  replace hb : Below w1.heap.size w1 w2 := by obtain ⟨n', hw⟩ := hb; rw [hw]; exact below_drewN (here _) _
  have A2 := Lib.hid (down A1.out hb)
  have B2 := Lib.hid (B1.out.keep hb)
  have F2 := Lib.hid (F1.out.keep B1.out.lt hb)
  clear hb A1 B1 F1
  go_wp2_with fail
  refine (HX.out _ (ht.below A2.out)).mono ?_
  rintro e w3 ⟨rfl, hb⟩
  replace hb : Below w2.heap.size w2 w3 := by obtain ⟨n', hw⟩ := hb; rw [hw]; exact below_drewN (here _) _
  have A3 := Lib.hid (down A2.out hb)
  have B3 := Lib.hid (B2.out.keep hb)
  have F3 := Lib.hid (F2.out.keep B2.out.lt hb)
  clear hb A2 B2 F2
  go_wp2_with fail
  refine (HM.out _).mono ?_
  rintro e w4 ⟨rfl, hb⟩
  replace hb : Below w3.heap.size w3 w4 := by obtain ⟨n', hw⟩ := hb; rw [hw]; exact below_drewN (here _) _
  have A4 := Lib.hid (down A3.out hb)
  have B4 := Lib.hid (B3.out.keep hb)
  have F4 := Lib.hid (F3.out.keep B3.out.lt hb)
  clear hb A3 B3 F3
  go_wp2_with fail
  refine (HO.out _).mono ?_
  rintro e w5 ⟨rfl, hb⟩
  replace hb : Below w4.heap.size w4 w5 := by obtain ⟨n', hw⟩ := hb; rw [hw]; exact below_drewN (here _) _
  have A5 := Lib.hid (down A4.out hb)
  have B5 := Lib.hid (B4.out.keep hb)
  have F5 := Lib.hid (F4.out.keep B4.out.lt hb)
  clear hb A4 B4 F4
  obtain ⟨c0, c1, c2, cz⟩ := B5.out
  obtain ⟨f0, f1, f2⟩ := F5.out
  go_wp2
  obtain ⟨w9, hw9⟩ : ∃ w9 : World, (((w5.setCell ⟨w.heap.size, 0, none⟩ (.int .i64 y)).setCell ⟨w.heap.size, 1, none⟩ (.int .i64 m)).setCell ⟨w.heap.size, 2, none⟩ (.int .i64 d)) = w9 := ⟨_, rfl⟩
  have B9 : Box w9 w.heap.size (.int .i64 y) (.int .i64 m) (.int .i64 d) := by rw [← hw9]; exact ((B5.out.put0 _).put1 _).put2 _
  have A9 : Below w.heap.size w w9 := by
    rw [← hw9]
    exact (((A5.out.setCell (p := ⟨w.heap.size, 0, none⟩) (Nat.le_refl _) (.int .i64 y)).setCell (p := ⟨w.heap.size, 1, none⟩) (Nat.le_refl _) (.int .i64 m)).setCell (p := ⟨w.heap.size, 2, none⟩) (Nat.le_refl _) (.int .i64 d))
  obtain ⟨e0, e1, e2, -⟩ := B9
  rw [hw9]
  exact bodyPost_ret (v := .tuple #[.agg #[.int .i64 y, .int .i64 m, .int .i64 d], .int .i64 0]) (by simp [results, Tryd.results25, go_sem, e0, e1, e2]) rfl ⟨rfl, A9⟩
end Go.Proofs.YtobipbmigpkhmaaDoor
