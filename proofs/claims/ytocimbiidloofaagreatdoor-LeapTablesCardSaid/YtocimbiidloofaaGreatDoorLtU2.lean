/- Contracts of package leap: conversions. -/
import Derived.Test.YtocimbiidloofaaGreatDoorLtU1

namespace Go.Proofs.YtocimbiidloofaaGreatDoor

open Go.RowKit

set_option linter.unusedVariables false

theorem lies_one (w : World) (t : Int) (T : TypeId) : Lies (w.alloc (.cells #[.int .i64 t] T)) w.heap.size 0 (ints [t]) := by
  refine ⟨by simp, fun j u hj => ?_⟩
  rw [World.cell?_alloc_new]
  match j, hj with
  | 0, hj => simpa using hj
  | j + 1, hj => simp at hj
theorem lies_two (w : World) (a b : Int) (T : TypeId) : Lies (w.alloc (.cells #[.int .i64 a, .int .i64 b] T)) w.heap.size 0 (ints [a, b]) := by
  refine ⟨by simp, fun j u hj => ?_⟩
  rw [World.cell?_alloc_new]
  match j, hj with
  | 0, hj => simpa using hj
  | 1, hj => simpa using hj
  | j + 2, hj => simp at hj
theorem ck_one (ps : List (Int × Int)) (t : Int) : ckE ps [t] = laE ps t := by unfold ckE laE; simp
theorem ck_two (ps : List (Int × Int)) (a b : Int) : ckE ps [a, b] = ldE ps a b := by unfold ckE ldE; simp
theorem lt_min2 {ps : List (Int × Int)} (h : ltB ps = true) {t : Int} (ht : inB t = true) : ltN ps (t + 60) = ltN ps t + (if ltH ps (ltF t + 60) then 1 else 0) := by
  have f := ltF_bd ht
  obtain ⟨_, u⟩ := ltB_iff.1 h
  have m : ∀ i, i < ps.length → ltA ps i % 60 = 0 := fun i hi => by have := (ltS_iff.1 (u i hi)).2.2.1; omega
  have e0 : ltN ps t = ltN ps (ltF t) := by
    have x := ltN_at h (ltF t)
    refine ltN_is (ltN_le _ _) (fun i hi => by have := x.1 i hi; omega) (fun i h0 h1 => by have := x.2 i h0 h1; have := m i h1; omega)
  have e1 : ltN ps (t + 60) = ltN ps (ltF t + 60) := by
    have x := ltN_at h (ltF t + 60)
    refine ltN_is (ltN_le _ _) (fun i hi => by have := x.1 i hi; omega) (fun i h0 h1 => by have := x.2 i h0 h1; have := m i h1; omega)
  rw [e0, e1]; exact lt_minute h ht
theorem la_good {ps : List (Int × Int)} {t : Int} (e0 : laE ps t = 0) : ltB ps = true ∧ inB t = true := by
  obtain ⟨ok, ht⟩ : ltB ps = true ∧ inB t = true := by
    cases b : ltB ps
    · unfold laE at e0; rw [b] at e0; cases e0
    · cases i : inB t
      · unfold laE at e0; rw [b, i] at e0; cases e0
      · exact ⟨rfl, rfl⟩
  exact ⟨ok, ht⟩
theorem ld_good {ps : List (Int × Int)} {a b : Int} (e0 : ldE ps a b = 0) : ltB ps = true ∧ inB a = true ∧ inB b = true := by
  unfold ldE at e0
  cases x : ltB ps
  · rw [x] at e0; cases e0
  · cases i : inB a
    · rw [x, i] at e0; cases e0
    · cases j : inB b
      · rw [x, i, j] at e0; cases e0
      · exact ⟨rfl, rfl, rfl⟩
theorem laV_no {ps : List (Int × Int)} {t : Int} (e : ¬ laE ps t = 0) : (ltB ps && inB t) = false := by
  cases b : ltB ps
  · rfl
  · cases i : inB t
    · rfl
    · exact absurd (by unfold laE; rw [b, i]; rfl) e
theorem ldV_no {ps : List (Int × Int)} {a b : Int} (e : ¬ ldE ps a b = 0) : (ltB ps && inB a && inB b) = false := by
  cases x : ltB ps
  · rfl
  · cases i : inB a
    · rfl
    · cases j : inB b
      · rfl
      · exact absurd (by unfold ldE; rw [x, i, j]; rfl) e
set_option maxRecDepth 100000 in
set_option maxHeartbeats 1000000 in
theorem ula_no (v : Value) (ps : List (Int × Int)) (t : Int) (ne : ¬ laE ps t = 0) (w : World) (h : LT w v ps) :
    Calls Tryz.prog 12 #[.agg #[v], .int .i64 t] w fun e w' => e = .returned (.tuple #[.int .i64 0, .int .i64 (laE ps t)]) ∧ Below w.heap.size w w' := by
  have HC := Lib.hid (ulcheck v ps [t] (w.heap.size + 1) 0 1 1 rfl (by decide) ((w.alloc (.cells #[v] 24)).alloc (.cells #[.int .i64 t] 3)) ((h.old _).old _) (by rw [← size_two w (.cells #[v] 24)]; exact lies_one _ _ _))
  rw [ck_one] at HC
  have L2 := Lib.hid ((h.old (.cells #[v] 24)).old (.cells #[.int .i64 t] 3))
  have B2 := Lib.hid ((One.new (here (w.alloc (.cells #[v] 24)))).old (.cells #[.int .i64 t] 3))
  have A2 := Lib.hid (grow (grow (here w) (.cells #[v] 24)) (.cells #[.int .i64 t] 3))
  obtain ⟨w1, hw1⟩ : ∃ w1 : World, w.alloc (.cells #[v] 24) = w1 := ⟨_, rfl⟩
  obtain ⟨bx, blt⟩ := One.new (here (w.alloc (.cells #[v] 24)))
  have s1 : w1.heap.size = w.heap.size + 1 := by rw [← hw1]; exact size_two _ _
  rw [hw1] at HC L2 B2 A2 bx blt
  obtain ⟨w2, hw2⟩ : ∃ w2 : World, w1.alloc (.cells #[.int .i64 t] 3) = w2 := ⟨_, rfl⟩
  rw [hw2] at HC L2 B2 A2
  have ke : (laE ps t != 0) = true := by simpa using ne
  generalize laE ps t = E at *
  clear h ne
  go_enter Tryz.func12, Tryz.ntmps12
  go_wp2_with fail
  refine (HC.out).mono ?_
  rintro e w3 ⟨rfl, hb⟩
  have A3 := Lib.hid (down A2.out hb)
  have L3 := Lib.hid (L2.out.keep hb)
  have B3 := Lib.hid (B2.out.keep hb)
  clear hb HC A2 L2 B2 bx blt hw1 hw2 s1
  obtain ⟨bx, blt⟩ := B3.out
  go_wp2
  go_ret2
  exact ⟨rfl, A3.out⟩
set_option maxRecDepth 100000 in
set_option maxHeartbeats 1000000 in
theorem ulatomic (v : Value) (ps : List (Int × Int)) (t : Int) (hI : I64 t) (w : World) (h : LT w v ps) :
    Calls Tryz.prog 12 #[.agg #[v], .int .i64 t] w fun e w' => e = .returned (.tuple #[.int .i64 (laV ps t), .int .i64 (laE ps t)]) ∧ Below w.heap.size w w' := by
  by_cases e0 : laE ps t = 0
  · obtain ⟨ok, ht⟩ := la_good e0
    have hV : Hid (laV ps t = ltW ps t) := by show _ = _; unfold laV; rw [ok, ht]; rfl
    have HC := Lib.hid (ulcheck v ps [t] (w.heap.size + 1) 0 1 1 rfl (by decide) ((w.alloc (.cells #[v] 24)).alloc (.cells #[.int .i64 t] 3)) ((h.old _).old _) (by rw [← size_two w (.cells #[v] 24)]; exact lies_one _ _ _))
    rw [ck_one] at HC
    have L2 := Lib.hid ((h.old (.cells #[v] 24)).old (.cells #[.int .i64 t] 3))
    have B2 := Lib.hid ((One.new (here (w.alloc (.cells #[v] 24)))).old (.cells #[.int .i64 t] 3))
    have A2 := Lib.hid (grow (grow (here w) (.cells #[v] 24)) (.cells #[.int .i64 t] 3))
    obtain ⟨w1, hw1⟩ : ∃ w1 : World, w.alloc (.cells #[v] 24) = w1 := ⟨_, rfl⟩
    obtain ⟨bx, blt⟩ := One.new (here (w.alloc (.cells #[v] 24)))
    have s1 : w1.heap.size = w.heap.size + 1 := by rw [← hw1]; exact size_two _ _
    rw [hw1] at HC L2 B2 A2 bx blt
    obtain ⟨w2, hw2⟩ : ∃ w2 : World, w1.alloc (.cells #[.int .i64 t] 3) = w2 := ⟨_, rfl⟩
    rw [hw2] at HC L2 B2 A2
    have HT := Lib.hid (fun w h => ulatom v ps t ok ht w h)
    rw [e0] at HC
    have hE := Lib.hid e0
    clear h e0 hI
    go_enter Tryz.func12, Tryz.ntmps12
    go_wp2_with fail
    refine (HC.out).mono ?_
    rintro e w3 ⟨rfl, hb⟩
    have A3 := Lib.hid (down A2.out hb)
    have L3 := Lib.hid (L2.out.keep hb)
    have B3 := Lib.hid (B2.out.keep hb)
    clear hb HC A2 L2 B2 bx blt hw1 hw2 s1
    obtain ⟨bx, blt⟩ := B3.out
    go_wp2_with fail
    refine (HT.out _ L3.out).mono ?_
    rintro e w4 ⟨rfl, hb⟩
    have A4 := Lib.hid (down A3.out hb)
    clear hb
    go_wp2
    go_ret2
    exact ⟨by rw [hV.out, hE.out]; rfl, A4.out⟩
  · have hV : laV ps t = 0 := by unfold laV; rw [laV_no e0]; rfl
    rw [hV]
    exact ula_no v ps t e0 w h
set_option maxRecDepth 100000 in
set_option maxHeartbeats 1000000 in
theorem ulcfun (v : Value) (ps : List (Int × Int)) (ok : ltB ps = true) (a : Int) (i : Nat) (hi : i < ps.length) (b c : Nat) (w : World) (hb : One w b v) (hc : One w c (.int .i64 a)) (h : LT w v ps) :
    Calls Tryz.prog 25 #[.int .i64 i, .pointer (some ⟨b, 0, none⟩), .pointer (some ⟨c, 0, none⟩)] w fun e w' => e = .returned (.bool (decide (a < ltA ps i + i))) ∧ Below w.heap.size w w' := by
  have q := ltS_iff.1 ((ltB_iff.1 ok).2 i hi)
  have n1 := (ltB_iff.1 ok).1
  obtain ⟨ao, cp, rfl⟩ := h.shape
  obtain ⟨d, off, rfl, dl, cs⟩ := h.at hi
  obtain ⟨c0, c1⟩ := cs i hi
  obtain ⟨bx, blt⟩ := hb
  obtain ⟨cx, clt⟩ := hc
  have HI := Lib.hid (fun w => ulins (ltA ps i) (ltT ps i) ⟨q.1, q.2.1⟩ (by omega) w)
  have e : Hid (decide (a < ltA ps i + i) = decide (a < ltA ps i + ltT ps i - 1)) := decide_eq_decide.2 (by omega)
  clear cs h q
  generalize ltA ps i = x at *
  generalize ltT ps i = y at *
  generalize ps.length = n at *
  have k0 : ∀ z : Kept w, z.wd.cell? ⟨b, 0, none⟩ = some (.slice (some ⟨d, off, none⟩) n cp) := fun z => by rw [z.ok.cell (p := ⟨b, 0, none⟩) blt]; exact bx
  have k1 : ∀ z : Kept w, z.wd.cell? ⟨c, 0, none⟩ = some (.int .i64 a) := fun z => by rw [z.ok.cell (p := ⟨c, 0, none⟩) clt]; exact cx
  have k2 : ∀ z : Kept w, z.wd.cell? ⟨d, off + i * 2, none⟩ = some (.int .i64 x) := fun z => by rw [z.ok.cell (p := ⟨d, off + i * 2, none⟩) dl]; exact c0
  have k3 : ∀ z : Kept w, z.wd.cell? ⟨d, off + i * 2 + 1, none⟩ = some (.int .i64 y) := fun z => by rw [z.ok.cell (p := ⟨d, off + i * 2 + 1, none⟩) dl]; exact c1
  go_enter Tryz.func25, Tryz.ntmps25
  go_wp2
  refine wp_region_kept (by kernel_rfl) (by kernel_rfl) ?_
  repeat (go_big_quiet_step ((go_at_call 26; exact kept_call _ (HI.out _))))
  refine wpQuiet_nil ?_
  intro w4 hx
  obtain ⟨⟨x4, hb⟩, hw⟩ := hx
  replace hw : w4 = x4 := hw
  subst x4
  go_wp2
  go_ret
  exact ⟨by rw [e.out]; rfl, hb⟩
set_option maxRecDepth 100000 in
set_option maxHeartbeats 1000000 in
theorem ulciv_bad (v : Value) (ps : List (Int × Int)) (a : Int) (ok : ltB ps = false) (w : World) (h : LT w v ps) :
    Calls Tryz.prog 13 #[.agg #[v], .int .i64 a] w fun e w' => e = .returned (.tuple #[.int .i64 0, .bool false, .int .i64 1]) ∧ Below w.heap.size w w' := by
  have HV := Lib.hid (fun w h => ulvalid v ps w h)
  obtain ⟨w1, hw1⟩ : ∃ w1 : World, w.alloc (.cells #[v] 24) = w1 := ⟨_, rfl⟩
  obtain ⟨w2, hw2⟩ : ∃ w2 : World, w1.alloc (.cells #[.int .i64 a] 3) = w2 := ⟨_, rfl⟩
  have s1 : w1.heap.size = w.heap.size + 1 := by rw [← hw1]; exact size_two _ _
  have B1 : One w1 w.heap.size v := by rw [← hw1]; exact One.new (here _)
  have B2 : Hid (One w2 w.heap.size v) := by rw [← hw2]; exact B1.old _
  have C2 : Hid (One w2 (w.heap.size + 1) (.int .i64 a)) := by rw [← hw2, ← s1]; exact One.new (here _)
  have L2 : Hid (LT w2 v ps) := by rw [← hw2, ← hw1]; exact (h.old _).old _
  have A2 : Hid (Below w.heap.size w w2) := by rw [← hw2, ← hw1]; exact grow (grow (here w) _) _
  obtain ⟨bx, blt⟩ := B2.out
  obtain ⟨cx, clt⟩ := C2.out
  clear B1 h
  rw [ok] at HV
  clear ok
  go_enter Tryz.func13, Tryz.ntmps13
  go_wp2_with fail
  refine (HV.out _ L2.out).mono ?_
  rintro e w3 ⟨rfl, hb⟩
  have A3 := Lib.hid (down A2.out hb)
  have L3 := Lib.hid (L2.out.keep hb)
  have B3 := Lib.hid (B2.out.keep hb)
  have C3 := Lib.hid (C2.out.keep hb)
  clear hb HV A2 L2 B2 C2 bx blt cx clt hw1 hw2 s1
  obtain ⟨bx, blt⟩ := B3.out
  obtain ⟨cx, clt⟩ := C3.out
  go_wp2
  go_ret3
  exact ⟨rfl, A3.out⟩
set_option maxRecDepth 100000 in
set_option maxHeartbeats 1000000 in
theorem ulciv_out (v : Value) (ps : List (Int × Int)) (a : Int) (hI : I64 a) (ok : ltB ps = true) (hb' : acB ps a = false) (w : World) (h : LT w v ps) :
    Calls Tryz.prog 13 #[.agg #[v], .int .i64 a] w fun e w' => e = .returned (.tuple #[.int .i64 0, .bool false, .int .i64 2]) ∧ Below w.heap.size w w' := by
  have HV := Lib.hid (fun w h => ulvalid v ps w h)
  obtain ⟨w1, hw1⟩ : ∃ w1 : World, w.alloc (.cells #[v] 24) = w1 := ⟨_, rfl⟩
  obtain ⟨w2, hw2⟩ : ∃ w2 : World, w1.alloc (.cells #[.int .i64 a] 3) = w2 := ⟨_, rfl⟩
  have s1 : w1.heap.size = w.heap.size + 1 := by rw [← hw1]; exact size_two _ _
  have B1 : One w1 w.heap.size v := by rw [← hw1]; exact One.new (here _)
  have B2 : Hid (One w2 w.heap.size v) := by rw [← hw2]; exact B1.old _
  have C2 : Hid (One w2 (w.heap.size + 1) (.int .i64 a)) := by rw [← hw2, ← s1]; exact One.new (here _)
  have L2 : Hid (LT w2 v ps) := by rw [← hw2, ← hw1]; exact (h.old _).old _
  have A2 : Hid (Below w.heap.size w w2) := by rw [← hw2, ← hw1]; exact grow (grow (here w) _) _
  obtain ⟨bx, blt⟩ := B2.out
  obtain ⟨cx, clt⟩ := C2.out
  clear B1 h
  rw [ok] at HV
  have n1 := (ltB_iff.1 ok).1
  have HE := Lib.hid (fun w h => ulend v ps n1 w h)
  have c : a < -62135596800 ∨ -62135596800 ≤ a ∧ 253402300800 + (ps.length : Int) ≤ a := by
    rw [← Bool.not_eq_true, acB_iff] at hb'; omega
  clear ok hb' hI
  rcases c with c | ⟨c, d⟩
  · have k := decide_eq_true c
    clear c
    go_enter Tryz.func13, Tryz.ntmps13
    go_wp2_with fail
    refine (HV.out _ L2.out).mono ?_
    rintro e w3 ⟨rfl, hb⟩
    have A3 := Lib.hid (down A2.out hb)
    have L3 := Lib.hid (L2.out.keep hb)
    have B3 := Lib.hid (B2.out.keep hb)
    have C3 := Lib.hid (C2.out.keep hb)
    clear hb HV A2 L2 B2 C2 bx blt cx clt hw1 hw2 s1
    obtain ⟨bx, blt⟩ := B3.out
    obtain ⟨cx, clt⟩ := C3.out
    go_wp2
    have kx : ∀ x : Kept w3, x.wd.cell? ⟨w.heap.size, 0, none⟩ = some v := fun x => (B3.out.keep x.ok).c
    have kc : ∀ x : Kept w3, x.wd.cell? ⟨w.heap.size + 1, 0, none⟩ = some (.int .i64 a) := fun x => (C3.out.keep x.ok).c
    refine wp_region_kept (by kernel_rfl) (by kernel_rfl) ?_
    repeat (go_big_quiet_step (fail))
    refine wpQuiet_nil ?_
    intro w4 hx
    obtain ⟨⟨x4, hb⟩, hw⟩ := hx
    replace hw : w4 = x4 := hw
    subst x4
    have A4 := Lib.hid (down A3.out hb)
    have L4 := Lib.hid (L3.out.keep hb)
    have B4 := Lib.hid (B3.out.keep hb)
    have C4 := Lib.hid (C3.out.keep hb)
    clear hb kx kc A3 L3 B3 C3 bx blt cx clt
    obtain ⟨bx, blt⟩ := B4.out
    obtain ⟨cx, clt⟩ := C4.out
    go_wp2
    go_ret3
    exact ⟨rfl, A4.out⟩
  · have k : decide (a < -62135596800) = false := decide_eq_false (by omega)
    have j : decide (253402300800 + (ps.length : Int) ≤ a) = true := decide_eq_true d
    clear c d
    go_enter Tryz.func13, Tryz.ntmps13
    go_wp2_with fail
    refine (HV.out _ L2.out).mono ?_
    rintro e w3 ⟨rfl, hb⟩
    have A3 := Lib.hid (down A2.out hb)
    have L3 := Lib.hid (L2.out.keep hb)
    have B3 := Lib.hid (B2.out.keep hb)
    have C3 := Lib.hid (C2.out.keep hb)
    clear hb HV A2 L2 B2 C2 bx blt cx clt hw1 hw2 s1
    obtain ⟨bx, blt⟩ := B3.out
    obtain ⟨cx, clt⟩ := C3.out
    go_wp2
    have kx : ∀ x : Kept w3, x.wd.cell? ⟨w.heap.size, 0, none⟩ = some v := fun x => (B3.out.keep x.ok).c
    have kc : ∀ x : Kept w3, x.wd.cell? ⟨w.heap.size + 1, 0, none⟩ = some (.int .i64 a) := fun x => (C3.out.keep x.ok).c
    refine wp_region_kept (by kernel_rfl) (by kernel_rfl) ?_
    repeat (go_big_quiet_step ((go_at_call 23; exact kept_call _ (HE.out _ (L3.out.keep (Kept.ok _))))))
    refine wpQuiet_nil ?_
    intro w4 hx
    obtain ⟨⟨x4, hb⟩, hw⟩ := hx
    replace hw : w4 = x4 := hw
    subst x4
    have A4 := Lib.hid (down A3.out hb)
    have L4 := Lib.hid (L3.out.keep hb)
    have B4 := Lib.hid (B3.out.keep hb)
    have C4 := Lib.hid (C3.out.keep hb)
    clear hb kx kc A3 L3 B3 C3 bx blt cx clt
    obtain ⟨bx, blt⟩ := B4.out
    obtain ⟨cx, clt⟩ := C4.out
    go_wp2
    go_ret3
    exact ⟨rfl, A4.out⟩
set_option maxRecDepth 100000 in
set_option maxHeartbeats 1000000 in
theorem ulciv_in (v : Value) (ps : List (Int × Int)) (a : Int) (ok : ltB ps = true) (hb' : acB ps a = true) (w : World) (h : LT w v ps) :
    Calls Tryz.prog 13 #[.agg #[v], .int .i64 a] w fun e w' => e = .returned (.tuple #[.int .i64 (ltU ps a), .bool (ltI ps a), .int .i64 0]) ∧ Below w.heap.size w w' := by
  have HV := Lib.hid (fun w h => ulvalid v ps w h)
  obtain ⟨w1, hw1⟩ : ∃ w1 : World, w.alloc (.cells #[v] 24) = w1 := ⟨_, rfl⟩
  obtain ⟨w2, hw2⟩ : ∃ w2 : World, w1.alloc (.cells #[.int .i64 a] 3) = w2 := ⟨_, rfl⟩
  have s1 : w1.heap.size = w.heap.size + 1 := by rw [← hw1]; exact size_two _ _
  have B1 : One w1 w.heap.size v := by rw [← hw1]; exact One.new (here _)
  have B2 : Hid (One w2 w.heap.size v) := by rw [← hw2]; exact B1.old _
  have C2 : Hid (One w2 (w.heap.size + 1) (.int .i64 a)) := by rw [← hw2, ← s1]; exact One.new (here _)
  have L2 : Hid (LT w2 v ps) := by rw [← hw2, ← hw1]; exact (h.old _).old _
  have A2 : Hid (Below w.heap.size w w2) := by rw [← hw2, ← hw1]; exact grow (grow (here w) _) _
  obtain ⟨bx, blt⟩ := B2.out
  obtain ⟨cx, clt⟩ := C2.out
  clear B1 h
  rw [ok] at HV
  have n1 := (ltB_iff.1 ok).1
  have HE := Lib.hid (fun w h => ulend v ps n1 w h)
  have kle := ltK_le ps a
  have at' := ltK_at ok a
  have HS : Hid (∀ w' : World, One w' w.heap.size v → One w' (w.heap.size + 1) (.int .i64 a) → LT w' v ps → Calls Tryz.prog 24 #[.int .i64 ps.length, .func (.func 25) #[] #[.pointer (some ⟨w.heap.size, 0, none⟩), .pointer (some ⟨w.heap.size + 1, 0, none⟩)]] w' fun e w'' => e = .returned (.int .i64 (ltK ps a)) ∧ Below w'.heap.size w' w'') := by
    intro w' hB hC hL
    exact search_all ps.length (ltK ps a) (fun i => decide (a < ltA ps i + i)) 25 _ (by omega) w' (fun _ _ => rfl) (ltK_le ps a)
      (fun i hi => decide_eq_false (by have := at'.1 i hi; omega)) (fun i h0 h1 => decide_eq_true (at'.2 i h0 h1))
      (fun i w'' hi hb => ulcfun _ ps ok a i hi _ _ w'' (hB.keep hb) (hC.keep hb) (hL.keep hb))
  have hmf : ∀ (fn : Fn) (first cap : Array Value) (w : World), (Instr.makeFunc fn first cap).run Tryz.prog w = .ok (.func fn first cap) w := fun _ _ _ _ => rfl
  obtain ⟨a0, a1⟩ := acB_iff.1 hb'
  have fate : (ltK ps a = 0 ∧ ltI ps a = false) ∨ (∃ j, ltK ps a = j + 1 ∧ j < ps.length) := by
    rcases Nat.eq_zero_or_pos (ltK ps a) with z | z
    · refine .inl ⟨z, ?_⟩
      rw [← Bool.not_eq_true, ltI_iff]; omega
    · exact .inr ⟨ltK ps a - 1, by omega, by omega⟩
  have un : Hid (ltI ps a = false → ltU ps a = a - ltK ps a) := ltU_no
  rcases fate with ⟨z, q⟩ | ⟨j, z, hj⟩
  · have k0 : decide (0 < (ltK ps a : Int)) = false := decide_eq_false (by omega)
    have k0' : decide (0 < ltK ps a) = false := decide_eq_false (by omega)
    have hU := Lib.hid (un.out q)
    rw [q]
    clear un at' ok hb' q z
    generalize ltU ps a = U at *
    generalize ltK ps a = K at *
    have k : decide (a < -62135596800) = false := decide_eq_false (by omega)
    have j' : decide (253402300800 + (ps.length : Int) ≤ a) = false := decide_eq_false (by omega)
    go_enter Tryz.func13, Tryz.ntmps13
    go_wp2_with fail
    refine (HV.out _ L2.out).mono ?_
    rintro e w3 ⟨rfl, hb⟩
    have A3 := Lib.hid (down A2.out hb)
    have L3 := Lib.hid (L2.out.keep hb)
    have B3 := Lib.hid (B2.out.keep hb)
    have C3 := Lib.hid (C2.out.keep hb)
    clear hb HV A2 L2 B2 C2 bx blt cx clt hw1 hw2 s1
    obtain ⟨bx, blt⟩ := B3.out
    obtain ⟨cx, clt⟩ := C3.out
    go_wp2
    have kx : ∀ x : Kept w3, x.wd.cell? ⟨w.heap.size, 0, none⟩ = some v := fun x => (B3.out.keep x.ok).c
    have kc : ∀ x : Kept w3, x.wd.cell? ⟨w.heap.size + 1, 0, none⟩ = some (.int .i64 a) := fun x => (C3.out.keep x.ok).c
    refine wp_region_kept (by kernel_rfl) (by kernel_rfl) ?_
    repeat (go_big_quiet_step ((go_at_call 23; exact kept_call _ (HE.out _ (L3.out.keep (Kept.ok _))))))
    refine wpQuiet_nil ?_
    intro w4 hx
    obtain ⟨⟨x4, hb⟩, hw⟩ := hx
    replace hw : w4 = x4 := hw
    subst x4
    have A4 := Lib.hid (down A3.out hb)
    have L4 := Lib.hid (L3.out.keep hb)
    have B4 := Lib.hid (B3.out.keep hb)
    have C4 := Lib.hid (C3.out.keep hb)
    clear hb kx kc A3 L3 B3 C3 bx blt cx clt
    obtain ⟨bx, blt⟩ := B4.out
    obtain ⟨cx, clt⟩ := C4.out
    obtain ⟨ao, cp, rfl⟩ := L4.out.shape
    go_wp2_with fail
    refine (HS.out _ B4.out C4.out L4.out).mono ?_
    rintro e w5 ⟨rfl, hb⟩
    have A5 := Lib.hid (down A4.out hb)
    have L5 := Lib.hid (L4.out.keep hb)
    have B5 := Lib.hid (B4.out.keep hb)
    have C5 := Lib.hid (C4.out.keep hb)
    clear hb HS A4 L4 B4 C4 bx blt cx clt k j' HE
    obtain ⟨bx, blt⟩ := B5.out
    obtain ⟨cx, clt⟩ := C5.out
    go_wp2
    have kx : ∀ x : Kept w5, x.wd.cell? ⟨w.heap.size, 0, none⟩ = some (.slice ao ps.length cp) := fun x => (B5.out.keep x.ok).c
    have kc : ∀ x : Kept w5, x.wd.cell? ⟨w.heap.size + 1, 0, none⟩ = some (.int .i64 a) := fun x => (C5.out.keep x.ok).c
    refine wp_region_kept (by kernel_rfl) (by kernel_rfl) ?_
    repeat (go_big_quiet_step (fail))
    refine wpQuiet_nil ?_
    intro w6 hx
    obtain ⟨⟨x4, hb⟩, hw⟩ := hx
    replace hw : w6 = x4 := hw
    subst x4
    have A6 := Lib.hid (down A5.out hb)
    have C6 := Lib.hid (C5.out.keep hb)
    clear hb kx kc cx clt bx blt
    obtain ⟨cx, clt⟩ := C6.out
    go_wp2
    go_ret3
    exact ⟨by rw [hU.out]; rfl, A6.out⟩
  · have k0 : decide (0 < (ltK ps a : Int)) = true := decide_eq_true (by omega)
    have k0' : decide (0 < ltK ps a) = true := decide_eq_true (by omega)
    have js : ((ltK ps a : Int) - 1) = (j : Int) := by omega
    have st := ltS_iff.1 ((ltB_iff.1 ok).2 j hj)
    have hI : Hid (ltI ps a = decide (ltA ps j + j = a)) := by
      show _ = _
      unfold ltI
      refine decide_eq_decide.2 ?_
      rw [z, show j + 1 - 1 = j by omega]
      exact ⟨fun x => x.2, fun x => ⟨by omega, x⟩⟩
    have uy : Hid (ltI ps a = true → ltU ps a = ltA ps j) := fun x => by rw [ltU_yes x, z]; rfl
    have HI := Lib.hid (fun w => ulins (ltA ps j) (ltT ps j) ⟨st.1, st.2.1⟩ (by omega) w)
    have tj := Lib.hid st.2.2.2.1
    have b0 := st.1
    have b1 := st.2.1
    have b2 : 1 ≤ ltT ps j ∧ ltT ps j ≤ 100 := by omega
    clear at' ok hb' st z
    have kb : ltK ps a ≤ 100 := by omega
    generalize ltI ps a = J at *
    generalize ltU ps a = U at *
    generalize ltK ps a = K at *
    have k : decide (a < -62135596800) = false := decide_eq_false (by omega)
    have j' : decide (253402300800 + (ps.length : Int) ≤ a) = false := decide_eq_false (by omega)
    go_enter Tryz.func13, Tryz.ntmps13
    go_wp2_with fail
    refine (HV.out _ L2.out).mono ?_
    rintro e w3 ⟨rfl, hb⟩
    have A3 := Lib.hid (down A2.out hb)
    have L3 := Lib.hid (L2.out.keep hb)
    have B3 := Lib.hid (B2.out.keep hb)
    have C3 := Lib.hid (C2.out.keep hb)
    clear hb HV A2 L2 B2 C2 bx blt cx clt hw1 hw2 s1
    obtain ⟨bx, blt⟩ := B3.out
    obtain ⟨cx, clt⟩ := C3.out
    go_wp2
    have kx : ∀ x : Kept w3, x.wd.cell? ⟨w.heap.size, 0, none⟩ = some v := fun x => (B3.out.keep x.ok).c
    have kc : ∀ x : Kept w3, x.wd.cell? ⟨w.heap.size + 1, 0, none⟩ = some (.int .i64 a) := fun x => (C3.out.keep x.ok).c
    refine wp_region_kept (by kernel_rfl) (by kernel_rfl) ?_
    repeat (go_big_quiet_step ((go_at_call 23; exact kept_call _ (HE.out _ (L3.out.keep (Kept.ok _))))))
    refine wpQuiet_nil ?_
    intro w4 hx
    obtain ⟨⟨x4, hb⟩, hw⟩ := hx
    replace hw : w4 = x4 := hw
    subst x4
    have A4 := Lib.hid (down A3.out hb)
    have L4 := Lib.hid (L3.out.keep hb)
    have B4 := Lib.hid (B3.out.keep hb)
    have C4 := Lib.hid (C3.out.keep hb)
    clear hb kx kc A3 L3 B3 C3 bx blt cx clt
    obtain ⟨bx, blt⟩ := B4.out
    obtain ⟨cx, clt⟩ := C4.out
    obtain ⟨ao, cp, rfl⟩ := L4.out.shape
    go_wp2_with fail
    refine (HS.out _ B4.out C4.out L4.out).mono ?_
    rintro e w5 ⟨rfl, hb⟩
    have A5 := Lib.hid (down A4.out hb)
    have L5 := Lib.hid (L4.out.keep hb)
    have B5 := Lib.hid (B4.out.keep hb)
    have C5 := Lib.hid (C4.out.keep hb)
    clear hb HS A4 L4 B4 C4 bx blt cx clt k j' HE
    obtain ⟨bx, blt⟩ := B5.out
    obtain ⟨cx, clt⟩ := C5.out
    obtain ⟨d, off, rfl, dl, cs⟩ := L5.out.at hj
    obtain ⟨c0, c1⟩ := cs j hj
    clear cs
    generalize ltA ps j = x at *
    generalize ltT ps j = y at *
    go_wp2
    have kx : ∀ x : Kept w5, x.wd.cell? ⟨w.heap.size, 0, none⟩ = some (.slice (some ⟨d, off, none⟩) ps.length cp) := fun x => (B5.out.keep x.ok).c
    have kc : ∀ x : Kept w5, x.wd.cell? ⟨w.heap.size + 1, 0, none⟩ = some (.int .i64 a) := fun x => (C5.out.keep x.ok).c
    have k2 : ∀ z : Kept w5, z.wd.cell? ⟨d, off + j * 2, none⟩ = some (.int .i64 x) := fun z => by rw [z.ok.cell (p := ⟨d, off + j * 2, none⟩) dl]; exact c0
    have k3 : ∀ z : Kept w5, z.wd.cell? ⟨d, off + j * 2 + 1, none⟩ = some (.int .i64 y) := fun z => by rw [z.ok.cell (p := ⟨d, off + j * 2 + 1, none⟩) dl]; exact c1
    by_cases t : x + y - 1 = a
    · have e1 : (x + y - 1 == a) = true := beq_iff_eq.2 t
      have hJ : Hid (J = true) := by show _ = _; rw [hI.out]; exact decide_eq_true (by have := tj.out; omega)
      have hU := Lib.hid (uy.out hJ.out)
      clear un uy hI t
      refine wp_region_kept (by kernel_rfl) (by kernel_rfl) ?_
      repeat (go_big_quiet_step ((go_at_call 26; exact kept_call _ (HI.out _))))
      refine wpQuiet_nil ?_
      intro w6 hx
      obtain ⟨⟨x4, hb⟩, hw⟩ := hx
      replace hw : w6 = x4 := hw
      subst x4
      have A6 := Lib.hid (down A5.out hb)
      have d0 := k2 ⟨w6, hb⟩
      have d1 := kx ⟨w6, hb⟩
      have dl6 : d < w6.heap.size := Nat.lt_of_lt_of_le dl hb.size
      replace d0 : w6.cell? ⟨d, off + j * 2, none⟩ = some (.int .i64 x) := d0
      replace d1 : w6.cell? ⟨w.heap.size, 0, none⟩ = some (.slice (some ⟨d, off, none⟩) ps.length cp) := d1
      clear hb kx kc k2 k3 c0 c1 bx blt cx clt dl
      go_wp2
      go_ret3
      exact ⟨by rw [hU.out, hJ.out]; rfl, A6.out⟩
    · have e1 : (x + y - 1 == a) = false := by rw [beq_eq_false_iff_ne]; exact t
      have hJ : Hid (J = false) := by show _ = _; rw [hI.out]; exact decide_eq_false (by have := tj.out; omega)
      have hU := Lib.hid (un.out hJ.out)
      clear un uy hI t
      refine wp_region_kept (by kernel_rfl) (by kernel_rfl) ?_
      repeat (go_big_quiet_step ((go_at_call 26; exact kept_call _ (HI.out _))))
      refine wpQuiet_nil ?_
      intro w6 hx
      obtain ⟨⟨x4, hb⟩, hw⟩ := hx
      replace hw : w6 = x4 := hw
      subst x4
      have A6 := Lib.hid (down A5.out hb)
      have d1 := kc ⟨w6, hb⟩
      replace d1 : w6.cell? ⟨w.heap.size + 1, 0, none⟩ = some (.int .i64 a) := d1
      clear hb kx kc k2 k3 c0 c1 bx blt cx clt dl
      go_wp2
      go_ret3
      exact ⟨by rw [hU.out, hJ.out]; rfl, A6.out⟩
theorem ulcivil (v : Value) (ps : List (Int × Int)) (a : Int) (ha : I64 a) (w : World) (h : LT w v ps) :
    Calls Tryz.prog 13 #[.agg #[v], .int .i64 a] w fun e w' => e = .returned (.tuple #[.int .i64 (lcV ps a), .bool (lcI ps a), .int .i64 (lcE ps a)]) ∧ Below w.heap.size w w' := by
  unfold lcV lcI lcE
  cases ok : ltB ps
  · exact ulciv_bad v ps a ok w h
  · cases b : acB ps a
    · exact ulciv_out v ps a ha ok b w h
    · exact ulciv_in v ps a ok b w h
theorem wr_ac {ps : List (Int × Int)} {x n : Int} (hl : ps.length ≤ 100) (hx : -62135596800 ≤ x ∧ x < 253402300900) (hn : I64 n) : I64 (wrap64 (x + n)) ∧ acB ps (wrap64 (x + n)) = acB ps (x + n) ∧ (acB ps (x + n) = true → wrap64 (x + n) = x + n) := by
  obtain ⟨n0, n1⟩ := hn
  have b : I64 (wrap64 (x + n)) := by unfold wrap64 I64; omega
  have e : acB ps (x + n) = true → wrap64 (x + n) = x + n := fun q => by rw [acB_iff] at q; unfold wrap64; omega
  refine ⟨b, ?_, e⟩
  rw [Bool.eq_iff_iff, acB_iff, acB_iff]
  unfold wrap64; omega
end Go.Proofs.YtocimbiidloofaaGreatDoor
