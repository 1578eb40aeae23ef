/- The walk of CivilTexts: the Go text returns true, at every input. -/
import Derived.Test.YtdhedkcbkchpgaaDoorLengthsW
import Derived.Test.YtdhedkcbkchpgaaDoorRefP
namespace Go.Proofs.YtdhedkcbkchpgaaDoor
open Go.RowKit
set_option linter.unusedVariables false

/-- Both return the same date for a text. -/
theorem both_parse (s : ByteArray) (hs : s.size ≤ maxLen) : ∃ a b c E : Int,
    (∀ w, Lens w → Ev w → Calls Tryd.prog 33 #[.string s] w fun e w' => e = .returned (.tuple #[.agg #[.int .i64 a, .int .i64 b, .int .i64 c], .int .i64 E]) ∧ Below w.heap.size w w') ∧
    (∀ w, Calls Tryd.prog 34 #[.string s] w fun e w' => e = .returned (.tuple #[.agg #[.int .i64 a, .int .i64 b, .int .i64 c], .int .i64 E]) ∧ Below w.heap.size w w') := by
  by_cases h : formL s.data.toList = true
  · exact ⟨_, _, _, _, fun w ht hev => cparse_some s h _ _ _ _ rfl rfl rfl rfl w ht hev, fun w => refparse_some s h _ _ _ _ rfl rfl rfl rfl w⟩
  · rw [Bool.not_eq_true] at h
    exact ⟨_, _, _, _, fun w ht hev => cparse_form s hs h w, fun w => refparse_form s hs h w⟩
/-- What the walks of texts take from the listed variables. -/
def Listed (w : World) : Prop := Lens w ∧ Tab w ∧ Ev w
namespace CivilTexts
set_option maxRecDepth 100000 in
set_option maxHeartbeats 2000000 in
theorem walk (y m d : Int) (s : ByteArray) (hy : (Lit.int .i64 y).wf = true) (hm : (Lit.int .i64 m).wf = true) (hd : (Lit.int .i64 d).wf = true) (hs : s.size ≤ maxLen) (w : World) (hl : Listed w) :
    Calls Tryd.prog 7 #[.agg #[.int .i64 y, .int .i64 m, .int .i64 d], .string s] w fun e w' => e = .returned (.bool true) ∧ Below w.heap.size w w' := by
  obtain ⟨ht, hp, hev⟩ := hl
  replace hy := i64_wf hy
  replace hm := i64_wf hm
  replace hd := i64_wf hd
  have HT := fun w ht hp => ctextd y m d hy hm hd w ht hp
  have RT := fun w => reftext y m d hy hm hd w
  obtain ⟨a, b, c, E, HX, RX⟩ := both_parse s hs
  unfold maxLen at hs
  generalize (⟨(textD y m d).toArray⟩ : ByteArray) = T at *
  replace HT := Lib.hid HT
  replace RT := Lib.hid RT
  replace HX := Lib.hid HX
  replace RX := Lib.hid RX
  replace ht := Lib.hid ht
  replace hp := Lib.hid hp
  replace hev := Lib.hid hev
  clear hy hm hd
  by_cases k : 1000 < s.size
  · have k1 : decide ((1000 : Int) < (s.size : Int)) = true := decide_eq_true (by omega)
    go_enter Tryd.func7, Tryd.ntmps7
    go_wp2_with fail
    refine (awake_all _ (lens_alloc ht.out _)).mono ?_
    rintro e w1 ⟨rfl, hb⟩
    have A1 := Lib.hid (down (grow (here w) _) hb)
    clear hb
    go_wp2
    go_ret
    exact ⟨rfl, A1.out⟩
  · have k1 : decide ((1000 : Int) < (s.size : Int)) = false := decide_eq_false (by omega)
    go_enter Tryd.func7, Tryd.ntmps7
    go_wp2_with fail
    refine (awake_all _ (lens_alloc ht.out _)).mono ?_
    rintro e w1 ⟨rfl, hb⟩
    have A1 := Lib.hid (down (grow (here w) _) hb)
    have B1 := Lib.hid (Box.new hb)
    clear hb
    go_wp2_with fail
    refine (HX.out _ (lens_below ht.out A1.out) (ev_below hev.out A1.out)).mono ?_
    rintro e w2 ⟨rfl, hb⟩
    have A2 := Lib.hid (down A1.out hb)
    have B2 := Lib.hid (B1.out.keep hb)
    clear hb A1 B1
    go_wp2_with fail
    refine (RX.out _).mono ?_
    rintro e w3 ⟨rfl, hb⟩
    have A3 := Lib.hid (down (grow A2.out _) hb)
    have B3 := Lib.hid ((B2.out.old _).keep hb)
    have C3 := Lib.hid (Box.new hb)
    clear hb A2 B2
    obtain ⟨w4, hw4⟩ : ∃ w4 : World, w3.alloc (.cells #[.int .i64 a, .int .i64 b, .int .i64 c] 23) = w4 := ⟨_, rfl⟩
    have A4 : Hid (Below w.heap.size w w4) := by rw [← hw4]; exact grow A3.out _
    have B4 : Hid (Box w4 w.heap.size (.int .i64 y) (.int .i64 m) (.int .i64 d)) := by rw [← hw4]; exact B3.out.old _
    have C4 : Hid (Box w4 w2.heap.size (.int .i64 a) (.int .i64 b) (.int .i64 c)) := by rw [← hw4]; exact C3.out.old _
    have D4 : Hid (Box w4 w3.heap.size (.int .i64 a) (.int .i64 b) (.int .i64 c)) := by rw [← hw4]; exact Box.new (here _)
    have KT : Hid (∀ x : Kept w4, Lens x.wd) := fun x => lens_below ht.out (down A4.out x.ok)
    have KP : Hid (∀ x : Kept w4, Tab x.wd) := fun x => tab_below hp.out (down A4.out x.ok)
    have c0 : ∀ x : Kept w4, x.wd.cell? ⟨w.heap.size, 0, none⟩ = some (.int .i64 y) := fun x => (B4.out.keep x.ok).c0
    have c1 : ∀ x : Kept w4, x.wd.cell? ⟨w.heap.size, 1, none⟩ = some (.int .i64 m) := fun x => (B4.out.keep x.ok).c1
    have c2 : ∀ x : Kept w4, x.wd.cell? ⟨w.heap.size, 2, none⟩ = some (.int .i64 d) := fun x => (B4.out.keep x.ok).c2
    have d0 : ∀ x : Kept w4, x.wd.cell? ⟨w2.heap.size, 0, none⟩ = some (.int .i64 a) := fun x => (C4.out.keep x.ok).c0
    have d1 : ∀ x : Kept w4, x.wd.cell? ⟨w2.heap.size, 1, none⟩ = some (.int .i64 b) := fun x => (C4.out.keep x.ok).c1
    have d2 : ∀ x : Kept w4, x.wd.cell? ⟨w2.heap.size, 2, none⟩ = some (.int .i64 c) := fun x => (C4.out.keep x.ok).c2
    have e0 : ∀ x : Kept w4, x.wd.cell? ⟨w3.heap.size, 0, none⟩ = some (.int .i64 a) := fun x => (D4.out.keep x.ok).c0
    have e1 : ∀ x : Kept w4, x.wd.cell? ⟨w3.heap.size, 1, none⟩ = some (.int .i64 b) := fun x => (D4.out.keep x.ok).c1
    have e2 : ∀ x : Kept w4, x.wd.cell? ⟨w3.heap.size, 2, none⟩ = some (.int .i64 c) := fun x => (D4.out.keep x.ok).c2
    go_wp2
    clear hw4
    refine wp_region_kept (by kernel_rfl) (by kernel_rfl) ?_
    repeat (go_big_quiet_step (first
      | (go_at_call 35; exact kept_call _ (HT.out _ (KT.out _) (KP.out _)))
      | (go_at_call 36; exact kept_call _ (RT.out _))))
    refine wpQuiet_nil ?_
    intro _ hx
    obtain ⟨⟨w5, hb5⟩, hw⟩ := hx
    subst hw
    go_wp2
    go_ret
    exact ⟨rfl, down A4.out hb5⟩
end CivilTexts
end Go.Proofs.YtdhedkcbkchpgaaDoor
