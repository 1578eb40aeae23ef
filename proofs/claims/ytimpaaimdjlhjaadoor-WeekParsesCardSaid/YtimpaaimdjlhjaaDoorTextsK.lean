/- The walks of WeekTexts and WeekParses: the Go text returns true, at every input. -/
import Derived.Test.YtimpaaimdjlhjaaDoorAwakeW
import Derived.Test.YtimpaaimdjlhjaaDoorRefU
namespace Go.Proofs.YtimpaaimdjlhjaaDoor
open Go.RowKit
set_option linter.unusedVariables false

/-- Both return the same date for a text. -/
theorem both_parse (s : ByteArray) (hs : s.size ≤ maxLen) : ∃ a b c E : Int,
    (∀ w, Tab w → Ev w → Calls Tryd.prog 24 #[.string s] w fun e w' => e = .returned (.tuple #[.agg #[.int .i64 a, .int .i64 b, .int .i64 c], .int .i64 E]) ∧ Below w.heap.size w w') ∧
    (∀ w, Calls Tryd.prog 25 #[.string s] w fun e w' => e = .returned (.tuple #[.agg #[.int .i64 a, .int .i64 b, .int .i64 c], .int .i64 E]) ∧ Below w.heap.size w w') := by
  by_cases h : s.size = 10
  · by_cases o : okX (bX s.data.toList) = true
    · exact ⟨_, _, _, _, fun w hp hev => kparse_some s h o _ _ _ _ rfl rfl rfl rfl w hp hev, fun w => rparse_ten s h true _ _ _ _ o (fun _ => rfl) rfl rfl rfl w⟩
    · rw [Bool.not_eq_true] at o
      exact ⟨_, _, _, _, fun w hp hev => kparse_bad s h o w, fun w => rparse_ten s h false true _ _ _ o (fun q => by cases q) rfl rfl rfl w⟩
  · exact ⟨_, _, _, _, fun w hp hev => kparse_len s hs h w, fun w => rparse_len s hs h w⟩
/-- A text is read as a date whose text it is, or Parse returns an error. -/
theorem parse_fate (s : ByteArray) (hs : s.size ≤ maxLen) : (∃ E : Int, E ≠ 0 ∧
    ∀ w, Tab w → Ev w → Calls Tryd.prog 24 #[.string s] w fun e w' => e = .returned (.tuple #[.agg #[.int .i64 0, .int .i64 0, .int .i64 0], .int .i64 E]) ∧ Below w.heap.size w w') ∨
    (∃ a b c : Int, (∀ w, Tab w → Ev w → Calls Tryd.prog 24 #[.string s] w fun e w' => e = .returned (.tuple #[.agg #[.int .i64 a, .int .i64 b, .int .i64 c], .int .i64 0]) ∧ Below w.heap.size w w') ∧
      ∀ w, Tab w → Calls Tryd.prog 26 #[.agg #[.int .i64 a, .int .i64 b, .int .i64 c]] w fun e w' => e = .returned (.string s) ∧ Below w.heap.size w w') := by
  by_cases h : s.size = 10
  · by_cases o : okX (bX s.data.toList) = true
    · by_cases k : knwB (vY (bX s.data.toList)) (vW (bX s.data.toList)) (vD (bX s.data.toList)) = true
      · refine .inr ⟨_, _, _, fun w hp hev => kparse_some s h o true _ _ _ k rfl rfl rfl w hp hev, fun w hp => ?_⟩
        have q := ktext_yes _ _ _ k w hp
        rw [textW_forth (by rw [← h]; exact Array.length_toList) o k] at q
        exact q
      · rw [Bool.not_eq_true] at k
        exact .inl ⟨_, by decide, fun w hp hev => kparse_some s h o false _ _ _ k rfl rfl rfl w hp hev⟩
    · rw [Bool.not_eq_true] at o
      exact .inl ⟨_, by decide, fun w hp hev => kparse_bad s h o w⟩
  · exact .inl ⟨_, by decide, fun w hp hev => kparse_len s hs h w⟩
/-- The text of a date is read as the date. -/
theorem parse_text (Y W D : Int) (h : knwB Y W D = true) (w : World) (hp : Tab w) (hev : Ev w) :
    Calls Tryd.prog 24 #[.string ⟨(textW Y W D).toArray⟩] w fun e w' => e = .returned (.tuple #[.agg #[.int .i64 Y, .int .i64 W, .int .i64 D], .int .i64 0]) ∧ Below w.heap.size w w' := by
  obtain ⟨f, a, b, c⟩ := textW_back h
  have e : (⟨(textW Y W D).toArray⟩ : ByteArray).data.toList = textW Y W D := rfl
  exact kparse_some ⟨(textW Y W D).toArray⟩ (textW_length h) f true Y W D h a b c w hp hev
/-- What the walks of texts take from the listed variables. -/
def Listed (w : World) : Prop := Lens w ∧ Tab w ∧ Ev w
namespace WeekTexts
set_option maxRecDepth 100000 in
set_option maxHeartbeats 2000000 in
theorem walk (y m d : Int) (s : ByteArray) (hy : (Lit.int .i64 y).wf = true) (hm : (Lit.int .i64 m).wf = true) (hd : (Lit.int .i64 d).wf = true) (hs : s.size ≤ maxLen) (w : World) (hl : Listed w) :
    Calls Tryd.prog 6 #[.agg #[.int .i64 y, .int .i64 m, .int .i64 d], .string s] w fun e w' => e = .returned (.bool true) ∧ Below w.heap.size w w' := by
  obtain ⟨ht, hp, hev⟩ := hl
  replace hy := i64_wf hy
  replace hm := i64_wf hm
  replace hd := i64_wf hd
  have HT := fun w hp => ktext y m d hy hm hd w hp
  have RT := fun w => rtext y m d hy hm hd w
  obtain ⟨a, b, c, E, HX, RX⟩ := both_parse s hs
  unfold maxLen at hs
  generalize (⟨(textW y m d).toArray⟩ : ByteArray) = T at *
  replace HT := Lib.hid HT
  replace RT := Lib.hid RT
  replace HX := Lib.hid HX
  replace RX := Lib.hid RX
  replace ht := Lib.hid ht
  replace hp := Lib.hid hp
  replace hev := Lib.hid hev
  clear hy hm hd
  by_cases k : 100 < s.size
  · have k1 : decide ((100 : Int) < (s.size : Int)) = true := decide_eq_true (by omega)
    go_enter Tryd.func6, Tryd.ntmps6
    go_wp2_with fail
    refine (awake_all _ (lens_alloc ht.out _)).mono ?_
    rintro e w1 ⟨rfl, hb⟩
    have A1 := Lib.hid (down (grow (here w) _) hb)
    clear hb
    go_wp2
    go_ret
    exact ⟨rfl, A1.out⟩
  · have k1 : decide ((100 : Int) < (s.size : Int)) = false := decide_eq_false (by omega)
    go_enter Tryd.func6, Tryd.ntmps6
    go_wp2_with fail
    refine (awake_all _ (lens_alloc ht.out _)).mono ?_
    rintro e w1 ⟨rfl, hb⟩
    have A1 := Lib.hid (down (grow (here w) _) hb)
    have B1 := Lib.hid (Box.new hb)
    clear hb
    go_wp2_with fail
    refine (HX.out _ (tab_below hp.out A1.out) (ev_below hev.out A1.out)).mono ?_
    rintro e w2 ⟨rfl, hb⟩
    have A2 := Lib.hid (down A1.out hb)
    have B2 := Lib.hid (B1.out.keep hb)
    clear hb A1 B1
    go_wp2_with fail
    refine (RX.out _).mono ?_
    rintro e w3 ⟨rfl, hb⟩
    have A3 := Lib.hid (down (grow A2.out _) hb)
    have B3 := Lib.hid ((B2.out.old _).keep hb)
    have C3 := Lib.hid (Box.new hb)
    clear hb A2 B2
    obtain ⟨w4, hw4⟩ : ∃ w4 : World, w3.alloc (.cells #[.int .i64 a, .int .i64 b, .int .i64 c] 26) = w4 := ⟨_, rfl⟩
    have A4 : Hid (Below w.heap.size w w4) := by rw [← hw4]; exact grow A3.out _
    have B4 : Hid (Box w4 w.heap.size (.int .i64 y) (.int .i64 m) (.int .i64 d)) := by rw [← hw4]; exact B3.out.old _
    have C4 : Hid (Box w4 w2.heap.size (.int .i64 a) (.int .i64 b) (.int .i64 c)) := by rw [← hw4]; exact C3.out.old _
    have D4 : Hid (Box w4 w3.heap.size (.int .i64 a) (.int .i64 b) (.int .i64 c)) := by rw [← hw4]; exact Box.new (here _)
    have KP : Hid (∀ x : Kept w4, Tab x.wd) := fun x => tab_below hp.out (down A4.out x.ok)
    have c0 : ∀ x : Kept w4, x.wd.cell? ⟨w.heap.size, 0, none⟩ = some (.int .i64 y) := fun x => (B4.out.keep x.ok).c0
    have c1 : ∀ x : Kept w4, x.wd.cell? ⟨w.heap.size, 1, none⟩ = some (.int .i64 m) := fun x => (B4.out.keep x.ok).c1
    have c2 : ∀ x : Kept w4, x.wd.cell? ⟨w.heap.size, 2, none⟩ = some (.int .i64 d) := fun x => (B4.out.keep x.ok).c2
    have d0 : ∀ x : Kept w4, x.wd.cell? ⟨w2.heap.size, 0, none⟩ = some (.int .i64 a) := fun x => (C4.out.keep x.ok).c0
    have d1 : ∀ x : Kept w4, x.wd.cell? ⟨w2.heap.size, 1, none⟩ = some (.int .i64 b) := fun x => (C4.out.keep x.ok).c1
    have d2 : ∀ x : Kept w4, x.wd.cell? ⟨w2.heap.size, 2, none⟩ = some (.int .i64 c) := fun x => (C4.out.keep x.ok).c2
    have e0 : ∀ x : Kept w4, x.wd.cell? ⟨w3.heap.size, 0, none⟩ = some (.int .i64 a) := fun x => (D4.out.keep x.ok).c0
    have e1 : ∀ x : Kept w4, x.wd.cell? ⟨w3.heap.size, 1, none⟩ = some (.int .i64 b) := fun x => (D4.out.keep x.ok).c1
    have e2 : ∀ x : Kept w4, x.wd.cell? ⟨w3.heap.size, 2, none⟩ = some (.int .i64 c) := fun x => (D4.out.keep x.ok).c2
    go_wp2
    clear hw4
    refine wp_region_kept (by kernel_rfl) (by kernel_rfl) ?_
    repeat (go_big_quiet_step (first
      | (go_at_call 26; exact kept_call _ (HT.out _ (KP.out _)))
      | (go_at_call 27; exact kept_call _ (RT.out _))))
    refine wpQuiet_nil ?_
    intro _ hx
    obtain ⟨⟨w5, hb5⟩, hw⟩ := hx
    subst hw
    go_wp2
    go_ret
    exact ⟨rfl, down A4.out hb5⟩
end WeekTexts
namespace WeekParses
abbrev TextIs (a b c : Int) (T : ByteArray) : Prop := ∀ w, Tab w → Calls Tryd.prog 26 #[.agg #[.int .i64 a, .int .i64 b, .int .i64 c]] w fun e w' => e = .returned (.string T) ∧ Below w.heap.size w w'
abbrev ParseIs (s : ByteArray) (a b c E : Int) : Prop := ∀ w, Tab w → Ev w → Calls Tryd.prog 24 #[.string s] w fun e w' => e = .returned (.tuple #[.agg #[.int .i64 a, .int .i64 b, .int .i64 c], .int .i64 E]) ∧ Below w.heap.size w w'

set_option maxRecDepth 100000 in
set_option maxHeartbeats 2000000 in
theorem known_long (y m d : Int) (s : ByteArray) (hs : s.size ≤ maxLen) (T : ByteArray) (hT : T.size = 10) (HT : TextIs y m d T) (HP : ParseIs T y m d 0) (k : 100 < s.size) (w : World) (hl : Listed w) :
    Calls Tryd.prog 11 #[.agg #[.int .i64 y, .int .i64 m, .int .i64 d], .string s] w fun e w' => e = .returned (.bool true) ∧ Below w.heap.size w w' := by
  obtain ⟨ht, hp, hev⟩ := hl
  unfold maxLen at hs
  replace HT := Lib.hid HT
  replace ht := Lib.hid ht
  replace hp := Lib.hid hp
  replace hev := Lib.hid hev
  replace HP := Lib.hid HP
  have q1 : ((T.size : Int) != 10) = false := by simp; omega
  have q2 : (T.toList == []) = false := by
    rw [beq_eq_false_iff_ne, ByteArray.toList_eq]
    intro x
    have l : T.data.toList.length = T.size := Array.length_toList
    rw [x] at l; simp at l; omega
  have q3 : (T.toList != []) = true := by rw [bne, q2]; rfl
  have tz : T.size ≤ 10 := by omega
  have k1 : decide ((100 : Int) < (s.size : Int)) = true := decide_eq_true (by omega)
  go_enter Tryd.func11, Tryd.ntmps11
  go_wp2_with fail
  refine (awake_all _ (lens_alloc ht.out _)).mono ?_
  rintro e w1 ⟨rfl, hb⟩
  have A1 := Lib.hid (down (grow (here w) _) hb)
  have B1 := Lib.hid (Box.new hb)
  clear hb
  obtain ⟨c0, c1, c2, z⟩ := B1.out
  go_wp2_with fail
  refine (HT.out _ (tab_below hp.out A1.out)).mono ?_
  rintro e w2 ⟨rfl, hb⟩
  have A2 := Lib.hid (down A1.out hb)
  have B2 := Lib.hid (B1.out.keep hb)
  clear hb A1 B1 c0 c1 c2 z
  go_wp2_with fail
  refine (HP.out _ (tab_below hp.out A2.out) (ev_below hev.out A2.out)).mono ?_
  rintro e w3 ⟨rfl, hb⟩
  have A3 := Lib.hid (down A2.out hb)
  have B3 := Lib.hid (B2.out.keep hb)
  clear hb A2 B2
  obtain ⟨c0, c1, c2, z⟩ := B3.out
  go_wp2
  go_ret
  exact ⟨rfl, (grow A3.out _)⟩
set_option maxRecDepth 100000 in
set_option maxHeartbeats 2000000 in
theorem known_err (y m d : Int) (s : ByteArray) (hs : s.size ≤ maxLen) (T : ByteArray) (hT : T.size = 10) (HT : TextIs y m d T) (HP : ParseIs T y m d 0) (k : ¬ 100 < s.size) (E : Int) (hE : E ≠ 0) (HX : ParseIs s 0 0 0 E) (w : World) (hl : Listed w) :
    Calls Tryd.prog 11 #[.agg #[.int .i64 y, .int .i64 m, .int .i64 d], .string s] w fun e w' => e = .returned (.bool true) ∧ Below w.heap.size w w' := by
  obtain ⟨ht, hp, hev⟩ := hl
  unfold maxLen at hs
  replace HT := Lib.hid HT
  replace ht := Lib.hid ht
  replace hp := Lib.hid hp
  replace hev := Lib.hid hev
  replace HP := Lib.hid HP
  have q1 : ((T.size : Int) != 10) = false := by simp; omega
  have q2 : (T.toList == []) = false := by
    rw [beq_eq_false_iff_ne, ByteArray.toList_eq]
    intro x
    have l : T.data.toList.length = T.size := Array.length_toList
    rw [x] at l; simp at l; omega
  have q3 : (T.toList != []) = true := by rw [bne, q2]; rfl
  have tz : T.size ≤ 10 := by omega
  have k1 : decide ((100 : Int) < (s.size : Int)) = false := decide_eq_false (by omega)
  replace HX := Lib.hid HX
  have kE : (E != 0) = true := by simpa using hE
  clear hE
  go_enter Tryd.func11, Tryd.ntmps11
  go_wp2_with fail
  refine (awake_all _ (lens_alloc ht.out _)).mono ?_
  rintro e w1 ⟨rfl, hb⟩
  have A1 := Lib.hid (down (grow (here w) _) hb)
  have B1 := Lib.hid (Box.new hb)
  clear hb
  obtain ⟨c0, c1, c2, z⟩ := B1.out
  go_wp2_with fail
  refine (HT.out _ (tab_below hp.out A1.out)).mono ?_
  rintro e w2 ⟨rfl, hb⟩
  have A2 := Lib.hid (down A1.out hb)
  have B2 := Lib.hid (B1.out.keep hb)
  clear hb A1 B1 c0 c1 c2 z
  go_wp2_with fail
  refine (HP.out _ (tab_below hp.out A2.out) (ev_below hev.out A2.out)).mono ?_
  rintro e w3 ⟨rfl, hb⟩
  have A3 := Lib.hid (down A2.out hb)
  have B3 := Lib.hid (B2.out.keep hb)
  clear hb A2 B2
  obtain ⟨c0, c1, c2, z⟩ := B3.out
  go_wp2_with fail
  refine (HX.out _ (tab_below hp.out (grow A3.out _)) (ev_below hev.out (grow A3.out _))).mono ?_
  rintro e w4 ⟨rfl, hb⟩
  have A4 := Lib.hid (down (grow A3.out _) hb)
  clear hb
  go_wp2
  go_ret
  exact ⟨rfl, grow A4.out _⟩
set_option maxRecDepth 100000 in
set_option maxHeartbeats 2000000 in
theorem known_good (y m d : Int) (s : ByteArray) (hs : s.size ≤ maxLen) (T : ByteArray) (hT : T.size = 10) (HT : TextIs y m d T) (HP : ParseIs T y m d 0) (k : ¬ 100 < s.size) (a b c : Int) (HX : ParseIs s a b c 0) (HU : TextIs a b c s) (w : World) (hl : Listed w) :
    Calls Tryd.prog 11 #[.agg #[.int .i64 y, .int .i64 m, .int .i64 d], .string s] w fun e w' => e = .returned (.bool true) ∧ Below w.heap.size w w' := by
  obtain ⟨ht, hp, hev⟩ := hl
  unfold maxLen at hs
  replace HT := Lib.hid HT
  replace ht := Lib.hid ht
  replace hp := Lib.hid hp
  replace hev := Lib.hid hev
  replace HP := Lib.hid HP
  have q1 : ((T.size : Int) != 10) = false := by simp; omega
  have q2 : (T.toList == []) = false := by
    rw [beq_eq_false_iff_ne, ByteArray.toList_eq]
    intro x
    have l : T.data.toList.length = T.size := Array.length_toList
    rw [x] at l; simp at l; omega
  have q3 : (T.toList != []) = true := by rw [bne, q2]; rfl
  have tz : T.size ≤ 10 := by omega
  have k1 : decide ((100 : Int) < (s.size : Int)) = false := decide_eq_false (by omega)
  replace HX := Lib.hid HX
  replace HU := Lib.hid HU
  go_enter Tryd.func11, Tryd.ntmps11
  go_wp2_with fail
  refine (awake_all _ (lens_alloc ht.out _)).mono ?_
  rintro e w1 ⟨rfl, hb⟩
  have A1 := Lib.hid (down (grow (here w) _) hb)
  have B1 := Lib.hid (Box.new hb)
  clear hb
  obtain ⟨c0, c1, c2, z⟩ := B1.out
  go_wp2_with fail
  refine (HT.out _ (tab_below hp.out A1.out)).mono ?_
  rintro e w2 ⟨rfl, hb⟩
  have A2 := Lib.hid (down A1.out hb)
  have B2 := Lib.hid (B1.out.keep hb)
  clear hb A1 B1 c0 c1 c2 z
  go_wp2_with fail
  refine (HP.out _ (tab_below hp.out A2.out) (ev_below hev.out A2.out)).mono ?_
  rintro e w3 ⟨rfl, hb⟩
  have A3 := Lib.hid (down A2.out hb)
  have B3 := Lib.hid (B2.out.keep hb)
  clear hb A2 B2
  obtain ⟨c0, c1, c2, z⟩ := B3.out
  go_wp2_with fail
  refine (HX.out _ (tab_below hp.out (grow A3.out _)) (ev_below hev.out (grow A3.out _))).mono ?_
  rintro e w4 ⟨rfl, hb⟩
  have A4 := Lib.hid (down (grow A3.out _) hb)
  clear hb
  go_wp2_with fail
  refine (HU.out _ (tab_below hp.out (grow A4.out _))).mono ?_
  rintro e w5 ⟨rfl, hb⟩
  have A5 := Lib.hid (down (grow A4.out _) hb)
  clear hb
  go_wp2
  go_ret
  exact ⟨rfl, A5.out⟩
set_option maxRecDepth 100000 in
set_option maxHeartbeats 2000000 in
theorem other_long (y m d : Int) (s : ByteArray) (hs : s.size ≤ maxLen) (HT : TextIs y m d ⟨#[]⟩) (k : 100 < s.size) (w : World) (hl : Listed w) :
    Calls Tryd.prog 11 #[.agg #[.int .i64 y, .int .i64 m, .int .i64 d], .string s] w fun e w' => e = .returned (.bool true) ∧ Below w.heap.size w w' := by
  obtain ⟨ht, hp, hev⟩ := hl
  unfold maxLen at hs
  replace HT := Lib.hid HT
  replace ht := Lib.hid ht
  replace hp := Lib.hid hp
  replace hev := Lib.hid hev
  have k1 : decide ((100 : Int) < (s.size : Int)) = true := decide_eq_true (by omega)
  go_enter Tryd.func11, Tryd.ntmps11
  go_wp2_with fail
  refine (awake_all _ (lens_alloc ht.out _)).mono ?_
  rintro e w1 ⟨rfl, hb⟩
  have A1 := Lib.hid (down (grow (here w) _) hb)
  have B1 := Lib.hid (Box.new hb)
  clear hb
  obtain ⟨c0, c1, c2, z⟩ := B1.out
  go_wp2_with fail
  refine (HT.out _ (tab_below hp.out A1.out)).mono ?_
  rintro e w2 ⟨rfl, hb⟩
  have A2 := Lib.hid (down A1.out hb)
  have B2 := Lib.hid (B1.out.keep hb)
  clear hb A1 B1 c0 c1 c2 z
  go_wp2
  go_ret
  exact ⟨rfl, A2.out⟩
set_option maxRecDepth 100000 in
set_option maxHeartbeats 2000000 in
theorem other_err (y m d : Int) (s : ByteArray) (hs : s.size ≤ maxLen) (HT : TextIs y m d ⟨#[]⟩) (k : ¬ 100 < s.size) (E : Int) (hE : E ≠ 0) (HX : ParseIs s 0 0 0 E) (w : World) (hl : Listed w) :
    Calls Tryd.prog 11 #[.agg #[.int .i64 y, .int .i64 m, .int .i64 d], .string s] w fun e w' => e = .returned (.bool true) ∧ Below w.heap.size w w' := by
  obtain ⟨ht, hp, hev⟩ := hl
  unfold maxLen at hs
  replace HT := Lib.hid HT
  replace ht := Lib.hid ht
  replace hp := Lib.hid hp
  replace hev := Lib.hid hev
  have k1 : decide ((100 : Int) < (s.size : Int)) = false := decide_eq_false (by omega)
  replace HX := Lib.hid HX
  have kE : (E != 0) = true := by simpa using hE
  clear hE
  go_enter Tryd.func11, Tryd.ntmps11
  go_wp2_with fail
  refine (awake_all _ (lens_alloc ht.out _)).mono ?_
  rintro e w1 ⟨rfl, hb⟩
  have A1 := Lib.hid (down (grow (here w) _) hb)
  have B1 := Lib.hid (Box.new hb)
  clear hb
  obtain ⟨c0, c1, c2, z⟩ := B1.out
  go_wp2_with fail
  refine (HT.out _ (tab_below hp.out A1.out)).mono ?_
  rintro e w2 ⟨rfl, hb⟩
  have A2 := Lib.hid (down A1.out hb)
  have B2 := Lib.hid (B1.out.keep hb)
  clear hb A1 B1 c0 c1 c2 z
  go_wp2_with fail
  refine (HX.out _ (tab_below hp.out A2.out) (ev_below hev.out A2.out)).mono ?_
  rintro e w4 ⟨rfl, hb⟩
  have A4 := Lib.hid (down A2.out hb)
  clear hb
  go_wp2
  go_ret
  exact ⟨rfl, grow A4.out _⟩
set_option maxRecDepth 100000 in
set_option maxHeartbeats 2000000 in
theorem other_good (y m d : Int) (s : ByteArray) (hs : s.size ≤ maxLen) (HT : TextIs y m d ⟨#[]⟩) (k : ¬ 100 < s.size) (a b c : Int) (HX : ParseIs s a b c 0) (HU : TextIs a b c s) (w : World) (hl : Listed w) :
    Calls Tryd.prog 11 #[.agg #[.int .i64 y, .int .i64 m, .int .i64 d], .string s] w fun e w' => e = .returned (.bool true) ∧ Below w.heap.size w w' := by
  obtain ⟨ht, hp, hev⟩ := hl
  unfold maxLen at hs
  replace HT := Lib.hid HT
  replace ht := Lib.hid ht
  replace hp := Lib.hid hp
  replace hev := Lib.hid hev
  have k1 : decide ((100 : Int) < (s.size : Int)) = false := decide_eq_false (by omega)
  replace HX := Lib.hid HX
  replace HU := Lib.hid HU
  go_enter Tryd.func11, Tryd.ntmps11
  go_wp2_with fail
  refine (awake_all _ (lens_alloc ht.out _)).mono ?_
  rintro e w1 ⟨rfl, hb⟩
  have A1 := Lib.hid (down (grow (here w) _) hb)
  have B1 := Lib.hid (Box.new hb)
  clear hb
  obtain ⟨c0, c1, c2, z⟩ := B1.out
  go_wp2_with fail
  refine (HT.out _ (tab_below hp.out A1.out)).mono ?_
  rintro e w2 ⟨rfl, hb⟩
  have A2 := Lib.hid (down A1.out hb)
  have B2 := Lib.hid (B1.out.keep hb)
  clear hb A1 B1 c0 c1 c2 z
  go_wp2_with fail
  refine (HX.out _ (tab_below hp.out A2.out) (ev_below hev.out A2.out)).mono ?_
  rintro e w4 ⟨rfl, hb⟩
  have A4 := Lib.hid (down A2.out hb)
  clear hb
  go_wp2_with fail
  refine (HU.out _ (tab_below hp.out (grow A4.out _))).mono ?_
  rintro e w5 ⟨rfl, hb⟩
  have A5 := Lib.hid (down (grow A4.out _) hb)
  clear hb
  go_wp2
  go_ret
  exact ⟨rfl, A5.out⟩
theorem walk (y m d : Int) (s : ByteArray) (hy : (Lit.int .i64 y).wf = true) (hm : (Lit.int .i64 m).wf = true) (hd : (Lit.int .i64 d).wf = true) (hs : s.size ≤ maxLen) (w : World) (hl : Listed w) :
    Calls Tryd.prog 11 #[.agg #[.int .i64 y, .int .i64 m, .int .i64 d], .string s] w fun e w' => e = .returned (.bool true) ∧ Below w.heap.size w w' := by
  by_cases h : knwB y m d = true
  · have HT := fun w hp => ktext_yes y m d h w hp
    have HP := fun w hp hev => parse_text y m d h w hp hev
    have hT : (⟨(textW y m d).toArray⟩ : ByteArray).size = 10 := textW_length h
    by_cases k : 100 < s.size
    · exact known_long y m d s hs _ hT HT HP k w hl
    · rcases parse_fate s hs with ⟨E, hE, HX⟩ | ⟨a, b, c, HX, HU⟩
      · exact known_err y m d s hs _ hT HT HP k E hE HX w hl
      · exact known_good y m d s hs _ hT HT HP k a b c HX HU w hl
  · have HT := fun w (_ : Tab w) => ktext_no y m d (i64_wf hy) (i64_wf hm) (i64_wf hd) (by simpa using h) w
    by_cases k : 100 < s.size
    · exact other_long y m d s hs HT k w hl
    · rcases parse_fate s hs with ⟨E, hE, HX⟩ | ⟨a, b, c, HX, HU⟩
      · exact other_err y m d s hs HT k E hE HX w hl
      · exact other_good y m d s hs HT k a b c HX HU w hl
end WeekParses
end Go.Proofs.YtimpaaimdjlhjaaDoor
