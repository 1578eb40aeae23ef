/- Plain facts on texts of tables of leap seconds: lines of eleven bytes. No program is mentioned. -/
import Derived.Test.YtocimbiidloofaaGreatDoorLtMath

import Derived.Test.YtocimbiidloofaaGreatDoorLDt

import Derived.Test.YtocimbiidloofaaGreatDoorLDig

import Derived.WalkKit

namespace Go.Proofs.YtocimbiidloofaaGreatDoor

open Go.RowKit

set_option linter.unusedVariables false

/-- The text of a date; its day. -/
def isD (c : List UInt8) : Bool := formL c && vld (yearOf c) (monOf c) (dayOf c)
def dyOf (c : List UInt8) : Int := dayN (yearOf c) (monOf c) (dayOf c)
theorem isD_form {c : List UInt8} (h : isD c = true) : formL c = true ∧ vld (yearOf c) (monOf c) (dayOf c) = true := by unfold isD at h; rwa [Bool.and_eq_true] at h
theorem isD_len {c : List UInt8} (h : isD c = true) : c.length = 10 := (form_of (isD_form h).1).1
theorem isD_free {c : List UInt8} (h : isD c = true) {i : Nat} (hi : i < 10) : ¬ c.getD i 0 = 10 := by
  have q := (form_of (isD_form h).1).2 i hi
  intro e
  unfold formAt at q
  rw [e] at q
  split at q
  · exact absurd q (by decide)
  · exact absurd q (by decide)
theorem dyOf_bd {c : List UInt8} (h : isD c = true) : -719162 ≤ dyOf c ∧ dyOf c < 2932897 := day_range (isD_form h).2
theorem chunk_at (l : List UInt8) (a n i : Nat) (hi : i < n) : ((l.drop a).take n).getD i 0 = l.getD (a + i) 0 := by
  simp [List.getD_eq_getElem?_getD, List.getElem?_drop, hi]
/-- Line k is good. -/
def ltG (l : List UInt8) (k : Nat) : Bool := decide (11 * k + 10 < l.length) && (l.getD (11 * k + 10) 0 == 10) && isD ((l.drop (11 * k)).take 10)
theorem ltG_iff {l : List UInt8} {k : Nat} : ltG l k = true ↔ 11 * k + 10 < l.length ∧ l.getD (11 * k + 10) 0 = 10 ∧ isD ((l.drop (11 * k)).take 10) = true := by
  unfold ltG; simp only [Bool.and_eq_true, decide_eq_true_eq, beq_iff_eq, and_assoc]
def ltForm (l : List UInt8) : Bool := decide (l.length % 11 = 0) && (List.range (l.length / 11)).all (ltG l)
theorem ltForm_iff {l : List UInt8} : ltForm l = true ↔ l.length % 11 = 0 ∧ ∀ k, k < l.length / 11 → ltG l k = true := by
  unfold ltForm; simp [Bool.and_eq_true, List.all_eq_true]
/-- The first newline behind good lines ends a good line, or the text is none. -/
theorem lt_stop {l : List UInt8} {k i : Nat} (h : ltForm l = true) (h0 : 11 * k ≤ i) (hi : i < l.length) (free : ∀ j, 11 * k ≤ j → j < i → ¬ l.getD j 0 = 10) (nl : l.getD i 0 = 10) : i = 11 * k + 10 ∧ ltG l k = true := by
  obtain ⟨m, g⟩ := ltForm_iff.1 h
  have gk := g k (by omega)
  obtain ⟨a, b, c⟩ := ltG_iff.1 gk
  refine ⟨?_, gk⟩
  rcases Nat.lt_trichotomy i (11 * k + 10) with z | z | z
  · have q := isD_free c (i := i - 11 * k) (by omega)
    rw [chunk_at _ _ _ _ (by omega), show 11 * k + (i - 11 * k) = i by omega] at q
    exact absurd nl q
  · exact z
  · exact absurd b (free _ (by omega) z)
theorem lt_cut {l : List UInt8} {k i : Nat} (h : isD ((l.drop (11 * k)).take (i - 11 * k)) = true) (hi : i < l.length) (nl : l.getD i 0 = 10) : i = 11 * k + 10 ∧ ltG l k = true := by
  have q := isD_len h
  rw [List.length_take, List.length_drop] at q
  have e : i = 11 * k + 10 := by omega
  refine ⟨e, ltG_iff.2 ⟨by omega, by rw [← e]; exact nl, ?_⟩⟩
  rw [e, show 11 * k + 10 - 11 * k = 10 by omega] at h
  exact h
theorem lt_bad {l : List UInt8} {k i : Nat} (h0 : 11 * k ≤ i) (hi : i < l.length) (free : ∀ j, 11 * k ≤ j → j < i → ¬ l.getD j 0 = 10) (nl : l.getD i 0 = 10) (h : isD ((l.drop (11 * k)).take (i - 11 * k)) = false) : ltForm l = false := by
  rw [← Bool.not_eq_true]
  intro f
  obtain ⟨e, g⟩ := lt_stop f h0 hi free nl
  have q := (ltG_iff.1 g).2.2
  rw [e, show 11 * k + 10 - 11 * k = 10 by omega, q] at h
  cases h
theorem lt_tail {l : List UInt8} {k : Nat} (hk : 11 * k < l.length) (free : ∀ j, 11 * k ≤ j → j < l.length → ¬ l.getD j 0 = 10) : ltForm l = false := by
  rw [← Bool.not_eq_true]
  intro f
  obtain ⟨m, g⟩ := ltForm_iff.1 f
  obtain ⟨a, b, _⟩ := ltG_iff.1 (g k (by omega))
  exact free _ (by omega) a b
theorem lt_end {l : List UInt8} {k : Nat} (e : 11 * k = l.length) (g : ∀ j, j < k → ltG l j = true) : ltForm l = true ∧ l.length / 11 = k := by
  have d : l.length / 11 = k := by omega
  exact ⟨ltForm_iff.2 ⟨by omega, fun j hj => g j (by omega)⟩, d⟩
/-- The steps that lines say. -/
def ltRow (l : List UInt8) (k : Nat) : Int × Int := ((dyOf ((l.drop (11 * k)).take 10) + 1) * 86400, k + 1)
def ltRows (l : List UInt8) (k : Nat) : List (Int × Int) := (List.range k).map (ltRow l)
theorem ltRows_len (l : List UInt8) (k : Nat) : (ltRows l k).length = k := by unfold ltRows; simp
theorem ltRows_succ (l : List UInt8) (k : Nat) : ltRows l (k + 1) = ltRows l k ++ [ltRow l k] := by unfold ltRows; rw [List.range_succ, List.map_append]; rfl
theorem ltRows_at (l : List UInt8) {k j : Nat} (h : j < k) : (ltRows l k).getD j (0, 0) = ltRow l j := by
  unfold ltRows; simp [List.getD_eq_getElem?_getD, h]
theorem ltRow_bd {l : List UInt8} {k : Nat} (h : ltG l k = true) : -62135510400 ≤ (ltRow l k).1 ∧ (ltRow l k).1 ≤ 253402300800 := by
  have := dyOf_bd (ltG_iff.1 h).2.2
  show -62135510400 ≤ (dyOf _ + 1) * 86400 ∧ (dyOf _ + 1) * 86400 ≤ _
  omega
/-- What Parse answers. -/
def lpE (l : List UInt8) : Int := if 2000 < l.length then 5 else if ltForm l then (if ltB (ltRows l (l.length / 11)) then 0 else 1) else 3
def lpL (l : List UInt8) : List (Int × Int) := if lpE l = 0 then ltRows l (l.length / 11) else []
theorem lp_full {l : List UInt8} (h : 2000 < l.length) : lpE l = 5 ∧ lpL l = [] := by
  have e : lpE l = 5 := by unfold lpE; rw [if_pos h]
  exact ⟨e, by unfold lpL; rw [e]; rfl⟩
theorem lp_form {l : List UInt8} (h : ¬ 2000 < l.length) (f : ltForm l = false) : lpE l = 3 ∧ lpL l = [] := by
  have e : lpE l = 3 := by unfold lpE; rw [if_neg h, f]; rfl
  exact ⟨e, by unfold lpL; rw [e]; rfl⟩
theorem lp_arg {l : List UInt8} (h : ¬ 2000 < l.length) (f : ltForm l = true) (b : ltB (ltRows l (l.length / 11)) = false) : lpE l = 1 ∧ lpL l = [] := by
  have e : lpE l = 1 := by unfold lpE; rw [if_neg h, f, b]; rfl
  exact ⟨e, by unfold lpL; rw [e]; rfl⟩
theorem lp_ok {l : List UInt8} (h : ¬ 2000 < l.length) (f : ltForm l = true) (b : ltB (ltRows l (l.length / 11)) = true) : lpE l = 0 ∧ lpL l = ltRows l (l.length / 11) := by
  have e : lpE l = 0 := by unfold lpE; rw [if_neg h, f, b]; rfl
  exact ⟨e, by unfold lpL; rw [e]; rfl⟩
theorem lpL_ok (l : List UInt8) : ltB (lpL l) = true := by
  unfold lpL
  split
  · rename_i e
    unfold lpE at e
    split at e
    · cases e
    · split at e
      · split at e
        · rename_i b; exact b
        · cases e
      · cases e
  · exact ltB_nil
/-- The text of a table. -/
def ltDay (ps : List (Int × Int)) (i : Nat) : Int := ltA ps i / 86400 - 1
def ltLine (ps : List (Int × Int)) (i : Nat) : List UInt8 := textD (dtY (ltDay ps i)) (dtM (ltDay ps i)) (dtD (ltDay ps i)) ++ [10]
def ltX (ps : List (Int × Int)) : Nat → List UInt8
  | 0 => []
  | k + 1 => ltX ps k ++ ltLine ps k
theorem ltDay_bd {ps : List (Int × Int)} {i : Nat} (h : ltS ps i = true) : -719162 ≤ ltDay ps i ∧ ltDay ps i < 2932896 ∧ (ltDay ps i + 1) * 86400 = ltA ps i := by
  have := ltS_iff.1 h
  unfold ltDay; omega
theorem ltLine_is {ps : List (Int × Int)} {i : Nat} (h : ltS ps i = true) : ∃ c, ltLine ps i = c ++ [10] ∧ isD c = true ∧ dyOf c = ltDay ps i := by
  have b := ltDay_bd h
  have d := dt_of b.1 (by omega)
  have t := text_back d.1
  refine ⟨_, rfl, ?_, ?_⟩
  · unfold isD; rw [t.1, t.2.1, t.2.2.1, t.2.2.2, d.1]; rfl
  · unfold dyOf; rw [t.2.1, t.2.2.1, t.2.2.2, d.2]
theorem ltX_len {ps : List (Int × Int)} {n : Nat} (h : ltUpto ps n) : ∀ k, k ≤ n → (ltX ps k).length = 11 * k := by
  intro k
  induction k with
  | zero => intro _; rfl
  | succ k ih =>
    intro hk
    obtain ⟨c, e, d, _⟩ := ltLine_is (h k (by omega))
    show (ltX ps k ++ ltLine ps k).length = _
    rw [List.length_append, ih (by omega), e, List.length_append, isD_len d, List.length_singleton]; omega
theorem ltX_more {ps : List (Int × Int)} (j : Nat) : ∀ d, ∃ r, ltX ps (j + d) = ltX ps j ++ r := by
  intro d
  induction d with
  | zero => exact ⟨[], by simp⟩
  | succ d ih =>
    obtain ⟨r, e⟩ := ih
    exact ⟨r ++ ltLine ps (j + d), by rw [← Nat.add_assoc]; show ltX ps (j + d) ++ ltLine ps (j + d) = _; rw [e, List.append_assoc]⟩
theorem ltX_good {ps : List (Int × Int)} {n : Nat} (h : ltUpto ps n) {j : Nat} (hj : j < n) : ltG (ltX ps n) j = true ∧ dyOf (((ltX ps n).drop (11 * j)).take 10) = ltDay ps j := by
  obtain ⟨c, e, d, y⟩ := ltLine_is (h j hj)
  obtain ⟨r, m⟩ := ltX_more (ps := ps) (j + 1) (n - (j + 1))
  rw [show j + 1 + (n - (j + 1)) = n by omega] at m
  have m2 : ltX ps n = ltX ps j ++ (c ++ (10 :: r)) := by rw [m]; show ltX ps j ++ ltLine ps j ++ r = _; rw [e]; simp
  have lj := ltX_len h j (by omega)
  have ln := ltX_len h n (Nat.le_refl _)
  have ck : ((ltX ps n).drop (11 * j)).take 10 = c := by
    rw [m2, List.drop_append_of_le_length (by omega), List.drop_of_length_le (by omega), List.nil_append, List.take_append_of_le_length (by rw [isD_len d]; omega), List.take_of_length_le (by rw [isD_len d]; omega)]
  refine ⟨ltG_iff.2 ⟨by omega, ?_, by rw [ck]; exact d⟩, by rw [ck]; exact y⟩
  rw [m2]
  have := isD_len d
  simp [List.getD_eq_getElem?_getD, lj, this]
/-- The text is read back. -/
theorem ltX_back {ps : List (Int × Int)} (h : ltB ps = true) : lpE (ltX ps ps.length) = 0 ∧ lpL (ltX ps ps.length) = ps := by
  obtain ⟨l, u⟩ := ltB_iff.1 h
  have ln := ltX_len u ps.length (Nat.le_refl _)
  have f := lt_end (l := ltX ps ps.length) ln.symm (fun j hj => (ltX_good u hj).1)
  have r : ltRows (ltX ps ps.length) ps.length = ps := by
    refine List.ext_getElem (ltRows_len _ _) fun j h1 h2 => ?_
    have a := ltRows_at (ltX ps ps.length) (k := ps.length) (j := j) h2
    have g := (ltX_good u h2).2
    have b := ltDay_bd (u j h2)
    have t := (ltS_iff.1 (u j h2)).2.2.2.1
    have e1 : (ltRows (ltX ps ps.length) ps.length).getD j (0, 0) = (ltRows (ltX ps ps.length) ps.length)[j] := by simp [List.getD_eq_getElem?_getD, h1]
    have e2 : ps.getD j (0, 0) = ps[j] := by simp [List.getD_eq_getElem?_getD, h2]
    rw [← e1, a, ← e2]
    show ((dyOf _ + 1) * 86400, ((j : Int) + 1)) = _
    rw [g, b.2.2, ← t]; rfl
  have nn : ¬ 2000 < (ltX ps ps.length).length := by omega
  have q := lp_ok nn f.1 (by rw [f.2, r]; exact h)
  rw [f.2, r] at q
  exact q
end Go.Proofs.YtocimbiidloofaaGreatDoor
