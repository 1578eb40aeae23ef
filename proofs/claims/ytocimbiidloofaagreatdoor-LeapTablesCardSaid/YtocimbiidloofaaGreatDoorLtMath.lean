/- Plain facts on tables of leap seconds: steps in order, totals, atomic times, minutes. No program is mentioned. -/
import Derived.Test.YtocimbiidloofaaGreatDoorLCal

import Derived.WalkKit

namespace Go.Proofs.YtocimbiidloofaaGreatDoor

open Go.RowKit

set_option linter.unusedVariables false

/-- The instant and the total of a step. -/
def ltA (ps : List (Int × Int)) (i : Nat) : Int := (ps.getD i (0, 0)).1
def ltT (ps : List (Int × Int)) (i : Nat) : Int := (ps.getD i (0, 0)).2
/-- Step i is as it should be. -/
def ltS (ps : List (Int × Int)) (i : Nat) : Bool := decide (-62135596800 < ltA ps i ∧ ltA ps i < 253402300800 ∧ ltA ps i % 86400 = 0 ∧ ltT ps i = i + 1 ∧ (i = 0 ∨ ltA ps (i - 1) < ltA ps i))
theorem ltS_iff {ps : List (Int × Int)} {i : Nat} : ltS ps i = true ↔ -62135596800 < ltA ps i ∧ ltA ps i < 253402300800 ∧ ltA ps i % 86400 = 0 ∧ ltT ps i = i + 1 ∧ (i = 0 ∨ ltA ps (i - 1) < ltA ps i) := by unfold ltS; exact decide_eq_true_iff
def ltUpto (ps : List (Int × Int)) (k : Nat) : Prop := ∀ i, i < k → ltS ps i = true
/-- Whether a table is valid. -/
def ltB (ps : List (Int × Int)) : Bool := decide (ps.length ≤ 100) && (List.range ps.length).all (ltS ps)
theorem ltB_iff {ps : List (Int × Int)} : ltB ps = true ↔ ps.length ≤ 100 ∧ ltUpto ps ps.length := by
  unfold ltB ltUpto; simp [Bool.and_eq_true, List.all_eq_true]
theorem ltB_no {ps : List (Int × Int)} {i : Nat} (hi : i < ps.length) (h : ltS ps i = false) : ltB ps = false := by
  rw [← Bool.not_eq_true, ltB_iff]; intro ⟨_, q⟩
  rw [q i hi] at h; cases h
theorem ltB_long {ps : List (Int × Int)} (h : 100 < ps.length) : ltB ps = false := by
  rw [← Bool.not_eq_true, ltB_iff]; omega
theorem lt_mono {ps : List (Int × Int)} {n : Nat} (h : ltUpto ps n) : ∀ (d i : Nat), i + d < n → ltA ps i + d ≤ ltA ps (i + d) := by
  intro d
  induction d with
  | zero => intro i _; simp
  | succ d ih =>
    intro i hi
    have a := ih i (by omega)
    have b := ltS_iff.1 (h (i + (d + 1)) hi)
    rw [show i + (d + 1) - 1 = i + d by omega] at b
    omega
theorem lt_less {ps : List (Int × Int)} {n : Nat} (h : ltUpto ps n) {i j : Nat} (hi : i < j) (hj : j < n) : ltA ps i < ltA ps j := by
  have := lt_mono h (j - i) i (by omega)
  rw [show i + (j - i) = j by omega] at this; omega
/-- How many of the first steps fit. -/
def cntP (p : Nat → Bool) : Nat → Nat
  | 0 => 0
  | k + 1 => cntP p k + (if p k then 1 else 0)
theorem cntP_yes {p : Nat → Bool} {k : Nat} (h : p k = true) : cntP p (k + 1) = cntP p k + 1 := by show cntP p k + (if p k then 1 else 0) = _; rw [if_pos h]
theorem cntP_no {p : Nat → Bool} {k : Nat} (h : p k = false) : cntP p (k + 1) = cntP p k := by show cntP p k + (if p k then 1 else 0) = _; rw [if_neg (by rw [h]; simp)]; rfl
theorem cntP_le (p : Nat → Bool) (k : Nat) : cntP p k ≤ k := by
  induction k with
  | zero => exact Nat.le_refl _
  | succ k ih =>
    cases h : p k
    · rw [cntP_no h]; omega
    · rw [cntP_yes h]; omega
/-- Where those that fit come first, their number says which do. -/
theorem cntP_cut {p : Nat → Bool} {n K : Nat} (hK : K ≤ n) (h0 : ∀ i, i < K → p i = true) (h1 : ∀ i, K ≤ i → i < n → p i = false) : cntP p n = K := by
  have a : ∀ k, k ≤ K → cntP p k = k := by
    intro k
    induction k with
    | zero => intro _; rfl
    | succ k ih => intro hk; rw [cntP_yes (h0 k (by omega)), ih (by omega)]
  have b : ∀ d, K + d ≤ n → cntP p (K + d) = K := by
    intro d
    induction d with
    | zero => intro _; exact a K (Nat.le_refl _)
    | succ d ih => intro hd; rw [← Nat.add_assoc, cntP_no (h1 (K + d) (by omega) (by omega)), ih (by omega)]
  have := b (n - K) (by omega)
  rwa [show K + (n - K) = n by omega] at this
theorem cntP_down {p : Nat → Bool} {n : Nat} (h : ∀ i j, i < j → j < n → p j = true → p i = true) : (∀ i, i < cntP p n → p i = true) ∧ ∀ i, cntP p n ≤ i → i < n → p i = false := by
  induction n with
  | zero => exact ⟨fun i hi => absurd hi (Nat.not_lt_zero _), fun i _ hi => absurd hi (Nat.not_lt_zero _)⟩
  | succ n ih =>
    obtain ⟨a, b⟩ := ih (fun i j hi hj => h i j hi (by omega))
    have le := cntP_le p n
    cases e : p n
    · rw [cntP_no e]
      refine ⟨a, fun i h0 h1 => ?_⟩
      rcases Nat.lt_or_ge i n with z | z
      · exact b i h0 z
      · obtain rfl : i = n := by omega
        exact e
    · have all : cntP p n = n := by
        rcases Nat.lt_or_ge (cntP p n) n with z | z
        · have q := b (cntP p n) (Nat.le_refl _) z
          rw [h _ n z (by omega) e] at q; cases q
        · omega
      rw [cntP_yes e, all]
      refine ⟨fun i hi => ?_, fun i h0 h1 => by omega⟩
      rcases Nat.lt_or_ge i n with z | z
      · exact h i n z (by omega) e
      · obtain rfl : i = n := by omega
        exact e
/-- The total at an instant. -/
def ltN (ps : List (Int × Int)) (t : Int) : Nat := cntP (fun i => decide (ltA ps i ≤ t)) ps.length
/-- How many steps begin up to an atomic time, their inserted second with them. -/
def ltK (ps : List (Int × Int)) (a : Int) : Nat := cntP (fun i => decide (ltA ps i + i ≤ a)) ps.length
theorem ltN_le (ps : List (Int × Int)) (t : Int) : ltN ps t ≤ ps.length := cntP_le _ _
theorem ltK_le (ps : List (Int × Int)) (t : Int) : ltK ps t ≤ ps.length := cntP_le _ _
theorem ltN_at {ps : List (Int × Int)} (h : ltB ps = true) (t : Int) : (∀ i, i < ltN ps t → ltA ps i ≤ t) ∧ ∀ i, ltN ps t ≤ i → i < ps.length → t < ltA ps i := by
  obtain ⟨_, u⟩ := ltB_iff.1 h
  have q := cntP_down (p := fun i => decide (ltA ps i ≤ t)) (n := ps.length) (fun i j hi hj e => by
    have := lt_less u hi hj
    simp only [decide_eq_true_eq] at *; omega)
  refine ⟨fun i hi => by simpa using q.1 i hi, fun i h0 h1 => by have := q.2 i h0 h1; simp only [decide_eq_false_iff_not] at this; omega⟩
theorem ltN_is {ps : List (Int × Int)} {t : Int} {K : Nat} (hK : K ≤ ps.length) (h0 : ∀ i, i < K → ltA ps i ≤ t) (h1 : ∀ i, K ≤ i → i < ps.length → t < ltA ps i) : ltN ps t = K :=
  cntP_cut hK (fun i hi => decide_eq_true (h0 i hi)) (fun i a b => decide_eq_false (by have := h1 i a b; omega))
theorem ltK_at {ps : List (Int × Int)} (h : ltB ps = true) (t : Int) : (∀ i, i < ltK ps t → ltA ps i + i ≤ t) ∧ ∀ i, ltK ps t ≤ i → i < ps.length → t < ltA ps i + i := by
  obtain ⟨_, u⟩ := ltB_iff.1 h
  have q := cntP_down (p := fun i => decide (ltA ps i + i ≤ t)) (n := ps.length) (fun i j hi hj e => by
    have := lt_less u hi hj
    simp only [decide_eq_true_eq] at *; omega)
  refine ⟨fun i hi => by simpa using q.1 i hi, fun i h0 h1 => by have := q.2 i h0 h1; simp only [decide_eq_false_iff_not] at this; omega⟩
theorem ltK_is {ps : List (Int × Int)} {t : Int} {K : Nat} (hK : K ≤ ps.length) (h0 : ∀ i, i < K → ltA ps i + i ≤ t) (h1 : ∀ i, K ≤ i → i < ps.length → t < ltA ps i + i) : ltK ps t = K :=
  cntP_cut hK (fun i hi => decide_eq_true (h0 i hi)) (fun i a b => decide_eq_false (by have := h1 i a b; omega))
theorem ltN_mono {ps : List (Int × Int)} (h : ltB ps = true) {a b : Int} (hab : a ≤ b) : ltN ps a ≤ ltN ps b := by
  have x := ltN_at h a
  have y := ltN_at h b
  have le := ltN_le ps a
  rcases Nat.lt_or_ge (ltN ps b) (ltN ps a) with z | z
  · have p := x.1 _ z
    have q := y.2 _ (Nat.le_refl _) (by omega)
    omega
  · exact z
/-- Instants; atomic times. -/
def inB (t : Int) : Bool := decide (-62135596800 ≤ t ∧ t < 253402300800)
theorem inB_iff {t : Int} : inB t = true ↔ -62135596800 ≤ t ∧ t < 253402300800 := by unfold inB; exact decide_eq_true_iff
theorem inB_eq {t : Int} : inB t = (decide (-62135596800 ≤ t) && decide (t < 253402300800)) := by unfold inB; simp
def acB (ps : List (Int × Int)) (a : Int) : Bool := decide (-62135596800 ≤ a ∧ a < 253402300800 + ps.length)
theorem acB_iff {ps : List (Int × Int)} {a : Int} : acB ps a = true ↔ -62135596800 ≤ a ∧ a < 253402300800 + ps.length := by unfold acB; exact decide_eq_true_iff
/-- The atomic time of an instant. -/
def ltW (ps : List (Int × Int)) (t : Int) : Int := t + ltN ps t
/-- Whether an atomic time is that of an inserted second; its instant. -/
def ltI (ps : List (Int × Int)) (a : Int) : Bool := decide (0 < ltK ps a ∧ ltA ps (ltK ps a - 1) + ((ltK ps a - 1 : Nat) : Int) = a)
def ltU (ps : List (Int × Int)) (a : Int) : Int := if ltI ps a then ltA ps (ltK ps a - 1) else a - ltK ps a
theorem ltI_iff {ps : List (Int × Int)} {a : Int} : ltI ps a = true ↔ 0 < ltK ps a ∧ ltA ps (ltK ps a - 1) + ((ltK ps a - 1 : Nat) : Int) = a := by unfold ltI; exact decide_eq_true_iff
theorem ltW_bd {ps : List (Int × Int)} (h : ltB ps = true) {t : Int} (ht : inB t = true) : acB ps (ltW ps t) = true ∧ -62135596800 ≤ ltW ps t ∧ ltW ps t < 253402300900 := by
  rw [acB_iff]; rw [inB_iff] at ht
  have := ltN_le ps t
  have := (ltB_iff.1 h).1
  unfold ltW; omega
/-- The instant of its atomic time. -/
theorem lt_there {ps : List (Int × Int)} (h : ltB ps = true) (t : Int) : ltI ps (ltW ps t) = false ∧ ltU ps (ltW ps t) = t := by
  have x := ltN_at h t
  have le := ltN_le ps t
  obtain ⟨_, u⟩ := ltB_iff.1 h
  have k : ltK ps (ltW ps t) = ltN ps t := by
    refine ltK_is le (fun i hi => ?_) (fun i h0 h1 => ?_)
    · have := x.1 i hi; unfold ltW; omega
    · have := x.2 i h0 h1; unfold ltW; omega
  have i : ltI ps (ltW ps t) = false := by
    rw [← Bool.not_eq_true, ltI_iff, k]
    rintro ⟨p, q⟩
    have := x.1 (ltN ps t - 1) (by omega)
    unfold ltW at q; omega
  refine ⟨i, ?_⟩
  unfold ltU; rw [i, k]; unfold ltW; simp
theorem ltU_yes {ps : List (Int × Int)} {a : Int} (h : ltI ps a = true) : ltU ps a = ltA ps (ltK ps a - 1) := by unfold ltU; rw [if_pos h]
theorem ltU_no {ps : List (Int × Int)} {a : Int} (h : ltI ps a = false) : ltU ps a = a - ltK ps a := by unfold ltU; rw [h]; rfl
/-- The atomic time of its instant. -/
theorem lt_back {ps : List (Int × Int)} (h : ltB ps = true) {a : Int} (ha : acB ps a = true) : inB (ltU ps a) = true ∧ (ltI ps a = true → ltW ps (ltU ps a) = a + 1) ∧ (ltI ps a = false → ltW ps (ltU ps a) = a) := by
  have x := ltK_at h a
  have le := ltK_le ps a
  obtain ⟨_, u⟩ := ltB_iff.1 h
  rw [acB_iff] at ha
  cases e : ltI ps a
  · have nn : ∀ i, i < ltK ps a → ltA ps i ≤ a - ltK ps a := fun i hi => by
      have p := x.1 (ltK ps a - 1) (by omega)
      have ne : ¬ ltA ps (ltK ps a - 1) + ((ltK ps a - 1 : Nat) : Int) = a := fun q => by
        rw [ltI_iff.2 ⟨by omega, q⟩] at e; cases e
      have m : ltA ps i ≤ ltA ps (ltK ps a - 1) := by
        rcases Nat.lt_or_ge i (ltK ps a - 1) with z | z
        · have := lt_less u z (by omega); omega
        · obtain rfl : i = ltK ps a - 1 := by omega
          exact Int.le_refl _
      omega
    have mm : ∀ i, ltK ps a ≤ i → i < ps.length → a - ltK ps a < ltA ps i := fun i h0 h1 => by
      have p := x.2 (ltK ps a) (Nat.le_refl _) (by omega)
      have m : ltA ps (ltK ps a) ≤ ltA ps i := by
        rcases Nat.lt_or_ge (ltK ps a) i with z | z
        · have := lt_less u z h1; omega
        · obtain rfl : i = ltK ps a := by omega
          exact Int.le_refl _
      omega
    rw [ltU_no e]
    refine ⟨?_, fun q => (by cases q), fun _ => ?_⟩
    · rw [inB_iff]
      constructor
      · rcases Nat.eq_zero_or_pos (ltK ps a) with z | z
        · omega
        · have p := nn (ltK ps a - 1) (by omega)
          have q := ltS_iff.1 (u (ltK ps a - 1) (by omega))
          omega
      · rcases Nat.lt_or_ge (ltK ps a) ps.length with z | z
        · have p := mm _ (Nat.le_refl _) z
          have q := ltS_iff.1 (u _ z)
          omega
        · omega
    · unfold ltW; rw [ltN_is le nn mm]; omega
  · obtain ⟨k0, k1⟩ := ltI_iff.1 e
    rw [ltU_yes e]
    have q := ltS_iff.1 (u (ltK ps a - 1) (by omega))
    refine ⟨inB_iff.2 (by omega), fun _ => ?_, fun z => (by cases z)⟩
    have n : ltN ps (ltA ps (ltK ps a - 1)) = ltK ps a := by
      refine ltN_is le (fun i hi => ?_) (fun i h0 h1 => ?_)
      · rcases Nat.lt_or_ge i (ltK ps a - 1) with z | z
        · have := lt_less u z (by omega); omega
        · obtain rfl : i = ltK ps a - 1 := by omega
          exact Int.le_refl _
      · exact lt_less u (by omega) h1
    unfold ltW; rw [n]; omega
/-- Whether a step is at an instant. -/
def ltH (ps : List (Int × Int)) (x : Int) : Bool := (List.range ps.length).any fun i => decide (ltA ps i = x)
theorem ltH_iff {ps : List (Int × Int)} {x : Int} : ltH ps x = true ↔ ∃ i, i < ps.length ∧ ltA ps i = x := by
  unfold ltH; simp [List.any_eq_true]
theorem ltH_no {ps : List (Int × Int)} {x : Int} (h : ltH ps x = false) : ∀ i, i < ps.length → ¬ ltA ps i = x := fun i hi e => by
  rw [ltH_iff.2 ⟨i, hi, e⟩] at h; cases h
/-- Between two times that no step parts but one at the end. -/
theorem ltN_gap {ps : List (Int × Int)} (h : ltB ps = true) {a b : Int} (hab : a < b) (only : ∀ i, i < ps.length → a < ltA ps i → ltA ps i ≤ b → ltA ps i = b) : ltN ps b = ltN ps a + (if ltH ps b then 1 else 0) := by
  have x := ltN_at h a
  have y := ltN_at h b
  have lea := ltN_le ps a
  have leb := ltN_le ps b
  have mono := ltN_mono h (show a ≤ b by omega)
  obtain ⟨_, u⟩ := ltB_iff.1 h
  cases e : ltH ps b
  · have no := ltH_no e
    have : ltN ps b = ltN ps a := by
      rcases Nat.lt_or_ge (ltN ps a) (ltN ps b) with z | z
      · have p := y.1 _ z
        have q := x.2 _ (Nat.le_refl _) (by omega)
        exact absurd (only _ (by omega) q p) (no _ (by omega))
      · omega
    rw [this]; rfl
  · obtain ⟨j, j0, j1⟩ := ltH_iff.1 e
    have ja : ¬ j < ltN ps a := fun z => by have := x.1 j z; omega
    have jb : j < ltN ps b := by
      rcases Nat.lt_or_ge j (ltN ps b) with z | z
      · exact z
      · have := y.2 j z j0; omega
    have top : ltN ps b ≤ ltN ps a + 1 := by
      rcases Nat.lt_or_ge (ltN ps a + 1) (ltN ps b) with z | z
      · have p := only (ltN ps a) (by omega) (x.2 _ (Nat.le_refl _) (by omega)) (y.1 _ (by omega))
        have q := only (ltN ps a + 1) (by omega) (x.2 _ (by omega) (by omega)) (y.1 _ z)
        have := lt_less u (show ltN ps a < ltN ps a + 1 by omega) (by omega)
        omega
      · exact z
    rw [if_pos rfl]; omega
/-- The beginning of a minute. -/
def ltF (t : Int) : Int := t - (t + 62135596800) % 60
theorem ltF_bd {t : Int} (h : inB t = true) : -62135596800 ≤ ltF t ∧ ltF t ≤ t ∧ t < ltF t + 60 ∧ ltF t + 60 ≤ 253402300800 ∧ ltF t % 60 = 0 := by
  rw [inB_iff] at h
  unfold ltF; omega
theorem lt_minute {ps : List (Int × Int)} (h : ltB ps = true) {t : Int} (ht : inB t = true) : ltN ps (ltF t + 60) = ltN ps (ltF t) + (if ltH ps (ltF t + 60) then 1 else 0) := by
  have f := ltF_bd ht
  obtain ⟨_, u⟩ := ltB_iff.1 h
  refine ltN_gap h (by omega) fun i hi h0 h1 => ?_
  have q := (ltS_iff.1 (u i hi)).2.2.1
  generalize ltA ps i = x at *
  generalize ltF t = y at *
  omega
theorem lt_day {ps : List (Int × Int)} (h : ltB ps = true) (d : Int) : ltN ps (86400 * d + 86400) = ltN ps (86400 * d) + (if ltH ps (86400 * d + 86400) then 1 else 0) := by
  obtain ⟨_, u⟩ := ltB_iff.1 h
  refine ltN_gap h (by omega) fun i hi h0 h1 => ?_
  have q := (ltS_iff.1 (u i hi)).2.2.1
  generalize ltA ps i = x at *
  omega
theorem lt_nil (t : Int) : ltN [] t = 0 := rfl
theorem ltB_nil : ltB [] = true := by decide
end Go.Proofs.YtocimbiidloofaaGreatDoor
