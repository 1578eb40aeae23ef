/- Plain facts on texts of moments. No program is mentioned. -/
import Derived.Test.YtehbegjocdahmaaGreatDoorLDig

import Derived.Test.YtehbegjocdahmaaGreatDoorCkMath

namespace Go.Proofs.YtehbegjocdahmaaGreatDoor

open Go.RowKit

set_option linter.unusedVariables false

theorem digL_dig : ∀ (k : Nat) (n : Int), (digL k n).all isDig = true
  | 0, n => rfl
  | k + 1, n => by
    unfold digL
    rw [List.all_append, digL_dig k]
    have := dgt_dig (D := n % 10) (by omega) (by omega)
    simp [this]
theorem valD_pos {l : List UInt8} (h : l.all isDig = true) : 0 ≤ valD 0 l := by
  have := (valD_bd l 0 h (by omega)).1
  rw [Int.zero_mul] at this; exact this
theorem dgt_back {c : UInt8} (h : isDig c = true) : dgt ((c.toNat : Int) - 48) = c := by
  obtain ⟨a, b⟩ := isDig_iff.1 h
  apply UInt8.toNat_inj.1
  rw [dgt_nat (by omega) (by omega)]; omega
/-- Digits are the text of their number. -/
theorem digL_back : ∀ (r : List UInt8), r.all isDig = true → digL r.length (valD 0 r.reverse) = r.reverse
  | [], _ => rfl
  | c :: r, h => by
    rw [List.all_cons, Bool.and_eq_true] at h
    have ih := digL_back r h.2
    have hr : r.reverse.all isDig = true := by rw [List.all_reverse]; exact h.2
    have p := valD_pos hr
    obtain ⟨a, b⟩ := isDig_iff.1 h.1
    rw [List.reverse_cons, valD_append, List.length_cons]
    show digL r.length ((10 * valD 0 r.reverse + ((c.toNat : Int) - 48)) / 10) ++ [dgt ((10 * valD 0 r.reverse + ((c.toNat : Int) - 48)) % 10)] = _
    generalize valD 0 r.reverse = v at *
    rw [show (10 * v + ((c.toNat : Int) - 48)) / 10 = v by omega, show (10 * v + ((c.toNat : Int) - 48)) % 10 = (c.toNat : Int) - 48 by omega, ih, dgt_back h.1]
theorem digL_of {l : List UInt8} {k : Nat} (h : l.all isDig = true) (hk : l.length = k) : digL k (valD 0 l) = l := by
  have := digL_back l.reverse (by rw [List.all_reverse]; exact h)
  rw [List.reverse_reverse, List.length_reverse, hk] at this
  exact this
theorem valD_digL {k : Nat} {n : Int} (n0 : 0 ≤ n) (n1 : n < 10 ^ k) : valD 0 (digL k n) = n := by
  have e := digL_of (digL_dig k n) (digL_length k n)
  have a := valD_pos (digL_dig k n)
  have b := (valD_bd (digL k n) 0 (digL_dig k n) (by omega)).2
  rw [digL_length] at b
  have := (digL_order k (valD 0 (digL k n)) n a (by omega) n0 n1).2
  rw [e] at this
  simpa using this.symm
/-- The form of a moment's text. -/
def mfAt (l : List UInt8) (k : Nat) : Bool := if k = 4 ∨ k = 7 then l.getD k 0 == 45 else if k = 10 then l.getD k 0 == 84 else if k = 13 ∨ k = 16 then l.getD k 0 == 58 else isDig (l.getD k 0)
def mfL (l : List UInt8) : Bool := decide (l.length = 19) && (List.range 19).all (mfAt l)
def MfUpto (l : List UInt8) (k : Nat) : Prop := ∀ i, i < k → mfAt l i = true
theorem mf_no {l : List UInt8} {k : Nat} (hk : k < 19) (h : mfAt l k = false) : mfL l = false := by
  unfold mfL
  rw [Bool.and_eq_false_iff]
  right
  rw [← Bool.not_eq_true, List.all_eq_true]
  intro x
  have := x k (List.mem_range.2 hk)
  rw [h] at this; exact absurd this (by decide)
theorem mf_yes {l : List UInt8} (hl : l.length = 19) (h : MfUpto l 19) : mfL l = true := by
  unfold mfL
  rw [decide_eq_true hl, Bool.true_and, List.all_eq_true]
  intro x hx
  exact h x (List.mem_range.1 hx)
theorem mf_of {l : List UInt8} (h : mfL l = true) : l.length = 19 ∧ ∀ i, i < 19 → mfAt l i = true := by
  unfold mfL at h
  rw [Bool.and_eq_true, decide_eq_true_eq, List.all_eq_true] at h
  exact ⟨h.1, fun i hi => h.2 i (List.mem_range.2 hi)⟩
/-- A number of a text. -/
def fld (l : List UInt8) (a n : Nat) : Int := valD 0 ((l.drop a).take n)
theorem mf_fld {l : List UInt8} (h : mfL l = true) (a n : Nat) (ha : a + n ≤ 19) (hn : ∀ i, i < n → a + i ≠ 4 ∧ a + i ≠ 7 ∧ a + i ≠ 10 ∧ a + i ≠ 13 ∧ a + i ≠ 16) : ((l.drop a).take n).all isDig = true ∧ ((l.drop a).take n).length = n := by
  obtain ⟨hl, hf⟩ := mf_of h
  have len : ((l.drop a).take n).length = n := by rw [List.length_take, List.length_drop]; omega
  refine ⟨List.all_eq_true.2 fun x hx => ?_, len⟩
  obtain ⟨i, hi, rfl⟩ := List.getElem_of_mem hx
  rw [len] at hi
  have q := hf (a + i) (by omega)
  obtain ⟨k1, k2, k3, k4, k5⟩ := hn i hi
  unfold mfAt at q
  rw [if_neg (by omega), if_neg k3, if_neg (by omega), List.getD_eq_getElem?_getD, List.getElem?_eq_getElem (by omega)] at q
  simpa using q
/-- The text of a moment. -/
def timT (h m s : Int) : List UInt8 := digL 2 h ++ [58] ++ digL 2 m ++ [58] ++ digL 2 s
def textM (y o d h m s : Int) : List UInt8 := if vld y o d && vldT h m s then textD y o d ++ [84] ++ timT h m s else []
theorem un {α : Type} {l : List α} {n : Nat} (h : l.length = n + 1) : ∃ c r, l = c :: r ∧ r.length = n := by
  cases l with
  | nil => simp at h
  | cons c r => exact ⟨c, r, rfl, by simpa using h⟩
theorem mf_list {l : List UInt8} (h : mfL l = true) : l = (l.drop 0).take 4 ++ [45] ++ (l.drop 5).take 2 ++ [45] ++ (l.drop 8).take 2 ++ [84] ++ ((l.drop 11).take 2 ++ [58] ++ (l.drop 14).take 2 ++ [58] ++ (l.drop 17).take 2) := by
  obtain ⟨hl, hf⟩ := mf_of h
  obtain ⟨c0, l0, rfl, hl0⟩ := un hl
  obtain ⟨c1, l1, rfl, hl1⟩ := un hl0
  obtain ⟨c2, l2, rfl, hl2⟩ := un hl1
  obtain ⟨c3, l3, rfl, hl3⟩ := un hl2
  obtain ⟨c4, l4, rfl, hl4⟩ := un hl3
  obtain ⟨c5, l5, rfl, hl5⟩ := un hl4
  obtain ⟨c6, l6, rfl, hl6⟩ := un hl5
  obtain ⟨c7, l7, rfl, hl7⟩ := un hl6
  obtain ⟨c8, l8, rfl, hl8⟩ := un hl7
  obtain ⟨c9, l9, rfl, hl9⟩ := un hl8
  obtain ⟨c10, l10, rfl, hl10⟩ := un hl9
  obtain ⟨c11, l11, rfl, hl11⟩ := un hl10
  obtain ⟨c12, l12, rfl, hl12⟩ := un hl11
  obtain ⟨c13, l13, rfl, hl13⟩ := un hl12
  obtain ⟨c14, l14, rfl, hl14⟩ := un hl13
  obtain ⟨c15, l15, rfl, hl15⟩ := un hl14
  obtain ⟨c16, l16, rfl, hl16⟩ := un hl15
  obtain ⟨c17, l17, rfl, hl17⟩ := un hl16
  obtain ⟨c18, l18, rfl, hl18⟩ := un hl17
  obtain rfl := List.length_eq_zero_iff.1 hl18
  have a := hf 4 (by omega)
  have b := hf 7 (by omega)
  have c := hf 10 (by omega)
  have d := hf 13 (by omega)
  have e := hf 16 (by omega)
  unfold mfAt at a b c d e
  simp at a b c d e
  subst a b c d e
  rfl
theorem mtext_forth {l : List UInt8} (h : mfL l = true) (hv : vld (fld l 0 4) (fld l 5 2) (fld l 8 2) = true) (ht : vldT (fld l 11 2) (fld l 14 2) (fld l 17 2) = true) :
    textM (fld l 0 4) (fld l 5 2) (fld l 8 2) (fld l 11 2) (fld l 14 2) (fld l 17 2) = l := by
  have e := mf_list h
  unfold textM
  rw [hv, ht]
  show textD _ _ _ ++ [84] ++ timT _ _ _ = l
  unfold textD timT
  rw [if_pos hv]
  unfold fld
  obtain ⟨p1, q1⟩ := mf_fld h 0 4 (by omega) (by omega)
  obtain ⟨p2, q2⟩ := mf_fld h 5 2 (by omega) (by omega)
  obtain ⟨p3, q3⟩ := mf_fld h 8 2 (by omega) (by omega)
  obtain ⟨p4, q4⟩ := mf_fld h 11 2 (by omega) (by omega)
  obtain ⟨p5, q5⟩ := mf_fld h 14 2 (by omega) (by omega)
  obtain ⟨p6, q6⟩ := mf_fld h 17 2 (by omega) (by omega)
  rw [digL_of p1 q1, digL_of p2 q2, digL_of p3 q3, digL_of p4 q4, digL_of p5 q5, digL_of p6 q6]
  exact e.symm
theorem digL_2 (n : Int) : ∃ a b, digL 2 n = [a, b] ∧ isDig a = true ∧ isDig b = true := by
  refine ⟨_, _, digL_two n, dgt_dig (by omega) (by omega), dgt_dig (by omega) (by omega)⟩
theorem mtext_back {y o d h m s : Int} (hv : vld y o d = true) (ht : vldT h m s = true) :
    mfL (textM y o d h m s) = true ∧ fld (textM y o d h m s) 0 4 = y ∧ fld (textM y o d h m s) 5 2 = o ∧ fld (textM y o d h m s) 8 2 = d ∧ fld (textM y o d h m s) 11 2 = h ∧ fld (textM y o d h m s) 14 2 = m ∧ fld (textM y o d h m s) 17 2 = s := by
  obtain ⟨y0, y1, o0, o1, d0, d1⟩ := vld_bd hv
  obtain ⟨⟨t0, t1⟩, ⟨t2, t3⟩, t4, t5⟩ := vldT_iff.1 ht
  have e : textM y o d h m s = digL 4 y ++ [45] ++ digL 2 o ++ [45] ++ digL 2 d ++ [84] ++ (digL 2 h ++ [58] ++ digL 2 m ++ [58] ++ digL 2 s) := by
    unfold textM; rw [hv, ht]; show textD _ _ _ ++ [84] ++ timT _ _ _ = _
    unfold textD timT; rw [if_pos hv]
  rw [e]
  have vy := valD_digL (k := 4) (n := y) (by omega) (by omega)
  have vo := valD_digL (k := 2) (n := o) (by omega) (by omega)
  have vd := valD_digL (k := 2) (n := d) (by omega) (by omega)
  have vh := valD_digL (k := 2) (n := h) (by omega) (by omega)
  have vm := valD_digL (k := 2) (n := m) (by omega) (by omega)
  have vs := valD_digL (k := 2) (n := s) (by omega) (by omega)
  have gy : ∃ a b c e, digL 4 y = [a, b, c, e] ∧ isDig a = true ∧ isDig b = true ∧ isDig c = true ∧ isDig e = true :=
    ⟨_, _, _, _, digL_four y, dgt_dig (by omega) (by omega), dgt_dig (by omega) (by omega), dgt_dig (by omega) (by omega), dgt_dig (by omega) (by omega)⟩
  obtain ⟨a1, a2, a3, a4, ey, i1, i2, i3, i4⟩ := gy
  obtain ⟨b1, b2, eo, j1, j2⟩ := digL_2 o
  obtain ⟨c1, c2, ed, k1, k2⟩ := digL_2 d
  obtain ⟨d1', d2', eh, l1, l2⟩ := digL_2 h
  obtain ⟨e1, e2, em, m1, m2⟩ := digL_2 m
  obtain ⟨f1, f2, es, n1, n2⟩ := digL_2 s
  rw [ey] at vy; rw [eo] at vo; rw [ed] at vd; rw [eh] at vh; rw [em] at vm; rw [es] at vs
  rw [ey, eo, ed, eh, em, es]
  refine ⟨?_, vy, vo, vd, vh, vm, vs⟩
  refine mf_yes rfl fun i hi => ?_
  have c : i = 0 ∨ i = 1 ∨ i = 2 ∨ i = 3 ∨ i = 4 ∨ i = 5 ∨ i = 6 ∨ i = 7 ∨ i = 8 ∨ i = 9 ∨ i = 10 ∨ i = 11 ∨ i = 12 ∨ i = 13 ∨ i = 14 ∨ i = 15 ∨ i = 16 ∨ i = 17 ∨ i = 18 := by omega
  rcases c with rfl | rfl | rfl | rfl | rfl | rfl | rfl | rfl | rfl | rfl | rfl | rfl | rfl | rfl | rfl | rfl | rfl | rfl | rfl <;> simp [mfAt, i1, i2, i3, i4, j1, j2, k1, k2, l1, l2, m1, m2, n1, n2]
theorem digL_no (k : Nat) (n : Int) : (digL k n).count 58 = 0 := by
  rw [List.count_eq_zero]
  intro hx
  have := List.all_eq_true.1 (digL_dig k n) 58 hx
  exact absurd this (by decide)
/-- Two colons, 19 bytes. -/
theorem mtext_size {y o d h m s : Int} (hv : vld y o d = true) (ht : vldT h m s = true) : (textM y o d h m s).length = 19 ∧ (textM y o d h m s).count 58 = 2 := by
  unfold textM; rw [hv, ht]
  show (textD y o d ++ [84] ++ timT h m s).length = 19 ∧ (textD y o d ++ [84] ++ timT h m s).count 58 = 2
  unfold textD timT; rw [if_pos hv]
  simp only [List.length_append, digL_length, List.length_cons, List.length_nil, List.count_append, digL_no]
  decide
theorem dtext_cmp {y m d y' m' d' : Int} (h : vld y m d = true) (h' : vld y' m' d' = true) :
    Op.bytesLess (textD y m d) (textD y' m' d') = decide (dayN y m d < dayN y' m' d') ∧ (textD y m d == textD y' m' d') = (dayN y m d == dayN y' m' d') := by
  have back := text_back h
  have back' := text_back h'
  refine ⟨?_, ?_⟩
  · rw [text_less h h', Bool.eq_iff_iff]
    simp only [Bool.or_eq_true, Bool.and_eq_true, decide_eq_true_eq, beq_iff_eq]
    constructor
    · intro k; exact day_lt h h' (by omega)
    · intro k
      by_cases q : y < y' ∨ y = y' ∧ (m < m' ∨ m = m' ∧ d < d')
      · omega
      · exfalso
        by_cases z : y = y' ∧ m = m' ∧ d = d'
        · obtain ⟨rfl, rfl, rfl⟩ := z; omega
        · have := day_lt h' h (by omega); omega
  · rw [Bool.eq_iff_iff, beq_iff_eq, beq_iff_eq]
    constructor
    · intro e
      rw [e] at back
      obtain ⟨-, a, b, c⟩ := back
      obtain ⟨-, a', b', c'⟩ := back'
      rw [← a, ← b, ← c, a', b', c']
    · intro e
      obtain ⟨rfl, rfl, rfl⟩ := day_inj h h' e
      rfl
theorem time_cmp {h m s h' m' s' : Int} (v : vldT h m s = true) (v' : vldT h' m' s' = true) :
    Op.bytesLess (timT h m s) (timT h' m' s') = decide (secT h m s < secT h' m' s') ∧ (timT h m s == timT h' m' s') = (secT h m s == secT h' m' s') := by
  obtain ⟨⟨t0, t1⟩, ⟨t2, t3⟩, t4, t5⟩ := vldT_iff.1 v
  obtain ⟨⟨t0', t1'⟩, ⟨t2', t3'⟩, t4', t5'⟩ := vldT_iff.1 v'
  obtain ⟨p, q⟩ := digL_order 2 h h' (by omega) (by omega) (by omega) (by omega)
  obtain ⟨p2, q2⟩ := digL_order 2 m m' (by omega) (by omega) (by omega) (by omega)
  obtain ⟨p3, q3⟩ := digL_order 2 s s' (by omega) (by omega) (by omega) (by omega)
  unfold timT secT
  have z : Op.bytesLess [58] [58] = false := by decide
  have z2 : (([58] : List UInt8) == [58]) = true := by decide
  refine ⟨?_, ?_⟩
  · rw [less_append _ _ _ _ (by simp [digL_length]), less_append _ _ _ _ (by simp [digL_length]), less_append _ _ _ _ (by simp [digL_length]), less_append _ _ _ _ (by simp [digL_length])]
    repeat rw [eq_append (by simp [digL_length])]
    rw [p, p2, p3, q, q2, z, z2, Bool.eq_iff_iff]
    simp only [Bool.or_eq_true, Bool.and_eq_true, decide_eq_true_eq, beq_iff_eq, Bool.false_eq_true, and_false, or_false, and_true]
    omega
  · repeat rw [eq_append (by simp [digL_length])]
    rw [q, q2, q3, z2, Bool.eq_iff_iff]
    simp only [Bool.and_eq_true, beq_iff_eq, and_true]
    omega
/-- Texts of moments are ordered as instants. -/
theorem mtext_cmp {y o d h m s y' o' d' h' m' s' : Int} (v : vld y o d = true) (t : vldT h m s = true) (v' : vld y' o' d' = true) (t' : vldT h' m' s' = true) :
    Op.bytesLess (textM y o d h m s) (textM y' o' d' h' m' s') = decide (86400 * dayN y o d + secT h m s < 86400 * dayN y' o' d' + secT h' m' s') ∧
    (textM y o d h m s == textM y' o' d' h' m' s') = (86400 * dayN y o d + secT h m s == 86400 * dayN y' o' d' + secT h' m' s') := by
  obtain ⟨a, b⟩ := dtext_cmp v v'
  obtain ⟨p, q⟩ := time_cmp t t'
  have s0 := secT_bd t
  have s1 := secT_bd t'
  have l : (textD y o d).length = (textD y' o' d').length := by unfold textD; rw [if_pos v, if_pos v']; simp [digL_length]
  have z : Op.bytesLess [84] [84] = false := by decide
  have z2 : (([84] : List UInt8) == [84]) = true := by decide
  have l2 : (textD y o d ++ [84]).length = (textD y' o' d' ++ [84]).length := by simp [l]
  unfold textM
  rw [v, t, v', t']
  show Op.bytesLess (textD y o d ++ [84] ++ timT h m s) (textD y' o' d' ++ [84] ++ timT h' m' s') = _ ∧ (textD y o d ++ [84] ++ timT h m s == textD y' o' d' ++ [84] ++ timT h' m' s') = _
  rw [less_append _ _ _ _ l2, less_append _ _ _ _ l, eq_append l2, eq_append l, a, b, p, q, z, z2]
  generalize dayN y o d = D at *
  generalize dayN y' o' d' = D' at *
  generalize secT h m s = S at *
  generalize secT h' m' s' = S' at *
  refine ⟨?_, ?_⟩
  · rw [Bool.eq_iff_iff]
    simp only [Bool.or_eq_true, Bool.and_eq_true, decide_eq_true_eq, beq_iff_eq, Bool.false_eq_true, and_false, or_false, and_true]
    omega
  · rw [Bool.eq_iff_iff]
    simp only [Bool.and_eq_true, beq_iff_eq, and_true]
    omega
end Go.Proofs.YtehbegjocdahmaaGreatDoor
