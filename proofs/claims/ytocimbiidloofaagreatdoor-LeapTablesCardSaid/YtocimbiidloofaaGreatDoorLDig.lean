/- Plain facts on digits and texts of numbers and dates. No program is mentioned. -/
import Derived.Test.YtocimbiidloofaaGreatDoorLCal

import Derived.BigRegion

import Derived.ChangeAlike

import Derived.Lib.AppendIntMem

import Derived.Lib.AtoiAll

import Derived.Lib.Hide

import Derived.Lib.ItoaLen

import Derived.Lib.ItoaNum

import Derived.Lib.Repeat

import Derived.Lib.Strings

import Derived.Lib.Walk

import Derived.OpenShut

import Derived.RegionTactic

import Derived.WalkLawsBesides

import Derived.WalkSpells

namespace Go.Proofs.YtocimbiidloofaaGreatDoor

open Go.RowKit

set_option linter.unusedVariables false

/-- The byte of a digit. -/
def dgt (D : Int) : UInt8 := UInt8.ofNat (48 + D.toNat)
/-- So many digits of a number. -/
def digL : Nat → Int → List UInt8
  | 0, _ => []
  | k + 1, n => digL k (n / 10) ++ [dgt (n % 10)]
theorem digL_length : ∀ (k : Nat) (n : Int), (digL k n).length = k
  | 0, _ => rfl
  | k + 1, n => by unfold digL; rw [List.length_append, digL_length k]; rfl
theorem ba_append (a b : List UInt8) : (⟨a.toArray⟩ : ByteArray) ++ ⟨b.toArray⟩ = ⟨(a ++ b).toArray⟩ := by
  apply ByteArray.ext; simp
theorem enc_digit {D : Int} (h0 : 0 ≤ D) (h1 : D ≤ 9) : Utf8.encode (48 + D) = ⟨#[dgt D]⟩ := by
  have h : D = 0 ∨ D = 1 ∨ D = 2 ∨ D = 3 ∨ D = 4 ∨ D = 5 ∨ D = 6 ∨ D = 7 ∨ D = 8 ∨ D = 9 := by omega
  rcases h with rfl | rfl | rfl | rfl | rfl | rfl | rfl | rfl | rfl | rfl <;> decide
theorem str_cons (c : UInt8) (l : List UInt8) : Value.string ((⟨#[c]⟩ : ByteArray) ++ ⟨l.toArray⟩) = .string ⟨(c :: l).toArray⟩ := by
  have := ba_append [c] l
  exact congrArg Value.string this
/-- The text of a date; empty for one that is not valid. -/
def textD (y m d : Int) : List UInt8 := if vld y m d then digL 4 y ++ [45] ++ digL 2 m ++ [45] ++ digL 2 d else []
/-- The value of digits, onto 'acc'. -/
def valD : Int → List UInt8 → Int
  | acc, [] => acc
  | acc, c :: r => valD (10 * acc + ((c.toNat : Int) - 48)) r
/-- A decimal digit. -/
def isDig (c : UInt8) : Bool := decide (48 ≤ c.toNat ∧ c.toNat ≤ 57)
theorem isDig_iff {c : UInt8} : isDig c = true ↔ 48 ≤ c.toNat ∧ c.toNat ≤ 57 := by unfold isDig; simp
theorem valD_append : ∀ (a b : List UInt8) (acc : Int), valD acc (a ++ b) = valD (valD acc a) b
  | [], b, acc => rfl
  | c :: r, b, acc => valD_append r b (10 * acc + ((c.toNat : Int) - 48))
theorem take_snoc (s : ByteArray) (k : Nat) (h : k < s.size) : s.data.toList.take (k + 1) = s.data.toList.take k ++ [s[k]] := by
  rw [List.take_succ_eq_append_getElem (by simpa using h)]; rfl
theorem valD_snoc {s : ByteArray} {k : Nat} (h : k < s.size) : valD 0 (s.data.toList.take (k + 1)) = 10 * valD 0 (s.data.toList.take k) + ((s[k].toNat : Int) - 48) := by
  rw [take_snoc s k h, valD_append]; rfl
/-- Numbers of at most four digits, read digit by digit. -/
def NumRel (s : ByteArray) (k : Nat) (n : Int) : Prop := n = valD 0 (s.data.toList.take k) ∧ 0 ≤ n ∧ n < 10 ^ k
/-- Has a text the form of a date? -/
def formAt (l : List UInt8) (k : Nat) : Bool := if k = 4 ∨ k = 7 then (l.getD k 0) == 45 else isDig (l.getD k 0)
def formL (l : List UInt8) : Bool := decide (l.length = 10) && (List.range 10).all (formAt l)
def FormUpto (l : List UInt8) (k : Nat) : Prop := ∀ i, i < k → formAt l i = true
theorem at_getD {s : ByteArray} {k : Nat} (h : k < s.size) : s.data.toList.getD k 0 = s[k] := by
  have h' : k < s.data.toList.length := by simpa using h
  rw [List.getD_eq_getElem?_getD, List.getElem?_eq_getElem h']; rfl
theorem form_no {l : List UInt8} {k : Nat} (hk : k < 10) (h : formAt l k = false) : formL l = false := by
  unfold formL
  have : (List.range 10).all (formAt l) = false := by
    rw [List.all_eq_false]
    exact ⟨k, List.mem_range.2 hk, by rw [h]; simp⟩
  rw [this, Bool.and_false]
theorem form_yes {l : List UInt8} (hl : l.length = 10) (h : FormUpto l 10) : formL l = true := by
  unfold formL
  rw [Bool.and_eq_true]
  exact ⟨decide_eq_true hl, List.all_eq_true.2 fun x hx => h x (List.mem_range.1 hx)⟩
/-- The bytes of integer.Text. -/
def textL (n digits : Int) : List UInt8 :=
  if digits < 0 ∨ 20 < digits then [] else (if n < 0 then [45] else []) ++ (Lib.repeatL [48] (digits - (Lib.decDigits (mg n).toNat).length).toNat ++ Lib.decDigits (mg n).toNat)
/-- One digit or more, and nothing else. -/
def digsB (l : List UInt8) : Bool := !l.isEmpty && l.all isDig
/-- Is a list of bytes a decimal text? -/
def isDecL (l : List UInt8) : Bool := digsB (Lib.trimPrefix l [45])
def Upto (l : List UInt8) (k : Nat) : Prop := (l.take k).all isDig = true
theorem upto_step {s : ByteArray} {k : Nat} (h : k < s.size) (a : Upto s.data.toList k) (b : 48 ≤ s[k].toNat ∧ s[k].toNat ≤ 57) : Upto s.data.toList (k + 1) := by
  unfold Upto at *
  rw [take_snoc s k h, List.all_append, a]
  simp [isDig, b]
theorem upto_no {s : ByteArray} {k : Nat} (h : k < s.size) (b : ¬ (48 ≤ s[k].toNat ∧ s[k].toNat ≤ 57)) : digsB s.data.toList = false := by
  have hm : s[k] ∈ s.data.toList := by
    have : s[k] = s.data.toList[k]'(by simpa using h) := rfl
    rw [this]; exact List.getElem_mem _
  have : s.data.toList.all isDig = false := by
    rw [List.all_eq_false]
    exact ⟨_, hm, by rw [isDig_iff]; exact b⟩
  unfold digsB; rw [this, Bool.and_false]
/-- The number that digits spell, onto 'acc'. -/
def val : Nat → List UInt8 → Nat
  | acc, [] => acc
  | acc, c :: r => val (acc * 10 + (c.toNat - 48)) r
theorem val_ge : ∀ (l : List UInt8) (acc : Nat), acc ≤ val acc l
  | [], acc => Nat.le_refl _
  | c :: r, acc => by have := val_ge r (acc * 10 + (c.toNat - 48)); unfold val; omega
theorem uint_val : ∀ (l : List UInt8) (acc : Nat), acc < 18446744073709551616 → l.all isDig = true → Lib.parseUint10 acc l = if val acc l < 18446744073709551616 then .ok (val acc l) else .range
  | [], acc, h, _ => by unfold Lib.parseUint10 val; rw [if_pos h]
  | c :: r, acc, h, hd => by
    rw [List.all_cons, Bool.and_eq_true] at hd
    have g := val_ge r (acc * 10 + (c.toNat - 48))
    have d := isDig_iff.1 hd.1
    unfold Lib.parseUint10 val
    rw [if_pos d]
    by_cases a : 1844674407370955162 ≤ acc
    · rw [if_pos a, if_neg (by omega)]
    · rw [if_neg a]
      by_cases b : 18446744073709551616 ≤ acc * 10 + (c.toNat - 48)
      · rw [if_pos b, if_neg (by omega)]
      · rw [if_neg b]; exact uint_val r _ (by omega) hd.2
/-- The number of a decimal text. -/
def num (l : List UInt8) : Int := if l.head? = some 45 then -(val 0 (Lib.trimPrefix l [45]) : Int) else val 0 (Lib.trimPrefix l [45])
theorem trim_cons (c : UInt8) (r : List UInt8) : Lib.trimPrefix (c :: r) [45] = if c = 45 then r else c :: r := by
  unfold Lib.trimPrefix Lib.hasPrefix
  by_cases h : c = 45
  · simp [h, List.isPrefixOf]
  · have : (45 == c) = false := by simpa using fun e => h e.symm
    simp [h, List.isPrefixOf, this]
theorem atoi_neg (r : List UInt8) : (∀ u, Lib.parseMag r = .ok u → Lib.atoiAll (45 :: r) = if 9223372036854775808 < u then .range else .ok (-(u : Int))) ∧ (Lib.parseMag r = .range → Lib.atoiAll (45 :: r) = .range) := by
  have e : (45 : UInt8).toNat = 45 := rfl
  constructor
  · intro u h
    unfold Lib.atoiAll
    simp only [e, or_true, if_true, h]
    simp
  · intro h
    unfold Lib.atoiAll
    simp only [e, or_true, if_true, h]
theorem atoi_pos (c : UInt8) (r : List UInt8) (h3 : c.toNat ≠ 43) (h5 : c.toNat ≠ 45) :
    (∀ u, Lib.parseMag (c :: r) = .ok u → Lib.atoiAll (c :: r) = if 9223372036854775808 ≤ u then .range else .ok (u : Int)) ∧ (Lib.parseMag (c :: r) = .range → Lib.atoiAll (c :: r) = .range) := by
  constructor
  · intro u h
    unfold Lib.atoiAll
    simp only [h3, h5, or_self, if_false, h]
    simp
  · intro h
    unfold Lib.atoiAll
    simp only [h3, h5, or_self, if_false, h]
theorem num_neg (r : List UInt8) : num (45 :: r) = -(val 0 r : Int) := by
  unfold num; rw [trim_cons, if_pos rfl, if_pos (by simp)]
theorem num_pos {c : UInt8} (r : List UInt8) (h : c ≠ 45) : num (c :: r) = (val 0 (c :: r) : Int) := by
  unfold num; rw [trim_cons, if_neg h, if_neg (by simpa using h)]
theorem atoi_num {l : List UInt8} (h : isDecL l = true) : Lib.atoiAll l = if fits (num l) then .ok (num l) else .range := by
  cases l with
  | nil => simp [isDecL, digsB, Lib.trimPrefix, Lib.hasPrefix, List.isPrefixOf] at h
  | cons c r =>
    unfold isDecL digsB at h
    rw [trim_cons] at h
    by_cases e : c = 45
    · subst e
      rw [if_pos rfl] at h
      rw [Bool.and_eq_true] at h
      have hr : r ≠ [] := by intro z; rw [z] at h; simp at h
      have u := uint_val r 0 (by omega) h.2
      have pm : Lib.parseMag r = if val 0 r < 18446744073709551616 then .ok (val 0 r) else .range := by unfold Lib.parseMag; rw [if_neg hr, u]
      rw [num_neg]
      clear u
      generalize val 0 r = v at *
      by_cases a : v < 18446744073709551616
      · rw [if_pos a] at pm
        rw [(atoi_neg r).1 v pm]
        by_cases b : 9223372036854775808 < v
        · have f : fits (-(v : Int)) = false := by rw [← Bool.not_eq_true, fits_iff]; omega
          rw [f, if_pos b]; rfl
        · have f : fits (-(v : Int)) = true := by rw [fits_iff]; omega
          rw [f, if_neg b]; rfl
      · have f : fits (-(v : Int)) = false := by rw [← Bool.not_eq_true, fits_iff]; omega
        rw [if_neg a] at pm
        rw [(atoi_neg r).2 pm, f]; rfl
    · rw [if_neg e] at h
      rw [Bool.and_eq_true, List.all_cons, Bool.and_eq_true] at h
      have d := isDig_iff.1 h.2.1
      have u := uint_val (c :: r) 0 (by omega) (by rw [List.all_cons, h.2.1, h.2.2]; rfl)
      have pm : Lib.parseMag (c :: r) = if val 0 (c :: r) < 18446744073709551616 then .ok (val 0 (c :: r)) else .range := by unfold Lib.parseMag; rw [if_neg (by simp), u]
      have ap := atoi_pos c r (by omega) (by omega)
      rw [num_pos r e]
      clear u
      generalize val 0 (c :: r) = v at *
      by_cases a : v < 18446744073709551616
      · rw [if_pos a] at pm
        rw [ap.1 v pm]
        by_cases b : 9223372036854775808 ≤ v
        · have f : fits (v : Int) = false := by rw [← Bool.not_eq_true, fits_iff]; omega
          rw [f, if_pos b]; rfl
        · have f : fits (v : Int) = true := by rw [fits_iff]; omega
          rw [f, if_neg b]; rfl
      · have f : fits (v : Int) = false := by rw [← Bool.not_eq_true, fits_iff]; omega
        rw [if_neg a] at pm
        rw [ap.2 pm, f]; rfl
/-- What integer.Parse returns, and its error number. -/
def pV (l : List UInt8) : Int := if 30 < l.length then 0 else if isDecL l then xV (num l) else 0
def pE (l : List UInt8) : Int := if 30 < l.length then 5 else if isDecL l then xE (num l) else 3
theorem dec_small {n : Nat} (h : n < 10) : Lib.decDigits n = [dgt (n : Int)] := by
  rw [Lib.decDigits, dif_pos h]; unfold dgt
  congr 2
theorem dec_step {n : Nat} (h : 10 ≤ n) : Lib.decDigits n = Lib.decDigits (n / 10) ++ [dgt ((n : Int) % 10)] := by
  rw [Lib.decDigits, dif_neg (by omega)]; unfold dgt
  congr 3
theorem rep_snoc (k : Nat) : Lib.repeatL [48] (k + 1) = Lib.repeatL [48] k ++ [48] := by
  induction k with
  | zero => rfl
  | succ k ih =>
    show [48] ++ Lib.repeatL [48] (k + 1) = ([48] ++ Lib.repeatL [48] k) ++ [48]
    rw [ih, List.append_assoc]
/-- Digits of fixed number: the decimal digits, filled up with zeros. -/
theorem digL_dec : ∀ (k n : Nat), n < 10 ^ (k + 1) → (Lib.decDigits n).length ≤ k + 1 ∧ digL (k + 1) (n : Int) = Lib.repeatL [48] (k + 1 - (Lib.decDigits n).length) ++ Lib.decDigits n := by
  intro k
  induction k with
  | zero =>
    intro n h
    have h' : n < 10 := by simpa using h
    rw [dec_small h']
    refine ⟨by simp, ?_⟩
    unfold digL digL
    rw [show (n : Int) % 10 = n by omega]; rfl
  | succ k ih =>
    intro n h
    by_cases c : n < 10
    · rw [dec_small c]
      refine ⟨by simp, ?_⟩
      unfold digL
      obtain ⟨-, e⟩ := ih 0 (Nat.pow_pos (by omega))
      rw [show (n : Int) / 10 = ((0 : Nat) : Int) by omega, e, dec_small (show 0 < 10 by omega), show (n : Int) % 10 = n by omega]
      show (Lib.repeatL [48] k ++ [48]) ++ _ = Lib.repeatL [48] (k + 1) ++ _
      rw [rep_snoc]
    · rw [dec_step (by omega)]
      obtain ⟨l, e⟩ := ih (n / 10) (by rw [Nat.pow_succ] at h; omega)
      refine ⟨by simp; omega, ?_⟩
      unfold digL
      rw [show (n : Int) / 10 = ((n / 10 : Nat) : Int) by omega, e, List.append_assoc, List.length_append]
      rw [show k + 1 + 1 - ((Lib.decDigits (n / 10)).length + [dgt ((n : Int) % 10)].length) = k + 1 - (Lib.decDigits (n / 10)).length by simp]
theorem textL_digL {n : Int} {k : Nat} (n0 : 0 ≤ n) (h : n < 10 ^ (k + 1)) (hk : k + 1 ≤ 20) : textL n ((k + 1 : Nat) : Int) = digL (k + 1) n := by
  obtain ⟨m, rfl⟩ := Int.eq_ofNat_of_zero_le n0
  have h' : m < 10 ^ (k + 1) := by exact_mod_cast h
  obtain ⟨l, e⟩ := digL_dec k m h'
  unfold textL
  rw [if_neg (by omega), if_neg (by omega), e, List.nil_append]
  have em : (mg (m : Int)).toNat = m := by unfold mg; rw [if_neg (by omega)]; omega
  rw [em]
  congr 2
  omega
/-- The form of a text, any digit standing for 0. -/
theorem lay_at (k : Nat) (h : k < (⟨#[48, 48, 48, 48, 45, 48, 48, 45, 48, 48]⟩ : ByteArray).size) : ((⟨#[48, 48, 48, 48, 45, 48, 48, 45, 48, 48]⟩ : ByteArray)[k]'h).toNat = if k = 4 ∨ k = 7 then 45 else 48 := by
  have h' : k < 10 := h
  have c : k = 0 ∨ k = 1 ∨ k = 2 ∨ k = 3 ∨ k = 4 ∨ k = 5 ∨ k = 6 ∨ k = 7 ∨ k = 8 ∨ k = 9 := by omega
  rcases c with rfl | rfl | rfl | rfl | rfl | rfl | rfl | rfl | rfl | rfl <;> rfl
theorem val_valD : ∀ (l : List UInt8) (acc : Nat), l.all isDig = true → (val acc l : Int) = valD acc l
  | [], acc, _ => rfl
  | c :: r, acc, h => by
    rw [List.all_cons, Bool.and_eq_true] at h
    have d := isDig_iff.1 h.1
    unfold val valD
    rw [val_valD r _ h.2]
    congr 1
    omega
/-- Digits have a value of as many digits. -/
theorem valD_bd : ∀ (l : List UInt8) (acc : Int), l.all isDig = true → 0 ≤ acc → acc * 10 ^ l.length ≤ valD acc l ∧ valD acc l < (acc + 1) * 10 ^ l.length
  | [], acc, _, _ => by unfold valD; simp; omega
  | c :: r, acc, h, h0 => by
    rw [List.all_cons, Bool.and_eq_true] at h
    have d := isDig_iff.1 h.1
    have q := valD_bd r (10 * acc + ((c.toNat : Int) - 48)) h.2 (by omega)
    unfold valD
    rw [List.length_cons, Int.pow_succ]
    generalize (10 : Int) ^ r.length = p at *
    generalize valD _ r = v at *
    have pp : (10 * acc + ((c.toNat : Int) - 48)) * p = 10 * acc * p + ((c.toNat : Int) - 48) * p := Int.add_mul _ _ _
    have e1 : acc * (p * 10) = 10 * acc * p := by rw [Int.mul_comm p 10, ← Int.mul_assoc, Int.mul_comm acc 10]
    have e2 : (acc + 1) * (p * 10) = 10 * acc * p + 10 * p := by rw [Int.add_mul, e1, Int.one_mul, Int.mul_comm p 10]
    have e3 : (10 * acc + ((c.toNat : Int) - 48) + 1) * p = 10 * acc * p + (((c.toNat : Int) - 48) + 1) * p := by rw [show 10 * acc + ((c.toNat : Int) - 48) + 1 = 10 * acc + (((c.toNat : Int) - 48) + 1) by omega]; exact Int.add_mul _ _ _
    have p0 : 0 ≤ p ∨ p < 0 := by omega
    rw [e1, e2]
    rw [pp] at q
    rw [e3] at q
    obtain ⟨qa, qb⟩ := q
    have c0 : 0 ≤ (c.toNat : Int) - 48 := by omega
    have c1 : ((c.toNat : Int) - 48) + 1 ≤ 10 := by omega
    rcases p0 with p0 | p0
    · have z1 : 0 ≤ ((c.toNat : Int) - 48) * p := Int.mul_nonneg c0 p0
      have z2 : (((c.toNat : Int) - 48) + 1) * p ≤ 10 * p := Int.mul_le_mul_of_nonneg_right c1 p0
      omega
    · have z3 : (((c.toNat : Int) - 48) + 1) * p = ((c.toNat : Int) - 48) * p + p := by rw [Int.add_mul, Int.one_mul]
      omega
theorem valD_four {l : List UInt8} (h : l.all isDig = true) (hl : l.length ≤ 4) : 0 ≤ valD 0 l ∧ valD 0 l ≤ 9999 := by
  obtain ⟨a, b⟩ := valD_bd l 0 h (by omega)
  have p : (10 : Int) ^ l.length ≤ 10000 := by
    have q : l.length = 0 ∨ l.length = 1 ∨ l.length = 2 ∨ l.length = 3 ∨ l.length = 4 := by omega
    rcases q with e | e | e | e | e <;> rw [e] <;> decide
  rw [Int.zero_mul] at a
  rw [Int.zero_add, Int.one_mul] at b
  omega
theorem form_of {l : List UInt8} (h : formL l = true) : l.length = 10 ∧ ∀ i, i < 10 → formAt l i = true := by
  unfold formL at h
  rw [Bool.and_eq_true] at h
  refine ⟨of_decide_eq_true h.1, fun i hi => List.all_eq_true.1 h.2 i (List.mem_range.2 hi)⟩
theorem part_dig {l : List UInt8} (h : formL l = true) (a n : Nat) (ha : a + n ≤ 10) (hn : ∀ i, i < n → ¬ (a + i = 4 ∨ a + i = 7)) : ((l.drop a).take n).all isDig = true ∧ ((l.drop a).take n).length = n := by
  obtain ⟨hl, hf⟩ := form_of h
  have len : ((l.drop a).take n).length = n := by rw [List.length_take, List.length_drop]; omega
  refine ⟨List.all_eq_true.2 fun x hx => ?_, len⟩
  obtain ⟨i, hi, rfl⟩ := List.getElem_of_mem hx
  rw [len] at hi
  have q := hf (a + i) (by omega)
  unfold formAt at q
  rw [if_neg (hn i hi), List.getD_eq_getElem?_getD, List.getElem?_eq_getElem (by omega)] at q
  simpa using q
/-- The numbers of a text. -/
def yearOf (l : List UInt8) : Int := valD 0 (l.take 4)
def monOf (l : List UInt8) : Int := valD 0 ((l.drop 5).take 2)
def dayOf (l : List UInt8) : Int := valD 0 (l.drop 8)
/-- The parts of a text that has the form: what they hold, and their numbers. -/
theorem parts_text {s : ByteArray} (h : formL s.data.toList = true) :
    s.size = 10 ∧ ((s.extract 0 4).size = 4 ∧ (s.extract 0 4).data.toList.all isDig = true ∧ valD 0 (s.extract 0 4).data.toList = yearOf s.data.toList) ∧
    ((s.extract 5 7).size = 2 ∧ (s.extract 5 7).data.toList.all isDig = true ∧ valD 0 (s.extract 5 7).data.toList = monOf s.data.toList) ∧
    ((s.extract 8 s.size).size = 2 ∧ (s.extract 8 s.size).data.toList.all isDig = true ∧ valD 0 (s.extract 8 s.size).data.toList = dayOf s.data.toList) := by
  obtain ⟨hl, hf⟩ := form_of h
  have hz : s.size = 10 := by rw [← hl]; exact Array.length_toList.symm
  have e1 : (s.extract 0 4).data.toList = (s.data.toList.drop 0).take 4 := Lib.extract_data s 0 4
  have e2 : (s.extract 5 7).data.toList = (s.data.toList.drop 5).take 2 := Lib.extract_data s 5 7
  have e3 : (s.extract 8 s.size).data.toList = (s.data.toList.drop 8).take 2 := by rw [hz]; exact Lib.extract_data s 8 10
  have e3' : s.data.toList.drop 8 = (s.data.toList.drop 8).take 2 := by rw [List.take_of_length_le]; rw [List.length_drop]; omega
  obtain ⟨d1, l1⟩ := part_dig h 0 4 (by omega) (by omega)
  obtain ⟨d2, l2⟩ := part_dig h 5 2 (by omega) (by omega)
  obtain ⟨d3, l3⟩ := part_dig h 8 2 (by omega) (by omega)
  have z : ∀ (t : ByteArray) (m : Nat), t.data.toList.length = m → t.size = m := fun t m q => by rw [← q]; exact Array.length_toList.symm
  refine ⟨hz, ⟨z _ _ (by rw [e1, l1]), by rw [e1]; exact d1, by rw [e1]; rfl⟩, ⟨z _ _ (by rw [e2, l2]), by rw [e2]; exact d2, by rw [e2]; rfl⟩, ⟨z _ _ (by rw [e3, l3]), by rw [e3]; exact d3, ?_⟩⟩
  rw [e3, ← e3']; rfl
theorem dgt_nat {D : Int} (h0 : 0 ≤ D) (h1 : D ≤ 9) : (dgt D).toNat = 48 + D.toNat := by
  unfold dgt; rw [UInt8.toNat_ofNat']; omega
theorem dgt_dig {D : Int} (h0 : 0 ≤ D) (h1 : D ≤ 9) : isDig (dgt D) = true := by
  rw [isDig_iff, dgt_nat h0 h1]; omega
theorem digL_two (n : Int) : digL 2 n = [dgt (n / 10 % 10), dgt (n % 10)] := by
  simp [digL]
theorem digL_four (n : Int) : digL 4 n = [dgt (n / 10 / 10 / 10 % 10), dgt (n / 10 / 10 % 10), dgt (n / 10 % 10), dgt (n % 10)] := by
  simp [digL]
theorem text_list {y m d : Int} (h : vld y m d = true) : textD y m d = [dgt (y / 10 / 10 / 10 % 10), dgt (y / 10 / 10 % 10), dgt (y / 10 % 10), dgt (y % 10), 45, dgt (m / 10 % 10), dgt (m % 10), 45, dgt (d / 10 % 10), dgt (d % 10)] := by
  unfold textD; rw [if_pos h, digL_four, digL_two, digL_two]; rfl
theorem valD_cons (acc : Int) (c : UInt8) (r : List UInt8) : valD acc (c :: r) = valD (10 * acc + ((c.toNat : Int) - 48)) r := rfl
/-- The text of a date has the form, and its numbers are the date's. -/
theorem text_back {y m d : Int} (h : vld y m d = true) : formL (textD y m d) = true ∧ yearOf (textD y m d) = y ∧ monOf (textD y m d) = m ∧ dayOf (textD y m d) = d := by
  obtain ⟨y0, y1, m0, m1, d0, d1⟩ := vld_bd h
  rw [text_list h]
  obtain ⟨a1, h1⟩ : ∃ a, y / 10 / 10 / 10 % 10 = a := ⟨_, rfl⟩
  obtain ⟨a2, h2⟩ : ∃ a, y / 10 / 10 % 10 = a := ⟨_, rfl⟩
  obtain ⟨a3, h3⟩ : ∃ a, y / 10 % 10 = a := ⟨_, rfl⟩
  obtain ⟨a4, h4⟩ : ∃ a, y % 10 = a := ⟨_, rfl⟩
  obtain ⟨b1, h5⟩ : ∃ a, m / 10 % 10 = a := ⟨_, rfl⟩
  obtain ⟨b2, h6⟩ : ∃ a, m % 10 = a := ⟨_, rfl⟩
  obtain ⟨c1, h7⟩ : ∃ a, d / 10 % 10 = a := ⟨_, rfl⟩
  obtain ⟨c2, h8⟩ : ∃ a, d % 10 = a := ⟨_, rfl⟩
  rw [h1, h2, h3, h4, h5, h6, h7, h8]
  have k1 := dgt_nat (D := a1) (by omega) (by omega)
  have k2 := dgt_nat (D := a2) (by omega) (by omega)
  have k3 := dgt_nat (D := a3) (by omega) (by omega)
  have k4 := dgt_nat (D := a4) (by omega) (by omega)
  have k5 := dgt_nat (D := b1) (by omega) (by omega)
  have k6 := dgt_nat (D := b2) (by omega) (by omega)
  have k7 := dgt_nat (D := c1) (by omega) (by omega)
  have k8 := dgt_nat (D := c2) (by omega) (by omega)
  have i1 := dgt_dig (D := a1) (by omega) (by omega)
  have i2 := dgt_dig (D := a2) (by omega) (by omega)
  have i3 := dgt_dig (D := a3) (by omega) (by omega)
  have i4 := dgt_dig (D := a4) (by omega) (by omega)
  have i5 := dgt_dig (D := b1) (by omega) (by omega)
  have i6 := dgt_dig (D := b2) (by omega) (by omega)
  have i7 := dgt_dig (D := c1) (by omega) (by omega)
  have i8 := dgt_dig (D := c2) (by omega) (by omega)
  have eY : 10 * (10 * (10 * (10 * 0 + a1) + a2) + a3) + a4 = y := by omega
  have eM : 10 * (10 * 0 + b1) + b2 = m := by omega
  have eD : 10 * (10 * 0 + c1) + c2 = d := by omega
  have j1 : ((dgt a1).toNat : Int) - 48 = a1 := by omega
  have j2 : ((dgt a2).toNat : Int) - 48 = a2 := by omega
  have j3 : ((dgt a3).toNat : Int) - 48 = a3 := by omega
  have j4 : ((dgt a4).toNat : Int) - 48 = a4 := by omega
  have j5 : ((dgt b1).toNat : Int) - 48 = b1 := by omega
  have j6 : ((dgt b2).toNat : Int) - 48 = b2 := by omega
  have j7 : ((dgt c1).toNat : Int) - 48 = c1 := by omega
  have j8 : ((dgt c2).toNat : Int) - 48 = c2 := by omega
  clear k1 k2 k3 k4 k5 k6 k7 k8 h1 h2 h3 h4 h5 h6 h7 h8 h
  generalize dgt a1 = u1 at *
  generalize dgt a2 = u2 at *
  generalize dgt a3 = u3 at *
  generalize dgt a4 = u4 at *
  generalize dgt b1 = u5 at *
  generalize dgt b2 = u6 at *
  generalize dgt c1 = u7 at *
  generalize dgt c2 = u8 at *
  refine ⟨?_, ?_, ?_, ?_⟩
  · refine form_yes rfl fun i hi => ?_
    have c : i = 0 ∨ i = 1 ∨ i = 2 ∨ i = 3 ∨ i = 4 ∨ i = 5 ∨ i = 6 ∨ i = 7 ∨ i = 8 ∨ i = 9 := by omega
    rcases c with rfl | rfl | rfl | rfl | rfl | rfl | rfl | rfl | rfl | rfl <;> simp [formAt, i1, i2, i3, i4, i5, i6, i7, i8]
  · show valD 0 [u1, u2, u3, u4] = y
    rw [valD_cons, valD_cons, valD_cons, valD_cons, j1, j2, j3, j4]
    exact eY
  · show valD 0 [u5, u6] = m
    rw [valD_cons, valD_cons, j5, j6]
    exact eM
  · show valD 0 [u7, u8] = d
    rw [valD_cons, valD_cons, j7, j8]
    exact eD
theorem less_append : ∀ (a b r t : List UInt8), a.length = b.length → Op.bytesLess (a ++ r) (b ++ t) = (Op.bytesLess a b || (a == b && Op.bytesLess r t))
  | [], [], r, t, _ => by simp [Op.bytesLess]
  | [], _ :: _, r, t, h => by simp at h
  | _ :: _, [], r, t, h => by simp at h
  | c :: a, e :: b, r, t, h => by
    have ih := less_append a b r t (by simpa using h)
    show (decide (c < e) || (c == e && Op.bytesLess (a ++ r) (b ++ t))) = ((decide (c < e) || (c == e && Op.bytesLess a b)) || ((c == e && a == b) && Op.bytesLess r t))
    rw [ih]
    cases decide (c < e) <;> cases (c == e) <;> cases Op.bytesLess a b <;> cases (a == b) <;> cases Op.bytesLess r t <;> rfl
theorem eq_append {a b r t : List UInt8} (h : a.length = b.length) : (a ++ r == b ++ t) = (a == b && r == t) := by
  rw [Bool.eq_iff_iff]
  simp only [Bool.and_eq_true, beq_iff_eq]
  constructor
  · intro e; exact List.append_inj e h
  · rintro ⟨rfl, rfl⟩; rfl
theorem dgt_lt {x y : Int} (x0 : 0 ≤ x) (x1 : x ≤ 9) (y0 : 0 ≤ y) (y1 : y ≤ 9) : (dgt x < dgt y ↔ x < y) ∧ (dgt x = dgt y ↔ x = y) := by
  have a := dgt_nat x0 x1
  have b := dgt_nat y0 y1
  refine ⟨?_, ?_⟩
  · rw [UInt8.lt_iff_toNat_lt, a, b]; omega
  · rw [← UInt8.toNat_inj, a, b]; omega
theorem digL_order : ∀ (k : Nat) (n m : Int), 0 ≤ n → n < 10 ^ k → 0 ≤ m → m < 10 ^ k → Op.bytesLess (digL k n) (digL k m) = decide (n < m) ∧ (digL k n == digL k m) = (n == m)
  | 0, n, m, n0, n1, m0, m1 => by
    have e : n = 0 := by simp at n1; omega
    have f : m = 0 := by simp at m1; omega
    subst e f; simp [digL, Op.bytesLess]
  | k + 1, n, m, n0, n1, m0, m1 => by
    rw [Int.pow_succ] at n1 m1
    obtain ⟨p, q⟩ := digL_order k (n / 10) (m / 10) (by omega) (by omega) (by omega) (by omega)
    obtain ⟨a, b⟩ := dgt_lt (x := n % 10) (y := m % 10) (by omega) (by omega) (by omega) (by omega)
    have l : (digL k (n / 10)).length = (digL k (m / 10)).length := by rw [digL_length, digL_length]
    unfold digL
    rw [less_append _ _ _ _ l, eq_append l, p, q]
    refine ⟨?_, ?_⟩
    · show (decide (n / 10 < m / 10) || ((n / 10 == m / 10) && (decide (dgt (n % 10) < dgt (m % 10)) || ((dgt (n % 10) == dgt (m % 10)) && false)))) = _
      rw [Bool.eq_iff_iff]
      simp only [Bool.or_eq_true, Bool.and_eq_true, decide_eq_true_eq, beq_iff_eq, Bool.false_eq_true, and_false, or_false, a]
      omega
    · rw [Bool.eq_iff_iff]
      simp only [Bool.and_eq_true, beq_iff_eq, List.cons.injEq, and_true, b]
      omega
/-- The texts of dates are ordered as the dates. -/
theorem text_less {y m d y' m' d' : Int} (h : vld y m d = true) (h' : vld y' m' d' = true) :
    Op.bytesLess (textD y m d) (textD y' m' d') = (decide (y < y') || ((y == y') && (decide (m < m') || ((m == m') && decide (d < d'))))) := by
  obtain ⟨y0, y1, m0, m1, d0, d1⟩ := vld_bd h
  obtain ⟨y0', y1', m0', m1', d0', d1'⟩ := vld_bd h'
  obtain ⟨p, q⟩ := digL_order 4 y y' (by omega) (by omega) (by omega) (by omega)
  obtain ⟨p2, q2⟩ := digL_order 2 m m' (by omega) (by omega) (by omega) (by omega)
  obtain ⟨p3, -⟩ := digL_order 2 d d' (by omega) (by omega) (by omega) (by omega)
  unfold textD
  rw [if_pos h, if_pos h']
  rw [less_append _ _ _ _ (by simp [digL_length]), less_append _ _ _ _ (by simp [digL_length]), less_append _ _ _ _ (by simp [digL_length]), less_append _ _ _ _ (by simp [digL_length])]
  repeat rw [eq_append (by simp [digL_length])]
  rw [p, p2, p3, q, q2]
  have z : Op.bytesLess [45] [45] = false := by decide
  have z2 : (([45] : List UInt8) == [45]) = true := by decide
  rw [z, z2]
  cases decide (y < y') <;> cases (y == y') <;> cases decide (m < m') <;> cases (m == m') <;> cases decide (d < d') <;> rfl
end Go.Proofs.YtocimbiidloofaaGreatDoor
