/- Plain facts on texts of dates of weeks. No program is mentioned. -/
import Derived.Test.YtimpaaimdjlhjaaDoorLDig
import Derived.Test.YtimpaaimdjlhjaaDoorWkMath
import Derived.Laws.BytesArg
namespace Go.Proofs.YtimpaaimdjlhjaaDoor
open Go.RowKit
set_option linter.unusedVariables false

/-- A date of weeks has a text. -/
def knwB (Y W D : Int) : Bool := yrB Y && (decide (1 ≤ W) && decide (W ≤ 54)) && (decide (1 ≤ D) && decide (D ≤ 7))
theorem knwB_iff {Y W D : Int} : knwB Y W D = true ↔ (1 ≤ Y ∧ Y ≤ 9999) ∧ (1 ≤ W ∧ W ≤ 54) ∧ 1 ≤ D ∧ D ≤ 7 := by unfold knwB yrB; simp [and_assoc]
def textW (Y W D : Int) : List UInt8 := if knwB Y W D then digL 4 Y ++ [45, 87] ++ digL 2 W ++ [45] ++ digL 1 D else []
/-- Any digit stands for 0. -/
def nrm (x : Int) : Int := if 48 ≤ x ∧ x ≤ 57 then 48 else x
def layW (j : Nat) : Int := if j = 4 ∨ j = 8 then 45 else if j = 5 then 87 else 48
/-- The ten bytes have the form. -/
def okX (X : Nat → Int) : Bool := (List.range 10).all fun j => nrm (X j) == layW j
theorem okX_iff {X : Nat → Int} : okX X = true ↔ ∀ j, j < 10 → nrm (X j) = layW j := by
  unfold okX; rw [List.all_eq_true]; simp [List.mem_range]
theorem okX_dig {X : Nat → Int} (h : okX X = true) {j : Nat} (hj : j < 10) (h1 : j ≠ 4) (h2 : j ≠ 5) (h3 : j ≠ 8) : 48 ≤ X j ∧ X j ≤ 57 := by
  have := okX_iff.1 h j hj
  unfold nrm layW at this
  by_cases c : 48 ≤ X j ∧ X j ≤ 57
  · exact c
  · rw [if_neg c, if_neg (show ¬ (j = 4 ∨ j = 8) by omega), if_neg h2] at this
    omega
theorem okX_sign {X : Nat → Int} (h : okX X = true) : X 4 = 45 ∧ X 5 = 87 ∧ X 8 = 45 := by
  have a := okX_iff.1 h 4 (by omega)
  have b := okX_iff.1 h 5 (by omega)
  have c := okX_iff.1 h 8 (by omega)
  simp only [nrm, layW] at a b c
  simp at a b c
  refine ⟨?_, ?_, ?_⟩
  · split at a <;> omega
  · split at b <;> omega
  · split at c <;> omega
/-- The bytes of a text of ten, as numbers. -/
def bX (l : List UInt8) (j : Nat) : Int := ((l.getD j 0).toNat : Int)
theorem bX_bd (l : List UInt8) (j : Nat) : 0 ≤ bX l j ∧ bX l j ≤ 255 := by
  unfold bX; have := UInt8.toNat_lt (l.getD j 0); omega
def vY (X : Nat → Int) : Int := 10 * (10 * (10 * (X 0 - 48) + (X 1 - 48)) + (X 2 - 48)) + (X 3 - 48)
def vW (X : Nat → Int) : Int := 10 * (X 6 - 48) + (X 7 - 48)
def vD (X : Nat → Int) : Int := X 9 - 48
theorem vals_bd {X : Nat → Int} (h : okX X = true) : (0 ≤ vY X ∧ vY X ≤ 9999) ∧ (0 ≤ vW X ∧ vW X ≤ 99) ∧ 0 ≤ vD X ∧ vD X ≤ 9 := by
  have d := fun j hj h1 h2 h3 => okX_dig h (j := j) hj h1 h2 h3
  have d0 := d 0 (by omega) (by omega) (by omega) (by omega)
  have d1 := d 1 (by omega) (by omega) (by omega) (by omega)
  have d2 := d 2 (by omega) (by omega) (by omega) (by omega)
  have d3 := d 3 (by omega) (by omega) (by omega) (by omega)
  have d6 := d 6 (by omega) (by omega) (by omega) (by omega)
  have d7 := d 7 (by omega) (by omega) (by omega) (by omega)
  have d9 := d 9 (by omega) (by omega) (by omega) (by omega)
  unfold vY vW vD; omega
/-- Ten bytes, all equal to a form's: the strings are. -/
theorem str_ten (X : Nat → Int) (hX : ∀ j, 0 ≤ X j ∧ X j ≤ 255) : strOfNums ((List.range 10).map fun j => nrm (X j)) = ⟨#[48, 48, 48, 48, 45, 87, 48, 48, 45, 48]⟩ ↔ okX X = true := by
  rw [okX_iff]
  have e : ∀ n : Int, 0 ≤ n → n ≤ 255 → ∀ k : Nat, k ≤ 255 → (UInt8.ofNat n.toNat = UInt8.ofNat k ↔ n = k) := by
    intro n n0 n1 k k1
    rw [← UInt8.toNat_inj, UInt8.toNat_ofNat', UInt8.toNat_ofNat']
    omega
  have b : ∀ j, 0 ≤ nrm (X j) ∧ nrm (X j) ≤ 255 := by intro j; have := hX j; unfold nrm; split <;> omega
  have L : strOfNums ((List.range 10).map fun j => nrm (X j)) = ⟨#[UInt8.ofNat (nrm (X 0)).toNat, UInt8.ofNat (nrm (X 1)).toNat, UInt8.ofNat (nrm (X 2)).toNat, UInt8.ofNat (nrm (X 3)).toNat, UInt8.ofNat (nrm (X 4)).toNat, UInt8.ofNat (nrm (X 5)).toNat, UInt8.ofNat (nrm (X 6)).toNat, UInt8.ofNat (nrm (X 7)).toNat, UInt8.ofNat (nrm (X 8)).toNat, UInt8.ofNat (nrm (X 9)).toNat]⟩ := rfl
  have R : (⟨#[48, 48, 48, 48, 45, 87, 48, 48, 45, 48]⟩ : ByteArray) = ⟨#[UInt8.ofNat 48, UInt8.ofNat 48, UInt8.ofNat 48, UInt8.ofNat 48, UInt8.ofNat 45, UInt8.ofNat 87, UInt8.ofNat 48, UInt8.ofNat 48, UInt8.ofNat 45, UInt8.ofNat 48]⟩ := rfl
  rw [L, R]
  constructor
  · intro h j hj
    have h' := congrArg ByteArray.data h
    simp only [Array.mk.injEq, List.cons.injEq, and_true] at h'
    obtain ⟨h0, h1, h2, h3, h4, h5, h6, h7, h8, h9⟩ := h'
    have c : j = 0 ∨ j = 1 ∨ j = 2 ∨ j = 3 ∨ j = 4 ∨ j = 5 ∨ j = 6 ∨ j = 7 ∨ j = 8 ∨ j = 9 := by omega
    rcases c with rfl | rfl | rfl | rfl | rfl | rfl | rfl | rfl | rfl | rfl
    · exact (e _ (b 0).1 (b 0).2 48 (by omega)).1 h0
    · exact (e _ (b 1).1 (b 1).2 48 (by omega)).1 h1
    · exact (e _ (b 2).1 (b 2).2 48 (by omega)).1 h2
    · exact (e _ (b 3).1 (b 3).2 48 (by omega)).1 h3
    · exact (e _ (b 4).1 (b 4).2 45 (by omega)).1 h4
    · exact (e _ (b 5).1 (b 5).2 87 (by omega)).1 h5
    · exact (e _ (b 6).1 (b 6).2 48 (by omega)).1 h6
    · exact (e _ (b 7).1 (b 7).2 48 (by omega)).1 h7
    · exact (e _ (b 8).1 (b 8).2 45 (by omega)).1 h8
    · exact (e _ (b 9).1 (b 9).2 48 (by omega)).1 h9
  · intro h
    have g : ∀ j, j < 10 → nrm (X j) = layW j := h
    rw [g 0 (by omega), g 1 (by omega), g 2 (by omega), g 3 (by omega), g 4 (by omega), g 5 (by omega), g 6 (by omega), g 7 (by omega), g 8 (by omega), g 9 (by omega)]
    rfl
/-- The number that digits spell, onto 'acc'. -/
def valX : Int → List Int → Int
  | acc, [] => acc
  | acc, x :: r => valX (10 * acc + (x - 48)) r
theorem valX_str : ∀ (xs : List Int) (acc : Int), (∀ x ∈ xs, 48 ≤ x ∧ x ≤ 57) → valD acc (xs.map fun n => UInt8.ofNat n.toNat) = valX acc xs ∧ (xs.map fun n => UInt8.ofNat n.toNat).all isDig = true
  | [], acc, _ => ⟨rfl, rfl⟩
  | x :: r, acc, h => by
    have hx := h x (by simp)
    have t : (UInt8.ofNat x.toNat).toNat = x.toNat := by rw [UInt8.toNat_ofNat']; omega
    obtain ⟨a, b⟩ := valX_str r (10 * acc + (x - 48)) (fun y hy => h y (by simp [hy]))
    refine ⟨?_, ?_⟩
    · show valD (10 * acc + (((UInt8.ofNat x.toNat).toNat : Int) - 48)) _ = valX (10 * acc + (x - 48)) r
      rw [t, ← a]; congr 1; omega
    · rw [List.map_cons, List.all_cons, b, Bool.and_true, isDig_iff, t]; omega
theorem digL_one (n : Int) : digL 1 n = [dgt (n % 10)] := by simp [digL]
theorem textW_list {Y W D : Int} (h : knwB Y W D = true) : textW Y W D = [dgt (Y / 10 / 10 / 10 % 10), dgt (Y / 10 / 10 % 10), dgt (Y / 10 % 10), dgt (Y % 10), 45, 87, dgt (W / 10 % 10), dgt (W % 10), 45, dgt (D % 10)] := by
  unfold textW; rw [if_pos h, digL_four, digL_two, digL_one]; rfl
theorem textW_length {Y W D : Int} (h : knwB Y W D = true) : (textW Y W D).length = 10 := by rw [textW_list h]; rfl
theorem nrm_dgt {D : Int} (h0 : 0 ≤ D) (h1 : D ≤ 9) : nrm ((dgt D).toNat : Int) = 48 := by
  rw [dgt_nat h0 h1]; unfold nrm; rw [if_pos (by omega)]
/-- The text of a date has the form, and its numbers are the date's. -/
theorem textW_back {Y W D : Int} (h : knwB Y W D = true) : okX (bX (textW Y W D)) = true ∧ vY (bX (textW Y W D)) = Y ∧ vW (bX (textW Y W D)) = W ∧ vD (bX (textW Y W D)) = D := by
  obtain ⟨⟨y0, y1⟩, ⟨w0, w1⟩, d0, d1⟩ := knwB_iff.1 h
  rw [textW_list h]
  have t : ∀ n : Int, nrm ((dgt (n % 10)).toNat : Int) = 48 ∧ ((dgt (n % 10)).toNat : Int) - 48 = n % 10 := fun n => by
    have a := dgt_nat (D := n % 10) (by omega) (by omega)
    exact ⟨nrm_dgt (by omega) (by omega), by rw [a]; omega⟩
  refine ⟨?_, ?_, ?_, ?_⟩
  · rw [okX_iff]
    intro j hj
    have c : j = 0 ∨ j = 1 ∨ j = 2 ∨ j = 3 ∨ j = 4 ∨ j = 5 ∨ j = 6 ∨ j = 7 ∨ j = 8 ∨ j = 9 := by omega
    rcases c with rfl | rfl | rfl | rfl | rfl | rfl | rfl | rfl | rfl | rfl
    · exact (t _).1
    · exact (t _).1
    · exact (t _).1
    · exact (t _).1
    · rfl
    · rfl
    · exact (t _).1
    · exact (t _).1
    · rfl
    · exact (t _).1
  · show 10 * (10 * (10 * (((dgt (Y / 10 / 10 / 10 % 10)).toNat : Int) - 48) + (((dgt (Y / 10 / 10 % 10)).toNat : Int) - 48)) + (((dgt (Y / 10 % 10)).toNat : Int) - 48)) + (((dgt (Y % 10)).toNat : Int) - 48) = Y
    rw [(t _).2, (t _).2, (t _).2, (t _).2]; omega
  · show 10 * (((dgt (W / 10 % 10)).toNat : Int) - 48) + (((dgt (W % 10)).toNat : Int) - 48) = W
    rw [(t _).2, (t _).2]; omega
  · show ((dgt (D % 10)).toNat : Int) - 48 = D
    rw [(t _).2]; omega
theorem dgt_of {c : UInt8} {n : Int} (h0 : 48 ≤ (c.toNat : Int)) (h1 : (c.toNat : Int) ≤ 57) (h : n % 10 = (c.toNat : Int) - 48) : dgt (n % 10) = c := by
  rw [h]; unfold dgt
  rw [← UInt8.toNat_inj, UInt8.toNat_ofNat']; omega
/-- A text that has the form, and whose numbers have a text, is that text. -/
theorem textW_forth {l : List UInt8} (hl : l.length = 10) (h : okX (bX l) = true) (k : knwB (vY (bX l)) (vW (bX l)) (vD (bX l)) = true) : textW (vY (bX l)) (vW (bX l)) (vD (bX l)) = l := by
  match l, hl with
  | [c0, c1, c2, c3, c4, c5, c6, c7, c8, c9], _ =>
    obtain ⟨s4, s5, s8⟩ := okX_sign h
    have d := fun j hj h1 h2 h3 => okX_dig h (j := j) hj h1 h2 h3
    have d0 : 48 ≤ (c0.toNat : Int) ∧ (c0.toNat : Int) ≤ 57 := d 0 (by omega) (by omega) (by omega) (by omega)
    have d1 : 48 ≤ (c1.toNat : Int) ∧ (c1.toNat : Int) ≤ 57 := d 1 (by omega) (by omega) (by omega) (by omega)
    have d2 : 48 ≤ (c2.toNat : Int) ∧ (c2.toNat : Int) ≤ 57 := d 2 (by omega) (by omega) (by omega) (by omega)
    have d3 : 48 ≤ (c3.toNat : Int) ∧ (c3.toNat : Int) ≤ 57 := d 3 (by omega) (by omega) (by omega) (by omega)
    have d6 : 48 ≤ (c6.toNat : Int) ∧ (c6.toNat : Int) ≤ 57 := d 6 (by omega) (by omega) (by omega) (by omega)
    have d7 : 48 ≤ (c7.toNat : Int) ∧ (c7.toNat : Int) ≤ 57 := d 7 (by omega) (by omega) (by omega) (by omega)
    have d9 : 48 ≤ (c9.toNat : Int) ∧ (c9.toNat : Int) ≤ 57 := d 9 (by omega) (by omega) (by omega) (by omega)
    have q4 : c4 = 45 := by have : (c4.toNat : Int) = 45 := s4; exact UInt8.toNat_inj.1 (show c4.toNat = 45 by omega)
    have q5 : c5 = 87 := by have : (c5.toNat : Int) = 87 := s5; exact UInt8.toNat_inj.1 (show c5.toNat = 87 by omega)
    have q8 : c8 = 45 := by have : (c8.toNat : Int) = 45 := s8; exact UInt8.toNat_inj.1 (show c8.toNat = 45 by omega)
    rw [textW_list k]
    have eY : vY (bX [c0, c1, c2, c3, c4, c5, c6, c7, c8, c9]) = 10 * (10 * (10 * ((c0.toNat : Int) - 48) + ((c1.toNat : Int) - 48)) + ((c2.toNat : Int) - 48)) + ((c3.toNat : Int) - 48) := rfl
    have eW : vW (bX [c0, c1, c2, c3, c4, c5, c6, c7, c8, c9]) = 10 * ((c6.toNat : Int) - 48) + ((c7.toNat : Int) - 48) := rfl
    have eD : vD (bX [c0, c1, c2, c3, c4, c5, c6, c7, c8, c9]) = (c9.toNat : Int) - 48 := rfl
    rw [eY, eW, eD]
    rw [dgt_of d0.1 d0.2 (by omega), dgt_of d1.1 d1.2 (by omega), dgt_of d2.1 d2.2 (by omega), dgt_of d3.1 d3.2 (by omega), dgt_of d6.1 d6.2 (by omega), dgt_of d7.1 d7.2 (by omega), dgt_of d9.1 d9.2 (by omega), q4, q5, q8]
end Go.Proofs.YtimpaaimdjlhjaaDoor
