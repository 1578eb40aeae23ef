/- Names of relations: plain facts. -/
import Derived.Test.YtdkmahdfnmoliaaLPlain

import Derived.WalkKit

namespace Go.Proofs.Ytdkmahdfnmoliaa

open Go.RowKit

set_option linter.unusedVariables false

/-- The names of the relations. -/
def nmV : Nat → ByteArray
  | 0 => ⟨#[98, 101, 102, 111, 114, 101]⟩
  | 1 => ⟨#[109, 101, 101, 116, 115]⟩
  | 2 => ⟨#[111, 118, 101, 114, 108, 97, 112, 115]⟩
  | 3 => ⟨#[115, 116, 97, 114, 116, 115]⟩
  | 4 => ⟨#[100, 117, 114, 105, 110, 103]⟩
  | 5 => ⟨#[102, 105, 110, 105, 115, 104, 101, 115]⟩
  | 6 => ⟨#[101, 113, 117, 97, 108, 115]⟩
  | 7 => ⟨#[102, 105, 110, 105, 115, 104, 101, 100, 98, 121]⟩
  | 8 => ⟨#[99, 111, 110, 116, 97, 105, 110, 115]⟩
  | 9 => ⟨#[115, 116, 97, 114, 116, 101, 100, 98, 121]⟩
  | 10 => ⟨#[111, 118, 101, 114, 108, 97, 112, 112, 101, 100, 98, 121]⟩
  | 11 => ⟨#[109, 101, 116, 98, 121]⟩
  | 12 => ⟨#[97, 102, 116, 101, 114]⟩
  | _ => ⟨#[]⟩
def nmR (r : Int) : ByteArray := if 0 ≤ r ∧ r ≤ 12 then nmV r.toNat else ⟨#[]⟩
theorem nmR_in {k : Nat} (h : k ≤ 12) : nmR k = nmV k := by unfold nmR; rw [if_pos (by omega)]; rfl
theorem nmR_out {r : Int} (h : ¬ (0 ≤ r ∧ r ≤ 12)) : nmR r = ⟨#[]⟩ := by unfold nmR; rw [if_neg h]
theorem nm_dist : ∀ i j : Fin 13, (nmV i).data.toList = (nmV j).data.toList → i = j := by decide +kernel
theorem nm_full : ∀ i : Fin 13, ¬ (nmV i).data.toList = [] := by decide +kernel
theorem nm_small : ∀ i : Fin 13, (nmV i).size ≤ 12 := by decide +kernel
theorem ba_list {s t : ByteArray} (h : s.data.toList = t.data.toList) : s = t := ByteArray.ext (Array.ext' h)
/-- The number of the first name that is the text, from k on. -/
def prK (s : ByteArray) : Nat → Nat
  | 0 => 13
  | d + 1 => if nmV (12 - d) = s then 12 - d else prK s d
def prV (s : ByteArray) : Int := if prK s 13 < 13 then prK s 13 else 0
def prE (s : ByteArray) : Int := if prK s 13 < 13 then 0 else 3
theorem prK_up (s : ByteArray) {k : Nat} (hk : k ≤ 13) (h : ∀ j, j < k → ¬ nmV j = s) : prK s 13 = prK s (13 - k) := by
  induction k with
  | zero => rfl
  | succ k ih =>
    rw [ih (by omega) (fun j hj => h j (by omega)), show 13 - k = (13 - (k + 1)) + 1 by omega]
    show (if nmV (12 - (13 - (k + 1))) = s then _ else _) = _
    rw [if_neg (by rw [show 12 - (13 - (k + 1)) = k by omega]; exact h k (by omega))]
theorem pr_no {s : ByteArray} (h : ∀ j, j < 13 → ¬ nmV j = s) : prV s = 0 ∧ prE s = 3 := by
  have e : prK s 13 = 13 := prK_up s (k := 13) (by omega) h
  unfold prV prE; rw [e]; exact ⟨rfl, rfl⟩
theorem pr_at {s : ByteArray} {k : Nat} (hk : k < 13) (h : ∀ j, j < k → ¬ nmV j = s) (e : nmV k = s) : prV s = k ∧ prE s = 0 := by
  have q : prK s 13 = k := by
    rw [prK_up s (k := k) (by omega) h, show 13 - k = (12 - k) + 1 by omega]
    show (if nmV (12 - (12 - k)) = s then 12 - (12 - k) else _) = k
    rw [show 12 - (12 - k) = k by omega, if_pos e]
  unfold prV prE; rw [q, if_pos hk, if_pos hk]; exact ⟨rfl, rfl⟩
theorem pr_bd (s : ByteArray) : 0 ≤ prV s ∧ prV s ≤ 12 := by
  unfold prV; split <;> omega
/-- A name is read back. -/
theorem pr_back {k : Nat} (hk : k < 13) : prV (nmV k) = k ∧ prE (nmV k) = 0 :=
  pr_at hk (fun j hj e => by have := nm_dist ⟨j, by omega⟩ ⟨k, hk⟩ (by show (nmV j).data.toList = (nmV k).data.toList; rw [e]); have := congrArg Fin.val this; simp only at this; omega) rfl
theorem pr_nil : prE (⟨#[]⟩ : ByteArray) = 3 := (pr_no fun j hj e => nm_full ⟨j, hj⟩ (by show (nmV j).data.toList = []; rw [e])).2
end Go.Proofs.Ytdkmahdfnmoliaa
