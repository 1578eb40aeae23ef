/- Plain facts for the reference's ParseDuration. -/
import Derived.Test.YtehbegjocdahmaaDoorCkP
namespace Go.Proofs.YtehbegjocdahmaaDoor
open Go.RowKit
set_option linter.unusedVariables false

/-- The result, by what the parts give. -/
def resV (neg : Bool) (R : Option Int) : Int := match R with | none => 0 | some n => if 4398046511104 < n then 0 else if neg then -n else n
def resE (R : Option Int) : Int := match R with | none => 3 | some n => if 4398046511104 < n then 9 else 0
def sizeS : Value → Nat | .string s => s.size | _ => 0
def RRel (r : ByteArray) (k : Nat) (n : Int) : Prop := (r.data.toList.take k).all isDig = true ∧ n = min (valD 0 (r.data.toList.take k)) 8796093022208
theorem r_start (r : ByteArray) : RRel r 0 0 := ⟨by simp, by rw [List.take_zero]; decide⟩
theorem r_bd {r : ByteArray} {k : Nat} {n : Int} (h : RRel r k n) : 0 ≤ n ∧ n ≤ 8796093022208 := by
  obtain ⟨a, b⟩ := h
  have := valD_pos a
  omega
theorem r_step {r : ByteArray} {k : Nat} {n : Int} (h : k < r.size) (q : RRel r k n) (d : isDig r[k] = true) :
    RRel r (k + 1) (min (10 * n + ((r[k].toNat : Int) - 48)) 8796093022208) := by
  obtain ⟨a, b⟩ := q
  obtain ⟨d0, d1⟩ := isDig_iff.1 d
  refine ⟨by rw [take_snoc r k h, List.all_append, a]; simp [d], ?_⟩
  have p := valD_pos a
  rw [valD_snoc h, b]
  generalize valD 0 (r.data.toList.take k) = v at *
  omega
theorem r_stop {r : ByteArray} {k : Nat} {n : Int} (hk : k ≤ r.size) (q : RRel r k n) (h : ∀ x : k < r.size, isDig r[k] = false) :
    n = min (valD 0 (r.data.toList.takeWhile isDig)) 8796093022208 ∧ (r.data.toList.takeWhile isDig).length = k := by
  obtain ⟨a, b⟩ := q
  have hl : r.data.toList.length = r.size := Array.length_toList
  have e : r.data.toList.takeWhile isDig = r.data.toList.take k := tw_upto a (fun x => by have := h (by omega); rw [Array.getElem_toList]; exact this)
  rw [e]
  exact ⟨b, by rw [List.length_take]; omega⟩
theorem ap_min {v : Int} (h : 0 ≤ v) : Ap (min v 8796093022208) v := by unfold Ap; omega
theorem ap_cap {x y : Int} (h : Ap x y) (k : 8796093022208 < x) : Ap 8796093022208 y := by unfold Ap at *; omega
theorem unit_ok {c : UInt8} {t : Bool} (h : 0 < unitP c t) : (unitV c t = 86400 ∨ unitV c t = 3600 ∨ unitV c t = 60 ∨ unitV c t = 1) ∧ unitP c t ≤ 4 := by
  unfold unitP unitV at *
  by_cases a : c = 68 ∧ t = false
  · rw [if_pos a, if_pos a]; omega
  · rw [if_neg a] at h ⊢
    rw [if_neg a]
    by_cases b : c = 72 ∧ t = true
    · rw [if_pos b, if_pos b]; omega
    · rw [if_neg b] at h ⊢
      rw [if_neg b]
      by_cases d : c = 77 ∧ t = true
      · rw [if_pos d, if_pos d]; omega
      · rw [if_neg d] at h ⊢
        rw [if_neg d]
        by_cases e : c = 83 ∧ t = true
        · rw [if_pos e, if_pos e]; omega
        · rw [if_neg e] at h; omega
theorem head_at {r : ByteArray} (h : 0 < r.size) : ∃ rest, r.data.toList = r[0] :: rest ∧ (r.extract 1 r.size).data.toList = rest ∧ (r.extract 1 r.size).size + 1 = r.size := by
  have hl : r.data.toList.length = r.size := Array.length_toList
  refine ⟨r.data.toList.tail, ?_, ?_, ?_⟩
  · have e := at_getD h
    cases q : r.data.toList with
    | nil => rw [q] at hl; simp at hl; omega
    | cons a b => rw [q] at e; simp at e; rw [← e]; rfl
  · rw [Lib.extract_data, List.take_of_length_le (by rw [List.length_drop]; omega), List.drop_one]
  · rw [ByteArray.size_extract]; omega
/-- A T. -/
theorem pd_at_T {r : ByteArray} {t o : Bool} {p n : Int} {R : Option Int} (h : 0 < r.size) (hc : r[0] = 84) (hp : pdL (r.data.toList.length + 1) t p o n r.data.toList = R) :
    (t = true → R = none) ∧ (t = false → pdL ((r.extract 1 r.size).data.toList.length + 1) true p true n (r.extract 1 r.size).data.toList = R) := by
  obtain ⟨rest, e1, e2, e3⟩ := head_at h
  rw [e2]
  rw [e1, hc] at hp
  refine ⟨fun ht => ?_, fun ht => ?_⟩
  · subst ht; rw [← hp]; rfl
  · subst ht; rw [← hp]; rfl
/-- A part. -/
theorem pd_at {r : ByteArray} {t o : Bool} {p n : Int} {R : Option Int} {k : Nat} (h : 0 < r.size) (hc : r[0] ≠ 84) (hk : (r.data.toList.takeWhile isDig).length = k) (hp : pdL (r.data.toList.length + 1) t p o n r.data.toList = R) :
    (k = 0 ∨ k = r.size → R = none) ∧ (∀ x : k < r.size, 0 < k → (unitP r[k] t ≤ p → R = none) ∧ (p < unitP r[k] t → pdL ((r.extract (k + 1) r.size).data.toList.length + 1) t (unitP r[k] t) false (n + valD 0 (r.data.toList.takeWhile isDig) * unitV r[k] t) (r.extract (k + 1) r.size).data.toList = R)) := by
  have hl : r.data.toList.length = r.size := Array.length_toList
  obtain ⟨rest, e1, e2, e3⟩ := head_at h
  have step : pdL (r.data.toList.length + 1) t p o n r.data.toList = if r.data.toList.dropWhile isDig = [] ∨ r.data.toList.takeWhile isDig = [] then none
      else if unitP ((r.data.toList.dropWhile isDig).headD 0) t ≤ p then none
      else pdL r.data.toList.length t (unitP ((r.data.toList.dropWhile isDig).headD 0) t) false (n + valD 0 (r.data.toList.takeWhile isDig) * unitV ((r.data.toList.dropWhile isDig).headD 0) t) (r.data.toList.dropWhile isDig).tail := by
    rw [e1]
    conv => lhs; unfold pdL
    rw [if_neg hc]
  rw [step] at hp
  refine ⟨fun z => ?_, fun x k0 => ?_⟩
  · rw [← hp, if_pos]
    rcases z with z | z
    · right; exact List.length_eq_zero_iff.1 (by omega)
    · left; exact whole_nil r (by omega)
  · subst hk
    obtain ⟨t1, t2, t3⟩ := cut_tail r x
    rw [if_neg (fun q => q.elim t1 (fun q => by rw [q] at k0; simp at k0)), t2, ← t3] at hp
    refine ⟨fun z => by rw [← hp, if_pos z], fun z => ?_⟩
    rw [if_neg (by omega)] at hp
    rw [← hp]
    have tl := tail_len t1
    rw [← t3] at tl
    exact pd_fuel _ _ _ _ _ _ _ (by omega) (by omega)
theorem ext_size {r : ByteArray} {k : Nat} (h : k < r.size) : (r.extract (k + 1) r.size).size < r.size := by rw [ByteArray.size_extract]; omega
end Go.Proofs.YtehbegjocdahmaaDoor
