/- Plain facts on texts of durations. No program is mentioned. -/
import Derived.Test.YtehbegjocdahmaaGreatDoorLDig

import Derived.Test.YtehbegjocdahmaaGreatDoorCkMath

namespace Go.Proofs.YtehbegjocdahmaaGreatDoor

open Go.RowKit

set_option linter.unusedVariables false

/-- The size of a letter's unit, and its place in the order; 0 where there is none. -/
def unitV (c : UInt8) (t : Bool) : Int := if c = 68 ∧ t = false then 86400 else if c = 72 ∧ t = true then 3600 else if c = 77 ∧ t = true then 60 else if c = 83 ∧ t = true then 1 else 0
def unitP (c : UInt8) (t : Bool) : Int := if c = 68 ∧ t = false then 1 else if c = 72 ∧ t = true then 2 else if c = 77 ∧ t = true then 3 else if c = 83 ∧ t = true then 4 else 0
/-- The parts of a duration: whether T was read, the last place, whether a number must follow, the sum; what is left. The fuel is above what is left. -/
def pdL : Nat → Bool → Int → Bool → Int → List UInt8 → Option Int
  | 0, _, _, _, _, _ => none
  | _ + 1, _, _, o, n, [] => if o then none else some n
  | f + 1, t, p, o, n, c :: r =>
    if c = 84 then (if t then none else pdL f true p true n r)
    else if (c :: r).dropWhile isDig = [] ∨ (c :: r).takeWhile isDig = [] then none
    else if unitP (((c :: r).dropWhile isDig).headD 0) t ≤ p then none
    else pdL f t (unitP (((c :: r).dropWhile isDig).headD 0) t) false (n + valD 0 ((c :: r).takeWhile isDig) * unitV (((c :: r).dropWhile isDig).headD 0) t) ((c :: r).dropWhile isDig).tail
theorem drop_len (l : List UInt8) : (l.dropWhile isDig).length ≤ l.length := by
  induction l with
  | nil => simp
  | cons c r ih => rw [List.dropWhile_cons]; split <;> simp <;> omega
/-- More fuel changes nothing. -/
theorem pd_fuel : ∀ (f g : Nat) (t : Bool) (p : Int) (o : Bool) (n : Int) (l : List UInt8), l.length < f → l.length < g → pdL f t p o n l = pdL g t p o n l
  | 0, g, t, p, o, n, l, h, _ => by omega
  | f + 1, 0, t, p, o, n, l, _, h => by omega
  | f + 1, g + 1, t, p, o, n, [], _, _ => by simp [pdL]
  | f + 1, g + 1, t, p, o, n, c :: r, h, k => by
    simp only [List.length_cons] at h k
    unfold pdL
    by_cases e : c = 84
    · rw [if_pos e, if_pos e, pd_fuel f g true p true n r (by omega) (by omega)]
    · rw [if_neg e, if_neg e]
      have dl := drop_len (c :: r)
      by_cases z : (c :: r).dropWhile isDig = [] ∨ (c :: r).takeWhile isDig = []
      · rw [if_pos z, if_pos z]
      · rw [if_neg z, if_neg z]
        have tl : ((c :: r).dropWhile isDig).tail.length < (c :: r).length := by
          have : (c :: r).dropWhile isDig ≠ [] := fun e => z (.inl e)
          have := List.length_pos_iff.2 this
          rw [List.length_tail]; omega
        simp only [List.length_cons] at tl
        rw [pd_fuel f g t (unitP (((c :: r).dropWhile isDig).headD 0) t) false _ ((c :: r).dropWhile isDig).tail (by omega) (by omega)]
theorem while_app {ds : List UInt8} {u : UInt8} {r : List UInt8} (h : ds.all isDig = true) (hu : isDig u = false) : (ds ++ u :: r).takeWhile isDig = ds ∧ (ds ++ u :: r).dropWhile isDig = u :: r := by
  induction ds with
  | nil => simp [hu]
  | cons c l ih =>
    rw [List.all_cons, Bool.and_eq_true] at h
    obtain ⟨a, b⟩ := ih h.2
    refine ⟨?_, ?_⟩
    · rw [List.cons_append, List.takeWhile_cons, if_pos h.1, a]
    · rw [List.cons_append, List.dropWhile_cons, if_pos h.1, b]
/-- One part is read. -/
theorem pd_part {f : Nat} {t : Bool} {p : Int} {o : Bool} {n : Int} {ds : List UInt8} {u : UInt8} {r : List UInt8} (h0 : ds ≠ []) (h : ds.all isDig = true) (hu : isDig u = false) (hp : p < unitP u t) :
    pdL (f + 1) t p o n (ds ++ u :: r) = pdL f t (unitP u t) false (n + valD 0 ds * unitV u t) r := by
  match ds, h0 with
  | c :: l, _ =>
    have hc := h
    rw [List.all_cons, Bool.and_eq_true] at hc
    have c84 : c ≠ 84 := by
      intro e; subst e; exact absurd hc.1 (by decide)
    obtain ⟨a, b⟩ := while_app (r := r) h hu
    rw [List.cons_append] at a b
    show pdL (f + 1) t p o n (c :: (l ++ u :: r)) = _
    conv => lhs; unfold pdL
    rw [if_neg c84, a, b, if_neg (by simp)]
    show (if unitP u t ≤ p then none else pdL f t (unitP u t) false (n + valD 0 (c :: l) * unitV u t) r) = _
    rw [if_neg (by omega)]
theorem pd_T {f : Nat} {p : Int} {o : Bool} {n : Int} {r : List UInt8} : pdL (f + 1) false p o n (84 :: r) = pdL f true p true n r := by
  show (if (84 : UInt8) = 84 then (if false = true then none else pdL f true p true n r) else _) = _
  rw [if_pos rfl, if_neg (by decide)]
theorem pd_end {f : Nat} {t : Bool} {p : Int} {n : Int} : pdL (f + 1) t p false n [] = some n := by
  show (if false = true then none else some n) = _
  rw [if_neg (by decide)]
/-- Decimal digits are digits, and spell the number. -/
theorem dec_val : ∀ n : Nat, valD 0 (Lib.decDigits n) = n ∧ (Lib.decDigits n).all isDig = true ∧ Lib.decDigits n ≠ [] := by
  intro n
  induction n using Nat.strongRecOn with
  | ind n ih =>
    by_cases h : n < 10
    · rw [dec_small h]
      have a := dgt_nat (D := (n : Int)) (by omega) (by omega)
      have b := dgt_dig (D := (n : Int)) (by omega) (by omega)
      refine ⟨?_, by simp [b], by simp⟩
      show 10 * 0 + (((dgt (n : Int)).toNat : Int) - 48) = n
      rw [a]; omega
    · rw [dec_step (by omega)]
      obtain ⟨p, q, r⟩ := ih (n / 10) (by omega)
      have a := dgt_nat (D := (n : Int) % 10) (by omega) (by omega)
      have b := dgt_dig (D := (n : Int) % 10) (by omega) (by omega)
      refine ⟨?_, by rw [List.all_append, q]; simp [b], by simp⟩
      rw [valD_append, p]
      show 10 * ((n / 10 : Nat) : Int) + (((dgt ((n : Int) % 10)).toNat : Int) - 48) = n
      rw [a]; omega
/-- A number with a letter; nothing for 0. -/
def partL (n : Int) (c : UInt8) : List UInt8 := if n = 0 then [] else Lib.decDigits n.toNat ++ [c]
def restL (a : Int) : List UInt8 := partL (a / 3600 % 24) 72 ++ (partL (a / 60 % 60) 77 ++ partL (a % 60) 83)
def bodyL (a : Int) : List UInt8 := partL (a / 86400) 68 ++ (if restL a = [] then [] else 84 :: restL a)
/-- The text of a duration. -/
def durL (n : Int) : List UInt8 :=
  if linB n then (if n = 0 then [80, 84, 48, 83] else (if n < 0 then [45, 80] else [80]) ++ bodyL (if n < 0 then -n else n)) else []
/-- What a text of a duration means: the value, and the error number. -/
def durB (l : List UInt8) : List UInt8 := if l.head? = some 45 then l.tail else l
def durP (l : List UInt8) : Option Int := if (durB l).head? = some 80 ∧ 2 ≤ (durB l).length then pdL ((durB l).length) false 0 true 0 (durB l).tail else none
def durV (l : List UInt8) : Int := match durP l with | none => 0 | some n => if 4398046511104 < n then 0 else if l.head? = some 45 then -n else n
def durE (l : List UInt8) : Int := match durP l with | none => 3 | some n => if 4398046511104 < n then 9 else 0
theorem pd_opt {f : Nat} {t : Bool} {p : Int} {o : Bool} {n x : Int} {c : UInt8} {r : List UInt8} (x0 : 0 < x) (hc : isDig c = false) (hp : p < unitP c t) :
    pdL (f + 1) t p o n (partL x c ++ r) = pdL f t (unitP c t) false (n + x * unitV c t) r := by
  obtain ⟨a, b, d⟩ := dec_val x.toNat
  unfold partL
  rw [if_neg (by omega), List.append_assoc, List.cons_append, List.nil_append, pd_part d b hc hp, a]
  congr 3; omega
theorem partL_zero (c : UInt8) : partL 0 c = [] := by unfold partL; rw [if_pos rfl]
theorem partL_pos {x : Int} {c : UInt8} (h : 0 < x) : partL x c ≠ [] := by unfold partL; rw [if_neg (by omega)]; simp
/-- The time's parts are read. -/
theorem pd_rest {f : Nat} {n a : Int} {p : Int} (a0 : 0 ≤ a) (hp : p ≤ 1) (h : restL a ≠ []) : pdL (f + 4) true p true n (restL a) = some (n + a % 86400) := by
  have e : a % 86400 = 3600 * (a / 3600 % 24) + 60 * (a / 60 % 60) + a % 60 := by omega
  rw [e]
  unfold restL at *
  have h0 : 0 ≤ a / 3600 % 24 := by omega
  have m0 : 0 ≤ a / 60 % 60 := by omega
  have s0 : 0 ≤ a % 60 := by omega
  generalize a / 3600 % 24 = H at *
  generalize a / 60 % 60 = M at *
  generalize a % 60 = S at *
  have u2 : unitP 72 true = 2 ∧ unitV 72 true = 3600 := by decide
  have u3 : unitP 77 true = 3 ∧ unitV 77 true = 60 := by decide
  have u4 : unitP 83 true = 4 ∧ unitV 83 true = 1 := by decide
  have sl : ∀ (f : Nat) (p : Int) (o : Bool) (n : Int), p < 4 → (0 < S ∨ o = false) → pdL (f + 2) true p o n (partL S 83) = some (n + S) := by
    intro f p o n q k
    by_cases z : S = 0
    · subst z
      rw [partL_zero]
      rcases k with k | rfl
      · omega
      · rw [pd_end]; simp
    · have := pd_opt (f := f + 1) (t := true) (p := p) (o := o) (n := n) (x := S) (c := 83) (r := []) (by omega) (by decide) (by rw [u4.1]; exact q)
      rw [List.append_nil] at this
      rw [this, u4.2, pd_end]; simp
  have ml : ∀ (f : Nat) (p : Int) (o : Bool) (n : Int), p < 3 → (0 < M ∨ 0 < S ∨ o = false) → pdL (f + 3) true p o n (partL M 77 ++ partL S 83) = some (n + 60 * M + S) := by
    intro f p o n q k
    by_cases z : M = 0
    · subst z
      rw [partL_zero, List.nil_append, sl (f + 1) p o n (by omega) (k.elim (fun q => absurd q (by omega)) id)]; congr 1; omega
    · rw [pd_opt (f := f + 2) (by omega) (by decide) (by rw [u3.1]; exact q), u3.1, u3.2, sl f 3 false _ (by omega) (.inr rfl)]; congr 1; omega
  by_cases z : H = 0
  · subst z
    rw [partL_zero, List.nil_append] at *
    have k : 0 < M ∨ 0 < S := by
      rcases Int.lt_or_le 0 M with q | q
      · exact .inl q
      · right
        have : M = 0 := by omega
        subst this
        rcases Int.lt_or_le 0 S with q' | q'
        · exact q'
        · have : S = 0 := by omega
          subst this
          exact absurd (by rw [partL_zero, partL_zero]; rfl) h
    rw [ml (f + 1) p true n (by omega) (k.elim .inl fun q => .inr (.inl q))]; congr 1; omega
  · rw [pd_opt (f := f + 3) (by omega) (by decide) (by rw [u2.1]; omega), u2.1, u2.2, ml f 2 false _ (by omega) (.inr (.inr rfl))]; congr 1; omega
theorem rest_nil {a : Int} (a0 : 0 ≤ a) (h : restL a = []) : a % 86400 = 0 := by
  unfold restL at h
  simp only [List.append_eq_nil_iff] at h
  have k : ∀ (x : Int) (c : UInt8), 0 ≤ x → partL x c = [] → x = 0 := by
    intro x c x0 e
    rcases Int.lt_or_le 0 x with q | q
    · exact absurd e (partL_pos q)
    · omega
  have h1 := k _ _ (by omega) h.1
  have h2 := k _ _ (by omega) h.2.1
  have h3 := k _ _ (by omega) h.2.2
  omega
/-- A body is read as its number. -/
theorem pd_body {f : Nat} {a : Int} (a0 : 0 < a) : pdL (f + 6) false 0 true 0 (bodyL a) = some a := by
  have u1 : unitP 68 false = 1 ∧ unitV 68 false = 86400 := by decide
  unfold bodyL
  by_cases d : a / 86400 = 0
  · rw [d, partL_zero, List.nil_append]
    by_cases r : restL a = []
    · have := rest_nil (by omega) r; omega
    · rw [if_neg r, pd_T, pd_rest (f := f + 1) (by omega) (by omega) r]; congr 1; omega
  · rw [pd_opt (f := f + 5) (by omega) (by decide) (by rw [u1.1]; omega), u1.1, u1.2]
    by_cases r : restL a = []
    · have := rest_nil (by omega) r
      rw [if_pos r, pd_end]; congr 1; omega
    · rw [if_neg r, pd_T, pd_rest (f := f) (by omega) (by omega) r]; congr 1; omega
theorem body_head {a : Int} (a0 : 0 < a) : bodyL a ≠ [] := by
  intro h
  have := pd_body (f := 0) a0
  rw [h] at this
  simp [pdL] at this
/-- The text of a duration is read as the duration. -/
theorem dur_back {n : Int} (h : linB n = true) : durV (durL n) = n ∧ durE (durL n) = 0 := by
  obtain ⟨l0, l1⟩ := linB_iff.1 h
  have key : ∀ a : Int, 0 < a → pdL (bodyL a).length.succ false 0 true 0 (bodyL a) = some a := by
    intro a a0
    have := pd_body (f := (bodyL a).length) a0
    rw [pd_fuel _ ((bodyL a).length + 6) false 0 true 0 _ (by omega) (by omega)]; exact this
  by_cases z : n = 0
  · subst z
    decide
  · by_cases s : n < 0
    · have e : durL n = 45 :: 80 :: bodyL (-n) := by unfold durL; rw [if_pos h, if_neg z, if_pos s, if_pos s]; rfl
      have b := body_head (a := -n) (by omega)
      have p : durP (45 :: 80 :: bodyL (-n)) = some (-n) := by
        have hb : durB (45 :: 80 :: bodyL (-n)) = 80 :: bodyL (-n) := by unfold durB; rw [if_pos (by rfl)]; rfl
        unfold durP
        rw [hb]
        show (if (some (80 : UInt8) = some 80 ∧ 2 ≤ (80 :: bodyL (-n)).length) then pdL (80 :: bodyL (-n)).length false 0 true 0 (bodyL (-n)) else none) = _
        rw [if_pos ⟨rfl, by have := List.length_pos_iff.2 b; simp only [List.length_cons]; omega⟩]
        exact key (-n) (by omega)
      rw [e]; unfold durV durE
      rw [p]
      refine ⟨?_, ?_⟩
      · show (if 4398046511104 < -n then 0 else if some (45 : UInt8) = some 45 then - -n else -n) = n
        rw [if_neg (by omega), if_pos rfl]; omega
      · show (if 4398046511104 < -n then (9 : Int) else 0) = 0
        rw [if_neg (by omega)]
    · have e : durL n = 80 :: bodyL n := by unfold durL; rw [if_pos h, if_neg z, if_neg s, if_neg s]; rfl
      have b := body_head (a := n) (by omega)
      have p : durP (80 :: bodyL n) = some n := by
        have hb : durB (80 :: bodyL n) = 80 :: bodyL n := by unfold durB; rw [if_neg (by simp)]
        unfold durP
        rw [hb]
        show (if (some (80 : UInt8) = some 80 ∧ 2 ≤ (80 :: bodyL n).length) then pdL (80 :: bodyL n).length false 0 true 0 (bodyL n) else none) = _
        rw [if_pos ⟨rfl, by have := List.length_pos_iff.2 b; simp only [List.length_cons]; omega⟩]
        exact key n (by omega)
      rw [e]; unfold durV durE
      rw [p]
      refine ⟨?_, ?_⟩
      · show (if 4398046511104 < n then 0 else if some (80 : UInt8) = some 45 then -n else n) = n
        rw [if_neg (by omega), if_neg (by decide)]
      · show (if 4398046511104 < n then (9 : Int) else 0) = 0
        rw [if_neg (by omega)]
end Go.Proofs.YtehbegjocdahmaaGreatDoor
