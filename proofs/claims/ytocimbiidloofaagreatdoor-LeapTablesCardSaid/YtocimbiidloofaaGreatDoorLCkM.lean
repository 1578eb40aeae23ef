/- Plain facts on times of day, instants, rounding, texts of moments, durations. No program is mentioned. -/
import Derived.Test.YtocimbiidloofaaGreatDoorLDig

import Derived.Test.YtocimbiidloofaaGreatDoorLCal

namespace Go.Proofs.YtocimbiidloofaaGreatDoor

open Go.RowKit

set_option linter.unusedVariables false


/-- A time of day is valid. -/
def vldT (h m s : Int) : Bool := (decide (0 ≤ h) && decide (h < 24)) && ((decide (0 ≤ m) && decide (m < 60)) && (decide (0 ≤ s) && decide (s < 60)))
theorem vldT_iff {h m s : Int} : vldT h m s = true ↔ (0 ≤ h ∧ h < 24) ∧ (0 ≤ m ∧ m < 60) ∧ 0 ≤ s ∧ s < 60 := by unfold vldT; simp [and_assoc]
def secT (h m s : Int) : Int := 3600 * h + 60 * m + s
theorem secT_bd {h m s : Int} (v : vldT h m s = true) : 0 ≤ secT h m s ∧ secT h m s < 86400 := by
  have := vldT_iff.1 v; unfold secT; omega
/-- The time of day of a second. -/
def tH (n : Int) : Int := n / 3600
def tM (n : Int) : Int := n / 60 % 60
def tS (n : Int) : Int := n % 60
theorem time_back {n : Int} (n0 : 0 ≤ n) (n1 : n < 86400) : vldT (tH n) (tM n) (tS n) = true ∧ secT (tH n) (tM n) (tS n) = n := by
  rw [vldT_iff]; unfold tH tM tS secT; omega
theorem time_forth {h m s : Int} (v : vldT h m s = true) : tH (secT h m s) = h ∧ tM (secT h m s) = m ∧ tS (secT h m s) = s := by
  have := vldT_iff.1 v; unfold tH tM tS secT; omega
/-- An instant. -/
def insB (t : Int) : Bool := decide (-62135596800 ≤ t ∧ t < 253402300800)
theorem insB_iff {t : Int} : insB t = true ↔ -62135596800 ≤ t ∧ t < 253402300800 := by unfold insB; simp
theorem ins_split {t : Int} (h : insB t = true) : (-719162 ≤ t / 86400 ∧ t / 86400 < 2932897) ∧ 0 ≤ t % 86400 ∧ t % 86400 < 86400 ∧ 86400 * (t / 86400) + t % 86400 = t := by
  have := insB_iff.1 h; omega
theorem ins_join {d s : Int} (d0 : -719162 ≤ d) (d1 : d < 2932897) (s0 : 0 ≤ s) (s1 : s < 86400) : insB (86400 * d + s) = true ∧ (86400 * d + s) / 86400 = d ∧ (86400 * d + s) % 86400 = s := by
  rw [insB_iff]; omega
/-- The line. -/
def linB (n : Int) : Bool := decide (-4398046511104 ≤ n ∧ n ≤ 4398046511104)
theorem linB_iff {n : Int} : linB n = true ↔ -4398046511104 ≤ n ∧ n ≤ 4398046511104 := by unfold linB; simp
/-- Rounding. -/
def rndV (n u k : Int) : Int := if k = 2 ∧ n % u ≠ 0 ∨ k = 3 ∧ u ≤ 2 * (n % u) then n - n % u + u else n - n % u
/-- A number with its multiple below. -/
theorem low_of {n u : Int} (u0 : 0 < u) : ∃ q : Int, n = u * q + n % u ∧ 0 ≤ n % u ∧ n % u < u := ⟨n / u, by have := Int.mul_ediv_add_emod n u; omega, Int.emod_nonneg n (by omega), Int.emod_lt_of_pos n u0⟩
theorem low_uniq {n u q r : Int} (u0 : 0 < u) (h : n = u * q + r) (r0 : 0 ≤ r) (r1 : r < u) : n % u = r := by
  rw [h, Int.mul_add_emod_self_left]; exact Int.emod_eq_of_lt r0 r1
theorem low_le {n m u : Int} (u0 : 0 < u) (h : n ≤ m) : n - n % u = m - m % u ∨ n - n % u + u ≤ m - m % u := by
  obtain ⟨q, e, a, b⟩ := low_of (n := n) u0
  obtain ⟨q', e', a', b'⟩ := low_of (n := m) u0
  rcases Int.lt_trichotomy q q' with l | rfl | l
  · right
    have : u * (q + 1) ≤ u * q' := Int.mul_le_mul_of_nonneg_left (by omega) (by omega)
    rw [Int.mul_add] at this; omega
  · left; omega
  · exfalso
    have : u * (q' + 1) ≤ u * q := Int.mul_le_mul_of_nonneg_left (by omega) (by omega)
    rw [Int.mul_add] at this; omega
theorem rnd_mod {n u k : Int} (u0 : 0 < u) : rndV n u k % u = 0 := by
  obtain ⟨q, e, a, b⟩ := low_of (n := n) u0
  unfold rndV
  split
  · exact low_uniq (q := q + 1) u0 (by rw [Int.mul_add]; omega) (by omega) u0
  · exact low_uniq (q := q) u0 (by omega) (by omega) u0
theorem rnd_near {n u k : Int} (u0 : 0 < u) (k0 : 1 ≤ k) (k1 : k ≤ 3) : rndV n u k - n < u ∧ n - rndV n u k < u := by
  obtain ⟨q, e, a, b⟩ := low_of (n := n) u0
  unfold rndV
  split <;> omega
theorem rnd_again {n u k : Int} (u0 : 0 < u) (h : n % u = 0) : rndV n u k = n := by
  unfold rndV; rw [h]; split <;> omega
theorem rnd_mono {n m u k : Int} (u0 : 0 < u) (k0 : 1 ≤ k) (k1 : k ≤ 3) (h : n ≤ m) : rndV n u k ≤ rndV m u k := by
  obtain ⟨q, e, a, b⟩ := low_of (n := n) u0
  obtain ⟨q', e', a', b'⟩ := low_of (n := m) u0
  have l := low_le u0 h
  unfold rndV
  split <;> split <;> omega
/-- Up and down are mirror images. -/
theorem rnd_mirror {n u : Int} (u0 : 0 < u) : rndV (-n) u 2 = -rndV n u 1 := by
  obtain ⟨q, e, a, b⟩ := low_of (n := n) u0
  have h : (-n) % u = if n % u = 0 then 0 else u - n % u := by
    by_cases z : n % u = 0
    · rw [if_pos z]; exact low_uniq (q := -q) u0 (by rw [Int.mul_neg]; omega) (by omega) u0
    · rw [if_neg z]; exact low_uniq (q := -q - 1) u0 (by rw [Int.mul_sub, Int.mul_neg]; omega) (by omega) (by omega)
  unfold rndV
  rw [h]
  by_cases z : n % u = 0
  · rw [if_pos z]; simp [z]
  · rw [if_neg z, if_pos (by left; omega), if_neg (by omega)]; omega
theorem rnd_half {n u : Int} (u0 : 0 < u) : rndV n u 3 - n ≤ n - rndV n u 1 ∧ rndV n u 1 ≤ rndV n u 3 ∧ (rndV n u 3 = rndV n u 1 ↔ 2 * (n - rndV n u 1) < u) := by
  obtain ⟨q, e, a, b⟩ := low_of (n := n) u0
  have h1 : rndV n u 1 = n - n % u := by unfold rndV; rw [if_neg (by omega)]
  rw [h1]
  unfold rndV
  split <;> omega

/-- The size of a letter's unit, and its place in the order; 0 where there is none. -/
def unitV (c : UInt8) (t : Bool) : Int := if c = 68 ∧ t = false then 86400 else if c = 72 ∧ t = true then 3600 else if c = 77 ∧ t = true then 60 else if c = 83 ∧ t = true then 1 else 0
def unitP (c : UInt8) (t : Bool) : Int := if c = 68 ∧ t = false then 1 else if c = 72 ∧ t = true then 2 else if c = 77 ∧ t = true then 3 else if c = 83 ∧ t = true then 4 else 0
/-- The parts of a duration: whether T was read, the last place, whether a number must follow, the sum; what is left. The fuel is above what is left. -/
def pdL : Nat → Bool → Int → Bool → Int → List UInt8 → Option Int
  | 0, _, _, _, _, _ => none
  | _ + 1, _, _, o, n, [] => if o then none else some n
  | f + 1, t, p, o, n, c :: r =>
    if c = 84 then (if t then none else pdL f true p true n r)
    else if (c :: r).dropWhile isDig = [] ∨ (c :: r).takeWhile isDig = [] then none
    else if unitP (((c :: r).dropWhile isDig).headD 0) t ≤ p then none
    else pdL f t (unitP (((c :: r).dropWhile isDig).headD 0) t) false (n + valD 0 ((c :: r).takeWhile isDig) * unitV (((c :: r).dropWhile isDig).headD 0) t) ((c :: r).dropWhile isDig).tail
theorem drop_len (l : List UInt8) : (l.dropWhile isDig).length ≤ l.length := by
  induction l with
  | nil => simp
  | cons c r ih => rw [List.dropWhile_cons]; split <;> simp <;> omega
/-- More fuel changes nothing. -/
theorem pd_fuel : ∀ (f g : Nat) (t : Bool) (p : Int) (o : Bool) (n : Int) (l : List UInt8), l.length < f → l.length < g → pdL f t p o n l = pdL g t p o n l
  | 0, g, t, p, o, n, l, h, _ => by omega
  | f + 1, 0, t, p, o, n, l, _, h => by omega
  | f + 1, g + 1, t, p, o, n, [], _, _ => by simp [pdL]
  | f + 1, g + 1, t, p, o, n, c :: r, h, k => by
    simp only [List.length_cons] at h k
    unfold pdL
    by_cases e : c = 84
    · rw [if_pos e, if_pos e, pd_fuel f g true p true n r (by omega) (by omega)]
    · rw [if_neg e, if_neg e]
      have dl := drop_len (c :: r)
      by_cases z : (c :: r).dropWhile isDig = [] ∨ (c :: r).takeWhile isDig = []
      · rw [if_pos z, if_pos z]
      · rw [if_neg z, if_neg z]
        have tl : ((c :: r).dropWhile isDig).tail.length < (c :: r).length := by
          have : (c :: r).dropWhile isDig ≠ [] := fun e => z (.inl e)
          have := List.length_pos_iff.2 this
          rw [List.length_tail]; omega
        simp only [List.length_cons] at tl
        rw [pd_fuel f g t (unitP (((c :: r).dropWhile isDig).headD 0) t) false _ ((c :: r).dropWhile isDig).tail (by omega) (by omega)]
theorem while_app {ds : List UInt8} {u : UInt8} {r : List UInt8} (h : ds.all isDig = true) (hu : isDig u = false) : (ds ++ u :: r).takeWhile isDig = ds ∧ (ds ++ u :: r).dropWhile isDig = u :: r := by
  induction ds with
  | nil => simp [hu]
  | cons c l ih =>
    rw [List.all_cons, Bool.and_eq_true] at h
    obtain ⟨a, b⟩ := ih h.2
    refine ⟨?_, ?_⟩
    · rw [List.cons_append, List.takeWhile_cons, if_pos h.1, a]
    · rw [List.cons_append, List.dropWhile_cons, if_pos h.1, b]
/-- One part is read. -/
theorem pd_part {f : Nat} {t : Bool} {p : Int} {o : Bool} {n : Int} {ds : List UInt8} {u : UInt8} {r : List UInt8} (h0 : ds ≠ []) (h : ds.all isDig = true) (hu : isDig u = false) (hp : p < unitP u t) :
    pdL (f + 1) t p o n (ds ++ u :: r) = pdL f t (unitP u t) false (n + valD 0 ds * unitV u t) r := by
  match ds, h0 with
  | c :: l, _ =>
    have hc := h
    rw [List.all_cons, Bool.and_eq_true] at hc
    have c84 : c ≠ 84 := by
      intro e; subst e; exact absurd hc.1 (by decide)
    obtain ⟨a, b⟩ := while_app (r := r) h hu
    rw [List.cons_append] at a b
    show pdL (f + 1) t p o n (c :: (l ++ u :: r)) = _
    conv => lhs; unfold pdL
    rw [if_neg c84, a, b, if_neg (by simp)]
    show (if unitP u t ≤ p then none else pdL f t (unitP u t) false (n + valD 0 (c :: l) * unitV u t) r) = _
    rw [if_neg (by omega)]
theorem pd_T {f : Nat} {p : Int} {o : Bool} {n : Int} {r : List UInt8} : pdL (f + 1) false p o n (84 :: r) = pdL f true p true n r := by
  show (if (84 : UInt8) = 84 then (if false = true then none else pdL f true p true n r) else _) = _
  rw [if_pos rfl, if_neg (by decide)]
theorem pd_end {f : Nat} {t : Bool} {p : Int} {n : Int} : pdL (f + 1) t p false n [] = some n := by
  show (if false = true then none else some n) = _
  rw [if_neg (by decide)]
/-- Decimal digits are digits, and spell the number. -/
theorem dec_val : ∀ n : Nat, valD 0 (Lib.decDigits n) = n ∧ (Lib.decDigits n).all isDig = true ∧ Lib.decDigits n ≠ [] := by
  intro n
  induction n using Nat.strongRecOn with
  | ind n ih =>
    by_cases h : n < 10
    · rw [dec_small h]
      have a := dgt_nat (D := (n : Int)) (by omega) (by omega)
      have b := dgt_dig (D := (n : Int)) (by omega) (by omega)
      refine ⟨?_, by simp [b], by simp⟩
      show 10 * 0 + (((dgt (n : Int)).toNat : Int) - 48) = n
      rw [a]; omega
    · rw [dec_step (by omega)]
      obtain ⟨p, q, r⟩ := ih (n / 10) (by omega)
      have a := dgt_nat (D := (n : Int) % 10) (by omega) (by omega)
      have b := dgt_dig (D := (n : Int) % 10) (by omega) (by omega)
      refine ⟨?_, by rw [List.all_append, q]; simp [b], by simp⟩
      rw [valD_append, p]
      show 10 * ((n / 10 : Nat) : Int) + (((dgt ((n : Int) % 10)).toNat : Int) - 48) = n
      rw [a]; omega
/-- A number with a letter; nothing for 0. -/
def partL (n : Int) (c : UInt8) : List UInt8 := if n = 0 then [] else Lib.decDigits n.toNat ++ [c]
def restL (a : Int) : List UInt8 := partL (a / 3600 % 24) 72 ++ (partL (a / 60 % 60) 77 ++ partL (a % 60) 83)
def bodyL (a : Int) : List UInt8 := partL (a / 86400) 68 ++ (if restL a = [] then [] else 84 :: restL a)
/-- The text of a duration. -/
def durL (n : Int) : List UInt8 :=
  if linB n then (if n = 0 then [80, 84, 48, 83] else (if n < 0 then [45, 80] else [80]) ++ bodyL (if n < 0 then -n else n)) else []
/-- What a text of a duration means: the value, and the error number. -/
def durB (l : List UInt8) : List UInt8 := if l.head? = some 45 then l.tail else l
def durP (l : List UInt8) : Option Int := if (durB l).head? = some 80 ∧ 2 ≤ (durB l).length then pdL ((durB l).length) false 0 true 0 (durB l).tail else none
def durV (l : List UInt8) : Int := match durP l with | none => 0 | some n => if 4398046511104 < n then 0 else if l.head? = some 45 then -n else n
def durE (l : List UInt8) : Int := match durP l with | none => 3 | some n => if 4398046511104 < n then 9 else 0
theorem pd_opt {f : Nat} {t : Bool} {p : Int} {o : Bool} {n x : Int} {c : UInt8} {r : List UInt8} (x0 : 0 < x) (hc : isDig c = false) (hp : p < unitP c t) :
    pdL (f + 1) t p o n (partL x c ++ r) = pdL f t (unitP c t) false (n + x * unitV c t) r := by
  obtain ⟨a, b, d⟩ := dec_val x.toNat
  unfold partL
  rw [if_neg (by omega), List.append_assoc, List.cons_append, List.nil_append, pd_part d b hc hp, a]
  congr 3; omega
theorem partL_zero (c : UInt8) : partL 0 c = [] := by unfold partL; rw [if_pos rfl]
theorem partL_pos {x : Int} {c : UInt8} (h : 0 < x) : partL x c ≠ [] := by unfold partL; rw [if_neg (by omega)]; simp
/-- The time's parts are read. -/
theorem pd_rest {f : Nat} {n a : Int} {p : Int} (a0 : 0 ≤ a) (hp : p ≤ 1) (h : restL a ≠ []) : pdL (f + 4) true p true n (restL a) = some (n + a % 86400) := by
  have e : a % 86400 = 3600 * (a / 3600 % 24) + 60 * (a / 60 % 60) + a % 60 := by omega
  rw [e]
  unfold restL at *
  have h0 : 0 ≤ a / 3600 % 24 := by omega
  have m0 : 0 ≤ a / 60 % 60 := by omega
  have s0 : 0 ≤ a % 60 := by omega
  generalize a / 3600 % 24 = H at *
  generalize a / 60 % 60 = M at *
  generalize a % 60 = S at *
  have u2 : unitP 72 true = 2 ∧ unitV 72 true = 3600 := by decide
  have u3 : unitP 77 true = 3 ∧ unitV 77 true = 60 := by decide
  have u4 : unitP 83 true = 4 ∧ unitV 83 true = 1 := by decide
  have sl : ∀ (f : Nat) (p : Int) (o : Bool) (n : Int), p < 4 → (0 < S ∨ o = false) → pdL (f + 2) true p o n (partL S 83) = some (n + S) := by
    intro f p o n q k
    by_cases z : S = 0
    · subst z
      rw [partL_zero]
      rcases k with k | rfl
      · omega
      · rw [pd_end]; simp
    · have := pd_opt (f := f + 1) (t := true) (p := p) (o := o) (n := n) (x := S) (c := 83) (r := []) (by omega) (by decide) (by rw [u4.1]; exact q)
      rw [List.append_nil] at this
      rw [this, u4.2, pd_end]; simp
  have ml : ∀ (f : Nat) (p : Int) (o : Bool) (n : Int), p < 3 → (0 < M ∨ 0 < S ∨ o = false) → pdL (f + 3) true p o n (partL M 77 ++ partL S 83) = some (n + 60 * M + S) := by
    intro f p o n q k
    by_cases z : M = 0
    · subst z
      rw [partL_zero, List.nil_append, sl (f + 1) p o n (by omega) (k.elim (fun q => absurd q (by omega)) id)]; congr 1; omega
    · rw [pd_opt (f := f + 2) (by omega) (by decide) (by rw [u3.1]; exact q), u3.1, u3.2, sl f 3 false _ (by omega) (.inr rfl)]; congr 1; omega
  by_cases z : H = 0
  · subst z
    rw [partL_zero, List.nil_append] at *
    have k : 0 < M ∨ 0 < S := by
      rcases Int.lt_or_le 0 M with q | q
      · exact .inl q
      · right
        have : M = 0 := by omega
        subst this
        rcases Int.lt_or_le 0 S with q' | q'
        · exact q'
        · have : S = 0 := by omega
          subst this
          exact absurd (by rw [partL_zero, partL_zero]; rfl) h
    rw [ml (f + 1) p true n (by omega) (k.elim .inl fun q => .inr (.inl q))]; congr 1; omega
  · rw [pd_opt (f := f + 3) (by omega) (by decide) (by rw [u2.1]; omega), u2.1, u2.2, ml f 2 false _ (by omega) (.inr (.inr rfl))]; congr 1; omega
theorem rest_nil {a : Int} (a0 : 0 ≤ a) (h : restL a = []) : a % 86400 = 0 := by
  unfold restL at h
  simp only [List.append_eq_nil_iff] at h
  have k : ∀ (x : Int) (c : UInt8), 0 ≤ x → partL x c = [] → x = 0 := by
    intro x c x0 e
    rcases Int.lt_or_le 0 x with q | q
    · exact absurd e (partL_pos q)
    · omega
  have h1 := k _ _ (by omega) h.1
  have h2 := k _ _ (by omega) h.2.1
  have h3 := k _ _ (by omega) h.2.2
  omega
/-- A body is read as its number. -/
theorem pd_body {f : Nat} {a : Int} (a0 : 0 < a) : pdL (f + 6) false 0 true 0 (bodyL a) = some a := by
  have u1 : unitP 68 false = 1 ∧ unitV 68 false = 86400 := by decide
  unfold bodyL
  by_cases d : a / 86400 = 0
  · rw [d, partL_zero, List.nil_append]
    by_cases r : restL a = []
    · have := rest_nil (by omega) r; omega
    · rw [if_neg r, pd_T, pd_rest (f := f + 1) (by omega) (by omega) r]; congr 1; omega
  · rw [pd_opt (f := f + 5) (by omega) (by decide) (by rw [u1.1]; omega), u1.1, u1.2]
    by_cases r : restL a = []
    · have := rest_nil (by omega) r
      rw [if_pos r, pd_end]; congr 1; omega
    · rw [if_neg r, pd_T, pd_rest (f := f) (by omega) (by omega) r]; congr 1; omega
theorem body_head {a : Int} (a0 : 0 < a) : bodyL a ≠ [] := by
  intro h
  have := pd_body (f := 0) a0
  rw [h] at this
  simp [pdL] at this
/-- The text of a duration is read as the duration. -/
theorem dur_back {n : Int} (h : linB n = true) : durV (durL n) = n ∧ durE (durL n) = 0 := by
  obtain ⟨l0, l1⟩ := linB_iff.1 h
  have key : ∀ a : Int, 0 < a → pdL (bodyL a).length.succ false 0 true 0 (bodyL a) = some a := by
    intro a a0
    have := pd_body (f := (bodyL a).length) a0
    rw [pd_fuel _ ((bodyL a).length + 6) false 0 true 0 _ (by omega) (by omega)]; exact this
  by_cases z : n = 0
  · subst z
    decide
  · by_cases s : n < 0
    · have e : durL n = 45 :: 80 :: bodyL (-n) := by unfold durL; rw [if_pos h, if_neg z, if_pos s, if_pos s]; rfl
      have b := body_head (a := -n) (by omega)
      have p : durP (45 :: 80 :: bodyL (-n)) = some (-n) := by
        have hb : durB (45 :: 80 :: bodyL (-n)) = 80 :: bodyL (-n) := by unfold durB; rw [if_pos (by rfl)]; rfl
        unfold durP
        rw [hb]
        show (if (some (80 : UInt8) = some 80 ∧ 2 ≤ (80 :: bodyL (-n)).length) then pdL (80 :: bodyL (-n)).length false 0 true 0 (bodyL (-n)) else none) = _
        rw [if_pos ⟨rfl, by have := List.length_pos_iff.2 b; simp only [List.length_cons]; omega⟩]
        exact key (-n) (by omega)
      rw [e]; unfold durV durE
      rw [p]
      refine ⟨?_, ?_⟩
      · show (if 4398046511104 < -n then 0 else if some (45 : UInt8) = some 45 then - -n else -n) = n
        rw [if_neg (by omega), if_pos rfl]; omega
      · show (if 4398046511104 < -n then (9 : Int) else 0) = 0
        rw [if_neg (by omega)]
    · have e : durL n = 80 :: bodyL n := by unfold durL; rw [if_pos h, if_neg z, if_neg s, if_neg s]; rfl
      have b := body_head (a := n) (by omega)
      have p : durP (80 :: bodyL n) = some n := by
        have hb : durB (80 :: bodyL n) = 80 :: bodyL n := by unfold durB; rw [if_neg (by simp)]
        unfold durP
        rw [hb]
        show (if (some (80 : UInt8) = some 80 ∧ 2 ≤ (80 :: bodyL n).length) then pdL (80 :: bodyL n).length false 0 true 0 (bodyL n) else none) = _
        rw [if_pos ⟨rfl, by have := List.length_pos_iff.2 b; simp only [List.length_cons]; omega⟩]
        exact key n (by omega)
      rw [e]; unfold durV durE
      rw [p]
      refine ⟨?_, ?_⟩
      · show (if 4398046511104 < n then 0 else if some (80 : UInt8) = some 45 then -n else n) = n
        rw [if_neg (by omega), if_neg (by decide)]
      · show (if 4398046511104 < n then (9 : Int) else 0) = 0
        rw [if_neg (by omega)]

/-- The parts with the given units, numbers read by v: the sum, and what is left. -/
def sumG (v : List UInt8 → Int) : List (UInt8 × Int) → Int → List UInt8 → Int × List UInt8
  | [], n, l => (n, l)
  | (c, u) :: us, n, l =>
    if l.dropWhile isDig = [] then (n, l)
    else if l.takeWhile isDig = [] ∨ (l.dropWhile isDig).headD 0 ≠ c then sumG v us n l
    else sumG v us (n + v (l.takeWhile isDig) * u) (l.dropWhile isDig).tail
def resG (x : Int × List UInt8) : Option Int := if x.2 = [] then some x.1 else none
def usT (p : Int) : List (UInt8 × Int) := if p ≤ 1 then [(72, 3600), (77, 60), (83, 1)] else if p = 2 then [(77, 60), (83, 1)] else if p = 3 then [(83, 1)] else []
theorem sumG_nil (v : List UInt8 → Int) (us : List (UInt8 × Int)) (n : Int) : sumG v us n [] = (n, []) := by
  cases us with
  | nil => rfl
  | cons a r => obtain ⟨c, u⟩ := a; simp [sumG]
theorem sumG_miss {v : List UInt8 → Int} {us : List (UInt8 × Int)} {n : Int} {l : List UInt8} {c : UInt8} {u : Int} (h : l.dropWhile isDig ≠ []) (k : (l.dropWhile isDig).headD 0 ≠ c) :
    sumG v ((c, u) :: us) n l = sumG v us n l := by
  conv => lhs; unfold sumG
  rw [if_neg h, if_pos (.inr k)]
theorem sumG_skip {v : List UInt8 → Int} {us : List (UInt8 × Int)} {n : Int} {l : List UInt8} {c : UInt8} {u : Int} (h : l.dropWhile isDig ≠ []) (k : l.takeWhile isDig = []) :
    sumG v ((c, u) :: us) n l = sumG v us n l := by
  conv => lhs; unfold sumG
  rw [if_neg h, if_pos (.inl k)]
theorem sumG_hit {v : List UInt8 → Int} {us : List (UInt8 × Int)} {n : Int} {l : List UInt8} {c : UInt8} {u : Int} (h : l.dropWhile isDig ≠ []) (h2 : l.takeWhile isDig ≠ []) (k : (l.dropWhile isDig).headD 0 = c) :
    sumG v ((c, u) :: us) n l = sumG v us (n + v (l.takeWhile isDig) * u) (l.dropWhile isDig).tail := by
  conv => lhs; unfold sumG
  rw [if_neg h, if_neg (fun x => x.elim (fun x => h2 x) (fun x => x k))]
theorem sumG_stop {v : List UInt8 → Int} {us : List (UInt8 × Int)} {n : Int} {l : List UInt8} (h : l.dropWhile isDig = []) : sumG v us n l = (n, l) := by
  cases us with
  | nil => rfl
  | cons a r =>
    obtain ⟨c, u⟩ := a
    conv => lhs; unfold sumG
    rw [if_pos h]
theorem sumG_none {v : List UInt8 → Int} : ∀ {us : List (UInt8 × Int)} {n : Int} {l : List UInt8} (k : l.takeWhile isDig = []), sumG v us n l = (n, l) := by
  intro us n l k
  by_cases h : l.dropWhile isDig = []
  · exact sumG_stop h
  · induction us with
    | nil => rfl
    | cons a r ih => obtain ⟨c, u⟩ := a; rw [sumG_skip h k, ih]
theorem sumG_add {v : List UInt8 → Int} : ∀ (us : List (UInt8 × Int)) (n m : Int) (l : List UInt8), sumG v us (n + m) l = (n + (sumG v us m l).1, (sumG v us m l).2)
  | [], n, m, l => rfl
  | (c, u) :: us, n, m, l => by
    unfold sumG
    split
    · rfl
    · split
      · exact sumG_add us n m l
      · rw [Int.add_assoc]; exact sumG_add us n _ _
theorem pd_step {f : Nat} {p : Int} {o : Bool} {n : Int} {l : List UInt8} (hl : l ≠ []) :
    pdL (f + 1) true p o n l = if l.dropWhile isDig = [] ∨ l.takeWhile isDig = [] then none
      else if unitP ((l.dropWhile isDig).headD 0) true ≤ p then none
      else pdL f true (unitP ((l.dropWhile isDig).headD 0) true) false (n + valD 0 (l.takeWhile isDig) * unitV ((l.dropWhile isDig).headD 0) true) (l.dropWhile isDig).tail := by
  match l, hl with
  | c :: r, _ =>
    conv => lhs; unfold pdL
    by_cases e : c = 84
    · subst e
      rw [if_pos rfl, if_pos rfl, if_pos (.inr (by rw [List.takeWhile_cons, if_neg (by decide)]))]
    · rw [if_neg e]
theorem unitP_time (d : UInt8) : (d = 72 ∧ unitP d true = 2 ∧ unitV d true = 3600) ∨ (d = 77 ∧ unitP d true = 3 ∧ unitV d true = 60) ∨ (d = 83 ∧ unitP d true = 4 ∧ unitV d true = 1) ∨ (d ≠ 72 ∧ d ≠ 77 ∧ d ≠ 83 ∧ unitP d true = 0) := by
  by_cases a : d = 72
  · subst a; exact .inl (by decide)
  · by_cases b : d = 77
    · subst b; exact .inr (.inl (by decide))
    · by_cases c : d = 83
      · subst c; exact .inr (.inr (.inl (by decide)))
      · refine .inr (.inr (.inr ⟨a, b, c, ?_⟩))
        unfold unitP
        rw [if_neg (by simp), if_neg (by simp [a]), if_neg (by simp [b]), if_neg (by simp [c])]
theorem tail_len {l : List UInt8} (h : l.dropWhile isDig ≠ []) : (l.dropWhile isDig).tail.length < l.length := by
  have a := drop_len l
  have := List.length_pos_iff.2 h
  rw [List.length_tail]; omega
/-- The time's parts, read one after another. -/
theorem pd_times : ∀ (f : Nat) (p : Int) (o : Bool) (n : Int) (l : List UInt8), 0 ≤ p → l.length < f →
    pdL f true p o n l = if l = [] then (if o then none else some n) else resG (sumG (valD 0) (usT p) n l)
  | 0, _, _, _, _, _, h => by omega
  | f + 1, p, o, n, l, p0, h => by
    by_cases hl : l = []
    · subst hl; rw [if_pos rfl]; rfl
    · rw [pd_step hl, if_neg hl]
      by_cases z : l.dropWhile isDig = [] ∨ l.takeWhile isDig = []
      · rw [if_pos z]
        have e : sumG (valD 0) (usT p) n l = (n, l) := by
          rcases z with z | z
          · exact sumG_stop z
          · exact sumG_none z
        rw [e]; unfold resG; rw [if_neg hl]
      · have z1 : l.dropWhile isDig ≠ [] := fun x => z (.inl x)
        have z2 : l.takeWhile isDig ≠ [] := fun x => z (.inr x)
        have tl := tail_len z1
        have miss : ∀ m : Int, resG (m, l) = none := fun m => by unfold resG; rw [if_neg hl]
        have ih := fun q (q0 : 0 ≤ q) m => pd_times f q false m (l.dropWhile isDig).tail q0 (by omega)
        have fin : ∀ us m, (if (l.dropWhile isDig).tail = [] then (if false = true then none else some m) else resG (sumG (valD 0) us m (l.dropWhile isDig).tail)) = resG (sumG (valD 0) us m (l.dropWhile isDig).tail) := by
          intro us m
          by_cases x : (l.dropWhile isDig).tail = []
          · rw [if_pos x, x, sumG_nil]; rfl
          · rw [if_neg x]
        rw [if_neg z]
        rcases unitP_time ((l.dropWhile isDig).headD 0) with ⟨a, b, c⟩ | ⟨a, b, c⟩ | ⟨a, b, c⟩ | ⟨a, b, c, d⟩
        · rw [b, c]
          have n1 : (l.dropWhile isDig).headD 0 ≠ 77 := by rw [a]; decide
          have n2 : (l.dropWhile isDig).headD 0 ≠ 83 := by rw [a]; decide
          by_cases q : (2 : Int) ≤ p
          · rw [if_pos q]
            unfold usT
            rw [if_neg (by omega)]
            by_cases q2 : p = 2
            · rw [if_pos q2, sumG_miss z1 n1, sumG_miss z1 n2]; exact (miss _).symm
            · rw [if_neg q2]
              by_cases q3 : p = 3
              · rw [if_pos q3, sumG_miss z1 n2]; exact (miss _).symm
              · rw [if_neg q3]; exact (miss _).symm
          · rw [if_neg q, ih 2 (by omega), fin]
            unfold usT
            rw [if_pos (show p ≤ 1 by omega), sumG_hit z1 z2 a, if_neg (show ¬ ((2 : Int) ≤ 1) by omega), if_pos rfl]
        · rw [b, c]
          have n1 : (l.dropWhile isDig).headD 0 ≠ 72 := by rw [a]; decide
          have n2 : (l.dropWhile isDig).headD 0 ≠ 83 := by rw [a]; decide
          by_cases q : (3 : Int) ≤ p
          · rw [if_pos q]
            unfold usT
            rw [if_neg (by omega), if_neg (by omega)]
            by_cases q3 : p = 3
            · rw [if_pos q3, sumG_miss z1 n2]; exact (miss _).symm
            · rw [if_neg q3]; exact (miss _).symm
          · rw [if_neg q, ih 3 (by omega), fin]
            unfold usT
            rw [if_neg (show ¬ ((3 : Int) ≤ 1) by omega), if_neg (show ¬ ((3 : Int) = 2) by omega), if_pos (show (3 : Int) = 3 from rfl)]
            by_cases q1 : p ≤ 1
            · rw [if_pos q1, sumG_miss z1 n1, sumG_hit z1 z2 a]
            · rw [if_neg q1, if_pos (show p = 2 by omega), sumG_hit z1 z2 a]
        · rw [b, c]
          have n1 : (l.dropWhile isDig).headD 0 ≠ 72 := by rw [a]; decide
          have n2 : (l.dropWhile isDig).headD 0 ≠ 77 := by rw [a]; decide
          by_cases q : (4 : Int) ≤ p
          · rw [if_pos q]
            unfold usT
            rw [if_neg (by omega), if_neg (by omega), if_neg (by omega)]
            exact (miss _).symm
          · rw [if_neg q, ih 4 (by omega), fin]
            unfold usT
            rw [if_neg (show ¬ ((4 : Int) ≤ 1) by omega), if_neg (show ¬ ((4 : Int) = 2) by omega), if_neg (show ¬ ((4 : Int) = 3) by omega)]
            by_cases q1 : p ≤ 1
            · rw [if_pos q1, sumG_miss z1 n1, sumG_miss z1 n2, sumG_hit z1 z2 a]
            · rw [if_neg q1]
              by_cases q2 : p = 2
              · rw [if_pos q2, sumG_miss z1 n2, sumG_hit z1 z2 a]
              · rw [if_neg q2, if_pos (show p = 3 by omega), sumG_hit z1 z2 a]
        · rw [d, if_pos p0]
          unfold usT
          by_cases q1 : p ≤ 1
          · rw [if_pos q1, sumG_miss z1 a, sumG_miss z1 b, sumG_miss z1 c]; exact (miss _).symm
          · rw [if_neg q1]
            by_cases q2 : p = 2
            · rw [if_pos q2, sumG_miss z1 b, sumG_miss z1 c]; exact (miss _).symm
            · rw [if_neg q2]
              by_cases q3 : p = 3
              · rw [if_pos q3, sumG_miss z1 c]; exact (miss _).symm
              · rw [if_neg q3]; exact (miss _).symm
/-- What stands before the first T, and from it on. -/
def dayL (l : List UInt8) : List UInt8 := l.takeWhile (· != 84)
def timL (l : List UInt8) : List UInt8 := l.dropWhile (· != 84)
def usD : List (UInt8 × Int) := [(68, 86400)]
def cutG (v : List UInt8 → Int) (l : List UInt8) : Option Int :=
  if (dayL l = [] ∧ timL l = []) ∨ (timL l ≠ [] ∧ (timL l).tail = []) then none
  else (resG (sumG v usD 0 (dayL l))).bind fun a => (resG (sumG v (usT 0) 0 (timL l).tail)).bind fun b => some (a + b)
theorem tim_head {l : List UInt8} (h : timL l ≠ []) : timL l = 84 :: (timL l).tail := by
  induction l with
  | nil => exact absurd rfl h
  | cons c r ih =>
    unfold timL at *
    rw [List.dropWhile_cons] at *
    by_cases e : c = 84
    · subst e; rw [if_neg (by decide)]; rfl
    · rw [if_pos (by simpa using e)] at *; exact ih h
theorem day_all (l : List UInt8) : ∀ x ∈ dayL l, x ≠ 84 := by
  intro x hx
  induction l with
  | nil => simp [dayL] at hx
  | cons c r ih =>
    unfold dayL at *
    rw [List.takeWhile_cons] at hx
    by_cases e : c = 84
    · subst e; rw [if_neg (by decide)] at hx; simp at hx
    · rw [if_pos (by simpa using e)] at hx
      rcases List.mem_cons.1 hx with rfl | hx
      · exact e
      · exact ih hx
theorem day_tim (l : List UInt8) : dayL l ++ timL l = l := List.takeWhile_append_dropWhile
theorem unitP_day (d : UInt8) : unitP d false = if d = 68 then 1 else 0 := by
  unfold unitP
  by_cases a : d = 68
  · rw [if_pos ⟨a, rfl⟩, if_pos a]
  · rw [if_neg (by simp [a]), if_neg (by simp), if_neg (by simp), if_neg (by simp), if_neg a]
/-- Digits of a text that begins with something, up to a T behind it. -/
theorem while_cut {d : List UInt8} {t : List UInt8} (ht : t = [] ∨ ∃ r, t = 84 :: r) :
    (d ++ t).takeWhile isDig = d.takeWhile isDig ∧ (d ++ t).dropWhile isDig = d.dropWhile isDig ++ t := by
  have h84 : isDig 84 = false := by decide
  induction d with
  | nil =>
    rcases ht with rfl | ⟨r, rfl⟩
    · exact ⟨rfl, rfl⟩
    · simp [h84]
  | cons c r ih =>
    rw [List.cons_append, List.takeWhile_cons, List.takeWhile_cons, List.dropWhile_cons, List.dropWhile_cons, ih.1, ih.2]
    by_cases k : isDig c = true
    · simp [k]
    · rw [if_neg k, if_neg k, if_neg k]; exact ⟨rfl, rfl⟩
theorem pd_late {f : Nat} {n : Int} {c : UInt8} {r : List UInt8} (hc : c ≠ 84) : pdL (f + 1) false 1 false n (c :: r) = none := by
  conv => lhs; unfold pdL
  rw [if_neg hc]
  split
  · rfl
  · rw [if_pos]
    rw [unitP_day]; split <;> omega
/-- A duration's body is read by a cut at the first T. -/
theorem pd_cut (l : List UInt8) : pdL (l.length + 1) false 0 true 0 l = cutG (valD 0) l := by
  have e := day_tim l
  have hd := day_all l
  have ht : timL l = [] ∨ ∃ r, timL l = 84 :: r := by
    by_cases h : timL l = []
    · exact .inl h
    · exact .inr ⟨_, tim_head h⟩
  unfold cutG
  conv => lhs; rw [← e]
  rw [List.length_append]
  generalize dayL l = d at *
  generalize timL l = t at *
  clear e
  have times : ∀ (f : Nat) (p : Int) (n : Int) (r : List UInt8), 0 ≤ p → p ≤ 1 → r.length < f → pdL f true p true n r = if r = [] then none else (resG (sumG (valD 0) (usT 0) 0 r)).bind fun b => some (n + b) := by
    intro f p n r p0 p1 h
    rw [pd_times f p true n r p0 h]
    by_cases z : r = []
    · rw [if_pos z, if_pos z]; rfl
    · rw [if_neg z, if_neg z]
      have u : usT p = usT 0 := by unfold usT; rw [if_pos p1, if_pos (by omega)]
      rw [u]
      have := sumG_add (v := valD 0) (usT 0) n 0 r
      rw [Int.add_zero] at this
      rw [this]
      unfold resG
      by_cases y : (sumG (valD 0) (usT 0) 0 r).2 = []
      · rw [if_pos y, if_pos y]; rfl
      · rw [if_neg y, if_neg y]; rfl
  cases d with
  | nil =>
    rcases ht with rfl | ⟨r, rfl⟩
    · rfl
    · rw [List.nil_append, List.length_nil, List.length_cons, Nat.zero_add, pd_T, times _ 0 0 r (by omega) (by omega) (by omega)]
      by_cases z : r = []
      · rw [if_pos z, if_pos (.inr ⟨by simp, z⟩)]
      · rw [if_neg z, if_neg (fun x => x.elim (fun q => absurd q.2 (by simp)) (fun q => z q.2))]
        rfl
  | cons c d' =>
    have hc : c ≠ 84 := hd c (by simp)
    obtain ⟨w1, w2⟩ := while_cut (d := c :: d') ht
    have shape : ∀ f, pdL (f + 1) false 0 true 0 ((c :: d') ++ t) = if ((c :: d').dropWhile isDig ++ t) = [] ∨ (c :: d').takeWhile isDig = [] then none
        else if unitP (((c :: d').dropWhile isDig ++ t).headD 0) false ≤ 0 then none
        else pdL f false (unitP (((c :: d').dropWhile isDig ++ t).headD 0) false) false (0 + valD 0 ((c :: d').takeWhile isDig) * unitV (((c :: d').dropWhile isDig ++ t).headD 0) false) ((c :: d').dropWhile isDig ++ t).tail := by
      intro f
      rw [← w1, ← w2]
      rw [List.cons_append]
      conv => lhs; unfold pdL
      rw [if_neg hc]
    rw [shape]
    clear shape w1 w2
    by_cases c1 : (c :: d').takeWhile isDig = []
    · rw [if_pos (.inr c1), sumG_none c1]
      split
      · rfl
      · rfl
    · have nz : ∀ m : Int, resG (m, c :: d') = none := fun m => by unfold resG; rw [if_neg (by simp)]
      by_cases c2 : (c :: d').dropWhile isDig = []
      · rw [sumG_stop c2, nz, c2, List.nil_append]
        have r0 : (if ((c :: d' : List UInt8) = [] ∧ t = []) ∨ (t ≠ [] ∧ t.tail = []) then none else (none : Option Int).bind fun a => (resG (sumG (valD 0) (usT 0) 0 t.tail)).bind fun b => some (a + b)) = none := by split <;> rfl
        rw [r0]
        rcases ht with rfl | ⟨r, rfl⟩
        · rw [if_pos (.inl rfl)]
        · rw [if_neg (fun x => x.elim (fun x => absurd x (by simp)) (fun x => c1 x)), if_pos (by rw [unitP_day]; show (if (84 : UInt8) = 68 then (1 : Int) else 0) ≤ 0; decide)]
      · have hne : (c :: d').dropWhile isDig ++ t ≠ [] := by intro x; exact c2 (List.append_eq_nil_iff.1 x).1
        rw [if_neg (fun x => x.elim (fun x => hne x) (fun x => c1 x))]
        have hh : ((c :: d').dropWhile isDig ++ t).headD 0 = ((c :: d').dropWhile isDig).headD 0 := by
          cases q : (c :: d').dropWhile isDig with
          | nil => exact absurd q c2
          | cons a b => rfl
        have htl : ((c :: d').dropWhile isDig ++ t).tail = ((c :: d').dropWhile isDig).tail ++ t := by
          cases q : (c :: d').dropWhile isDig with
          | nil => exact absurd q c2
          | cons a b => rfl
        rw [hh, htl, unitP_day]
        have tl := tail_len c2
        have hd2 : ∀ x ∈ ((c :: d').dropWhile isDig).tail, x ≠ 84 := fun x hx => hd x ((List.dropWhile_sublist isDig).subset (List.mem_of_mem_tail hx))
        unfold usD
        by_cases k : ((c :: d').dropWhile isDig).headD 0 = 68
        · rw [sumG_hit c2 c1 k, k, if_pos rfl, if_neg (by omega)]
          generalize ((c :: d').dropWhile isDig).tail = y at *
          have uv : unitV 68 false = 86400 := by decide
          rw [uv]
          generalize 0 + valD 0 ((c :: d').takeWhile isDig) * 86400 = V
          show pdL _ false 1 false V (y ++ t) = _
          cases y with
          | cons a b =>
            have r0 : resG (sumG (valD 0) [] V (a :: b)) = none := rfl
            rw [r0]
            simp only [List.length_cons] at *
            rw [show d'.length + 1 + t.length = (d'.length + t.length) + 1 by omega, List.cons_append, pd_late (hd2 a (by simp))]
            split <;> rfl
          | nil =>
            have r0 : resG (sumG (valD 0) [] V []) = some V := rfl
            rw [r0, List.nil_append]
            rcases ht with rfl | ⟨r, rfl⟩
            · rw [if_neg (fun x => x.elim (fun q => absurd q.1 (by simp)) (fun q => q.1 rfl))]
              rw [show (c :: d').length + ([] : List UInt8).length = (d'.length) + 1 by simp]
              show some V = (some V).bind fun a => (resG (sumG (valD 0) (usT 0) 0 [])).bind fun b => some (a + b)
              rw [sumG_nil]
              show some V = some (V + 0)
              rw [Int.add_zero]
            · rw [show (c :: d').length + (84 :: r).length = (d'.length + r.length + 1) + 1 by simp; omega, pd_T, times _ 1 V r (by omega) (by omega) (by omega)]
              by_cases z : r = []
              · rw [if_pos z, if_pos (.inr ⟨by simp, z⟩)]
              · rw [if_neg z, if_neg (fun x => x.elim (fun q => absurd q.2 (by simp)) (fun q => z q.2))]
                rfl
        · rw [if_neg k, if_pos (by omega), sumG_miss c2 k]
          show none = (if _ then none else (resG (0, c :: d')).bind _)
          rw [nz]
          split <;> rfl
/-- A number cut off behind the line's end. -/
def capV (l : List UInt8) : Int := if 4398046511104 < valD 0 l then 4398046511105 else valD 0 l
def Ap (x y : Int) : Prop := x = y ∨ 4398046511104 < x ∧ 4398046511104 < y
theorem cap_ap (l : List UInt8) : Ap (capV l) (valD 0 l) := by unfold capV Ap; split <;> omega
theorem ap_mul {x y a b u : Int} (h : Ap x y) (k : Ap a b) (x0 : 0 ≤ x) (y0 : 0 ≤ y) (a0 : 0 ≤ a) (b0 : 0 ≤ b) (hu : u = 86400 ∨ u = 3600 ∨ u = 60 ∨ u = 1) : Ap (x + a * u) (y + b * u) ∧ 0 ≤ x + a * u ∧ 0 ≤ y + b * u := by
  unfold Ap at *
  rcases hu with rfl | rfl | rfl | rfl <;> omega
theorem sum_ap {g h : List UInt8 → Int} (hg : ∀ l, l.all isDig = true → Ap (g l) (h l) ∧ 0 ≤ g l ∧ 0 ≤ h l) : ∀ (us : List (UInt8 × Int)) (hus : ∀ x ∈ us, x.2 = 86400 ∨ x.2 = 3600 ∨ x.2 = 60 ∨ x.2 = 1) (x y : Int) (l : List UInt8), Ap x y → 0 ≤ x → 0 ≤ y →
    (sumG g us x l).2 = (sumG h us y l).2 ∧ Ap (sumG g us x l).1 (sumG h us y l).1 ∧ 0 ≤ (sumG g us x l).1 ∧ 0 ≤ (sumG h us y l).1
  | [], hus, x, y, l, k, x0, y0 => ⟨rfl, k, x0, y0⟩
  | (c, u) :: us, hus, x, y, l, k, x0, y0 => by
    unfold sumG
    by_cases a : l.dropWhile isDig = []
    · rw [if_pos a, if_pos a]; exact ⟨rfl, k, x0, y0⟩
    · rw [if_neg a, if_neg a]
      have hus' := fun x hx => hus x (List.mem_cons_of_mem _ hx)
      by_cases b : l.takeWhile isDig = [] ∨ (l.dropWhile isDig).headD 0 ≠ c
      · rw [if_pos b, if_pos b]; exact sum_ap hg us hus' x y l k x0 y0
      · rw [if_neg b, if_neg b]
        obtain ⟨g1, g2, g3⟩ := hg (l.takeWhile isDig) List.all_takeWhile
        obtain ⟨p, q, r⟩ := ap_mul k g1 x0 y0 g2 g3 (hus (c, u) (by simp))
        exact sum_ap hg us hus' _ _ _ p q r

theorem digL_dig : ∀ (k : Nat) (n : Int), (digL k n).all isDig = true
  | 0, n => rfl
  | k + 1, n => by
    unfold digL
    rw [List.all_append, digL_dig k]
    have := dgt_dig (D := n % 10) (by omega) (by omega)
    simp [this]
theorem valD_pos {l : List UInt8} (h : l.all isDig = true) : 0 ≤ valD 0 l := by
  have := (valD_bd l 0 h (by omega)).1
  rw [Int.zero_mul] at this; exact this
theorem dgt_back {c : UInt8} (h : isDig c = true) : dgt ((c.toNat : Int) - 48) = c := by
  obtain ⟨a, b⟩ := isDig_iff.1 h
  apply UInt8.toNat_inj.1
  rw [dgt_nat (by omega) (by omega)]; omega
/-- Digits are the text of their number. -/
theorem digL_back : ∀ (r : List UInt8), r.all isDig = true → digL r.length (valD 0 r.reverse) = r.reverse
  | [], _ => rfl
  | c :: r, h => by
    rw [List.all_cons, Bool.and_eq_true] at h
    have ih := digL_back r h.2
    have hr : r.reverse.all isDig = true := by rw [List.all_reverse]; exact h.2
    have p := valD_pos hr
    obtain ⟨a, b⟩ := isDig_iff.1 h.1
    rw [List.reverse_cons, valD_append, List.length_cons]
    show digL r.length ((10 * valD 0 r.reverse + ((c.toNat : Int) - 48)) / 10) ++ [dgt ((10 * valD 0 r.reverse + ((c.toNat : Int) - 48)) % 10)] = _
    generalize valD 0 r.reverse = v at *
    rw [show (10 * v + ((c.toNat : Int) - 48)) / 10 = v by omega, show (10 * v + ((c.toNat : Int) - 48)) % 10 = (c.toNat : Int) - 48 by omega, ih, dgt_back h.1]
theorem digL_of {l : List UInt8} {k : Nat} (h : l.all isDig = true) (hk : l.length = k) : digL k (valD 0 l) = l := by
  have := digL_back l.reverse (by rw [List.all_reverse]; exact h)
  rw [List.reverse_reverse, List.length_reverse, hk] at this
  exact this
theorem valD_digL {k : Nat} {n : Int} (n0 : 0 ≤ n) (n1 : n < 10 ^ k) : valD 0 (digL k n) = n := by
  have e := digL_of (digL_dig k n) (digL_length k n)
  have a := valD_pos (digL_dig k n)
  have b := (valD_bd (digL k n) 0 (digL_dig k n) (by omega)).2
  rw [digL_length] at b
  have := (digL_order k (valD 0 (digL k n)) n a (by omega) n0 n1).2
  rw [e] at this
  simpa using this.symm
/-- The form of a moment's text. -/
def mfAt (l : List UInt8) (k : Nat) : Bool := if k = 4 ∨ k = 7 then l.getD k 0 == 45 else if k = 10 then l.getD k 0 == 84 else if k = 13 ∨ k = 16 then l.getD k 0 == 58 else isDig (l.getD k 0)
def mfL (l : List UInt8) : Bool := decide (l.length = 19) && (List.range 19).all (mfAt l)
def MfUpto (l : List UInt8) (k : Nat) : Prop := ∀ i, i < k → mfAt l i = true
theorem mf_no {l : List UInt8} {k : Nat} (hk : k < 19) (h : mfAt l k = false) : mfL l = false := by
  unfold mfL
  rw [Bool.and_eq_false_iff]
  right
  rw [← Bool.not_eq_true, List.all_eq_true]
  intro x
  have := x k (List.mem_range.2 hk)
  rw [h] at this; exact absurd this (by decide)
theorem mf_yes {l : List UInt8} (hl : l.length = 19) (h : MfUpto l 19) : mfL l = true := by
  unfold mfL
  rw [decide_eq_true hl, Bool.true_and, List.all_eq_true]
  intro x hx
  exact h x (List.mem_range.1 hx)
theorem mf_of {l : List UInt8} (h : mfL l = true) : l.length = 19 ∧ ∀ i, i < 19 → mfAt l i = true := by
  unfold mfL at h
  rw [Bool.and_eq_true, decide_eq_true_eq, List.all_eq_true] at h
  exact ⟨h.1, fun i hi => h.2 i (List.mem_range.2 hi)⟩
/-- A number of a text. -/
def fld (l : List UInt8) (a n : Nat) : Int := valD 0 ((l.drop a).take n)
theorem mf_fld {l : List UInt8} (h : mfL l = true) (a n : Nat) (ha : a + n ≤ 19) (hn : ∀ i, i < n → a + i ≠ 4 ∧ a + i ≠ 7 ∧ a + i ≠ 10 ∧ a + i ≠ 13 ∧ a + i ≠ 16) : ((l.drop a).take n).all isDig = true ∧ ((l.drop a).take n).length = n := by
  obtain ⟨hl, hf⟩ := mf_of h
  have len : ((l.drop a).take n).length = n := by rw [List.length_take, List.length_drop]; omega
  refine ⟨List.all_eq_true.2 fun x hx => ?_, len⟩
  obtain ⟨i, hi, rfl⟩ := List.getElem_of_mem hx
  rw [len] at hi
  have q := hf (a + i) (by omega)
  obtain ⟨k1, k2, k3, k4, k5⟩ := hn i hi
  unfold mfAt at q
  rw [if_neg (by omega), if_neg k3, if_neg (by omega), List.getD_eq_getElem?_getD, List.getElem?_eq_getElem (by omega)] at q
  simpa using q
/-- The text of a moment. -/
def timT (h m s : Int) : List UInt8 := digL 2 h ++ [58] ++ digL 2 m ++ [58] ++ digL 2 s
def textM (y o d h m s : Int) : List UInt8 := if vld y o d && vldT h m s then textD y o d ++ [84] ++ timT h m s else []
theorem un {α : Type} {l : List α} {n : Nat} (h : l.length = n + 1) : ∃ c r, l = c :: r ∧ r.length = n := by
  cases l with
  | nil => simp at h
  | cons c r => exact ⟨c, r, rfl, by simpa using h⟩
theorem mf_list {l : List UInt8} (h : mfL l = true) : l = (l.drop 0).take 4 ++ [45] ++ (l.drop 5).take 2 ++ [45] ++ (l.drop 8).take 2 ++ [84] ++ ((l.drop 11).take 2 ++ [58] ++ (l.drop 14).take 2 ++ [58] ++ (l.drop 17).take 2) := by
  obtain ⟨hl, hf⟩ := mf_of h
  obtain ⟨c0, l0, rfl, hl0⟩ := un hl
  obtain ⟨c1, l1, rfl, hl1⟩ := un hl0
  obtain ⟨c2, l2, rfl, hl2⟩ := un hl1
  obtain ⟨c3, l3, rfl, hl3⟩ := un hl2
  obtain ⟨c4, l4, rfl, hl4⟩ := un hl3
  obtain ⟨c5, l5, rfl, hl5⟩ := un hl4
  obtain ⟨c6, l6, rfl, hl6⟩ := un hl5
  obtain ⟨c7, l7, rfl, hl7⟩ := un hl6
  obtain ⟨c8, l8, rfl, hl8⟩ := un hl7
  obtain ⟨c9, l9, rfl, hl9⟩ := un hl8
  obtain ⟨c10, l10, rfl, hl10⟩ := un hl9
  obtain ⟨c11, l11, rfl, hl11⟩ := un hl10
  obtain ⟨c12, l12, rfl, hl12⟩ := un hl11
  obtain ⟨c13, l13, rfl, hl13⟩ := un hl12
  obtain ⟨c14, l14, rfl, hl14⟩ := un hl13
  obtain ⟨c15, l15, rfl, hl15⟩ := un hl14
  obtain ⟨c16, l16, rfl, hl16⟩ := un hl15
  obtain ⟨c17, l17, rfl, hl17⟩ := un hl16
  obtain ⟨c18, l18, rfl, hl18⟩ := un hl17
  obtain rfl := List.length_eq_zero_iff.1 hl18
  have a := hf 4 (by omega)
  have b := hf 7 (by omega)
  have c := hf 10 (by omega)
  have d := hf 13 (by omega)
  have e := hf 16 (by omega)
  unfold mfAt at a b c d e
  simp at a b c d e
  subst a b c d e
  rfl
theorem mtext_forth {l : List UInt8} (h : mfL l = true) (hv : vld (fld l 0 4) (fld l 5 2) (fld l 8 2) = true) (ht : vldT (fld l 11 2) (fld l 14 2) (fld l 17 2) = true) :
    textM (fld l 0 4) (fld l 5 2) (fld l 8 2) (fld l 11 2) (fld l 14 2) (fld l 17 2) = l := by
  have e := mf_list h
  unfold textM
  rw [hv, ht]
  show textD _ _ _ ++ [84] ++ timT _ _ _ = l
  unfold textD timT
  rw [if_pos hv]
  unfold fld
  obtain ⟨p1, q1⟩ := mf_fld h 0 4 (by omega) (by omega)
  obtain ⟨p2, q2⟩ := mf_fld h 5 2 (by omega) (by omega)
  obtain ⟨p3, q3⟩ := mf_fld h 8 2 (by omega) (by omega)
  obtain ⟨p4, q4⟩ := mf_fld h 11 2 (by omega) (by omega)
  obtain ⟨p5, q5⟩ := mf_fld h 14 2 (by omega) (by omega)
  obtain ⟨p6, q6⟩ := mf_fld h 17 2 (by omega) (by omega)
  rw [digL_of p1 q1, digL_of p2 q2, digL_of p3 q3, digL_of p4 q4, digL_of p5 q5, digL_of p6 q6]
  exact e.symm
theorem digL_2 (n : Int) : ∃ a b, digL 2 n = [a, b] ∧ isDig a = true ∧ isDig b = true := by
  refine ⟨_, _, digL_two n, dgt_dig (by omega) (by omega), dgt_dig (by omega) (by omega)⟩
theorem mtext_back {y o d h m s : Int} (hv : vld y o d = true) (ht : vldT h m s = true) :
    mfL (textM y o d h m s) = true ∧ fld (textM y o d h m s) 0 4 = y ∧ fld (textM y o d h m s) 5 2 = o ∧ fld (textM y o d h m s) 8 2 = d ∧ fld (textM y o d h m s) 11 2 = h ∧ fld (textM y o d h m s) 14 2 = m ∧ fld (textM y o d h m s) 17 2 = s := by
  obtain ⟨y0, y1, o0, o1, d0, d1⟩ := vld_bd hv
  obtain ⟨⟨t0, t1⟩, ⟨t2, t3⟩, t4, t5⟩ := vldT_iff.1 ht
  have e : textM y o d h m s = digL 4 y ++ [45] ++ digL 2 o ++ [45] ++ digL 2 d ++ [84] ++ (digL 2 h ++ [58] ++ digL 2 m ++ [58] ++ digL 2 s) := by
    unfold textM; rw [hv, ht]; show textD _ _ _ ++ [84] ++ timT _ _ _ = _
    unfold textD timT; rw [if_pos hv]
  rw [e]
  have vy := valD_digL (k := 4) (n := y) (by omega) (by omega)
  have vo := valD_digL (k := 2) (n := o) (by omega) (by omega)
  have vd := valD_digL (k := 2) (n := d) (by omega) (by omega)
  have vh := valD_digL (k := 2) (n := h) (by omega) (by omega)
  have vm := valD_digL (k := 2) (n := m) (by omega) (by omega)
  have vs := valD_digL (k := 2) (n := s) (by omega) (by omega)
  have gy : ∃ a b c e, digL 4 y = [a, b, c, e] ∧ isDig a = true ∧ isDig b = true ∧ isDig c = true ∧ isDig e = true :=
    ⟨_, _, _, _, digL_four y, dgt_dig (by omega) (by omega), dgt_dig (by omega) (by omega), dgt_dig (by omega) (by omega), dgt_dig (by omega) (by omega)⟩
  obtain ⟨a1, a2, a3, a4, ey, i1, i2, i3, i4⟩ := gy
  obtain ⟨b1, b2, eo, j1, j2⟩ := digL_2 o
  obtain ⟨c1, c2, ed, k1, k2⟩ := digL_2 d
  obtain ⟨d1', d2', eh, l1, l2⟩ := digL_2 h
  obtain ⟨e1, e2, em, m1, m2⟩ := digL_2 m
  obtain ⟨f1, f2, es, n1, n2⟩ := digL_2 s
  rw [ey] at vy; rw [eo] at vo; rw [ed] at vd; rw [eh] at vh; rw [em] at vm; rw [es] at vs
  rw [ey, eo, ed, eh, em, es]
  refine ⟨?_, vy, vo, vd, vh, vm, vs⟩
  refine mf_yes rfl fun i hi => ?_
  have c : i = 0 ∨ i = 1 ∨ i = 2 ∨ i = 3 ∨ i = 4 ∨ i = 5 ∨ i = 6 ∨ i = 7 ∨ i = 8 ∨ i = 9 ∨ i = 10 ∨ i = 11 ∨ i = 12 ∨ i = 13 ∨ i = 14 ∨ i = 15 ∨ i = 16 ∨ i = 17 ∨ i = 18 := by omega
  rcases c with rfl | rfl | rfl | rfl | rfl | rfl | rfl | rfl | rfl | rfl | rfl | rfl | rfl | rfl | rfl | rfl | rfl | rfl | rfl <;> simp [mfAt, i1, i2, i3, i4, j1, j2, k1, k2, l1, l2, m1, m2, n1, n2]
theorem digL_no (k : Nat) (n : Int) : (digL k n).count 58 = 0 := by
  rw [List.count_eq_zero]
  intro hx
  have := List.all_eq_true.1 (digL_dig k n) 58 hx
  exact absurd this (by decide)
/-- Two colons, 19 bytes. -/
theorem mtext_size {y o d h m s : Int} (hv : vld y o d = true) (ht : vldT h m s = true) : (textM y o d h m s).length = 19 ∧ (textM y o d h m s).count 58 = 2 := by
  unfold textM; rw [hv, ht]
  show (textD y o d ++ [84] ++ timT h m s).length = 19 ∧ (textD y o d ++ [84] ++ timT h m s).count 58 = 2
  unfold textD timT; rw [if_pos hv]
  simp only [List.length_append, digL_length, List.length_cons, List.length_nil, List.count_append, digL_no]
  decide
theorem dtext_cmp {y m d y' m' d' : Int} (h : vld y m d = true) (h' : vld y' m' d' = true) :
    Op.bytesLess (textD y m d) (textD y' m' d') = decide (dayN y m d < dayN y' m' d') ∧ (textD y m d == textD y' m' d') = (dayN y m d == dayN y' m' d') := by
  have back := text_back h
  have back' := text_back h'
  refine ⟨?_, ?_⟩
  · rw [text_less h h', Bool.eq_iff_iff]
    simp only [Bool.or_eq_true, Bool.and_eq_true, decide_eq_true_eq, beq_iff_eq]
    constructor
    · intro k; exact day_lt h h' (by omega)
    · intro k
      by_cases q : y < y' ∨ y = y' ∧ (m < m' ∨ m = m' ∧ d < d')
      · omega
      · exfalso
        by_cases z : y = y' ∧ m = m' ∧ d = d'
        · obtain ⟨rfl, rfl, rfl⟩ := z; omega
        · have := day_lt h' h (by omega); omega
  · rw [Bool.eq_iff_iff, beq_iff_eq, beq_iff_eq]
    constructor
    · intro e
      rw [e] at back
      obtain ⟨-, a, b, c⟩ := back
      obtain ⟨-, a', b', c'⟩ := back'
      rw [← a, ← b, ← c, a', b', c']
    · intro e
      obtain ⟨rfl, rfl, rfl⟩ := day_inj h h' e
      rfl
theorem time_cmp {h m s h' m' s' : Int} (v : vldT h m s = true) (v' : vldT h' m' s' = true) :
    Op.bytesLess (timT h m s) (timT h' m' s') = decide (secT h m s < secT h' m' s') ∧ (timT h m s == timT h' m' s') = (secT h m s == secT h' m' s') := by
  obtain ⟨⟨t0, t1⟩, ⟨t2, t3⟩, t4, t5⟩ := vldT_iff.1 v
  obtain ⟨⟨t0', t1'⟩, ⟨t2', t3'⟩, t4', t5'⟩ := vldT_iff.1 v'
  obtain ⟨p, q⟩ := digL_order 2 h h' (by omega) (by omega) (by omega) (by omega)
  obtain ⟨p2, q2⟩ := digL_order 2 m m' (by omega) (by omega) (by omega) (by omega)
  obtain ⟨p3, q3⟩ := digL_order 2 s s' (by omega) (by omega) (by omega) (by omega)
  unfold timT secT
  have z : Op.bytesLess [58] [58] = false := by decide
  have z2 : (([58] : List UInt8) == [58]) = true := by decide
  refine ⟨?_, ?_⟩
  · rw [less_append _ _ _ _ (by simp [digL_length]), less_append _ _ _ _ (by simp [digL_length]), less_append _ _ _ _ (by simp [digL_length]), less_append _ _ _ _ (by simp [digL_length])]
    repeat rw [eq_append (by simp [digL_length])]
    rw [p, p2, p3, q, q2, z, z2, Bool.eq_iff_iff]
    simp only [Bool.or_eq_true, Bool.and_eq_true, decide_eq_true_eq, beq_iff_eq, Bool.false_eq_true, and_false, or_false, and_true]
    omega
  · repeat rw [eq_append (by simp [digL_length])]
    rw [q, q2, q3, z2, Bool.eq_iff_iff]
    simp only [Bool.and_eq_true, beq_iff_eq, and_true]
    omega
/-- Texts of moments are ordered as instants. -/
theorem mtext_cmp {y o d h m s y' o' d' h' m' s' : Int} (v : vld y o d = true) (t : vldT h m s = true) (v' : vld y' o' d' = true) (t' : vldT h' m' s' = true) :
    Op.bytesLess (textM y o d h m s) (textM y' o' d' h' m' s') = decide (86400 * dayN y o d + secT h m s < 86400 * dayN y' o' d' + secT h' m' s') ∧
    (textM y o d h m s == textM y' o' d' h' m' s') = (86400 * dayN y o d + secT h m s == 86400 * dayN y' o' d' + secT h' m' s') := by
  obtain ⟨a, b⟩ := dtext_cmp v v'
  obtain ⟨p, q⟩ := time_cmp t t'
  have s0 := secT_bd t
  have s1 := secT_bd t'
  have l : (textD y o d).length = (textD y' o' d').length := by unfold textD; rw [if_pos v, if_pos v']; simp [digL_length]
  have z : Op.bytesLess [84] [84] = false := by decide
  have z2 : (([84] : List UInt8) == [84]) = true := by decide
  have l2 : (textD y o d ++ [84]).length = (textD y' o' d' ++ [84]).length := by simp [l]
  unfold textM
  rw [v, t, v', t']
  show Op.bytesLess (textD y o d ++ [84] ++ timT h m s) (textD y' o' d' ++ [84] ++ timT h' m' s') = _ ∧ (textD y o d ++ [84] ++ timT h m s == textD y' o' d' ++ [84] ++ timT h' m' s') = _
  rw [less_append _ _ _ _ l2, less_append _ _ _ _ l, eq_append l2, eq_append l, a, b, p, q, z, z2]
  generalize dayN y o d = D at *
  generalize dayN y' o' d' = D' at *
  generalize secT h m s = S at *
  generalize secT h' m' s' = S' at *
  refine ⟨?_, ?_⟩
  · rw [Bool.eq_iff_iff]
    simp only [Bool.or_eq_true, Bool.and_eq_true, decide_eq_true_eq, beq_iff_eq, Bool.false_eq_true, and_false, or_false, and_true]
    omega
  · rw [Bool.eq_iff_iff]
    simp only [Bool.and_eq_true, beq_iff_eq, and_true]
    omega
end Go.Proofs.YtocimbiidloofaaGreatDoor
