/- Plain facts: a duration read by a cut at its first T, part by part, with numbers that are cut off at a bound. No program is mentioned. -/
import Derived.Test.YtehbegjocdahmaaGreatDoorCkDur

namespace Go.Proofs.YtehbegjocdahmaaGreatDoor

open Go.RowKit

set_option linter.unusedVariables false

/-- The parts with the given units, numbers read by v: the sum, and what is left. -/
def sumG (v : List UInt8 → Int) : List (UInt8 × Int) → Int → List UInt8 → Int × List UInt8
  | [], n, l => (n, l)
  | (c, u) :: us, n, l =>
    if l.dropWhile isDig = [] then (n, l)
    else if l.takeWhile isDig = [] ∨ (l.dropWhile isDig).headD 0 ≠ c then sumG v us n l
    else sumG v us (n + v (l.takeWhile isDig) * u) (l.dropWhile isDig).tail
def resG (x : Int × List UInt8) : Option Int := if x.2 = [] then some x.1 else none
def usT (p : Int) : List (UInt8 × Int) := if p ≤ 1 then [(72, 3600), (77, 60), (83, 1)] else if p = 2 then [(77, 60), (83, 1)] else if p = 3 then [(83, 1)] else []
theorem sumG_nil (v : List UInt8 → Int) (us : List (UInt8 × Int)) (n : Int) : sumG v us n [] = (n, []) := by
  cases us with
  | nil => rfl
  | cons a r => obtain ⟨c, u⟩ := a; simp [sumG]
theorem sumG_miss {v : List UInt8 → Int} {us : List (UInt8 × Int)} {n : Int} {l : List UInt8} {c : UInt8} {u : Int} (h : l.dropWhile isDig ≠ []) (k : (l.dropWhile isDig).headD 0 ≠ c) :
    sumG v ((c, u) :: us) n l = sumG v us n l := by
  conv => lhs; unfold sumG
  rw [if_neg h, if_pos (.inr k)]
theorem sumG_skip {v : List UInt8 → Int} {us : List (UInt8 × Int)} {n : Int} {l : List UInt8} {c : UInt8} {u : Int} (h : l.dropWhile isDig ≠ []) (k : l.takeWhile isDig = []) :
    sumG v ((c, u) :: us) n l = sumG v us n l := by
  conv => lhs; unfold sumG
  rw [if_neg h, if_pos (.inl k)]
theorem sumG_hit {v : List UInt8 → Int} {us : List (UInt8 × Int)} {n : Int} {l : List UInt8} {c : UInt8} {u : Int} (h : l.dropWhile isDig ≠ []) (h2 : l.takeWhile isDig ≠ []) (k : (l.dropWhile isDig).headD 0 = c) :
    sumG v ((c, u) :: us) n l = sumG v us (n + v (l.takeWhile isDig) * u) (l.dropWhile isDig).tail := by
  conv => lhs; unfold sumG
  rw [if_neg h, if_neg (fun x => x.elim (fun x => h2 x) (fun x => x k))]
theorem sumG_stop {v : List UInt8 → Int} {us : List (UInt8 × Int)} {n : Int} {l : List UInt8} (h : l.dropWhile isDig = []) : sumG v us n l = (n, l) := by
  cases us with
  | nil => rfl
  | cons a r =>
    obtain ⟨c, u⟩ := a
    conv => lhs; unfold sumG
    rw [if_pos h]
theorem sumG_none {v : List UInt8 → Int} : ∀ {us : List (UInt8 × Int)} {n : Int} {l : List UInt8} (k : l.takeWhile isDig = []), sumG v us n l = (n, l) := by
  intro us n l k
  by_cases h : l.dropWhile isDig = []
  · exact sumG_stop h
  · induction us with
    | nil => rfl
    | cons a r ih => obtain ⟨c, u⟩ := a; rw [sumG_skip h k, ih]
theorem sumG_add {v : List UInt8 → Int} : ∀ (us : List (UInt8 × Int)) (n m : Int) (l : List UInt8), sumG v us (n + m) l = (n + (sumG v us m l).1, (sumG v us m l).2)
  | [], n, m, l => rfl
  | (c, u) :: us, n, m, l => by
    unfold sumG
    split
    · rfl
    · split
      · exact sumG_add us n m l
      · rw [Int.add_assoc]; exact sumG_add us n _ _
theorem pd_step {f : Nat} {p : Int} {o : Bool} {n : Int} {l : List UInt8} (hl : l ≠ []) :
    pdL (f + 1) true p o n l = if l.dropWhile isDig = [] ∨ l.takeWhile isDig = [] then none
      else if unitP ((l.dropWhile isDig).headD 0) true ≤ p then none
      else pdL f true (unitP ((l.dropWhile isDig).headD 0) true) false (n + valD 0 (l.takeWhile isDig) * unitV ((l.dropWhile isDig).headD 0) true) (l.dropWhile isDig).tail := by
  match l, hl with
  | c :: r, _ =>
    conv => lhs; unfold pdL
    by_cases e : c = 84
    · subst e
      rw [if_pos rfl, if_pos rfl, if_pos (.inr (by rw [List.takeWhile_cons, if_neg (by decide)]))]
    · rw [if_neg e]
theorem unitP_time (d : UInt8) : (d = 72 ∧ unitP d true = 2 ∧ unitV d true = 3600) ∨ (d = 77 ∧ unitP d true = 3 ∧ unitV d true = 60) ∨ (d = 83 ∧ unitP d true = 4 ∧ unitV d true = 1) ∨ (d ≠ 72 ∧ d ≠ 77 ∧ d ≠ 83 ∧ unitP d true = 0) := by
  by_cases a : d = 72
  · subst a; exact .inl (by decide)
  · by_cases b : d = 77
    · subst b; exact .inr (.inl (by decide))
    · by_cases c : d = 83
      · subst c; exact .inr (.inr (.inl (by decide)))
      · refine .inr (.inr (.inr ⟨a, b, c, ?_⟩))
        unfold unitP
        rw [if_neg (by simp), if_neg (by simp [a]), if_neg (by simp [b]), if_neg (by simp [c])]
theorem tail_len {l : List UInt8} (h : l.dropWhile isDig ≠ []) : (l.dropWhile isDig).tail.length < l.length := by
  have a := drop_len l
  have := List.length_pos_iff.2 h
  rw [List.length_tail]; omega
/-- The time's parts, read one after another. -/
theorem pd_times : ∀ (f : Nat) (p : Int) (o : Bool) (n : Int) (l : List UInt8), 0 ≤ p → l.length < f →
    pdL f true p o n l = if l = [] then (if o then none else some n) else resG (sumG (valD 0) (usT p) n l)
  | 0, _, _, _, _, _, h => by omega
  | f + 1, p, o, n, l, p0, h => by
    by_cases hl : l = []
    · subst hl; rw [if_pos rfl]; rfl
    · rw [pd_step hl, if_neg hl]
      by_cases z : l.dropWhile isDig = [] ∨ l.takeWhile isDig = []
      · rw [if_pos z]
        have e : sumG (valD 0) (usT p) n l = (n, l) := by
          rcases z with z | z
          · exact sumG_stop z
          · exact sumG_none z
        rw [e]; unfold resG; rw [if_neg hl]
      · have z1 : l.dropWhile isDig ≠ [] := fun x => z (.inl x)
        have z2 : l.takeWhile isDig ≠ [] := fun x => z (.inr x)
        have tl := tail_len z1
        have miss : ∀ m : Int, resG (m, l) = none := fun m => by unfold resG; rw [if_neg hl]
        have ih := fun q (q0 : 0 ≤ q) m => pd_times f q false m (l.dropWhile isDig).tail q0 (by omega)
        have fin : ∀ us m, (if (l.dropWhile isDig).tail = [] then (if false = true then none else some m) else resG (sumG (valD 0) us m (l.dropWhile isDig).tail)) = resG (sumG (valD 0) us m (l.dropWhile isDig).tail) := by
          intro us m
          by_cases x : (l.dropWhile isDig).tail = []
          · rw [if_pos x, x, sumG_nil]; rfl
          · rw [if_neg x]
        rw [if_neg z]
        rcases unitP_time ((l.dropWhile isDig).headD 0) with ⟨a, b, c⟩ | ⟨a, b, c⟩ | ⟨a, b, c⟩ | ⟨a, b, c, d⟩
        · rw [b, c]
          have n1 : (l.dropWhile isDig).headD 0 ≠ 77 := by rw [a]; decide
          have n2 : (l.dropWhile isDig).headD 0 ≠ 83 := by rw [a]; decide
          by_cases q : (2 : Int) ≤ p
          · rw [if_pos q]
            unfold usT
            rw [if_neg (by omega)]
            by_cases q2 : p = 2
            · rw [if_pos q2, sumG_miss z1 n1, sumG_miss z1 n2]; exact (miss _).symm
            · rw [if_neg q2]
              by_cases q3 : p = 3
              · rw [if_pos q3, sumG_miss z1 n2]; exact (miss _).symm
              · rw [if_neg q3]; exact (miss _).symm
          · rw [if_neg q, ih 2 (by omega), fin]
            unfold usT
            rw [if_pos (show p ≤ 1 by omega), sumG_hit z1 z2 a, if_neg (show ¬ ((2 : Int) ≤ 1) by omega), if_pos rfl]
        · rw [b, c]
          have n1 : (l.dropWhile isDig).headD 0 ≠ 72 := by rw [a]; decide
          have n2 : (l.dropWhile isDig).headD 0 ≠ 83 := by rw [a]; decide
          by_cases q : (3 : Int) ≤ p
          · rw [if_pos q]
            unfold usT
            rw [if_neg (by omega), if_neg (by omega)]
            by_cases q3 : p = 3
            · rw [if_pos q3, sumG_miss z1 n2]; exact (miss _).symm
            · rw [if_neg q3]; exact (miss _).symm
          · rw [if_neg q, ih 3 (by omega), fin]
            unfold usT
            rw [if_neg (show ¬ ((3 : Int) ≤ 1) by omega), if_neg (show ¬ ((3 : Int) = 2) by omega), if_pos (show (3 : Int) = 3 from rfl)]
            by_cases q1 : p ≤ 1
            · rw [if_pos q1, sumG_miss z1 n1, sumG_hit z1 z2 a]
            · rw [if_neg q1, if_pos (show p = 2 by omega), sumG_hit z1 z2 a]
        · rw [b, c]
          have n1 : (l.dropWhile isDig).headD 0 ≠ 72 := by rw [a]; decide
          have n2 : (l.dropWhile isDig).headD 0 ≠ 77 := by rw [a]; decide
          by_cases q : (4 : Int) ≤ p
          · rw [if_pos q]
            unfold usT
            rw [if_neg (by omega), if_neg (by omega), if_neg (by omega)]
            exact (miss _).symm
          · rw [if_neg q, ih 4 (by omega), fin]
            unfold usT
            rw [if_neg (show ¬ ((4 : Int) ≤ 1) by omega), if_neg (show ¬ ((4 : Int) = 2) by omega), if_neg (show ¬ ((4 : Int) = 3) by omega)]
            by_cases q1 : p ≤ 1
            · rw [if_pos q1, sumG_miss z1 n1, sumG_miss z1 n2, sumG_hit z1 z2 a]
            · rw [if_neg q1]
              by_cases q2 : p = 2
              · rw [if_pos q2, sumG_miss z1 n2, sumG_hit z1 z2 a]
              · rw [if_neg q2, if_pos (show p = 3 by omega), sumG_hit z1 z2 a]
        · rw [d, if_pos p0]
          unfold usT
          by_cases q1 : p ≤ 1
          · rw [if_pos q1, sumG_miss z1 a, sumG_miss z1 b, sumG_miss z1 c]; exact (miss _).symm
          · rw [if_neg q1]
            by_cases q2 : p = 2
            · rw [if_pos q2, sumG_miss z1 b, sumG_miss z1 c]; exact (miss _).symm
            · rw [if_neg q2]
              by_cases q3 : p = 3
              · rw [if_pos q3, sumG_miss z1 c]; exact (miss _).symm
              · rw [if_neg q3]; exact (miss _).symm
/-- What stands before the first T, and from it on. -/
def dayL (l : List UInt8) : List UInt8 := l.takeWhile (· != 84)
def timL (l : List UInt8) : List UInt8 := l.dropWhile (· != 84)
def usD : List (UInt8 × Int) := [(68, 86400)]
def cutG (v : List UInt8 → Int) (l : List UInt8) : Option Int :=
  if (dayL l = [] ∧ timL l = []) ∨ (timL l ≠ [] ∧ (timL l).tail = []) then none
  else (resG (sumG v usD 0 (dayL l))).bind fun a => (resG (sumG v (usT 0) 0 (timL l).tail)).bind fun b => some (a + b)
theorem tim_head {l : List UInt8} (h : timL l ≠ []) : timL l = 84 :: (timL l).tail := by
  induction l with
  | nil => exact absurd rfl h
  | cons c r ih =>
    unfold timL at *
    rw [List.dropWhile_cons] at *
    by_cases e : c = 84
    · subst e; rw [if_neg (by decide)]; rfl
    · rw [if_pos (by simpa using e)] at *; exact ih h
theorem day_all (l : List UInt8) : ∀ x ∈ dayL l, x ≠ 84 := by
  intro x hx
  induction l with
  | nil => simp [dayL] at hx
  | cons c r ih =>
    unfold dayL at *
    rw [List.takeWhile_cons] at hx
    by_cases e : c = 84
    · subst e; rw [if_neg (by decide)] at hx; simp at hx
    · rw [if_pos (by simpa using e)] at hx
      rcases List.mem_cons.1 hx with rfl | hx
      · exact e
      · exact ih hx
theorem day_tim (l : List UInt8) : dayL l ++ timL l = l := List.takeWhile_append_dropWhile
theorem unitP_day (d : UInt8) : unitP d false = if d = 68 then 1 else 0 := by
  unfold unitP
  by_cases a : d = 68
  · rw [if_pos ⟨a, rfl⟩, if_pos a]
  · rw [if_neg (by simp [a]), if_neg (by simp), if_neg (by simp), if_neg (by simp), if_neg a]
/-- Digits of a text that begins with something, up to a T behind it. -/
theorem while_cut {d : List UInt8} {t : List UInt8} (ht : t = [] ∨ ∃ r, t = 84 :: r) :
    (d ++ t).takeWhile isDig = d.takeWhile isDig ∧ (d ++ t).dropWhile isDig = d.dropWhile isDig ++ t := by
  have h84 : isDig 84 = false := by decide
  induction d with
  | nil =>
    rcases ht with rfl | ⟨r, rfl⟩
    · exact ⟨rfl, rfl⟩
    · simp [h84]
  | cons c r ih =>
    rw [List.cons_append, List.takeWhile_cons, List.takeWhile_cons, List.dropWhile_cons, List.dropWhile_cons, ih.1, ih.2]
    by_cases k : isDig c = true
    · simp [k]
    · rw [if_neg k, if_neg k, if_neg k]; exact ⟨rfl, rfl⟩
theorem pd_late {f : Nat} {n : Int} {c : UInt8} {r : List UInt8} (hc : c ≠ 84) : pdL (f + 1) false 1 false n (c :: r) = none := by
  conv => lhs; unfold pdL
  rw [if_neg hc]
  split
  · rfl
  · rw [if_pos]
    rw [unitP_day]; split <;> omega
/-- A duration's body is read by a cut at the first T. -/
theorem pd_cut (l : List UInt8) : pdL (l.length + 1) false 0 true 0 l = cutG (valD 0) l := by
  have e := day_tim l
  have hd := day_all l
  have ht : timL l = [] ∨ ∃ r, timL l = 84 :: r := by
    by_cases h : timL l = []
    · exact .inl h
    · exact .inr ⟨_, tim_head h⟩
  unfold cutG
  conv => lhs; rw [← e]
  rw [List.length_append]
  generalize dayL l = d at *
  generalize timL l = t at *
  clear e
  have times : ∀ (f : Nat) (p : Int) (n : Int) (r : List UInt8), 0 ≤ p → p ≤ 1 → r.length < f → pdL f true p true n r = if r = [] then none else (resG (sumG (valD 0) (usT 0) 0 r)).bind fun b => some (n + b) := by
    intro f p n r p0 p1 h
    rw [pd_times f p true n r p0 h]
    by_cases z : r = []
    · rw [if_pos z, if_pos z]; rfl
    · rw [if_neg z, if_neg z]
      have u : usT p = usT 0 := by unfold usT; rw [if_pos p1, if_pos (by omega)]
      rw [u]
      have := sumG_add (v := valD 0) (usT 0) n 0 r
      rw [Int.add_zero] at this
      rw [this]
      unfold resG
      by_cases y : (sumG (valD 0) (usT 0) 0 r).2 = []
      · rw [if_pos y, if_pos y]; rfl
      · rw [if_neg y, if_neg y]; rfl
  cases d with
  | nil =>
    rcases ht with rfl | ⟨r, rfl⟩
    · rfl
    · rw [List.nil_append, List.length_nil, List.length_cons, Nat.zero_add, pd_T, times _ 0 0 r (by omega) (by omega) (by omega)]
      by_cases z : r = []
      · rw [if_pos z, if_pos (.inr ⟨by simp, z⟩)]
      · rw [if_neg z, if_neg (fun x => x.elim (fun q => absurd q.2 (by simp)) (fun q => z q.2))]
        rfl
  | cons c d' =>
    have hc : c ≠ 84 := hd c (by simp)
    obtain ⟨w1, w2⟩ := while_cut (d := c :: d') ht
    have shape : ∀ f, pdL (f + 1) false 0 true 0 ((c :: d') ++ t) = if ((c :: d').dropWhile isDig ++ t) = [] ∨ (c :: d').takeWhile isDig = [] then none
        else if unitP (((c :: d').dropWhile isDig ++ t).headD 0) false ≤ 0 then none
        else pdL f false (unitP (((c :: d').dropWhile isDig ++ t).headD 0) false) false (0 + valD 0 ((c :: d').takeWhile isDig) * unitV (((c :: d').dropWhile isDig ++ t).headD 0) false) ((c :: d').dropWhile isDig ++ t).tail := by
      intro f
      rw [← w1, ← w2]
      rw [List.cons_append]
      conv => lhs; unfold pdL
      rw [if_neg hc]
    rw [shape]
    clear shape w1 w2
    by_cases c1 : (c :: d').takeWhile isDig = []
    · rw [if_pos (.inr c1), sumG_none c1]
      split
      · rfl
      · rfl
    · have nz : ∀ m : Int, resG (m, c :: d') = none := fun m => by unfold resG; rw [if_neg (by simp)]
      by_cases c2 : (c :: d').dropWhile isDig = []
      · rw [sumG_stop c2, nz, c2, List.nil_append]
        have r0 : (if ((c :: d' : List UInt8) = [] ∧ t = []) ∨ (t ≠ [] ∧ t.tail = []) then none else (none : Option Int).bind fun a => (resG (sumG (valD 0) (usT 0) 0 t.tail)).bind fun b => some (a + b)) = none := by split <;> rfl
        rw [r0]
        rcases ht with rfl | ⟨r, rfl⟩
        · rw [if_pos (.inl rfl)]
        · rw [if_neg (fun x => x.elim (fun x => absurd x (by simp)) (fun x => c1 x)), if_pos (by rw [unitP_day]; show (if (84 : UInt8) = 68 then (1 : Int) else 0) ≤ 0; decide)]
      · have hne : (c :: d').dropWhile isDig ++ t ≠ [] := by intro x; exact c2 (List.append_eq_nil_iff.1 x).1
        rw [if_neg (fun x => x.elim (fun x => hne x) (fun x => c1 x))]
        have hh : ((c :: d').dropWhile isDig ++ t).headD 0 = ((c :: d').dropWhile isDig).headD 0 := by
          cases q : (c :: d').dropWhile isDig with
          | nil => exact absurd q c2
          | cons a b => rfl
        have htl : ((c :: d').dropWhile isDig ++ t).tail = ((c :: d').dropWhile isDig).tail ++ t := by
          cases q : (c :: d').dropWhile isDig with
          | nil => exact absurd q c2
          | cons a b => rfl
        rw [hh, htl, unitP_day]
        have tl := tail_len c2
        have hd2 : ∀ x ∈ ((c :: d').dropWhile isDig).tail, x ≠ 84 := fun x hx => hd x ((List.dropWhile_sublist isDig).subset (List.mem_of_mem_tail hx))
        unfold usD
        by_cases k : ((c :: d').dropWhile isDig).headD 0 = 68
        · rw [sumG_hit c2 c1 k, k, if_pos rfl, if_neg (by omega)]
          generalize ((c :: d').dropWhile isDig).tail = y at *
          have uv : unitV 68 false = 86400 := by decide
          rw [uv]
          generalize 0 + valD 0 ((c :: d').takeWhile isDig) * 86400 = V
          show pdL _ false 1 false V (y ++ t) = _
          cases y with
          | cons a b =>
            have r0 : resG (sumG (valD 0) [] V (a :: b)) = none := rfl
            rw [r0]
            simp only [List.length_cons] at *
            rw [show d'.length + 1 + t.length = (d'.length + t.length) + 1 by omega, List.cons_append, pd_late (hd2 a (by simp))]
            split <;> rfl
          | nil =>
            have r0 : resG (sumG (valD 0) [] V []) = some V := rfl
            rw [r0, List.nil_append]
            rcases ht with rfl | ⟨r, rfl⟩
            · rw [if_neg (fun x => x.elim (fun q => absurd q.1 (by simp)) (fun q => q.1 rfl))]
              rw [show (c :: d').length + ([] : List UInt8).length = (d'.length) + 1 by simp]
              show some V = (some V).bind fun a => (resG (sumG (valD 0) (usT 0) 0 [])).bind fun b => some (a + b)
              rw [sumG_nil]
              show some V = some (V + 0)
              rw [Int.add_zero]
            · rw [show (c :: d').length + (84 :: r).length = (d'.length + r.length + 1) + 1 by simp; omega, pd_T, times _ 1 V r (by omega) (by omega) (by omega)]
              by_cases z : r = []
              · rw [if_pos z, if_pos (.inr ⟨by simp, z⟩)]
              · rw [if_neg z, if_neg (fun x => x.elim (fun q => absurd q.2 (by simp)) (fun q => z q.2))]
                rfl
        · rw [if_neg k, if_pos (by omega), sumG_miss c2 k]
          show none = (if _ then none else (resG (0, c :: d')).bind _)
          rw [nz]
          split <;> rfl
/-- A number cut off behind the line's end. -/
def capV (l : List UInt8) : Int := if 4398046511104 < valD 0 l then 4398046511105 else valD 0 l
def Ap (x y : Int) : Prop := x = y ∨ 4398046511104 < x ∧ 4398046511104 < y
theorem cap_ap (l : List UInt8) : Ap (capV l) (valD 0 l) := by unfold capV Ap; split <;> omega
theorem ap_mul {x y a b u : Int} (h : Ap x y) (k : Ap a b) (x0 : 0 ≤ x) (y0 : 0 ≤ y) (a0 : 0 ≤ a) (b0 : 0 ≤ b) (hu : u = 86400 ∨ u = 3600 ∨ u = 60 ∨ u = 1) : Ap (x + a * u) (y + b * u) ∧ 0 ≤ x + a * u ∧ 0 ≤ y + b * u := by
  unfold Ap at *
  rcases hu with rfl | rfl | rfl | rfl <;> omega
theorem sum_ap {g h : List UInt8 → Int} (hg : ∀ l, l.all isDig = true → Ap (g l) (h l) ∧ 0 ≤ g l ∧ 0 ≤ h l) : ∀ (us : List (UInt8 × Int)) (hus : ∀ x ∈ us, x.2 = 86400 ∨ x.2 = 3600 ∨ x.2 = 60 ∨ x.2 = 1) (x y : Int) (l : List UInt8), Ap x y → 0 ≤ x → 0 ≤ y →
    (sumG g us x l).2 = (sumG h us y l).2 ∧ Ap (sumG g us x l).1 (sumG h us y l).1 ∧ 0 ≤ (sumG g us x l).1 ∧ 0 ≤ (sumG h us y l).1
  | [], hus, x, y, l, k, x0, y0 => ⟨rfl, k, x0, y0⟩
  | (c, u) :: us, hus, x, y, l, k, x0, y0 => by
    unfold sumG
    by_cases a : l.dropWhile isDig = []
    · rw [if_pos a, if_pos a]; exact ⟨rfl, k, x0, y0⟩
    · rw [if_neg a, if_neg a]
      have hus' := fun x hx => hus x (List.mem_cons_of_mem _ hx)
      by_cases b : l.takeWhile isDig = [] ∨ (l.dropWhile isDig).headD 0 ≠ c
      · rw [if_pos b, if_pos b]; exact sum_ap hg us hus' x y l k x0 y0
      · rw [if_neg b, if_neg b]
        obtain ⟨g1, g2, g3⟩ := hg (l.takeWhile isDig) List.all_takeWhile
        obtain ⟨p, q, r⟩ := ap_mul k g1 x0 y0 g2 g3 (hus (c, u) (by simp))
        exact sum_ap hg us hus' _ _ _ p q r
end Go.Proofs.YtehbegjocdahmaaGreatDoor
