/- Texts of sets, read: parts between bars, plain facts. No program is mentioned. -/
import Derived.Test.YtiaidmjhgfaobaaDoorLIvN
import Derived.WalkKit
namespace Go.Proofs.YtiaidmjhgfaobaaDoor
open Go.RowKit
set_option linter.unusedVariables false

/-- The parts between the bars. -/
def spl : List UInt8 → List (List UInt8)
  | [] => [[]]
  | c :: l => if c = 124 then [] :: spl l else match spl l with
    | [] => [[c]]
    | p :: ps => (c :: p) :: ps
theorem spl_ne : ∀ l, spl l ≠ []
  | [] => by simp [spl]
  | c :: l => by
    unfold spl
    split
    · simp
    · split <;> simp
theorem spl_end : ∀ {a : List UInt8}, (∀ c, c ∈ a → ¬ c = 124) → spl a = [a]
  | [], _ => rfl
  | c :: a, h => by
    unfold spl
    rw [if_neg (h c List.mem_cons_self), spl_end (fun x hx => h x (List.mem_cons_of_mem _ hx))]
theorem spl_app : ∀ (a b : List UInt8), spl (a ++ 124 :: b) = spl a ++ spl b
  | [], b => by show (if (124 : UInt8) = 124 then _ else _) = _; rw [if_pos rfl]; rfl
  | c :: a, b => by
    show (if c = 124 then [] :: spl (a ++ 124 :: b) else match spl (a ++ 124 :: b) with | [] => [[c]] | p :: ps => (c :: p) :: ps) = (if c = 124 then [] :: spl a else match spl a with | [] => [[c]] | p :: ps => (c :: p) :: ps) ++ spl b
    rw [spl_app a b]
    by_cases e : c = 124
    · rw [if_pos e, if_pos e]; rfl
    · rw [if_neg e, if_neg e]
      cases h : spl a with
      | nil => exact absurd h (spl_ne a)
      | cons p ps => rfl
theorem spl_cut {a : List UInt8} (b : List UInt8) (h : ∀ c, c ∈ a → ¬ c = 124) : spl (a ++ 124 :: b) = a :: spl b := by
  rw [spl_app, spl_end h]; rfl
/-- The number of a name; 13 for none. -/
def numP (p : List UInt8) : Nat := prK ⟨p.toArray⟩ 13
theorem numP_iff (p : List UInt8) : (numP p < 13 ↔ prE ⟨p.toArray⟩ = 0) ∧ (numP p < 13 → prV ⟨p.toArray⟩ = numP p) ∧ (¬ numP p < 13 → prE ⟨p.toArray⟩ = 3) := by
  unfold numP prE prV
  refine ⟨⟨fun h => by rw [if_pos h], fun h => ?_⟩, fun h => by rw [if_pos h], fun h => by rw [if_neg h]⟩
  rcases Nat.lt_or_ge (prK ⟨p.toArray⟩ 13) 13 with q | q
  · exact q
  · rw [if_neg (by omega)] at h; omega
theorem numP_name {k : Nat} (hk : k < 13) : numP (nmV k).data.toList = k := by
  have q := numP_iff (nmV k).data.toList
  have r := pr_back hk
  have l := q.1.2 r.2
  have := q.2.1 l
  rw [show (⟨(nmV k).data.toList.toArray⟩ : ByteArray) = nmV k from rfl, r.1] at this
  omega
/-- What the names are, in order; none is a name. -/
theorem numP_at {p : List UInt8} {k : Nat} (hk : k < 13) (e : (nmV k).data.toList = p) : numP p = k := by subst e; exact numP_name hk
theorem numP_no {p : List UInt8} (h : ∀ j, j < 13 → ¬ (nmV j).data.toList = p) : ¬ numP p < 13 := by
  intro l
  have := (numP_iff p).1.1 l
  rw [(pr_no (s := ⟨p.toArray⟩) fun j hj e => h j hj (by rw [e])).2] at this
  omega
/-- The parts are read, one after another: the set so far, and whether a name occurred twice. -/
def psF : List (List UInt8) → Nat → Bool → Int × Int
  | [], o, t => if t then (0, 8) else ((o : Int), 0)
  | p :: ps, o, t => if numP p < 13 then psF ps (o ||| 2 ^ numP p) (t || o.testBit (numP p)) else (0, 3)
def nneL : List UInt8 := [110, 111, 110, 101]
def anyL : List UInt8 := [97, 110, 121]
def psV (s : ByteArray) : Int × Int :=
  if 200 < s.size then (0, 5) else if s.data.toList = nneL then (0, 0) else if s.data.toList = anyL then (8191, 0) else psF (spl s.data.toList) 0 false
theorem psF_yes {p : List UInt8} {ps : List (List UInt8)} {o : Nat} {t : Bool} (h : numP p < 13) : psF (p :: ps) o t = psF ps (o ||| 2 ^ numP p) (t || o.testBit (numP p)) := by
  show (if _ then _ else _) = _; rw [if_pos h]
theorem psF_no {p : List UInt8} {ps : List (List UInt8)} {o : Nat} {t : Bool} (h : ¬ numP p < 13) : psF (p :: ps) o t = (0, 3) := by
  show (if _ then _ else _) = _; rw [if_neg h]
theorem psF_names : ∀ (rs : List Nat) (o : Nat), (∀ r, r ∈ rs → r < 13) → rs.Nodup → (∀ r, r ∈ rs → o.testBit r = false) →
    psF (rs.map fun r => (nmV r).data.toList) o false = (((rs.foldl (fun o r => o ||| 2 ^ r) o : Nat) : Int), 0)
  | [], o, _, _, _ => rfl
  | r :: rs, o, h, d, f => by
    have hr := h r List.mem_cons_self
    show psF ((nmV r).data.toList :: _) o false = _
    rw [psF_yes (by rw [numP_name hr]; exact hr), numP_name hr, f r List.mem_cons_self]
    have d2 := List.nodup_cons.1 d
    refine (psF_names rs (o ||| 2 ^ r) (fun x hx => h x (List.mem_cons_of_mem _ hx)) d2.2 (fun x hx => ?_)).trans rfl
    rw [Nat.testBit_or, f x (List.mem_cons_of_mem _ hx), Nat.testBit_two_pow, Bool.false_or, decide_eq_false_iff_not]
    intro e; subst e; exact d2.1 hx
theorem orF_bit : ∀ (rs : List Nat) (o t : Nat), (rs.foldl (fun o r => o ||| 2 ^ r) o).testBit t = (o.testBit t || decide (t ∈ rs))
  | [], o, t => by simp
  | r :: rs, o, t => by
    show (rs.foldl (fun o r => o ||| 2 ^ r) (o ||| 2 ^ r)).testBit t = _
    rw [orF_bit rs, Nat.testBit_or, Nat.testBit_two_pow, Bool.or_assoc]
    congr 1
    rw [Bool.eq_iff_iff, Bool.or_eq_true, decide_eq_true_iff, decide_eq_true_iff, decide_eq_true_iff, List.mem_cons]
    exact ⟨fun e => e.imp Eq.symm id, fun e => e.imp Eq.symm id⟩
theorem nm_bar : ∀ k : Fin 13, (nmV k).data.toList.all (fun c => c != 124) = true := by decide +kernel
theorem nm_bars {k : Nat} (hk : k < 13) : ∀ c, c ∈ (nmV k).data.toList → ¬ c = 124 := by
  intro c hc
  have := List.all_eq_true.1 (nm_bar ⟨k, hk⟩) c hc
  simpa using this
theorem psF_nne : psF (spl nneL) 0 false = (0, 3) := by decide +kernel
theorem psF_any : psF (spl anyL) 0 false = (0, 3) := by decide +kernel
/-- A text that is read part by part. -/
theorem psV_parts {s : ByteArray} {o : Int} (h : s.size ≤ 200) (e : psF (spl s.data.toList) 0 false = (o, 0)) : psV s = (o, 0) := by
  unfold psV
  rw [if_neg (by omega), if_neg (fun q => ?_), if_neg (fun q => ?_), e]
  · rw [q, psF_any] at e; cases e
  · rw [q, psF_nne] at e; cases e
/-- What is left to read from f on. -/
def rsL (l : List UInt8) (f : Nat) : List (List UInt8) := if f ≤ l.length then spl (l.drop f) else []
theorem rs_step {l : List UInt8} {f i : Nat} (hf : f ≤ i) (hi : i ≤ l.length) (no : ∀ j, f ≤ j → j < i → ¬ l.getD j 0 = 124) (e : i < l.length → l.getD i 0 = 124) : rsL l f = (l.drop f).take (i - f) :: rsL l (i + 1) := by
  have mem : ∀ c, c ∈ (l.drop f).take (i - f) → ¬ c = 124 := by
    intro c hc
    obtain ⟨j, hj, rfl⟩ := List.getElem_of_mem hc
    rw [List.length_take, List.length_drop] at hj
    rw [List.getElem_take, List.getElem_drop]
    have := no (f + j) (by omega) (by omega)
    rwa [List.getD_eq_getElem?_getD, List.getElem?_eq_getElem (by omega)] at this
  unfold rsL
  rw [if_pos (by omega)]
  rcases Nat.lt_or_ge i l.length with q | q
  · rw [if_pos (by omega)]
    have d : l.drop f = (l.drop f).take (i - f) ++ 124 :: l.drop (i + 1) := by
      conv => lhs; rw [← List.take_append_drop (i - f) (l.drop f)]
      rw [List.drop_drop, show f + (i - f) = i by omega, List.drop_eq_getElem_cons q]
      have := e q
      rw [List.getD_eq_getElem?_getD, List.getElem?_eq_getElem q] at this
      congr 2
    conv => lhs; rw [d]
    exact spl_cut _ mem
  · obtain rfl : i = l.length := by omega
    rw [if_neg (by omega)]
    have t : (l.drop f).take (l.length - f) = l.drop f := List.take_of_length_le (by rw [List.length_drop]; omega)
    rw [t] at mem ⊢
    exact spl_end mem
theorem rs_end (l : List UInt8) : rsL l (l.length + 1) = [] := by unfold rsL; rw [if_neg (by omega)]
theorem rs_start (l : List UInt8) : rsL l 0 = spl l := by unfold rsL; rw [if_pos (by omega), List.drop_zero]
end Go.Proofs.YtiaidmjhgfaobaaDoor
