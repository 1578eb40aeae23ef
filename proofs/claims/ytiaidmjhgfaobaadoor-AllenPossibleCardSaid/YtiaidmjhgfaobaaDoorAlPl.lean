/- Plain facts for package allen: the members of a set as a list, and what is gathered along it. No program is mentioned. -/
import Derived.Test.YtiaidmjhgfaobaaDoorAlCv
import Derived.Test.YtiaidmjhgfaobaaDoorAlX
import Derived.Test.YtiaidmjhgfaobaaDoorAlH
import Derived.Lib.Join
namespace Go.Proofs.YtiaidmjhgfaobaaDoor
open Go.RowKit
set_option linter.unusedVariables false

/-- The members of a set below k, ascending. -/
def mbK (S : Nat) : Nat → List (Fin 13)
  | 0 => []
  | k + 1 => if S.testBit k then mbK S k ++ [Fin.ofNat 13 k] else mbK S k
theorem mb_len (S : Nat) : ∀ k, (mbK S k).length ≤ k := by
  intro k
  induction k with
  | zero => exact Nat.le_refl _
  | succ k ih =>
    show (if S.testBit k then mbK S k ++ [Fin.ofNat 13 k] else mbK S k).length ≤ _
    split
    · rw [List.length_append, List.length_singleton]; omega
    · omega
theorem fin_at {k : Nat} (hk : k < 13) : Fin.ofNat 13 k = ⟨k, hk⟩ := Fin.ext (Nat.mod_eq_of_lt hk)
theorem mb_yes {S k : Nat} (hk : k < 13) (h : S.testBit k = true) : mbK S (k + 1) = mbK S k ++ [⟨k, hk⟩] := by
  show (if S.testBit k then _ else _) = _; rw [if_pos h, fin_at hk]
theorem mb_no {S k : Nat} (h : S.testBit k = false) : mbK S (k + 1) = mbK S k := by
  show (if S.testBit k then _ else _) = _; rw [if_neg (by rw [h]; simp)]
theorem mb_fold {β : Type} (f : β → Nat → β) (S : Nat) (o : β) : ∀ k, k ≤ 13 → (mbK S k).foldl (fun o r => f o r.val) o = (List.range k).foldl (fun o r => if S.testBit r then f o r else o) o := by
  intro k
  induction k with
  | zero => intro _; rfl
  | succ k ih =>
    intro hk
    rw [List.range_succ, List.foldl_append, ← ih (by omega)]
    cases h : S.testBit k
    · rw [mb_no h]; simp [h]
    · rw [mb_yes (by omega) h, List.foldl_append]; simp [h]
/-- The numbers. -/
def sgF (l : List (Fin 13)) : List Int := l.map fun r => (r.val : Int)
theorem sgF_snoc (l : List (Fin 13)) (x : Fin 13) : sgF (l ++ [x]) = sgF l ++ [(x.val : Int)] := by simp [sgF]
theorem sgF_mb (S : Nat) : ∀ k, k ≤ 13 → sgF (mbK S k) = sgL S k := by
  intro k
  induction k with
  | zero => intro _; rfl
  | succ k ih =>
    intro hk
    show _ = if S.testBit k then sgL S k ++ [(k : Int)] else sgL S k
    cases h : S.testBit k
    · rw [mb_no h, ih (by omega)]; simp
    · rw [mb_yes (by omega) h, sgF_snoc, ih (by omega)]; simp
/-- The inverses. -/
def ivF (l : List (Fin 13)) : Nat := l.foldl (fun o r => o ||| 2 ^ (12 - r.val)) 0
theorem ivF_snoc (l : List (Fin 13)) (x : Fin 13) : ivF (l ++ [x]) = ivF l ||| 2 ^ (12 - x.val) := by simp [ivF]
theorem ivF_mb (S : Nat) : ∀ k, k ≤ 13 → ivF (mbK S k) = ivK S k := by
  intro k
  induction k with
  | zero => intro _; rfl
  | succ k ih =>
    intro hk
    show _ = if S.testBit k then ivK S k ||| 2 ^ (12 - k) else ivK S k
    cases h : S.testBit k
    · rw [mb_no h, ih (by omega)]; simp
    · rw [mb_yes (by omega) h, ivF_snoc, ih (by omega)]; simp
theorem foldor_lt {α : Type} (f : α → Nat) (h : ∀ r, f r < 8192) : ∀ (l : List α) (o : Nat), o < 8192 → l.foldl (fun o r => o ||| f r) o < 8192
  | [], o, ho => ho
  | r :: l, o, ho => foldor_lt f h l (o ||| f r) (or_lt ho (h r))
theorem ivF_lt (l : List (Fin 13)) : ivF l < 8192 := foldor_lt (fun r : Fin 13 => 2 ^ (12 - r.val)) (fun r => pow_lt (by omega)) l 0 (by decide)
/-- The compositions. -/
def cmG (B : List (Fin 13)) (r : Fin 13) (o : Nat) : Nat := B.foldl (fun o s => o ||| tb r.val s.val) o
def cmF (A B : List (Fin 13)) : Nat := A.foldl (fun o r => cmG B r o) 0
theorem cmG_snoc (B : List (Fin 13)) (s r : Fin 13) (o : Nat) : cmG (B ++ [s]) r o = cmG B r o ||| tb r.val s.val := by simp [cmG]
theorem cmF_snoc (A B : List (Fin 13)) (r : Fin 13) : cmF (A ++ [r]) B = cmG B r (cmF A B) := by simp [cmF]
theorem cmG_lt (B : List (Fin 13)) (r : Fin 13) (o : Nat) (h : o < 8192) : cmG B r o < 8192 := foldor_lt (fun s : Fin 13 => tb r.val s.val) (fun s => tb_lt r s) B o h
theorem cmF_lt (B : List (Fin 13)) : ∀ (A : List (Fin 13)) (o : Nat), o < 8192 → A.foldl (fun o r => cmG B r o) o < 8192
  | [], o, ho => ho
  | r :: A, o, ho => cmF_lt B A _ (cmG_lt B r o ho)
theorem cmF_lt0 (A B : List (Fin 13)) : cmF A B < 8192 := cmF_lt B A 0 (by decide)
theorem cmG_mb (S : Nat) (r : Fin 13) (o : Nat) : cmG (mbK S 13) r o = o ||| colU r.val S := by
  unfold cmG colU
  rw [mb_fold (fun o s => o ||| tb r.val s) S o 13 (Nat.le_refl _)]
  refine eq_bits fun t => ?_
  rw [fold_bit, bit_or, Bool.or_eq_true, fold_bit]
  simp
theorem cmF_mb (A B : Nat) : cmF (mbK A 13) (mbK B 13) = cmI A B 15 := by
  rw [cmT_eq]
  unfold cmF cmT
  rw [← mb_fold (fun o r => o ||| colU r B) A 0 13 (Nat.le_refl _)]
  congr 1
  funext o r
  exact cmG_mb B r o
theorem baS_tab {p q : Nat} (hp : p ≤ 12) (hq : q ≤ 12) : baS p q = tb p q := by
  rw [baS_yes hp hq]
  have e1 : isS ((2 ^ p : Nat) : Int) = true := isS_iff.2 ⟨Int.natCast_nonneg _, by have := pow_lt hp; omega⟩
  have e2 : isS ((2 ^ q : Nat) : Int) = true := isS_iff.2 ⟨Int.natCast_nonneg _, by have := pow_lt hq; omega⟩
  unfold cmS
  rw [e1, e2]
  show ((cmI (2 ^ p) (2 ^ q) 15 : Nat) : Int) = _
  congr 1
  refine eq_bits fun t => ?_
  rw [cm_tab]
  constructor
  · rintro ⟨r, s, _, _, a, b, c⟩
    rw [bit_pow, decide_eq_true_iff] at a b
    subst a; subst b; exact c
  · intro c
    exact ⟨p, q, by omega, by omega, by rw [bit_pow]; simp, by rw [bit_pow]; simp, c⟩
/-- The least box of places, as the package gathers it. -/
def lwF (l : List (Fin 13)) : Int := l.foldl (fun o r => if o < plF r.val then o else plF r.val) 5
def hgF (l : List (Fin 13)) : Int := l.foldl (fun o r => if o < plF r.val then plF r.val else o) 1
def lwS (l : List (Fin 13)) : Int := l.foldl (fun o r => if o < plS r.val then o else plS r.val) 5
def hgS (l : List (Fin 13)) : Int := l.foldl (fun o r => if o < plS r.val then plS r.val else o) 1
theorem lwF_snoc (l : List (Fin 13)) (x : Fin 13) : lwF (l ++ [x]) = if lwF l < plF x.val then lwF l else plF x.val := by unfold lwF; rw [List.foldl_append]; rfl
theorem hgF_snoc (l : List (Fin 13)) (x : Fin 13) : hgF (l ++ [x]) = if hgF l < plF x.val then plF x.val else hgF l := by unfold hgF; rw [List.foldl_append]; rfl
theorem lwS_snoc (l : List (Fin 13)) (x : Fin 13) : lwS (l ++ [x]) = if lwS l < plS x.val then lwS l else plS x.val := by unfold lwS; rw [List.foldl_append]; rfl
theorem hgS_snoc (l : List (Fin 13)) (x : Fin 13) : hgS (l ++ [x]) = if hgS l < plS x.val then plS x.val else hgS l := by unfold hgS; rw [List.foldl_append]; rfl
def bxA (L : List Int) : Int × Int × Int × Int := L.foldl (fun o r => (mnV o.1 (plF r.toNat), mxV o.2.1 (plF r.toNat), mnV o.2.2.1 (plS r.toNat), mxV o.2.2.2 (plS r.toNat))) (6, 0, 6, 0)
theorem bxA_at (L : List Int) : ∀ k, k ≤ L.length → bxA (L.take k) = (bxP L k, bxQ L k, bxU L k, bxV L k) := by
  intro k
  induction k with
  | zero => intro _; rfl
  | succ k ih =>
    intro hk
    have e : L.take (k + 1) = L.take k ++ [L.getD k 0] := by
      rw [List.take_add_one, List.getElem?_eq_getElem (by omega)]
      simp [List.getD_eq_getElem?_getD, List.getElem?_eq_getElem (show k < L.length by omega)]
    rw [e]
    unfold bxA at ih ⊢
    rw [List.foldl_append, ih (by omega)]
    rfl
theorem bx_box : ∀ l : List (Fin 13), (l = [] ∧ bxA (sgF l) = (6, 0, 6, 0) ∧ lwF l = 5 ∧ hgF l = 1 ∧ lwS l = 5 ∧ hgS l = 1) ∨ bxA (sgF l) = (lwF l, hgF l, lwS l, hgS l) := by
  intro l
  have bd : ∀ l : List (Fin 13), (lwF l ≤ 5 ∧ 1 ≤ hgF l) ∧ lwS l ≤ 5 ∧ 1 ≤ hgS l := by
    intro l
    rw [← List.reverse_reverse l]
    induction l.reverse with
    | nil => exact ⟨⟨by decide, by decide⟩, by decide, by decide⟩
    | cons x m ih =>
      obtain ⟨⟨h1, h2⟩, h3, h4⟩ := ih
      have p := pl_bd x.val
      rw [List.reverse_cons, lwF_snoc, hgF_snoc, lwS_snoc, hgS_snoc]
      refine ⟨⟨?_, ?_⟩, ?_, ?_⟩ <;> split <;> omega
  rw [← List.reverse_reverse l]
  induction l.reverse with
  | nil => exact .inl ⟨rfl, rfl, rfl, rfl, rfl, rfl⟩
  | cons x m ih =>
    refine .inr ?_
    rw [List.reverse_cons, sgF_snoc]
    unfold bxA at ih ⊢
    rw [List.foldl_append, lwF_snoc, hgF_snoc, lwS_snoc, hgS_snoc]
    obtain ⟨⟨b1, b2⟩, b3, b4⟩ := bd m.reverse
    have p := pl_bd x.val
    have n : (((x.val : Nat) : Int)).toNat = x.val := Int.toNat_natCast _
    rcases ih with ⟨-, e, e1, e2, e3, e4⟩ | e
    · rw [e, e1, e2, e3, e4]
      show (mnV 6 (plF (((x.val : Nat) : Int)).toNat), mxV 0 (plF (((x.val : Nat) : Int)).toNat), mnV 6 (plS (((x.val : Nat) : Int)).toNat), mxV 0 (plS (((x.val : Nat) : Int)).toNat)) = _
      rw [n]
      unfold mnV mxV
      rw [Prod.mk.injEq, Prod.mk.injEq, Prod.mk.injEq]
      refine ⟨?_, ?_, ?_, ?_⟩ <;> (repeat' split) <;> omega
    · rw [e]
      show (mnV (lwF m.reverse) (plF (((x.val : Nat) : Int)).toNat), mxV (hgF m.reverse) (plF (((x.val : Nat) : Int)).toNat), mnV (lwS m.reverse) (plS (((x.val : Nat) : Int)).toNat), mxV (hgS m.reverse) (plS (((x.val : Nat) : Int)).toNat)) = _
      rw [n]
      unfold mnV mxV
      rw [Prod.mk.injEq, Prod.mk.injEq, Prod.mk.injEq]
      refine ⟨?_, ?_, ?_, ?_⟩ <;> (repeat' split) <;> omega
/-- Whether a relation lies within the box. -/
def wiF (l : List (Fin 13)) (r : Nat) : Bool := decide (lwF l ≤ plF r) && decide (plF r ≤ hgF l) && decide (lwS l ≤ plS r) && decide (plS r ≤ hgS l)
theorem wi_in (S r : Nat) : wiF (mbK S 13) r = inX (sgL S 13) r := by
  have e := bxA_at (sgL S 13) _ (Nat.le_refl _)
  rw [List.take_length, ← sgF_mb S 13 (Nat.le_refl _)] at e
  unfold wiF inX
  rw [← sgF_mb S 13 (Nat.le_refl _)]
  have p := pl_bd r
  rcases bx_box (mbK S 13) with ⟨-, e0, e1, e2, e3, e4⟩ | e0
  · rw [e0] at e
    injection e with x1 e
    injection e with x2 e
    injection e with x3 x4
    rw [← x1, ← x2, ← x3, ← x4, e1, e2, e3, e4, Bool.eq_iff_iff]
    simp only [Bool.and_eq_true, decide_eq_true_iff]
    omega
  · rw [e0] at e
    injection e with x1 e
    injection e with x2 e
    injection e with x3 x4
    rw [← x1, ← x2, ← x3, ← x4]
/-- The names. -/
def nmF (l : List (Fin 13)) : List ByteArray := l.map fun r => nmV r.val
theorem nmF_snoc (l : List (Fin 13)) (x : Fin 13) : nmF (l ++ [x]) = nmF l ++ [nmV x.val] := by simp [nmF]
theorem nmF_len (l : List (Fin 13)) : (nmF l).length = l.length := by simp [nmF]
theorem mb_nil {S : Nat} (h : S < 8192) : mbK S 13 = [] → S = 0 := by
  intro e
  refine Nat.eq_of_testBit_eq fun t => ?_
  rw [Nat.zero_testBit]
  have a := fun k (hk : k < 13) => sgF_mb S 13 (Nat.le_refl _)
  cases b : S.testBit t
  · rfl
  · have ht := bit_lt h b
    have m : ∀ k, k ≤ 13 → t < k → mbK S k ≠ [] := by
      intro k
      induction k with
      | zero => intro _ q; omega
      | succ k ih =>
        intro hk q
        rcases Nat.lt_or_ge t k with z | z
        · cases c : S.testBit k
          · rw [mb_no c]; exact ih (by omega) z
          · rw [mb_yes (by omega) c]; simp
        · obtain rfl : t = k := by omega
          rw [mb_yes (by omega) b]; simp
    exact absurd e (m 13 (Nat.le_refl _) ht)
theorem txK_app (L M : List Int) : ∀ k, k ≤ L.length → txK (L ++ M) k = txK L k := by
  intro k
  induction k with
  | zero => intro _; rfl
  | succ k ih =>
    intro hk
    show (txK (L ++ M) k ++ (if 0 < k then [124] else [])) ++ (nmV ((L ++ M).getD k 0).toNat).data.toList = (txK L k ++ (if 0 < k then [124] else [])) ++ (nmV (L.getD k 0).toNat).data.toList
    rw [ih (by omega)]
    have e : (L ++ M).getD k 0 = L.getD k 0 := by
      rw [List.getD_eq_getElem?_getD, List.getD_eq_getElem?_getD, List.getElem?_append_left (by omega)]
    rw [e]
theorem tail_snoc (sep : List UInt8) (r : List (List UInt8)) (x : List UInt8) : Lib.joinTail sep (r ++ [x]) = Lib.joinTail sep r ++ (sep ++ x) := by
  unfold Lib.joinTail; rw [List.map_append, List.flatten_append]; simp
/-- The names of a set, joined. -/
theorem join_names : ∀ l : List (Fin 13), Lib.join ((nmF l).map (·.data.toList)) [124] = txK (sgF l) l.length := by
  intro l
  rw [← List.reverse_reverse l]
  induction l.reverse with
  | nil => rfl
  | cons x m ih =>
    rw [List.reverse_cons, nmF_snoc, sgF_snoc, List.length_append, List.length_singleton, List.map_append]
    have ls : (sgF m.reverse).length = m.reverse.length := by simp [sgF]
    show _ = (txK (sgF m.reverse ++ [(x.val : Int)]) m.reverse.length ++ (if 0 < m.reverse.length then [124] else [])) ++ (nmV ((sgF m.reverse ++ [(x.val : Int)]).getD m.reverse.length 0).toNat).data.toList
    rw [txK_app _ _ _ (by omega), ← ih]
    have g : (sgF m.reverse ++ [(x.val : Int)]).getD m.reverse.length 0 = (x.val : Int) := by
      rw [← ls]; simp [List.getD_eq_getElem?_getD]
    rw [g, Int.toNat_natCast]
    cases h : m.reverse with
    | nil => show Lib.join [(nmV x.val).data.toList] [124] = _; rw [Lib.join_one]; rfl
    | cons y r =>
      show Lib.join ((nmV y.val).data.toList :: ((nmF r).map (·.data.toList) ++ [(nmV x.val).data.toList])) [124] = _
      rw [Lib.join_cons, tail_snoc]
      show _ = (Lib.join ((nmV y.val).data.toList :: (nmF r).map (·.data.toList)) [124] ++ (if 0 < (y :: r).length then [124] else [])) ++ _
      rw [Lib.join_cons, if_pos (by simp)]
      simp
theorem text_names {S : Nat} : Lib.join ((nmF (mbK S 13)).map (·.data.toList)) [124] = txK (sgL S 13) (sgL S 13).length := by
  rw [join_names, sgF_mb S 13 (Nat.le_refl _)]
  congr 1
  rw [← sgF_mb S 13 (Nat.le_refl _)]; simp [sgF]
end Go.Proofs.YtiaidmjhgfaobaaDoor
