/- Lists of spans as sets of integers: canonical lists, their elements, ranks, measures. No program is mentioned. -/
import Derived.Test.YtdkmahdfnmoliaaLIvM
import Derived.WalkKit
namespace Go.Proofs.Ytdkmahdfnmoliaa
open Go.RowKit
set_option linter.unusedVariables false

abbrev Sp := Int × Int
/-- A number on the line; a valid span; valid spans; each begins behind the end of the one before. -/
def nvB (x : Int) : Bool := decide (-4398046511104 ≤ x) && decide (x ≤ 4398046511104)
def spB (p : Sp) : Bool := nvB p.1 && nvB p.2 && decide (p.1 < p.2)
def spsB (L : List Sp) : Bool := L.all spB
def gpB : List Sp → Bool
  | p :: q :: r => decide (p.2 < q.1) && gpB (q :: r)
  | _ => true
def vaB (L : List Sp) : Bool := decide (L.length ≤ 2000) && spsB L && gpB L
theorem nvB_iff {x : Int} : nvB x = true ↔ -4398046511104 ≤ x ∧ x ≤ 4398046511104 := by unfold nvB; simp
theorem spB_iff {p : Sp} : spB p = true ↔ -4398046511104 ≤ p.1 ∧ p.2 ≤ 4398046511104 ∧ p.1 < p.2 := by
  unfold spB
  rw [Bool.and_eq_true, Bool.and_eq_true, nvB_iff, nvB_iff, decide_eq_true_iff]
  omega
theorem spsB_at {L : List Sp} : spsB L = true ↔ ∀ i, i < L.length → spB (L.getD i (0, 0)) = true := by
  unfold spsB
  rw [List.all_eq_true]
  constructor
  · intro h i hi
    rw [List.getD_eq_getElem?_getD, List.getElem?_eq_getElem hi]
    exact h _ (List.getElem_mem hi)
  · intro h p hp
    obtain ⟨i, hi, rfl⟩ := List.getElem_of_mem hp
    have := h i hi
    rwa [List.getD_eq_getElem?_getD, List.getElem?_eq_getElem hi] at this
theorem gpB_at : ∀ {L : List Sp}, gpB L = true ↔ ∀ i, i + 1 < L.length → (L.getD i (0, 0)).2 < (L.getD (i + 1) (0, 0)).1
  | [] => by simp [gpB]
  | [p] => by simp [gpB]
  | p :: q :: r => by
    show (decide (p.2 < q.1) && gpB (q :: r)) = true ↔ _
    rw [Bool.and_eq_true, decide_eq_true_iff, gpB_at (L := q :: r)]
    constructor
    · rintro ⟨h0, h⟩ i hi
      cases i with
      | zero => simpa using h0
      | succ i => have := h i (by simp at hi ⊢; omega); simpa using this
    · intro h
      refine ⟨by simpa using h 0 (by simp), fun i hi => ?_⟩
      have := h (i + 1) (by simp at hi ⊢; omega)
      simpa using this
/-- The elements. -/
def inB (L : List Sp) (x : Int) : Bool := L.any fun p => decide (p.1 ≤ x) && decide (x < p.2)
theorem inB_nil (x : Int) : inB [] x = false := rfl
theorem inB_cons (p : Sp) (L : List Sp) (x : Int) : inB (p :: L) x = (decide (p.1 ≤ x) && decide (x < p.2) || inB L x) := by simp [inB]
theorem inB_app (A B : List Sp) (x : Int) : inB (A ++ B) x = (inB A x || inB B x) := by simp [inB]
theorem inB_iff {L : List Sp} {x : Int} : inB L x = true ↔ ∃ p, p ∈ L ∧ p.1 ≤ x ∧ x < p.2 := by
  unfold inB; simp
/-- Canonical lists, of any length. -/
def Cn : List Sp → Prop
  | [] => True
  | p :: L => p.1 < p.2 ∧ (∀ q, q ∈ L → p.2 < q.1) ∧ Cn L
/-- Spans on the line. -/
def Ln (L : List Sp) : Prop := ∀ p, p ∈ L → -4398046511104 ≤ p.1 ∧ p.2 ≤ 4398046511104
theorem Cn.lt : ∀ {L : List Sp}, Cn L → ∀ p, p ∈ L → p.1 < p.2
  | p :: L, h, q, hq => by
    rcases List.mem_cons.1 hq with rfl | hq
    · exact h.1
    · exact Cn.lt h.2.2 q hq
theorem cn_of : ∀ {L : List Sp}, (∀ p, p ∈ L → p.1 < p.2) → gpB L = true → Cn L
  | [], _, _ => trivial
  | [p], h, _ => ⟨h p List.mem_cons_self, fun q hq => by simp at hq, trivial⟩
  | p :: q :: r, h, g => by
    have g' : (decide (p.2 < q.1) && gpB (q :: r)) = true := g
    rw [Bool.and_eq_true, decide_eq_true_iff] at g'
    have c := cn_of (L := q :: r) (fun x hx => h x (List.mem_cons_of_mem _ hx)) g'.2
    refine ⟨h p List.mem_cons_self, fun x hx => ?_, c⟩
    rcases List.mem_cons.1 hx with rfl | hx
    · exact g'.1
    · have := c.2.1 x hx; have := c.1; omega
theorem gp_of_cn : ∀ {L : List Sp}, Cn L → gpB L = true
  | [], _ => rfl
  | [p], _ => rfl
  | p :: q :: r, h => by
    show (decide (p.2 < q.1) && gpB (q :: r)) = true
    rw [Bool.and_eq_true, decide_eq_true_iff]
    exact ⟨h.2.1 q List.mem_cons_self, gp_of_cn h.2.2⟩
theorem vaB_iff {L : List Sp} : vaB L = true ↔ L.length ≤ 2000 ∧ Ln L ∧ Cn L := by
  unfold vaB
  rw [Bool.and_eq_true, Bool.and_eq_true, decide_eq_true_iff]
  constructor
  · rintro ⟨⟨h1, h2⟩, h3⟩
    have h2' : ∀ p, p ∈ L → spB p = true := List.all_eq_true.1 h2
    exact ⟨h1, fun p hp => by have := spB_iff.1 (h2' p hp); omega, cn_of (fun p hp => (spB_iff.1 (h2' p hp)).2.2) h3⟩
  · rintro ⟨h1, h2, h3⟩
    refine ⟨⟨h1, List.all_eq_true.2 fun p hp => ?_⟩, gp_of_cn h3⟩
    rw [spB_iff]
    exact ⟨(h2 p hp).1, (h2 p hp).2, h3.lt p hp⟩
theorem sps_of {L : List Sp} : spsB L = true ↔ Ln L ∧ ∀ p, p ∈ L → p.1 < p.2 := by
  unfold spsB
  rw [List.all_eq_true]
  constructor
  · intro h
    exact ⟨fun p hp => by have := spB_iff.1 (h p hp); omega, fun p hp => (spB_iff.1 (h p hp)).2.2⟩
  · rintro ⟨h1, h2⟩ p hp
    rw [spB_iff]
    exact ⟨(h1 p hp).1, (h1 p hp).2, h2 p hp⟩
/-- Nothing lies before the first span, nor at its end. -/
theorem cn_before : ∀ {L : List Sp} {x : Int}, (∀ q, q ∈ L → x < q.1) → inB L x = false
  | L, x, h => by
    rw [← Bool.not_eq_true, inB_iff]
    rintro ⟨p, hp, a, b⟩
    have := h p hp
    omega
theorem cn_head {p : Sp} {L : List Sp} (h : Cn (p :: L)) (x : Int) : inB (p :: L) x = if x < p.2 then decide (p.1 ≤ x) else inB L x := by
  rw [inB_cons]
  by_cases z : x < p.2
  · rw [if_pos z, decide_eq_true z, Bool.and_true, cn_before (L := L) (fun q hq => by have := h.2.1 q hq; omega), Bool.or_false]
  · rw [if_neg z, decide_eq_false z, Bool.and_false, Bool.false_or]
/-- Two canonical lists with the same elements are the same list. -/
theorem cn_ext : ∀ {A B : List Sp}, Cn A → Cn B → (∀ x, inB A x = inB B x) → A = B
  | [], [], _, _, _ => rfl
  | [], q :: B, _, hB, h => by
    have := h q.1
    rw [inB_nil, cn_head hB, if_pos hB.1, decide_eq_true (Int.le_refl _)] at this
    cases this
  | p :: A, [], hA, _, h => by
    have := h p.1
    rw [inB_nil, cn_head hA, if_pos hA.1, decide_eq_true (Int.le_refl _)] at this
    cases this
  | p :: A, q :: B, hA, hB, h => by
    have le1 : ∀ {p q : Sp} {A B : List Sp}, Cn (p :: A) → Cn (q :: B) → (∀ x, inB (p :: A) x = inB (q :: B) x) → ¬ p.1 < q.1 := by
      intro p q A B hA hB h z
      have := h p.1
      rw [cn_head hA, if_pos hA.1, decide_eq_true (Int.le_refl _), cn_before (L := q :: B) (fun r hr => by
        rcases List.mem_cons.1 hr with rfl | hr
        · exact z
        · have := hB.2.1 r hr; have := hB.1; omega)] at this
      cases this
    have e1 : p.1 = q.1 := by
      have a := le1 hA hB h
      have b := le1 hB hA (fun x => (h x).symm)
      omega
    have le2 : ∀ {p q : Sp} {A B : List Sp}, Cn (p :: A) → Cn (q :: B) → p.1 = q.1 → (∀ x, inB (p :: A) x = inB (q :: B) x) → ¬ p.2 < q.2 := by
      intro p q A B hA hB e h z
      have := h p.2
      rw [cn_head hA, if_neg (Int.lt_irrefl _), cn_head hB, if_pos z, decide_eq_true (by have := hA.1; omega), cn_before (L := A) hA.2.1] at this
      cases this
    have e2 : p.2 = q.2 := by
      have a := le2 hA hB e1 h
      have b := le2 hB hA e1.symm (fun x => (h x).symm)
      omega
    have e : p = q := Prod.ext e1 e2
    subst e
    rw [cn_ext hA.2.2 hB.2.2 (fun x => ?_)]
    have := h x
    rw [cn_head hA, cn_head hB] at this
    by_cases z : x < p.2
    · rw [cn_before (L := A) (fun r hr => by have := hA.2.1 r hr; omega), cn_before (L := B) (fun r hr => by have := hB.2.1 r hr; omega)]
    · rwa [if_neg z, if_neg z] at this
/-- The share of a span before a number; ranks; measures. -/
def clS (p : Sp) (x : Int) : Int := if p.2 ≤ x then p.2 - p.1 else if p.1 < x then x - p.1 else 0
def rkL : List Sp → Int → Int
  | [], _ => 0
  | p :: L, x => clS p x + rkL L x
def msL : List Sp → Int
  | [] => 0
  | p :: L => (p.2 - p.1) + msL L
theorem cl_step {p : Sp} (h : p.1 < p.2) (x : Int) : clS p (x + 1) = clS p x + (if decide (p.1 ≤ x) && decide (x < p.2) then 1 else 0) := by
  unfold clS
  by_cases a : p.1 ≤ x <;> by_cases b : x < p.2 <;> simp only [a, b, decide_true, decide_false, Bool.true_and, Bool.false_and] <;> (repeat' split) <;> simp_all <;> omega
theorem rk_step : ∀ {L : List Sp}, Cn L → ∀ x, rkL L (x + 1) = rkL L x + (if inB L x then 1 else 0)
  | [], _, x => rfl
  | p :: L, h, x => by
    show clS p (x + 1) + rkL L (x + 1) = clS p x + rkL L x + _
    rw [cl_step h.1, rk_step h.2.2, inB_cons]
    by_cases a : p.1 ≤ x ∧ x < p.2
    · have n : inB L x = false := cn_before (L := L) (fun q hq => by have := h.2.1 q hq; omega)
      rw [n, decide_eq_true a.1, decide_eq_true a.2]; simp; omega
    · have z : (decide (p.1 ≤ x) && decide (x < p.2)) = false := by
        rw [← Bool.not_eq_true, Bool.and_eq_true, decide_eq_true_iff, decide_eq_true_iff]; exact a
      rw [z, Bool.false_or]; simp; omega
theorem rk_low : ∀ {L : List Sp} {x : Int}, (∀ p, p ∈ L → x ≤ p.1 ∧ p.1 < p.2) → rkL L x = 0
  | [], _, _ => rfl
  | p :: L, x, h => by
    have := h p List.mem_cons_self
    show clS p x + rkL L x = 0
    rw [rk_low (fun q hq => h q (List.mem_cons_of_mem _ hq))]
    unfold clS
    rw [if_neg (by omega), if_neg (by omega)]; rfl
theorem rk_high : ∀ {L : List Sp} {x : Int}, (∀ p, p ∈ L → p.2 ≤ x) → rkL L x = msL L
  | [], _, _ => rfl
  | p :: L, x, h => by
    have := h p List.mem_cons_self
    show clS p x + rkL L x = (p.2 - p.1) + msL L
    rw [rk_high (fun q hq => h q (List.mem_cons_of_mem _ hq))]
    unfold clS
    rw [if_pos (by omega)]
theorem rk_bound : ∀ {L : List Sp}, Cn L → Ln L → ∀ x, 0 ≤ rkL L x
  | [], _, _, _ => Int.le_refl _
  | p :: L, h, l, x => by
    have a := rk_bound h.2.2 (fun q hq => l q (List.mem_cons_of_mem _ hq)) x
    have b := h.1
    show 0 ≤ clS p x + rkL L x
    unfold clS
    (repeat' split) <;> omega
theorem ms_nonneg : ∀ {L : List Sp}, Cn L → 0 ≤ msL L
  | [], _ => Int.le_refl _
  | p :: L, h => by have := ms_nonneg h.2.2; have := h.1; show 0 ≤ (p.2 - p.1) + msL L; omega
/-- Ranks that grow in the same way are the same. -/
theorem rk_same {A B C D : List Sp} (hA : Cn A) (hB : Cn B) (hC : Cn C) (hD : Cn D) (lA : Ln A) (lB : Ln B) (lC : Ln C) (lD : Ln D)
    (h : ∀ x, (if inB A x then 1 else 0) + (if inB B x then 1 else 0) = ((if inB C x then 1 else 0) + (if inB D x then 1 else 0) : Int)) (x : Int) : rkL A x + rkL B x = rkL C x + rkL D x := by
  have low : ∀ {L : List Sp}, Cn L → Ln L → ∀ y, y ≤ -4398046511104 → rkL L y = 0 := fun {L} c l y hy => rk_low (fun p hp => ⟨by have := l p hp; omega, c.lt p hp⟩)
  rcases Int.le_total x (-4398046511104) with z | z
  · rw [low hA lA x z, low hB lB x z, low hC lC x z, low hD lD x z]
  · obtain ⟨n, rfl⟩ : ∃ n : Nat, x = -4398046511104 + n := ⟨(x + 4398046511104).toNat, by omega⟩
    induction n with
    | zero =>
      have y : (-4398046511104 : Int) + ((0 : Nat) : Int) ≤ -4398046511104 := by omega
      rw [low hA lA _ y, low hB lB _ y, low hC lC _ y, low hD lD _ y]
    | succ n ih =>
      have e : (-4398046511104 : Int) + ((n + 1 : Nat) : Int) = (-4398046511104 + (n : Int)) + 1 := by omega
      have := ih (by omega)
      have q := h (-4398046511104 + (n : Int))
      rw [e, rk_step hA, rk_step hB, rk_step hC, rk_step hD]
      omega
theorem ms_same {A B C D : List Sp} (hA : Cn A) (hB : Cn B) (hC : Cn C) (hD : Cn D) (lA : Ln A) (lB : Ln B) (lC : Ln C) (lD : Ln D)
    (h : ∀ x, (if inB A x then 1 else 0) + (if inB B x then 1 else 0) = ((if inB C x then 1 else 0) + (if inB D x then 1 else 0) : Int)) : msL A + msL B = msL C + msL D := by
  have r := rk_same hA hB hC hD lA lB lC lD h 4398046511104
  have hi : ∀ {L : List Sp}, Ln L → rkL L 4398046511104 = msL L := fun l => rk_high (fun p hp => (l p hp).2)
  rwa [hi lA, hi lB, hi lC, hi lD] at r
end Go.Proofs.Ytdkmahdfnmoliaa
