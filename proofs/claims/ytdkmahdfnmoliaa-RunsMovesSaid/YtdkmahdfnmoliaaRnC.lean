/- Lists of spans: the operations, by the ends of all spans. No program is mentioned. -/
import Derived.Test.YtdkmahdfnmoliaaRnN
namespace Go.Proofs.Ytdkmahdfnmoliaa
open Go.RowKit
set_option linter.unusedVariables false

def kpB (k : Int) (a b : Bool) : Bool := if k = 1 then a || b else if k = 2 then a && b else if k = 3 then a && !b else a != b
theorem kp_no (k : Int) : kpB k false false = false := by unfold kpB; (repeat' split) <;> rfl
/-- A number inserted into an ascending list. -/
def insZ (l : List Int) (x : Int) : List Int := l.filter (fun y => decide (y < x)) ++ x :: l.filter (fun y => decide (x < y))
abbrev Asc (l : List Int) : Prop := l.Pairwise (· < ·)
theorem ins_mem {l : List Int} {x y : Int} : y ∈ insZ l x ↔ y = x ∨ y ∈ l := by
  unfold insZ
  rw [List.mem_append, List.mem_cons, List.mem_filter, List.mem_filter, decide_eq_true_iff, decide_eq_true_iff]
  constructor
  · rintro (h | h | h)
    · exact .inr h.1
    · exact .inl h
    · exact .inr h.1
  · rintro (h | h)
    · exact .inr (.inl h)
    · rcases Int.lt_trichotomy y x with z | z | z
      · exact .inl ⟨h, z⟩
      · exact .inr (.inl z)
      · exact .inr (.inr ⟨h, z⟩)
theorem ins_asc {l : List Int} (h : Asc l) (x : Int) : Asc (insZ l x) := by
  refine List.pairwise_append.2 ⟨h.filter _, List.pairwise_cons.2 ⟨fun y hy => ?_, h.filter _⟩, fun a ha b hb => ?_⟩
  · exact of_decide_eq_true (List.mem_filter.1 hy).2
  · have a1 : a < x := of_decide_eq_true (List.mem_filter.1 ha).2
    rcases List.mem_cons.1 hb with rfl | hb
    · exact a1
    · have : x < b := of_decide_eq_true (List.mem_filter.1 hb).2
      omega
theorem ins_len (x : Int) : ∀ l : List Int, (insZ l x).length ≤ l.length + 1
  | [] => Nat.le_refl _
  | a :: l => by
    have := ins_len x l
    unfold insZ at this ⊢
    rw [List.length_append, List.length_cons] at this ⊢
    rw [List.filter_cons, List.filter_cons]
    by_cases z : a < x
    · rw [decide_eq_true z, decide_eq_false (by omega : ¬ x < a)]; simp at this ⊢; omega
    · by_cases y : x < a
      · rw [decide_eq_false z, decide_eq_true y]; simp at this ⊢; omega
      · rw [decide_eq_false z, decide_eq_false y]; simp at this ⊢; omega
/-- The ends of the first spans. -/
def enK (L : List Sp) : Nat → List Int
  | 0 => []
  | k + 1 => insZ (insZ (enK L k) (L.getD k (0, 0)).1) (L.getD k (0, 0)).2
def enL (L : List Sp) : List Int := enK L L.length
theorem enK_asc (L : List Sp) : ∀ k, Asc (enK L k)
  | 0 => List.Pairwise.nil
  | k + 1 => ins_asc (ins_asc (enK_asc L k) _) _
theorem enK_len (L : List Sp) : ∀ k, (enK L k).length ≤ 2 * k
  | 0 => Nat.le_refl _
  | k + 1 => by
    have a := enK_len L k
    have b := ins_len (L.getD k (0, 0)).1 (enK L k)
    have c := ins_len (L.getD k (0, 0)).2 (insZ (enK L k) (L.getD k (0, 0)).1)
    show (insZ (insZ (enK L k) (L.getD k (0, 0)).1) (L.getD k (0, 0)).2).length ≤ _
    omega
theorem enK_mem (L : List Sp) (y : Int) : ∀ k, y ∈ enK L k ↔ ∃ j, j < k ∧ (y = (L.getD j (0, 0)).1 ∨ y = (L.getD j (0, 0)).2)
  | 0 => ⟨fun h => (by cases h), fun ⟨j, h, _⟩ => absurd h (Nat.not_lt_zero _)⟩
  | k + 1 => by
    show y ∈ insZ (insZ (enK L k) (L.getD k (0, 0)).1) (L.getD k (0, 0)).2 ↔ _
    rw [ins_mem, ins_mem, enK_mem L y k]
    constructor
    · rintro (h | h | ⟨j, hj, h⟩)
      · exact ⟨k, by omega, .inr h⟩
      · exact ⟨k, by omega, .inl h⟩
      · exact ⟨j, by omega, h⟩
    · rintro ⟨j, hj, h⟩
      rcases Nat.lt_or_ge j k with z | z
      · exact .inr (.inr ⟨j, z, h⟩)
      · obtain rfl : j = k := by omega
        rcases h with h | h
        · exact .inr (.inl h)
        · exact .inl h
theorem enL_mem {L : List Sp} {y : Int} : y ∈ enL L ↔ ∃ p, p ∈ L ∧ (y = p.1 ∨ y = p.2) := by
  unfold enL
  rw [enK_mem]
  constructor
  · rintro ⟨j, hj, h⟩
    refine ⟨L.getD j (0, 0), ?_, h⟩
    rw [List.getD_eq_getElem?_getD, List.getElem?_eq_getElem hj]; exact List.getElem_mem hj
  · rintro ⟨p, hp, h⟩
    obtain ⟨j, hj, rfl⟩ := List.getElem_of_mem hp
    exact ⟨j, hj, by rw [List.getD_eq_getElem?_getD, List.getElem?_eq_getElem hj]; exact h⟩
theorem asc_at {e : List Int} (h : Asc e) {i j : Nat} (hij : i < j) (hj : j < e.length) : e.getD i 0 < e.getD j 0 := by
  rw [List.getD_eq_getElem?_getD, List.getD_eq_getElem?_getD, List.getElem?_eq_getElem hj, List.getElem?_eq_getElem (by omega)]
  exact List.pairwise_iff_getElem.1 h i j (by omega) hj hij
theorem asc_le {e : List Int} (h : Asc e) {i j : Nat} (hij : i ≤ j) (hj : j < e.length) : e.getD i 0 ≤ e.getD j 0 := by
  rcases Nat.lt_or_ge i j with z | z
  · have := asc_at h z hj; omega
  · obtain rfl : i = j := by omega
    exact Int.le_refl _
theorem asc_inv {e : List Int} (h : Asc e) {i j : Nat} (hi : i < e.length) (hj : j < e.length) (l : e.getD i 0 < e.getD j 0) : i < j := by
  rcases Nat.lt_or_ge i j with z | z
  · exact z
  · have := asc_le h z hi; omega
theorem mem_at {e : List Int} {y : Int} (h : y ∈ e) : ∃ i, i < e.length ∧ e.getD i 0 = y := by
  obtain ⟨i, hi, rfl⟩ := List.getElem_of_mem h
  exact ⟨i, hi, by rw [List.getD_eq_getElem?_getD, List.getElem?_eq_getElem hi]; rfl⟩
theorem locate {e : List Int} {x : Int} {i : Nat} : ∀ d, i + d < e.length → e.getD i 0 ≤ x → x < e.getD (i + d) 0 → ∃ j, j + 1 < e.length ∧ e.getD j 0 ≤ x ∧ x < e.getD (j + 1) 0
  | 0, _, a, b => by rw [Nat.add_zero] at b; omega
  | d + 1, h, a, b => by
    by_cases z : x < e.getD (i + d) 0
    · exact locate d (by omega) a z
    · exact ⟨i + d, by omega, by omega, b⟩
/-- A span added behind the last one. -/
def addL (l : List Sp) (s : Sp) : List Sp := if 0 < l.length ∧ (l.getD (l.length - 1) (0, 0)).2 = s.1 then l.dropLast ++ [((l.getD (l.length - 1) (0, 0)).1, s.2)] else l ++ [s]
theorem add_nil (s : Sp) : addL [] s = [s] := rfl
theorem add_snoc (R : List Sp) (q s : Sp) : addL (R ++ [q]) s = if q.2 = s.1 then R ++ [(q.1, s.2)] else R ++ [q] ++ [s] := by
  unfold addL
  have e : (R ++ [q]).getD ((R ++ [q]).length - 1) (0, 0) = q := by
    rw [List.length_append, List.length_singleton, Nat.add_sub_cancel]
    simp [List.getD_eq_getElem?_getD]
  rw [e]
  by_cases z : q.2 = s.1
  · rw [if_pos ⟨by simp, z⟩, if_pos z, List.dropLast_concat]
  · rw [if_neg (fun h => z h.2), if_neg z]
theorem add_len (l : List Sp) (s : Sp) : (addL l s).length ≤ l.length + 1 := by
  unfold addL
  split
  · rw [List.length_append, List.length_dropLast, List.length_singleton]; omega
  · rw [List.length_append, List.length_singleton]; exact Nat.le_refl _
theorem cn_snoc : ∀ {R : List Sp} {s : Sp}, Cn R → (∀ q, q ∈ R → q.2 < s.1) → s.1 < s.2 → Cn (R ++ [s])
  | [], s, _, _, h => ⟨h, fun q hq => (by cases hq), trivial⟩
  | p :: R, s, c, b, h => ⟨c.1, fun q hq => by
      rcases List.mem_append.1 hq with hq | hq
      · exact c.2.1 q hq
      · rw [List.mem_singleton.1 hq]; exact b p List.mem_cons_self, cn_snoc c.2.2 (fun q hq => b q (List.mem_cons_of_mem _ hq)) h⟩
theorem cn_last : ∀ {R : List Sp} {q : Sp}, Cn (R ++ [q]) → Cn R ∧ (∀ r, r ∈ R → r.2 < q.1) ∧ q.1 < q.2
  | [], q, c => ⟨trivial, fun r hr => (by cases hr), c.1⟩
  | p :: R, q, c => by
    obtain ⟨a, b, d⟩ := cn_last (R := R) c.2.2
    exact ⟨⟨c.1, fun r hr => c.2.1 r (List.mem_append_left _ hr), a⟩, fun r hr => by
      rcases List.mem_cons.1 hr with rfl | hr
      · exact c.2.1 q (List.mem_append_right _ List.mem_cons_self)
      · exact b r hr, d⟩
theorem snoc_cases (l : List Sp) : l = [] ∨ ∃ R q, l = R ++ [q] := by
  rcases List.eq_nil_or_concat l with h | ⟨R, q, h⟩
  · exact .inl h
  · exact .inr ⟨R, q, by rw [h, List.concat_eq_append]⟩
theorem add_ok {R : List Sp} {s : Sp} (c : Cn R) (b : ∀ q, q ∈ R → q.2 ≤ s.1) (h : s.1 < s.2) :
    Cn (addL R s) ∧ (∀ x, inB (addL R s) x = (inB R x || (decide (s.1 ≤ x) && decide (x < s.2)))) ∧ (∀ q, q ∈ addL R s → (∃ r, r ∈ R ∧ r.1 = q.1) ∨ q.1 = s.1) ∧ ∀ q, q ∈ addL R s → q.2 ≤ s.2 := by
  rcases snoc_cases R with rfl | ⟨R, q, rfl⟩
  · rw [add_nil]
    refine ⟨⟨h, fun q hq => (by cases hq), trivial⟩, fun x => by rw [inB_cons, inB_nil, Bool.or_false, Bool.false_or], fun q hq => .inr (by rw [List.mem_singleton.1 hq]), fun q hq => by rw [List.mem_singleton.1 hq]; exact Int.le_refl _⟩
  · obtain ⟨c1, c2, c3⟩ := cn_last c
    have bq := b q (List.mem_append_right _ List.mem_cons_self)
    rw [add_snoc]
    by_cases z : q.2 = s.1
    · rw [if_pos z]
      refine ⟨cn_snoc c1 c2 (by show q.1 < s.2; omega), fun x => ?_, fun r hr => ?_, fun r hr => ?_⟩
      · rw [inB_app, inB_app, inB_cons, inB_nil, Bool.or_false, inB_cons, inB_nil, Bool.or_false, Bool.or_assoc]
        congr 1
        show (decide (q.1 ≤ x) && decide (x < s.2)) = _
        rw [Bool.eq_iff_iff]; simp only [Bool.or_eq_true, Bool.and_eq_true, decide_eq_true_iff]; omega
      · rcases List.mem_append.1 hr with hr | hr
        · exact .inl ⟨r, List.mem_append_left _ hr, rfl⟩
        · rw [List.mem_singleton.1 hr]; exact .inl ⟨q, List.mem_append_right _ List.mem_cons_self, rfl⟩
      · rcases List.mem_append.1 hr with hr | hr
        · have := c2 r hr; omega
        · rw [List.mem_singleton.1 hr]; exact Int.le_refl _
    · rw [if_neg z]
      refine ⟨cn_snoc c (fun r hr => ?_) h, fun x => ?_, fun r hr => ?_, fun r hr => ?_⟩
      · rcases List.mem_append.1 hr with hr | hr
        · have := c2 r hr; omega
        · rw [List.mem_singleton.1 hr]; omega
      · rw [inB_app _ [s], inB_cons, inB_nil, Bool.or_false]
      · rcases List.mem_append.1 hr with hr | hr
        · exact .inl ⟨r, hr, rfl⟩
        · exact .inr (by rw [List.mem_singleton.1 hr])
      · rcases List.mem_append.1 hr with hr | hr
        · have := b r hr; omega
        · rw [List.mem_singleton.1 hr]; exact Int.le_refl _
/-- The result behind the first ends. -/
def cbK (k : Int) (A B : List Sp) (e : List Int) : Nat → List Sp
  | 0 => []
  | i + 1 => if kpB k (inB A (e.getD i 0)) (inB B (e.getD i 0)) then addL (cbK k A B e i) (e.getD i 0, e.getD (i + 1) 0) else cbK k A B e i
def cbL (k : Int) (A B : List Sp) : List Sp := cbK k A B (enL (A ++ B)) ((enL (A ++ B)).length - 1)
theorem cbK_len (k : Int) (A B : List Sp) (e : List Int) : ∀ i, (cbK k A B e i).length ≤ i
  | 0 => Nat.le_refl _
  | i + 1 => by
    have := cbK_len k A B e i
    show (if _ then addL (cbK k A B e i) _ else cbK k A B e i).length ≤ _
    split
    · have := add_len (cbK k A B e i) (e.getD i 0, e.getD (i + 1) 0); omega
    · omega
theorem cbK_inv (k : Int) (A B : List Sp) {e : List Int} (h : Asc e) : ∀ i, i = 0 ∨ i < e.length → Cn (cbK k A B e i) ∧ (∀ q, q ∈ cbK k A B e i → (∃ j, j < e.length ∧ q.1 = e.getD j 0) ∧ q.2 ≤ e.getD i 0) ∧
      ∀ x, inB (cbK k A B e i) x = true ↔ ∃ j, j < i ∧ e.getD j 0 ≤ x ∧ x < e.getD (j + 1) 0 ∧ kpB k (inB A (e.getD j 0)) (inB B (e.getD j 0)) = true
  | 0, _ => ⟨trivial, fun q hq => (by cases hq), fun x => ⟨fun h => (by cases h), fun ⟨j, hj, _⟩ => absurd hj (Nat.not_lt_zero _)⟩⟩
  | i + 1, hi => by
    have hi' : i + 1 < e.length := by omega
    obtain ⟨c, b, m⟩ := cbK_inv k A B h i (.inr (by omega))
    have lt : e.getD i 0 < e.getD (i + 1) 0 := asc_at h (Nat.lt_succ_self i) hi'
    have d : cbK k A B e (i + 1) = if kpB k (inB A (e.getD i 0)) (inB B (e.getD i 0)) then addL (cbK k A B e i) (e.getD i 0, e.getD (i + 1) 0) else cbK k A B e i := rfl
    rw [d]
    cases v : kpB k (inB A (e.getD i 0)) (inB B (e.getD i 0))
    · rw [if_neg (by simp)]
      refine ⟨c, fun q hq => ⟨(b q hq).1, by have := (b q hq).2; omega⟩, fun x => (m x).trans ?_⟩
      constructor
      · rintro ⟨j, hj, r⟩
        exact ⟨j, by omega, r⟩
      · rintro ⟨j, hj, r1, r2, r3⟩
        rcases Nat.lt_or_ge j i with z | z
        · exact ⟨j, z, r1, r2, r3⟩
        · obtain rfl : j = i := by omega
          rw [v] at r3; cases r3
    · rw [if_pos rfl]
      obtain ⟨a1, a2, a3, a4⟩ := add_ok (s := (e.getD i 0, e.getD (i + 1) 0)) c (fun q hq => (b q hq).2) lt
      refine ⟨a1, fun q hq => ⟨?_, a4 q hq⟩, fun x => ?_⟩
      · rcases a3 q hq with ⟨r, hr, er⟩ | er
        · obtain ⟨j, hj, ej⟩ := (b r hr).1
          exact ⟨j, hj, by rw [← er, ej]⟩
        · exact ⟨i, by omega, er⟩
      · rw [a2, Bool.or_eq_true, m, Bool.and_eq_true, decide_eq_true_iff, decide_eq_true_iff]
        constructor
        · rintro (⟨j, hj, r⟩ | ⟨r1, r2⟩)
          · exact ⟨j, by omega, r⟩
          · exact ⟨i, by omega, r1, r2, v⟩
        · rintro ⟨j, hj, r1, r2, r3⟩
          rcases Nat.lt_or_ge j i with z | z
          · exact .inl ⟨j, z, r1, r2, r3⟩
          · obtain rfl : j = i := by omega
            exact .inr ⟨r1, r2⟩
/-- Between two ends nothing changes. -/
theorem in_const {e : List Int} (h : Asc e) {L : List Sp} (m : ∀ p, p ∈ L → p.1 ∈ e ∧ p.2 ∈ e) {j : Nat} (hj : j + 1 < e.length) {x : Int} (x0 : e.getD j 0 ≤ x) (x1 : x < e.getD (j + 1) 0) : inB L x = inB L (e.getD j 0) := by
  rw [Bool.eq_iff_iff, inB_iff, inB_iff]
  constructor
  · rintro ⟨p, hp, a, b⟩
    refine ⟨p, hp, ?_, by omega⟩
    obtain ⟨i, hi, ei⟩ := mem_at (m p hp).1
    rcases Nat.lt_or_ge j i with z | z
    · have := asc_le h (show j + 1 ≤ i by omega) hi; omega
    · have := asc_le h z (by omega); omega
  · rintro ⟨p, hp, a, b⟩
    refine ⟨p, hp, by omega, ?_⟩
    obtain ⟨i, hi, ei⟩ := mem_at (m p hp).2
    have := asc_inv h (show j < e.length by omega) hi (by omega)
    have := asc_le h (show j + 1 ≤ i by omega) hi
    omega
theorem cb_spec (k : Int) (A B : List Sp) : Cn (cbL k A B) ∧ (∀ x, inB (cbL k A B) x = kpB k (inB A x) (inB B x)) ∧ (∀ q, q ∈ cbL k A B → q.1 ∈ enL (A ++ B) ∧ ∃ y, y ∈ enL (A ++ B) ∧ q.2 ≤ y) ∧ (cbL k A B).length ≤ 2 * (A.length + B.length) := by
  have asc : Asc (enL (A ++ B)) := enK_asc _ _
  have len : (enL (A ++ B)).length ≤ 2 * (A.length + B.length) := by
    have := enK_len (A ++ B) (A ++ B).length
    rw [List.length_append] at this
    unfold enL; rw [List.length_append]; exact this
  have mA : ∀ p, p ∈ A → p.1 ∈ enL (A ++ B) ∧ p.2 ∈ enL (A ++ B) := fun p hp => ⟨enL_mem.2 ⟨p, List.mem_append_left _ hp, .inl rfl⟩, enL_mem.2 ⟨p, List.mem_append_left _ hp, .inr rfl⟩⟩
  have mB : ∀ p, p ∈ B → p.1 ∈ enL (A ++ B) ∧ p.2 ∈ enL (A ++ B) := fun p hp => ⟨enL_mem.2 ⟨p, List.mem_append_right _ hp, .inl rfl⟩, enL_mem.2 ⟨p, List.mem_append_right _ hp, .inr rfl⟩⟩
  have ln := cbK_len k A B (enL (A ++ B)) ((enL (A ++ B)).length - 1)
  have inv := cbK_inv k A B asc ((enL (A ++ B)).length - 1) (by omega)
  unfold cbL
  generalize enL (A ++ B) = e at *
  obtain ⟨c, b, m⟩ := inv
  refine ⟨c, fun x => ?_, fun q hq => ?_, by omega⟩
  · rw [Bool.eq_iff_iff, m]
    constructor
    · rintro ⟨j, hj, r1, r2, r3⟩
      rwa [in_const asc mA (by omega) r1 r2, in_const asc mB (by omega) r1 r2]
    · intro r
      have some : ∃ p, (p ∈ A ∨ p ∈ B) ∧ p.1 ≤ x ∧ x < p.2 := by
        cases vA : inB A x
        · cases vB : inB B x
          · rw [vA, vB, kp_no] at r; cases r
          · obtain ⟨p, hp, z⟩ := inB_iff.1 vB; exact ⟨p, .inr hp, z⟩
        · obtain ⟨p, hp, z⟩ := inB_iff.1 vA; exact ⟨p, .inl hp, z⟩
      obtain ⟨p, hp, z1, z2⟩ := some
      have me : p.1 ∈ e ∧ p.2 ∈ e := hp.elim (mA p) (mB p)
      obtain ⟨i, hi, ei⟩ := mem_at me.1
      obtain ⟨t, ht, et⟩ := mem_at me.2
      have it := asc_inv asc hi ht (by omega)
      obtain ⟨j, hj, j0, j1⟩ := locate (e := e) (x := x) (i := i) (t - i) (by omega) (by omega) (by rw [show i + (t - i) = t by omega]; omega)
      refine ⟨j, by omega, j0, j1, ?_⟩
      rwa [← in_const asc mA hj j0 j1, ← in_const asc mB hj j0 j1]
  · obtain ⟨⟨j, hj, ej⟩, r⟩ := b q hq
    have at' : ∀ i, i < e.length → e.getD i 0 ∈ e := fun i hi => by
      rw [List.getD_eq_getElem?_getD, List.getElem?_eq_getElem hi]; exact List.getElem_mem hi
    exact ⟨by rw [ej]; exact at' j hj, _, at' _ (by omega), r⟩
theorem cb_line {k : Int} {A B : List Sp} (hA : spsB A = true) (hB : spsB B = true) : Ln (cbL k A B) := by
  have ends : ∀ y, y ∈ enL (A ++ B) → -4398046511104 ≤ y ∧ y ≤ 4398046511104 := by
    intro y hy
    obtain ⟨p, hp, h⟩ := enL_mem.1 hy
    have q : spB p = true := (List.mem_append.1 hp).elim (fun h => List.all_eq_true.1 hA p h) (fun h => List.all_eq_true.1 hB p h)
    have := spB_iff.1 q
    omega
  intro q hq
  obtain ⟨a, y, hy, b⟩ := (cb_spec k A B).2.2.1 q hq
  have := ends _ a
  have := ends _ hy
  omega
/-- The functions of the package: lists and errors. -/
def ruFull (l : List Sp) : List Sp × Int := if 2000 < l.length then ([], 5) else (l, 0)
def ruOf (L : List Sp) : List Sp × Int := if spsB L then ruFull (cbL 1 L []) else ([], 1)
def ruAp (k : Int) (A B : List Sp) : List Sp × Int := if vaB A && vaB B then ruFull (cbL k A B) else ([], 1)
def ruNot (A : List Sp) (p : Sp) : List Sp × Int := if vaB A && spB p then ruFull (cbL 3 [p] A) else ([], 1)
theorem va_sps {L : List Sp} (h : vaB L = true) : spsB L = true := by
  unfold vaB at h; rw [Bool.and_eq_true, Bool.and_eq_true] at h; exact h.1.2
theorem full_ok {l : List Sp} (h : (ruFull l).2 = 0) : l.length ≤ 2000 ∧ ruFull l = (l, 0) := by
  unfold ruFull at h ⊢
  by_cases z : 2000 < l.length
  · rw [if_pos z] at h; cases h
  · rw [if_neg z]; exact ⟨by omega, rfl⟩
theorem ap_ok {k : Int} {A B : List Sp} (h : (ruAp k A B).2 = 0) : vaB A = true ∧ vaB B = true ∧ vaB (ruAp k A B).1 = true ∧ ∀ x, inB (ruAp k A B).1 x = kpB k (inB A x) (inB B x) := by
  unfold ruAp at h ⊢
  cases v : vaB A && vaB B
  · rw [v] at h; cases h
  · rw [v, if_pos rfl] at h
    rw [if_pos rfl]
    have v' := v
    rw [Bool.and_eq_true] at v'
    obtain ⟨l, e⟩ := full_ok h
    obtain ⟨c, m, -, -⟩ := cb_spec k A B
    rw [e]
    exact ⟨v'.1, v'.2, vaB_iff.2 ⟨l, cb_line (va_sps v'.1) (va_sps v'.2), c⟩, m⟩
theorem ap_small {k : Int} {A B : List Sp} (hA : vaB A = true) (hB : vaB B = true) (h : A.length + B.length ≤ 1000) : ruAp k A B = (cbL k A B, 0) := by
  have := (cb_spec k A B).2.2.2
  unfold ruAp
  rw [hA, hB]
  show ruFull (cbL k A B) = _
  unfold ruFull
  rw [if_neg (by omega)]
theorem ap_arg {k : Int} {A B : List Sp} (h : (vaB A && vaB B) = false) : ruAp k A B = ([], 1) := by unfold ruAp; rw [h]; rfl
theorem not_ok {A : List Sp} {p : Sp} (h : (ruNot A p).2 = 0) : vaB A = true ∧ spB p = true ∧ vaB (ruNot A p).1 = true ∧ ∀ x, inB (ruNot A p).1 x = (decide (p.1 ≤ x) && decide (x < p.2) && !inB A x) := by
  unfold ruNot at h ⊢
  cases v : vaB A && spB p
  · rw [v] at h; cases h
  · rw [v, if_pos rfl] at h
    rw [if_pos rfl]
    have v' := v
    rw [Bool.and_eq_true] at v'
    obtain ⟨l, e⟩ := full_ok h
    obtain ⟨c, m, -, -⟩ := cb_spec 3 [p] A
    rw [e]
    refine ⟨v'.1, v'.2, vaB_iff.2 ⟨l, cb_line (by unfold spsB; simp [v'.2]) (va_sps v'.1), c⟩, fun x => ?_⟩
    show inB (cbL 3 [p] A) x = _
    rw [m, inB_cons, inB_nil, Bool.or_false]; rfl
theorem of_ok {L : List Sp} (h : (ruOf L).2 = 0) : spsB L = true ∧ vaB (ruOf L).1 = true ∧ ∀ x, inB (ruOf L).1 x = inB L x := by
  unfold ruOf at h ⊢
  cases v : spsB L
  · rw [v] at h; cases h
  · rw [v, if_pos rfl] at h
    rw [if_pos rfl]
    obtain ⟨l, e⟩ := full_ok h
    obtain ⟨c, m, -, -⟩ := cb_spec 1 L []
    rw [e]
    refine ⟨rfl, vaB_iff.2 ⟨l, cb_line v rfl, c⟩, fun x => ?_⟩
    show inB (cbL 1 L []) x = _
    rw [m]; show (inB L x || inB [] x) = _; rw [inB_nil, Bool.or_false]
/-- A canonical list is its own. -/
theorem of_same {L : List Sp} (h : (ruOf L).2 = 0) (v : vaB L = true) : (ruOf L).1 = L := by
  obtain ⟨-, a, b⟩ := of_ok h
  exact cn_ext (vaB_iff.1 a).2.2 (vaB_iff.1 v).2.2 b
end Go.Proofs.Ytdkmahdfnmoliaa
