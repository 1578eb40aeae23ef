/- Lists of spans: the element with an index, the next element, moves. No program is mentioned. -/
import Derived.Test.YtdkmahdfnmoliaaRnM
namespace Go.Proofs.Ytdkmahdfnmoliaa
open Go.RowKit
set_option linter.unusedVariables false

def nthL : List Sp → Int → Int
  | [], _ => 0
  | p :: L, n => if p.2 - p.1 ≤ n then nthL L (n - (p.2 - p.1)) else p.1 + n
def nextL : List Sp → Int → Int × Bool
  | [], _ => (0, false)
  | p :: L, x => if x < p.2 then (if x < p.1 then (p.1, true) else (x, true)) else nextL L x
theorem in_behind : ∀ {L : List Sp} {a y : Int}, (∀ q, q ∈ L → a < q.1) → inB L y = true → a < y := by
  intro L a y h i
  obtain ⟨p, hp, q, _⟩ := inB_iff.1 i
  have := h p hp; omega
theorem nth_in : ∀ {L : List Sp}, Cn L → ∀ {n : Int}, 0 ≤ n → n < msL L → inB L (nthL L n) = true ∧ rkL L (nthL L n) = n
  | [], _, n, h0, h1 => by simp only [msL] at h1; omega
  | p :: L, h, n, h0, h1 => by
    have lt := h.1
    have h1' : n < (p.2 - p.1) + msL L := h1
    show inB (p :: L) (if p.2 - p.1 ≤ n then nthL L (n - (p.2 - p.1)) else p.1 + n) = true ∧ clS p (if p.2 - p.1 ≤ n then nthL L (n - (p.2 - p.1)) else p.1 + n) + rkL L (if p.2 - p.1 ≤ n then nthL L (n - (p.2 - p.1)) else p.1 + n) = n
    by_cases z : p.2 - p.1 ≤ n
    · rw [if_pos z]
      obtain ⟨a, b⟩ := nth_in h.2.2 (n := n - (p.2 - p.1)) (by omega) (by omega)
      have c := in_behind h.2.1 a
      refine ⟨by rw [inB_cons, a, Bool.or_true], ?_⟩
      rw [b]; unfold clS; rw [if_pos (by omega)]; omega
    · rw [if_neg z]
      refine ⟨by rw [inB_cons, decide_eq_true (show p.1 ≤ p.1 + n by omega), decide_eq_true (show p.1 + n < p.2 by omega)]; rfl, ?_⟩
      rw [rk_low (fun q hq => ⟨by have := h.2.1 q hq; omega, h.2.2.lt q hq⟩)]
      unfold clS; rw [if_neg (by omega)]; split <;> omega
theorem next_no : ∀ {L : List Sp}, Cn L → ∀ {x : Int}, (nextL L x).2 = false → nextL L x = (0, false) ∧ rkL L x = msL L ∧ inB L x = false
  | [], _, _, _ => ⟨rfl, rfl, rfl⟩
  | p :: L, h, x, e => by
    have e' : (if x < p.2 then (if x < p.1 then (p.1, true) else (x, true)) else nextL L x).2 = false := e
    by_cases z : x < p.2
    · rw [if_pos z] at e'
      split at e' <;> cases e'
    · rw [if_neg z] at e'
      obtain ⟨a, b, c⟩ := next_no h.2.2 e'
      refine ⟨?_, ?_, ?_⟩
      · show (if x < p.2 then _ else nextL L x) = _; rw [if_neg z, a]
      · show clS p x + rkL L x = (p.2 - p.1) + msL L; rw [b]; unfold clS; rw [if_pos (by omega)]
      · rw [cn_head h, if_neg z, c]
theorem next_yes : ∀ {L : List Sp}, Cn L → Ln L → ∀ {x : Int}, (nextL L x).2 = true →
    x ≤ (nextL L x).1 ∧ inB L (nextL L x).1 = true ∧ rkL L x < msL L ∧ nthL L (rkL L x) = (nextL L x).1 ∧ inB L x = decide ((nextL L x).1 = x)
  | [], _, _, _, e => by cases e
  | p :: L, h, l, x, e => by
    have lt := h.1
    have ms := ms_nonneg h.2.2
    have l2 : Ln L := fun q hq => l q (List.mem_cons_of_mem _ hq)
    have low : ∀ y, y ≤ p.2 → rkL L y = 0 := fun y hy => rk_low (fun q hq => ⟨by have := h.2.1 q hq; omega, h.2.2.lt q hq⟩)
    have e' : (if x < p.2 then (if x < p.1 then (p.1, true) else (x, true)) else nextL L x).2 = true := e
    by_cases z : x < p.2
    · by_cases y : x < p.1
      · have nx : nextL (p :: L) x = (p.1, true) := by show (if x < p.2 then (if x < p.1 then (p.1, true) else (x, true)) else nextL L x) = _; rw [if_pos z, if_pos y]
        have rk : rkL (p :: L) x = 0 := by show clS p x + rkL L x = 0; rw [low x (by omega)]; unfold clS; rw [if_neg (by omega), if_neg (by omega)]; rfl
        rw [nx, rk]
        refine ⟨by show x ≤ p.1; omega, ?_, ?_, ?_, ?_⟩
        · show inB (p :: L) p.1 = true; rw [cn_head h, if_pos lt]; simp
        · show 0 < (p.2 - p.1) + msL L; omega
        · show (if p.2 - p.1 ≤ 0 then _ else p.1 + 0) = p.1; rw [if_neg (by omega)]; omega
        · rw [cn_head h, if_pos z, decide_eq_false (by omega), decide_eq_false (by show ¬ p.1 = x; omega)]
      · have nx : nextL (p :: L) x = (x, true) := by show (if x < p.2 then (if x < p.1 then (p.1, true) else (x, true)) else nextL L x) = _; rw [if_pos z, if_neg y]
        have rk : rkL (p :: L) x = x - p.1 := by show clS p x + rkL L x = _; rw [low x (by omega)]; unfold clS; rw [if_neg (by omega)]; split <;> omega
        rw [nx, rk]
        refine ⟨Int.le_refl _, ?_, ?_, ?_, ?_⟩
        · show inB (p :: L) x = true; rw [cn_head h, if_pos z, decide_eq_true (by omega)]
        · show x - p.1 < (p.2 - p.1) + msL L; omega
        · show (if p.2 - p.1 ≤ x - p.1 then _ else p.1 + (x - p.1)) = x; rw [if_neg (by omega)]; omega
        · rw [cn_head h, if_pos z, decide_eq_true (by omega), decide_eq_true (by show x = x; rfl)]
    · have nx : nextL (p :: L) x = nextL L x := by show (if x < p.2 then _ else nextL L x) = _; rw [if_neg z]
      rw [if_neg z] at e'
      obtain ⟨a, b, c, d, f⟩ := next_yes h.2.2 l2 e'
      have rk : rkL (p :: L) x = (p.2 - p.1) + rkL L x := by show clS p x + rkL L x = _; unfold clS; rw [if_pos (by omega)]
      have nn := rk_bound h.2.2 l2 x
      rw [nx, rk]
      refine ⟨a, ?_, ?_, ?_, ?_⟩
      · rw [inB_cons, b, Bool.or_true]
      · show (p.2 - p.1) + rkL L x < (p.2 - p.1) + msL L; omega
      · show (if p.2 - p.1 ≤ (p.2 - p.1) + rkL L x then nthL L ((p.2 - p.1) + rkL L x - (p.2 - p.1)) else _) = _
        rw [if_pos (by omega), show (p.2 - p.1) + rkL L x - (p.2 - p.1) = rkL L x by omega, d]
      · rw [cn_head h, if_neg z, f]
/-- The rank of an element is less than the measure. -/
theorem rk_lt : ∀ {L : List Sp}, Cn L → Ln L → ∀ {x : Int}, inB L x = true → rkL L x < msL L := by
  intro L c l x i
  cases e : (nextL L x).2
  · have := (next_no c e).2.2; rw [i] at this; cases this
  · exact (next_yes c l e).2.2.1
/-- The spans, moved. -/
def shL (L : List Sp) (n : Int) : List Sp := L.map fun p => (p.1 + n, p.2 + n)
theorem sh_in (L : List Sp) (n x : Int) : inB (shL L n) (x + n) = inB L x := by
  unfold inB shL
  rw [List.any_map]
  congr 1
  funext p
  show (decide (p.1 + n ≤ x + n) && decide (x + n < p.2 + n)) = _
  rw [Bool.eq_iff_iff]; simp only [Bool.and_eq_true, decide_eq_true_iff]; omega
theorem sh_cn : ∀ {L : List Sp} {n : Int}, Cn L → Cn (shL L n)
  | [], _, _ => trivial
  | p :: L, n, h => ⟨by show p.1 + n < p.2 + n; have := h.1; omega, fun q hq => by
      obtain ⟨r, hr, rfl⟩ := List.mem_map.1 hq
      have := h.2.1 r hr
      show p.2 + n < r.1 + n; omega, sh_cn h.2.2⟩
theorem sh_ms : ∀ (L : List Sp) (n : Int), msL (shL L n) = msL L
  | [], _ => rfl
  | p :: L, n => by show ((p.2 + n) - (p.1 + n)) + msL (shL L n) = (p.2 - p.1) + msL L; rw [sh_ms L n]; omega
theorem sh_len (L : List Sp) (n : Int) : (shL L n).length = L.length := by simp [shL]
theorem sh_back (L : List Sp) (n : Int) : shL (shL L n) (-n) = L := by
  unfold shL
  rw [List.map_map]
  conv => rhs; rw [← List.map_id L]
  congr 1
  funext p
  show (p.1 + n + -n, p.2 + n + -n) = p
  rw [show p.1 + n + -n = p.1 by omega, show p.2 + n + -n = p.2 by omega]
/-- Move: the list, and an error. -/
def moV (L : List Sp) (n : Int) : List Sp × Int :=
  if vaB L then (if decide (8796093022208 < n) || decide (n < -8796093022208) then ([], 2) else if spsB (shL L n) then (shL L n, 0) else ([], 2)) else ([], 1)
theorem mo_ok {L : List Sp} {n : Int} (h : (moV L n).2 = 0) : vaB L = true ∧ -8796093022208 ≤ n ∧ n ≤ 8796093022208 ∧ spsB (shL L n) = true ∧ moV L n = (shL L n, 0) ∧ vaB (shL L n) = true := by
  unfold moV at h ⊢
  cases v : vaB L
  · rw [v] at h; cases h
  · rw [v, if_pos rfl] at h
    rw [if_pos rfl]
    cases u : decide (8796093022208 < n) || decide (n < -8796093022208)
    · rw [u, if_neg (by simp)] at h
      rw [if_neg (by simp)]
      rw [Bool.or_eq_false_iff, decide_eq_false_iff_not, decide_eq_false_iff_not] at u
      cases t : spsB (shL L n)
      · rw [t] at h; cases h
      · refine ⟨rfl, by omega, by omega, rfl, rfl, ?_⟩
        obtain ⟨a, b, c⟩ := vaB_iff.1 v
        exact vaB_iff.2 ⟨by rw [sh_len]; exact a, (sps_of.1 t).1, sh_cn c⟩
    · rw [u] at h; cases h
theorem mo_yes {L : List Sp} {n : Int} (v : vaB L = true) (h0 : -8796093022208 ≤ n) (h1 : n ≤ 8796093022208) (s : spsB (shL L n) = true) : moV L n = (shL L n, 0) := by
  unfold moV
  rw [v, if_pos rfl, decide_eq_false (by omega), decide_eq_false (by omega), s]; rfl
end Go.Proofs.Ytdkmahdfnmoliaa
