/- Contracts of civiltimeref12: Add. -/
import Derived.Test.YtaikeclfmmnelaaQGC
import Derived.Deep.RegionWith
import Derived.Deep.RegionHeld3
import Derived.Test.YtaikeclfmmnelaaQGK
namespace Go.Proofs.Ytaikeclfmmnelaa

open Go.RowKit

set_option linter.unusedVariables false

theorem infoS : (Try.prog.info? 37).map (fun i => (i.zero, i.size, i.bytes)) = some (some (.agg #[.int .i64 0, .int .i64 0]), 2, 16) := by kernel_rfl
theorem pairs_set (R : List Sp) (q : Sp) (y : Int) : (pairs (R ++ [q])).set (R.length * 2 + 1) (.int .i64 y) = pairs (R ++ [(q.1, y)]) := by
  induction R with
  | nil => rfl
  | cons p R ih =>
    have e : (p :: R).length * 2 + 1 = (R.length * 2 + 1) + 1 + 1 := by simp; omega
    rw [e]
    show Value.int .i64 p.1 :: Value.int .i64 p.2 :: (pairs (R ++ [q])).set (R.length * 2 + 1) (.int .i64 y) = _
    rw [ih]; rfl
end Go.Proofs.Ytaikeclfmmnelaa
/- Contracts of civiltimeref12: Combine. -/
namespace Go.Proofs.Ytaikeclfmmnelaa

open Go.RowKit

set_option linter.unusedVariables false

theorem prs_news {base : Nat} {w : World} {o : Option Addr} {n c : Nat} {L : List Sp} (h : PairS base w (.slice o n c) L) :
    (o = none → n = 0) ∧ n = L.length ∧ ∀ ad, o = some ad → ∀ j u, (pairs L)[j]? = some u → w.cell? (ad.add j) = some u := by
  rcases h with ⟨h0, a, c', e⟩ | ⟨b, off, c', e, -, l⟩
  · injection e with e1 e2 e3
    obtain rfl : L = [] := List.eq_nil_of_length_eq_zero h0
    exact ⟨fun _ => e2, by rw [e2]; rfl, fun ad _ j u hu => (by simp [pairs] at hu)⟩
  · injection e with e1 e2 e3
    refine ⟨fun q => (by rw [q] at e1; cases e1), e2, fun ad q j u hu => ?_⟩
    rw [q] at e1
    cases e1
    rw [Addr.add_lit]
    exact l.cell j u hu
theorem pairs_one (L : List Sp) : ∀ u ∈ pairs L, u.oneCell' = true := by
  induction L with
  | nil => intro u hu; cases hu
  | cons p L ih =>
    intro u hu
    rcases List.mem_cons.1 hu with rfl | hu
    · rfl
    · rcases List.mem_cons.1 hu with rfl | hu
      · rfl
      · exact ih u hu
theorem ins_here {base : Nat} {w : World} {o : Option Addr} {n c : Nat} {L : List Int} (h : IntS base w (.slice o n c) L) {i : Nat} (hi : i < L.length) :
    ∃ b off, o = some ⟨b, off, none⟩ ∧ b < w.heap.size ∧ ∀ j, j < L.length → w.cell? ⟨b, off + j, none⟩ = some (.int .i64 (L.getD j 0)) := by
  rcases h with ⟨h0, -⟩ | ⟨b, off, c', e, -, l⟩
  · omega
  · injection e with e1 e2 e3
    exact ⟨b, off, e1, l.lt, fun j hj => ints_at l j hj⟩
theorem cb_step (k : Int) (A B : List Sp) (E : List Int) (i : Nat) : cbK k A B E (i + 1) = if kpB k (inB A (E.getD i 0)) (inB B (E.getD i 0)) then addL (cbK k A B E i) (E.getD i 0, E.getD (i + 1) 0) else cbK k A B E i := rfl
end Go.Proofs.Ytaikeclfmmnelaa
/- Contracts of civiltimeref12: Of, Apply, Not. -/
namespace Go.Proofs.Ytaikeclfmmnelaa

open Go.RowKit

set_option linter.unusedVariables false

theorem own_prs {w : World} {B : Nat} {v : Value} {L : List Sp} (h : w.ownsRow B 37 2 v L.length (pairs L)) : PairS B w v L := Sl.owns h
theorem prs_nil (B : Nat) (w : World) : PairS B w (.slice none 0 0) [] := Sl.none B w
end Go.Proofs.Ytaikeclfmmnelaa
/- Contracts of civiltimeref12: Not. -/
namespace Go.Proofs.Ytaikeclfmmnelaa

open Go.RowKit

set_option linter.unusedVariables false

theorem two_prs {w : World} {b : Nat} {p : Sp} {B : Nat} (h : Two w b (.int .i64 p.1) (.int .i64 p.2)) (hB : B ≤ b) : PairS B w (.slice (some ⟨b, 0, none⟩) 1 1) [p] := by
  refine .inr ⟨b, 0, 1, rfl, hB, h.lt, fun j u hj => ?_⟩
  match j, hj with
  | 0, hj => cases hj; exact h.c0
  | 1, hj => cases hj; exact h.c1
  | j + 2, hj => simp [pairs] at hj
end Go.Proofs.Ytaikeclfmmnelaa
/- Contracts of civiltimeref12: Move. -/
namespace Go.Proofs.Ytaikeclfmmnelaa

open Go.RowKit

set_option linter.unusedVariables false

theorem sh_at (L : List Sp) (n : Int) {k : Nat} (hk : k < L.length) : (shL L n).getD k (0, 0) = ((L.getD k (0, 0)).1 + n, (L.getD k (0, 0)).2 + n) := by
  unfold shL
  rw [List.getD_eq_getElem?_getD, List.getD_eq_getElem?_getD, List.getElem?_map, List.getElem?_eq_getElem hk]; rfl
theorem take_snoc (M : List Sp) {k : Nat} (hk : k < M.length) : M.take (k + 1) = M.take k ++ [M.getD k (0, 0)] := by
  rw [List.take_add_one, List.getD_eq_getElem?_getD, List.getElem?_eq_getElem hk]; rfl
end Go.Proofs.Ytaikeclfmmnelaa
/- Contracts of package runs: Equal, limited, end, isInside. -/
namespace Go.Proofs.Ytaikeclfmmnelaa

open Go.RowKit

set_option linter.unusedVariables false
theorem rulimited (o : Option Addr) (n c : Nat) (hn : n ≤ maxLen) (w : World) :
    Calls Try.prog 85 #[.slice o n c] w fun e w' => e = .returned (if 2000 < n then .tuple #[.slice none 0 0, .int .i64 5] else .tuple #[.slice o n c, .int .i64 0]) ∧ w = w' := by
  unfold maxLen at hn
  by_cases l : 2000 < n
  · rw [if_pos l]
    have kl : decide (2000 < (n : Int)) = true := decide_eq_true (by omega)
    clear l
    go_enter Try.func85, Try.ntmps85
    go_wp2
    go_ret2
    exact ⟨rfl, rfl⟩
  · rw [if_neg l]
    have kl : decide (2000 < (n : Int)) = false := decide_eq_false (by omega)
    clear l
    go_enter Try.func85, Try.ntmps85
    go_wp2
    go_ret2
    exact ⟨rfl, rfl⟩
theorem ruinside (i : Nat) (hi : i ≤ 100000) (w : World) :
    Calls Try.prog 104 #[.int .i64 i] w fun e w' => e = .returned (.bool (decide (i % 2 = 1))) ∧ w = w' := by
  obtain ⟨m, hm⟩ : ∃ m, i = 2 * m ∨ i = 2 * m + 1 := ⟨i / 2, by omega⟩
  rcases hm with rfl | rfl
  · have e1 : decide (2 * m % 2 = 1) = false := decide_eq_false (by omega)
    have t1 : ((2 * m : Nat) : Int) % 2 = 0 := by omega
    have t1' : (((2 * m : Nat) : Int).tmod 2) = 0 := by rw [Int.tmod_eq_emod_of_nonneg (by omega)]; omega
    rw [e1]
    generalize ((2 * m : Nat) : Int) = z at *
    go_enter Try.func104, Try.ntmps104
    go_wp2
    go_ret
    exact ⟨rfl, rfl⟩
  · have e1 : decide ((2 * m + 1) % 2 = 1) = true := decide_eq_true (by omega)
    have t1 : ((2 * m + 1 : Nat) : Int) % 2 = 1 := by omega
    have t1' : (((2 * m + 1 : Nat) : Int).tmod 2) = 1 := by rw [Int.tmod_eq_emod_of_nonneg (by omega)]; omega
    rw [e1]
    generalize ((2 * m + 1 : Nat) : Int) = z at *
    go_enter Try.func104, Try.ntmps104
    go_wp2
    go_ret
    exact ⟨rfl, rfl⟩
set_option maxRecDepth 100000 in
set_option maxHeartbeats 1000000 in
theorem ruend (v : Value) (A : List Sp) (va : vaB A = true) (i : Nat) (hi : i ≤ 2 * A.length) {base : Nat} (w : World) (h : PairS base w v A) :
    Calls Try.prog 103 #[v, .int .i64 i] w fun e w' => e = .returned (.int .i64 (edL A i)) ∧ w = w' := by
  have hl := va_len va
  obtain ⟨o, c, rfl⟩ := prs_shape h
  have HP := Lib.hid h
  clear h va
  by_cases z : 2 * A.length ≤ i
  · have kz : decide (2 * (A.length : Int) ≤ (i : Int)) = true := decide_eq_true (by omega)
    rw [ed_off z]
    clear z
    generalize A.length = n at *
    go_enter Try.func103, Try.ntmps103
    go_wp2
    go_ret
    exact ⟨rfl, rfl⟩
  have kz : decide (2 * (A.length : Int) ≤ (i : Int)) = false := decide_eq_false (by omega)
  obtain ⟨m, hm⟩ : ∃ m, i = 2 * m ∨ i = 2 * m + 1 := ⟨i / 2, by omega⟩
  obtain ⟨b, off, rfl, bl, cs⟩ := prs_here HP.out (show m < A.length by omega)
  obtain ⟨c0, c1⟩ := cs m (by omega)
  have ml : m < A.length := by omega
  rcases hm with rfl | rfl
  · have t1 : ((2 * m : Nat) : Int) % 2 = 0 := by omega
    have t1' : (((2 * m : Nat) : Int).tmod 2) = 0 := by rw [Int.tmod_eq_emod_of_nonneg (by omega)]; omega
    have t2 : ((2 * m : Nat) : Int) / 2 = m := by omega
    have t2' : (((2 * m : Nat) : Int).tdiv 2) = m := by rw [Int.tdiv_eq_ediv_of_nonneg (by omega)]; omega
    rw [ed_even ml]
    have b0 : (0 : Int) ≤ ((2 * m : Nat) : Int) := by omega
    have b1 : ((2 * m : Nat) : Int) ≤ 4000 := by omega
    clear cs HP c1 z
    generalize (A.getD m (0, 0)).1 = x at *
    generalize ((2 * m : Nat) : Int) = y at *
    generalize A.length = n at *
    go_enter Try.func103, Try.ntmps103
    go_wp2
    go_ret
    exact ⟨rfl, rfl⟩
  · have t1 : ((2 * m + 1 : Nat) : Int) % 2 = 1 := by omega
    have t1' : (((2 * m + 1 : Nat) : Int).tmod 2) = 1 := by rw [Int.tmod_eq_emod_of_nonneg (by omega)]; omega
    have t2 : ((2 * m + 1 : Nat) : Int) / 2 = m := by omega
    have t2' : (((2 * m + 1 : Nat) : Int).tdiv 2) = m := by rw [Int.tdiv_eq_ediv_of_nonneg (by omega)]; omega
    rw [ed_odd ml]
    have b0 : (0 : Int) ≤ ((2 * m + 1 : Nat) : Int) := by omega
    have b1 : ((2 * m + 1 : Nat) : Int) ≤ 4000 := by omega
    clear cs HP c0 z
    generalize (A.getD m (0, 0)).2 = x at *
    generalize ((2 * m + 1 : Nat) : Int) = y at *
    generalize A.length = n at *
    go_enter Try.func103, Try.ntmps103
    go_wp2
    go_ret
    exact ⟨rfl, rfl⟩
end Go.Proofs.Ytaikeclfmmnelaa
