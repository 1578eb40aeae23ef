/- Contracts of civiltimeref12: insert, Ends. -/
import Derived.Test.YtaikeclfmmnelaaQGB
import Derived.Laws.AppendOwnNone
import Derived.Laws.OwnMore
namespace Go.Proofs.Ytaikeclfmmnelaa

open Go.RowKit

set_option linter.unusedVariables false

/-- append of a slice that may be nil. -/
theorem app_any {P : Program} (w : World) {ops : Array Oper} {rest : List Oper} {o : Oper} {a : Act} {Q : Exit → Act → World → Prop} (hgd : o.guard = none) (s x : Operand) (t : TypeId)
    (ho : o.op = .call { callee := .builtin .append, args := #[s, x], argTypes := #[t, t] })
    (base : Nat) (e : TypeId) (i : TypeInfo) (z : Value) (size bytes : Nat) (ht : P.underlying t = some (.slice e)) (hi : P.info? e = some i) (hz : i.zero = some z) (hsize : i.size = size) (hby : i.bytes = bytes) (hzs : z.cells.size = size) (hsz : 0 < size)
    (v : Value) (n : Nat) (xs : List Value) (hs : a.eval s = v) (hown : w.ownsRow base e size v n xs) (ao : Option Addr) (m c : Nat) (news : List Value) (hx : a.eval x = .slice ao m c) (hl : news.length = m * size)
    (hno : ao = none → m = 0) (hnews : ∀ ad, ao = some ad → ∀ j u, news[j]? = some u → w.cell? (ad.add j) = some u) (h1 : ∀ u ∈ news, u.oneCell' = true) (h63 : n + m ≤ maxLen) (hbytes : (n + m) * bytes ≤ 140737488355328) (hbase : base ≤ w.heap.size)
    (h : ∀ v' w', w'.ownsRow base e size v' (n + m) (xs ++ news) → w.grownBy w' v.ownBlock → wpList P ops Q rest (a.put o.dst v') w') : wpList P ops Q (o :: rest) a w := by
  cases ao with
  | some ad => exact wpList_append_own w hgd s x t ho base e i z size bytes ht hi hz hsize hby hzs hsz v n xs hs hown ad m c news hx hl (hnews ad rfl) h1 h63 hbytes hbase fun v' w' h2 h3 _ => h v' w' h2 h3
  | none =>
    obtain rfl := hno rfl
    obtain rfl : news = [] := List.eq_nil_of_length_eq_zero (by rw [hl, Nat.zero_mul])
    refine wpList_plain hgd fun K hK => ?_
    have hrun : (Builtin.append_ #[t, t] o.type #[v, .slice none 0 c]).run P w = .ok v w := by
      rcases hown.2 with ⟨rfl, rfl⟩ | ⟨g, cap, cur, rfl, _, _, hnc, _⟩
      · simp [Builtin.append_, run_underlying ht, sizeOf, typeInfo, hi, Builtin.lenOf, Builtin.firstCells]
      · simp [Builtin.append_, run_underlying ht, sizeOf, typeInfo, hi, Builtin.lenOf, Builtin.firstCells, hnc, storeCells]
    unfold Oper.wp
    simp [execOp, ho, resolve, invoke, builtin, hs, hx, hrun, Result.andThen]
    exact hK _ _ (h v w (by simpa using hown) ⟨rfl, rfl, rfl, Nat.le_refl _, fun _ _ _ => rfl⟩)
theorem infoI : (Try.prog.info? 3).map (fun i => (i.zero, i.size, i.bytes)) = some (some (.int .i64 0), 1, 8) := by kernel_rfl
theorem take_at {l : List Int} {n K : Nat} (hl : l.length = n) {w : World} {g : Nat} (c : ∀ j, j < n → w.cell? ⟨g, j, none⟩ = some (.int .i64 (l.getD j 0))) {j : Nat} {u : Value} (hu : ((ints l).take K)[j]? = some u) : w.cell? ⟨g, j, none⟩ = some u := by
  rw [List.getElem?_take] at hu
  split at hu
  · rw [ints, List.getElem?_map] at hu
    cases hy : l[j]? with
    | none => rw [hy] at hu; cases hu
    | some y =>
      have lj := (List.getElem?_eq_some_iff.1 hy).1
      rw [c j (by omega), List.getD_eq_getElem?_getD, hy]
      rw [hy] at hu; exact hu
  · cases hu
theorem drop_at2 {l : List Int} {n K : Nat} (hl : l.length = n) {w : World} {g : Nat} (c : ∀ j, j < n → w.cell? ⟨g, j, none⟩ = some (.int .i64 (l.getD j 0))) {j : Nat} {u : Value} (hu : ((ints l).drop K)[j]? = some u) : w.cell? ⟨g, K + j, none⟩ = some u := by
  rw [List.getElem?_drop, ints, List.getElem?_map] at hu
  cases hy : l[K + j]? with
  | none => rw [hy] at hu; cases hu
  | some y =>
    have lj := (List.getElem?_eq_some_iff.1 hy).1
    rw [c (K + j) (by omega), List.getD_eq_getElem?_getD, hy]
    rw [hy] at hu; exact hu
theorem own_weak {w : World} {B B' : Nat} {e : TypeId} {size : Nat} {v : Value} {n : Nat} {xs : List Value} (h : w.ownsRow B e size v n xs) (hb : B' ≤ B) : w.ownsRow B' e size v n xs := by
  refine ⟨h.1, ?_⟩
  rcases h.2 with z | ⟨g, cap, cur, a, b, c⟩
  · exact .inl z
  · exact .inr ⟨g, cap, cur, a, Nat.le_trans hb b, c⟩
theorem asc_split {l : List Int} (h : Asc l) {x : Int} {k : Nat} (hk : k ≤ l.length) (a : ∀ j, j < k → l.getD j 0 < x) (b : ∀ j, k ≤ j → j < l.length → x ≤ l.getD j 0) :
    (k < l.length → l.getD k 0 = x → insZ l x = l) ∧ (¬ (k < l.length ∧ l.getD k 0 = x) → insZ l x = l.take k ++ x :: l.drop k) := by
  have tk : ∀ y, y ∈ l.take k → y < x := by
    intro y hy
    obtain ⟨j, hj, rfl⟩ := List.getElem_of_mem hy
    rw [List.length_take] at hj
    have := a j (by omega)
    rw [List.getD_eq_getElem?_getD, List.getElem?_eq_getElem (by omega)] at this
    rw [List.getElem_take]; exact this
  have dk : ∀ y, y ∈ l.drop k → x ≤ y := by
    intro y hy
    obtain ⟨j, hj, rfl⟩ := List.getElem_of_mem hy
    rw [List.length_drop] at hj
    have := b (k + j) (by omega) (by omega)
    rw [List.getD_eq_getElem?_getD, List.getElem?_eq_getElem (by omega)] at this
    rw [List.getElem_drop]; exact this
  have f1 : l.filter (fun y => decide (y < x)) = l.take k := by
    conv => lhs; rw [← List.take_append_drop k l]
    rw [List.filter_append, List.filter_eq_self.2 (fun y hy => decide_eq_true (tk y hy)), List.filter_eq_nil_iff.2 (fun y hy => by have := dk y hy; simp; omega), List.append_nil]
  have f2 : ∀ r : List Int, (∀ y, y ∈ r → x < y) → r.filter (fun y => decide (x < y)) = r := fun r hr => List.filter_eq_self.2 (fun y hy => decide_eq_true (hr y hy))
  have f3 : (l.take k).filter (fun y => decide (x < y)) = [] := List.filter_eq_nil_iff.2 (fun y hy => by have := tk y hy; simp; omega)
  constructor
  · intro kl e
    have d : l.drop k = x :: l.drop (k + 1) := by
      rw [List.drop_eq_getElem_cons kl]
      rw [List.getD_eq_getElem?_getD, List.getElem?_eq_getElem kl] at e
      congr 1
    have gt : ∀ y, y ∈ l.drop (k + 1) → x < y := by
      intro y hy
      have q : List.Pairwise (· < ·) (l.drop k) := h.sublist (List.drop_sublist k l)
      rw [d] at q
      exact (List.pairwise_cons.1 q).1 y hy
    unfold insZ
    rw [f1]
    conv => lhs; rw [show l.filter (fun y => decide (x < y)) = (l.take k ++ l.drop k).filter (fun y => decide (x < y)) by rw [List.take_append_drop]]
    rw [List.filter_append, f3, d, List.filter_cons, decide_eq_false (Int.lt_irrefl x), if_neg (by simp), f2 _ gt, List.nil_append, ← d, List.take_append_drop]
  · intro no
    have gt : ∀ y, y ∈ l.drop k → x < y := by
      intro y hy
      have l1 := dk y hy
      rcases Int.lt_or_eq_of_le l1 with z | z
      · exact z
      · exfalso
        obtain ⟨j, hj, e⟩ := List.getElem_of_mem hy
        rw [List.length_drop] at hj
        rw [List.getElem_drop] at e
        have bk := b k (Nat.le_refl _) (by omega)
        have le := asc_le h (show k ≤ k + j by omega) (by omega)
        rw [List.getD_eq_getElem?_getD (l := l) (i := k + j), List.getElem?_eq_getElem (by omega)] at le
        refine no ⟨by omega, ?_⟩
        have e' : (some l[k + j] : Option Int).getD 0 = y := e
        omega
    unfold insZ
    rw [f1]
    conv => lhs; rw [show l.filter (fun y => decide (x < y)) = (l.take k ++ l.drop k).filter (fun y => decide (x < y)) by rw [List.take_append_drop]]
    rw [List.filter_append, f3, f2 _ gt, List.nil_append]
end Go.Proofs.Ytaikeclfmmnelaa
/- Contracts of civiltimeref12: Ends. -/
namespace Go.Proofs.Ytaikeclfmmnelaa

open Go.RowKit

set_option linter.unusedVariables false
end Go.Proofs.Ytaikeclfmmnelaa
