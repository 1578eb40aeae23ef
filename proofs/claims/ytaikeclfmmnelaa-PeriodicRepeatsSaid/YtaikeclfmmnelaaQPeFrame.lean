/- What the rows of this seat have in common: how a periodic set, a slice of spans, a span and a slice of int8 read. -/
import Derived.Test.YtaikeclfmmnelaaRows
import Derived.Test.YtaikeclfmmnelaaQGE
import Derived.Test.YtaikeclfmmnelaaQLRd
import Derived.Test.YtaikeclfmmnelaaQGB
import Derived.WalkKit
import Derived.ProofKit
import Derived.LaidMore
import Derived.OpenShut
import Derived.Lib.LaidTab
import Derived.Lib.SmallJoins
import Derived.Stop.LaidErr
namespace Go.Proofs.Ytaikeclfmmnelaa

open Go.ChangeShapes Go.WideShapes Go.RowKit Go.Deep
theorem own : ownKnob Try.prog.godebug = none := by kernel_rfl
theorem laidOut : laidOutB Try.prog = true := by kernel_rfl
theorem cellsInt : Try.prog.cellsOf 3 = 1 := by kernel_rfl
theorem cellsI8 : Try.prog.cellsOf 52 = 1 := by kernel_rfl
theorem cellsSpan : Try.prog.cellsOf 37 = 2 := by kernel_rfl
theorem cellsSet : Try.prog.cellsOf 24 = 2 := by kernel_rfl
theorem table (_W : World) : True := trivial
/-- A span reads as its two numbers. -/
theorem spanReads {H : Type} {enc : TypeId × Value → H} {w : World} {base : Nat} {sp : Nat → Bool} {held : Bool} {x y : Int} (hx : (Lit.int .i64 x).wf = true) (hy : (Lit.int .i64 y).wf = true) :
    DataW.Trod enc Try.prog w base sp held 37 (.agg #[.int .i64 x, .int .i64 y]) (.agg [.lit (.int .i64 x), .lit (.int .i64 y)]) [] :=
  Joins.shut_agg2 (y0 := (.lit (.int .i64 x), [])) (y1 := (.lit (.int .i64 y), [])) Try.underlying37 (by kernel_rfl) cellsSpan
    ⟨1, by simp [DataW.trod, Try.underlying3, hx]⟩ ⟨1, by simp [DataW.trod, Try.underlying3, hy]⟩
set_option maxRecDepth 100000 in
/-- What a slice of spans in a field holds. -/
theorem open_row {H : Type} {enc : TypeId × Value → H} {W : World} {k : Nat} {sv : Value} {x : DataW H × List MemPlace} (h1 : DataW.trod enc Try.prog W 0 (fun _ => true) true k 22 [sv] = some x) :
    ∃ (ps : List Sp), PairS 0 W sv ps ∧ ps.length ≤ maxLen ∧ CapS sv := by
  obtain ⟨ps, a, b, -⟩ := open_pairs Try.underlying22 Try.underlying37 cellsSpan rfl rfl cellsInt cellsInt Try.underlying3 Try.underlying3 h1
  refine ⟨ps, a, b, ?_⟩
  rcases open_slice_pairs Try.underlying22 Try.underlying37 cellsSpan rfl rfl cellsInt cellsInt h1 with ⟨hc, -⟩ | ⟨a', len, cap, m, k', V0, V1, D0, D1, P0, P1, hc, -, hl, -⟩
  · simp only [List.cons.injEq, and_true] at hc
    rw [hc]; exact cap_nil
  · simp only [List.cons.injEq, and_true] at hc
    rw [hc]; exact ⟨_, _, _, rfl, hl⟩
set_option maxRecDepth 100000 in
/-- A slice of spans that comes in. -/
theorem open_sl {H : Type} {enc : TypeId × Value → H} {W : World} {base : Nat} {v : Value} {d : DataW H} {p : List MemPlace} (hv : Value.okWide Try.prog W .any base 22 v)
    (h : DataW.Trod enc Try.prog W 0 (fun _ => true) true 22 v d p) : ∃ (sv : Value) (ps : List Sp), v = sv ∧ PairS 0 W sv ps ∧ ps.length ≤ maxLen ∧ CapS sv := by
  obtain ⟨o, n, c, rfl⟩ := okWide_slice Try.underlying22 hv
  obtain ⟨k, h1⟩ := h
  replace h1 : DataW.trod enc Try.prog W 0 (fun _ => true) true k 22 [.slice o n c] = some (d, p) := h1
  obtain ⟨ps, a, b, e⟩ := open_row h1
  exact ⟨_, ps, rfl, a, b, e⟩
set_option maxRecDepth 100000 in
/-- A periodic set that comes in. -/
theorem open_set {H : Type} {enc : TypeId × Value → H} {W : World} {base : Nat} {v : Value} {d : DataW H} {p : List MemPlace} (hv : Value.okWide Try.prog W .any base 24 v)
    (h : DataW.Trod enc Try.prog W 0 (fun _ => true) true 24 v d p) : ∃ (n : Int) (sv : Value) (ps : List Sp), v = .agg #[.int .i64 n, sv] ∧ (Lit.int .i64 n).wf = true ∧ PairS 0 W sv ps ∧ ps.length ≤ maxLen ∧ CapS sv := by
  obtain ⟨v0, v1, y0, y1, n, rfl, -, -, h0, h1⟩ := Joins.open_agg2 Try.underlying24 (by kernel_rfl) cellsSet hv h
  obtain ⟨a, e, -, wf⟩ := DataW.trod_int Try.underlying3 h0
  obtain ⟨ps, b, l, c⟩ := open_row h1
  simp only [List.cons.injEq, and_true] at e
  subst e
  exact ⟨a, v1, ps, rfl, wf, b, l, c⟩
set_option maxRecDepth 100000 in
/-- A slice of int8 that comes in. -/
theorem open_i8 {H : Type} {enc : TypeId × Value → H} {W : World} {base : Nat} {v : Value} {d : DataW H} {p : List MemPlace} (hv : Value.okWide Try.prog W .any base 51 v)
    (h : DataW.Trod enc Try.prog W 0 (fun _ => true) true 51 v d p) : ∃ (sv : Value) (zs : List Int), v = sv ∧ I8S W sv zs ∧ zs.length ≤ maxLen ∧ ∀ j, j < zs.length → -128 ≤ zs.getD j 0 ∧ zs.getD j 0 ≤ 127 := by
  obtain ⟨o, n, c, rfl⟩ := okWide_slice Try.underlying51 hv
  obtain ⟨k, h1⟩ := h
  replace h1 : DataW.trod enc Try.prog W 0 (fun _ => true) true k 51 [.slice o n c] = some (d, p) := h1
  rcases open_slice1 Try.underlying51 cellsI8 h1 with ⟨hc, -⟩ | ⟨a, len, cap, m, k, V, D, Pl, hc, -, hl, hm, hmm, -, hall⟩
  · simp only [List.cons.injEq, and_true] at hc
    rw [hc]
    exact ⟨_, [], rfl, Sl.none _ _, by simp [maxLen], fun j hj => absurd hj (Nat.not_lt_zero _)⟩
  · simp only [List.cons.injEq, and_true] at hc
    rw [hc]
    simp only [if_true] at hmm
    subst hmm
    have each : ∀ i, i < len → ∃ q : Int, W.cell? (a.add i) = some (.int .i8 q) ∧ -128 ≤ q ∧ q ≤ 127 := fun i hi => by
      obtain ⟨h0, h1⟩ := hall i (by omega)
      obtain ⟨n0, e0, -, w0⟩ := DataW.trod_int Try.underlying52 h1
      simp only [List.cons.injEq, and_true] at e0
      rw [e0] at h0
      exact ⟨n0, h0, bounds_i8 w0⟩
    obtain ⟨q, hq⟩ := choose_lt each
    have L : ((List.range len).map q).length = len := by simp
    have G : ∀ j, j < len → ((List.range len).map q).getD j 0 = q j := fun j hj => by simp [List.getD_eq_getElem?_getD, hj]
    refine ⟨_, (List.range len).map q, rfl, ?_, by rw [L]; omega, fun j hj => by rw [L] at hj; rw [G j hj]; exact (hq j hj).2⟩
    unfold I8S
    rw [L]
    rcases Nat.eq_zero_or_pos len with z | z
    · subst z
      exact .inl ⟨rfl, _, _, rfl⟩
    · obtain ⟨b, off, spot⟩ := a
      have hs : spot = none := by simpa [Addr.add] using World.cell?_spot (hq 0 z).1
      subst hs
      refine .inr ⟨b, off, _, rfl, Nat.zero_le _, ⟨by simpa [Addr.add] using World.block_lt_of_cell? _ _ (hq 0 z).1, fun j u hj => ?_⟩⟩
      have hj' : j < len := by
        obtain ⟨h', -⟩ := List.getElem?_eq_some_iff.1 hj
        simpa using h'
      have g := hq j hj'
      rw [add_plain] at g
      have e : u = .int .i8 (q j) := by
        have := hj
        simp [hj'] at this
        exact this.symm
      rw [e]
      exact g.1
end Go.Proofs.Ytaikeclfmmnelaa
