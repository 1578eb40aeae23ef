/- What the rows of this seat have in common: how a slice of spans and a span read. -/
import Derived.Test.YtdkmahdfnmoliaaRows
import Derived.Test.YtdkmahdfnmoliaaRnKD
import Derived.Test.YtdkmahdfnmoliaaLRd
import Derived.WalkKit
import Derived.ProofKit
import Derived.LaidMore
import Derived.OpenShut
import Derived.Lib.LaidTab
import Derived.Lib.SmallJoins
import Derived.Stop.LaidErr
namespace Go.Proofs.Ytdkmahdfnmoliaa
open Go.ChangeShapes Go.WideShapes Go.RowKit Go.Deep
theorem own : ownKnob Try.prog.godebug = none := by kernel_rfl
theorem laidOut : laidOutB Try.prog = true := by kernel_rfl
theorem cellsInt : Try.prog.cellsOf 3 = 1 := by kernel_rfl
theorem cellsSpan : Try.prog.cellsOf 33 = 2 := by kernel_rfl
theorem table (_W : World) : True := trivial
/-- A span reads as its two numbers. -/
theorem spanReads {H : Type} {enc : TypeId × Value → H} {w : World} {base : Nat} {sp : Nat → Bool} {held : Bool} {x y : Int} (hx : (Lit.int .i64 x).wf = true) (hy : (Lit.int .i64 y).wf = true) :
    DataW.Trod enc Try.prog w base sp held 33 (.agg #[.int .i64 x, .int .i64 y]) (.agg [.lit (.int .i64 x), .lit (.int .i64 y)]) [] :=
  Joins.shut_agg2 (y0 := (.lit (.int .i64 x), [])) (y1 := (.lit (.int .i64 y), [])) Try.underlying33 (by kernel_rfl) cellsSpan
    ⟨1, by simp [DataW.trod, Try.underlying3, hx]⟩ ⟨1, by simp [DataW.trod, Try.underlying3, hy]⟩
set_option maxRecDepth 100000 in
/-- A slice of spans that comes in. -/
theorem open_sl {H : Type} {enc : TypeId × Value → H} {W : World} {base : Nat} {v : Value} {d : DataW H} {p : List MemPlace} (hv : Value.okWide Try.prog W .any base 22 v)
    (h : DataW.Trod enc Try.prog W 0 (fun _ => true) true 22 v d p) : ∃ (sv : Value) (ps : List Sp), v = sv ∧ PairS 0 W sv ps ∧ ps.length ≤ maxLen ∧ CapS sv := by
  obtain ⟨o, n, c, rfl⟩ := okWide_slice Try.underlying22 hv
  obtain ⟨k, h1⟩ := h
  replace h1 : DataW.trod enc Try.prog W 0 (fun _ => true) true k 22 [.slice o n c] = some (d, p) := h1
  obtain ⟨ps, a, b, -⟩ := open_pairs Try.underlying22 Try.underlying33 cellsSpan rfl rfl cellsInt cellsInt Try.underlying3 Try.underlying3 h1
  refine ⟨_, ps, rfl, a, b, ?_⟩
  rcases open_slice_pairs Try.underlying22 Try.underlying33 cellsSpan rfl rfl cellsInt cellsInt h1 with ⟨hc, -⟩ | ⟨a', len, cap, m, k', V0, V1, D0, D1, P0, P1, hc, -, hl, -⟩
  · simp only [List.cons.injEq, and_true] at hc
    rw [hc]; exact cap_nil
  · simp only [List.cons.injEq, and_true] at hc
    rw [hc]; exact ⟨_, _, _, rfl, hl⟩
end Go.Proofs.Ytdkmahdfnmoliaa
