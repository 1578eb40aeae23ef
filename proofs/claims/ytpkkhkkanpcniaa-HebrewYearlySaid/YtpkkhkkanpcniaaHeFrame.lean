/- What the rows of this seat have in common: how a date reads. -/
import Derived.Test.YtpkkhkkanpcniaaRows
import Derived.Test.YtpkkhkkanpcniaaHeU
import Derived.WalkKit
import Derived.ProofKit
import Derived.LaidMore
import Derived.OpenShut
import Derived.Lib.SmallJoins
import Derived.Stop.LaidErr
namespace Go.Proofs.Ytpkkhkkanpcniaa
open Go.ChangeShapes Go.WideShapes Go.RowKit
theorem own : ownKnob Try.prog.godebug = none := by kernel_rfl
theorem cellsDate : Try.prog.cellsOf 35 = 3 := by kernel_rfl
theorem table (W : World) : Tabs W := ⟨trivial⟩
/-- A date reads as its three numbers. -/
theorem dateReads {H : Type} {enc : TypeId × Value → H} {w : World} {base : Nat} {sp : Nat → Bool} {held : Bool} {y m d : Int} (hy : (Lit.int .i64 y).wf = true) (hm : (Lit.int .i64 m).wf = true) (hd : (Lit.int .i64 d).wf = true) :
    DataW.Trod enc Try.prog w base sp held 35 (.agg #[.int .i64 y, .int .i64 m, .int .i64 d]) (.agg [.lit (.int .i64 y), .lit (.int .i64 m), .lit (.int .i64 d)]) [] :=
  Joins.shut_agg3 (y0 := (.lit (.int .i64 y), [])) (y1 := (.lit (.int .i64 m), [])) (y2 := (.lit (.int .i64 d), [])) Try.underlying35 (by kernel_rfl) cellsDate
    ⟨1, by simp [DataW.trod, Try.underlying3, hy]⟩ ⟨1, by simp [DataW.trod, Try.underlying3, hm]⟩ ⟨1, by simp [DataW.trod, Try.underlying3, hd]⟩
end Go.Proofs.Ytpkkhkkanpcniaa
