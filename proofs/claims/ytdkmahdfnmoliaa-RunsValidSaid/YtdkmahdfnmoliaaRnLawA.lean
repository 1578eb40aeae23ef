/- Law 12: RunsValid. -/
import Derived.Test.YtdkmahdfnmoliaaRnK
import Derived.Test.YtdkmahdfnmoliaaRnS
namespace Go.Proofs.Ytdkmahdfnmoliaa
open Go.RowKit
set_option linter.unusedVariables false
set_option linter.unusedSimpArgs false
set_option maxRecDepth 100000 in
set_option maxHeartbeats 1000000 in
theorem rlvalid (va vb : Value) (A B : List Sp) (hA : A.length ≤ maxLen) (hB : B.length ≤ maxLen) {ba bb : Nat} (w : World) (a : PairS ba w va A) (b : PairS bb w vb B) :
    Calls Try.prog 3 #[va, vb] w fun e w' => e = .returned (.bool true) ∧ Below w.heap.size w w' := by
  have AW := rawake w
  have PA := Lib.hid a
  have PB := Lib.hid b
  clear a b
  go_enter Try.func3, Try.ntmps3
  go_wp2_with fail
  refine AW.mono ?_
  rintro e w1 ⟨rfl, hb⟩
  have A1 := Lib.hid hb
  have VA := Lib.hid (fun W (x : Below w1.heap.size w1 W) => ruvalid va A hA W ((PA.out.keep hb).keep x))
  have RA := Lib.hid (fun W (x : Below w1.heap.size w1 W) => rnvalid va A hA W ((PA.out.keep hb).keep x))
  have RB := Lib.hid (fun W (x : Below w1.heap.size w1 W) => rnvalid vb B hB W ((PB.out.keep hb).keep x))
  have EQ := Lib.hid (fun W (x : Below w1.heap.size w1 W) => ruequal va vb A B hA hB W ((PA.out.keep hb).keep x) ((PB.out.keep hb).keep x))
  have EA := Lib.hid (fun W (x : Below w1.heap.size w1 W) => ruequal va va A A hA hA W ((PA.out.keep hb).keep x) ((PA.out.keep hb).keep x))
  have RS := Lib.hid (fun W (x : Below w1.heap.size w1 W) => rnsame va vb A B hA hB W ((PA.out.keep hb).keep x) ((PB.out.keep hb).keep x))
  simp only [decide_true, Bool.and_true, Bool.and_self] at EA
  clear hb AW
  generalize decide (A = B) = E at *
  generalize vaB A = p at *
  generalize vaB B = q at *
  cases p <;> cases q <;> cases E
  all_goals
    have hS := here w1
    go_wp2_with (first | (go_at_call 14; (with_reducible refine (VA.out _ hS).mono ?_); rintro e w2 ⟨rfl, hb⟩; replace hS := down hS hb; clear hb) | (go_at_call 15; (with_reducible refine (RA.out _ hS).mono ?_); rintro e w2 ⟨rfl, hb⟩; replace hS := down hS hb; clear hb) | (go_at_call 15; (with_reducible refine (RB.out _ hS).mono ?_); rintro e w2 ⟨rfl, hb⟩; replace hS := down hS hb; clear hb) | (go_at_call 16; (with_reducible refine (EQ.out _ hS).mono ?_); rintro e w2 ⟨rfl, hb⟩; replace hS := down hS hb; clear hb) | (go_at_call 16; (with_reducible refine (EA.out _ hS).mono ?_); rintro e w2 ⟨rfl, hb⟩; replace hS := down hS hb; clear hb) | (go_at_call 17; (with_reducible refine (RS.out _ hS).mono ?_); rintro e w2 ⟨rfl, hb⟩; replace hS := down hS hb; clear hb))
    go_ret
    exact ⟨rfl, down A1.out hS⟩
end Go.Proofs.Ytdkmahdfnmoliaa
