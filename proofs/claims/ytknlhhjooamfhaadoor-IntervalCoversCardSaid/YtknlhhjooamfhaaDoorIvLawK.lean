/- The walk of IntervalCovers. -/
import Derived.Test.YtknlhhjooamfhaaDoorIvLawI
import Derived.Test.YtknlhhjooamfhaaDoorIvLawJ
import Derived.BigQuiet
import Derived.Deep.QuietTactic
import Derived.Deep.RegionHeld3
import Derived.Deep.Cut
import Derived.Outline
namespace Go.Proofs.YtknlhhjooamfhaaDoor
open Go.RowKit
set_option linter.unusedVariables false

theorem IntervalCovers.walk (a b c d x : Int) (ha : (Lit.int .i64 a).wf = true) (hb : (Lit.int .i64 b).wf = true) (hc : (Lit.int .i64 c).wf = true) (hd : (Lit.int .i64 d).wf = true) (hx : (Lit.int .i64 x).wf = true) (w : World) (ht : Tabs w) :
    Calls Tryd.prog 8 #[.agg #[.int .i64 a, .int .i64 b], .agg #[.int .i64 c, .int .i64 d], .int .i64 x] w fun e w' => e = .returned (.bool true) ∧ Below w.heap.size w w' := by
  replace ha := i64_wf ha
  replace hb := i64_wf hb
  replace hc := i64_wf hc
  replace hd := i64_wf hd
  replace hx := i64_wf hx
  cases v : ivB a b && ivB c d
  · exact cov_no a b c d x ha hb hc hd hx v w ht
  · rw [Bool.and_eq_true] at v
    obtain ⟨va, vb⟩ := v
    have cv := (iv_covers va vb x).1
    cases hm : mtB a b c d <;> cases nA : hsB a b x <;> cases nB : hsB c d x
    · exact cov_000 a b c d x ha hb hc hd hx va vb hm nA nB w ht
    · exact cov_001 a b c d x ha hb hc hd hx va vb hm nA nB w ht
    · exact cov_010 a b c d x ha hb hc hd hx va vb hm nA nB w ht
    · rw [hm, nA, nB, Bool.and_false] at cv; cases cv
    · exact cov_100 a b c d x ha hb hc hd hx va vb hm nA nB w ht
    · exact cov_101 a b c d x ha hb hc hd hx va vb hm nA nB w ht
    · exact cov_110 a b c d x ha hb hc hd hx va vb hm nA nB w ht
    · exact cov_111 a b c d x ha hb hc hd hx va vb hm nA nB w ht
end Go.Proofs.YtknlhhjooamfhaaDoor
