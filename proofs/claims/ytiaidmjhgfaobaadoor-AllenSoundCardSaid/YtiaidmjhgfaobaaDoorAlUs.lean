/- The listed tables that this group of laws shares, and the contracts of package allen under them. -/
import Derived.Test.YtiaidmjhgfaobaaDoorAlU1
import Derived.Test.YtiaidmjhgfaobaaDoorAlU2
import Derived.Test.YtiaidmjhgfaobaaDoorAlU3
import Derived.Test.YtiaidmjhgfaobaaDoorAlU4
import Derived.Test.YtiaidmjhgfaobaaDoorAlP
import Derived.Test.YtiaidmjhgfaobaaDoorAlQ
import Derived.Test.YtiaidmjhgfaobaaDoorAlH
import Derived.Test.YtiaidmjhgfaobaaDoorAlV
namespace Go.Proofs.YtiaidmjhgfaobaaDoor
open Go.RowKit
set_option linter.unusedVariables false
structure Tabs (w : World) : Prop where
  cm : ICm w
  pl : IPl w
  sh : ISh w
theorem Tabs.below {w w' : World} (h : Tabs w) (hb : Below w.heap.size w w') : Tabs w' := ⟨h.cm.below hb, h.pl.below hb, h.sh.below hb⟩
theorem uafull (w : World) (ht : Tabs w) :
    Calls Tryd.prog 38 #[] w fun e w' => e = .returned (.int .i64 8191) ∧ Below w.heap.size w w' := uafull0 w
theorem uasingles (s : Int) (hs : I64 s) (w : World) (ht : Tabs w) :
    Calls Tryd.prog 19 #[.int .i64 s] w fun e w' => (∃ v, e = .returned v ∧ IntS w.heap.size w' v (sgV s)) ∧ Below w.heap.size w w' := uasingles0 s hs w
theorem uainv (s : Int) (hs : I64 s) (w : World) (ht : Tabs w) :
    Calls Tryd.prog 16 #[.int .i64 s] w fun e w' => e = .returned (.int .i64 (ivS s)) ∧ Below w.heap.size w w' := uainv0 s hs w
theorem uacomp (a b : Int) (ha : I64 a) (hb : I64 b) (w : World) (ht : Tabs w) :
    Calls Tryd.prog 14 #[.int .i64 a, .int .i64 b] w fun e w' => e = .returned (.int .i64 (cmS a b)) ∧ Below w.heap.size w w' := uacomp0 a b ha hb w ht.cm
theorem uabasic (a b : Int) (ha : I64 a) (hb : I64 b) (w : World) (ht : Tabs w) :
    Calls Tryd.prog 21 #[.int .i64 a, .int .i64 b] w fun e w' => e = .returned (.int .i64 (baS a b)) ∧ Below w.heap.size w w' := uabasic0 a b ha hb w ht.cm
theorem uaholds (s a b c d : Int) (hs : I64 s) (ha : I64 a) (hb : I64 b) (hc : I64 c) (hd : I64 d) (w : World) (ht : Tabs w) :
    Calls Tryd.prog 23 #[.int .i64 s, .agg #[.int .i64 a, .int .i64 b], .agg #[.int .i64 c, .int .i64 d]] w fun e w' => e = .returned (.bool (hoB s a b c d)) ∧ Below w.heap.size w w' := uaholds0 s a b c d hs ha hb hc hd w ht.sh
theorem uaconvex (s : Int) (hs : I64 s) (w : World) (ht : Tabs w) :
    Calls Tryd.prog 29 #[.int .i64 s] w fun e w' => e = .returned (.bool (cvB s)) ∧ Below w.heap.size w w' := uaconvex0 s hs w ht.pl
theorem uapossible (s a b lo hi : Int) (hs : I64 s) (ha : I64 a) (hb : I64 b) (hlo : I64 lo) (hhi : I64 hi) (w : World) (ht : Tabs w) :
    Calls Tryd.prog 32 #[.int .i64 s, .agg #[.int .i64 a, .int .i64 b], .int .i64 lo, .int .i64 hi] w fun e w' => (∃ v, e = .returned v ∧ PairS w.heap.size w' v (poL s a b lo hi)) ∧ Below w.heap.size w w' := uapossible0 s a b lo hi hs ha hb hlo hhi w ht.sh
end Go.Proofs.YtiaidmjhgfaobaaDoor
