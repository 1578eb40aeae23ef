/- The listed tables that this group of laws shares, and the contracts of package allen under them. -/
import Derived.Test.YtiaidmjhgfaobaaDoorAlU1
import Derived.Test.YtiaidmjhgfaobaaDoorAlU2
import Derived.Test.YtiaidmjhgfaobaaDoorAlU3
import Derived.Test.YtiaidmjhgfaobaaDoorAlP
import Derived.Test.YtiaidmjhgfaobaaDoorAlQ
import Derived.Test.YtiaidmjhgfaobaaDoorAlH
import Derived.Test.YtiaidmjhgfaobaaDoorAlV
namespace Go.Proofs.YtiaidmjhgfaobaaDoor
open Go.RowKit
set_option linter.unusedVariables false
structure Tabs (w : World) : Prop where
  cm : ICm w
  pl : IPl w
theorem Tabs.below {w w' : World} (h : Tabs w) (hb : Below w.heap.size w w') : Tabs w' := ⟨h.cm.below hb, h.pl.below hb⟩
theorem uafull (w : World) (ht : Tabs w) :
    Calls Tryd.prog 38 #[] w fun e w' => e = .returned (.int .i64 8191) ∧ Below w.heap.size w w' := uafull0 w
theorem uasingles (s : Int) (hs : I64 s) (w : World) (ht : Tabs w) :
    Calls Tryd.prog 19 #[.int .i64 s] w fun e w' => (∃ v, e = .returned v ∧ IntS w.heap.size w' v (sgV s)) ∧ Below w.heap.size w w' := uasingles0 s hs w
theorem uainv (s : Int) (hs : I64 s) (w : World) (ht : Tabs w) :
    Calls Tryd.prog 16 #[.int .i64 s] w fun e w' => e = .returned (.int .i64 (ivS s)) ∧ Below w.heap.size w w' := uainv0 s hs w
theorem uacomp (a b : Int) (ha : I64 a) (hb : I64 b) (w : World) (ht : Tabs w) :
    Calls Tryd.prog 14 #[.int .i64 a, .int .i64 b] w fun e w' => e = .returned (.int .i64 (cmS a b)) ∧ Below w.heap.size w w' := uacomp0 a b ha hb w ht.cm
theorem uabasic (a b : Int) (ha : I64 a) (hb : I64 b) (w : World) (ht : Tabs w) :
    Calls Tryd.prog 21 #[.int .i64 a, .int .i64 b] w fun e w' => e = .returned (.int .i64 (baS a b)) ∧ Below w.heap.size w w' := uabasic0 a b ha hb w ht.cm
theorem uaconvex (s : Int) (hs : I64 s) (w : World) (ht : Tabs w) :
    Calls Tryd.prog 29 #[.int .i64 s] w fun e w' => e = .returned (.bool (cvB s)) ∧ Below w.heap.size w w' := uaconvex0 s hs w ht.pl
end Go.Proofs.YtiaidmjhgfaobaaDoor
