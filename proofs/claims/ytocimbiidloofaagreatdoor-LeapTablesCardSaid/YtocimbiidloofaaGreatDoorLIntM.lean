/- The contract of integer.magnitude. -/
import Derived.Test.YtocimbiidloofaaGreatDoorProg

import Derived.Test.YtocimbiidloofaaGreatDoorLPlain

import Derived.Lib.Hide

import Derived.Outline

import Derived.WalkKit

namespace Go.Proofs.YtocimbiidloofaaGreatDoor

open Go.RowKit

set_option linter.unusedVariables false

theorem mag_all (a : Int) (h0 : -9223372036854775808 ≤ a) (h1 : a ≤ 9223372036854775807) (w : World) :
    Calls Tryz.prog 47 #[.int .i64 a] w fun e w' => e = .returned (.int .u64 (mg a)) ∧ w = w' := by
  rcases mg_cases a with ⟨h, e⟩ | ⟨h, e⟩
  · rw [e]
    have hw : IntKind.u64.wrap (-IntKind.u64.wrap a) = -a := by rw [IntKind.wrap_u64, IntKind.wrap_u64]; omega
    go_enter Tryz.func47, Tryz.ntmps47
    go_wp2
    go_ret
    exact ⟨rfl, rfl⟩
  · rw [e]
    have h' : ¬ a < 0 := by omega
    go_enter Tryz.func47, Tryz.ntmps47
    go_wp2
    go_ret
    exact ⟨rfl, rfl⟩
end Go.Proofs.YtocimbiidloofaaGreatDoor
