/- LGenc. -/
import Derived.Test.YtmamlgaogpkagaaGreatQLGen
import Derived.Below
import Derived.BigQuiet
import Derived.Deep.QuietTactic
import Derived.IntWalk
import Derived.Lib.Hide
import Derived.Lib.LaidTab
import Derived.Lib.SmallJoins
import Derived.Outline
import Derived.StillTailTactics
import Derived.WalkKit
import Derived.WalkLawsBesides
namespace Go.Proofs.YtmamlgaogpkagaaGreat
open Go.RowKit
set_option linter.unusedVariables false
set_option linter.unusedSimpArgs false
theorem Box.put0 {w:World} {b:Nat} {x y z:Value} (h:Box w b x y z) (v:Value):Box (w.setCell ⟨b,0,none⟩ v) b v y z :=
 ⟨World.cell?_setCell_same w _ v h.c0,by rw [World.cell?_setCell_other (h:=by simp)];exact h.c1,by rw [World.cell?_setCell_other (h:=by simp)];exact h.c2,by rw [size_set];exact h.lt⟩
end Go.Proofs.YtmamlgaogpkagaaGreat
