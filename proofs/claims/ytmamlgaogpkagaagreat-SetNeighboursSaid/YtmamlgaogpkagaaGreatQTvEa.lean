/- TvEa. -/
import Derived.Test.YtmamlgaogpkagaaGreatQLPlain
import Derived.Test.YtmamlgaogpkagaaGreatQLGen
import Derived.Test.YtmamlgaogpkagaaGreatQRnKF
import Derived.Test.YtmamlgaogpkagaaGreatQPeKJ
import Derived.Test.YtmamlgaogpkagaaGreatQTsWa
import Derived.Test.YtmamlgaogpkagaaGreatQTvB
import Derived.StillTailTactics
import Derived.BigQuiet
import Derived.Deep.QuietTactic
import Derived.Deep.RegionHeld3
import Derived.Laws.EntriesVeiled
namespace Go.Proofs.YtmamlgaogpkagaaGreat
open Go.RowKit
set_option linter.unusedVariables false
set_option linter.unusedSimpArgs false
set_option maxRecDepth 100000 in
set_option maxHeartbeats 2000000 in
theorem tvonl (x:Int) (w:World) :
    Calls Tryz.prog 92 #[.int .i64 x] w fun e w'=>e=.returned (.tuple #[.int .i64 (olI x),.bool (nvB x)])∧w=w':=by
  have HL:=zh (tvline x w)
  unfold olI
  cases k:nvB x
  · rw [k] at HL;rw [if_neg (by simp)];clear k
    go_enter Tryz.func92,Tryz.ntmps92
    go_wp2_with fail
    refine HL.out.mono ?_;rintro e w1 ⟨rfl,rfl⟩;go_wp2
    go_ret2
    exact ⟨rfl,rfl⟩
  · rw [k] at HL;rw [if_pos rfl];clear k
    go_enter Tryz.func92,Tryz.ntmps92
    go_wp2_with fail
    refine HL.out.mono ?_;rintro e w1 ⟨rfl,rfl⟩;go_wp2
    go_ret2
    exact ⟨rfl,rfl⟩
end Go.Proofs.YtmamlgaogpkagaaGreat
