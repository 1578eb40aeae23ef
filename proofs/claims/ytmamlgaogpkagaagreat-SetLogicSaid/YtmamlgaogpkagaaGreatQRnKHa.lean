/- RnKHa. -/
import Derived.Test.YtmamlgaogpkagaaGreatQLPlain
import Derived.Test.YtmamlgaogpkagaaGreatQLGen
import Derived.Test.YtmamlgaogpkagaaGreatQLSl
import Derived.Test.YtmamlgaogpkagaaGreatQRnKD
import Derived.Lay
namespace Go.Proofs.YtmamlgaogpkagaaGreat
open Go.RowKit
set_option linter.unusedVariables false
set_option linter.unusedSimpArgs false
theorem ruunion_keep (x y:Bool) (w:World):Calls Tryz.prog 176 #[.bool x,.bool y] w fun e w'=>e=.returned (.bool (kpB 1 x y))∧w=w':=by
 cases x <;> cases y
 all_goals
  go_enter Tryz.func176,Tryz.ntmps176
  go_wp2
  go_ret
  exact ⟨rfl,rfl⟩
theorem ruunion (va vb:Value) (A B:List Sp) (hA:A.length≤maxLen) (hB:B.length≤maxLen) {ba bb:Nat} (w:World) (a:PairS ba w va A) (b:PairS bb w vb B) :
    Calls Tryz.prog 147 #[va,vb] w fun e w'=>(∃ v',e=.returned (.tuple #[v',.int .i64 (ruAp 1 A B).2])∧PairS w.heap.size w' v' (ruAp 1 A B).1∧CapS v')∧Below w.heap.size w w':=by
  have HC:=zh (rucombine 1 176 (enters_of Tryz.func176 (by kernel_rfl) rfl) ruunion_keep va vb A B hA hB w a b);generalize ruAp 1 A B=R at *;clear a b hA hB
  go_enter Tryz.func147,Tryz.ntmps147
  go_wp2_with fail
  refine HC.out.mono ?_;rintro e w1 ⟨⟨v,rfl,P1,C1⟩,hb⟩;replace hb:=zh hb;replace P1:=zh P1;go_wp2
  go_ret2
  exact ⟨⟨_,rfl,P1.out,C1⟩,hb.out⟩
end Go.Proofs.YtmamlgaogpkagaaGreat
