/- TsCj. -/
import Derived.Test.YtmamlgaogpkagaaGreatQLPlain
import Derived.Test.YtmamlgaogpkagaaGreatQRnKF
import Derived.Test.YtmamlgaogpkagaaGreatQPeKJ
import Derived.Test.YtmamlgaogpkagaaGreatQPeKJ1
import Derived.Test.YtmamlgaogpkagaaGreatQTsGa
import Derived.Test.YtmamlgaogpkagaaGreatQTsCc
namespace Go.Proofs.YtmamlgaogpkagaaGreat
open Go.RowKit
set_option linter.unusedVariables false
set_option linter.unusedSimpArgs false
theorem lw_pure {P Q:Int} {A B:List Sp} (h:(cbT 1 (puT P A) (puT Q B)).2=0):(coR 1 P A Q B).2=0∧(vsB (cbT 1 (puT P A) (puT Q B)).1&&smT (cbT 1 (puT P A) (puT Q B)).1 (puT (coR 1 P A Q B).1.1 (coR 1 P A Q B).1.2))=true:=by
 obtain ⟨v1,v2,v3,m⟩:=cb_vs (by decide) (by decide) h;have e:(coR 1 P A Q B).2=0:=by
  refine Classical.byContradiction fun n=>?_
  unfold cbT at h
  rw [if_neg (by rw [vs_ok.2 v1,vs_ok.2 v2];simp),if_pos n] at h;exact n h
 obtain ⟨p,q,r,c⟩:=co_ok (by decide) (by decide) e;obtain ⟨v4,e4⟩:=pu_vs r;refine ⟨e,eq_res v3 v4 fun x=>?_⟩;rw [m,e4,(pu_vs p).2,(pu_vs q).2,c]
end Go.Proofs.YtmamlgaogpkagaaGreat
