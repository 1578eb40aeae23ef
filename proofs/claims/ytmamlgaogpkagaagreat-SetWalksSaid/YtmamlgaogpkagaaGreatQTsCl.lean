/- TsCl. -/
import Derived.Test.YtmamlgaogpkagaaGreatQLPlain
import Derived.Test.YtmamlgaogpkagaaGreatQRnKF
import Derived.Test.YtmamlgaogpkagaaGreatQPeKJ
namespace Go.Proofs.YtmamlgaogpkagaaGreat
open Go.RowKit
set_option linter.unusedVariables false
set_option linter.unusedSimpArgs false
theorem nc_same {f:Int→Bool} {x:Int}:∀ (n:Nat),(∀ z,x<z→z≤x+n→¬ Chg f z)→f (x+n)=f x
  | 0,_=>by simp
  | n+1,h=>by
    have k:=nc_same n fun z a b=>h z a (by omega);have c:=h (x+(n:Int)+1) (by omega) (by omega)
    unfold Chg at c
    rw [show x+(n:Int)+1 - 1=x+n by omega] at c;rw [show x+((n+1:Nat):Int)=x+n+1 by omega,← k];exact (Classical.not_not.1 c)
theorem nc_yes {f:Int→Bool} {x c:Int} (h:NxC f x c true) {y:Int} (y0:x≤y) (y1:y<c):f y=f x:=by
 have:=nc_same (f:=f) (x:=x) (y - x).toNat fun z a b=>(h.yes rfl).2.2.2 z a (by omega);rwa [show x+(((y - x).toNat:Nat):Int)=y by omega] at this
theorem nc_no {f:Int→Bool} {x c:Int} (h:NxC f x c false) {y:Int} (y0:x≤y) (y1:y≤4398046511104):f y=f x:=by
 have:=nc_same (f:=f) (x:=x) (y - x).toNat fun z a b=>(h.no rfl).2 z a (by omega);rwa [show x+(((y - x).toNat:Nat):Int)=y by omega] at this
end Go.Proofs.YtmamlgaogpkagaaGreat
