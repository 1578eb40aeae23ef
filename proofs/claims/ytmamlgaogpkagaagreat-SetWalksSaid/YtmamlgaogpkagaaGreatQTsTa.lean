/- TsTa. -/
import Derived.Test.YtmamlgaogpkagaaGreatQLPlain
import Derived.Test.YtmamlgaogpkagaaGreatQRnKF
import Derived.Test.YtmamlgaogpkagaaGreatQPeKJ
import Derived.Test.YtmamlgaogpkagaaGreatQPeHEa
namespace Go.Proofs.YtmamlgaogpkagaaGreat
open Go.RowKit
set_option linter.unusedVariables false
set_option linter.unusedSimpArgs false
theorem nn_here {f:Int→Bool} {x:Int} (x1:x≤4398046511104) (h:f x=true):NxN f x x true :=
 ⟨fun _=>⟨Int.le_refl x,x1,h,fun z a b=>by omega⟩,fun e=>by cases e⟩
theorem nn_next {f:Int→Bool} {x y:Int} {o:Bool} (h:f x=false) (k:NxC f x y o):NxN f x y o:=by
 constructor
 ·intro ho;obtain ⟨a,b,c,d⟩:=k.yes ho;have flat:∀ z,x≤z→z<y→f z=false:=fun z z0 z1=>by rw [no_chg' (u:=x) (v:=y) (fun c c0 c1=>d c c0 c1) z0 z1];exact h
  refine ⟨by omega,b,?_,flat⟩;have l:=flat (y - 1) (by omega) (by omega)
  unfold Chg at c
  rw [l] at c
  cases e:f y
  ·rw [e] at c;exact absurd rfl c
  ·rfl
 ·intro ho;obtain ⟨a,d⟩:=k.no ho;exact ⟨a,fun z z0 z1=>by rw [no_chg' (u:=x) (v:=z+1) (fun c c0 c1=>d c c0 (by omega)) z0 (by omega)];exact h⟩
end Go.Proofs.YtmamlgaogpkagaaGreat
