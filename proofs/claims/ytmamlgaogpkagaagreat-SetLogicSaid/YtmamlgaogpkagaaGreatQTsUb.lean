/- TsUb. -/
import Derived.Test.YtmamlgaogpkagaaGreatQLPlain
import Derived.Test.YtmamlgaogpkagaaGreatQLGen
import Derived.Test.YtmamlgaogpkagaaGreatQRnKF
import Derived.Test.YtmamlgaogpkagaaGreatQPeKD
import Derived.Test.YtmamlgaogpkagaaGreatQPeKJ
namespace Go.Proofs.YtmamlgaogpkagaaGreat
open Go.RowKit
set_option linter.unusedVariables false
set_option linter.unusedSimpArgs false
theorem pv_low {P Q u:Int} {A B:List Sp} (p:PV P A) (q:PV Q B) (h:∀ x,x<u→hsP P A x=hsP Q B x):P=Q∧A=B:=by
 refine Classical.byContradiction fun c=>?_;have d:∃ x,hsP P A x≠hsP Q B x:=by
  refine Classical.byContradiction fun n=>c (pv_ext p q (funext fun x=>Classical.byContradiction fun m=>n ⟨x,m⟩))
 obtain ⟨x,hx⟩:=d;have p0:=p.p0;have q0:=q.p0;have pm:Per (hsP P A) (P * Q):=(hs_per (P:=P) (L:=A)).mul Q;have qm:Per (hsP Q B) (P * Q):=by have:=(hs_per (P:=Q) (L:=B)).mul P;rwa [Int.mul_comm] at this
 obtain ⟨⟨y,y0,y1⟩,-⟩:=per_far (Int.mul_pos (show 0<P by omega) (show 0<Q by omega)) pm qm hx u u;exact y1 (h y y0)
theorem pv_high {P Q u:Int} {A B:List Sp} (p:PV P A) (q:PV Q B) (h:∀ x,u≤x→hsP P A x=hsP Q B x):P=Q∧A=B:=by
 refine Classical.byContradiction fun c=>?_;have d:∃ x,hsP P A x≠hsP Q B x:=by
  refine Classical.byContradiction fun n=>c (pv_ext p q (funext fun x=>Classical.byContradiction fun m=>n ⟨x,m⟩))
 obtain ⟨x,hx⟩:=d;have p0:=p.p0;have q0:=q.p0;have pm:Per (hsP P A) (P * Q):=(hs_per (P:=P) (L:=A)).mul Q;have qm:Per (hsP Q B) (P * Q):=by have:=(hs_per (P:=Q) (L:=B)).mul P;rwa [Int.mul_comm] at this
 obtain ⟨-,⟨y,y0,y1⟩⟩:=per_far (Int.mul_pos (show 0<P by omega) (show 0<Q by omega)) pm qm hx u u;exact y1 (h y y0)
theorem vs_ext {s t:TS} (h:VS s) (k:VS t) (e:hsT s=hsT t):s=t:=by
 obtain ⟨a1,a2⟩:=pv_low (u:=if s.a<t.a then s.a else t.a) h.g.p k.g.p fun x hx=>by
  rw [← hs_low (s:=s) (by split at hx <;> omega),← hs_low (s:=t) (by split at hx <;> omega),e]
 obtain ⟨b1,b2⟩:=pv_high (u:=if s.b<t.b then t.b else s.b) h.g.q k.g.q fun x hx=>by
  rw [← hs_high (s:=s) h.g.le (by split at hx <;> omega),← hs_high (s:=t) k.g.le (by split at hx <;> omega),e]
 have f:=h.fr;rw [a1,a2,b1,b2,e,k.fr] at f;exact (congrArg Prod.fst f).symm
end Go.Proofs.YtmamlgaogpkagaaGreat
