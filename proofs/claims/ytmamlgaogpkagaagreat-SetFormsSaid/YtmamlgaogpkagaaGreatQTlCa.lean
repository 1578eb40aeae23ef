/- TlCa. -/
import Derived.Test.YtmamlgaogpkagaaGreatQLPlain
import Derived.Test.YtmamlgaogpkagaaGreatQLGen
import Derived.Test.YtmamlgaogpkagaaGreatQRnKF
import Derived.Test.YtmamlgaogpkagaaGreatQPeKD
import Derived.Test.YtmamlgaogpkagaaGreatQPeKJ
import Derived.Test.YtmamlgaogpkagaaGreatQTsGa
import Derived.Test.YtmamlgaogpkagaaGreatQTlAb
import Derived.Test.YtmamlgaogpkagaaGreatQTvI
namespace Go.Proofs.YtmamlgaogpkagaaGreat
open Go.RowKit
set_option linter.unusedVariables false
set_option linter.unusedSimpArgs false
theorem res_small {R:TS × Int} (z:R.2=0∨R.1=tsZ) (v:R.2=0→VS R.1):R.1.A.length≤2000∧R.1.B.length≤2000∧R.1.L.length≤2000:=by
 rcases z with z | z
 ·have h:=v z;have a:=(vaB_iff.1 h.g.va).1;have b:=h.g.p.len;have c:=h.g.q.len;omega
 ·rw [z];exact ⟨Nat.zero_le _,Nat.zero_le _,Nat.zero_le _⟩
theorem sm_refl (e:Int) (s:TS):(decide (e=e)&&smT s s)=true:=by rw [zdt rfl,sm_iff.2 rfl];rfl
theorem lsame2 (R:TS × Int) (z:R.2=0∨R.1=tsZ) (v:R.2=0→VS R.1) {va vb vl ua ub ul:Value} (w:World) (h:SS3 w R.1 va vb vl) (k:SS3 w R.1 ua ub ul) :
    Calls Tryz.prog 19 #[.agg #[.int .i64 R.1.P,va,.int .i64 R.1.Q,vb,.int .i64 R.1.a,.int .i64 R.1.b,vl],.int .i64 R.2,.agg #[.int .i64 R.1.P,ua,.int .i64 R.1.Q,ub,.int .i64 R.1.a,.int .i64 R.1.b,ul],.int .i64 R.2] w fun e' w'=>e'=.returned (.bool true)∧Below w.heap.size w w':=by
  obtain ⟨a,b,c⟩:=res_small z v;have x:=lsame R.1 R.1 R.2 R.2 va vb vl ua ub ul (ti_res z v) (by omega) (by omega) (by omega) w h k;rw [sm_refl] at x;exact x
end Go.Proofs.YtmamlgaogpkagaaGreat
