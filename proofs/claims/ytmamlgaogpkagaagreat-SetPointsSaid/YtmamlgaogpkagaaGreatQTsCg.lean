/- TsCg. -/
import Derived.Test.YtmamlgaogpkagaaGreatQLPlain
import Derived.Test.YtmamlgaogpkagaaGreatQPeKJ
import Derived.Test.YtmamlgaogpkagaaGreatQPeKJ1
import Derived.Test.YtmamlgaogpkagaaGreatQPeKKb
import Derived.Test.YtmamlgaogpkagaaGreatQPeKL
namespace Go.Proofs.YtmamlgaogpkagaaGreat
open Go.RowKit
set_option linter.unusedVariables false
set_option linter.unusedSimpArgs false
theorem mt_ti (s:TS) (n:Int):TsI (mtR s n).1:=ti_res (mt_zt s n) fun h=>(mt_vs h).2.1
theorem pt_cb {k:Int} (k1:1≤k) (k3:k≤3) {s t:TS} (h:(cbT k s t).2=0) (x:Int):(vsB (cbT k s t).1&&hsT (cbT k s t).1 x)=kpB k (vsB s&&hsT s x) (vsB t&&hsT t x):=by
 obtain ⟨a,b,c,d⟩:=cb_vs k1 k3 h;rw [vs_ok.2 a,vs_ok.2 b,vs_ok.2 c,d];simp
theorem pt_nt {s:TS} (h:(ntT s).2=0) (x:Int):(vsB (ntT s).1&&hsT (ntT s).1 x)=!(vsB s&&hsT s x):=by
 obtain ⟨a,c,d⟩:=nt_vs h;rw [vs_ok.2 a,vs_ok.2 c,d];simp
theorem pt_mt {s:TS} {n:Int} (h:(mtR s n).2=0) (x:Int):(vsB (mtR s n).1&&hsT (mtR s n).1 (x+n))=(vsB s&&hsT s x):=by
 obtain ⟨a,c,d⟩:=mt_vs h;rw [vs_ok.2 a,vs_ok.2 c,d,show x+n - n=x by omega]
end Go.Proofs.YtmamlgaogpkagaaGreat
