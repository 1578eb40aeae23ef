/- TlCc. -/
import Derived.Test.YtmamlgaogpkagaaGreatQLPlain
import Derived.Test.YtmamlgaogpkagaaGreatQLSl
import Derived.Test.YtmamlgaogpkagaaGreatQRnKF
import Derived.Test.YtmamlgaogpkagaaGreatQPeKJ
import Derived.Test.YtmamlgaogpkagaaGreatQTsGa
import Derived.Test.YtmamlgaogpkagaaGreatQTvB
import Derived.Test.YtmamlgaogpkagaaGreatQTvI
namespace Go.Proofs.YtmamlgaogpkagaaGreat
open Go.RowKit
set_option linter.unusedVariables false
set_option linter.unusedSimpArgs false
theorem llarge3s (s:TS) (osa osb osl:Option Addr) (csa csb csl:Nat) (t:TS) (ota otb otl:Option Addr) (cta ctb ctl:Nat) (u:TS) (oua oub oul:Option Addr) (cua cub cul:Nat) (W:World) (b:Nat) (h:Bxs W b [.int .i64 s.P,.slice osa s.A.length csa,.int .i64 s.Q,.slice osb s.B.length csb,.int .i64 s.a,.int .i64 s.b,.slice osl s.L.length csl,.int .i64 t.P,.slice ota t.A.length cta,.int .i64 t.Q,.slice otb t.B.length ctb,.int .i64 t.a,.int .i64 t.b,.slice otl t.L.length ctl,.int .i64 u.P,.slice oua u.A.length cua,.int .i64 u.Q,.slice oub u.B.length cub,.int .i64 u.a,.int .i64 u.b,.slice oul u.L.length cul]):Calls Tryz.prog 15 #[.slice (some ⟨b,0,none⟩) 3 3] W fun e w'=>e=.returned (.bool (lgB s || lgB t || lgB u))∧Below W.heap.size W w':=by
 have k:=llarge 3 b (fun j=>if j=0 then s else if j=1 then t else u) (by omega) W (fun j hj=>by
  rcases (show j=0∨j=1∨j=2 by omega) with rfl | rfl | rfl
  ·exact ⟨_,_,_,_,_,_,h.c 0 _ rfl,h.c 1 _ rfl,h.c 2 _ rfl,h.c 3 _ rfl,h.c 4 _ rfl,h.c 5 _ rfl,h.c 6 _ rfl⟩
  ·exact ⟨_,_,_,_,_,_,h.c 7 _ rfl,h.c 8 _ rfl,h.c 9 _ rfl,h.c 10 _ rfl,h.c 11 _ rfl,h.c 12 _ rfl,h.c 13 _ rfl⟩
  ·exact ⟨_,_,_,_,_,_,h.c 14 _ rfl,h.c 15 _ rfl,h.c 16 _ rfl,h.c 17 _ rfl,h.c 18 _ rfl,h.c 19 _ rfl,h.c 20 _ rfl⟩) h.lt
 have e:lgs 3 (fun j=>if j=0 then s else if j=1 then t else u)=(lgB s || lgB t || lgB u):=by
  show (lgB s || (lgB t || (lgB u || false)))=_
  rw [Bool.or_false,Bool.or_assoc]
 rw [e] at k;exact k
end Go.Proofs.YtmamlgaogpkagaaGreat
