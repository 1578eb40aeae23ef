/- RnCa RnPa PeVa. -/
import Derived.Test.YtmamlgaogpkagaaGreatQLPlain
namespace Go.Proofs.YtmamlgaogpkagaaGreat
open Go.RowKit
set_option linter.unusedVariables false
set_option linter.unusedSimpArgs false
def ruNot (A:List Sp) (p:Sp):List Sp × Int:=if vaB A&&spB p then ruFull (cbL 3 [p] A) else ([],1)
theorem not_ap (A:List Sp) (p:Sp):ruAp 3 [p] A=ruNot A p:=by
 unfold ruAp ruNot
 have e:vaB [p]=spB p:=by
  unfold vaB spsB gpB
  simp
 rw [e,Bool.and_comm]
theorem lst_not {f:Int→Bool} {P d:Int} (h:Lst f P d):Lst (fun x=>!f x) P d :=
 ⟨h.pos,h.dvd,fun x=>by show (!f (x+d))=!f x;rw [h.per],fun e a b c=>h.least e a b fun x=>by
  have:=c x;replace this:(!f (x+e))=!f x:=this
  revert this;cases f (x+e) <;> cases f x <;> simp⟩
end Go.Proofs.YtmamlgaogpkagaaGreat
