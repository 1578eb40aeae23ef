/- RnKHb. -/
import Derived.Test.YtmamlgaogpkagaaGreatQLPlain
import Derived.Test.YtmamlgaogpkagaaGreatQRnCa
import Derived.Test.YtmamlgaogpkagaaGreatQLGen
import Derived.Test.YtmamlgaogpkagaaGreatQLSl
import Derived.Test.YtmamlgaogpkagaaGreatQRnKD
import Derived.Test.YtmamlgaogpkagaaGreatQRnKH
import Derived.Lay
namespace Go.Proofs.YtmamlgaogpkagaaGreat
open Go.RowKit
set_option linter.unusedVariables false
set_option linter.unusedSimpArgs false
set_option maxRecDepth 100000 in
set_option maxHeartbeats 1000000 in
theorem runot (va:Value) (A:List Sp) (hA:A.length≤maxLen) {ba:Nat} (x y:Int) (hx:I64 x) (hy:I64 y) (w:World) (a:PairS ba w va A) :
    Calls Tryz.prog 132 #[va,.agg #[.int .i64 x,.int .i64 y]] w fun e w'=>(∃ v',e=.returned (.tuple #[v',.int .i64 (ruNot A (x,y)).2])∧PairS w.heap.size w' v' (ruNot A (x,y)).1∧CapS v')∧Below w.heap.size w w':=by
  obtain ⟨w1,hw1⟩:∃ w1:World,w.alloc (.cells #[.int .i64 x,.int .i64 y] 40)=w1:=⟨_,rfl⟩;have A1:Below w.heap.size w w1:=by rw [← hw1];exact grow (here w) _
  have s1:w1.heap.size=w.heap.size+1:=by rw [← hw1,size_two]
  have PB:PairS w.heap.size (w1.alloc (.cells #[.int .i64 x,.int .i64 y] 40)) (.slice (some ⟨w1.heap.size,0,none⟩) 1 1) [(x,y)]:=by
    refine .inr ⟨w1.heap.size,0,1,rfl,by omega,by simp,fun j u hu=>?_⟩;rw [Nat.zero_add,World.cell?_alloc_new];simpa [pairs] using hu
  have HC:=zh (ruminus (.slice (some ⟨w1.heap.size,0,none⟩) 1 1) va [(x,y)] A (by show 1≤maxLen;unfold maxLen;omega) hA (w1.alloc (.cells #[.int .i64 x,.int .i64 y] 40)) PB (a.keep (grow A1 _)));rw [not_ap] at HC;have A2:=zh (grow A1 (.cells #[.int .i64 x,.int .i64 y] 40));have s2:w.heap.size≤(w1.alloc (.cells #[.int .i64 x,.int .i64 y] 40)).heap.size:=A2.out.size;generalize ruNot A (x,y)=R at *;have X1:Two w1 w.heap.size (.int .i64 x) (.int .i64 y):=by rw [← hw1];exact Two.new (here _)
  obtain ⟨x0,x1,xl⟩:=X1;replace s2:=zh s2;clear a hA PB A1 s1
  go_enter Tryz.func132,Tryz.ntmps132
  go_wp2_with fail
  refine HC.out.mono ?_;rintro e w3 ⟨⟨v,rfl,P1,C1⟩,hb⟩;have A3:=zd A2 hb;replace P1:=zh (Sl.weak P1 s2.out);clear hb;go_wp2
  go_ret2
  exact ⟨⟨_,rfl,P1.out,C1⟩,A3.out⟩
end Go.Proofs.YtmamlgaogpkagaaGreat
