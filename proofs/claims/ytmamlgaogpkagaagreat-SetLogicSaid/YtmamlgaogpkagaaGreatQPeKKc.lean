/- PeKKc TsCf. -/
import Derived.Test.YtmamlgaogpkagaaGreatQLPlain
import Derived.Test.YtmamlgaogpkagaaGreatQLGen
import Derived.Test.YtmamlgaogpkagaaGreatQLSl
import Derived.Test.YtmamlgaogpkagaaGreatQRnKF
import Derived.Test.YtmamlgaogpkagaaGreatQRnKHc
import Derived.Test.YtmamlgaogpkagaaGreatQPeKJ
import Derived.Test.YtmamlgaogpkagaaGreatQPeKJ2
import Derived.Test.YtmamlgaogpkagaaGreatQPeKKb
namespace Go.Proofs.YtmamlgaogpkagaaGreat
open Go.RowKit
set_option linter.unusedVariables false
set_option linter.unusedSimpArgs false
theorem rule2:Rule 2 148:=fun va vb A B hA hB _ _ w a b=>rumeet va vb A B hA hB w a b
set_option maxRecDepth 100000 in
set_option maxHeartbeats 2000000 in
theorem upmeet (va vb:Value) (P Q:Int) (A B:List Sp) (hA:A.length≤maxLen) (hB:B.length≤maxLen) (hP:I64 P) (hQ:I64 Q) {ba bb:Nat} (w:World) (a:PairS ba w va A) (b:PairS bb w vb B) :
    Calls Tryz.prog 101 #[.agg #[.int .i64 P,va],.agg #[.int .i64 Q,vb]] w fun e w'=>(∃ v',e=.returned (.tuple #[.agg #[.int .i64 (coR 2 P A Q B).1.1,v'],.int .i64 (coR 2 P A Q B).2])∧PairS w.heap.size w' v' (coR 2 P A Q B).1.2)∧Below w.heap.size w w':=by
  have s1:=size_two w (.cells #[.int .i64 P,va] 24);have s2:=size_two (w.alloc (.cells #[.int .i64 P,va] 24)) (.cells #[.int .i64 Q,vb] 24);have A1:=zh (grow (grow (grow (here w) (.cells #[.int .i64 P,va] 24)) (.cells #[.int .i64 Q,vb] 24)) (.cells #[.int .i64 0,.slice none 0 0] 24));have TA:=zh (Two.fst3 (here (((w.alloc (.cells #[.int .i64 P,va] 24)).alloc (.cells #[.int .i64 Q,vb] 24)).alloc (.cells #[.int .i64 0,.slice none 0 0] 24))));have TB:=zh (Two.snd3 (here (((w.alloc (.cells #[.int .i64 P,va] 24)).alloc (.cells #[.int .i64 Q,vb] 24)).alloc (.cells #[.int .i64 0,.slice none 0 0] 24))));have TR:=Tuo.new ((w.alloc (.cells #[.int .i64 P,va] 24)).alloc (.cells #[.int .i64 Q,vb] 24)) (.int .i64 0) (.slice none 0 0) 24;rw [s2,s1] at TR;replace TR:=zh TR;have HC:=zh (upcombine2 rule2 va vb P Q A B hA hB hP hQ _ (a.keep A1.out) (b.keep A1.out));generalize coR 2 P A Q B=RR at *;clear a b hA hB s1 s2;obtain ⟨t0,t1,tl⟩:=TA.out;obtain ⟨u0,u1,ul⟩:=TB.out
  go_enter Tryz.func101,Tryz.ntmps101
  go_wp2_with fail
  refine HC.out.mono ?_;rintro e w10 ⟨⟨v10,rfl,P10⟩,hb⟩;have B9:=zd A1 hb;replace TR:=zh (TR.out.keep hb);have sz9:=A1.out.size;have tr9:w.heap.size+1+1<(((w.alloc (.cells #[.int .i64 P,va] 24)).alloc (.cells #[.int .i64 Q,vb] 24)).alloc (.cells #[.int .i64 0,.slice none 0 0] 24)).heap.size:=by simp
  obtain ⟨o10,c10,rfl⟩:=Sl.shape P10;replace P10:=zh P10;clear HC hb A1 TA TB t0 t1 tl u0 u1 ul;have FI:Hid (Two ((w10.setCell ⟨w.heap.size+1+1,0,none⟩ (.int .i64 RR.1.1)).setCell ⟨w.heap.size+1+1,1,none⟩ (.slice o10 RR.1.2.length c10)) (w.heap.size+1+1) (.int .i64 RR.1.1) (.slice o10 RR.1.2.length c10)∧Below w.heap.size w ((w10.setCell ⟨w.heap.size+1+1,0,none⟩ (.int .i64 RR.1.1)).setCell ⟨w.heap.size+1+1,1,none⟩ (.slice o10 RR.1.2.length c10))∧PairS w.heap.size ((w10.setCell ⟨w.heap.size+1+1,0,none⟩ (.int .i64 RR.1.1)).setCell ⟨w.heap.size+1+1,1,none⟩ (.slice o10 RR.1.2.length c10)) (.slice o10 RR.1.2.length c10) RR.1.2) :=
    ⟨TR.out.put _ _,(B9.out.setCell (p:=⟨w.heap.size+1+1,0,none⟩) (by show w.heap.size≤w.heap.size+1+1;omega) _).setCell (p:=⟨w.heap.size+1+1,1,none⟩) (by show w.heap.size≤w.heap.size+1+1;omega) _,Sl.weak (Sl.far (Sl.far P10.out tr9 _) tr9 _) sz9⟩
  obtain ⟨⟨ri0,ri1,ri2⟩,rf0,rf1⟩:=TR.out;go_wp2
  have q0:=FI.out.1.c0;have q1:=FI.out.1.c1;generalize (w10.setCell ⟨w.heap.size+1+1,0,none⟩ (.int .i64 RR.1.1)).setCell ⟨w.heap.size+1+1,1,none⟩ (.slice o10 RR.1.2.length c10)=w13 at *;refine bodyPost_ret (v:=.tuple #[.agg #[.int .i64 RR.1.1,.slice o10 RR.1.2.length c10],.int .i64 RR.2]) (by simp [results,Tryz.results101,go_sem,q0,q1]) rfl ?_;exact ⟨⟨_,rfl,FI.out.2.2⟩,FI.out.2.1⟩
theorem nt_ti (s:TS):TsI (ntT s).1:=ti_res (nt_zt s) fun h=>(nt_vs h).2.1
end Go.Proofs.YtmamlgaogpkagaaGreat
