/- LIvBa LIvUb. -/
import Derived.Test.YtmamlgaogpkagaaGreatQLPlain
import Derived.Test.YtmamlgaogpkagaaGreatQLIvMa
import Derived.Test.YtmamlgaogpkagaaGreatQLGen
import Derived.Test.YtmamlgaogpkagaaGreatQLGenc
import Derived.Test.YtmamlgaogpkagaaGreatQLSl
import Derived.Test.YtmamlgaogpkagaaGreatQLIvUa
import Derived.OwnWalk
import Derived.Deep.QuietTactic
import Derived.BigQuiet
import Derived.Outline
import Derived.Lib.SmallJoins
namespace Go.Proofs.YtmamlgaogpkagaaGreat
open Go.RowKit
set_option linter.unusedVariables false
set_option linter.unusedSimpArgs false
theorem Tuo.put0 {w:World} {b:Nat} {x y:Value} (h:Tuo w b x y) (u:Value):Tuo (w.setCell ⟨b,0,none⟩ u) b u y :=
 ⟨⟨World.cell?_setCell_same w _ u h.t.c0,by rw [zco (h:=by simp)];exact h.t.c1,by rw [size_set];exact h.t.lt⟩,by rw [World.frozen?_setCell];exact h.f0,by rw [World.frozen?_setCell];exact h.f1⟩
set_option maxRecDepth 100000 in
set_option maxHeartbeats 1000000 in
theorem iumove (a b:Int) (ha:I64 a) (hb:I64 b) (n:Int) (hn:I64 n) (w:World) :
    Calls Tryz.prog 138 #[.agg #[.int .i64 a,.int .i64 b],.int .i64 n] w fun e w'=>e=.returned (.tuple #[.agg #[.int .i64 (mvF a b n),.int .i64 (mvT a b n)],.int .i64 (mvE a b n)])∧Below w.heap.size w w':=by
  have HVA:=zh (fun w=>iuvalid a b ha hb w);obtain ⟨a0,a1⟩:=ha;obtain ⟨b0,b1⟩:=hb;obtain ⟨n0,n1⟩:=hn
  cases va:ivB a b
  · rw [va] at HVA;have e0:mvE a b n=1:=by unfold mvE;rw [va];rfl
    rw [show mvF a b n=0 by unfold mvF;rw [e0];rfl,show mvT a b n=0 by unfold mvT;rw [e0];rfl,e0];clear e0;clear va;obtain ⟨w1,hw1⟩:∃ w1:World,w.alloc (.cells #[.int .i64 (a),.int .i64 (b)] 40)=w1:=⟨_,rfl⟩;have s1:w1.heap.size=w.heap.size+1:=by rw [← hw1,size_two]
    obtain ⟨w2,hw2⟩:∃ w2:World,w1.alloc (.cells #[.int .i64 (0),.int .i64 (0)] 40)=w2:=⟨_,rfl⟩;have s2:w2.heap.size=w.heap.size+2:=by rw [← hw2,size_two,s1]
    have X1:Two w1 (w.heap.size) (.int .i64 (a)) (.int .i64 (b)):=by rw [← hw1];exact Two.new (here _)
    have X2:Two w2 (w.heap.size) (.int .i64 (a)) (.int .i64 (b)):=by rw [← hw2];exact X1.keep (grow (here _) _)
    have R2:Tuo w2 (w.heap.size+1) (.int .i64 (0)) (.int .i64 (0)):=by rw [← s1,← hw2];exact Tuo.new _ _ _ _
    have A2:Below w.heap.size w w2:=by rw [← hw2,← hw1];exact (grow (grow (here w) _) _)
    replace X2:=zh X2;replace R2:=zh R2;replace A2:=zh A2;clear X1;obtain ⟨x0,x1,xl⟩:=X2.out;obtain ⟨⟨r0,r1,rl⟩,rf0,rf1⟩:=R2.out
    go_enter Tryz.func138,Tryz.ntmps138
    go_wp2_with fail
    refine (HVA.out _).mono ?_;rintro e w3 ⟨rfl,hb⟩;clear x0 x1 xl r0 r1 rl rf0 rf1;have A3:=zd A2 hb;have X3:=zh (X2.out.keep hb);have R3:=zh (R2.out.keep hb);clear hb A2 X2 R2;obtain ⟨x0,x1,xl⟩:=X3.out;obtain ⟨⟨r0,r1,rl⟩,rf0,rf1⟩:=R3.out;obtain ⟨w4,hw4⟩:∃ w4:World,w3.setCell ⟨w.heap.size+1,0,none⟩ (.int .i64 (0))=w4:=⟨_,rfl⟩;obtain ⟨w5,hw5⟩:∃ w5:World,w4.setCell ⟨w.heap.size+1,1,none⟩ (.int .i64 (0))=w5:=⟨_,rfl⟩;have P4:Tuo w4 (w.heap.size+1) (.int .i64 (0)) (.int .i64 (0)):=by rw [← hw4];exact R3.out.put0 _
    have R5:Hid (Tuo w5 (w.heap.size+1) (.int .i64 (0)) (.int .i64 (0))):=by rw [← hw5];exact P4.put1 _
    have A5:Hid (Below w.heap.size w w5):=by rw [← hw5,← hw4];exact (A3.out.setCell (by show _≤w.heap.size+1;omega) _).setCell (by show _≤w.heap.size+1;omega) _
    obtain ⟨⟨p30,p31,p3l⟩,p3f0,p3f1⟩:=P4;obtain ⟨⟨q30,q31,q3l⟩,q3f0,q3f1⟩:=R5.out;go_wp2
    exact bodyPost_ret (v:=.tuple #[.agg #[.int .i64 (0),.int .i64 (0)],.int .i64 1]) (by simp [results,Tryz.results138,go_sem,q30,q31]) rfl ⟨rfl,A5.out⟩
  · rw [va] at HVA;have q:=ivB_iff.1 va
    by_cases z:-8796093022208≤n∧n≤8796093022208
    · obtain ⟨z0,z1⟩:=z;have j:-9223372036854775808≤a+n∧a+n≤9223372036854775807:=by omega
      have j':-9223372036854775808≤b+n∧b+n≤9223372036854775807:=by omega
      have HVC:=zh (fun w=>iuvalid (a+n) (b+n) ⟨by omega,by omega⟩ ⟨by omega,by omega⟩ w)
      cases vc:ivB (a+n) (b+n)
      · rw [vc] at HVC;have e0:mvE a b n=2:=by unfold mvE;rw [va,vc];rfl
        rw [show mvF a b n=0 by unfold mvF;rw [e0];rfl,show mvT a b n=0 by unfold mvT;rw [e0];rfl,e0];clear e0;clear va vc q z0 z1;obtain ⟨p,hp⟩:∃ p,a+n=p:=⟨_,rfl⟩;obtain ⟨q',hq'⟩:∃ q',b+n=q':=⟨_,rfl⟩;rw [hp] at HVC j;rw [hq'] at HVC j';obtain ⟨j0,j1⟩:=j;obtain ⟨j2,j3⟩:=j';obtain ⟨w1,hw1⟩:∃ w1:World,w.alloc (.cells #[.int .i64 (a),.int .i64 (b)] 40)=w1:=⟨_,rfl⟩;have s1:w1.heap.size=w.heap.size+1:=by rw [← hw1,size_two]
        obtain ⟨w2,hw2⟩:∃ w2:World,w1.alloc (.cells #[.int .i64 (0),.int .i64 (0)] 40)=w2:=⟨_,rfl⟩;have s2:w2.heap.size=w.heap.size+2:=by rw [← hw2,size_two,s1]
        have X1:Two w1 (w.heap.size) (.int .i64 (a)) (.int .i64 (b)):=by rw [← hw1];exact Two.new (here _)
        have X2:Two w2 (w.heap.size) (.int .i64 (a)) (.int .i64 (b)):=by rw [← hw2];exact X1.keep (grow (here _) _)
        have R2:Tuo w2 (w.heap.size+1) (.int .i64 (0)) (.int .i64 (0)):=by rw [← s1,← hw2];exact Tuo.new _ _ _ _
        have A2:Below w.heap.size w w2:=by rw [← hw2,← hw1];exact (grow (grow (here w) _) _)
        replace X2:=zh X2;replace R2:=zh R2;replace A2:=zh A2;clear X1;obtain ⟨x0,x1,xl⟩:=X2.out;obtain ⟨⟨r0,r1,rl⟩,rf0,rf1⟩:=R2.out
        go_enter Tryz.func138,Tryz.ntmps138
        go_wp2_with fail
        refine (HVA.out _).mono ?_;rintro e w3 ⟨rfl,hb⟩;clear x0 x1 xl r0 r1 rl rf0 rf1;have A3:=zd A2 hb;have X3:=zh (X2.out.keep hb);have R3:=zh (R2.out.keep hb);clear hb A2 X2 R2;obtain ⟨x0,x1,xl⟩:=X3.out;obtain ⟨⟨r0,r1,rl⟩,rf0,rf1⟩:=R3.out;obtain ⟨w4,hw4⟩:∃ w4:World,w3.alloc (.cells #[.int .i64 (p),.int .i64 (q')] 40)=w4:=⟨_,rfl⟩;obtain ⟨B4,HB4⟩:∃ B,w3.heap.size=B:=⟨_,rfl⟩;have S4:Hid (Two w4 B4 (.int .i64 (p)) (.int .i64 (q'))):=by rw [← hw4,← HB4];exact Two.new (here _)
        have X4:=zh (X3.out.keep (show Below w3.heap.size w3 w4 by rw [← hw4];exact grow (here _) _));have R4:=zh (R3.out.keep (show Below w3.heap.size w3 w4 by rw [← hw4];exact grow (here _) _));have A4:Hid (Below w.heap.size w w4):=by rw [← hw4];exact grow A3.out _
        clear A3 X3 R3;obtain ⟨nx0,nx1,nxl⟩:=X4.out;obtain ⟨⟨nr0,nr1,nrl⟩,nrf0,nrf1⟩:=R4.out;obtain ⟨ns0,ns1,nsl⟩:=S4.out;go_wp2_with fail
        refine (HVC.out _).mono ?_;rintro e w5 ⟨rfl,hb⟩;clear x0 x1 xl r0 r1 rl rf0 rf1 nx0 nx1 nxl nr0 nr1 nrl nrf0 nrf1 ns0 ns1 nsl;have A5:=zd A4 hb;have X5:=zh (X4.out.keep hb);have R5:=zh (R4.out.keep hb);have S5:=zh (S4.out.keep hb);clear hb A4 X4 R4 S4;obtain ⟨x0,x1,xl⟩:=X5.out;obtain ⟨⟨r0,r1,rl⟩,rf0,rf1⟩:=R5.out;obtain ⟨s0,s1,sl⟩:=S5.out;obtain ⟨w6,hw6⟩:∃ w6:World,w5.setCell ⟨w.heap.size+1,0,none⟩ (.int .i64 (0))=w6:=⟨_,rfl⟩;obtain ⟨w7,hw7⟩:∃ w7:World,w6.setCell ⟨w.heap.size+1,1,none⟩ (.int .i64 (0))=w7:=⟨_,rfl⟩;have P6:Tuo w6 (w.heap.size+1) (.int .i64 (0)) (.int .i64 (0)):=by rw [← hw6];exact R5.out.put0 _
        have R7:Hid (Tuo w7 (w.heap.size+1) (.int .i64 (0)) (.int .i64 (0))):=by rw [← hw7];exact P6.put1 _
        have A7:Hid (Below w.heap.size w w7):=by rw [← hw7,← hw6];exact (A5.out.setCell (by show _≤w.heap.size+1;omega) _).setCell (by show _≤w.heap.size+1;omega) _
        obtain ⟨⟨p50,p51,p5l⟩,p5f0,p5f1⟩:=P6;obtain ⟨⟨q50,q51,q5l⟩,q5f0,q5f1⟩:=R7.out;go_wp2
        exact bodyPost_ret (v:=.tuple #[.agg #[.int .i64 (0),.int .i64 (0)],.int .i64 2]) (by simp [results,Tryz.results138,go_sem,q50,q51]) rfl ⟨rfl,A7.out⟩
      · rw [vc] at HVC;have e0:mvE a b n=0:=by unfold mvE;rw [va,vc];rfl
        rw [show mvF a b n=a+n by unfold mvF;rw [e0];rfl,show mvT a b n=b+n by unfold mvT;rw [e0];rfl,e0];clear va vc q z0 z1 e0;obtain ⟨p,hp⟩:∃ p,a+n=p:=⟨_,rfl⟩;obtain ⟨q',hq'⟩:∃ q',b+n=q':=⟨_,rfl⟩;rw [hp] at HVC j ⊢;rw [hq'] at HVC j' ⊢;obtain ⟨j0,j1⟩:=j;obtain ⟨j2,j3⟩:=j';obtain ⟨w1,hw1⟩:∃ w1:World,w.alloc (.cells #[.int .i64 (a),.int .i64 (b)] 40)=w1:=⟨_,rfl⟩;have s1:w1.heap.size=w.heap.size+1:=by rw [← hw1,size_two]
        obtain ⟨w2,hw2⟩:∃ w2:World,w1.alloc (.cells #[.int .i64 (0),.int .i64 (0)] 40)=w2:=⟨_,rfl⟩;have s2:w2.heap.size=w.heap.size+2:=by rw [← hw2,size_two,s1]
        have X1:Two w1 (w.heap.size) (.int .i64 (a)) (.int .i64 (b)):=by rw [← hw1];exact Two.new (here _)
        have X2:Two w2 (w.heap.size) (.int .i64 (a)) (.int .i64 (b)):=by rw [← hw2];exact X1.keep (grow (here _) _)
        have R2:Tuo w2 (w.heap.size+1) (.int .i64 (0)) (.int .i64 (0)):=by rw [← s1,← hw2];exact Tuo.new _ _ _ _
        have A2:Below w.heap.size w w2:=by rw [← hw2,← hw1];exact (grow (grow (here w) _) _)
        replace X2:=zh X2;replace R2:=zh R2;replace A2:=zh A2;clear X1;obtain ⟨x0,x1,xl⟩:=X2.out;obtain ⟨⟨r0,r1,rl⟩,rf0,rf1⟩:=R2.out
        go_enter Tryz.func138,Tryz.ntmps138
        go_wp2_with fail
        refine (HVA.out _).mono ?_;rintro e w3 ⟨rfl,hb⟩;clear x0 x1 xl r0 r1 rl rf0 rf1;have A3:=zd A2 hb;have X3:=zh (X2.out.keep hb);have R3:=zh (R2.out.keep hb);clear hb A2 X2 R2;obtain ⟨x0,x1,xl⟩:=X3.out;obtain ⟨⟨r0,r1,rl⟩,rf0,rf1⟩:=R3.out;obtain ⟨w4,hw4⟩:∃ w4:World,w3.alloc (.cells #[.int .i64 (p),.int .i64 (q')] 40)=w4:=⟨_,rfl⟩;obtain ⟨B4,HB4⟩:∃ B,w3.heap.size=B:=⟨_,rfl⟩;have S4:Hid (Two w4 B4 (.int .i64 (p)) (.int .i64 (q'))):=by rw [← hw4,← HB4];exact Two.new (here _)
        have X4:=zh (X3.out.keep (show Below w3.heap.size w3 w4 by rw [← hw4];exact grow (here _) _));have R4:=zh (R3.out.keep (show Below w3.heap.size w3 w4 by rw [← hw4];exact grow (here _) _));have A4:Hid (Below w.heap.size w w4):=by rw [← hw4];exact grow A3.out _
        clear A3 X3 R3;obtain ⟨nx0,nx1,nxl⟩:=X4.out;obtain ⟨⟨nr0,nr1,nrl⟩,nrf0,nrf1⟩:=R4.out;obtain ⟨ns0,ns1,nsl⟩:=S4.out;go_wp2_with fail
        refine (HVC.out _).mono ?_;rintro e w5 ⟨rfl,hb⟩;clear x0 x1 xl r0 r1 rl rf0 rf1 nx0 nx1 nxl nr0 nr1 nrl nrf0 nrf1 ns0 ns1 nsl;have A5:=zd A4 hb;have X5:=zh (X4.out.keep hb);have R5:=zh (R4.out.keep hb);have S5:=zh (S4.out.keep hb);clear hb A4 X4 R4 S4;obtain ⟨x0,x1,xl⟩:=X5.out;obtain ⟨⟨r0,r1,rl⟩,rf0,rf1⟩:=R5.out;obtain ⟨s0,s1,sl⟩:=S5.out;obtain ⟨w6,hw6⟩:∃ w6:World,w5.setCell ⟨w.heap.size+1,0,none⟩ (.int .i64 (p))=w6:=⟨_,rfl⟩;obtain ⟨w7,hw7⟩:∃ w7:World,w6.setCell ⟨w.heap.size+1,1,none⟩ (.int .i64 (q'))=w7:=⟨_,rfl⟩;have P6:Tuo w6 (w.heap.size+1) (.int .i64 (p)) (.int .i64 (0)):=by rw [← hw6];exact R5.out.put0 _
        have R7:Hid (Tuo w7 (w.heap.size+1) (.int .i64 (p)) (.int .i64 (q'))):=by rw [← hw7];exact P6.put1 _
        have A7:Hid (Below w.heap.size w w7):=by rw [← hw7,← hw6];exact (A5.out.setCell (by show _≤w.heap.size+1;omega) _).setCell (by show _≤w.heap.size+1;omega) _
        obtain ⟨⟨p50,p51,p5l⟩,p5f0,p5f1⟩:=P6;obtain ⟨⟨q50,q51,q5l⟩,q5f0,q5f1⟩:=R7.out;go_wp2
        exact bodyPost_ret (v:=.tuple #[.agg #[.int .i64 (p),.int .i64 (q')],.int .i64 0]) (by simp [results,Tryz.results138,go_sem,q50,q51]) rfl ⟨rfl,A7.out⟩
    · obtain ⟨p,hp⟩:∃ p,wrap64 (a+n)=p:=⟨_,rfl⟩;obtain ⟨q',hq'⟩:∃ q',wrap64 (b+n)=q':=⟨_,rfl⟩;have hp2:=hp;have hq2:=hq';have j:(-9223372036854775808≤p∧p≤9223372036854775807)∧¬ (-4398046511104≤p∧p≤4398046511104):=by unfold wrap64 at hp;omega
      have j':-9223372036854775808≤q'∧q'≤9223372036854775807:=by unfold wrap64 at hq';omega
      have HVC:=zh (fun w=>iuvalid p q' j.1 j' w);have vq:ivB p q'=false:=by
        rw [ivB_no];have:-4398046511104≤q'∧q'≤4398046511104→False:=by unfold wrap64 at hq';omega
        omega
      rw [vq] at HVC;have vc:ivB (a+n) (b+n)=false:=by rw [ivB_no];omega
      have e0:mvE a b n=2:=by unfold mvE;rw [va,vc];rfl
      rw [show mvF a b n=0 by unfold mvF;rw [e0];rfl,show mvT a b n=0 by unfold mvT;rw [e0];rfl,e0];clear e0;clear va vc q z vq hp2 hq2;obtain ⟨⟨j0,j1⟩,-⟩:=j;obtain ⟨j2,j3⟩:=j';obtain ⟨w1,hw1⟩:∃ w1:World,w.alloc (.cells #[.int .i64 (a),.int .i64 (b)] 40)=w1:=⟨_,rfl⟩;have s1:w1.heap.size=w.heap.size+1:=by rw [← hw1,size_two]
      obtain ⟨w2,hw2⟩:∃ w2:World,w1.alloc (.cells #[.int .i64 (0),.int .i64 (0)] 40)=w2:=⟨_,rfl⟩;have s2:w2.heap.size=w.heap.size+2:=by rw [← hw2,size_two,s1]
      have X1:Two w1 (w.heap.size) (.int .i64 (a)) (.int .i64 (b)):=by rw [← hw1];exact Two.new (here _)
      have X2:Two w2 (w.heap.size) (.int .i64 (a)) (.int .i64 (b)):=by rw [← hw2];exact X1.keep (grow (here _) _)
      have R2:Tuo w2 (w.heap.size+1) (.int .i64 (0)) (.int .i64 (0)):=by rw [← s1,← hw2];exact Tuo.new _ _ _ _
      have A2:Below w.heap.size w w2:=by rw [← hw2,← hw1];exact (grow (grow (here w) _) _)
      replace X2:=zh X2;replace R2:=zh R2;replace A2:=zh A2;clear X1;obtain ⟨x0,x1,xl⟩:=X2.out;obtain ⟨⟨r0,r1,rl⟩,rf0,rf1⟩:=R2.out
      go_enter Tryz.func138,Tryz.ntmps138
      go_wp2_with fail
      refine (HVA.out _).mono ?_;rintro e w3 ⟨rfl,hb⟩;clear x0 x1 xl r0 r1 rl rf0 rf1;have A3:=zd A2 hb;have X3:=zh (X2.out.keep hb);have R3:=zh (R2.out.keep hb);clear hb A2 X2 R2;obtain ⟨x0,x1,xl⟩:=X3.out;obtain ⟨⟨r0,r1,rl⟩,rf0,rf1⟩:=R3.out;obtain ⟨w4,hw4⟩:∃ w4:World,w3.alloc (.cells #[.int .i64 (p),.int .i64 (q')] 40)=w4:=⟨_,rfl⟩;obtain ⟨B4,HB4⟩:∃ B,w3.heap.size=B:=⟨_,rfl⟩;have S4:Hid (Two w4 B4 (.int .i64 (p)) (.int .i64 (q'))):=by rw [← hw4,← HB4];exact Two.new (here _)
      have X4:=zh (X3.out.keep (show Below w3.heap.size w3 w4 by rw [← hw4];exact grow (here _) _));have R4:=zh (R3.out.keep (show Below w3.heap.size w3 w4 by rw [← hw4];exact grow (here _) _));have A4:Hid (Below w.heap.size w w4):=by rw [← hw4];exact grow A3.out _
      clear A3 X3 R3;obtain ⟨nx0,nx1,nxl⟩:=X4.out;obtain ⟨⟨nr0,nr1,nrl⟩,nrf0,nrf1⟩:=R4.out;obtain ⟨ns0,ns1,nsl⟩:=S4.out;go_wp2_with fail
      refine (HVC.out _).mono ?_;rintro e w5 ⟨rfl,hb⟩;clear x0 x1 xl r0 r1 rl rf0 rf1 nx0 nx1 nxl nr0 nr1 nrl nrf0 nrf1 ns0 ns1 nsl;have A5:=zd A4 hb;have X5:=zh (X4.out.keep hb);have R5:=zh (R4.out.keep hb);have S5:=zh (S4.out.keep hb);clear hb A4 X4 R4 S4;obtain ⟨x0,x1,xl⟩:=X5.out;obtain ⟨⟨r0,r1,rl⟩,rf0,rf1⟩:=R5.out;obtain ⟨s0,s1,sl⟩:=S5.out;obtain ⟨w6,hw6⟩:∃ w6:World,w5.setCell ⟨w.heap.size+1,0,none⟩ (.int .i64 (0))=w6:=⟨_,rfl⟩;obtain ⟨w7,hw7⟩:∃ w7:World,w6.setCell ⟨w.heap.size+1,1,none⟩ (.int .i64 (0))=w7:=⟨_,rfl⟩;have P6:Tuo w6 (w.heap.size+1) (.int .i64 (0)) (.int .i64 (0)):=by rw [← hw6];exact R5.out.put0 _
      have R7:Hid (Tuo w7 (w.heap.size+1) (.int .i64 (0)) (.int .i64 (0))):=by rw [← hw7];exact P6.put1 _
      have A7:Hid (Below w.heap.size w w7):=by rw [← hw7,← hw6];exact (A5.out.setCell (by show _≤w.heap.size+1;omega) _).setCell (by show _≤w.heap.size+1;omega) _
      obtain ⟨⟨p50,p51,p5l⟩,p5f0,p5f1⟩:=P6;obtain ⟨⟨q50,q51,q5l⟩,q5f0,q5f1⟩:=R7.out;go_wp2
      exact bodyPost_ret (v:=.tuple #[.agg #[.int .i64 (0),.int .i64 (0)],.int .i64 2]) (by simp [results,Tryz.results138,go_sem,q50,q51]) rfl ⟨rfl,A7.out⟩
end Go.Proofs.YtmamlgaogpkagaaGreat
