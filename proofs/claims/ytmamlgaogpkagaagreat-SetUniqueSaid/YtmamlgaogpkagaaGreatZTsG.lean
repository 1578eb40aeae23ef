/- TsG TsD TsK TsC. -/
import Derived.Test.YtmamlgaogpkagaaGreatZLPlain
import Derived.Test.YtmamlgaogpkagaaGreatZLGen
import Derived.Test.YtmamlgaogpkagaaGreatZLSl
import Derived.Test.YtmamlgaogpkagaaGreatZLOwn
import Derived.Test.YtmamlgaogpkagaaGreatZRnP
import Derived.Test.YtmamlgaogpkagaaGreatZPeR
import Derived.Test.YtmamlgaogpkagaaGreatZPeB
import Derived.Test.YtmamlgaogpkagaaGreatZPeKE
import Derived.Test.YtmamlgaogpkagaaGreatZPeKI
import Derived.Test.YtmamlgaogpkagaaGreatZPeKJ
import Derived.Test.YtmamlgaogpkagaaGreatZPeKK
import Derived.Test.YtmamlgaogpkagaaGreatZPeGD
import Derived.Test.YtmamlgaogpkagaaGreatZTsR
import Derived.Test.YtmamlgaogpkagaaGreatZTsE
import Derived.StillTailTactics
namespace Go.Proofs.YtmamlgaogpkagaaGreat
open Go.RowKit
set_option linter.unusedVariables false
set_option linter.unusedSimpArgs false
structure SS3 (w:World) (s:TS) (va vb vl:Value):Prop where
 a:PairS 0 w va s.A
 b:PairS 0 w vb s.B
 l:PairS 0 w vl s.L
theorem SS3.keep {w w':World} {s:TS} {va vb vl:Value} (h:SS3 w s va vb vl) (hb:Below w.heap.size w w'):SS3 w' s va vb vl:=⟨h.a.keep hb,h.b.keep hb,h.l.keep hb⟩
structure TsI (s:TS):Prop where
 P:I64 s.P
 Q:I64 s.Q
 a:I64 s.a
 b:I64 s.b
 A:s.A.length≤maxLen
 B:s.B.length≤maxLen
 L:s.L.length≤maxLen
theorem VS.ti {s:TS} (h:VS s):TsI s:=by
 have g:=h.g;have p0:=g.p.p0;have p1:=g.p.p1;have q0:=g.q.p0;have q1:=g.q.p1;have l1:=g.p.len;have l2:=g.q.len;have l3:=(vaB_iff.1 g.va).1;have le:=g.le;have b1:=g.lo0;have b2:=g.hi0;exact ⟨⟨by omega,by omega⟩,⟨by omega,by omega⟩,⟨by omega,by omega⟩,⟨by omega,by omega⟩,le_mx (by omega),le_mx (by omega),le_mx (by omega)⟩
def smT (s t:TS):Bool:=decide (s.P=t.P)&&decide (s.A=t.A)&&(decide (s.Q=t.Q)&&decide (s.B=t.B))&&decide (s.a=t.a)&&decide (s.b=t.b)&&decide (s.L=t.L)
theorem sm_iff {s t:TS}:smT s t=true↔s=t:=by
 unfold smT
 simp only [Bool.and_eq_true,decide_eq_true_eq]
 constructor
 ·rintro ⟨⟨⟨⟨⟨h1,h2⟩,h3,h4⟩,h5⟩,h6⟩,h7⟩
  cases s;cases t
  simp only at h1 h2 h3 h4 h5 h6 h7
  subst h1 h2 h3 h4 h5 h6 h7;rfl
 ·rintro rfl;exact ⟨⟨⟨⟨⟨rfl,rfl⟩,rfl,rfl⟩,rfl⟩,rfl⟩,rfl⟩
set_option maxRecDepth 100000 in
set_option maxHeartbeats 2000000 in
theorem rtpure (P:Int) (va:Value) (A:List Sp) {ba:Nat} (w:World) (a:PairS ba w va A) :
  Calls Tryz.prog 74 #[.agg #[.int .i64 P,va]] w fun e w'=>e=.returned (.agg #[.int .i64 P,va,.int .i64 P,va,.int .i64 0,.int .i64 0,.slice none 0 0])∧Below w.heap.size w w':=by
 obtain ⟨oa,ca,rfl⟩:=prs_shape a;have TA:=zh (Bxs.new (w:=w) [.int .i64 P,.slice oa A.length ca] 24);have FI:=Bxs.new (w:=(w.alloc (.cells #[.int .i64 P,.slice oa A.length ca] 24))) [.int .i64 P,.slice oa A.length ca,.int .i64 P,.slice oa A.length ca,.int .i64 0,.int .i64 0,.slice none 0 0] 26;rw [size_two] at FI;replace FI:=zh FI;have A1:=zh (grow (grow (here w) (.cells #[.int .i64 P,.slice oa A.length ca] 24)) (.cells #[.int .i64 P,.slice oa A.length ca,.int .i64 P,.slice oa A.length ca,.int .i64 0,.int .i64 0,.slice none 0 0] 26));refine TA.out.k2 fun r0 r1 rl=>?_
 go_enter Tryz.func74,Tryz.ntmps74
 go_wp2
 refine FI.out.k7 fun q0 q1 q2 q3 q4 q5 q6 aa=>?_;clear aa;refine bodyPost_ret (v:=.agg #[.int .i64 P,.slice oa A.length ca,.int .i64 P,.slice oa A.length ca,.int .i64 0,.int .i64 0,.slice none 0 0]) (by simp [results,Tryz.results74,go_sem,q0,q1,q2,q3,q4,q5,q6]) rfl ?_;exact ⟨rfl,A1.out⟩
def LsZ (o:Bool) (b:Int):Prop:=o=false→b=0
set_option maxRecDepth 100000 in
set_option maxHeartbeats 4000000 in
theorem rtlast (vl va:Value) (l:List Sp) (ll:l.length≤2000) (P:Int) (A:List Sp) (pv:PV P A) (lo hi:Int) (le:lo≤hi) (lo0:-4398046511104≤lo) (hi0:hi≤4398046511104) {bl ba:Nat} (w:World) (pl:PairS bl w vl l) (a:PairS ba w va A) :
  Calls Tryz.prog 119 #[vl,.agg #[.int .i64 P,va],.int .i64 lo,.int .i64 hi] w fun e w'=>(∃ b o,e=.returned (.tuple #[.int .i64 b,.bool o])∧LsR (inB l) (hsP P A) lo hi o b∧LsZ o b)∧Below w.heap.size w w':=by
 obtain ⟨oa,ca,rfl⟩:=prs_shape a;obtain ⟨ol,cl,rfl⟩:=prs_shape pl;have A1:=zh (grow (here w) (.cells #[.int .i64 P,.slice oa A.length ca] 24));have TA:=zh (Two.new (t:=24) (x:=.int .i64 P) (y:=.slice oa A.length ca) (here (w.alloc (.cells #[.int .i64 P,.slice oa A.length ca] 24))));have PA1:=zh (a.keep A1.out);have PL1:=zh (pl.keep A1.out);have p0:=pv.p0;have p1:=pv.p1;have alen:=pv.len;have HA:=zh (fun W x (hx:I64 x) (h:PairS ba W (.slice oa A.length ca) A)=>rphas _ P A (le_mx (by omega)) (by omega) (by omega) x hx W h);have HL:=zh (fun W x (h:PairS bl W (.slice ol l.length cl) l)=>rnin _ l (le_mx (by omega)) x W h);have BF:=zh (fun W x x0 x1 (h:PairS ba W (.slice oa A.length ca) A)=>rtbefore _ P A pv x x0 x1 W h);clear a pl;obtain ⟨n,hn⟩:∃ n,l.length=n:=⟨_,rfl⟩;rw [hn] at PL1 HL ll ⊢
 go_enter Tryz.func119,Tryz.ntmps119
 go_wp2
 generalize (w.alloc (.cells #[.int .i64 P,.slice oa A.length ca] 24))=w1 at *;have L0:=zh (here w1)
 go_loopw [10] (fun t wr=>∃ (x:Int),lo≤x∧x≤hi∧t=.int .i64 x∧Hid (∀ y,x≤y→y<hi→inB l y=hsP P A y)∧Hid (Below w1.heap.size w1 wr)) (fun t _=>(intOf t - lo).toNat)
 case atStart=>exact ⟨hi,by omega,by omega,rfl,fun y h1 h2=>by omega,L0⟩
 case round =>
  obtain ⟨x,x0,x1,rfl,SX,AM⟩:=hrel;clear L0
  by_cases y:lo<x
  ·have ky:decide (lo<x)=true:=zdt y;obtain ⟨x2,hx2⟩:∃ x2,x - 1=x2:=⟨_,rfl⟩;obtain ⟨u,hu⟩:∃ u,inB l x2=u:=⟨_,rfl⟩;obtain ⟨v,hv⟩:∃ v,hsP P A x2=v:=⟨_,rfl⟩;replace hu:=zh hu;replace hv:=zh hv
   by_cases d':u=v
   rotate_left
   ·have d:(u != v)=true:=bne_iff_ne.2 d';have RS:Hid (LsR (inB l) (hsP P A) lo hi true x):=⟨fun _=>⟨by omega,by omega,by rw [hx2];rw [hu.out,hv.out];exact bne_iff_ne.1 d,SX.out⟩,fun h=>by cases h⟩;obtain rfl:v=!u:=by cases u <;> cases v <;> simp_all
    clear d d';have a0:∀ x':Kept wr,x'.wd.cell? ⟨w.heap.size,0,none⟩=some (.int .i64 P):=fun x'=>((TA.out.keep AM.out).keep x'.ok).c0;have a1:∀ x':Kept wr,x'.wd.cell? ⟨w.heap.size,1,none⟩=some (.slice oa A.length ca):=fun x'=>((TA.out.keep AM.out).keep x'.ok).c1;have GA:Hid (∀ x':Kept wr,Calls Tryz.prog 69 #[.agg #[.int .i64 P,.slice oa A.length ca],.int .i64 x2] x'.wd fun e w'=>e=.returned (.bool (!u))∧Below x'.wd.heap.size x'.wd w'):=fun x'=>by have r:=HA.out x'.wd x2 ⟨by omega,by omega⟩ ((PA1.out.keep AM.out).keep x'.ok);rw [hv.out] at r;exact r
    have GB:Hid (∀ x':Kept wr,Calls Tryz.prog 54 #[.slice ol n cl,.int .i64 x2] x'.wd fun e w'=>e=.returned (.bool u)∧x'.wd=w'):=fun x'=>by have r:=HL.out x'.wd x2 ((PL1.out.keep AM.out).keep x'.ok);rw [hu.out] at r;exact r
    go_wp2
    refine wp_region_kept (by kernel_rfl) (by kernel_rfl) ?_
    repeat (go_big_quiet_step (first | (go_at_call 69;with_reducible exact kept_call _ (GA.out _)) | (go_at_call 54;with_reducible exact kept_same _ (GB.out _))))
    refine wpQuiet_nil ?_;intro w3 hx;obtain ⟨⟨z3,hb⟩,hw⟩:=hx;replace hw:w3=z3:=hw;subst z3;have A3:=zd AM hb;clear hb a0 a1 GA GB AM;have A9:=zh (down A1.out A3.out);clear hu hv;go_wp2
    go_ret2
    exact ⟨⟨_,_,rfl,RS.out,fun h=>by cases h⟩,A9.out⟩
   ·have EQ:Hid (inB l (x - 1)=hsP P A (x - 1)):=by show _=_;rw [hx2];rw [hu.out,hv.out];exact d'
    subst d';have a0:∀ x':Kept wr,x'.wd.cell? ⟨w.heap.size,0,none⟩=some (.int .i64 P):=fun x'=>((TA.out.keep AM.out).keep x'.ok).c0;have a1:∀ x':Kept wr,x'.wd.cell? ⟨w.heap.size,1,none⟩=some (.slice oa A.length ca):=fun x'=>((TA.out.keep AM.out).keep x'.ok).c1;have GA:Hid (∀ x':Kept wr,Calls Tryz.prog 69 #[.agg #[.int .i64 P,.slice oa A.length ca],.int .i64 x2] x'.wd fun e w'=>e=.returned (.bool (u))∧Below x'.wd.heap.size x'.wd w'):=fun x'=>by have r:=HA.out x'.wd x2 ⟨by omega,by omega⟩ ((PA1.out.keep AM.out).keep x'.ok);rw [hv.out] at r;exact r
    have GB:Hid (∀ x':Kept wr,Calls Tryz.prog 54 #[.slice ol n cl,.int .i64 x2] x'.wd fun e w'=>e=.returned (.bool u)∧x'.wd=w'):=fun x'=>by have r:=HL.out x'.wd x2 ((PL1.out.keep AM.out).keep x'.ok);rw [hu.out] at r;exact r
    go_wp2
    refine wp_region_kept (by kernel_rfl) (by kernel_rfl) ?_
    repeat (go_big_quiet_step (first | (go_at_call 69;with_reducible exact kept_call _ (GA.out _)) | (go_at_call 54;with_reducible exact kept_same _ (GB.out _))))
    refine wpQuiet_nil ?_;intro w3 hx;obtain ⟨⟨z3,hb⟩,hw⟩:=hx;replace hw:w3=z3:=hw;subst z3;have A3:=zd AM hb;clear hb a0 a1 GA GB AM;clear hu hv;have A3':=A3;go_wp2
    go_loopw [11,12] (fun s t wr=>∃ (j:Nat) (nx:Int),s=.int .i64 nx∧j≤n∧lo≤nx∧nx<x∧t=.int .i64 j∧Hid (∀ i,i<j→((l.getD i (0,0)).1<x→(l.getD i (0,0)).1≤nx)∧((l.getD i (0,0)).2<x→(l.getD i (0,0)).2≤nx))∧Hid (Below w1.heap.size w1 wr)) (fun _ t _=>n - (intOf t).toNat)
    case atStart=>exact ⟨0,lo,rfl,Nat.zero_le _,by omega,by omega,rfl,fun i h=>absurd h (Nat.not_lt_zero i),A3'⟩
    case round =>
     obtain ⟨j,nx,rfl,hj,nx0,nx1,rfl,EI,AI⟩:=hrel;clear A3'
     by_cases z:j<n
     ·have kz:decide ((j:Int)<(n:Int))=true:=zdt (by omega);have PI:=zh (PL1.out.keep AI.out);obtain ⟨b,off,rfl,bl',cs⟩:=prs_here PI.out (show j<l.length by omega);obtain ⟨c0,c1⟩:=cs j (by omega);clear cs;obtain ⟨j1,hj1⟩:∃ j1,j+1=j1:=⟨_,rfl⟩;obtain ⟨q,hq⟩:∃ q,l.getD j (0,0)=q:=⟨_,rfl⟩;rw [hq] at c0 c1;replace hq:=zh hq;obtain ⟨f,g⟩:=q;replace c0:wr.cell? ⟨b,off+j * 2,none⟩=some (.int .i64 f):=c0;replace c1:wr.cell? ⟨b,off+j * 2+1,none⟩=some (.int .i64 g):=c1
      by_cases t1:f<x
      ·have k1:decide (f<x)=true:=zdt t1;obtain ⟨n1,hn1⟩:∃ n1,(if nx<f then f else nx)=n1:=⟨_,rfl⟩;have mn1:max nx f=n1:=by rw [← hn1];omega
       have n1f:(nx<f∧n1=f)∨(f≤nx∧n1=nx):=by rw [← hn1];split <;> omega
       by_cases t2:g<x
       ·have k2:decide (g<x)=true:=zdt t2;obtain ⟨n2,hn2⟩:∃ n2,(if n1<g then g else n1)=n2:=⟨_,rfl⟩;have mn2:max n1 g=n2:=by rw [← hn2];omega
        have n2f:(n1<g∧n2=g)∨(g≤n1∧n2=n1):=by rw [← hn2];split <;> omega
        have EN:Hid (∀ i,i<j1→((l.getD i (0,0)).1<x→(l.getD i (0,0)).1≤n2)∧((l.getD i (0,0)).2<x→(l.getD i (0,0)).2≤n2)):=fun i hi'=>by
         by_cases e:i=j
         ·rw [e,hq.out];exact ⟨fun h=>by omega,fun h=>by omega⟩
         ·have:=EI.out i (by omega);exact ⟨fun h=>by have:=this.1 h;omega,fun h=>by have:=this.2 h;omega⟩
        go_wp2
        go_roundw
        case rel=>exact ⟨j1,n2,rfl,by omega,by omega,by omega,by first | rfl | go_num,EN,AI⟩
        case measure=>simp [intOf];omega
       ·have k2:decide (g<x)=false:=zdf t2;have EN:Hid (∀ i,i<j1→((l.getD i (0,0)).1<x→(l.getD i (0,0)).1≤n1)∧((l.getD i (0,0)).2<x→(l.getD i (0,0)).2≤n1)):=fun i hi'=>by
         by_cases e:i=j
         ·rw [e,hq.out];exact ⟨fun h=>by omega,fun h=>by omega⟩
         ·have:=EI.out i (by omega);exact ⟨fun h=>by have:=this.1 h;omega,fun h=>by have:=this.2 h;omega⟩
        go_wp2
        go_roundw
        case rel=>exact ⟨j1,n1,rfl,by omega,by omega,by omega,by first | rfl | go_num,EN,AI⟩
        case measure=>simp [intOf];omega
      ·have k1:decide (f<x)=false:=zdf t1
       by_cases t2:g<x
       ·have k2:decide (g<x)=true:=zdt t2;obtain ⟨n2,hn2⟩:∃ n2,(if nx<g then g else nx)=n2:=⟨_,rfl⟩;have mn2:max nx g=n2:=by rw [← hn2];omega
        have n2f:(nx<g∧n2=g)∨(g≤nx∧n2=nx):=by rw [← hn2];split <;> omega
        have EN:Hid (∀ i,i<j1→((l.getD i (0,0)).1<x→(l.getD i (0,0)).1≤n2)∧((l.getD i (0,0)).2<x→(l.getD i (0,0)).2≤n2)):=fun i hi'=>by
         by_cases e:i=j
         ·rw [e,hq.out];exact ⟨fun h=>by omega,fun h=>by omega⟩
         ·have:=EI.out i (by omega);exact ⟨fun h=>by have:=this.1 h;omega,fun h=>by have:=this.2 h;omega⟩
        go_wp2
        go_roundw
        case rel=>exact ⟨j1,n2,rfl,by omega,by omega,by omega,by first | rfl | go_num,EN,AI⟩
        case measure=>simp [intOf];omega
       ·have k2:decide (g<x)=false:=zdf t2;have EN:Hid (∀ i,i<j1→((l.getD i (0,0)).1<x→(l.getD i (0,0)).1≤nx)∧((l.getD i (0,0)).2<x→(l.getD i (0,0)).2≤nx)):=fun i hi'=>by
         by_cases e:i=j
         ·rw [e,hq.out];exact ⟨fun h=>by omega,fun h=>by omega⟩
         ·have:=EI.out i (by omega);exact ⟨fun h=>by have:=this.1 h;omega,fun h=>by have:=this.2 h;omega⟩
        go_wp2
        go_roundw
        case rel=>exact ⟨j1,nx,rfl,by omega,by omega,by omega,by first | rfl | go_num,EN,AI⟩
        case measure=>simp [intOf];omega
     ·have kz:decide ((j:Int)<(n:Int))=false:=zdf (by omega);obtain rfl:j=n:=by omega
      have ES:Hid (∀ q,q∈l→(q.1<x→q.1≤nx)∧(q.2<x→q.2≤nx)):=fun q hq=>by
       obtain ⟨i,hi',rfl⟩:=mem_getD hq;exact EI.out i (by omega)
      have TR:=zh (TA.out.keep AI.out);have PR:=zh (PA1.out.keep AI.out);obtain ⟨ta,tb,tl⟩:=TR.out;go_wp2_with fail
      refine (BF.out _ x (by omega) (by omega) PR.out).mono ?_;rintro e w5 ⟨⟨c,oo,rfl,bs,c0,c1⟩,hb⟩;have A5:=zd AI hb;replace bs:=zh bs;clear hb ta tb tl TR PR AI EI
      cases oo
      ·have SN:Hid (∀ y,nx≤y→y<hi→inB l y=hsP P A y):=fun z h1 h2=>by
        by_cases e:z<x
        ·exact ls_step EQ.out ES.out bs.out (fun h=>by cases h) h1 e
        ·exact SX.out z (by omega) (by omega)
       go_wp2
       go_roundw
       case rel=>exact ⟨nx,by omega,by omega,by first | rfl | go_num,SN,A5⟩
       case measure=>simp [intOf];omega
      ·have cx:=(bs.out.yes rfl).1;obtain ⟨n3,hn3⟩:∃ n3,(if nx<c then c else nx)=n3:=⟨_,rfl⟩;have mn3:max nx c=n3:=by rw [← hn3];omega
       have n3f:(nx<c∧n3=c)∨(c≤nx∧n3=nx):=by rw [← hn3];split <;> omega
       have SN:Hid (∀ y,n3≤y→y<hi→inB l y=hsP P A y):=fun z h1 h2=>by
        by_cases e:z<x
        ·exact ls_step EQ.out (fun q hq=>by have:=ES.out q hq;exact ⟨fun h=>by have:=this.1 h;omega,fun h=>by have:=this.2 h;omega⟩) bs.out (fun _=>by omega) h1 e
        ·exact SX.out z (by omega) (by omega)
       go_wp2
       go_roundw
       case rel=>exact ⟨n3,by omega,by omega,by first | rfl | go_num,SN,A5⟩
       case measure=>simp [intOf];omega
  ·have ky:decide (lo<x)=false:=zdf y;obtain rfl:x=lo:=by omega
   have A9:=zh (down A1.out AM.out);have RS:Hid (LsR (inB l) (hsP P A) x hi false 0):=⟨fun h=>(by cases h),fun _=>SX.out⟩;go_wp2
   go_ret2
   exact ⟨⟨0,.inl ⟨rfl,RS.out,fun _=>rfl⟩⟩,A9.out⟩
set_option maxRecDepth 100000 in
set_option maxHeartbeats 4000000 in
theorem rtfirst (vl va:Value) (l:List Sp) (ll:l.length≤2000) (P:Int) (A:List Sp) (pv:PV P A) (lo hi:Int) (le:lo≤hi) (lo0:-4398046511104≤lo) (hi0:hi≤4398046511104) {bl ba:Nat} (w:World) (pl:PairS bl w vl l) (a:PairS ba w va A) :
  Calls Tryz.prog 120 #[vl,.agg #[.int .i64 P,va],.int .i64 lo,.int .i64 hi] w fun e w'=>(∃ b o,e=.returned (.tuple #[.int .i64 b,.bool o])∧FiR (inB l) (hsP P A) lo hi o b∧LsZ o b)∧Below w.heap.size w w':=by
 obtain ⟨oa,ca,rfl⟩:=prs_shape a;obtain ⟨ol,cl,rfl⟩:=prs_shape pl;have A1:=zh (grow (here w) (.cells #[.int .i64 P,.slice oa A.length ca] 24));have TA:=zh (Two.new (t:=24) (x:=.int .i64 P) (y:=.slice oa A.length ca) (here (w.alloc (.cells #[.int .i64 P,.slice oa A.length ca] 24))));have PA1:=zh (a.keep A1.out);have PL1:=zh (pl.keep A1.out);have p0:=pv.p0;have p1:=pv.p1;have alen:=pv.len;have HA:=zh (fun W x (hx:I64 x) (h:PairS ba W (.slice oa A.length ca) A)=>rphas _ P A (le_mx (by omega)) (by omega) (by omega) x hx W h);have HL:=zh (fun W x (h:PairS bl W (.slice ol l.length cl) l)=>rnin _ l (le_mx (by omega)) x W h);have BF:=zh (fun W x x0 x1 (h:PairS ba W (.slice oa A.length ca) A)=>rtafter _ P A pv x x0 x1 W h);clear a pl;obtain ⟨n,hn⟩:∃ n,l.length=n:=⟨_,rfl⟩;rw [hn] at PL1 HL ll ⊢
 go_enter Tryz.func120,Tryz.ntmps120
 go_wp2
 generalize (w.alloc (.cells #[.int .i64 P,.slice oa A.length ca] 24))=w1 at *;have L0:=zh (here w1)
 go_loopw [10] (fun t wr=>∃ (x:Int),lo≤x∧x≤hi∧t=.int .i64 x∧Hid (∀ y,lo≤y→y<x→inB l y=hsP P A y)∧Hid (Below w1.heap.size w1 wr)) (fun t _=>(hi - intOf t).toNat)
 case atStart=>exact ⟨lo,by omega,by omega,rfl,fun y h1 h2=>by omega,L0⟩
 case round =>
  obtain ⟨x,x0,x1,rfl,SX,AM⟩:=hrel;clear L0
  by_cases y:x<hi
  ·have ky:decide (x<hi)=true:=zdt y;obtain ⟨x2,hx2⟩:∃ x2,x=x2:=⟨_,rfl⟩;obtain ⟨u,hu⟩:∃ u,inB l x2=u:=⟨_,rfl⟩;obtain ⟨v,hv⟩:∃ v,hsP P A x2=v:=⟨_,rfl⟩;replace hu:=zh hu;replace hv:=zh hv
   by_cases d':u=v
   rotate_left
   ·have d:(u != v)=true:=bne_iff_ne.2 d';have RS:Hid (FiR (inB l) (hsP P A) lo hi true x):=⟨fun _=>⟨by omega,by omega,by rw [hx2];rw [hu.out,hv.out];exact bne_iff_ne.1 d,SX.out⟩,fun h=>by cases h⟩;obtain rfl:v=!u:=by cases u <;> cases v <;> simp_all
    clear d d';have a0:∀ x':Kept wr,x'.wd.cell? ⟨w.heap.size,0,none⟩=some (.int .i64 P):=fun x'=>((TA.out.keep AM.out).keep x'.ok).c0;have a1:∀ x':Kept wr,x'.wd.cell? ⟨w.heap.size,1,none⟩=some (.slice oa A.length ca):=fun x'=>((TA.out.keep AM.out).keep x'.ok).c1;have GA:Hid (∀ x':Kept wr,Calls Tryz.prog 69 #[.agg #[.int .i64 P,.slice oa A.length ca],.int .i64 x2] x'.wd fun e w'=>e=.returned (.bool (!u))∧Below x'.wd.heap.size x'.wd w'):=fun x'=>by have r:=HA.out x'.wd x2 ⟨by omega,by omega⟩ ((PA1.out.keep AM.out).keep x'.ok);rw [hv.out] at r;exact r
    have GB:Hid (∀ x':Kept wr,Calls Tryz.prog 54 #[.slice ol n cl,.int .i64 x2] x'.wd fun e w'=>e=.returned (.bool u)∧x'.wd=w'):=fun x'=>by have r:=HL.out x'.wd x2 ((PL1.out.keep AM.out).keep x'.ok);rw [hu.out] at r;exact r
    subst hx2;go_wp2
    refine wp_region_kept (by kernel_rfl) (by kernel_rfl) ?_
    repeat (go_big_quiet_step (first | (go_at_call 69;with_reducible exact kept_call _ (GA.out _)) | (go_at_call 54;with_reducible exact kept_same _ (GB.out _))))
    refine wpQuiet_nil ?_;intro w3 hx;obtain ⟨⟨z3,hb⟩,hw⟩:=hx;replace hw:w3=z3:=hw;subst z3;have A3:=zd AM hb;clear hb a0 a1 GA GB AM;have A9:=zh (down A1.out A3.out);clear hu hv;go_wp2
    go_ret2
    exact ⟨⟨_,_,rfl,RS.out,fun h=>by cases h⟩,A9.out⟩
   ·have EQ:Hid (inB l (x)=hsP P A (x)):=by show _=_;rw [hx2];rw [hu.out,hv.out];exact d'
    subst d';have a0:∀ x':Kept wr,x'.wd.cell? ⟨w.heap.size,0,none⟩=some (.int .i64 P):=fun x'=>((TA.out.keep AM.out).keep x'.ok).c0;have a1:∀ x':Kept wr,x'.wd.cell? ⟨w.heap.size,1,none⟩=some (.slice oa A.length ca):=fun x'=>((TA.out.keep AM.out).keep x'.ok).c1;have GA:Hid (∀ x':Kept wr,Calls Tryz.prog 69 #[.agg #[.int .i64 P,.slice oa A.length ca],.int .i64 x2] x'.wd fun e w'=>e=.returned (.bool (u))∧Below x'.wd.heap.size x'.wd w'):=fun x'=>by have r:=HA.out x'.wd x2 ⟨by omega,by omega⟩ ((PA1.out.keep AM.out).keep x'.ok);rw [hv.out] at r;exact r
    have GB:Hid (∀ x':Kept wr,Calls Tryz.prog 54 #[.slice ol n cl,.int .i64 x2] x'.wd fun e w'=>e=.returned (.bool u)∧x'.wd=w'):=fun x'=>by have r:=HL.out x'.wd x2 ((PL1.out.keep AM.out).keep x'.ok);rw [hu.out] at r;exact r
    subst hx2;go_wp2
    refine wp_region_kept (by kernel_rfl) (by kernel_rfl) ?_
    repeat (go_big_quiet_step (first | (go_at_call 69;with_reducible exact kept_call _ (GA.out _)) | (go_at_call 54;with_reducible exact kept_same _ (GB.out _))))
    refine wpQuiet_nil ?_;intro w3 hx;obtain ⟨⟨z3,hb⟩,hw⟩:=hx;replace hw:w3=z3:=hw;subst z3;have A3:=zd AM hb;clear hb a0 a1 GA GB AM;clear hu hv;have A3':=A3;go_wp2
    go_loopw [11,12] (fun s t wr=>∃ (j:Nat) (nx:Int),s=.int .i64 nx∧j≤n∧x<nx∧nx≤hi∧t=.int .i64 j∧Hid (∀ i,i<j→(x<(l.getD i (0,0)).1→nx≤(l.getD i (0,0)).1)∧(x<(l.getD i (0,0)).2→nx≤(l.getD i (0,0)).2))∧Hid (Below w1.heap.size w1 wr)) (fun _ t _=>n - (intOf t).toNat)
    case atStart=>exact ⟨0,hi,rfl,Nat.zero_le _,by omega,by omega,rfl,fun i h=>absurd h (Nat.not_lt_zero i),A3'⟩
    case round =>
     obtain ⟨j,nx,rfl,hj,nx0,nx1,rfl,EI,AI⟩:=hrel;clear A3'
     by_cases z:j<n
     ·have kz:decide ((j:Int)<(n:Int))=true:=zdt (by omega);have PI:=zh (PL1.out.keep AI.out);obtain ⟨b,off,rfl,bl',cs⟩:=prs_here PI.out (show j<l.length by omega);obtain ⟨c0,c1⟩:=cs j (by omega);clear cs;obtain ⟨j1,hj1⟩:∃ j1,j+1=j1:=⟨_,rfl⟩;obtain ⟨q,hq⟩:∃ q,l.getD j (0,0)=q:=⟨_,rfl⟩;rw [hq] at c0 c1;replace hq:=zh hq;obtain ⟨f,g⟩:=q;replace c0:wr.cell? ⟨b,off+j * 2,none⟩=some (.int .i64 f):=c0;replace c1:wr.cell? ⟨b,off+j * 2+1,none⟩=some (.int .i64 g):=c1
      by_cases t1:x<f
      ·have k1:decide (x<f)=true:=zdt t1;obtain ⟨n1,hn1⟩:∃ n1,(if f<nx then f else nx)=n1:=⟨_,rfl⟩;have mn1:min nx f=n1:=by rw [← hn1];omega
       have n1f:(f<nx∧n1=f)∨(nx≤f∧n1=nx):=by rw [← hn1];split <;> omega
       by_cases t2:x<g
       ·have k2:decide (x<g)=true:=zdt t2;obtain ⟨n2,hn2⟩:∃ n2,(if g<n1 then g else n1)=n2:=⟨_,rfl⟩;have mn2:min n1 g=n2:=by rw [← hn2];omega
        have n2f:(g<n1∧n2=g)∨(n1≤g∧n2=n1):=by rw [← hn2];split <;> omega
        have EN:Hid (∀ i,i<j1→(x<(l.getD i (0,0)).1→n2≤(l.getD i (0,0)).1)∧(x<(l.getD i (0,0)).2→n2≤(l.getD i (0,0)).2)):=fun i hi'=>by
         by_cases e:i=j
         ·rw [e,hq.out];exact ⟨fun h=>by omega,fun h=>by omega⟩
         ·have:=EI.out i (by omega);exact ⟨fun h=>by have:=this.1 h;omega,fun h=>by have:=this.2 h;omega⟩
        go_wp2
        go_roundw
        case rel=>exact ⟨j1,n2,rfl,by omega,by omega,by omega,by first | rfl | go_num,EN,AI⟩
        case measure=>simp [intOf];omega
       ·have k2:decide (x<g)=false:=zdf t2;have EN:Hid (∀ i,i<j1→(x<(l.getD i (0,0)).1→n1≤(l.getD i (0,0)).1)∧(x<(l.getD i (0,0)).2→n1≤(l.getD i (0,0)).2)):=fun i hi'=>by
         by_cases e:i=j
         ·rw [e,hq.out];exact ⟨fun h=>by omega,fun h=>by omega⟩
         ·have:=EI.out i (by omega);exact ⟨fun h=>by have:=this.1 h;omega,fun h=>by have:=this.2 h;omega⟩
        go_wp2
        go_roundw
        case rel=>exact ⟨j1,n1,rfl,by omega,by omega,by omega,by first | rfl | go_num,EN,AI⟩
        case measure=>simp [intOf];omega
      ·have k1:decide (x<f)=false:=zdf t1
       by_cases t2:x<g
       ·have k2:decide (x<g)=true:=zdt t2;obtain ⟨n2,hn2⟩:∃ n2,(if g<nx then g else nx)=n2:=⟨_,rfl⟩;have mn2:min nx g=n2:=by rw [← hn2];omega
        have n2f:(g<nx∧n2=g)∨(nx≤g∧n2=nx):=by rw [← hn2];split <;> omega
        have EN:Hid (∀ i,i<j1→(x<(l.getD i (0,0)).1→n2≤(l.getD i (0,0)).1)∧(x<(l.getD i (0,0)).2→n2≤(l.getD i (0,0)).2)):=fun i hi'=>by
         by_cases e:i=j
         ·rw [e,hq.out];exact ⟨fun h=>by omega,fun h=>by omega⟩
         ·have:=EI.out i (by omega);exact ⟨fun h=>by have:=this.1 h;omega,fun h=>by have:=this.2 h;omega⟩
        go_wp2
        go_roundw
        case rel=>exact ⟨j1,n2,rfl,by omega,by omega,by omega,by first | rfl | go_num,EN,AI⟩
        case measure=>simp [intOf];omega
       ·have k2:decide (x<g)=false:=zdf t2;have EN:Hid (∀ i,i<j1→(x<(l.getD i (0,0)).1→nx≤(l.getD i (0,0)).1)∧(x<(l.getD i (0,0)).2→nx≤(l.getD i (0,0)).2)):=fun i hi'=>by
         by_cases e:i=j
         ·rw [e,hq.out];exact ⟨fun h=>by omega,fun h=>by omega⟩
         ·have:=EI.out i (by omega);exact ⟨fun h=>by have:=this.1 h;omega,fun h=>by have:=this.2 h;omega⟩
        go_wp2
        go_roundw
        case rel=>exact ⟨j1,nx,rfl,by omega,by omega,by omega,by first | rfl | go_num,EN,AI⟩
        case measure=>simp [intOf];omega
     ·have kz:decide ((j:Int)<(n:Int))=false:=zdf (by omega);obtain rfl:j=n:=by omega
      have ES:Hid (∀ q,q∈l→(x<q.1→nx≤q.1)∧(x<q.2→nx≤q.2)):=fun q hq=>by
       obtain ⟨i,hi',rfl⟩:=mem_getD hq;exact EI.out i (by omega)
      have TR:=zh (TA.out.keep AI.out);have PR:=zh (PA1.out.keep AI.out);obtain ⟨ta,tb,tl⟩:=TR.out;go_wp2_with fail
      refine (BF.out _ x (by omega) (by omega) PR.out).mono ?_;rintro e w5 ⟨⟨c,oo,rfl,bs,c0,c1⟩,hb⟩;have A5:=zd AI hb;replace bs:=zh bs;clear hb ta tb tl TR PR AI EI
      cases oo
      ·have SN:Hid (∀ y,lo≤y→y<nx→inB l y=hsP P A y):=fun z h1 h2=>by
        by_cases e:x≤z
        ·exact fi_step EQ.out ES.out bs.out (fun h=>by cases h) e h2
        ·exact SX.out z (by omega) (by omega)
       go_wp2
       go_roundw
       case rel=>exact ⟨nx,by omega,by omega,by first | rfl | go_num,SN,A5⟩
       case measure=>simp [intOf];omega
      ·have cx:=(bs.out.yes rfl).1;obtain ⟨n3,hn3⟩:∃ n3,(if c<nx then c else nx)=n3:=⟨_,rfl⟩;have mn3:min nx c=n3:=by rw [← hn3];omega
       have n3f:(c<nx∧n3=c)∨(nx≤c∧n3=nx):=by rw [← hn3];split <;> omega
       have SN:Hid (∀ y,lo≤y→y<n3→inB l y=hsP P A y):=fun z h1 h2=>by
        by_cases e:x≤z
        ·exact fi_step EQ.out (fun q hq=>by have:=ES.out q hq;exact ⟨fun h=>by have:=this.1 h;omega,fun h=>by have:=this.2 h;omega⟩) bs.out (fun _=>by omega) e h2
        ·exact SX.out z (by omega) (by omega)
       go_wp2
       go_roundw
       case rel=>exact ⟨n3,by omega,by omega,by first | rfl | go_num,SN,A5⟩
       case measure=>simp [intOf];omega
  ·have ky:decide (x<hi)=false:=zdf y;obtain rfl:x=hi:=by omega
   have A9:=zh (down A1.out AM.out);have RS:Hid (FiR (inB l) (hsP P A) lo x false 0):=⟨fun h=>(by cases h),fun _=>SX.out⟩;go_wp2
   go_ret2
   exact ⟨⟨0,.inl ⟨rfl,RS.out,fun _=>rfl⟩⟩,A9.out⟩
noncomputable def faT (l:List Sp):TS × Int:=if (ruOf l).2≠0 then (tsZ,(ruOf l).2) else frT 1 [] 1 [] (inB (ruOf l).1)
theorem hs_none (x:Int):hsP 1 [] x=false:=rfl
theorem pv_none:PV 1 []:=⟨Int.le_refl 1,by decide,rfl,fun q h=>(by cases h),⟨by decide,Int.dvd_refl 1,fun x=>rfl,fun e h _ _=>by omega⟩⟩
def fiL (k:List Sp):Int:=(k.getD 0 (0,0)).1
def laL (k:List Sp):Int:=(k.getD (k.length - 1) (0,0)).2
theorem fa_giv {k:List Sp} (v:vaB k=true):Giv 1 [] 1 [] (fiL k) (laL k) k∧gvF 1 [] 1 [] (fiL k) (laL k) k=inB k:=by
 have cn:=(vaB_iff.1 v).2.2;have ln:=(vaB_iff.1 v).2.1
 by_cases e:k.length=0
 ·have:k=[]:=List.eq_nil_of_length_eq_zero e;subst this;refine ⟨⟨pv_none,pv_none,Int.le_refl 0,by decide,by decide,rfl,fun s h=>by cases h⟩,funext fun x=>?_⟩
  show pcS _ _ _ 0 0 x=_
  unfold pcS
  split
  ·rfl
  ·first | rfl | (rw [if_neg (by omega)];rfl)
 ·have m0:k.getD 0 (0,0)∈k:=getD_mem (by omega);have m1:k.getD (k.length - 1) (0,0)∈k:=getD_mem (by omega);have l0:=ln _ m0;have l1:=ln _ m1;have lt:=cn.lt _ m0;have lu:=cn.lt _ m1;have lo:=(cn_lo cn (Nat.zero_le (k.length - 1)) (by omega)).2;have le:fiL k≤laL k:=by unfold fiL laL;omega
  have g:Giv 1 [] 1 [] (fiL k) (laL k) k:=giv_iff.1 ⟨le,nvB_iff.2 (by unfold fiL;omega),nvB_iff.2 (by unfold laL;omega),pv_iff.2 pv_none,pv_iff.2 pv_none,v,Or.inr ⟨Int.le_refl _,Int.le_refl _⟩⟩;have low:=g.low;refine ⟨g,funext fun x=>?_⟩
  ·have out:∀ y,inB k y=true→fiL k≤y∧y<laL k:=fun y h=>by
    obtain ⟨p,hp,a,b⟩:=inB_iff.1 h;have:=low p hp;omega
   show pcS _ _ _ (fiL k) (laL k) x=_
   unfold pcS
   by_cases a:x<fiL k
   ·rw [if_pos a,hs_none]
    cases q:inB k x
    ·rfl
    ·have:=out x q;omega
   ·rw [if_neg a]
    by_cases b:x<laL k
    ·rw [if_pos b]
    ·rw [if_neg b,hs_none]
     cases q:inB k x
     ·rfl
     ·have:=out x q;omega
theorem fa_form {k:List Sp} (v:vaB k=true):frT 1 [] 1 [] (inB k)=(⟨1,[],1,[],fiL k,laL k,k⟩,0):=by
 have cn:=(vaB_iff.1 v).2.2;have ln:=(vaB_iff.1 v).2.1;obtain ⟨g,ge⟩:=fa_giv v
 by_cases e:k.length=0
 ·have:k=[]:=List.eq_nil_of_length_eq_zero e;subst this;exact fr_pure (funext fun x=>rfl)
 ·have m0:k.getD 0 (0,0)∈k:=getD_mem (by omega);have m1:k.getD (k.length - 1) (0,0)∈k:=getD_mem (by omega);have t0:=cn.lt _ m0;have t1:=cn.lt _ m1;have ea:EdA (inB k) (hsP 1 []) (fiL k):=by
   refine ⟨fun x hx=>by rw [← ge];exact gv_low hx,?_⟩;rw [hs_none,show inB k (fiL k)=true from inB_iff.2 ⟨_,m0,Int.le_refl _,t0⟩];decide
  have eb:EdB (inB k) (hsP 1 []) (laL k):=by
   refine ⟨fun x hx=>by rw [← ge];exact gv_high g.le hx,?_⟩;rw [hs_none,show inB k (laL k - 1)=true from inB_iff.2 ⟨_,m1,by show _≤(k.getD (k.length - 1) (0,0)).2 - 1;omega,by show (k.getD (k.length - 1) (0,0)).2 - 1<_;omega⟩];decide
  have lt:fiL k<laL k:=by have:=(g.low _ m0).2;show (k.getD 0 (0,0)).1<_;omega
  have ep:pqE 1 [] 1 []=0:=by unfold pqE;rw [if_pos ⟨rfl,rfl⟩]
  have f:=fr_ends g ep (by rw [ge];exact ea) (by rw [ge];exact eb) (fun _=>⟨Int.le_refl _,Int.le_refl _⟩);rw [ge] at f;have n0:=nvB_iff.2 ⟨g.lo0,by have:=g.hi0;omega⟩;have n1:=nvB_iff.2 ⟨by have:=g.lo0;omega,g.hi0⟩;have le:fiL k≤laL k:=by omega
  rw [f,if_pos le,if_pos le,n0,n1,if_pos (by rfl)];have:clL k (fiL k) (laL k)=k:=by
   rw [cl_ca cn];refine (ca_eq cn fun x=>?_).symm
   cases q:inB k x
   ·rw [Bool.and_false]
   ·obtain ⟨p,hp,a,b⟩:=inB_iff.1 q;have:=g.low p hp;rw [zdt (show fiL k≤x by omega),zdt (show x<laL k by omega)];rfl
  rw [this]
theorem fa_eq {l:List Sp} (e:(ruOf l).2=0):faT l=(⟨1,[],1,[],fiL (ruOf l).1,laL (ruOf l).1,(ruOf l).1⟩,0):=by
 unfold faT
 rw [if_neg (by rw [e];exact fun c=>c rfl),fa_form (of_ok e).2.1]
theorem fa_vs {l:List Sp} (e:(faT l).2=0):VS (faT l).1∧hsT (faT l).1=inB l:=by
 have e':(ruOf l).2=0:=by
  unfold faT at e
  by_cases z:(ruOf l).2=0
  ·exact z
  ·rw [if_pos z] at e;exact e
 obtain ⟨-,v,m⟩:=of_ok e';obtain ⟨g,ge⟩:=fa_giv v;have k:=fa_form v;have h:faT l=frT 1 [] 1 [] (gvF 1 [] 1 [] (fiL (ruOf l).1) (laL (ruOf l).1) (ruOf l).1):=by rw [ge];unfold faT;rw [if_neg (by rw [e'];exact fun c=>c rfl)]
 obtain ⟨a,b⟩:=fr_vs g (by rw [← h];exact e);rw [h];exact ⟨a,by rw [b,ge];exact funext m⟩
theorem of_va {l:List Sp} (v:vaB l=true):ruOf l=(l,0):=by
 have e:cbL 1 l []=l:=by
  obtain ⟨c,m,-,-⟩:=cb_spec 1 l [];refine cn_ext c (vaB_iff.1 v).2.2 fun x=>?_;rw [m];show (inB l x || inB [] x)=_;rw [inB_nil,Bool.or_false]
 unfold ruOf
 rw [if_pos (va_sps v),e]
 unfold ruFull
 rw [if_neg (by have:=(vaB_iff.1 v).1;omega)]
theorem fa_va {l:List Sp} (v:vaB l=true):(faT l).2=0:=by rw [fa_eq (by rw [of_va v])]
theorem va_one {p:Sp} (h:spB p=true):vaB [p]=true:=by
 have:=spB_iff.1 h;refine vaB_iff.2 ⟨by simp,fun q hq=>?_,this.2.2,fun q hq=>(by cases hq),trivial⟩;rw [List.mem_singleton] at hq;subst hq;exact ⟨this.1,this.2.1⟩
noncomputable def rcT (s:TS) (a b:Int) (l:List Sp):TS × Int :=
 if (spB (a,b)&&ilB l a b)=false then (tsZ,1)
 else if (cbT 3 s (faT [(a,b)]).1).2≠0 then (tsZ,(cbT 3 s (faT [(a,b)]).1).2)
 else cbT 1 (cbT 3 s (faT [(a,b)]).1).1 (faT l).1
theorem il_va {l:List Sp} {a b:Int} (h:ilB l a b=true):vaB l=true∧∀ q,q∈l→a≤q.1∧q.2≤b:=by
 have g:=giv_il (P:=1) (A:=[]) (Q:=1) (B:=[]) (lo:=a) (hi:=b) (l:=l);have:=g.2 ⟨paE_1.2 ⟨pv_none,pv_none⟩,h⟩;exact ⟨this.va,this.low⟩
theorem rc_vs {s:TS} {a b:Int} {l:List Sp} (h:(rcT s a b l).2=0):spB (a,b)=true∧ilB l a b=true∧VS s∧VS (rcT s a b l).1∧∀ x,hsT (rcT s a b l).1 x=if a≤x∧x<b then inB l x else hsT s x:=by
 unfold rcT at h ⊢
 by_cases v:(spB (a,b)&&ilB l a b)=true
 rotate_left
 ·rw [if_pos (by simpa using v)] at h;cases h
 rw [if_neg (by rw [v];simp)] at h ⊢;obtain ⟨v1,v2⟩:=Bool.and_eq_true_iff.1 v
 by_cases z:(cbT 3 s (faT [(a,b)]).1).2=0
 rotate_left
 ·rw [if_pos z] at h;exact absurd h z
 rw [if_neg (by rw [z];exact fun c=>c rfl)] at h ⊢;obtain ⟨s1,f1,r1,m1⟩:=cb_vs (by decide) (by decide) z;obtain ⟨r2,f2,t1,m2⟩:=cb_vs (by decide) (by decide) h;refine ⟨v1,v2,s1,t1,fun x=>?_⟩;have k1:=(fa_vs (fa_va (va_one v1))).2;have k2:=(fa_vs (fa_va (il_va v2).1)).2;rw [m2,m1,k1,k2]
 show ((hsT s x&&!inB [(a,b)] x) || inB l x)=_
 rw [inB_cons,inB_nil,Bool.or_false]
 by_cases c:a≤x∧x<b
 ·rw [if_pos c,zdt c.1,zdt c.2];simp
 ·rw [if_neg c];have o:inB l x=false:=by
   cases q:inB l x
   ·rfl
   ·obtain ⟨p,hp,i,j⟩:=inB_iff.1 q;have:=(il_va v2).2 p hp;exact absurd ⟨by omega,by omega⟩ c
  rw [o];have:(decide (a≤x)&&decide (x<b))=false:=by
   rw [← Bool.not_eq_true,Bool.and_eq_true,decide_eq_true_iff,decide_eq_true_iff];exact c
  show ((hsT s x&&!(decide (a≤x)&&decide (x<b))) || false)=_
  rw [this];simp
theorem fr_zt (P:Int) (A:List Sp) (Q:Int) (B:List Sp) (f:Int→Bool):(frT P A Q B f).2=0∨(frT P A Q B f).1=tsZ:=by
 unfold frT
 split
 ·exact Or.inr rfl
 ·split
  ·exact Or.inl rfl
  ·split
   ·exact Or.inl rfl
   ·exact Or.inr rfl
theorem cb_zt (k:Int) (s t:TS):(cbT k s t).2=0∨(cbT k s t).1=tsZ:=by
 unfold cbT
 (repeat' split) <;> first | exact Or.inr rfl | exact fr_zt _ _ _ _ _
theorem to_zt (P:Int) (A:List Sp) (Q:Int) (B:List Sp) (lo hi:Int) (l:List Sp):(toR P A Q B lo hi l).2=0∨(toR P A Q B lo hi l).1=tsZ:=by
 unfold toR
 split
 ·exact fr_zt _ _ _ _ _
 ·exact Or.inr rfl
theorem fa_zt (l:List Sp):(faT l).2=0∨(faT l).1=tsZ:=by
 unfold faT
 split
 ·exact Or.inr rfl
 ·exact fr_zt _ _ _ _ _
theorem rc_zt (s:TS) (a b:Int) (l:List Sp):(rcT s a b l).2=0∨(rcT s a b l).1=tsZ:=by
 unfold rcT
 (repeat' split) <;> first | exact Or.inr rfl | exact cb_zt _ _ _
theorem ti_z:TsI tsZ:=⟨⟨by decide,by decide⟩,⟨by decide,by decide⟩,⟨by decide,by decide⟩,⟨by decide,by decide⟩,Nat.zero_le _,Nat.zero_le _,Nat.zero_le _⟩
theorem ti_res {R:TS × Int} (z:R.2=0∨R.1=tsZ) (v:R.2=0→VS R.1):TsI R.1:=by
 rcases z with z | z
 ·exact (v z).ti
 ·rw [z];exact ti_z
theorem cb_ti {k:Int} (k1:1≤k) (k3:k≤3) (s t:TS):TsI (cbT k s t).1:=ti_res (cb_zt k s t) fun h=>(cb_vs k1 k3 h).2.2.1
theorem to_ti (P:Int) (A:List Sp) (Q:Int) (B:List Sp) (lo hi:Int) (l:List Sp):TsI (toR P A Q B lo hi l).1:=ti_res (to_zt _ _ _ _ _ _ _) fun h=>(to_vs h).2.1
theorem fa_ti (l:List Sp):TsI (faT l).1:=ti_res (fa_zt l) fun h=>(fa_vs h).1
theorem rc_ti (s:TS) (a b:Int) (l:List Sp):TsI (rcT s a b l).1:=ti_res (rc_zt s a b l) fun h=>(rc_vs h).2.2.2.1
theorem eq_res {s t:TS} (h:VS s) (k:VS t) (e:∀ x,hsT s x=hsT t x):(vsB s&&smT s t)=true:=by
 rw [vs_ok.2 h,sm_iff.2 (vs_ext h k (funext e))];rfl
theorem lw_of {s:TS} (h:VS s) {lo hi:Int} (a:lo≤s.a) (b:s.b≤hi) (l0:-4398046511104≤lo) (l1:hi≤4398046511104) (few:(caL (hsT s) lo hi).length≤2000):toR s.P s.A s.Q s.B lo hi (caL (hsT s) lo hi)=(s,0):=by
 have le:=h.g.le;have g:Giv s.P s.A s.Q s.B lo hi (caL (hsT s) lo hi):=⟨h.g.p,h.g.q,by omega,l0,l1,vaB_iff.2 ⟨few,fun q hq=>by have:=ca_ends _ _ _ q hq;omega,ca_cn _ _ _⟩,ca_ends _ _ _⟩;have e:gvF s.P s.A s.Q s.B lo hi (caL (hsT s) lo hi)=hsT s:=pc_congr (m':=fun _=>false) (fun x hx=>hs_low (by omega)) (fun x u v=>by rw [ca_in,zdt u,zdt v];rfl) (fun x hx=>hs_high le (by omega)) (by omega)
 unfold toR
 rw [if_pos (giv_iff.2 g),e,h.fr]
theorem lw_back {s:TS} {lo hi:Int} (h1:(rcT s lo hi []).2=0) (h2:(rcT (rcT s lo hi []).1 lo hi (caL (hsT s) lo hi)).2=0):(vsB (rcT (rcT s lo hi []).1 lo hi (caL (hsT s) lo hi)).1&&smT (rcT (rcT s lo hi []).1 lo hi (caL (hsT s) lo hi)).1 s)=true:=by
 obtain ⟨-,-,v0,-,m1⟩:=rc_vs h1;obtain ⟨-,-,-,v2,m2⟩:=rc_vs h2;refine eq_res v2 v0 fun x=>?_;rw [m2]
 by_cases c:lo≤x∧x<hi
 ·rw [if_pos c,ca_in,zdt c.1,zdt c.2];rfl
 ·rw [if_neg c,m1,if_neg c]
abbrev puT (P:Int) (A:List Sp):TS:=⟨P,A,P,A,0,0,[]⟩
theorem pu_vs {P:Int} {A:List Sp} (p:PV P A):VS (puT P A)∧hsT (puT P A)=hsP P A:=by
 have e:hsT (puT P A)=hsP P A:=funext fun x=>(pu_has (s:=puT P A) (pu_iff.2 ⟨rfl,rfl,rfl,rfl⟩) x).1;refine ⟨⟨⟨p,p,Int.le_refl 0,by show (-4398046511104:Int)≤0;decide,by show (0:Int)≤4398046511104;decide,rfl,fun s h=>by cases h⟩,?_⟩,e⟩;rw [e];exact fr_pure rfl
end Go.Proofs.YtmamlgaogpkagaaGreat
