/- TvF TvG. -/
import Derived.Test.YtmamlgaogpkagaaGreatZLPlain
import Derived.Test.YtmamlgaogpkagaaGreatZLGen
import Derived.Test.YtmamlgaogpkagaaGreatZLSl
import Derived.Test.YtmamlgaogpkagaaGreatZLOwn
import Derived.Test.YtmamlgaogpkagaaGreatZRnP
import Derived.Test.YtmamlgaogpkagaaGreatZPeR
import Derived.Test.YtmamlgaogpkagaaGreatZPeA
import Derived.Test.YtmamlgaogpkagaaGreatZRnT
import Derived.Test.YtmamlgaogpkagaaGreatZRnV
import Derived.Test.YtmamlgaogpkagaaGreatZPeKK
import Derived.Test.YtmamlgaogpkagaaGreatZTsR
import Derived.Test.YtmamlgaogpkagaaGreatZTsG
import Derived.Test.YtmamlgaogpkagaaGreatZTsE
import Derived.Test.YtmamlgaogpkagaaGreatZTsH
import Derived.Test.YtmamlgaogpkagaaGreatZTsA
import Derived.Test.YtmamlgaogpkagaaGreatZTvB
import Derived.Test.YtmamlgaogpkagaaGreatZTvE
import Derived.StillTailTactics
import Derived.BigQuiet
import Derived.Deep.QuietTactic
import Derived.Laws.EntriesVeiled
namespace Go.Proofs.YtmamlgaogpkagaaGreat
open Go.RowKit
set_option linter.unusedVariables false
set_option linter.unusedSimpArgs false
set_option maxRecDepth 100000 in
set_option maxHeartbeats 4000000 in
theorem tvislist (vl:Value) (l:List Sp) (hl:l.length≤maxLen) (lo hi:Int) (h1:I64 lo) (h2:I64 hi) {bl:Nat} (w:World) (pl:PairS bl w vl l) :
  Calls Tryz.prog 62 #[vl,.int .i64 lo,.int .i64 hi] w fun e w'=>e=.returned (.bool (ilB l lo hi))∧Below w.heap.size w w':=by
 obtain ⟨ol,cl,rfl⟩:=prs_shape pl;have ab:=zh (here w);have aa:=zh pl;clear pl;have L1:=zh (fun W=>tvline lo W);have L2:=zh (fun W=>tvline hi W);have V3:=zh (fun W (h:PairS bl W (.slice ol l.length cl) l)=>ruvalid _ l hl W h)
 unfold ilB
 generalize nvB lo=n1 at *;generalize nvB hi=n2 at *;generalize vaB l=v1 at *;have mx:l.length≤9223372036854775807:=hl;clear hl
 cases n1
 ·rw [Bool.false_and,Bool.false_and,Bool.false_and,Bool.false_and];clear L2 V3
  go_enter Tryz.func62,Tryz.ntmps62
  go_wp2_with fail
  refine (L1.out _).mono ?_;rintro e w' ⟨rfl,rfl⟩;go_wp2
  go_ret
  exact ⟨rfl,ab.out⟩
 ·rw [Bool.true_and]
  cases n2
  ·rw [Bool.false_and,Bool.false_and,Bool.false_and];clear V3
   go_enter Tryz.func62,Tryz.ntmps62
   go_wp2_with fail
   refine (L1.out _).mono ?_;rintro e w' ⟨rfl,rfl⟩;go_wp2_with fail
   refine (L2.out _).mono ?_;rintro e w' ⟨rfl,rfl⟩;go_wp2
   go_ret
   exact ⟨rfl,ab.out⟩
  ·rw [Bool.true_and]
   cases kc:decide (lo≤hi)
   ·rw [Bool.false_and,Bool.false_and];clear V3
    go_enter Tryz.func62,Tryz.ntmps62
    go_wp2_with fail
    refine (L1.out _).mono ?_;rintro e w' ⟨rfl,rfl⟩;go_wp2_with fail
    refine (L2.out _).mono ?_;rintro e w' ⟨rfl,rfl⟩;go_wp2
    go_ret
    exact ⟨rfl,ab.out⟩
   ·rw [Bool.true_and]
    cases v1
    ·rw [Bool.false_and]
     go_enter Tryz.func62,Tryz.ntmps62
     go_wp2_with fail
     refine (L1.out _).mono ?_;rintro e w' ⟨rfl,rfl⟩;go_wp2_with fail
     refine (L2.out _).mono ?_;rintro e w' ⟨rfl,rfl⟩;go_wp2_with fail
     refine (V3.out _ aa.out).mono ?_;rintro e w1 ⟨rfl,hb⟩;have ac:=zd ab hb;have ad:=zh (aa.out.keep hb);clear hb ab aa;go_wp2
     go_ret
     exact ⟨rfl,ac.out⟩
    ·rw [Bool.true_and]
     by_cases z:l.length=0
     ·have kz:((l.length:Int)==0)=true:=by rw [beq_iff_eq];omega
      rw [zdt z,Bool.true_or];clear z
      go_enter Tryz.func62,Tryz.ntmps62
      go_wp2_with fail
      refine (L1.out _).mono ?_;rintro e w' ⟨rfl,rfl⟩;go_wp2_with fail
      refine (L2.out _).mono ?_;rintro e w' ⟨rfl,rfl⟩;go_wp2_with fail
      refine (V3.out _ aa.out).mono ?_;rintro e w1 ⟨rfl,hb⟩;have ac:=zd ab hb;have ad:=zh (aa.out.keep hb);clear hb ab aa;go_wp2
      go_ret
      exact ⟨rfl,ac.out⟩
     ·have kz:((l.length:Int)==0)=false:=by rw [beq_eq_false_iff_ne];omega
      rw [zdf z,Bool.false_or];obtain ⟨f0,hf0⟩:∃ f0,(l.getD 0 (0,0)).1=f0:=⟨_,rfl⟩;obtain ⟨g1,hg1⟩:∃ g1,(l.getD (l.length - 1) (0,0)).2=g1:=⟨_,rfl⟩;rw [hf0,hg1];replace hf0:=zh hf0;replace hg1:=zh hg1
      cases t1:decide (lo≤f0)
      ·rw [Bool.false_and]
       go_enter Tryz.func62,Tryz.ntmps62
       go_wp2_with fail
       refine (L1.out _).mono ?_;rintro e w' ⟨rfl,rfl⟩;go_wp2_with fail
       refine (L2.out _).mono ?_;rintro e w' ⟨rfl,rfl⟩;go_wp2_with fail
       refine (V3.out _ aa.out).mono ?_;rintro e w1 ⟨rfl,hb⟩;have ac:=zd ab hb;have ad:=zh (aa.out.keep hb);clear hb ab aa;obtain ⟨b0,off,rfl,bl',cs⟩:=prs_here ad.out (show 0<l.length by omega);obtain ⟨c0,c1⟩:=cs 0 (by omega);obtain ⟨e0,e1⟩:=cs (l.length - 1) (by omega);clear cs;obtain ⟨m,hm⟩:∃ m,l.length - 1=m:=⟨_,rfl⟩;rw [hg1.out] at e1;have hm2:(l.length:Int) - 1=m:=by omega
       rw [hm] at e0 e1;rw [Nat.zero_mul,Nat.add_zero,hf0.out] at c0;have mb:m<l.length:=by omega
       clear hm;go_wp2
       go_ret
       exact ⟨rfl,ac.out⟩
      ·rw [Bool.true_and]
       cases t2:decide (g1≤hi)
       ·skip
        go_enter Tryz.func62,Tryz.ntmps62
        go_wp2_with fail
        refine (L1.out _).mono ?_;rintro e w' ⟨rfl,rfl⟩;go_wp2_with fail
        refine (L2.out _).mono ?_;rintro e w' ⟨rfl,rfl⟩;go_wp2_with fail
        refine (V3.out _ aa.out).mono ?_;rintro e w1 ⟨rfl,hb⟩;have ac:=zd ab hb;have ad:=zh (aa.out.keep hb);clear hb ab aa;obtain ⟨b0,off,rfl,bl',cs⟩:=prs_here ad.out (show 0<l.length by omega);obtain ⟨c0,c1⟩:=cs 0 (by omega);obtain ⟨e0,e1⟩:=cs (l.length - 1) (by omega);clear cs;obtain ⟨m,hm⟩:∃ m,l.length - 1=m:=⟨_,rfl⟩;rw [hg1.out] at e1;have hm2:(l.length:Int) - 1=m:=by omega
        rw [hm] at e0 e1;rw [Nat.zero_mul,Nat.add_zero,hf0.out] at c0;have mb:m<l.length:=by omega
        clear hm;go_wp2
        go_ret
        exact ⟨rfl,ac.out⟩
       ·skip
        go_enter Tryz.func62,Tryz.ntmps62
        go_wp2_with fail
        refine (L1.out _).mono ?_;rintro e w' ⟨rfl,rfl⟩;go_wp2_with fail
        refine (L2.out _).mono ?_;rintro e w' ⟨rfl,rfl⟩;go_wp2_with fail
        refine (V3.out _ aa.out).mono ?_;rintro e w1 ⟨rfl,hb⟩;have ac:=zd ab hb;have ad:=zh (aa.out.keep hb);clear hb ab aa;obtain ⟨b0,off,rfl,bl',cs⟩:=prs_here ad.out (show 0<l.length by omega);obtain ⟨c0,c1⟩:=cs 0 (by omega);obtain ⟨e0,e1⟩:=cs (l.length - 1) (by omega);clear cs;obtain ⟨m,hm⟩:∃ m,l.length - 1=m:=⟨_,rfl⟩;rw [hg1.out] at e1;have hm2:(l.length:Int) - 1=m:=by omega
        rw [hm] at e0 e1;rw [Nat.zero_mul,Nat.add_zero,hf0.out] at c0;have mb:m<l.length:=by omega
        clear hm;go_wp2
        go_ret
        exact ⟨rfl,ac.out⟩
set_option maxRecDepth 100000 in
set_option maxHeartbeats 2000000 in
theorem tvispure (s:TS) (va vb vl:Value) (hA:s.A.length≤1099511627776) (ha:I64 s.a) (hb:I64 s.b) (w:World) (h:SS3 w s va vb vl) :
  Calls Tryz.prog 66 #[.agg #[.int .i64 s.P,va,.int .i64 s.Q,vb,.int .i64 s.a,.int .i64 s.b,vl]] w fun e w'=>e=.returned (.bool (decide (s.a=s.b∧smP s)))∧Below w.heap.size w w':=by
 obtain ⟨osa,csa,rfl⟩:=prs_shape h.a;obtain ⟨osb,csb,rfl⟩:=prs_shape h.b;obtain ⟨osl,csl,rfl⟩:=prs_shape h.l;have ai:=zh (grow (here w) (.cells #[.int .i64 s.P,.slice osa s.A.length csa,.int .i64 s.Q,.slice osb s.B.length csb,.int .i64 s.a,.int .i64 s.b,.slice osl s.L.length csl] 26));have T_0:=zh (Bxs.new (w:=w) [.int .i64 s.P,.slice osa s.A.length csa,.int .i64 s.Q,.slice osb s.B.length csb,.int .i64 s.a,.int .i64 s.b,.slice osl s.L.length csl] 26);have S_0:=zh (h.keep ai.out);have EQ:=zh (fun W (h:PairS 0 W (.slice osa s.A.length csa) s.A) (k:PairS 0 W (.slice osb s.B.length csb) s.B)=>tvsame s.P s.Q _ _ s.A s.B hA W h k);have e:decide (s.a=s.b∧smP s)=(decide (s.a=s.b)&&decide (s.P=s.Q∧s.A=s.B)):=by
  rw [Bool.eq_iff_iff];simp only [Bool.and_eq_true,decide_eq_true_eq];exact Iff.rfl
 rw [e];clear e h hA;generalize decide (s.P=s.Q∧s.A=s.B)=E at *
 by_cases c:s.a=s.b
 ·have k:(s.a==s.b)=true:=beq_iff_eq.2 c;rw [zdt c,Bool.true_and];clear c
  go_enter Tryz.func66,Tryz.ntmps66
  refine T_0.out.k7 fun aa ab ac ad ae af ag ah=>?_;go_wp2_with fail
  clear aa ab ac ad ae af ag ah;generalize (w.alloc (.cells #[.int .i64 s.P,.slice osa s.A.length csa,.int .i64 s.Q,.slice osb s.B.length csb,.int .i64 s.a,.int .i64 s.b,.slice osl s.L.length csl] 26))=w0 at *;refine (EQ.out _ S_0.out.a S_0.out.b).mono ?_;rintro e w1 ⟨rfl,hb⟩;have aj:=zd ai hb;have T_1:=zh (T_0.out.keep hb);have S_1:=zh (S_0.out.keep hb);clear hb ai T_0 S_0;refine T_1.out.k7 fun aa ab ac ad ae af ag ah=>?_;go_wp2
  go_ret
  exact ⟨rfl,aj.out⟩
 ·have k:(s.a==s.b)=false:=by rw [beq_eq_false_iff_ne];exact c
  rw [zdf c,Bool.false_and];clear c
  go_enter Tryz.func66,Tryz.ntmps66
  refine T_0.out.k7 fun aa ab ac ad ae af ag ah=>?_;go_wp2
  go_ret
  exact ⟨rfl,ai.out⟩
set_option maxRecDepth 100000 in
set_option maxHeartbeats 2000000 in
theorem tvdiffer (s:TS) (gw:GW s) (va vb vl vp:Value) (P:Int) (A:List Sp) (pw:PW P A) (x:Int) (hx:I64 x) (w:World) (h:SS3 w s va vb vl) {bp:Nat} (a:PairS bp w vp A) :
  Calls Tryz.prog 67 #[.agg #[.int .i64 s.P,va,.int .i64 s.Q,vb,.int .i64 s.a,.int .i64 s.b,vl],.agg #[.int .i64 P,vp],.int .i64 x] w fun e w'=>e=.returned (.bool (hsT s x != hsP P A x))∧Below w.heap.size w w':=by
 obtain ⟨osa,csa,rfl⟩:=prs_shape h.a;obtain ⟨osb,csb,rfl⟩:=prs_shape h.b;obtain ⟨osl,csl,rfl⟩:=prs_shape h.l;obtain ⟨oA,cA,rfl⟩:=prs_shape a;have al:=zh (grow (grow (here w) (.cells #[.int .i64 s.P,.slice osa s.A.length csa,.int .i64 s.Q,.slice osb s.B.length csb,.int .i64 s.a,.int .i64 s.b,.slice osl s.L.length csl] 26)) (.cells #[.int .i64 P,.slice oA A.length cA] 24));have T_0:=zh ((Bxs.new (w:=w) [.int .i64 s.P,.slice osa s.A.length csa,.int .i64 s.Q,.slice osb s.B.length csb,.int .i64 s.a,.int .i64 s.b,.slice osl s.L.length csl] 26).old (.cells #[.int .i64 P,.slice oA A.length cA] 24));have U_0:=zh (Bxs.snd (w:=w) (o:=(.cells #[.int .i64 s.P,.slice osa s.A.length csa,.int .i64 s.Q,.slice osb s.B.length csb,.int .i64 s.a,.int .i64 s.b,.slice osl s.L.length csl] 26)) [.int .i64 P,.slice oA A.length cA] 24);have S_0:=zh (h.keep al.out);have an:=zh (a.keep al.out);have VS:=zh (fun W (h:SS3 W s (.slice osa s.A.length csa) (.slice osb s.B.length csb) (.slice osl s.L.length csl))=>tvset s gw _ _ _ W h);have VP:=zh (fun W (h:PairS bp W (.slice oA A.length cA) A)=>tvper P A pw _ W W h (here W) (fun _=>False) (fun _ c=>c.elim));clear h a;generalize hsT s=f1 at *;generalize hsP P A=f2 at *
 go_enter Tryz.func67,Tryz.ntmps67
 refine T_0.out.k7 fun aa ab ac ad ae af ag ah=>?_;refine U_0.out.k2 fun ai aj ak=>?_;go_wp2_with fail
 clear aa ab ac ad ae af ag ai aj ah ak;generalize ((w.alloc (.cells #[.int .i64 s.P,.slice osa s.A.length csa,.int .i64 s.Q,.slice osb s.B.length csb,.int .i64 s.a,.int .i64 s.b,.slice osl s.L.length csl] 26)).alloc (.cells #[.int .i64 P,.slice oA A.length cA] 24))=w0 at *;refine (VS.out _ S_0.out).mono ?_;rintro e w1 ⟨⟨v,rfl,V⟩,hb⟩;have ao:=zd al hb;have T_1:=zh (T_0.out.keep hb);have U_1:=zh (U_0.out.keep hb);have S_1:=zh (S_0.out.keep hb);have ap:=zh (an.out.keep hb);clear hb al T_0 U_0 S_0 an;obtain ⟨g,caps,rfl,eg,hg⟩:=V;have HG:=zh (hg w1 (Far.of (here w1)) x hx);clear hg;refine T_1.out.k7 fun aa ab ac ad ae af ag ah=>?_;refine U_1.out.k2 fun ai aj ak=>?_;go_wp2_with fail
 clear aa ab ac ad ae af ag ai aj ah ak
 go_at_fn g
 refine HG.out.mono ?_;rintro e w2 ⟨⟨n1,rfl,-⟩,hb⟩;clear HG eg;have aq:=zd ao hb;have T_2:=zh (T_1.out.keep hb);have U_2:=zh (U_1.out.keep hb);have S_2:=zh (S_1.out.keep hb);have am:=zh (ap.out.keep hb);clear hb ao T_1 U_1 S_1 ap;refine T_2.out.k7 fun aa ab ac ad ae af ag ah=>?_;refine U_2.out.k2 fun ai aj ak=>?_;go_wp2_with fail
 clear aa ab ac ad ae af ag ai aj ah ak;refine (VP.out _ (am.out)).mono ?_;rintro e w3 ⟨⟨v,rfl,V⟩,hb⟩;have ar:=zd aq hb;have T_3:=zh (T_2.out.keep hb);have U_3:=zh (U_2.out.keep hb);have S_3:=zh (S_2.out.keep hb);have au:=zh (am.out.keep hb);clear hb aq T_2 U_2 S_2 am;obtain ⟨g,caps,rfl,eg,hg⟩:=V;have HG:=zh (hg w3 (Far.of (here w3)) x hx);clear hg;refine T_3.out.k7 fun aa ab ac ad ae af ag ah=>?_;refine U_3.out.k2 fun ai aj ak=>?_;go_wp2_with fail
 clear aa ab ac ad ae af ag ai aj ah ak
 go_at_fn g
 refine HG.out.mono ?_;rintro e w4 ⟨⟨n2,rfl,-⟩,hb⟩;clear HG eg;have av:=zd ar hb;have T_4:=zh (T_3.out.keep hb);have U_4:=zh (U_3.out.keep hb);have S_4:=zh (S_3.out.keep hb);have Sp_4:=zh (au.out.keep hb);clear hb ar T_3 U_3 S_3 au;refine T_4.out.k7 fun aa ab ac ad ae af ag ah=>?_;refine U_4.out.k2 fun ai aj ak=>?_;go_wp2
 go_ret
 exact ⟨rfl,av.out⟩
set_option maxRecDepth 100000 in
set_option maxHeartbeats 4000000 in
theorem tvruns (f:Int→Bool) (nx:Int→Int) (lo hi:Int) (lo0:-35184372088832≤lo) (hi1:hi≤35184372088832) (lo1:lo≤35184372088832) (hi2:-35184372088832≤hi) (NX:∀ x,lo≤x→x<hi→NxV f x (nx x)) (v:Value) (w:World) (V:Vw w v f nx) :
  Calls Tryz.prog 79 #[.agg #[.int .i64 lo,.int .i64 hi],v] w fun e w'=>(∃ v' R,e=.returned v'∧PairS w.heap.size w' v' R∧RuW f lo hi R)∧Below w.heap.size w w':=by
 obtain ⟨i0,hi0,hz0,hz1,hz2⟩:=info_parts infoS;obtain ⟨g,caps,rfl,eg,hg⟩:=V;have HG:=zh (fun W (hW:Below w.heap.size w W) x (hx:I64 x)=>hg W (Far.of hW) x hx);have NX':=zh NX;clear hg NX;obtain ⟨w2,hw2⟩:∃ w2:World,(w.alloc (.cells #[.int .i64 lo,.int .i64 hi] 40))=w2:=⟨_,rfl⟩;have B2:Hid (Bxs w2 w.heap.size [.int .i64 lo,.int .i64 hi]):=by show Bxs _ _ _;rw [← hw2];exact Bxs.new (w:=w) [.int .i64 lo,.int .i64 hi] 40
 have A2:Hid (Below w.heap.size w w2):=by show Below _ _ _;rw [← hw2];exact grow (here w) _
 have sz2:w.heap.size≤w2.heap.size:=A2.out.size;have I0:Hid (w2.ownsRow w2.heap.size 40 2 (.slice none 0 0) 0 (pairs (caL f lo lo))):=by show World.ownsRow _ _ _ _ _ _ _;rw [ca_none f (Int.le_refl lo)];exact World.ownsRow_nil _ _ _ _
 have N0:Hid ((caL f lo lo).length=0):=by show _=_;rw [ca_none f (Int.le_refl lo)];rfl
 have L0:Hid (Below w2.heap.size w2 w2):=here w2;refine B2.out.k2 fun b0 b1 bl=>?_
 go_enter Tryz.func79,Tryz.ntmps79
 go_wp2
 go_loopw [5,6] (fun s x wr=>∃ (y:Int) (r:Nat) (s':Value),s'=s∧lo≤y∧(y≤hi∨y=lo)∧r≤2001∧x=.int .i64 y∧Hid ((caL f lo y).length=r)∧Hid (wr.ownsRow w2.heap.size 40 2 s r (pairs (caL f lo y)))∧Hid (Below w2.heap.size w2 wr)) (fun _ x _=>(hi - intOf x).toNat)
 case atStart=>exact ⟨lo,0,_,rfl,Int.le_refl _,Or.inr rfl,by omega,rfl,N0,I0,L0⟩
 case round =>
  obtain ⟨y,r,s',rfl,hy0,hy1,hr,rfl,HR,HO,HL⟩:=hrel;clear I0 L0 N0 b0 b1 bl;have b0:=(B2.out.keep HL.out).c 0 _ rfl;have b1:=(B2.out.keep HL.out).c 1 _ rfl;have bl:=(B2.out.keep HL.out).lt
  by_cases z:y<hi
  ·have kz:decide (y<hi)=true:=zdt z;have yh:y≤hi:=by omega
   clear hy1
   by_cases z2:r≤2000
   ·have k2:decide ((r:Int)≤2000)=true:=zdt (by omega);obtain ⟨n,hn⟩:∃ n,nx y=n:=⟨_,rfl⟩;have NV:=NX'.out y hy0 z;rw [hn] at NV;obtain ⟨m,hm⟩:∃ m,mnI n hi=m:=⟨_,rfl⟩;have mb:y<m∧m≤hi:=by have:=NV.lt;have h1:=mnI_le n hi;have h2:=mnI_or n hi;rw [hm] at h1 h2;omega
    have st:=ru_step (a:=lo) hy0 NV (m:=m) (by rw [← hm];exact (mnI_le n hi).1) mb.1;have ef:(if hi<n then hi else n)=m:=hm;have em:min n hi=m:=by rw [mn_min];exact hm
    replace hm:=zh hm;have HGy:Hid (∀ W,Below w.heap.size w W→∀ x,x=y→I64 x→Calls Tryz.prog g (#[.int .i64 x]++caps) W fun e W'=>(∃ n0,e=.returned (.tuple #[.bool (f y),.int .i64 n0])∧(-1152921504606846976≤y→y≤1152921504606846976→n0=n))∧Below W.heap.size W W'):=fun W hW x e hx=>by
     subst e;refine (HG.out W hW x hx).mono ?_;rintro e W' ⟨⟨n0,h1,h2⟩,h3⟩;exact ⟨⟨n0,h1,fun a b=>by rw [h2 a b,hn]⟩,h3⟩
    clear HG NV hn;replace HGy:=zh (fun W hW=>HGy.out W hW y rfl);obtain ⟨m0,m1⟩:=mb
    unfold ruS at st
    cases i:f y
    ·rw [i,if_pos rfl] at st;rw [i] at HGy;replace st:=zh st;clear i;obtain ⟨ao,cp,rfl⟩:=(Sl.owns HO.out).shape;go_wp2_with fail
     go_at_fn g
     refine (HGy.out _ (A2.out.trans (HL.out.mono sz2)) (by unfold I64;omega)).mono ?_;rintro e w5 ⟨⟨n0,rfl,hn⟩,hb⟩;have en:n0=n:=hn (by omega) (by omega);subst en;have L5:=zh (HL.out.trans (hb.mono HL.out.size));have O5:=zh (owns_below HO.out hb);have B5:=B2.out.keep L5.out;clear hn hb HL HO b0 b1 bl;refine B5.k2 fun b0 b1 bl=>?_;clear B5;clear HGy eg;rw [st.out] at O5 HR;go_wp2
     go_roundw
     case rel=>exact ⟨m,r,_,rfl,by omega,by omega,by omega,rfl,HR,O5,L5⟩
     case measure=>simp [intOf];omega
    ·rw [i,if_neg (by simp)] at st;rw [i] at HGy;clear i;obtain ⟨R,hR⟩:∃ R,caL f lo y=R:=⟨_,rfl⟩;rw [hR] at st HR HO;clear hR
     rcases snoc_cases R with rfl | ⟨R',p,rfl⟩
     ·obtain rfl:r=0:=by simpa using HR.out.symm
      rw [if_neg (by simp)] at st;replace st:=zh st;obtain ⟨ao,cp,rfl⟩:=(Sl.owns HO.out).shape;clear HR;go_wp2_with fail
      go_at_fn g
      refine (HGy.out _ (A2.out.trans (HL.out.mono sz2)) (by unfold I64;omega)).mono ?_;rintro e w5 ⟨⟨n0,rfl,hn⟩,hb⟩;have en:n0=n:=hn (by omega) (by omega);subst en;have L5:=zh (HL.out.trans (hb.mono HL.out.size));have O5:=zh (owns_below HO.out hb);have B5:=B2.out.keep L5.out;clear hn hb HL HO b0 b1 bl;refine B5.k2 fun b0 b1 bl=>?_;clear B5;clear HGy eg;go_wp2_with (at_builtin;refine wpList_append_own _ rfl _ _ 22 rfl w2.heap.size 40 i0 (.agg #[.int .i64 0,.int .i64 0]) 2 16 Tryz.underlying22 hi0 hz0 hz1 hz2 rfl (by decide) (.slice ao 0 cp) 0 (pairs ([])) rfl (O5.out.alloc _) ⟨w5.heap.size,0,none⟩ 1 1 [.int .i64 y,.int .i64 m] rfl rfl ?c1 ?c2 ?c3 ?c4 ?c5 ?_)
      case c1=>intro j u hj;rw [Addr.add_lit,Nat.zero_add,World.cell?_alloc_new];simpa using hj
      case c2=>intro u hu;simp at hu;rcases hu with rfl | rfl <;> rfl
      case c3=>unfold maxLen;omega
      case c4=>omega
      case c5=>have:=L5.out.size;simp;omega
      intro v7 w7 hown hgrow _;have L7:Hid (Below w2.heap.size w2 w7):=(L5.out.alloc L5.out.size _).grown hgrow (by have:=L5.out.size;simp;omega) (own_ge O5.out);have O7:Hid (w7.ownsRow w2.heap.size 40 2 v7 (0+1) (pairs (caL f lo m))):=by show World.ownsRow _ _ _ _ _ _ _;rw [← st.out,pairs_append];exact hown
      have l7:Hid ((caL f lo m).length=0+1):=by show _=_;rw [← st.out,List.length_append];simp
      clear hown hgrow O5 L5 st;go_wp2
      go_roundw
      case rel=>exact ⟨m,0+1,_,rfl,by omega,by omega,by omega,rfl,l7,O7,L7⟩
      case measure=>simp [intOf];omega
     ·have len:(R'++[p]).length=R'.length+1:=by simp
      obtain ⟨k,hk⟩:∃ k,R'.length=k:=⟨_,rfl⟩;have hK:k+1=r:=by rw [← HR.out,len,hk]
      obtain ⟨gb,cp,rfl⟩:∃ gb cp,s'=.slice (some ⟨gb,0,none⟩) r cp:=by
       rcases HO.out.2 with ⟨-,h0⟩ | ⟨gb,cp,cur,e,-⟩
       ·omega
       ·exact ⟨gb,cp,e⟩
      have k1':(r:Int) - 1=k:=by omega
      have k3:decide (0≤(k:Int))=true:=zdt (by omega);have km:((k:Nat):Int)<(r:Int):=by omega
      rw [last_snoc] at st;go_wp2_with fail
      go_at_fn g
      refine (HGy.out _ (A2.out.trans (HL.out.mono sz2)) (by unfold I64;omega)).mono ?_;rintro e w5 ⟨⟨n0,rfl,hn⟩,hb⟩;have en:n0=n:=hn (by omega) (by omega);subst en;have L5:=zh (HL.out.trans (hb.mono HL.out.size));have O5:=zh (owns_below HO.out hb);have B5:=B2.out.keep L5.out;clear hn hb HL HO b0 b1 bl;refine B5.k2 fun b0 b1 bl=>?_;clear B5;clear HGy eg;have gl6:=O5.out.lt gb rfl;have c2':w5.cell? ⟨gb,k * 2+1,none⟩=some (.int .i64 p.2):=by
       have:=(pairs_get (R'++[p]) R'.length (by simp)).2;rw [hk] at this;rw [O5.out.cellAt _ (by omega),Nat.mul_comm,this,← hk];simp
      have f1:=O5.out.frozenAt (k * 2+1)
      by_cases e:p.2=y
      ·have ke:(p.2==y)=true:=beq_iff_eq.2 e;rw [if_pos ⟨by rw [len];omega,e⟩,List.dropLast_concat] at st;replace st:=zh st;have ST:=zh (World.ownsRow.stored (w:=w5) O5.out (k * 2+1) (.int .i64 m));have ps:=pairs_set R' p m;rw [hk] at ps;rw [ps] at ST;clear ps e;have L7:Hid (Below w2.heap.size w2 (w5.setCell ⟨gb,k * 2+1,none⟩ (.int .i64 m))):=L5.out.setCell (p:=⟨gb,k * 2+1,none⟩) gl6.1 _;have O7:Hid ((w5.setCell ⟨gb,k * 2+1,none⟩ (.int .i64 m)).ownsRow w2.heap.size 40 2 (.slice (some ⟨gb,0,none⟩) r cp) r (pairs (caL f lo m))):=by show World.ownsRow _ _ _ _ _ _ _;rw [← st.out];exact ST.out.1
       have l7:Hid ((caL f lo m).length=r):=by show _=_;rw [← st.out,← HR.out,len];simp
       obtain ⟨w7,hw7⟩:∃ w7:World,w5.setCell ⟨gb,k * 2+1,none⟩ (.int .i64 m)=w7:=⟨_,rfl⟩;rw [hw7] at L7 O7;clear ST O5 L5 st HR gl6;go_wp2
       go_roundw
       case rel=>exact ⟨m,r,_,rfl,by omega,by omega,by omega,rfl,l7,O7,L7⟩
       case measure=>simp [intOf];omega
      ·have ke:(p.2==y)=false:=by rw [beq_eq_false_iff_ne];exact e
       rw [if_neg (fun h=>e h.2)] at st;replace st:=zh st;have hr':Hid ((R'++[p]).length=r):=HR;clear e HR;go_wp2_with (at_builtin;refine wpList_append_own _ rfl _ _ 22 rfl w2.heap.size 40 i0 (.agg #[.int .i64 0,.int .i64 0]) 2 16 Tryz.underlying22 hi0 hz0 hz1 hz2 rfl (by decide) (.slice (some ⟨gb,0,none⟩) r cp) r (pairs (R'++[p])) rfl (O5.out.alloc _) ⟨w5.heap.size,0,none⟩ 1 1 [.int .i64 y,.int .i64 m] rfl rfl ?c1 ?c2 ?c3 ?c4 ?c5 ?_)
       case c1=>intro j u hj;rw [Addr.add_lit,Nat.zero_add,World.cell?_alloc_new];simpa using hj
       case c2=>intro u hu;simp at hu;rcases hu with rfl | rfl <;> rfl
       case c3=>unfold maxLen;omega
       case c4=>omega
       case c5=>have:=L5.out.size;simp;omega
       intro v7 w7 hown hgrow _;have L7:Hid (Below w2.heap.size w2 w7):=(L5.out.alloc L5.out.size _).grown hgrow (by have:=L5.out.size;simp;omega) (own_ge O5.out);have O7:Hid (w7.ownsRow w2.heap.size 40 2 v7 (r+1) (pairs (caL f lo m))):=by show World.ownsRow _ _ _ _ _ _ _;rw [← st.out,pairs_append];exact hown
       have l7:Hid ((caL f lo m).length=r+1):=by show _=_;rw [← st.out,List.length_append];simp;have:=hr'.out;simp at this;omega
       clear hown hgrow O5 L5 st;go_wp2
       go_roundw
       case rel=>exact ⟨m,r+1,_,rfl,by omega,by omega,by omega,rfl,l7,O7,L7⟩
       case measure=>simp [intOf];omega
   ·have k2:decide ((r:Int)≤2000)=false:=zdf (by omega);obtain ⟨ao,cp,rfl⟩:=(Sl.owns HO.out).shape;have P5:Hid (PairS w.heap.size wr (.slice ao r cp) (caL f lo y)):=by have h:=Sl.owns (own_weak HO.out sz2);rw [← HR.out] at h ⊢;exact h
    have A5:=zh (A2.out.trans (HL.out.mono sz2));have RW:Hid (RuW f lo hi (caL f lo y)):=by
     have:=len_mono' f (a:=lo) yh;have h2:=HR.out;exact ⟨fun h=>by omega,fun h=>by omega,by omega⟩
    clear HO HL HR eg HG;go_wp2
    go_ret
    first | exact ⟨⟨_,_,rfl,P5.out,RW.out⟩,A5.out⟩ | exact ⟨⟨_,rfl,_,P5.out,RW.out⟩,A5.out⟩
  ·have kz:decide (y<hi)=false:=zdf z;obtain ⟨ao,cp,rfl⟩:=(Sl.owns HO.out).shape;have P5:Hid (PairS w.heap.size wr (.slice ao r cp) (caL f lo y)):=by have h:=Sl.owns (own_weak HO.out sz2);rw [← HR.out] at h ⊢;exact h
   have A5:=zh (A2.out.trans (HL.out.mono sz2));have RW:Hid (RuW f lo hi (caL f lo y)):=by
    have e:caL f lo y=caL f lo hi:=by
     rcases hy1 with h | h
     ·rw [show y=hi by omega]
     ·rw [h,ca_none f (Int.le_refl lo),ca_none f (by omega)]
    have h2:=HR.out;exact ⟨fun _=>e,fun h=>by rw [e] at h;exact h,by omega⟩
   clear HO HL HR eg HG;go_wp2
   go_ret
   first | exact ⟨⟨_,_,rfl,P5.out,RW.out⟩,A5.out⟩ | exact ⟨⟨_,rfl,_,P5.out,RW.out⟩,A5.out⟩
end Go.Proofs.YtmamlgaogpkagaaGreat
