/- TrI. -/
import Derived.Test.YtmamlgaogpkagaaGreatQLPlain
import Derived.Test.YtmamlgaogpkagaaGreatQLGen
import Derived.Test.YtmamlgaogpkagaaGreatQLSl
import Derived.Test.YtmamlgaogpkagaaGreatQRnKF
import Derived.Test.YtmamlgaogpkagaaGreatQPeKD
import Derived.Test.YtmamlgaogpkagaaGreatQPeKJ
import Derived.Test.YtmamlgaogpkagaaGreatQPeHEa
import Derived.Test.YtmamlgaogpkagaaGreatQTsGa
import Derived.Test.YtmamlgaogpkagaaGreatQTsGc
import Derived.Test.YtmamlgaogpkagaaGreatQTsTb
import Derived.Test.YtmamlgaogpkagaaGreatQTvB
import Derived.Test.YtmamlgaogpkagaaGreatQTvI
import Derived.Test.YtmamlgaogpkagaaGreatQTvL
import Derived.WalkKit
import Derived.BigQuiet
import Derived.Deep.QuietTactic
import Derived.Deep.CutRange
import Derived.Deep.RegionHeld3
namespace Go.Proofs.YtmamlgaogpkagaaGreat
open Go.RowKit
set_option linter.unusedVariables false
set_option linter.unusedSimpArgs false
set_option maxRecDepth 100000 in
set_option maxHeartbeats 8000000 in
theorem rtchange (s:TS) (vs:VS s) (va vb vl:Value) (x:Int) (hx:I64 x) (w:World) (h:SS3 w s va vb vl) :
    Calls Tryz.prog 42 #[.agg #[.int .i64 s.P,va,.int .i64 s.Q,vb,.int .i64 s.a,.int .i64 s.b,vl],.int .i64 x] w fun e w'=>(∃ y o,e=.returned (.tuple #[.int .i64 y,.bool o])∧((nvB x=true→NxC (hsT s) x y o)∧(nvB x=false→y=0∧o=false)))∧Below w.heap.size w w':=by
  obtain ⟨osa,csa,rfl⟩:=prs_shape h.a;obtain ⟨osb,csb,rfl⟩:=prs_shape h.b;obtain ⟨osl,csl,rfl⟩:=prs_shape h.l;have AF:=zh (grow (here w) (.cells #[.int .i64 s.P,.slice osa s.A.length csa,.int .i64 s.Q,.slice osb s.B.length csb,.int .i64 s.a,.int .i64 s.b,.slice osl s.L.length csl] 26));have T0:=zh (Bxs.new (w:=w) [.int .i64 s.P,.slice osa s.A.length csa,.int .i64 s.Q,.slice osb s.B.length csb,.int .i64 s.a,.int .i64 s.b,.slice osl s.L.length csl] 26);have S0:=zh (h.keep AF.out);have LN:=zh (fun W=>rtline x W);have g:=vs.g;have le:=g.le;have lo0:=g.lo0;have hi0:=g.hi0;have ln:s.L.length≤2000:=(vaB_iff.1 g.va).1;have LB:Hid (∀ q,q∈s.L→-4398046511104≤q.1∧q.2≤4398046511104∧q.1<q.2):=fun q hq=>⟨((vaB_iff.1 g.va).2.1 q hq).1,((vaB_iff.1 g.va).2.1 q hq).2,(vaB_iff.1 g.va).2.2.lt q hq⟩;have AA:=zh (fun W y x0 x1 (h:PairS 0 W (.slice osa s.A.length csa) s.A)=>rtafter _ s.P s.A g.p y x0 x1 W h);have AB:=zh (fun W y x0 x1 (h:PairS 0 W (.slice osb s.B.length csb) s.B)=>rtafter _ s.Q s.B g.q y x0 x1 W h);have HH:=zh (fun W y hy (h:SS3 W s (.slice osa s.A.length csa) (.slice osb s.B.length csb) (.slice osl s.L.length csl))=>rthas s _ _ _ g.p g.q (le_mx (by omega)) y hy W h);have ST9:Hid (∀ (y n c d:Int) (o p:Bool),AfS (hsP s.P s.A) y o c→(o=true→c<s.a→n≤c)→AfS (hsP s.Q s.B) (if y<s.b then s.b else y) p d→(p=true→n≤d)→(y<s.a→n≤s.a)→(y<s.b→n≤s.b)→(∀ q,q∈s.L→(y<q.1→n≤q.1)∧(y<q.2→n≤q.2))→∀ z,y<z→z<n→¬ Chg (hsT s) z):=fun y n c d o p f1 k1 f2 k2 ka kb ends z z1 z2=>ch_step g f1 k1 f2 k2 ka kb ends z1 z2;have hx':=hx;clear vs g h
  cases nx0:nvB x
  · rw [nx0] at LN;have z0:=T0.out.lt
    go_enter Tryz.func42,Tryz.ntmps42
    go_wp2_with fail
    refine (LN.out _).mono ?_;rintro e w' ⟨rfl,rfl⟩;go_wp2
    go_ret2
    exact ⟨⟨0,false,rfl,fun h=>(by cases h),fun _=>⟨rfl,rfl⟩⟩,AF.out⟩
  rw [nx0] at LN;obtain ⟨xl,xh⟩:=nvB_iff.1 nx0
  suffices H:Calls Tryz.prog 42 #[.agg #[.int .i64 s.P,.slice osa s.A.length csa,.int .i64 s.Q,.slice osb s.B.length csb,.int .i64 s.a,.int .i64 s.b,.slice osl s.L.length csl],.int .i64 x] w fun e w'=>(∃ y o,e=.returned (.tuple #[.int .i64 y,.bool o])∧NxC (hsT s) x y o)∧Below w.heap.size w w' from H.mono (by
    rintro e w' ⟨⟨y,o,e1,e2⟩,e3⟩;exact ⟨⟨y,o,e1,fun _=>e2,fun h=>(by cases h)⟩,e3⟩)
  clear nx0
  go_enter Tryz.func42,Tryz.ntmps42
  have z0:=T0.out.lt;go_wp2_with fail
  clear z0;generalize (w.alloc (.cells #[.int .i64 s.P,.slice osa s.A.length csa,.int .i64 s.Q,.slice osb s.B.length csb,.int .i64 s.a,.int .i64 s.b,.slice osl s.L.length csl] 26))=w1 at *;refine (LN.out _).mono ?_;rintro e w' ⟨rfl,rfl⟩;have L0:=zh (here w1);go_wp2
  go_loopw [1] (fun t wr=>∃ (y:Int),x≤y∧y≤4398046511104∧t=.int .i64 y∧Hid (∀ z,x<z→z≤y→¬ Chg (hsT s) z)∧Hid (Below w1.heap.size w1 wr)) (fun t _=>(4398046511104 - intOf t).toNat)
  case atStart=>exact ⟨x,Int.le_refl x,xh,rfl,fun z h1 h2=>by omega,L0⟩
  case round =>
    obtain ⟨y,y0,y1,rfl,SX,AM⟩:=hrel;clear L0;have Tr:=zh (T0.out.keep AM.out);have Sr:=zh (S0.out.keep AM.out);obtain ⟨t0,t1,t2,t3,t4,t5,t6,tl⟩:=(Tr.out).z7;go_wp2_with fail
    clear t0 t1 t2 t3 t4 t5 t6 tl;refine (AA.out _ y (by omega) (by omega) Sr.out.a).mono ?_;rintro e w5 ⟨⟨c1,o1,rfl,B1,cb0,cb1⟩,hb⟩;have A5:=zd AM hb;replace B1:=zh B1;clear hb AM Tr Sr;have Tr:=zh (T0.out.keep A5.out);obtain ⟨t0,t1,t2,t3,t4,t5,t6,tl⟩:=(Tr.out).z7
    go_upto_region 5 with (fail)
    go_cut [26] from 13 to 110 (fun s26 wx=>s26=.bool (o1&&decide (c1<s.a))∧wx=w5)
    case first =>
      cases o1
      · go_wp2_with fail
        go_meet
        exact ⟨rfl,rfl⟩
      · go_wp2_with fail
        go_meet
        exact ⟨by rw [Bool.true_and],rfl⟩
    case rest =>
    obtain ⟨hq9,hw9⟩:=hcut;replace hw9:=hw9.symm;subst hq9;subst hw9;clear t0 t1 t2 t3 t4 t5 t6 tl;obtain ⟨b1,hb1⟩:∃ b,(o1&&decide (c1<s.a))=b:=⟨_,rfl⟩;rw [hb1];have B1':o1=true→c1<s.a→b1=true:=fun h1 h2=>by rw [← hb1,h1,zdt h2];rfl
    replace hb1:=zh hb1;obtain ⟨n1x,hn1x⟩:∃ v,(if c1<4398046511105 then c1 else 4398046511105)=v:=⟨_,rfl⟩;have en1:min 4398046511105 c1=n1x:=by rw [← hn1x];split <;> omega
    have gn1:n1x≤4398046511105∧n1x≤c1∧(n1x=4398046511105∨n1x=c1):=by rw [← hn1x];split <;> omega
    replace hn1x:=zh hn1x;obtain ⟨t0,t1,t2,t3,t4,t5,t6,tl⟩:=(Tr.out).z7
    go_upto_if 26 with (fail)
    go_cut [6] from 13 to 110 (fun s6 wx=>s6=.int .i64 (if b1=true then n1x else 4398046511105)∧wx=w5)
    case first =>
      cases b1
      · go_wp2_with fail
        go_meet
        exact ⟨rfl,rfl⟩
      · go_wp2_with fail
        go_meet
        exact ⟨rfl,rfl⟩
    case rest =>
    obtain ⟨hq9,hw9⟩:=hcut;replace hw9:=hw9.symm;subst hq9;subst hw9;clear t0 t1 t2 t3 t4 t5 t6 tl;obtain ⟨n1,hn1⟩:∃ v,(if b1=true then n1x else 4398046511105)=v:=⟨_,rfl⟩;rw [hn1];have fn1:(b1=true→n1=n1x)∧(b1=false→n1=4398046511105):=by rw [← hn1];constructor <;> intro h <;> rw [h] <;> simp
    replace hn1:=zh hn1;clear en1;have Tr2:=zh (T0.out.keep A5.out);have Sr2:=zh (S0.out.keep A5.out);obtain ⟨yb,hyb⟩:∃ v,(if y<s.b then s.b else y)=v:=⟨_,rfl⟩;have eyb:max y s.b=yb:=by rw [← hyb];split <;> omega
    have byb:y≤yb∧s.b≤yb∧yb≤4398046511104:=by rw [← hyb];split <;> omega
    replace hyb:=zh hyb;obtain ⟨t0,t1,t2,t3,t4,t5,t6,tl⟩:=(Tr2.out).z7;go_wp2_with fail
    clear t0 t1 t2 t3 t4 t5 t6 tl;refine (AB.out _ yb (by omega) (by omega) Sr2.out.b).mono ?_;rintro e w6 ⟨⟨c2,o2,rfl,B2,cc0,cc1⟩,hb⟩;have A6:=zd A5 hb;replace B2:=zh B2;clear hb A5 Tr Tr2 Sr2 eyb;have Tr:=zh (T0.out.keep A6.out);obtain ⟨n2x,hn2x⟩:∃ v,(if c2<n1 then c2 else n1)=v:=⟨_,rfl⟩;have en2:min n1 c2=n2x:=by rw [← hn2x];split <;> omega
    have gn2:n2x≤n1∧n2x≤c2∧(n2x=n1∨n2x=c2):=by rw [← hn2x];split <;> omega
    replace hn2x:=zh hn2x;obtain ⟨t0,t1,t2,t3,t4,t5,t6,tl⟩:=(Tr.out).z7
    go_upto_if 40 with (fail)
    go_cut [6] from 13 to 110 (fun s6 wx=>s6=.int .i64 (if o2=true then n2x else n1)∧wx=w6)
    case first =>
      cases o2
      · go_wp2_with fail
        go_meet
        exact ⟨rfl,rfl⟩
      · go_wp2_with fail
        go_meet
        exact ⟨rfl,rfl⟩
    case rest =>
    obtain ⟨hq9,hw9⟩:=hcut;replace hw9:=hw9.symm;subst hq9;subst hw9;clear t0 t1 t2 t3 t4 t5 t6 tl;obtain ⟨n2,hn2⟩:∃ v,(if o2=true then n2x else n1)=v:=⟨_,rfl⟩;rw [hn2];have fn2:(o2=true→n2=n2x)∧(o2=false→n2=n1):=by rw [← hn2];constructor <;> intro h <;> rw [h] <;> simp
    replace hn2:=zh hn2;clear en2;obtain ⟨b3,hb3⟩:∃ b,decide (y<s.a)=b:=⟨_,rfl⟩;have B3':y<s.a→b3=true:=fun h=>by rw [← hb3];exact zdt h
    obtain ⟨n3x,hn3x⟩:∃ v,(if s.a<n2 then s.a else n2)=v:=⟨_,rfl⟩;have en3:min n2 s.a=n3x:=by rw [← hn3x];split <;> omega
    have gn3:n3x≤n2∧n3x≤s.a∧(n3x=n2∨n3x=s.a):=by rw [← hn3x];split <;> omega
    replace hn3x:=zh hn3x;obtain ⟨t0,t1,t2,t3,t4,t5,t6,tl⟩:=(Tr.out).z7
    go_upto_if 47 with (fail)
    go_cut [6] from 13 to 110 (fun s6 wx=>s6=.int .i64 (if b3=true then n3x else n2)∧wx=w6)
    case first =>
      cases b3
      · go_wp2_with fail
        go_meet
        exact ⟨rfl,rfl⟩
      · go_wp2_with fail
        go_meet
        exact ⟨rfl,rfl⟩
    case rest =>
    obtain ⟨hq9,hw9⟩:=hcut;replace hw9:=hw9.symm;subst hq9;subst hw9;clear t0 t1 t2 t3 t4 t5 t6 tl;obtain ⟨n3,hn3⟩:∃ v,(if b3=true then n3x else n2)=v:=⟨_,rfl⟩;rw [hn3];have fn3:(b3=true→n3=n3x)∧(b3=false→n3=n2):=by rw [← hn3];constructor <;> intro h <;> rw [h] <;> simp
    replace hn3:=zh hn3;clear en3;replace hb3:=zh hb3;obtain ⟨b4,hb4⟩:∃ b,decide (y<s.b)=b:=⟨_,rfl⟩;have B4':y<s.b→b4=true:=fun h=>by rw [← hb4];exact zdt h
    obtain ⟨n4x,hn4x⟩:∃ v,(if s.b<n3 then s.b else n3)=v:=⟨_,rfl⟩;have en4:min n3 s.b=n4x:=by rw [← hn4x];split <;> omega
    have gn4:n4x≤n3∧n4x≤s.b∧(n4x=n3∨n4x=s.b):=by rw [← hn4x];split <;> omega
    replace hn4x:=zh hn4x;obtain ⟨t0,t1,t2,t3,t4,t5,t6,tl⟩:=(Tr.out).z7
    go_upto_if 55 with (fail)
    go_cut [6] from 13 to 110 (fun s6 wx=>s6=.int .i64 (if b4=true then n4x else n3)∧wx=w6)
    case first =>
      cases b4
      · go_wp2_with fail
        go_meet
        exact ⟨rfl,rfl⟩
      · go_wp2_with fail
        go_meet
        exact ⟨rfl,rfl⟩
    case rest =>
    obtain ⟨hq9,hw9⟩:=hcut;replace hw9:=hw9.symm;subst hq9;subst hw9;clear t0 t1 t2 t3 t4 t5 t6 tl;obtain ⟨n4,hn4⟩:∃ v,(if b4=true then n4x else n3)=v:=⟨_,rfl⟩;rw [hn4];have fn4:(b4=true→n4=n4x)∧(b4=false→n4=n3):=by rw [← hn4];constructor <;> intro h <;> rw [h] <;> simp
    replace hn4:=zh hn4;clear en4;replace hb4:=zh hb4;have K1:Hid (∀ n,n≤n4→(o1=true→c1<s.a→n≤c1)∧(o2=true→n≤c2)∧(y<s.a→n≤s.a)∧(y<s.b→n≤s.b)):=fun n hn=>by
      have m12:n2≤n1:=by cases b2:o2 <;> simp [b2] at fn2 <;> omega
      have m23:n3≤n2:=by cases b2:b3 <;> simp [b2] at fn3 <;> omega
      have m34:n4≤n3:=by cases b2:b4 <;> simp [b2] at fn4 <;> omega
      refine ⟨fun h1 h2=>?_,fun h=>?_,fun h=>?_,fun h=>?_⟩
      · have z:=fn1.1 (B1' h1 h2);omega
      · have z:=fn2.1 h;omega
      · have z:=fn3.1 (B3' h);omega
      · have z:=fn4.1 (B4' h);omega
    have n4b:y<n4∧n4≤4398046511105:=by
      have u1:o1=true→y<c1:=fun h=>(B1.out.yes h).1;have u2:o2=true→yb<c2:=fun h=>(B2.out.yes h).1;have v1:b1=true→o1=true:=fun h=>by have z:=hb1.out;rw [h] at z;cases o1 <;> simp_all
      have v3:b3=true→y<s.a:=fun h=>by have z:=hb3.out;rw [h] at z;exact of_decide_eq_true z
      have v4:b4=true→y<s.b:=fun h=>by have z:=hb4.out;rw [h] at z;exact of_decide_eq_true z
      have s1:y<n1∧n1≤4398046511105:=by
        cases q:b1
        · have:=fn1.2 q;omega
        · have:=fn1.1 q;have:=u1 (v1 q);omega
      have s2:y<n2∧n2≤4398046511105:=by
        cases q:o2
        · have:=fn2.2 q;omega
        · have:=fn2.1 q;have:=u2 q;omega
      have s3:y<n3∧n3≤4398046511105:=by
        cases q:b3
        · have:=fn3.2 q;omega
        · have:=fn3.1 q;have:=v3 q;omega
      cases q:b4
      · have:=fn4.2 q;omega
      · have:=fn4.1 q;have:=v4 q;omega
    obtain ⟨n4a,n4c⟩:=n4b;clear fn1 fn2 fn3 fn4 gn1 gn2 gn3 gn4 hb1 hb3 hb4 B1' B3' B4' hn1 hn2 hn3 hn4 hn1x hn2x hn3x hn4x byb;have A6':=A6;obtain ⟨t0,t1,t2,t3,t4,t5,t6,tl⟩:=(Tr.out).z7;go_wp2
    clear t0 t1 t2 t3 t4 t5 t6 tl;clear Tr
    go_loopw [6,9] (fun v t wr=>∃ (j:Nat) (nx:Int),v=.int .i64 nx∧j≤s.L.length∧y<nx∧nx≤n4∧t=.int .i64 j∧Hid (∀ i,i<j→(y<(s.L.getD i (0,0)).1→nx≤(s.L.getD i (0,0)).1)∧(y<(s.L.getD i (0,0)).2→nx≤(s.L.getD i (0,0)).2))∧Hid (Below w1.heap.size w1 wr)) (fun _ t _=>s.L.length - (intOf t).toNat)
    case atStart=>exact ⟨0,n4,rfl,Nat.zero_le _,n4a,Int.le_refl _,rfl,fun i h=>absurd h (Nat.not_lt_zero i),A6'⟩
    case round =>
      obtain ⟨j,nx,rfl,hj,nx0,nx1,rfl,EI,AI⟩:=hrel;clear A6' A6;have Tr:=zh (T0.out.keep AI.out);have Sr:=zh (S0.out.keep AI.out);obtain ⟨t0,t1,t2,t3,t4,t5,t6,tl⟩:=(Tr.out).z7
      by_cases z:j<s.L.length
      · have kz:decide ((j:Int)<(s.L.length:Int))=true:=zdt (by omega);obtain ⟨b,off,e8,bl',cs⟩:=prs_here Sr.out.l (show j<s.L.length by omega);subst e8;obtain ⟨c0,c1⟩:=cs j (by omega);clear cs Sr Tr;obtain ⟨j1,hj1⟩:∃ j1,j+1=j1:=⟨_,rfl⟩;obtain ⟨q,hq⟩:∃ q,s.L.getD j (0,0)=q:=⟨_,rfl⟩;rw [hq] at c0 c1;replace hq:=zh hq;obtain ⟨f,g⟩:=q;replace c0:wr.cell? ⟨b,off+j * 2,none⟩=some (.int .i64 f):=c0;replace c1:wr.cell? ⟨b,off+j * 2+1,none⟩=some (.int .i64 g):=c1
        by_cases t1:y<f
        · have k1:decide (y<f)=true:=zdt t1;obtain ⟨n1,hn1⟩:∃ n1,(if f<nx then f else nx)=n1:=⟨_,rfl⟩;have mn1:min nx f=n1:=by rw [← hn1];omega
          have n1f:(f<nx∧n1=f)∨(nx≤f∧n1=nx):=by rw [← hn1];split <;> omega
          by_cases t2:y<g
          · have k2:decide (y<g)=true:=zdt t2;obtain ⟨n2,hn2⟩:∃ n2,(if g<n1 then g else n1)=n2:=⟨_,rfl⟩;have mn2:min n1 g=n2:=by rw [← hn2];omega
            have n2f:(g<n1∧n2=g)∨(n1≤g∧n2=n1):=by rw [← hn2];split <;> omega
            have EN:Hid (∀ i,i<j1→(y<(s.L.getD i (0,0)).1→n2≤(s.L.getD i (0,0)).1)∧(y<(s.L.getD i (0,0)).2→n2≤(s.L.getD i (0,0)).2)):=fun i hi'=>by
              by_cases e:i=j
              · rw [e,hq.out];exact ⟨fun h=>by omega,fun h=>by omega⟩
              · have:=EI.out i (by omega);exact ⟨fun h=>by have:=this.1 h;omega,fun h=>by have:=this.2 h;omega⟩
            go_wp2
            go_roundw
            case rel=>exact ⟨j1,n2,rfl,by omega,by omega,by omega,by first | rfl | go_num,EN,AI⟩
            case measure=>simp [intOf];omega
          · have k2:decide (y<g)=false:=zdf t2;have EN:Hid (∀ i,i<j1→(y<(s.L.getD i (0,0)).1→n1≤(s.L.getD i (0,0)).1)∧(y<(s.L.getD i (0,0)).2→n1≤(s.L.getD i (0,0)).2)):=fun i hi'=>by
              by_cases e:i=j
              · rw [e,hq.out];exact ⟨fun h=>by omega,fun h=>by omega⟩
              · have:=EI.out i (by omega);exact ⟨fun h=>by have:=this.1 h;omega,fun h=>by have:=this.2 h;omega⟩
            go_wp2
            go_roundw
            case rel=>exact ⟨j1,n1,rfl,by omega,by omega,by omega,by first | rfl | go_num,EN,AI⟩
            case measure=>simp [intOf];omega
        · have k1:decide (y<f)=false:=zdf t1
          by_cases t2:y<g
          · have k2:decide (y<g)=true:=zdt t2;obtain ⟨n2,hn2⟩:∃ n2,(if g<nx then g else nx)=n2:=⟨_,rfl⟩;have mn2:min nx g=n2:=by rw [← hn2];omega
            have n2f:(g<nx∧n2=g)∨(nx≤g∧n2=nx):=by rw [← hn2];split <;> omega
            have EN:Hid (∀ i,i<j1→(y<(s.L.getD i (0,0)).1→n2≤(s.L.getD i (0,0)).1)∧(y<(s.L.getD i (0,0)).2→n2≤(s.L.getD i (0,0)).2)):=fun i hi'=>by
              by_cases e:i=j
              · rw [e,hq.out];exact ⟨fun h=>by omega,fun h=>by omega⟩
              · have:=EI.out i (by omega);exact ⟨fun h=>by have:=this.1 h;omega,fun h=>by have:=this.2 h;omega⟩
            go_wp2
            go_roundw
            case rel=>exact ⟨j1,n2,rfl,by omega,by omega,by omega,by first | rfl | go_num,EN,AI⟩
            case measure=>simp [intOf];omega
          · have k2:decide (y<g)=false:=zdf t2;have EN:Hid (∀ i,i<j1→(y<(s.L.getD i (0,0)).1→nx≤(s.L.getD i (0,0)).1)∧(y<(s.L.getD i (0,0)).2→nx≤(s.L.getD i (0,0)).2)):=fun i hi'=>by
              by_cases e:i=j
              · rw [e,hq.out];exact ⟨fun h=>by omega,fun h=>by omega⟩
              · have:=EI.out i (by omega);exact ⟨fun h=>by have:=this.1 h;omega,fun h=>by have:=this.2 h;omega⟩
            go_wp2
            go_roundw
            case rel=>exact ⟨j1,nx,rfl,by omega,by omega,by omega,by first | rfl | go_num,EN,AI⟩
            case measure=>simp [intOf];omega
      · have kz:decide ((j:Int)<(s.L.length:Int))=false:=zdf (by omega);have hj2:j=s.L.length:=by omega
        subst hj2;have ES:Hid (∀ q,q∈s.L→(y<q.1→nx≤q.1)∧(y<q.2→nx≤q.2)):=fun q hq=>by
          obtain ⟨i,hi',rfl⟩:=mem_getD hq;exact EI.out i (by omega)
        obtain ⟨ka,kb,kc,kd⟩:=K1.out nx nx1;have GO:Hid (∀ z,y<z→z<nx→¬ Chg (hsT s) z):=ST9.out y nx c1 c2 o1 o2 B1.out ka (by rw [hyb.out];exact B2.out) kb kc kd ES.out;clear EI ES K1 ka kb kc kd B1 B2 ST9 hyb cb0 cb1 cc0 cc1 kz
        by_cases big:4398046511104<nx
        · have kg:decide (4398046511104<nx)=true:=zdt big;have RS:Hid (NxC (hsT s) x 0 false):=⟨fun h=>(by cases h),fun _=>⟨rfl,fun z h1 h2=>by
            by_cases e:z≤y
            · exact SX.out z h1 e
            · exact GO.out z (by omega) (by omega)⟩⟩
          go_wp2
          go_ret2
          exact ⟨⟨_,_,rfl,RS.out⟩,down AF.out AI.out⟩
        · have kg:decide (4398046511104<nx)=false:=zdf big;have wm:IntKind.i64.wrap (nx - 1)=nx - 1:=by rw [IntKind.wrap_i64];omega
          obtain ⟨u,hu⟩:∃ u,hsT s (nx - 1)=u:=⟨_,rfl⟩;obtain ⟨v,hv⟩:∃ v,hsT s nx=v:=⟨_,rfl⟩;have GA:Hid (∀ x':Kept wr,Calls Tryz.prog 22 #[.agg #[.int .i64 s.P,.slice osa s.A.length csa,.int .i64 s.Q,.slice osb s.B.length csb,.int .i64 s.a,.int .i64 s.b,.slice osl s.L.length csl],.int .i64 (nx - 1)] x'.wd fun e w'=>e=.returned (.bool u)∧Below x'.wd.heap.size x'.wd w'):=fun x'=>by have r:=HH.out x'.wd (nx - 1) ⟨by omega,by omega⟩ (Sr.out.keep x'.ok);rw [hu] at r;exact r
          have GB:Hid (∀ x':Kept wr,Calls Tryz.prog 22 #[.agg #[.int .i64 s.P,.slice osa s.A.length csa,.int .i64 s.Q,.slice osb s.B.length csb,.int .i64 s.a,.int .i64 s.b,.slice osl s.L.length csl],.int .i64 nx] x'.wd fun e w'=>e=.returned (.bool v)∧Below x'.wd.heap.size x'.wd w'):=fun x'=>by have r:=HH.out x'.wd nx ⟨by omega,by omega⟩ (Sr.out.keep x'.ok);rw [hv] at r;exact r
          have a0:∀ x':Kept wr,x'.wd.cell? ⟨w.heap.size,0,none⟩=some (.int .i64 s.P):=fun x'=>(Tr.out.keep x'.ok).c 0 _ rfl;have a1:∀ x':Kept wr,x'.wd.cell? ⟨w.heap.size,1,none⟩=some (.slice osa s.A.length csa):=fun x'=>(Tr.out.keep x'.ok).c 1 _ rfl;have a2:∀ x':Kept wr,x'.wd.cell? ⟨w.heap.size,2,none⟩=some (.int .i64 s.Q):=fun x'=>(Tr.out.keep x'.ok).c 2 _ rfl;have a3:∀ x':Kept wr,x'.wd.cell? ⟨w.heap.size,3,none⟩=some (.slice osb s.B.length csb):=fun x'=>(Tr.out.keep x'.ok).c 3 _ rfl;have a4:∀ x':Kept wr,x'.wd.cell? ⟨w.heap.size,4,none⟩=some (.int .i64 s.a):=fun x'=>(Tr.out.keep x'.ok).c 4 _ rfl;have a5:∀ x':Kept wr,x'.wd.cell? ⟨w.heap.size,5,none⟩=some (.int .i64 s.b):=fun x'=>(Tr.out.keep x'.ok).c 5 _ rfl;have a6:∀ x':Kept wr,x'.wd.cell? ⟨w.heap.size,6,none⟩=some (.slice osl s.L.length csl):=fun x'=>(Tr.out.keep x'.ok).c 6 _ rfl;replace hu:=zh hu;replace hv:=zh hv
          by_cases d':u=v
          rotate_left
          · have d:(u != v)=true:=bne_iff_ne.2 d';have RS:Hid (NxC (hsT s) x nx true):=⟨fun _=>⟨by omega,by omega,by show hsT s nx≠hsT s (nx - 1);rw [hu.out,hv.out];exact fun c=>d' c.symm,fun z h1 h2=>by
              by_cases e:z≤y
              · exact SX.out z h1 e
              · exact GO.out z (by omega) (by omega)⟩,fun h=>by cases h⟩
            obtain rfl:v=!u:=by cases u <;> cases v <;> simp_all
            clear d d';go_wp2
            refine wp_region_kept (by kernel_rfl) (by kernel_rfl) ?_
            repeat (go_big_quiet_step (first | (go_at_call 22;with_reducible exact kept_call _ (GA.out _)) | (go_at_call 22;with_reducible exact kept_call _ (GB.out _))))
            refine wpQuiet_nil ?_;intro w3 hx;obtain ⟨⟨z3,hb⟩,hw⟩:=hx;replace hw:w3=z3:=hw;subst z3;have A9:=zh (down AF.out (down AI.out hb));clear hu hv;go_wp2
            go_ret2
            exact ⟨⟨_,_,rfl,RS.out⟩,A9.out⟩
          · subst d';have SN:Hid (∀ z,x<z→z≤nx→¬ Chg (hsT s) z):=fun z h1 h2=>by
              by_cases e:z≤y
              · exact SX.out z h1 e
              · by_cases e2:z=nx
                · subst e2;show ¬ (hsT s z≠hsT s (z - 1));rw [hu.out,hv.out];exact fun c=>c rfl
                · exact GO.out z (by omega) (by omega)
            go_wp2
            refine wp_region_kept (by kernel_rfl) (by kernel_rfl) ?_
            repeat (go_big_quiet_step (first | (go_at_call 22;with_reducible exact kept_call _ (GA.out _)) | (go_at_call 22;with_reducible exact kept_call _ (GB.out _))))
            refine wpQuiet_nil ?_;intro w3 hx;obtain ⟨⟨z3,hb⟩,hw⟩:=hx;replace hw:w3=z3:=hw;subst z3;have A9:=zd AI hb;clear hu hv;go_wp2
            go_roundw
            case rel=>exact ⟨nx,by omega,by omega,by first | rfl | go_num,SN,A9⟩
            case measure=>simp [intOf];omega
end Go.Proofs.YtmamlgaogpkagaaGreat
