/- TrK. -/
import Derived.Test.YtmamlgaogpkagaaGreatQLPlain
import Derived.Test.YtmamlgaogpkagaaGreatQLGen
import Derived.Test.YtmamlgaogpkagaaGreatQLSl
import Derived.Test.YtmamlgaogpkagaaGreatQRnKF
import Derived.Test.YtmamlgaogpkagaaGreatQPeKD
import Derived.Test.YtmamlgaogpkagaaGreatQPeKJ
import Derived.Test.YtmamlgaogpkagaaGreatQPeHEa
import Derived.Test.YtmamlgaogpkagaaGreatQTsGa
import Derived.Test.YtmamlgaogpkagaaGreatQTsGc
import Derived.Test.YtmamlgaogpkagaaGreatQTsTb
import Derived.Test.YtmamlgaogpkagaaGreatQTvB
import Derived.Test.YtmamlgaogpkagaaGreatQTvI
import Derived.Test.YtmamlgaogpkagaaGreatQTvL
import Derived.WalkKit
import Derived.BigQuiet
import Derived.Deep.QuietTactic
import Derived.Deep.CutRange
import Derived.Deep.RegionHeld3
namespace Go.Proofs.YtmamlgaogpkagaaGreat
open Go.RowKit
set_option linter.unusedVariables false
set_option linter.unusedSimpArgs false
set_option maxRecDepth 100000 in
set_option maxHeartbeats 8000000 in
theorem rtprev (s:TS) (vs:VS s) (va vb vl:Value) (x:Int) (hx:I64 x) (w:World) (h:SS3 w s va vb vl) :
    Calls Tryz.prog 41 #[.agg #[.int .i64 s.P,va,.int .i64 s.Q,vb,.int .i64 s.a,.int .i64 s.b,vl],.int .i64 x] w fun e w'=>(∃ y o,e=.returned (.tuple #[.int .i64 y,.bool o])∧((nvB x=true→NxP (hsT s) x y o)∧(nvB x=false→y=0∧o=false)))∧Below w.heap.size w w':=by
  obtain ⟨osa,csa,rfl⟩:=prs_shape h.a;obtain ⟨osb,csb,rfl⟩:=prs_shape h.b;obtain ⟨osl,csl,rfl⟩:=prs_shape h.l;have AF:=zh (grow (here w) (.cells #[.int .i64 s.P,.slice osa s.A.length csa,.int .i64 s.Q,.slice osb s.B.length csb,.int .i64 s.a,.int .i64 s.b,.slice osl s.L.length csl] 26));have T0:=zh (Bxs.new (w:=w) [.int .i64 s.P,.slice osa s.A.length csa,.int .i64 s.Q,.slice osb s.B.length csb,.int .i64 s.a,.int .i64 s.b,.slice osl s.L.length csl] 26);have S0:=zh (h.keep AF.out);have LN:=zh (fun W=>rtline x W);have g:=vs.g;have le:=g.le;have lo0:=g.lo0;have hi0:=g.hi0;have ln:s.L.length≤2000:=(vaB_iff.1 g.va).1;have AA:=zh (fun W y x0 x1 (h:PairS 0 W (.slice osa s.A.length csa) s.A)=>rtbefore _ s.P s.A g.p y x0 x1 W h);have AB:=zh (fun W y x0 x1 (h:PairS 0 W (.slice osb s.B.length csb) s.B)=>rtbefore _ s.Q s.B g.q y x0 x1 W h);have HH:=zh (fun W y hy (h:SS3 W s (.slice osa s.A.length csa) (.slice osb s.B.length csb) (.slice osl s.L.length csl))=>rthas s _ _ _ g.p g.q (le_mx (by omega)) y hy W h);have ST9:Hid (∀ (y n c d:Int) (o p:Bool),BfS (hsP s.P s.A) (if s.a<y+1 then s.a else y+1) o c→(o=true→c≤n)→BfS (hsP s.Q s.B) (y+1) p d→(p=true→s.b<d→d≤n)→(s.a≤y→s.a≤n)→(s.b≤y→s.b≤n)→(∀ q,q∈s.L→(q.1≤y→q.1≤n)∧(q.2≤y→q.2≤n))→∀ z,n<z→z≤y→¬ Chg (hsT s) z):=fun y n c d o p f1 k1 f2 k2 ka kb ends z z1 z2=>pr_step g f1 k1 f2 k2 ka kb ends z1 z2;clear vs g h
  cases nx0:nvB x
  · rw [nx0] at LN;have z0:=T0.out.lt
    go_enter Tryz.func41,Tryz.ntmps41
    go_wp2_with fail
    refine (LN.out _).mono ?_;rintro e w' ⟨rfl,rfl⟩;go_wp2
    go_ret2
    exact ⟨⟨0,false,rfl,fun h=>(by cases h),fun _=>⟨rfl,rfl⟩⟩,AF.out⟩
  rw [nx0] at LN;obtain ⟨xl,xh⟩:=nvB_iff.1 nx0
  suffices H:Calls Tryz.prog 41 #[.agg #[.int .i64 s.P,.slice osa s.A.length csa,.int .i64 s.Q,.slice osb s.B.length csb,.int .i64 s.a,.int .i64 s.b,.slice osl s.L.length csl],.int .i64 x] w fun e w'=>(∃ y o,e=.returned (.tuple #[.int .i64 y,.bool o])∧NxP (hsT s) x y o)∧Below w.heap.size w w' from H.mono (by
    rintro e w' ⟨⟨y,o,e1,e2⟩,e3⟩;exact ⟨⟨y,o,e1,fun _=>e2,fun h=>(by cases h)⟩,e3⟩)
  clear nx0
  go_enter Tryz.func41,Tryz.ntmps41
  have z0:=T0.out.lt;go_wp2_with fail
  clear z0;generalize (w.alloc (.cells #[.int .i64 s.P,.slice osa s.A.length csa,.int .i64 s.Q,.slice osb s.B.length csb,.int .i64 s.a,.int .i64 s.b,.slice osl s.L.length csl] 26))=w1 at *;refine (LN.out _).mono ?_;rintro e w' ⟨rfl,rfl⟩;have L0:=zh (here w1);go_wp2
  go_loopw [1] (fun t wr=>∃ (y:Int),y≤x∧-4398046511104≤y∧t=.int .i64 y∧Hid (∀ z,y<z→z≤x→hsT s z=false)∧Hid (Below w1.heap.size w1 wr)) (fun t _=>(intOf t+4398046511105).toNat)
  case atStart=>exact ⟨x,Int.le_refl x,xl,rfl,fun z h1 h2=>by omega,L0⟩
  case round =>
    obtain ⟨y,y0,y1,rfl,SX,AM⟩:=hrel;clear L0;have Tr:=zh (T0.out.keep AM.out);have Sr:=zh (S0.out.keep AM.out)
    cases fy:hsT s y
    rotate_left
    · have RS:Hid (NxP (hsT s) x y true):=⟨fun _=>⟨y0,y1,fy,SX.out⟩,fun h=>by cases h⟩;have HY:=zh (HH.out wr y ⟨by omega,by omega⟩ Sr.out);rw [fy] at HY;replace fy:=zh fy;obtain ⟨t0,t1,t2,t3,t4,t5,t6,tl⟩:=(Tr.out).z7;go_wp2_with fail
      clear t0 t1 t2 t3 t4 t5 t6 tl;refine HY.out.mono ?_;rintro e w4 ⟨rfl,hb⟩;have A9:=zh (down AF.out (down AM.out hb));clear hb;go_wp2
      go_ret2
      exact ⟨⟨_,_,rfl,RS.out⟩,A9.out⟩
    have HY:=zh (HH.out wr y ⟨by omega,by omega⟩ Sr.out);rw [fy] at HY;replace fy:=zh fy;obtain ⟨t0,t1,t2,t3,t4,t5,t6,tl⟩:=(Tr.out).z7;go_wp2_with fail
    clear t0 t1 t2 t3 t4 t5 t6 tl;refine HY.out.mono ?_;rintro e w4 ⟨rfl,hb⟩;have A4:=zd AM hb;clear hb AM Tr Sr HY;have Tr:=zh (T0.out.keep A4.out);have Sr:=zh (S0.out.keep A4.out);obtain ⟨ya,hya⟩:∃ v,(if s.a<y+1 then s.a else y+1)=v:=⟨_,rfl⟩;have eya:min (y+1) s.a=ya:=by rw [← hya];split <;> omega
    have bya:ya≤y+1∧ya≤s.a∧-4398046511104≤ya:=by rw [← hya];split <;> omega
    have wy:IntKind.i64.wrap (y+1)=y+1:=by rw [IntKind.wrap_i64];omega
    replace hya:=zh hya;obtain ⟨t0,t1,t2,t3,t4,t5,t6,tl⟩:=(Tr.out).z7;go_wp2_with fail
    clear t0 t1 t2 t3 t4 t5 t6 tl;refine (AA.out _ ya (by omega) (by omega) Sr.out.a).mono ?_;rintro e w5 ⟨⟨c1,o1,rfl,B1,cb0,cb1⟩,hb⟩;have A5:=zd A4 hb;replace B1:=zh B1;clear hb A4 Tr Sr eya;have Tr:=zh (T0.out.keep A5.out);obtain ⟨n1x,hn1x⟩:∃ v,(if (-4398046511105)<c1 then c1 else (-4398046511105))=v:=⟨_,rfl⟩;have en1:max (-4398046511105) c1=n1x:=by rw [← hn1x];split <;> omega
    have gn1:n1x≥(-4398046511105)∧n1x≥c1∧(n1x=(-4398046511105)∨n1x=c1):=by rw [← hn1x];split <;> omega
    replace hn1x:=zh hn1x;obtain ⟨t0,t1,t2,t3,t4,t5,t6,tl⟩:=(Tr.out).z7
    go_upto_if 28 with (fail)
    go_cut [6] from 13 to 108 (fun s6 wx=>s6=.int .i64 (if o1=true then n1x else (-4398046511105))∧wx=w5)
    case first =>
      cases o1
      · go_wp2_with fail
        go_meet
        exact ⟨rfl,rfl⟩
      · go_wp2_with fail
        go_meet
        exact ⟨rfl,rfl⟩
    case rest =>
    obtain ⟨hq9,hw9⟩:=hcut;replace hw9:=hw9.symm;subst hq9;subst hw9;clear t0 t1 t2 t3 t4 t5 t6 tl;obtain ⟨n1,hn1⟩:∃ v,(if o1=true then n1x else (-4398046511105))=v:=⟨_,rfl⟩;rw [hn1];have fn1:(o1=true→n1=n1x)∧(o1=false→n1=(-4398046511105)):=by rw [← hn1];constructor <;> intro h <;> rw [h] <;> simp
    replace hn1:=zh hn1;clear en1;have Sr2:=zh (S0.out.keep A5.out);obtain ⟨t0,t1,t2,t3,t4,t5,t6,tl⟩:=(Tr.out).z7;go_wp2_with fail
    clear t0 t1 t2 t3 t4 t5 t6 tl;refine (AB.out _ (y+1) (by omega) (by omega) Sr2.out.b).mono ?_;rintro e w6 ⟨⟨c2,o2,rfl,B2,cc0,cc1⟩,hb⟩;have A6:=zd A5 hb;replace B2:=zh B2;clear hb A5 Tr Sr2;have Tr:=zh (T0.out.keep A6.out);obtain ⟨t0,t1,t2,t3,t4,t5,t6,tl⟩:=(Tr.out).z7
    go_upto_region 10 with (fail)
    go_cut [46] from 13 to 108 (fun s46 wx=>s46=.bool (o2&&decide (s.b<c2))∧wx=w6)
    case first =>
      cases o2
      · go_wp2_with fail
        go_meet
        exact ⟨rfl,rfl⟩
      · go_wp2_with fail
        go_meet
        exact ⟨by rw [Bool.true_and],rfl⟩
    case rest =>
    obtain ⟨hq9,hw9⟩:=hcut;replace hw9:=hw9.symm;subst hq9;subst hw9;clear t0 t1 t2 t3 t4 t5 t6 tl;obtain ⟨b2,hb2⟩:∃ b,(o2&&decide (s.b<c2))=b:=⟨_,rfl⟩;rw [hb2];have B2':o2=true→s.b<c2→b2=true:=fun h1 h2=>by rw [← hb2,h1,zdt h2];rfl
    replace hb2:=zh hb2;obtain ⟨n2x,hn2x⟩:∃ v,(if n1<c2 then c2 else n1)=v:=⟨_,rfl⟩;have en2:max n1 c2=n2x:=by rw [← hn2x];split <;> omega
    have gn2:n2x≥n1∧n2x≥c2∧(n2x=n1∨n2x=c2):=by rw [← hn2x];split <;> omega
    replace hn2x:=zh hn2x;obtain ⟨t0,t1,t2,t3,t4,t5,t6,tl⟩:=(Tr.out).z7
    go_upto_if 46 with (fail)
    go_cut [6] from 13 to 108 (fun s6 wx=>s6=.int .i64 (if b2=true then n2x else n1)∧wx=w6)
    case first =>
      cases b2
      · go_wp2_with fail
        go_meet
        exact ⟨rfl,rfl⟩
      · go_wp2_with fail
        go_meet
        exact ⟨rfl,rfl⟩
    case rest =>
    obtain ⟨hq9,hw9⟩:=hcut;replace hw9:=hw9.symm;subst hq9;subst hw9;clear t0 t1 t2 t3 t4 t5 t6 tl;obtain ⟨n2,hn2⟩:∃ v,(if b2=true then n2x else n1)=v:=⟨_,rfl⟩;rw [hn2];have fn2:(b2=true→n2=n2x)∧(b2=false→n2=n1):=by rw [← hn2];constructor <;> intro h <;> rw [h] <;> simp
    replace hn2:=zh hn2;clear en2;obtain ⟨b3,hb3⟩:∃ b,decide (s.a≤y)=b:=⟨_,rfl⟩;have B3':s.a≤y→b3=true:=fun h=>by rw [← hb3];exact zdt h
    obtain ⟨n3x,hn3x⟩:∃ v,(if n2<s.a then s.a else n2)=v:=⟨_,rfl⟩;have en3:max n2 s.a=n3x:=by rw [← hn3x];split <;> omega
    have gn3:n3x≥n2∧n3x≥s.a∧(n3x=n2∨n3x=s.a):=by rw [← hn3x];split <;> omega
    replace hn3x:=zh hn3x;obtain ⟨t0,t1,t2,t3,t4,t5,t6,tl⟩:=(Tr.out).z7
    go_upto_if 53 with (fail)
    go_cut [6] from 13 to 108 (fun s6 wx=>s6=.int .i64 (if b3=true then n3x else n2)∧wx=w6)
    case first =>
      cases b3
      · go_wp2_with fail
        go_meet
        exact ⟨rfl,rfl⟩
      · go_wp2_with fail
        go_meet
        exact ⟨rfl,rfl⟩
    case rest =>
    obtain ⟨hq9,hw9⟩:=hcut;replace hw9:=hw9.symm;subst hq9;subst hw9;clear t0 t1 t2 t3 t4 t5 t6 tl;obtain ⟨n3,hn3⟩:∃ v,(if b3=true then n3x else n2)=v:=⟨_,rfl⟩;rw [hn3];have fn3:(b3=true→n3=n3x)∧(b3=false→n3=n2):=by rw [← hn3];constructor <;> intro h <;> rw [h] <;> simp
    replace hn3:=zh hn3;clear en3;replace hb3:=zh hb3;obtain ⟨b4,hb4⟩:∃ b,decide (s.b≤y)=b:=⟨_,rfl⟩;have B4':s.b≤y→b4=true:=fun h=>by rw [← hb4];exact zdt h
    obtain ⟨n4x,hn4x⟩:∃ v,(if n3<s.b then s.b else n3)=v:=⟨_,rfl⟩;have en4:max n3 s.b=n4x:=by rw [← hn4x];split <;> omega
    have gn4:n4x≥n3∧n4x≥s.b∧(n4x=n3∨n4x=s.b):=by rw [← hn4x];split <;> omega
    replace hn4x:=zh hn4x;obtain ⟨t0,t1,t2,t3,t4,t5,t6,tl⟩:=(Tr.out).z7
    go_upto_if 61 with (fail)
    go_cut [6] from 13 to 108 (fun s6 wx=>s6=.int .i64 (if b4=true then n4x else n3)∧wx=w6)
    case first =>
      cases b4
      · go_wp2_with fail
        go_meet
        exact ⟨rfl,rfl⟩
      · go_wp2_with fail
        go_meet
        exact ⟨rfl,rfl⟩
    case rest =>
    obtain ⟨hq9,hw9⟩:=hcut;replace hw9:=hw9.symm;subst hq9;subst hw9;clear t0 t1 t2 t3 t4 t5 t6 tl;obtain ⟨n4,hn4⟩:∃ v,(if b4=true then n4x else n3)=v:=⟨_,rfl⟩;rw [hn4];have fn4:(b4=true→n4=n4x)∧(b4=false→n4=n3):=by rw [← hn4];constructor <;> intro h <;> rw [h] <;> simp
    replace hn4:=zh hn4;clear en4;replace hb4:=zh hb4;have K1:Hid (∀ n,n4≤n→(o1=true→c1≤n)∧(o2=true→s.b<c2→c2≤n)∧(s.a≤y→s.a≤n)∧(s.b≤y→s.b≤n)):=fun n hn=>by
      have m12:n1≤n2:=by cases q:b2 <;> simp [q] at fn2 <;> omega
      have m23:n2≤n3:=by cases q:b3 <;> simp [q] at fn3 <;> omega
      have m34:n3≤n4:=by cases q:b4 <;> simp [q] at fn4 <;> omega
      refine ⟨fun h=>?_,fun h1 h2=>?_,fun h=>?_,fun h=>?_⟩
      · have z:=fn1.1 h;omega
      · have z:=fn2.1 (B2' h1 h2);omega
      · have z:=fn3.1 (B3' h);omega
      · have z:=fn4.1 (B4' h);omega
    have n4b:n4≤y∧-4398046511105≤n4:=by
      have u1:o1=true→c1<ya:=fun h=>(B1.out.yes h).1;have u2:o2=true→c2<y+1:=fun h=>(B2.out.yes h).1;have v2:b2=true→o2=true:=fun h=>by have z:=hb2.out;rw [h] at z;cases o2 <;> simp_all
      have v3:b3=true→s.a≤y:=fun h=>by have z:=hb3.out;rw [h] at z;exact of_decide_eq_true z
      have v4:b4=true→s.b≤y:=fun h=>by have z:=hb4.out;rw [h] at z;exact of_decide_eq_true z
      have s1:n1≤y∧-4398046511105≤n1:=by
        cases q:o1
        · have:=fn1.2 q;omega
        · have:=fn1.1 q;have:=u1 q;omega
      have s2:n2≤y∧-4398046511105≤n2:=by
        cases q:b2
        · have:=fn2.2 q;omega
        · have:=fn2.1 q;have:=u2 (v2 q);omega
      have s3:n3≤y∧-4398046511105≤n3:=by
        cases q:b3
        · have:=fn3.2 q;omega
        · have:=fn3.1 q;have:=v3 q;omega
      cases q:b4
      · have:=fn4.2 q;omega
      · have:=fn4.1 q;have:=v4 q;omega
    obtain ⟨n4a,n4c⟩:=n4b;clear fn1 fn2 fn3 fn4 gn1 gn2 gn3 gn4 hb2 hb3 hb4 B2' B3' B4' hn1 hn2 hn3 hn4 hn1x hn2x hn3x hn4x bya;have A6':=A6;obtain ⟨t0,t1,t2,t3,t4,t5,t6,tl⟩:=(Tr.out).z7;go_wp2
    clear t0 t1 t2 t3 t4 t5 t6 tl;clear Tr
    go_loopw [6,9] (fun v t wr=>∃ (j:Nat) (nx:Int),v=.int .i64 nx∧j≤s.L.length∧nx≤y∧n4≤nx∧t=.int .i64 j∧Hid (∀ i,i<j→((s.L.getD i (0,0)).1≤y→(s.L.getD i (0,0)).1≤nx)∧((s.L.getD i (0,0)).2≤y→(s.L.getD i (0,0)).2≤nx))∧Hid (Below w1.heap.size w1 wr)) (fun _ t _=>s.L.length - (intOf t).toNat)
    case atStart=>exact ⟨0,n4,rfl,Nat.zero_le _,n4a,Int.le_refl _,rfl,fun i h=>absurd h (Nat.not_lt_zero i),A6'⟩
    case round =>
      obtain ⟨j,nx,rfl,hj,nx0,nx1,rfl,EI,AI⟩:=hrel;clear A6' A6;have Tr:=zh (T0.out.keep AI.out);have Sr:=zh (S0.out.keep AI.out);obtain ⟨t0,t1,t2,t3,t4,t5,t6,tl⟩:=(Tr.out).z7
      by_cases z:j<s.L.length
      · have kz:decide ((j:Int)<(s.L.length:Int))=true:=zdt (by omega);obtain ⟨b,off,e8,bl',cs⟩:=prs_here Sr.out.l (show j<s.L.length by omega);subst e8;obtain ⟨c0,c1⟩:=cs j (by omega);clear cs Sr Tr;obtain ⟨j1,hj1⟩:∃ j1,j+1=j1:=⟨_,rfl⟩;obtain ⟨q,hq⟩:∃ q,s.L.getD j (0,0)=q:=⟨_,rfl⟩;rw [hq] at c0 c1;replace hq:=zh hq;obtain ⟨f,g⟩:=q;replace c0:wr.cell? ⟨b,off+j * 2,none⟩=some (.int .i64 f):=c0;replace c1:wr.cell? ⟨b,off+j * 2+1,none⟩=some (.int .i64 g):=c1
        by_cases t1:f≤y
        · have k1:decide (f≤y)=true:=zdt t1;obtain ⟨n1,hn1⟩:∃ n1,(if nx<f then f else nx)=n1:=⟨_,rfl⟩;have mn1:max nx f=n1:=by rw [← hn1];omega
          have n1f:(nx<f∧n1=f)∨(f≤nx∧n1=nx):=by rw [← hn1];split <;> omega
          by_cases t2:g≤y
          · have k2:decide (g≤y)=true:=zdt t2;obtain ⟨n2,hn2⟩:∃ n2,(if n1<g then g else n1)=n2:=⟨_,rfl⟩;have mn2:max n1 g=n2:=by rw [← hn2];omega
            have n2f:(n1<g∧n2=g)∨(g≤n1∧n2=n1):=by rw [← hn2];split <;> omega
            have EN:Hid (∀ i,i<j1→((s.L.getD i (0,0)).1≤y→(s.L.getD i (0,0)).1≤n2)∧((s.L.getD i (0,0)).2≤y→(s.L.getD i (0,0)).2≤n2)):=fun i hi'=>by
              by_cases e:i=j
              · rw [e,hq.out];exact ⟨fun h=>by omega,fun h=>by omega⟩
              · have:=EI.out i (by omega);exact ⟨fun h=>by have:=this.1 h;omega,fun h=>by have:=this.2 h;omega⟩
            go_wp2
            go_roundw
            case rel=>exact ⟨j1,n2,rfl,by omega,by omega,by omega,by first | rfl | go_num,EN,AI⟩
            case measure=>simp [intOf];omega
          · have k2:decide (g≤y)=false:=zdf t2;have EN:Hid (∀ i,i<j1→((s.L.getD i (0,0)).1≤y→(s.L.getD i (0,0)).1≤n1)∧((s.L.getD i (0,0)).2≤y→(s.L.getD i (0,0)).2≤n1)):=fun i hi'=>by
              by_cases e:i=j
              · rw [e,hq.out];exact ⟨fun h=>by omega,fun h=>by omega⟩
              · have:=EI.out i (by omega);exact ⟨fun h=>by have:=this.1 h;omega,fun h=>by have:=this.2 h;omega⟩
            go_wp2
            go_roundw
            case rel=>exact ⟨j1,n1,rfl,by omega,by omega,by omega,by first | rfl | go_num,EN,AI⟩
            case measure=>simp [intOf];omega
        · have k1:decide (f≤y)=false:=zdf t1
          by_cases t2:g≤y
          · have k2:decide (g≤y)=true:=zdt t2;obtain ⟨n2,hn2⟩:∃ n2,(if nx<g then g else nx)=n2:=⟨_,rfl⟩;have mn2:max nx g=n2:=by rw [← hn2];omega
            have n2f:(nx<g∧n2=g)∨(g≤nx∧n2=nx):=by rw [← hn2];split <;> omega
            have EN:Hid (∀ i,i<j1→((s.L.getD i (0,0)).1≤y→(s.L.getD i (0,0)).1≤n2)∧((s.L.getD i (0,0)).2≤y→(s.L.getD i (0,0)).2≤n2)):=fun i hi'=>by
              by_cases e:i=j
              · rw [e,hq.out];exact ⟨fun h=>by omega,fun h=>by omega⟩
              · have:=EI.out i (by omega);exact ⟨fun h=>by have:=this.1 h;omega,fun h=>by have:=this.2 h;omega⟩
            go_wp2
            go_roundw
            case rel=>exact ⟨j1,n2,rfl,by omega,by omega,by omega,by first | rfl | go_num,EN,AI⟩
            case measure=>simp [intOf];omega
          · have k2:decide (g≤y)=false:=zdf t2;have EN:Hid (∀ i,i<j1→((s.L.getD i (0,0)).1≤y→(s.L.getD i (0,0)).1≤nx)∧((s.L.getD i (0,0)).2≤y→(s.L.getD i (0,0)).2≤nx)):=fun i hi'=>by
              by_cases e:i=j
              · rw [e,hq.out];exact ⟨fun h=>by omega,fun h=>by omega⟩
              · have:=EI.out i (by omega);exact ⟨fun h=>by have:=this.1 h;omega,fun h=>by have:=this.2 h;omega⟩
            go_wp2
            go_roundw
            case rel=>exact ⟨j1,nx,rfl,by omega,by omega,by omega,by first | rfl | go_num,EN,AI⟩
            case measure=>simp [intOf];omega
      · have kz:decide ((j:Int)<(s.L.length:Int))=false:=zdf (by omega);have hj2:j=s.L.length:=by omega
        subst hj2;have ES:Hid (∀ q,q∈s.L→(q.1≤y→q.1≤nx)∧(q.2≤y→q.2≤nx)):=fun q hq=>by
          obtain ⟨i,hi',rfl⟩:=mem_getD hq;exact EI.out i (by omega)
        obtain ⟨ka,kb,kc,kd⟩:=K1.out nx nx1;have GO:Hid (∀ z,nx<z→z≤y→¬ Chg (hsT s) z):=ST9.out y nx c1 c2 o1 o2 (by rw [hya.out];exact B1.out) ka B2.out kb kc kd ES.out;have SN:Hid (∀ z,nx - 1<z→z≤x→hsT s z=false):=fun z h1 h2=>by
          by_cases e:y<z
          · exact SX.out z e h2
          · have nc:=no_chg (f:=hsT s) (u:=nx) (y - nx).toNat (fun c i k=>GO.out c i (by omega));rw [nc z (by omega) (by omega),← nc y (by omega) (by omega)];exact fy.out
        clear EI ES K1 ka kb kc kd B1 B2 ST9 hya cb0 cb1 cc0 cc1 kz GO SX fy;have wm:IntKind.i64.wrap (nx - 1)=nx - 1:=by rw [IntKind.wrap_i64];omega
        by_cases big:nx - 1 < -4398046511104
        · have kg:decide (nx - 1 < -4398046511104)=true:=zdt big;have RS:Hid (NxP (hsT s) x 0 false):=⟨fun h=>(by cases h),fun _=>⟨rfl,fun z h1 h2=>SN.out z (by omega) h2⟩⟩;go_wp2
          go_ret2
          exact ⟨⟨_,_,rfl,RS.out⟩,down AF.out AI.out⟩
        · have kg:decide (nx - 1 < -4398046511104)=false:=zdf big;go_wp2
          go_roundw
          case rel=>exact ⟨nx - 1,by omega,by omega,by first | rfl | go_num,SN,AI⟩
          case measure=>simp [intOf];omega
end Go.Proofs.YtmamlgaogpkagaaGreat
