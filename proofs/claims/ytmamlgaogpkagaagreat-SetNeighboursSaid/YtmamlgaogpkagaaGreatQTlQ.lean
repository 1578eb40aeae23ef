/- TlQ. -/
import Derived.Test.YtmamlgaogpkagaaGreatQLPlain
import Derived.Test.YtmamlgaogpkagaaGreatQLGen
import Derived.Test.YtmamlgaogpkagaaGreatQLSl
import Derived.Test.YtmamlgaogpkagaaGreatQRnKF
import Derived.Test.YtmamlgaogpkagaaGreatQPeKJ
import Derived.Test.YtmamlgaogpkagaaGreatQTsGa
import Derived.Test.YtmamlgaogpkagaaGreatQTvB
import Derived.Test.YtmamlgaogpkagaaGreatQTvI
import Derived.Test.YtmamlgaogpkagaaGreatQTvL
import Derived.Test.YtmamlgaogpkagaaGreatQTvMa
import Derived.Test.YtmamlgaogpkagaaGreatQTrA
import Derived.Test.YtmamlgaogpkagaaGreatQTrI
import Derived.Test.YtmamlgaogpkagaaGreatQTrJ
import Derived.Test.YtmamlgaogpkagaaGreatQTrK
import Derived.StillTailTactics
import Derived.BigQuiet
import Derived.Deep.QuietTactic
namespace Go.Proofs.YtmamlgaogpkagaaGreat
open Go.RowKit
set_option linter.unusedVariables false
set_option linter.unusedSimpArgs false
set_option maxRecDepth 100000 in
set_option maxHeartbeats 6000000 in
theorem plnear (s:TS) (vsa vsb vsl:Value) (tis:TsI s) (x:Int) (hx:I64 x) (w:World) (hs:SS3 w s vsa vsb vsl) :
    Calls Tryz.prog 7 #[.agg #[.int .i64 s.P,vsa,.int .i64 s.Q,vsb,.int .i64 s.a,.int .i64 s.b,vsl],.int .i64 x] w fun e w'=>e=.returned (.bool true)∧Below w.heap.size w w':=by
  obtain ⟨osa,csa,rfl⟩:=prs_shape hs.a;obtain ⟨osb,csb,rfl⟩:=prs_shape hs.b;obtain ⟨osl,csl,rfl⟩:=prs_shape hs.l;have AF_0:=zh (grow (here w) (.cells #[.int .i64 s.P,.slice osa s.A.length csa,.int .i64 s.Q,.slice osb s.B.length csb,.int .i64 s.a,.int .i64 s.b,.slice osl s.L.length csl] 26));have Ts_0:=zh (Bxs.new (w:=w) [.int .i64 s.P,.slice osa s.A.length csa,.int .i64 s.Q,.slice osb s.B.length csb,.int .i64 s.a,.int .i64 s.b,.slice osl s.L.length csl] 26);have Ss_0:=zh (hs.keep AF_0.out);have AW:=zh (fun W=>lawake W);have LG0:=zh (fun W bk (h:Bxs W bk [.int .i64 s.P,.slice osa s.A.length csa,.int .i64 s.Q,.slice osb s.B.length csb,.int .i64 s.a,.int .i64 s.b,.slice osl s.L.length csl])=>llarge1s s _ _ _ _ _ _ W bk h);have LG:Hid (∀ W bk,Bxs W bk [.int .i64 s.P,.slice osa s.A.length csa,.int .i64 s.Q,.slice osb s.B.length csb,.int .i64 s.a,.int .i64 s.b,.slice osl s.L.length csl]→Calls Tryz.prog 15 #[.slice (some ⟨bk,0,none⟩) 1 1] W fun e w'=>e=.returned (.bool (lgB s))∧Below W.heap.size W w'):=LG0;clear LG0;obtain ⟨lg,hlg⟩:∃ lg,(lgB s)=lg:=⟨_,rfl⟩;rw [hlg] at LG;clear hs
  cases lg
  rotate_left
  · clear tis hx hlg
    go_enter Tryz.func7,Tryz.ntmps7
    obtain ⟨aa,ab,ac,ad,ae,af,ag,ah⟩:=Ts_0.out.z7;go_wp2_with fail
    clear aa ab ac ad ae af ag ah;generalize (w.alloc (.cells #[.int .i64 s.P,.slice osa s.A.length csa,.int .i64 s.Q,.slice osb s.B.length csb,.int .i64 s.a,.int .i64 s.b,.slice osl s.L.length csl] 26))=w0 at *;refine (AW.out _).mono ?_;rintro e w1 ⟨rfl,hb⟩;have AF_1:=zd AF_0 hb;have Ts_1:=zh (Ts_0.out.keep hb);have Ss_1:=zh (Ss_0.out.keep hb);clear hb AF_0 Ts_0 Ss_0;obtain ⟨ai,aj,ak,al,am,an,ao,ap⟩:=Ts_1.out.z7;have gb:=grow (here w1) (.cells #[.int .i64 s.P,.slice osa s.A.length csa,.int .i64 s.Q,.slice osb s.B.length csb,.int .i64 s.a,.int .i64 s.b,.slice osl s.L.length csl] 26);have AF_2:=zd AF_1 gb;have Ts_2:=zh (Ts_1.out.keep gb);have Ss_2:=zh (Ss_1.out.keep gb);have G_2:=zh (Bxs.new (w:=w1) [.int .i64 s.P,.slice osa s.A.length csa,.int .i64 s.Q,.slice osb s.B.length csb,.int .i64 s.a,.int .i64 s.b,.slice osl s.L.length csl] 26);clear gb AF_1 Ts_1 Ss_1;obtain ⟨aa,ab,ac,ad,ae,af,ag,ah⟩:=Ts_2.out.z7;obtain ⟨aq,ar,au,av,aw,ax,ay,az⟩:=G_2.out.z7;go_wp2_with fail
    clear aa ab ac ad ae af ag aq ar au av aw ax ay ah az;generalize (w1.alloc (.cells #[.int .i64 s.P,.slice osa s.A.length csa,.int .i64 s.Q,.slice osb s.B.length csb,.int .i64 s.a,.int .i64 s.b,.slice osl s.L.length csl] 26))=w2 at *;refine (LG.out _ _ G_2.out).mono ?_;rintro e w3 ⟨rfl,hb⟩;have AF_3:=zd AF_2 hb;have Ts_3:=zh (Ts_2.out.keep hb);have G_3:=zh (G_2.out.keep hb);have Ss_3:=zh (Ss_2.out.keep hb);clear hb AF_2 Ts_2 G_2 Ss_2;clear ai aj ak al am an ao ap;obtain ⟨aa,ab,ac,ad,ae,af,ag,ah⟩:=Ts_3.out.z7;go_wp2
    go_ret
    exact ⟨rfl,AF_3.out⟩
  have U1:=zh (fun W (h:SS3 W s (.slice osa s.A.length csa) (.slice osb s.B.length csb) (.slice osl s.L.length csl))=>tvnext s _ _ _ tis x hx W h);have U2:=zh (fun W (h:SS3 W s (.slice osa s.A.length csa) (.slice osb s.B.length csb) (.slice osl s.L.length csl))=>tvprev s _ _ _ tis x hx W h);have U3:=zh (fun W (h:SS3 W s (.slice osa s.A.length csa) (.slice osb s.B.length csb) (.slice osl s.L.length csl))=>tvchg s _ _ _ tis x hx W h);have RV:=zh (fun W (h:SS3 W s (.slice osa s.A.length csa) (.slice osb s.B.length csb) (.slice osl s.L.length csl))=>rtvalid s _ _ _ tis W h);have R10:=fun (v:VS s)=>zh (fun W (h:SS3 W s (.slice osa s.A.length csa) (.slice osb s.B.length csb) (.slice osl s.L.length csl))=>rtnext s v _ _ _ x hx W h);have R20:=fun (v:VS s)=>zh (fun W (h:SS3 W s (.slice osa s.A.length csa) (.slice osb s.B.length csb) (.slice osl s.L.length csl))=>rtprev s v _ _ _ x hx W h);have R30:=fun (v:VS s)=>zh (fun W (h:SS3 W s (.slice osa s.A.length csa) (.slice osb s.B.length csb) (.slice osl s.L.length csl))=>rtchange s v _ _ _ x hx W h);clear tis hx hlg
  cases v:vsB s
  · rw [v] at U1 U2 U3 RV;rw [Bool.false_and] at U1 U2 U3;clear R10 R20 R30 v
    go_enter Tryz.func7,Tryz.ntmps7
    obtain ⟨aa,ab,ac,ad,ae,af,ag,ah⟩:=Ts_0.out.z7;go_wp2_with fail
    clear aa ab ac ad ae af ag ah;generalize (w.alloc (.cells #[.int .i64 s.P,.slice osa s.A.length csa,.int .i64 s.Q,.slice osb s.B.length csb,.int .i64 s.a,.int .i64 s.b,.slice osl s.L.length csl] 26))=w0 at *;refine (AW.out _).mono ?_;rintro e w1 ⟨rfl,hb⟩;have AF_1:=zd AF_0 hb;have Ts_1:=zh (Ts_0.out.keep hb);have Ss_1:=zh (Ss_0.out.keep hb);clear hb AF_0 Ts_0 Ss_0;obtain ⟨ai,aj,ak,al,am,an,ao,ap⟩:=Ts_1.out.z7;have gb:=grow (here w1) (.cells #[.int .i64 s.P,.slice osa s.A.length csa,.int .i64 s.Q,.slice osb s.B.length csb,.int .i64 s.a,.int .i64 s.b,.slice osl s.L.length csl] 26);have AF_2:=zd AF_1 gb;have Ts_2:=zh (Ts_1.out.keep gb);have Ss_2:=zh (Ss_1.out.keep gb);have G_2:=zh (Bxs.new (w:=w1) [.int .i64 s.P,.slice osa s.A.length csa,.int .i64 s.Q,.slice osb s.B.length csb,.int .i64 s.a,.int .i64 s.b,.slice osl s.L.length csl] 26);clear gb AF_1 Ts_1 Ss_1;obtain ⟨aa,ab,ac,ad,ae,af,ag,ah⟩:=Ts_2.out.z7;obtain ⟨aq,ar,au,av,aw,ax,ay,az⟩:=G_2.out.z7;go_wp2_with fail
    clear aa ab ac ad ae af ag aq ar au av aw ax ay ah az;generalize (w1.alloc (.cells #[.int .i64 s.P,.slice osa s.A.length csa,.int .i64 s.Q,.slice osb s.B.length csb,.int .i64 s.a,.int .i64 s.b,.slice osl s.L.length csl] 26))=w2 at *;refine (LG.out _ _ G_2.out).mono ?_;rintro e w3 ⟨rfl,hb⟩;have AF_3:=zd AF_2 hb;have Ts_3:=zh (Ts_2.out.keep hb);have G_3:=zh (G_2.out.keep hb);have Ss_3:=zh (Ss_2.out.keep hb);clear hb AF_2 Ts_2 G_2 Ss_2;clear ai aj ak al am an ao ap;obtain ⟨aa,ab,ac,ad,ae,af,ag,ah⟩:=Ts_3.out.z7;go_wp2_with fail
    clear aa ab ac ad ae af ag ah;refine (U1.out _ Ss_3.out).mono ?_;rintro e w4 ⟨⟨y1,o1,rfl,n9⟩,hb⟩;have AF_4:=zd AF_3 hb;have Ts_4:=zh (Ts_3.out.keep hb);have Ss_4:=zh (Ss_3.out.keep hb);clear hb AF_3 Ts_3 Ss_3;have F1:=n9;clear n9;obtain ⟨aa,ab,ac,ad,ae,af,ag,ah⟩:=Ts_4.out.z7;go_wp2_with fail
    clear aa ab ac ad ae af ag ah;refine (U2.out _ Ss_4.out).mono ?_;rintro e w5 ⟨⟨y2,o2,rfl,n9⟩,hb⟩;have AF_5:=zd AF_4 hb;have Ts_5:=zh (Ts_4.out.keep hb);have Ss_5:=zh (Ss_4.out.keep hb);clear hb AF_4 Ts_4 Ss_4;have F2:=n9;clear n9;obtain ⟨aa,ab,ac,ad,ae,af,ag,ah⟩:=Ts_5.out.z7;go_wp2_with fail
    clear aa ab ac ad ae af ag ah;refine (U3.out _ Ss_5.out).mono ?_;rintro e w6 ⟨⟨y3,o3,rfl,n9⟩,hb⟩;have AF_6:=zd AF_5 hb;have Ts_6:=zh (Ts_5.out.keep hb);have Ss_6:=zh (Ss_5.out.keep hb);clear hb AF_5 Ts_5 Ss_5;have F3:=n9;clear n9;obtain ⟨rfl,rfl⟩:=F1.2 rfl;obtain ⟨rfl,rfl⟩:=F2.2 rfl;obtain ⟨rfl,rfl⟩:=F3.2 rfl;obtain ⟨aa,ab,ac,ad,ae,af,ag,ah⟩:=Ts_6.out.z7;go_wp2_with fail
    clear aa ab ac ad ae af ag ah;refine (RV.out _ Ss_6.out).mono ?_;rintro e w7 ⟨rfl,hb⟩;have AF_7:=zd AF_6 hb;have Ts_7:=zh (Ts_6.out.keep hb);have Ss_7:=zh (Ss_6.out.keep hb);clear hb AF_6 Ts_6 Ss_6;obtain ⟨aa,ab,ac,ad,ae,af,ag,ah⟩:=Ts_7.out.z7;go_wp2
    go_ret
    exact ⟨rfl,AF_7.out⟩
  · rw [v] at RV;have R1:=R10 (vs_ok.1 v);have R2:=R20 (vs_ok.1 v);have R3:=R30 (vs_ok.1 v);have E1:Hid (∀ (y y':Int) (o o':Bool),NbR (vsB s&&nvB x) (NxN (hsT s) x) y o→((nvB x=true→NxN (hsT s) x y' o')∧(nvB x=false→y'=0∧o'=false))→y=y'∧o=o'):=fun y y' o o' h k=>by
      cases q:nvB x
      · obtain ⟨a,b⟩:=h.2 (by rw [q,Bool.and_false]);obtain ⟨c,d⟩:=k.2 q;exact ⟨a.trans c.symm,b.trans d.symm⟩
      · exact (h.1 (by rw [v,q];rfl)).unique (k.1 q)
    have E2:Hid (∀ (y y':Int) (o o':Bool),NbR (vsB s&&nvB x) (NxP (hsT s) x) y o→((nvB x=true→NxP (hsT s) x y' o')∧(nvB x=false→y'=0∧o'=false))→y=y'∧o=o'):=fun y y' o o' h k=>by
      cases q:nvB x
      · obtain ⟨a,b⟩:=h.2 (by rw [q,Bool.and_false]);obtain ⟨c,d⟩:=k.2 q;exact ⟨a.trans c.symm,b.trans d.symm⟩
      · exact (h.1 (by rw [v,q];rfl)).unique (k.1 q)
    have E3:Hid (∀ (y y':Int) (o o':Bool),NbR (vsB s&&nvB x) (NxC (hsT s) x) y o→((nvB x=true→NxC (hsT s) x y' o')∧(nvB x=false→y'=0∧o'=false))→y=y'∧o=o'):=fun y y' o o' h k=>by
      cases q:nvB x
      · obtain ⟨a,b⟩:=h.2 (by rw [q,Bool.and_false]);obtain ⟨c,d⟩:=k.2 q;exact ⟨a.trans c.symm,b.trans d.symm⟩
      · exact (h.1 (by rw [v,q];rfl)).unique (k.1 q)
    clear R10 R20 R30 v
    go_enter Tryz.func7,Tryz.ntmps7
    obtain ⟨aa,ab,ac,ad,ae,af,ag,ah⟩:=Ts_0.out.z7;go_wp2_with fail
    clear aa ab ac ad ae af ag ah;generalize (w.alloc (.cells #[.int .i64 s.P,.slice osa s.A.length csa,.int .i64 s.Q,.slice osb s.B.length csb,.int .i64 s.a,.int .i64 s.b,.slice osl s.L.length csl] 26))=w0 at *;refine (AW.out _).mono ?_;rintro e w1 ⟨rfl,hb⟩;have AF_1:=zd AF_0 hb;have Ts_1:=zh (Ts_0.out.keep hb);have Ss_1:=zh (Ss_0.out.keep hb);clear hb AF_0 Ts_0 Ss_0;obtain ⟨ai,aj,ak,al,am,an,ao,ap⟩:=Ts_1.out.z7;have gb:=grow (here w1) (.cells #[.int .i64 s.P,.slice osa s.A.length csa,.int .i64 s.Q,.slice osb s.B.length csb,.int .i64 s.a,.int .i64 s.b,.slice osl s.L.length csl] 26);have AF_2:=zd AF_1 gb;have Ts_2:=zh (Ts_1.out.keep gb);have Ss_2:=zh (Ss_1.out.keep gb);have G_2:=zh (Bxs.new (w:=w1) [.int .i64 s.P,.slice osa s.A.length csa,.int .i64 s.Q,.slice osb s.B.length csb,.int .i64 s.a,.int .i64 s.b,.slice osl s.L.length csl] 26);clear gb AF_1 Ts_1 Ss_1;obtain ⟨aa,ab,ac,ad,ae,af,ag,ah⟩:=Ts_2.out.z7;obtain ⟨aq,ar,au,av,aw,ax,ay,az⟩:=G_2.out.z7;go_wp2_with fail
    clear aa ab ac ad ae af ag aq ar au av aw ax ay ah az;generalize (w1.alloc (.cells #[.int .i64 s.P,.slice osa s.A.length csa,.int .i64 s.Q,.slice osb s.B.length csb,.int .i64 s.a,.int .i64 s.b,.slice osl s.L.length csl] 26))=w2 at *;refine (LG.out _ _ G_2.out).mono ?_;rintro e w3 ⟨rfl,hb⟩;have AF_3:=zd AF_2 hb;have Ts_3:=zh (Ts_2.out.keep hb);have G_3:=zh (G_2.out.keep hb);have Ss_3:=zh (Ss_2.out.keep hb);clear hb AF_2 Ts_2 G_2 Ss_2;clear ai aj ak al am an ao ap;obtain ⟨aa,ab,ac,ad,ae,af,ag,ah⟩:=Ts_3.out.z7;go_wp2_with fail
    clear aa ab ac ad ae af ag ah;refine (U1.out _ Ss_3.out).mono ?_;rintro e w4 ⟨⟨y1,o1,rfl,n9⟩,hb⟩;have AF_4:=zd AF_3 hb;have Ts_4:=zh (Ts_3.out.keep hb);have Ss_4:=zh (Ss_3.out.keep hb);clear hb AF_3 Ts_3 Ss_3;have F1:=n9;clear n9;obtain ⟨aa,ab,ac,ad,ae,af,ag,ah⟩:=Ts_4.out.z7;go_wp2_with fail
    clear aa ab ac ad ae af ag ah;refine (U2.out _ Ss_4.out).mono ?_;rintro e w5 ⟨⟨y2,o2,rfl,n9⟩,hb⟩;have AF_5:=zd AF_4 hb;have Ts_5:=zh (Ts_4.out.keep hb);have Ss_5:=zh (Ss_4.out.keep hb);clear hb AF_4 Ts_4 Ss_4;have F2:=n9;clear n9;obtain ⟨aa,ab,ac,ad,ae,af,ag,ah⟩:=Ts_5.out.z7;go_wp2_with fail
    clear aa ab ac ad ae af ag ah;refine (U3.out _ Ss_5.out).mono ?_;rintro e w6 ⟨⟨y3,o3,rfl,n9⟩,hb⟩;have AF_6:=zd AF_5 hb;have Ts_6:=zh (Ts_5.out.keep hb);have Ss_6:=zh (Ss_5.out.keep hb);clear hb AF_5 Ts_5 Ss_5;have F3:=n9;clear n9;obtain ⟨aa,ab,ac,ad,ae,af,ag,ah⟩:=Ts_6.out.z7;go_wp2_with fail
    clear aa ab ac ad ae af ag ah;refine (RV.out _ Ss_6.out).mono ?_;rintro e w7 ⟨rfl,hb⟩;have AF_7:=zd AF_6 hb;have Ts_7:=zh (Ts_6.out.keep hb);have Ss_7:=zh (Ss_6.out.keep hb);clear hb AF_6 Ts_6 Ss_6;obtain ⟨aa,ab,ac,ad,ae,af,ag,ah⟩:=Ts_7.out.z7;go_wp2_with fail
    clear aa ab ac ad ae af ag ah;refine (R1.out _ Ss_7.out).mono ?_;rintro e w8 ⟨⟨z1,p1,rfl,n9⟩,hb⟩;have AF_8:=zd AF_7 hb;have Ts_8:=zh (Ts_7.out.keep hb);have Ss_8:=zh (Ss_7.out.keep hb);clear hb AF_7 Ts_7 Ss_7;have G1:=n9;clear n9;obtain ⟨e1,e2⟩:=E1.out _ _ _ _ F1 G1;subst e1;subst e2;clear F1 G1;obtain ⟨aa,ab,ac,ad,ae,af,ag,ah⟩:=Ts_8.out.z7;go_wp2_with fail
    clear aa ab ac ad ae af ag ah;refine (R2.out _ Ss_8.out).mono ?_;rintro e w9 ⟨⟨z2,p2,rfl,n9⟩,hb⟩;have AF_9:=zd AF_8 hb;have Ts_9:=zh (Ts_8.out.keep hb);have Ss_9:=zh (Ss_8.out.keep hb);clear hb AF_8 Ts_8 Ss_8;have G2:=n9;clear n9;obtain ⟨e1,e2⟩:=E2.out _ _ _ _ F2 G2;subst e1;subst e2;clear F2 G2;obtain ⟨aa,ab,ac,ad,ae,af,ag,ah⟩:=Ts_9.out.z7;go_wp2_with fail
    clear aa ab ac ad ae af ag ah;refine (R3.out _ Ss_9.out).mono ?_;rintro e w10 ⟨⟨z3,p3,rfl,n9⟩,hb⟩;have AF_10:=zd AF_9 hb;have Ts_10:=zh (Ts_9.out.keep hb);have Ss_10:=zh (Ss_9.out.keep hb);clear hb AF_9 Ts_9 Ss_9;have G3:=n9;clear n9;obtain ⟨e1,e2⟩:=E3.out _ _ _ _ F3 G3;subst e1;subst e2;clear F3 G3;obtain ⟨aa,ab,ac,ad,ae,af,ag,ah⟩:=Ts_10.out.z7;go_wp2
    go_ret
    exact ⟨rfl,AF_10.out⟩
end Go.Proofs.YtmamlgaogpkagaaGreat
