/- TlK. -/
import Derived.Test.YtmamlgaogpkagaaGreatQLPlain
import Derived.Test.YtmamlgaogpkagaaGreatQLGen
import Derived.Test.YtmamlgaogpkagaaGreatQLSl
import Derived.Test.YtmamlgaogpkagaaGreatQRnKF
import Derived.Test.YtmamlgaogpkagaaGreatQPeKD
import Derived.Test.YtmamlgaogpkagaaGreatQPeKJ
import Derived.Test.YtmamlgaogpkagaaGreatQTsGa
import Derived.Test.YtmamlgaogpkagaaGreatQTvB
import Derived.Test.YtmamlgaogpkagaaGreatQTvI
import Derived.Test.YtmamlgaogpkagaaGreatQTvL
import Derived.Test.YtmamlgaogpkagaaGreatQTvMa
import Derived.Test.YtmamlgaogpkagaaGreatQTsCl
import Derived.Test.YtmamlgaogpkagaaGreatQTrA
import Derived.StillTailTactics
import Derived.BigQuiet
import Derived.Deep.QuietTactic
namespace Go.Proofs.YtmamlgaogpkagaaGreat
open Go.RowKit
set_option linter.unusedVariables false
set_option linter.unusedSimpArgs false
set_option maxRecDepth 100000 in
set_option maxHeartbeats 6000000 in
theorem plwalks (s:TS) (vsa vsb vsl:Value) (tis:TsI s) (x:Int) (hx:I64 x) (d:Int) (hd:0≤d∧d≤255) (w:World) (hs:SS3 w s vsa vsb vsl) :
    Calls Tryz.prog 10 #[.agg #[.int .i64 s.P,vsa,.int .i64 s.Q,vsb,.int .i64 s.a,.int .i64 s.b,vsl],.int .i64 x,.int .u8 d] w fun e w'=>e=.returned (.bool true)∧Below w.heap.size w w':=by
  obtain ⟨osa,csa,rfl⟩:=prs_shape hs.a;obtain ⟨osb,csb,rfl⟩:=prs_shape hs.b;obtain ⟨osl,csl,rfl⟩:=prs_shape hs.l;have AF_0:=zh (grow (here w) (.cells #[.int .i64 s.P,.slice osa s.A.length csa,.int .i64 s.Q,.slice osb s.B.length csb,.int .i64 s.a,.int .i64 s.b,.slice osl s.L.length csl] 26));have Ts_0:=zh (Bxs.new (w:=w) [.int .i64 s.P,.slice osa s.A.length csa,.int .i64 s.Q,.slice osb s.B.length csb,.int .i64 s.a,.int .i64 s.b,.slice osl s.L.length csl] 26);have Ss_0:=zh (hs.keep AF_0.out);have AW:=zh (fun W=>lawake W);have LG0:=zh (fun W bk (h:Bxs W bk [.int .i64 s.P,.slice osa s.A.length csa,.int .i64 s.Q,.slice osb s.B.length csb,.int .i64 s.a,.int .i64 s.b,.slice osl s.L.length csl])=>llarge1s s _ _ _ _ _ _ W bk h);have LG:Hid (∀ W bk,Bxs W bk [.int .i64 s.P,.slice osa s.A.length csa,.int .i64 s.Q,.slice osb s.B.length csb,.int .i64 s.a,.int .i64 s.b,.slice osl s.L.length csl]→Calls Tryz.prog 15 #[.slice (some ⟨bk,0,none⟩) 1 1] W fun e w'=>e=.returned (.bool (lgB s))∧Below W.heap.size W w'):=LG0;clear LG0;obtain ⟨lg,hlg⟩:∃ lg,(lgB s)=lg:=⟨_,rfl⟩;rw [hlg] at LG;clear hs
  cases lg
  rotate_left
  · clear tis hlg
    go_enter Tryz.func10,Tryz.ntmps10
    obtain ⟨aa,ab,ac,ad,ae,af,ag,ah⟩:=Ts_0.out.z7;go_wp2_with fail
    clear aa ab ac ad ae af ag ah;generalize (w.alloc (.cells #[.int .i64 s.P,.slice osa s.A.length csa,.int .i64 s.Q,.slice osb s.B.length csb,.int .i64 s.a,.int .i64 s.b,.slice osl s.L.length csl] 26))=w0 at *;refine (AW.out _).mono ?_;rintro e w1 ⟨rfl,hb⟩;have AF_1:=zd AF_0 hb;have Ts_1:=zh (Ts_0.out.keep hb);have Ss_1:=zh (Ss_0.out.keep hb);clear hb AF_0 Ts_0 Ss_0;obtain ⟨ai,aj,ak,al,am,an,ao,ap⟩:=Ts_1.out.z7;have gb:=grow (here w1) (.cells #[.int .i64 s.P,.slice osa s.A.length csa,.int .i64 s.Q,.slice osb s.B.length csb,.int .i64 s.a,.int .i64 s.b,.slice osl s.L.length csl] 26);have AF_2:=zd AF_1 gb;have Ts_2:=zh (Ts_1.out.keep gb);have Ss_2:=zh (Ss_1.out.keep gb);have G_2:=zh (Bxs.new (w:=w1) [.int .i64 s.P,.slice osa s.A.length csa,.int .i64 s.Q,.slice osb s.B.length csb,.int .i64 s.a,.int .i64 s.b,.slice osl s.L.length csl] 26);clear gb AF_1 Ts_1 Ss_1;obtain ⟨aa,ab,ac,ad,ae,af,ag,ah⟩:=Ts_2.out.z7;obtain ⟨aq,ar,au,av,aw,ax,ay,az⟩:=G_2.out.z7;go_wp2_with fail
    clear aa ab ac ad ae af ag aq ar au av aw ax ay ah az;generalize (w1.alloc (.cells #[.int .i64 s.P,.slice osa s.A.length csa,.int .i64 s.Q,.slice osb s.B.length csb,.int .i64 s.a,.int .i64 s.b,.slice osl s.L.length csl] 26))=w2 at *;refine (LG.out _ _ G_2.out).mono ?_;rintro e w3 ⟨rfl,hb⟩;have AF_3:=zd AF_2 hb;have Ts_3:=zh (Ts_2.out.keep hb);have G_3:=zh (G_2.out.keep hb);have Ss_3:=zh (Ss_2.out.keep hb);clear hb AF_2 Ts_2 G_2 Ss_2;clear ai aj ak al am an ao ap;obtain ⟨aa,ab,ac,ad,ae,af,ag,ah⟩:=Ts_3.out.z7;go_wp2
    go_ret
    exact ⟨rfl,AF_3.out⟩
  have RV:=zh (fun W (h:SS3 W s (.slice osa s.A.length csa) (.slice osb s.B.length csb) (.slice osl s.L.length csl))=>rtvalid s _ _ _ tis W h)
  cases v:vsB s
  · rw [v] at RV;clear tis hlg v
    go_enter Tryz.func10,Tryz.ntmps10
    obtain ⟨aa,ab,ac,ad,ae,af,ag,ah⟩:=Ts_0.out.z7;go_wp2_with fail
    clear aa ab ac ad ae af ag ah;generalize (w.alloc (.cells #[.int .i64 s.P,.slice osa s.A.length csa,.int .i64 s.Q,.slice osb s.B.length csb,.int .i64 s.a,.int .i64 s.b,.slice osl s.L.length csl] 26))=w0 at *;refine (AW.out _).mono ?_;rintro e w1 ⟨rfl,hb⟩;have AF_1:=zd AF_0 hb;have Ts_1:=zh (Ts_0.out.keep hb);have Ss_1:=zh (Ss_0.out.keep hb);clear hb AF_0 Ts_0 Ss_0;obtain ⟨ai,aj,ak,al,am,an,ao,ap⟩:=Ts_1.out.z7;have gb:=grow (here w1) (.cells #[.int .i64 s.P,.slice osa s.A.length csa,.int .i64 s.Q,.slice osb s.B.length csb,.int .i64 s.a,.int .i64 s.b,.slice osl s.L.length csl] 26);have AF_2:=zd AF_1 gb;have Ts_2:=zh (Ts_1.out.keep gb);have Ss_2:=zh (Ss_1.out.keep gb);have G_2:=zh (Bxs.new (w:=w1) [.int .i64 s.P,.slice osa s.A.length csa,.int .i64 s.Q,.slice osb s.B.length csb,.int .i64 s.a,.int .i64 s.b,.slice osl s.L.length csl] 26);clear gb AF_1 Ts_1 Ss_1;obtain ⟨aa,ab,ac,ad,ae,af,ag,ah⟩:=Ts_2.out.z7;obtain ⟨aq,ar,au,av,aw,ax,ay,az⟩:=G_2.out.z7;go_wp2_with fail
    clear aa ab ac ad ae af ag aq ar au av aw ax ay ah az;generalize (w1.alloc (.cells #[.int .i64 s.P,.slice osa s.A.length csa,.int .i64 s.Q,.slice osb s.B.length csb,.int .i64 s.a,.int .i64 s.b,.slice osl s.L.length csl] 26))=w2 at *;refine (LG.out _ _ G_2.out).mono ?_;rintro e w3 ⟨rfl,hb⟩;have AF_3:=zd AF_2 hb;have Ts_3:=zh (Ts_2.out.keep hb);have G_3:=zh (G_2.out.keep hb);have Ss_3:=zh (Ss_2.out.keep hb);clear hb AF_2 Ts_2 G_2 Ss_2;clear ai aj ak al am an ao ap;obtain ⟨aa,ab,ac,ad,ae,af,ag,ah⟩:=Ts_3.out.z7;go_wp2_with fail
    clear aa ab ac ad ae af ag ah;refine (RV.out _ Ss_3.out).mono ?_;rintro e w4 ⟨rfl,hb⟩;have AF_4:=zd AF_3 hb;have Ts_4:=zh (Ts_3.out.keep hb);have Ss_4:=zh (Ss_3.out.keep hb);clear hb AF_3 Ts_3 Ss_3;obtain ⟨aa,ab,ac,ad,ae,af,ag,ah⟩:=Ts_4.out.z7;go_wp2
    go_ret
    exact ⟨rfl,AF_4.out⟩
  rw [v] at RV
  by_cases x0:x < -10000
  · have k0:decide (x < -10000)=true:=zdt x0;clear tis hlg v
    go_enter Tryz.func10,Tryz.ntmps10
    obtain ⟨aa,ab,ac,ad,ae,af,ag,ah⟩:=Ts_0.out.z7;go_wp2_with fail
    clear aa ab ac ad ae af ag ah;generalize (w.alloc (.cells #[.int .i64 s.P,.slice osa s.A.length csa,.int .i64 s.Q,.slice osb s.B.length csb,.int .i64 s.a,.int .i64 s.b,.slice osl s.L.length csl] 26))=w0 at *;refine (AW.out _).mono ?_;rintro e w1 ⟨rfl,hb⟩;have AF_1:=zd AF_0 hb;have Ts_1:=zh (Ts_0.out.keep hb);have Ss_1:=zh (Ss_0.out.keep hb);clear hb AF_0 Ts_0 Ss_0;obtain ⟨ai,aj,ak,al,am,an,ao,ap⟩:=Ts_1.out.z7;have gb:=grow (here w1) (.cells #[.int .i64 s.P,.slice osa s.A.length csa,.int .i64 s.Q,.slice osb s.B.length csb,.int .i64 s.a,.int .i64 s.b,.slice osl s.L.length csl] 26);have AF_2:=zd AF_1 gb;have Ts_2:=zh (Ts_1.out.keep gb);have Ss_2:=zh (Ss_1.out.keep gb);have G_2:=zh (Bxs.new (w:=w1) [.int .i64 s.P,.slice osa s.A.length csa,.int .i64 s.Q,.slice osb s.B.length csb,.int .i64 s.a,.int .i64 s.b,.slice osl s.L.length csl] 26);clear gb AF_1 Ts_1 Ss_1;obtain ⟨aa,ab,ac,ad,ae,af,ag,ah⟩:=Ts_2.out.z7;obtain ⟨aq,ar,au,av,aw,ax,ay,az⟩:=G_2.out.z7;go_wp2_with fail
    clear aa ab ac ad ae af ag aq ar au av aw ax ay ah az;generalize (w1.alloc (.cells #[.int .i64 s.P,.slice osa s.A.length csa,.int .i64 s.Q,.slice osb s.B.length csb,.int .i64 s.a,.int .i64 s.b,.slice osl s.L.length csl] 26))=w2 at *;refine (LG.out _ _ G_2.out).mono ?_;rintro e w3 ⟨rfl,hb⟩;have AF_3:=zd AF_2 hb;have Ts_3:=zh (Ts_2.out.keep hb);have G_3:=zh (G_2.out.keep hb);have Ss_3:=zh (Ss_2.out.keep hb);clear hb AF_2 Ts_2 G_2 Ss_2;clear ai aj ak al am an ao ap;obtain ⟨aa,ab,ac,ad,ae,af,ag,ah⟩:=Ts_3.out.z7;go_wp2_with fail
    clear aa ab ac ad ae af ag ah;refine (RV.out _ Ss_3.out).mono ?_;rintro e w4 ⟨rfl,hb⟩;have AF_4:=zd AF_3 hb;have Ts_4:=zh (Ts_3.out.keep hb);have Ss_4:=zh (Ss_3.out.keep hb);clear hb AF_3 Ts_3 Ss_3;obtain ⟨aa,ab,ac,ad,ae,af,ag,ah⟩:=Ts_4.out.z7;go_wp2
    go_ret
    exact ⟨rfl,AF_4.out⟩
  have k0:decide (x < -10000)=false:=zdf x0
  by_cases x1:10000<x
  · have k1:decide (10000<x)=true:=zdt x1;clear tis hlg v
    go_enter Tryz.func10,Tryz.ntmps10
    obtain ⟨aa,ab,ac,ad,ae,af,ag,ah⟩:=Ts_0.out.z7;go_wp2_with fail
    clear aa ab ac ad ae af ag ah;generalize (w.alloc (.cells #[.int .i64 s.P,.slice osa s.A.length csa,.int .i64 s.Q,.slice osb s.B.length csb,.int .i64 s.a,.int .i64 s.b,.slice osl s.L.length csl] 26))=w0 at *;refine (AW.out _).mono ?_;rintro e w1 ⟨rfl,hb⟩;have AF_1:=zd AF_0 hb;have Ts_1:=zh (Ts_0.out.keep hb);have Ss_1:=zh (Ss_0.out.keep hb);clear hb AF_0 Ts_0 Ss_0;obtain ⟨ai,aj,ak,al,am,an,ao,ap⟩:=Ts_1.out.z7;have gb:=grow (here w1) (.cells #[.int .i64 s.P,.slice osa s.A.length csa,.int .i64 s.Q,.slice osb s.B.length csb,.int .i64 s.a,.int .i64 s.b,.slice osl s.L.length csl] 26);have AF_2:=zd AF_1 gb;have Ts_2:=zh (Ts_1.out.keep gb);have Ss_2:=zh (Ss_1.out.keep gb);have G_2:=zh (Bxs.new (w:=w1) [.int .i64 s.P,.slice osa s.A.length csa,.int .i64 s.Q,.slice osb s.B.length csb,.int .i64 s.a,.int .i64 s.b,.slice osl s.L.length csl] 26);clear gb AF_1 Ts_1 Ss_1;obtain ⟨aa,ab,ac,ad,ae,af,ag,ah⟩:=Ts_2.out.z7;obtain ⟨aq,ar,au,av,aw,ax,ay,az⟩:=G_2.out.z7;go_wp2_with fail
    clear aa ab ac ad ae af ag aq ar au av aw ax ay ah az;generalize (w1.alloc (.cells #[.int .i64 s.P,.slice osa s.A.length csa,.int .i64 s.Q,.slice osb s.B.length csb,.int .i64 s.a,.int .i64 s.b,.slice osl s.L.length csl] 26))=w2 at *;refine (LG.out _ _ G_2.out).mono ?_;rintro e w3 ⟨rfl,hb⟩;have AF_3:=zd AF_2 hb;have Ts_3:=zh (Ts_2.out.keep hb);have G_3:=zh (G_2.out.keep hb);have Ss_3:=zh (Ss_2.out.keep hb);clear hb AF_2 Ts_2 G_2 Ss_2;clear ai aj ak al am an ao ap;obtain ⟨aa,ab,ac,ad,ae,af,ag,ah⟩:=Ts_3.out.z7;go_wp2_with fail
    clear aa ab ac ad ae af ag ah;refine (RV.out _ Ss_3.out).mono ?_;rintro e w4 ⟨rfl,hb⟩;have AF_4:=zd AF_3 hb;have Ts_4:=zh (Ts_3.out.keep hb);have Ss_4:=zh (Ss_3.out.keep hb);clear hb AF_3 Ts_3 Ss_3;obtain ⟨aa,ab,ac,ad,ae,af,ag,ah⟩:=Ts_4.out.z7;go_wp2
    go_ret
    exact ⟨rfl,AF_4.out⟩
  have kx:decide (10000<x)=false:=zdf x1;have vx:(vsB s&&nvB x)=true:=by rw [v,nvB_iff.2 ⟨by omega,by omega⟩];rfl
  have HAS:Hid (∀ W y,I64 y→SS3 W s (.slice osa s.A.length csa) (.slice osb s.B.length csb) (.slice osl s.L.length csl)→Calls Tryz.prog 21 #[.agg #[.int .i64 s.P,.slice osa s.A.length csa,.int .i64 s.Q,.slice osb s.B.length csb,.int .i64 s.a,.int .i64 s.b,.slice osl s.L.length csl],.int .i64 y] W fun e w'=>e=.returned (.bool (hsT s y))∧Below W.heap.size W w'):=fun W y hy h=>by have z:=tvhas s _ _ _ tis y hy W h;rw [v,Bool.true_and] at z;exact z
  have CH:=zh (fun W (h:SS3 W s (.slice osa s.A.length csa) (.slice osb s.B.length csb) (.slice osl s.L.length csl))=>tvchg s _ _ _ tis x hx W h);have NX:=zh (fun W (h:SS3 W s (.slice osa s.A.length csa) (.slice osb s.B.length csb) (.slice osl s.L.length csl))=>tvnext s _ _ _ tis x hx W h);have PV:=zh (fun W (h:SS3 W s (.slice osa s.A.length csa) (.slice osb s.B.length csb) (.slice osl s.L.length csl))=>tvprev s _ _ _ tis x hx W h);obtain ⟨d0,d1⟩:=hd;have wd:IntKind.i64.wrap d=d:=by rw [IntKind.wrap_i64];omega
  clear tis hlg v;generalize hsT s=f at *
  cases fx:f x
  · skip
    go_enter Tryz.func10,Tryz.ntmps10
    obtain ⟨aa,ab,ac,ad,ae,af,ag,ah⟩:=Ts_0.out.z7;go_wp2_with fail
    clear aa ab ac ad ae af ag ah;generalize (w.alloc (.cells #[.int .i64 s.P,.slice osa s.A.length csa,.int .i64 s.Q,.slice osb s.B.length csb,.int .i64 s.a,.int .i64 s.b,.slice osl s.L.length csl] 26))=w0 at *;refine (AW.out _).mono ?_;rintro e w1 ⟨rfl,hb⟩;have AF_1:=zd AF_0 hb;have Ts_1:=zh (Ts_0.out.keep hb);have Ss_1:=zh (Ss_0.out.keep hb);clear hb AF_0 Ts_0 Ss_0;obtain ⟨ai,aj,ak,al,am,an,ao,ap⟩:=Ts_1.out.z7;have gb:=grow (here w1) (.cells #[.int .i64 s.P,.slice osa s.A.length csa,.int .i64 s.Q,.slice osb s.B.length csb,.int .i64 s.a,.int .i64 s.b,.slice osl s.L.length csl] 26);have AF_2:=zd AF_1 gb;have Ts_2:=zh (Ts_1.out.keep gb);have Ss_2:=zh (Ss_1.out.keep gb);have G_2:=zh (Bxs.new (w:=w1) [.int .i64 s.P,.slice osa s.A.length csa,.int .i64 s.Q,.slice osb s.B.length csb,.int .i64 s.a,.int .i64 s.b,.slice osl s.L.length csl] 26);clear gb AF_1 Ts_1 Ss_1;obtain ⟨aa,ab,ac,ad,ae,af,ag,ah⟩:=Ts_2.out.z7;obtain ⟨aq,ar,au,av,aw,ax,ay,az⟩:=G_2.out.z7;go_wp2_with fail
    clear aa ab ac ad ae af ag aq ar au av aw ax ay ah az;generalize (w1.alloc (.cells #[.int .i64 s.P,.slice osa s.A.length csa,.int .i64 s.Q,.slice osb s.B.length csb,.int .i64 s.a,.int .i64 s.b,.slice osl s.L.length csl] 26))=w2 at *;refine (LG.out _ _ G_2.out).mono ?_;rintro e w3 ⟨rfl,hb⟩;have AF_3:=zd AF_2 hb;have Ts_3:=zh (Ts_2.out.keep hb);have G_3:=zh (G_2.out.keep hb);have Ss_3:=zh (Ss_2.out.keep hb);clear hb AF_2 Ts_2 G_2 Ss_2;clear ai aj ak al am an ao ap;obtain ⟨aa,ab,ac,ad,ae,af,ag,ah⟩:=Ts_3.out.z7;go_wp2_with fail
    clear aa ab ac ad ae af ag ah;refine (RV.out _ Ss_3.out).mono ?_;rintro e w4 ⟨rfl,hb⟩;have AF_4:=zd AF_3 hb;have Ts_4:=zh (Ts_3.out.keep hb);have Ss_4:=zh (Ss_3.out.keep hb);clear hb AF_3 Ts_3 Ss_3;have H0:Hid (∀ W,SS3 W s (.slice osa s.A.length csa) (.slice osb s.B.length csb) (.slice osl s.L.length csl)→Calls Tryz.prog 21 #[.agg #[.int .i64 s.P,.slice osa s.A.length csa,.int .i64 s.Q,.slice osb s.B.length csb,.int .i64 s.a,.int .i64 s.b,.slice osl s.L.length csl],.int .i64 (x)] W fun e w'=>e=.returned (.bool false)∧Below W.heap.size W w'):=fun W h=>by have z:=HAS.out W (x) hx h;rw [fx] at z;exact z
    obtain ⟨aa,ab,ac,ad,ae,af,ag,ah⟩:=Ts_4.out.z7;go_wp2_with fail
    clear aa ab ac ad ae af ag ah;refine (H0.out _ Ss_4.out).mono ?_;rintro e w5 ⟨rfl,hb⟩;have AF_5:=zd AF_4 hb;have Ts_5:=zh (Ts_4.out.keep hb);have Ss_5:=zh (Ss_4.out.keep hb);clear hb AF_4 Ts_4 Ss_4;clear H0;obtain ⟨aa,ab,ac,ad,ae,af,ag,ah⟩:=Ts_5.out.z7;go_wp2_with fail
    clear aa ab ac ad ae af ag ah;refine (CH.out _ Ss_5.out).mono ?_;rintro e w6 ⟨⟨c,o0,rfl,n9⟩,hb⟩;have AF_6:=zd AF_5 hb;have Ts_6:=zh (Ts_5.out.keep hb);have Ss_6:=zh (Ss_5.out.keep hb);clear hb AF_5 Ts_5 Ss_5;have C0:=n9.1 vx;clear n9
    cases o0
    · skip
      have q0:=nc_no C0 (y:=x+d) (by omega) (by omega);rw [fx] at q0;have b0:IntKind.i64.wrap (x+d)=x+d:=by rw [IntKind.wrap_i64];omega
      have H4:Hid (∀ W,SS3 W s (.slice osa s.A.length csa) (.slice osb s.B.length csb) (.slice osl s.L.length csl)→Calls Tryz.prog 21 #[.agg #[.int .i64 s.P,.slice osa s.A.length csa,.int .i64 s.Q,.slice osb s.B.length csb,.int .i64 s.a,.int .i64 s.b,.slice osl s.L.length csl],.int .i64 (x+d)] W fun e w'=>e=.returned (.bool false)∧Below W.heap.size W w'):=fun W h=>by have z:=HAS.out W (x+d) ⟨by omega,by omega⟩ h;rw [q0] at z;exact z
      obtain ⟨aa,ab,ac,ad,ae,af,ag,ah⟩:=Ts_6.out.z7;go_wp2_with fail
      clear aa ab ac ad ae af ag ah;refine (H4.out _ Ss_6.out).mono ?_;rintro e w7 ⟨rfl,hb⟩;have AF_7:=zd AF_6 hb;have Ts_7:=zh (Ts_6.out.keep hb);have Ss_7:=zh (Ss_6.out.keep hb);clear hb AF_6 Ts_6 Ss_6;clear H4;clear C0 b0;obtain ⟨aa,ab,ac,ad,ae,af,ag,ah⟩:=Ts_7.out.z7;go_wp2_with fail
      clear aa ab ac ad ae af ag ah;refine (NX.out _ Ss_7.out).mono ?_;rintro e w8 ⟨⟨n1,o1,rfl,n9⟩,hb⟩;have AF_8:=zd AF_7 hb;have Ts_8:=zh (Ts_7.out.keep hb);have Ss_8:=zh (Ss_7.out.keep hb);clear hb AF_7 Ts_7 Ss_7;have N1:=n9.1 vx;clear n9;obtain ⟨aa,ab,ac,ad,ae,af,ag,ah⟩:=Ts_8.out.z7;go_wp2_with fail
      clear aa ab ac ad ae af ag ah;refine (PV.out _ Ss_8.out).mono ?_;rintro e w9 ⟨⟨n2,o2,rfl,n9⟩,hb⟩;have AF_9:=zd AF_8 hb;have Ts_9:=zh (Ts_8.out.keep hb);have Ss_9:=zh (Ss_8.out.keep hb);clear hb AF_8 Ts_8 Ss_8;have N2:=n9.1 vx;clear n9
      cases o1
      · skip
        obtain ⟨n1a,n1z⟩:=N1.no rfl;clear N1
        cases o2
        · skip
          obtain ⟨n2a,n2z⟩:=N2.no rfl;clear N2;have b1:IntKind.i64.wrap (x+d)=x+d:=by rw [IntKind.wrap_i64];omega
          have b2:IntKind.i64.wrap (x - d)=x - d:=by rw [IntKind.wrap_i64];omega
          cases q1:f (x+d)
          · skip
            have H7:Hid (∀ W,SS3 W s (.slice osa s.A.length csa) (.slice osb s.B.length csb) (.slice osl s.L.length csl)→Calls Tryz.prog 21 #[.agg #[.int .i64 s.P,.slice osa s.A.length csa,.int .i64 s.Q,.slice osb s.B.length csb,.int .i64 s.a,.int .i64 s.b,.slice osl s.L.length csl],.int .i64 (x+d)] W fun e w'=>e=.returned (.bool false)∧Below W.heap.size W w'):=fun W h=>by have z:=HAS.out W (x+d) ⟨by omega,by omega⟩ h;rw [q1] at z;exact z
            obtain ⟨aa,ab,ac,ad,ae,af,ag,ah⟩:=Ts_9.out.z7;go_wp2_with fail
            clear aa ab ac ad ae af ag ah;refine (H7.out _ Ss_9.out).mono ?_;rintro e w10 ⟨rfl,hb⟩;have AF_10:=zd AF_9 hb;have Ts_10:=zh (Ts_9.out.keep hb);have Ss_10:=zh (Ss_9.out.keep hb);clear hb AF_9 Ts_9 Ss_9;clear H7
            cases q2:f (x - d)
            · skip
              have H8:Hid (∀ W,SS3 W s (.slice osa s.A.length csa) (.slice osb s.B.length csb) (.slice osl s.L.length csl)→Calls Tryz.prog 21 #[.agg #[.int .i64 s.P,.slice osa s.A.length csa,.int .i64 s.Q,.slice osb s.B.length csb,.int .i64 s.a,.int .i64 s.b,.slice osl s.L.length csl],.int .i64 (x - d)] W fun e w'=>e=.returned (.bool false)∧Below W.heap.size W w'):=fun W h=>by have z:=HAS.out W (x - d) ⟨by omega,by omega⟩ h;rw [q2] at z;exact z
              obtain ⟨aa,ab,ac,ad,ae,af,ag,ah⟩:=Ts_10.out.z7;go_wp2_with fail
              clear aa ab ac ad ae af ag ah;refine (H8.out _ Ss_10.out).mono ?_;rintro e w11 ⟨rfl,hb⟩;have AF_11:=zd AF_10 hb;have Ts_11:=zh (Ts_10.out.keep hb);have Ss_11:=zh (Ss_10.out.keep hb);clear hb AF_10 Ts_10 Ss_10;clear H8;obtain ⟨aa,ab,ac,ad,ae,af,ag,ah⟩:=Ts_11.out.z7;go_wp2
              go_ret
              exact ⟨rfl,AF_11.out⟩
            · have z:=n2z (x - d) (by omega) (by omega);rw [q2] at z;cases z
          · have z:=n1z (x+d) (by omega) (by omega);rw [q1] at z;cases z
        · skip
          obtain ⟨n2a,n2b,n2c,n2z⟩:=N2.yes rfl;clear N2;have k2:decide (x<n2)=false:=zdf (by omega);have H6:Hid (∀ W,SS3 W s (.slice osa s.A.length csa) (.slice osb s.B.length csb) (.slice osl s.L.length csl)→Calls Tryz.prog 21 #[.agg #[.int .i64 s.P,.slice osa s.A.length csa,.int .i64 s.Q,.slice osb s.B.length csb,.int .i64 s.a,.int .i64 s.b,.slice osl s.L.length csl],.int .i64 (n2)] W fun e w'=>e=.returned (.bool true)∧Below W.heap.size W w'):=fun W h=>by have z:=HAS.out W (n2) ⟨by omega,by omega⟩ h;rw [n2c] at z;exact z
          obtain ⟨aa,ab,ac,ad,ae,af,ag,ah⟩:=Ts_9.out.z7;go_wp2_with fail
          clear aa ab ac ad ae af ag ah;refine (H6.out _ Ss_9.out).mono ?_;rintro e w10 ⟨rfl,hb⟩;have AF_10:=zd AF_9 hb;have Ts_10:=zh (Ts_9.out.keep hb);have Ss_10:=zh (Ss_9.out.keep hb);clear hb AF_9 Ts_9 Ss_9;clear H6;have b1:IntKind.i64.wrap (x+d)=x+d:=by rw [IntKind.wrap_i64];omega
          have b2:IntKind.i64.wrap (x - d)=x - d:=by rw [IntKind.wrap_i64];omega
          cases q1:f (x+d)
          · skip
            have H7:Hid (∀ W,SS3 W s (.slice osa s.A.length csa) (.slice osb s.B.length csb) (.slice osl s.L.length csl)→Calls Tryz.prog 21 #[.agg #[.int .i64 s.P,.slice osa s.A.length csa,.int .i64 s.Q,.slice osb s.B.length csb,.int .i64 s.a,.int .i64 s.b,.slice osl s.L.length csl],.int .i64 (x+d)] W fun e w'=>e=.returned (.bool false)∧Below W.heap.size W w'):=fun W h=>by have z:=HAS.out W (x+d) ⟨by omega,by omega⟩ h;rw [q1] at z;exact z
            obtain ⟨aa,ab,ac,ad,ae,af,ag,ah⟩:=Ts_10.out.z7;go_wp2_with fail
            clear aa ab ac ad ae af ag ah;refine (H7.out _ Ss_10.out).mono ?_;rintro e w11 ⟨rfl,hb⟩;have AF_11:=zd AF_10 hb;have Ts_11:=zh (Ts_10.out.keep hb);have Ss_11:=zh (Ss_10.out.keep hb);clear hb AF_10 Ts_10 Ss_10;clear H7
            cases q2:f (x - d)
            · skip
              have H8:Hid (∀ W,SS3 W s (.slice osa s.A.length csa) (.slice osb s.B.length csb) (.slice osl s.L.length csl)→Calls Tryz.prog 21 #[.agg #[.int .i64 s.P,.slice osa s.A.length csa,.int .i64 s.Q,.slice osb s.B.length csb,.int .i64 s.a,.int .i64 s.b,.slice osl s.L.length csl],.int .i64 (x - d)] W fun e w'=>e=.returned (.bool false)∧Below W.heap.size W w'):=fun W h=>by have z:=HAS.out W (x - d) ⟨by omega,by omega⟩ h;rw [q2] at z;exact z
              obtain ⟨aa,ab,ac,ad,ae,af,ag,ah⟩:=Ts_11.out.z7;go_wp2_with fail
              clear aa ab ac ad ae af ag ah;refine (H8.out _ Ss_11.out).mono ?_;rintro e w12 ⟨rfl,hb⟩;have AF_12:=zd AF_11 hb;have Ts_12:=zh (Ts_11.out.keep hb);have Ss_12:=zh (Ss_11.out.keep hb);clear hb AF_11 Ts_11 Ss_11;clear H8;obtain ⟨aa,ab,ac,ad,ae,af,ag,ah⟩:=Ts_12.out.z7;go_wp2
              go_ret
              exact ⟨rfl,AF_12.out⟩
            · skip
              have n2y:decide (x - d≤n2)=true:=zdt (by
                  refine Int.not_lt.1 fun c=>?_;have z:=n2z (x - d) c (by omega);rw [q2] at z;cases z)
              have H8:Hid (∀ W,SS3 W s (.slice osa s.A.length csa) (.slice osb s.B.length csb) (.slice osl s.L.length csl)→Calls Tryz.prog 21 #[.agg #[.int .i64 s.P,.slice osa s.A.length csa,.int .i64 s.Q,.slice osb s.B.length csb,.int .i64 s.a,.int .i64 s.b,.slice osl s.L.length csl],.int .i64 (x - d)] W fun e w'=>e=.returned (.bool true)∧Below W.heap.size W w'):=fun W h=>by have z:=HAS.out W (x - d) ⟨by omega,by omega⟩ h;rw [q2] at z;exact z
              obtain ⟨aa,ab,ac,ad,ae,af,ag,ah⟩:=Ts_11.out.z7;go_wp2_with fail
              clear aa ab ac ad ae af ag ah;refine (H8.out _ Ss_11.out).mono ?_;rintro e w12 ⟨rfl,hb⟩;have AF_12:=zd AF_11 hb;have Ts_12:=zh (Ts_11.out.keep hb);have Ss_12:=zh (Ss_11.out.keep hb);clear hb AF_11 Ts_11 Ss_11;clear H8;obtain ⟨aa,ab,ac,ad,ae,af,ag,ah⟩:=Ts_12.out.z7;go_wp2
              go_ret
              exact ⟨rfl,AF_12.out⟩
          · have z:=n1z (x+d) (by omega) (by omega);rw [q1] at z;cases z
      · skip
        obtain ⟨n1a,n1b,n1c,n1z⟩:=N1.yes rfl;clear N1
        cases o2
        · skip
          obtain ⟨n2a,n2z⟩:=N2.no rfl;clear N2;have k1:decide (n1<x)=false:=zdf (by omega);have H5:Hid (∀ W,SS3 W s (.slice osa s.A.length csa) (.slice osb s.B.length csb) (.slice osl s.L.length csl)→Calls Tryz.prog 21 #[.agg #[.int .i64 s.P,.slice osa s.A.length csa,.int .i64 s.Q,.slice osb s.B.length csb,.int .i64 s.a,.int .i64 s.b,.slice osl s.L.length csl],.int .i64 (n1)] W fun e w'=>e=.returned (.bool true)∧Below W.heap.size W w'):=fun W h=>by have z:=HAS.out W (n1) ⟨by omega,by omega⟩ h;rw [n1c] at z;exact z
          obtain ⟨aa,ab,ac,ad,ae,af,ag,ah⟩:=Ts_9.out.z7;go_wp2_with fail
          clear aa ab ac ad ae af ag ah;refine (H5.out _ Ss_9.out).mono ?_;rintro e w10 ⟨rfl,hb⟩;have AF_10:=zd AF_9 hb;have Ts_10:=zh (Ts_9.out.keep hb);have Ss_10:=zh (Ss_9.out.keep hb);clear hb AF_9 Ts_9 Ss_9;clear H5;have b1:IntKind.i64.wrap (x+d)=x+d:=by rw [IntKind.wrap_i64];omega
          have b2:IntKind.i64.wrap (x - d)=x - d:=by rw [IntKind.wrap_i64];omega
          cases q1:f (x+d)
          · skip
            have H7:Hid (∀ W,SS3 W s (.slice osa s.A.length csa) (.slice osb s.B.length csb) (.slice osl s.L.length csl)→Calls Tryz.prog 21 #[.agg #[.int .i64 s.P,.slice osa s.A.length csa,.int .i64 s.Q,.slice osb s.B.length csb,.int .i64 s.a,.int .i64 s.b,.slice osl s.L.length csl],.int .i64 (x+d)] W fun e w'=>e=.returned (.bool false)∧Below W.heap.size W w'):=fun W h=>by have z:=HAS.out W (x+d) ⟨by omega,by omega⟩ h;rw [q1] at z;exact z
            obtain ⟨aa,ab,ac,ad,ae,af,ag,ah⟩:=Ts_10.out.z7;go_wp2_with fail
            clear aa ab ac ad ae af ag ah;refine (H7.out _ Ss_10.out).mono ?_;rintro e w11 ⟨rfl,hb⟩;have AF_11:=zd AF_10 hb;have Ts_11:=zh (Ts_10.out.keep hb);have Ss_11:=zh (Ss_10.out.keep hb);clear hb AF_10 Ts_10 Ss_10;clear H7
            cases q2:f (x - d)
            · skip
              have H8:Hid (∀ W,SS3 W s (.slice osa s.A.length csa) (.slice osb s.B.length csb) (.slice osl s.L.length csl)→Calls Tryz.prog 21 #[.agg #[.int .i64 s.P,.slice osa s.A.length csa,.int .i64 s.Q,.slice osb s.B.length csb,.int .i64 s.a,.int .i64 s.b,.slice osl s.L.length csl],.int .i64 (x - d)] W fun e w'=>e=.returned (.bool false)∧Below W.heap.size W w'):=fun W h=>by have z:=HAS.out W (x - d) ⟨by omega,by omega⟩ h;rw [q2] at z;exact z
              obtain ⟨aa,ab,ac,ad,ae,af,ag,ah⟩:=Ts_11.out.z7;go_wp2_with fail
              clear aa ab ac ad ae af ag ah;refine (H8.out _ Ss_11.out).mono ?_;rintro e w12 ⟨rfl,hb⟩;have AF_12:=zd AF_11 hb;have Ts_12:=zh (Ts_11.out.keep hb);have Ss_12:=zh (Ss_11.out.keep hb);clear hb AF_11 Ts_11 Ss_11;clear H8;obtain ⟨aa,ab,ac,ad,ae,af,ag,ah⟩:=Ts_12.out.z7;go_wp2
              go_ret
              exact ⟨rfl,AF_12.out⟩
            · have z:=n2z (x - d) (by omega) (by omega);rw [q2] at z;cases z
          · skip
            have n1y:decide (x+d<n1)=false:=zdf (by
                intro c;have z:=n1z (x+d) (by omega) c;rw [q1] at z;cases z)
            have H7:Hid (∀ W,SS3 W s (.slice osa s.A.length csa) (.slice osb s.B.length csb) (.slice osl s.L.length csl)→Calls Tryz.prog 21 #[.agg #[.int .i64 s.P,.slice osa s.A.length csa,.int .i64 s.Q,.slice osb s.B.length csb,.int .i64 s.a,.int .i64 s.b,.slice osl s.L.length csl],.int .i64 (x+d)] W fun e w'=>e=.returned (.bool true)∧Below W.heap.size W w'):=fun W h=>by have z:=HAS.out W (x+d) ⟨by omega,by omega⟩ h;rw [q1] at z;exact z
            obtain ⟨aa,ab,ac,ad,ae,af,ag,ah⟩:=Ts_10.out.z7;go_wp2_with fail
            clear aa ab ac ad ae af ag ah;refine (H7.out _ Ss_10.out).mono ?_;rintro e w11 ⟨rfl,hb⟩;have AF_11:=zd AF_10 hb;have Ts_11:=zh (Ts_10.out.keep hb);have Ss_11:=zh (Ss_10.out.keep hb);clear hb AF_10 Ts_10 Ss_10;clear H7
            cases q2:f (x - d)
            · skip
              have H8:Hid (∀ W,SS3 W s (.slice osa s.A.length csa) (.slice osb s.B.length csb) (.slice osl s.L.length csl)→Calls Tryz.prog 21 #[.agg #[.int .i64 s.P,.slice osa s.A.length csa,.int .i64 s.Q,.slice osb s.B.length csb,.int .i64 s.a,.int .i64 s.b,.slice osl s.L.length csl],.int .i64 (x - d)] W fun e w'=>e=.returned (.bool false)∧Below W.heap.size W w'):=fun W h=>by have z:=HAS.out W (x - d) ⟨by omega,by omega⟩ h;rw [q2] at z;exact z
              obtain ⟨aa,ab,ac,ad,ae,af,ag,ah⟩:=Ts_11.out.z7;go_wp2_with fail
              clear aa ab ac ad ae af ag ah;refine (H8.out _ Ss_11.out).mono ?_;rintro e w12 ⟨rfl,hb⟩;have AF_12:=zd AF_11 hb;have Ts_12:=zh (Ts_11.out.keep hb);have Ss_12:=zh (Ss_11.out.keep hb);clear hb AF_11 Ts_11 Ss_11;clear H8;obtain ⟨aa,ab,ac,ad,ae,af,ag,ah⟩:=Ts_12.out.z7;go_wp2
              go_ret
              exact ⟨rfl,AF_12.out⟩
            · have z:=n2z (x - d) (by omega) (by omega);rw [q2] at z;cases z
        · skip
          obtain ⟨n2a,n2b,n2c,n2z⟩:=N2.yes rfl;clear N2;have k1:decide (n1<x)=false:=zdf (by omega);have k2:decide (x<n2)=false:=zdf (by omega);have H5:Hid (∀ W,SS3 W s (.slice osa s.A.length csa) (.slice osb s.B.length csb) (.slice osl s.L.length csl)→Calls Tryz.prog 21 #[.agg #[.int .i64 s.P,.slice osa s.A.length csa,.int .i64 s.Q,.slice osb s.B.length csb,.int .i64 s.a,.int .i64 s.b,.slice osl s.L.length csl],.int .i64 (n1)] W fun e w'=>e=.returned (.bool true)∧Below W.heap.size W w'):=fun W h=>by have z:=HAS.out W (n1) ⟨by omega,by omega⟩ h;rw [n1c] at z;exact z
          obtain ⟨aa,ab,ac,ad,ae,af,ag,ah⟩:=Ts_9.out.z7;go_wp2_with fail
          clear aa ab ac ad ae af ag ah;refine (H5.out _ Ss_9.out).mono ?_;rintro e w10 ⟨rfl,hb⟩;have AF_10:=zd AF_9 hb;have Ts_10:=zh (Ts_9.out.keep hb);have Ss_10:=zh (Ss_9.out.keep hb);clear hb AF_9 Ts_9 Ss_9;clear H5;have H6:Hid (∀ W,SS3 W s (.slice osa s.A.length csa) (.slice osb s.B.length csb) (.slice osl s.L.length csl)→Calls Tryz.prog 21 #[.agg #[.int .i64 s.P,.slice osa s.A.length csa,.int .i64 s.Q,.slice osb s.B.length csb,.int .i64 s.a,.int .i64 s.b,.slice osl s.L.length csl],.int .i64 (n2)] W fun e w'=>e=.returned (.bool true)∧Below W.heap.size W w'):=fun W h=>by have z:=HAS.out W (n2) ⟨by omega,by omega⟩ h;rw [n2c] at z;exact z
          obtain ⟨aa,ab,ac,ad,ae,af,ag,ah⟩:=Ts_10.out.z7;go_wp2_with fail
          clear aa ab ac ad ae af ag ah;refine (H6.out _ Ss_10.out).mono ?_;rintro e w11 ⟨rfl,hb⟩;have AF_11:=zd AF_10 hb;have Ts_11:=zh (Ts_10.out.keep hb);have Ss_11:=zh (Ss_10.out.keep hb);clear hb AF_10 Ts_10 Ss_10;clear H6;have b1:IntKind.i64.wrap (x+d)=x+d:=by rw [IntKind.wrap_i64];omega
          have b2:IntKind.i64.wrap (x - d)=x - d:=by rw [IntKind.wrap_i64];omega
          cases q1:f (x+d)
          · skip
            have H7:Hid (∀ W,SS3 W s (.slice osa s.A.length csa) (.slice osb s.B.length csb) (.slice osl s.L.length csl)→Calls Tryz.prog 21 #[.agg #[.int .i64 s.P,.slice osa s.A.length csa,.int .i64 s.Q,.slice osb s.B.length csb,.int .i64 s.a,.int .i64 s.b,.slice osl s.L.length csl],.int .i64 (x+d)] W fun e w'=>e=.returned (.bool false)∧Below W.heap.size W w'):=fun W h=>by have z:=HAS.out W (x+d) ⟨by omega,by omega⟩ h;rw [q1] at z;exact z
            obtain ⟨aa,ab,ac,ad,ae,af,ag,ah⟩:=Ts_11.out.z7;go_wp2_with fail
            clear aa ab ac ad ae af ag ah;refine (H7.out _ Ss_11.out).mono ?_;rintro e w12 ⟨rfl,hb⟩;have AF_12:=zd AF_11 hb;have Ts_12:=zh (Ts_11.out.keep hb);have Ss_12:=zh (Ss_11.out.keep hb);clear hb AF_11 Ts_11 Ss_11;clear H7
            cases q2:f (x - d)
            · skip
              have H8:Hid (∀ W,SS3 W s (.slice osa s.A.length csa) (.slice osb s.B.length csb) (.slice osl s.L.length csl)→Calls Tryz.prog 21 #[.agg #[.int .i64 s.P,.slice osa s.A.length csa,.int .i64 s.Q,.slice osb s.B.length csb,.int .i64 s.a,.int .i64 s.b,.slice osl s.L.length csl],.int .i64 (x - d)] W fun e w'=>e=.returned (.bool false)∧Below W.heap.size W w'):=fun W h=>by have z:=HAS.out W (x - d) ⟨by omega,by omega⟩ h;rw [q2] at z;exact z
              obtain ⟨aa,ab,ac,ad,ae,af,ag,ah⟩:=Ts_12.out.z7;go_wp2_with fail
              clear aa ab ac ad ae af ag ah;refine (H8.out _ Ss_12.out).mono ?_;rintro e w13 ⟨rfl,hb⟩;have AF_13:=zd AF_12 hb;have Ts_13:=zh (Ts_12.out.keep hb);have Ss_13:=zh (Ss_12.out.keep hb);clear hb AF_12 Ts_12 Ss_12;clear H8;obtain ⟨aa,ab,ac,ad,ae,af,ag,ah⟩:=Ts_13.out.z7;go_wp2
              go_ret
              exact ⟨rfl,AF_13.out⟩
            · skip
              have n2y:decide (x - d≤n2)=true:=zdt (by
                  refine Int.not_lt.1 fun c=>?_;have z:=n2z (x - d) c (by omega);rw [q2] at z;cases z)
              have H8:Hid (∀ W,SS3 W s (.slice osa s.A.length csa) (.slice osb s.B.length csb) (.slice osl s.L.length csl)→Calls Tryz.prog 21 #[.agg #[.int .i64 s.P,.slice osa s.A.length csa,.int .i64 s.Q,.slice osb s.B.length csb,.int .i64 s.a,.int .i64 s.b,.slice osl s.L.length csl],.int .i64 (x - d)] W fun e w'=>e=.returned (.bool true)∧Below W.heap.size W w'):=fun W h=>by have z:=HAS.out W (x - d) ⟨by omega,by omega⟩ h;rw [q2] at z;exact z
              obtain ⟨aa,ab,ac,ad,ae,af,ag,ah⟩:=Ts_12.out.z7;go_wp2_with fail
              clear aa ab ac ad ae af ag ah;refine (H8.out _ Ss_12.out).mono ?_;rintro e w13 ⟨rfl,hb⟩;have AF_13:=zd AF_12 hb;have Ts_13:=zh (Ts_12.out.keep hb);have Ss_13:=zh (Ss_12.out.keep hb);clear hb AF_12 Ts_12 Ss_12;clear H8;obtain ⟨aa,ab,ac,ad,ae,af,ag,ah⟩:=Ts_13.out.z7;go_wp2
              go_ret
              exact ⟨rfl,AF_13.out⟩
          · skip
            have n1y:decide (x+d<n1)=false:=zdf (by
                intro c;have z:=n1z (x+d) (by omega) c;rw [q1] at z;cases z)
            have H7:Hid (∀ W,SS3 W s (.slice osa s.A.length csa) (.slice osb s.B.length csb) (.slice osl s.L.length csl)→Calls Tryz.prog 21 #[.agg #[.int .i64 s.P,.slice osa s.A.length csa,.int .i64 s.Q,.slice osb s.B.length csb,.int .i64 s.a,.int .i64 s.b,.slice osl s.L.length csl],.int .i64 (x+d)] W fun e w'=>e=.returned (.bool true)∧Below W.heap.size W w'):=fun W h=>by have z:=HAS.out W (x+d) ⟨by omega,by omega⟩ h;rw [q1] at z;exact z
            obtain ⟨aa,ab,ac,ad,ae,af,ag,ah⟩:=Ts_11.out.z7;go_wp2_with fail
            clear aa ab ac ad ae af ag ah;refine (H7.out _ Ss_11.out).mono ?_;rintro e w12 ⟨rfl,hb⟩;have AF_12:=zd AF_11 hb;have Ts_12:=zh (Ts_11.out.keep hb);have Ss_12:=zh (Ss_11.out.keep hb);clear hb AF_11 Ts_11 Ss_11;clear H7
            cases q2:f (x - d)
            · skip
              have H8:Hid (∀ W,SS3 W s (.slice osa s.A.length csa) (.slice osb s.B.length csb) (.slice osl s.L.length csl)→Calls Tryz.prog 21 #[.agg #[.int .i64 s.P,.slice osa s.A.length csa,.int .i64 s.Q,.slice osb s.B.length csb,.int .i64 s.a,.int .i64 s.b,.slice osl s.L.length csl],.int .i64 (x - d)] W fun e w'=>e=.returned (.bool false)∧Below W.heap.size W w'):=fun W h=>by have z:=HAS.out W (x - d) ⟨by omega,by omega⟩ h;rw [q2] at z;exact z
              obtain ⟨aa,ab,ac,ad,ae,af,ag,ah⟩:=Ts_12.out.z7;go_wp2_with fail
              clear aa ab ac ad ae af ag ah;refine (H8.out _ Ss_12.out).mono ?_;rintro e w13 ⟨rfl,hb⟩;have AF_13:=zd AF_12 hb;have Ts_13:=zh (Ts_12.out.keep hb);have Ss_13:=zh (Ss_12.out.keep hb);clear hb AF_12 Ts_12 Ss_12;clear H8;obtain ⟨aa,ab,ac,ad,ae,af,ag,ah⟩:=Ts_13.out.z7;go_wp2
              go_ret
              exact ⟨rfl,AF_13.out⟩
            · skip
              have n2y:decide (x - d≤n2)=true:=zdt (by
                  refine Int.not_lt.1 fun c=>?_;have z:=n2z (x - d) c (by omega);rw [q2] at z;cases z)
              have H8:Hid (∀ W,SS3 W s (.slice osa s.A.length csa) (.slice osb s.B.length csb) (.slice osl s.L.length csl)→Calls Tryz.prog 21 #[.agg #[.int .i64 s.P,.slice osa s.A.length csa,.int .i64 s.Q,.slice osb s.B.length csb,.int .i64 s.a,.int .i64 s.b,.slice osl s.L.length csl],.int .i64 (x - d)] W fun e w'=>e=.returned (.bool true)∧Below W.heap.size W w'):=fun W h=>by have z:=HAS.out W (x - d) ⟨by omega,by omega⟩ h;rw [q2] at z;exact z
              obtain ⟨aa,ab,ac,ad,ae,af,ag,ah⟩:=Ts_12.out.z7;go_wp2_with fail
              clear aa ab ac ad ae af ag ah;refine (H8.out _ Ss_12.out).mono ?_;rintro e w13 ⟨rfl,hb⟩;have AF_13:=zd AF_12 hb;have Ts_13:=zh (Ts_12.out.keep hb);have Ss_13:=zh (Ss_12.out.keep hb);clear hb AF_12 Ts_12 Ss_12;clear H8;obtain ⟨aa,ab,ac,ad,ae,af,ag,ah⟩:=Ts_13.out.z7;go_wp2
              go_ret
              exact ⟨rfl,AF_13.out⟩
    · skip
      obtain ⟨c0,c1,c2,c3⟩:=C0.yes rfl;have kc:decide (c≤x)=false:=zdf (by omega);have q0:=nc_yes C0 (y:=c - 1) (by omega) (by omega);rw [fx] at q0;have b0:IntKind.i64.wrap (c - 1)=c - 1:=by rw [IntKind.wrap_i64];omega
      have q3:f c=true:=by
          have z:f c≠f (c - 1):=c2;rw [q0] at z
          cases q:f c
          · first | rfl | exact absurd q z
          · first | rfl | exact absurd q z
      have H1:Hid (∀ W,SS3 W s (.slice osa s.A.length csa) (.slice osb s.B.length csb) (.slice osl s.L.length csl)→Calls Tryz.prog 21 #[.agg #[.int .i64 s.P,.slice osa s.A.length csa,.int .i64 s.Q,.slice osb s.B.length csb,.int .i64 s.a,.int .i64 s.b,.slice osl s.L.length csl],.int .i64 (c - 1)] W fun e w'=>e=.returned (.bool false)∧Below W.heap.size W w'):=fun W h=>by have z:=HAS.out W (c - 1) ⟨by omega,by omega⟩ h;rw [q0] at z;exact z
      obtain ⟨aa,ab,ac,ad,ae,af,ag,ah⟩:=Ts_6.out.z7;go_wp2_with fail
      clear aa ab ac ad ae af ag ah;refine (H1.out _ Ss_6.out).mono ?_;rintro e w7 ⟨rfl,hb⟩;have AF_7:=zd AF_6 hb;have Ts_7:=zh (Ts_6.out.keep hb);have Ss_7:=zh (Ss_6.out.keep hb);clear hb AF_6 Ts_6 Ss_6;clear H1;have H2:Hid (∀ W,SS3 W s (.slice osa s.A.length csa) (.slice osb s.B.length csb) (.slice osl s.L.length csl)→Calls Tryz.prog 21 #[.agg #[.int .i64 s.P,.slice osa s.A.length csa,.int .i64 s.Q,.slice osb s.B.length csb,.int .i64 s.a,.int .i64 s.b,.slice osl s.L.length csl],.int .i64 (c)] W fun e w'=>e=.returned (.bool true)∧Below W.heap.size W w'):=fun W h=>by have z:=HAS.out W (c) ⟨by omega,by omega⟩ h;rw [q3] at z;exact z
      obtain ⟨aa,ab,ac,ad,ae,af,ag,ah⟩:=Ts_7.out.z7;go_wp2_with fail
      clear aa ab ac ad ae af ag ah;refine (H2.out _ Ss_7.out).mono ?_;rintro e w8 ⟨rfl,hb⟩;have AF_8:=zd AF_7 hb;have Ts_8:=zh (Ts_7.out.keep hb);have Ss_8:=zh (Ss_7.out.keep hb);clear hb AF_7 Ts_7 Ss_7;clear H2;obtain ⟨m,hm⟩:∃ m,(if (256:Int)<c - x then (256:Int) else c - x)=m:=⟨_,rfl⟩;have m1:1≤m∧m≤256∧m≤c - x:=by rw [← hm];split <;> omega
      have em:min (c - x) 256=m:=by rw [← hm];split <;> omega
      have bx:IntKind.i64.wrap (c - x)=c - x:=by rw [IntKind.wrap_i64];omega
      obtain ⟨r,hr⟩:∃ r,d.tmod m=r:=⟨_,rfl⟩;have r0:r=d % m:=by rw [← hr,Int.tmod_eq_emod_of_nonneg (by omega)]
      have r1:=Int.emod_nonneg d (show m≠0 by omega);have r2:=Int.emod_lt_of_pos d (show 0<m by omega);rw [← r0] at r1 r2;have km:(m==0)=false:=by rw [beq_eq_false_iff_ne];omega
      have mz:m≠0:=by omega
      have bw:IntKind.i64.wrap r=r:=by rw [IntKind.wrap_i64];omega
      have by1:IntKind.i64.wrap (x+r)=x+r:=by rw [IntKind.wrap_i64];omega
      have q4:=nc_yes C0 (y:=x+r) (by omega) (by omega);rw [fx] at q4;replace hm:=zh hm;replace r0:=zh r0;have H3:Hid (∀ W,SS3 W s (.slice osa s.A.length csa) (.slice osb s.B.length csb) (.slice osl s.L.length csl)→Calls Tryz.prog 21 #[.agg #[.int .i64 s.P,.slice osa s.A.length csa,.int .i64 s.Q,.slice osb s.B.length csb,.int .i64 s.a,.int .i64 s.b,.slice osl s.L.length csl],.int .i64 (x+r)] W fun e w'=>e=.returned (.bool false)∧Below W.heap.size W w'):=fun W h=>by have z:=HAS.out W (x+r) ⟨by omega,by omega⟩ h;rw [q4] at z;exact z
      obtain ⟨aa,ab,ac,ad,ae,af,ag,ah⟩:=Ts_8.out.z7;go_wp2_with fail
      clear aa ab ac ad ae af ag ah;refine (H3.out _ Ss_8.out).mono ?_;rintro e w9 ⟨rfl,hb⟩;have AF_9:=zd AF_8 hb;have Ts_9:=zh (Ts_8.out.keep hb);have Ss_9:=zh (Ss_8.out.keep hb);clear hb AF_8 Ts_8 Ss_8;clear H3;clear C0 c2 c3 kc q0 b0 q3 hm m1 em bx hr r0 r1 r2 km mz bw by1 q4;obtain ⟨aa,ab,ac,ad,ae,af,ag,ah⟩:=Ts_9.out.z7;go_wp2_with fail
      clear aa ab ac ad ae af ag ah;refine (NX.out _ Ss_9.out).mono ?_;rintro e w10 ⟨⟨n1,o1,rfl,n9⟩,hb⟩;have AF_10:=zd AF_9 hb;have Ts_10:=zh (Ts_9.out.keep hb);have Ss_10:=zh (Ss_9.out.keep hb);clear hb AF_9 Ts_9 Ss_9;have N1:=n9.1 vx;clear n9;obtain ⟨aa,ab,ac,ad,ae,af,ag,ah⟩:=Ts_10.out.z7;go_wp2_with fail
      clear aa ab ac ad ae af ag ah;refine (PV.out _ Ss_10.out).mono ?_;rintro e w11 ⟨⟨n2,o2,rfl,n9⟩,hb⟩;have AF_11:=zd AF_10 hb;have Ts_11:=zh (Ts_10.out.keep hb);have Ss_11:=zh (Ss_10.out.keep hb);clear hb AF_10 Ts_10 Ss_10;have N2:=n9.1 vx;clear n9
      cases o1
      · skip
        obtain ⟨n1a,n1z⟩:=N1.no rfl;clear N1
        cases o2
        · skip
          obtain ⟨n2a,n2z⟩:=N2.no rfl;clear N2;have b1:IntKind.i64.wrap (x+d)=x+d:=by rw [IntKind.wrap_i64];omega
          have b2:IntKind.i64.wrap (x - d)=x - d:=by rw [IntKind.wrap_i64];omega
          cases q1:f (x+d)
          · skip
            have H7:Hid (∀ W,SS3 W s (.slice osa s.A.length csa) (.slice osb s.B.length csb) (.slice osl s.L.length csl)→Calls Tryz.prog 21 #[.agg #[.int .i64 s.P,.slice osa s.A.length csa,.int .i64 s.Q,.slice osb s.B.length csb,.int .i64 s.a,.int .i64 s.b,.slice osl s.L.length csl],.int .i64 (x+d)] W fun e w'=>e=.returned (.bool false)∧Below W.heap.size W w'):=fun W h=>by have z:=HAS.out W (x+d) ⟨by omega,by omega⟩ h;rw [q1] at z;exact z
            obtain ⟨aa,ab,ac,ad,ae,af,ag,ah⟩:=Ts_11.out.z7;go_wp2_with fail
            clear aa ab ac ad ae af ag ah;refine (H7.out _ Ss_11.out).mono ?_;rintro e w12 ⟨rfl,hb⟩;have AF_12:=zd AF_11 hb;have Ts_12:=zh (Ts_11.out.keep hb);have Ss_12:=zh (Ss_11.out.keep hb);clear hb AF_11 Ts_11 Ss_11;clear H7
            cases q2:f (x - d)
            · skip
              have H8:Hid (∀ W,SS3 W s (.slice osa s.A.length csa) (.slice osb s.B.length csb) (.slice osl s.L.length csl)→Calls Tryz.prog 21 #[.agg #[.int .i64 s.P,.slice osa s.A.length csa,.int .i64 s.Q,.slice osb s.B.length csb,.int .i64 s.a,.int .i64 s.b,.slice osl s.L.length csl],.int .i64 (x - d)] W fun e w'=>e=.returned (.bool false)∧Below W.heap.size W w'):=fun W h=>by have z:=HAS.out W (x - d) ⟨by omega,by omega⟩ h;rw [q2] at z;exact z
              obtain ⟨aa,ab,ac,ad,ae,af,ag,ah⟩:=Ts_12.out.z7;go_wp2_with fail
              clear aa ab ac ad ae af ag ah;refine (H8.out _ Ss_12.out).mono ?_;rintro e w13 ⟨rfl,hb⟩;have AF_13:=zd AF_12 hb;have Ts_13:=zh (Ts_12.out.keep hb);have Ss_13:=zh (Ss_12.out.keep hb);clear hb AF_12 Ts_12 Ss_12;clear H8;obtain ⟨aa,ab,ac,ad,ae,af,ag,ah⟩:=Ts_13.out.z7;go_wp2
              go_ret
              exact ⟨rfl,AF_13.out⟩
            · have z:=n2z (x - d) (by omega) (by omega);rw [q2] at z;cases z
          · have z:=n1z (x+d) (by omega) (by omega);rw [q1] at z;cases z
        · skip
          obtain ⟨n2a,n2b,n2c,n2z⟩:=N2.yes rfl;clear N2;have k2:decide (x<n2)=false:=zdf (by omega);have H6:Hid (∀ W,SS3 W s (.slice osa s.A.length csa) (.slice osb s.B.length csb) (.slice osl s.L.length csl)→Calls Tryz.prog 21 #[.agg #[.int .i64 s.P,.slice osa s.A.length csa,.int .i64 s.Q,.slice osb s.B.length csb,.int .i64 s.a,.int .i64 s.b,.slice osl s.L.length csl],.int .i64 (n2)] W fun e w'=>e=.returned (.bool true)∧Below W.heap.size W w'):=fun W h=>by have z:=HAS.out W (n2) ⟨by omega,by omega⟩ h;rw [n2c] at z;exact z
          obtain ⟨aa,ab,ac,ad,ae,af,ag,ah⟩:=Ts_11.out.z7;go_wp2_with fail
          clear aa ab ac ad ae af ag ah;refine (H6.out _ Ss_11.out).mono ?_;rintro e w12 ⟨rfl,hb⟩;have AF_12:=zd AF_11 hb;have Ts_12:=zh (Ts_11.out.keep hb);have Ss_12:=zh (Ss_11.out.keep hb);clear hb AF_11 Ts_11 Ss_11;clear H6;have b1:IntKind.i64.wrap (x+d)=x+d:=by rw [IntKind.wrap_i64];omega
          have b2:IntKind.i64.wrap (x - d)=x - d:=by rw [IntKind.wrap_i64];omega
          cases q1:f (x+d)
          · skip
            have H7:Hid (∀ W,SS3 W s (.slice osa s.A.length csa) (.slice osb s.B.length csb) (.slice osl s.L.length csl)→Calls Tryz.prog 21 #[.agg #[.int .i64 s.P,.slice osa s.A.length csa,.int .i64 s.Q,.slice osb s.B.length csb,.int .i64 s.a,.int .i64 s.b,.slice osl s.L.length csl],.int .i64 (x+d)] W fun e w'=>e=.returned (.bool false)∧Below W.heap.size W w'):=fun W h=>by have z:=HAS.out W (x+d) ⟨by omega,by omega⟩ h;rw [q1] at z;exact z
            obtain ⟨aa,ab,ac,ad,ae,af,ag,ah⟩:=Ts_12.out.z7;go_wp2_with fail
            clear aa ab ac ad ae af ag ah;refine (H7.out _ Ss_12.out).mono ?_;rintro e w13 ⟨rfl,hb⟩;have AF_13:=zd AF_12 hb;have Ts_13:=zh (Ts_12.out.keep hb);have Ss_13:=zh (Ss_12.out.keep hb);clear hb AF_12 Ts_12 Ss_12;clear H7
            cases q2:f (x - d)
            · skip
              have H8:Hid (∀ W,SS3 W s (.slice osa s.A.length csa) (.slice osb s.B.length csb) (.slice osl s.L.length csl)→Calls Tryz.prog 21 #[.agg #[.int .i64 s.P,.slice osa s.A.length csa,.int .i64 s.Q,.slice osb s.B.length csb,.int .i64 s.a,.int .i64 s.b,.slice osl s.L.length csl],.int .i64 (x - d)] W fun e w'=>e=.returned (.bool false)∧Below W.heap.size W w'):=fun W h=>by have z:=HAS.out W (x - d) ⟨by omega,by omega⟩ h;rw [q2] at z;exact z
              obtain ⟨aa,ab,ac,ad,ae,af,ag,ah⟩:=Ts_13.out.z7;go_wp2_with fail
              clear aa ab ac ad ae af ag ah;refine (H8.out _ Ss_13.out).mono ?_;rintro e w14 ⟨rfl,hb⟩;have AF_14:=zd AF_13 hb;have Ts_14:=zh (Ts_13.out.keep hb);have Ss_14:=zh (Ss_13.out.keep hb);clear hb AF_13 Ts_13 Ss_13;clear H8;obtain ⟨aa,ab,ac,ad,ae,af,ag,ah⟩:=Ts_14.out.z7;go_wp2
              go_ret
              exact ⟨rfl,AF_14.out⟩
            · skip
              have n2y:decide (x - d≤n2)=true:=zdt (by
                  refine Int.not_lt.1 fun c=>?_;have z:=n2z (x - d) c (by omega);rw [q2] at z;cases z)
              have H8:Hid (∀ W,SS3 W s (.slice osa s.A.length csa) (.slice osb s.B.length csb) (.slice osl s.L.length csl)→Calls Tryz.prog 21 #[.agg #[.int .i64 s.P,.slice osa s.A.length csa,.int .i64 s.Q,.slice osb s.B.length csb,.int .i64 s.a,.int .i64 s.b,.slice osl s.L.length csl],.int .i64 (x - d)] W fun e w'=>e=.returned (.bool true)∧Below W.heap.size W w'):=fun W h=>by have z:=HAS.out W (x - d) ⟨by omega,by omega⟩ h;rw [q2] at z;exact z
              obtain ⟨aa,ab,ac,ad,ae,af,ag,ah⟩:=Ts_13.out.z7;go_wp2_with fail
              clear aa ab ac ad ae af ag ah;refine (H8.out _ Ss_13.out).mono ?_;rintro e w14 ⟨rfl,hb⟩;have AF_14:=zd AF_13 hb;have Ts_14:=zh (Ts_13.out.keep hb);have Ss_14:=zh (Ss_13.out.keep hb);clear hb AF_13 Ts_13 Ss_13;clear H8;obtain ⟨aa,ab,ac,ad,ae,af,ag,ah⟩:=Ts_14.out.z7;go_wp2
              go_ret
              exact ⟨rfl,AF_14.out⟩
          · have z:=n1z (x+d) (by omega) (by omega);rw [q1] at z;cases z
      · skip
        obtain ⟨n1a,n1b,n1c,n1z⟩:=N1.yes rfl;clear N1
        cases o2
        · skip
          obtain ⟨n2a,n2z⟩:=N2.no rfl;clear N2;have k1:decide (n1<x)=false:=zdf (by omega);have H5:Hid (∀ W,SS3 W s (.slice osa s.A.length csa) (.slice osb s.B.length csb) (.slice osl s.L.length csl)→Calls Tryz.prog 21 #[.agg #[.int .i64 s.P,.slice osa s.A.length csa,.int .i64 s.Q,.slice osb s.B.length csb,.int .i64 s.a,.int .i64 s.b,.slice osl s.L.length csl],.int .i64 (n1)] W fun e w'=>e=.returned (.bool true)∧Below W.heap.size W w'):=fun W h=>by have z:=HAS.out W (n1) ⟨by omega,by omega⟩ h;rw [n1c] at z;exact z
          obtain ⟨aa,ab,ac,ad,ae,af,ag,ah⟩:=Ts_11.out.z7;go_wp2_with fail
          clear aa ab ac ad ae af ag ah;refine (H5.out _ Ss_11.out).mono ?_;rintro e w12 ⟨rfl,hb⟩;have AF_12:=zd AF_11 hb;have Ts_12:=zh (Ts_11.out.keep hb);have Ss_12:=zh (Ss_11.out.keep hb);clear hb AF_11 Ts_11 Ss_11;clear H5;have b1:IntKind.i64.wrap (x+d)=x+d:=by rw [IntKind.wrap_i64];omega
          have b2:IntKind.i64.wrap (x - d)=x - d:=by rw [IntKind.wrap_i64];omega
          cases q1:f (x+d)
          · skip
            have H7:Hid (∀ W,SS3 W s (.slice osa s.A.length csa) (.slice osb s.B.length csb) (.slice osl s.L.length csl)→Calls Tryz.prog 21 #[.agg #[.int .i64 s.P,.slice osa s.A.length csa,.int .i64 s.Q,.slice osb s.B.length csb,.int .i64 s.a,.int .i64 s.b,.slice osl s.L.length csl],.int .i64 (x+d)] W fun e w'=>e=.returned (.bool false)∧Below W.heap.size W w'):=fun W h=>by have z:=HAS.out W (x+d) ⟨by omega,by omega⟩ h;rw [q1] at z;exact z
            obtain ⟨aa,ab,ac,ad,ae,af,ag,ah⟩:=Ts_12.out.z7;go_wp2_with fail
            clear aa ab ac ad ae af ag ah;refine (H7.out _ Ss_12.out).mono ?_;rintro e w13 ⟨rfl,hb⟩;have AF_13:=zd AF_12 hb;have Ts_13:=zh (Ts_12.out.keep hb);have Ss_13:=zh (Ss_12.out.keep hb);clear hb AF_12 Ts_12 Ss_12;clear H7
            cases q2:f (x - d)
            · skip
              have H8:Hid (∀ W,SS3 W s (.slice osa s.A.length csa) (.slice osb s.B.length csb) (.slice osl s.L.length csl)→Calls Tryz.prog 21 #[.agg #[.int .i64 s.P,.slice osa s.A.length csa,.int .i64 s.Q,.slice osb s.B.length csb,.int .i64 s.a,.int .i64 s.b,.slice osl s.L.length csl],.int .i64 (x - d)] W fun e w'=>e=.returned (.bool false)∧Below W.heap.size W w'):=fun W h=>by have z:=HAS.out W (x - d) ⟨by omega,by omega⟩ h;rw [q2] at z;exact z
              obtain ⟨aa,ab,ac,ad,ae,af,ag,ah⟩:=Ts_13.out.z7;go_wp2_with fail
              clear aa ab ac ad ae af ag ah;refine (H8.out _ Ss_13.out).mono ?_;rintro e w14 ⟨rfl,hb⟩;have AF_14:=zd AF_13 hb;have Ts_14:=zh (Ts_13.out.keep hb);have Ss_14:=zh (Ss_13.out.keep hb);clear hb AF_13 Ts_13 Ss_13;clear H8;obtain ⟨aa,ab,ac,ad,ae,af,ag,ah⟩:=Ts_14.out.z7;go_wp2
              go_ret
              exact ⟨rfl,AF_14.out⟩
            · have z:=n2z (x - d) (by omega) (by omega);rw [q2] at z;cases z
          · skip
            have n1y:decide (x+d<n1)=false:=zdf (by
                intro c;have z:=n1z (x+d) (by omega) c;rw [q1] at z;cases z)
            have H7:Hid (∀ W,SS3 W s (.slice osa s.A.length csa) (.slice osb s.B.length csb) (.slice osl s.L.length csl)→Calls Tryz.prog 21 #[.agg #[.int .i64 s.P,.slice osa s.A.length csa,.int .i64 s.Q,.slice osb s.B.length csb,.int .i64 s.a,.int .i64 s.b,.slice osl s.L.length csl],.int .i64 (x+d)] W fun e w'=>e=.returned (.bool true)∧Below W.heap.size W w'):=fun W h=>by have z:=HAS.out W (x+d) ⟨by omega,by omega⟩ h;rw [q1] at z;exact z
            obtain ⟨aa,ab,ac,ad,ae,af,ag,ah⟩:=Ts_12.out.z7;go_wp2_with fail
            clear aa ab ac ad ae af ag ah;refine (H7.out _ Ss_12.out).mono ?_;rintro e w13 ⟨rfl,hb⟩;have AF_13:=zd AF_12 hb;have Ts_13:=zh (Ts_12.out.keep hb);have Ss_13:=zh (Ss_12.out.keep hb);clear hb AF_12 Ts_12 Ss_12;clear H7
            cases q2:f (x - d)
            · skip
              have H8:Hid (∀ W,SS3 W s (.slice osa s.A.length csa) (.slice osb s.B.length csb) (.slice osl s.L.length csl)→Calls Tryz.prog 21 #[.agg #[.int .i64 s.P,.slice osa s.A.length csa,.int .i64 s.Q,.slice osb s.B.length csb,.int .i64 s.a,.int .i64 s.b,.slice osl s.L.length csl],.int .i64 (x - d)] W fun e w'=>e=.returned (.bool false)∧Below W.heap.size W w'):=fun W h=>by have z:=HAS.out W (x - d) ⟨by omega,by omega⟩ h;rw [q2] at z;exact z
              obtain ⟨aa,ab,ac,ad,ae,af,ag,ah⟩:=Ts_13.out.z7;go_wp2_with fail
              clear aa ab ac ad ae af ag ah;refine (H8.out _ Ss_13.out).mono ?_;rintro e w14 ⟨rfl,hb⟩;have AF_14:=zd AF_13 hb;have Ts_14:=zh (Ts_13.out.keep hb);have Ss_14:=zh (Ss_13.out.keep hb);clear hb AF_13 Ts_13 Ss_13;clear H8;obtain ⟨aa,ab,ac,ad,ae,af,ag,ah⟩:=Ts_14.out.z7;go_wp2
              go_ret
              exact ⟨rfl,AF_14.out⟩
            · have z:=n2z (x - d) (by omega) (by omega);rw [q2] at z;cases z
        · skip
          obtain ⟨n2a,n2b,n2c,n2z⟩:=N2.yes rfl;clear N2;have k1:decide (n1<x)=false:=zdf (by omega);have k2:decide (x<n2)=false:=zdf (by omega);have H5:Hid (∀ W,SS3 W s (.slice osa s.A.length csa) (.slice osb s.B.length csb) (.slice osl s.L.length csl)→Calls Tryz.prog 21 #[.agg #[.int .i64 s.P,.slice osa s.A.length csa,.int .i64 s.Q,.slice osb s.B.length csb,.int .i64 s.a,.int .i64 s.b,.slice osl s.L.length csl],.int .i64 (n1)] W fun e w'=>e=.returned (.bool true)∧Below W.heap.size W w'):=fun W h=>by have z:=HAS.out W (n1) ⟨by omega,by omega⟩ h;rw [n1c] at z;exact z
          obtain ⟨aa,ab,ac,ad,ae,af,ag,ah⟩:=Ts_11.out.z7;go_wp2_with fail
          clear aa ab ac ad ae af ag ah;refine (H5.out _ Ss_11.out).mono ?_;rintro e w12 ⟨rfl,hb⟩;have AF_12:=zd AF_11 hb;have Ts_12:=zh (Ts_11.out.keep hb);have Ss_12:=zh (Ss_11.out.keep hb);clear hb AF_11 Ts_11 Ss_11;clear H5;have H6:Hid (∀ W,SS3 W s (.slice osa s.A.length csa) (.slice osb s.B.length csb) (.slice osl s.L.length csl)→Calls Tryz.prog 21 #[.agg #[.int .i64 s.P,.slice osa s.A.length csa,.int .i64 s.Q,.slice osb s.B.length csb,.int .i64 s.a,.int .i64 s.b,.slice osl s.L.length csl],.int .i64 (n2)] W fun e w'=>e=.returned (.bool true)∧Below W.heap.size W w'):=fun W h=>by have z:=HAS.out W (n2) ⟨by omega,by omega⟩ h;rw [n2c] at z;exact z
          obtain ⟨aa,ab,ac,ad,ae,af,ag,ah⟩:=Ts_12.out.z7;go_wp2_with fail
          clear aa ab ac ad ae af ag ah;refine (H6.out _ Ss_12.out).mono ?_;rintro e w13 ⟨rfl,hb⟩;have AF_13:=zd AF_12 hb;have Ts_13:=zh (Ts_12.out.keep hb);have Ss_13:=zh (Ss_12.out.keep hb);clear hb AF_12 Ts_12 Ss_12;clear H6;have b1:IntKind.i64.wrap (x+d)=x+d:=by rw [IntKind.wrap_i64];omega
          have b2:IntKind.i64.wrap (x - d)=x - d:=by rw [IntKind.wrap_i64];omega
          cases q1:f (x+d)
          · skip
            have H7:Hid (∀ W,SS3 W s (.slice osa s.A.length csa) (.slice osb s.B.length csb) (.slice osl s.L.length csl)→Calls Tryz.prog 21 #[.agg #[.int .i64 s.P,.slice osa s.A.length csa,.int .i64 s.Q,.slice osb s.B.length csb,.int .i64 s.a,.int .i64 s.b,.slice osl s.L.length csl],.int .i64 (x+d)] W fun e w'=>e=.returned (.bool false)∧Below W.heap.size W w'):=fun W h=>by have z:=HAS.out W (x+d) ⟨by omega,by omega⟩ h;rw [q1] at z;exact z
            obtain ⟨aa,ab,ac,ad,ae,af,ag,ah⟩:=Ts_13.out.z7;go_wp2_with fail
            clear aa ab ac ad ae af ag ah;refine (H7.out _ Ss_13.out).mono ?_;rintro e w14 ⟨rfl,hb⟩;have AF_14:=zd AF_13 hb;have Ts_14:=zh (Ts_13.out.keep hb);have Ss_14:=zh (Ss_13.out.keep hb);clear hb AF_13 Ts_13 Ss_13;clear H7
            cases q2:f (x - d)
            · skip
              have H8:Hid (∀ W,SS3 W s (.slice osa s.A.length csa) (.slice osb s.B.length csb) (.slice osl s.L.length csl)→Calls Tryz.prog 21 #[.agg #[.int .i64 s.P,.slice osa s.A.length csa,.int .i64 s.Q,.slice osb s.B.length csb,.int .i64 s.a,.int .i64 s.b,.slice osl s.L.length csl],.int .i64 (x - d)] W fun e w'=>e=.returned (.bool false)∧Below W.heap.size W w'):=fun W h=>by have z:=HAS.out W (x - d) ⟨by omega,by omega⟩ h;rw [q2] at z;exact z
              obtain ⟨aa,ab,ac,ad,ae,af,ag,ah⟩:=Ts_14.out.z7;go_wp2_with fail
              clear aa ab ac ad ae af ag ah;refine (H8.out _ Ss_14.out).mono ?_;rintro e w15 ⟨rfl,hb⟩;have AF_15:=zd AF_14 hb;have Ts_15:=zh (Ts_14.out.keep hb);have Ss_15:=zh (Ss_14.out.keep hb);clear hb AF_14 Ts_14 Ss_14;clear H8;obtain ⟨aa,ab,ac,ad,ae,af,ag,ah⟩:=Ts_15.out.z7;go_wp2
              go_ret
              exact ⟨rfl,AF_15.out⟩
            · skip
              have n2y:decide (x - d≤n2)=true:=zdt (by
                  refine Int.not_lt.1 fun c=>?_;have z:=n2z (x - d) c (by omega);rw [q2] at z;cases z)
              have H8:Hid (∀ W,SS3 W s (.slice osa s.A.length csa) (.slice osb s.B.length csb) (.slice osl s.L.length csl)→Calls Tryz.prog 21 #[.agg #[.int .i64 s.P,.slice osa s.A.length csa,.int .i64 s.Q,.slice osb s.B.length csb,.int .i64 s.a,.int .i64 s.b,.slice osl s.L.length csl],.int .i64 (x - d)] W fun e w'=>e=.returned (.bool true)∧Below W.heap.size W w'):=fun W h=>by have z:=HAS.out W (x - d) ⟨by omega,by omega⟩ h;rw [q2] at z;exact z
              obtain ⟨aa,ab,ac,ad,ae,af,ag,ah⟩:=Ts_14.out.z7;go_wp2_with fail
              clear aa ab ac ad ae af ag ah;refine (H8.out _ Ss_14.out).mono ?_;rintro e w15 ⟨rfl,hb⟩;have AF_15:=zd AF_14 hb;have Ts_15:=zh (Ts_14.out.keep hb);have Ss_15:=zh (Ss_14.out.keep hb);clear hb AF_14 Ts_14 Ss_14;clear H8;obtain ⟨aa,ab,ac,ad,ae,af,ag,ah⟩:=Ts_15.out.z7;go_wp2
              go_ret
              exact ⟨rfl,AF_15.out⟩
          · skip
            have n1y:decide (x+d<n1)=false:=zdf (by
                intro c;have z:=n1z (x+d) (by omega) c;rw [q1] at z;cases z)
            have H7:Hid (∀ W,SS3 W s (.slice osa s.A.length csa) (.slice osb s.B.length csb) (.slice osl s.L.length csl)→Calls Tryz.prog 21 #[.agg #[.int .i64 s.P,.slice osa s.A.length csa,.int .i64 s.Q,.slice osb s.B.length csb,.int .i64 s.a,.int .i64 s.b,.slice osl s.L.length csl],.int .i64 (x+d)] W fun e w'=>e=.returned (.bool true)∧Below W.heap.size W w'):=fun W h=>by have z:=HAS.out W (x+d) ⟨by omega,by omega⟩ h;rw [q1] at z;exact z
            obtain ⟨aa,ab,ac,ad,ae,af,ag,ah⟩:=Ts_13.out.z7;go_wp2_with fail
            clear aa ab ac ad ae af ag ah;refine (H7.out _ Ss_13.out).mono ?_;rintro e w14 ⟨rfl,hb⟩;have AF_14:=zd AF_13 hb;have Ts_14:=zh (Ts_13.out.keep hb);have Ss_14:=zh (Ss_13.out.keep hb);clear hb AF_13 Ts_13 Ss_13;clear H7
            cases q2:f (x - d)
            · skip
              have H8:Hid (∀ W,SS3 W s (.slice osa s.A.length csa) (.slice osb s.B.length csb) (.slice osl s.L.length csl)→Calls Tryz.prog 21 #[.agg #[.int .i64 s.P,.slice osa s.A.length csa,.int .i64 s.Q,.slice osb s.B.length csb,.int .i64 s.a,.int .i64 s.b,.slice osl s.L.length csl],.int .i64 (x - d)] W fun e w'=>e=.returned (.bool false)∧Below W.heap.size W w'):=fun W h=>by have z:=HAS.out W (x - d) ⟨by omega,by omega⟩ h;rw [q2] at z;exact z
              obtain ⟨aa,ab,ac,ad,ae,af,ag,ah⟩:=Ts_14.out.z7;go_wp2_with fail
              clear aa ab ac ad ae af ag ah;refine (H8.out _ Ss_14.out).mono ?_;rintro e w15 ⟨rfl,hb⟩;have AF_15:=zd AF_14 hb;have Ts_15:=zh (Ts_14.out.keep hb);have Ss_15:=zh (Ss_14.out.keep hb);clear hb AF_14 Ts_14 Ss_14;clear H8;obtain ⟨aa,ab,ac,ad,ae,af,ag,ah⟩:=Ts_15.out.z7;go_wp2
              go_ret
              exact ⟨rfl,AF_15.out⟩
            · skip
              have n2y:decide (x - d≤n2)=true:=zdt (by
                  refine Int.not_lt.1 fun c=>?_;have z:=n2z (x - d) c (by omega);rw [q2] at z;cases z)
              have H8:Hid (∀ W,SS3 W s (.slice osa s.A.length csa) (.slice osb s.B.length csb) (.slice osl s.L.length csl)→Calls Tryz.prog 21 #[.agg #[.int .i64 s.P,.slice osa s.A.length csa,.int .i64 s.Q,.slice osb s.B.length csb,.int .i64 s.a,.int .i64 s.b,.slice osl s.L.length csl],.int .i64 (x - d)] W fun e w'=>e=.returned (.bool true)∧Below W.heap.size W w'):=fun W h=>by have z:=HAS.out W (x - d) ⟨by omega,by omega⟩ h;rw [q2] at z;exact z
              obtain ⟨aa,ab,ac,ad,ae,af,ag,ah⟩:=Ts_14.out.z7;go_wp2_with fail
              clear aa ab ac ad ae af ag ah;refine (H8.out _ Ss_14.out).mono ?_;rintro e w15 ⟨rfl,hb⟩;have AF_15:=zd AF_14 hb;have Ts_15:=zh (Ts_14.out.keep hb);have Ss_15:=zh (Ss_14.out.keep hb);clear hb AF_14 Ts_14 Ss_14;clear H8;obtain ⟨aa,ab,ac,ad,ae,af,ag,ah⟩:=Ts_15.out.z7;go_wp2
              go_ret
              exact ⟨rfl,AF_15.out⟩
  · skip
    go_enter Tryz.func10,Tryz.ntmps10
    obtain ⟨aa,ab,ac,ad,ae,af,ag,ah⟩:=Ts_0.out.z7;go_wp2_with fail
    clear aa ab ac ad ae af ag ah;generalize (w.alloc (.cells #[.int .i64 s.P,.slice osa s.A.length csa,.int .i64 s.Q,.slice osb s.B.length csb,.int .i64 s.a,.int .i64 s.b,.slice osl s.L.length csl] 26))=w0 at *;refine (AW.out _).mono ?_;rintro e w1 ⟨rfl,hb⟩;have AF_1:=zd AF_0 hb;have Ts_1:=zh (Ts_0.out.keep hb);have Ss_1:=zh (Ss_0.out.keep hb);clear hb AF_0 Ts_0 Ss_0;obtain ⟨ai,aj,ak,al,am,an,ao,ap⟩:=Ts_1.out.z7;have gb:=grow (here w1) (.cells #[.int .i64 s.P,.slice osa s.A.length csa,.int .i64 s.Q,.slice osb s.B.length csb,.int .i64 s.a,.int .i64 s.b,.slice osl s.L.length csl] 26);have AF_2:=zd AF_1 gb;have Ts_2:=zh (Ts_1.out.keep gb);have Ss_2:=zh (Ss_1.out.keep gb);have G_2:=zh (Bxs.new (w:=w1) [.int .i64 s.P,.slice osa s.A.length csa,.int .i64 s.Q,.slice osb s.B.length csb,.int .i64 s.a,.int .i64 s.b,.slice osl s.L.length csl] 26);clear gb AF_1 Ts_1 Ss_1;obtain ⟨aa,ab,ac,ad,ae,af,ag,ah⟩:=Ts_2.out.z7;obtain ⟨aq,ar,au,av,aw,ax,ay,az⟩:=G_2.out.z7;go_wp2_with fail
    clear aa ab ac ad ae af ag aq ar au av aw ax ay ah az;generalize (w1.alloc (.cells #[.int .i64 s.P,.slice osa s.A.length csa,.int .i64 s.Q,.slice osb s.B.length csb,.int .i64 s.a,.int .i64 s.b,.slice osl s.L.length csl] 26))=w2 at *;refine (LG.out _ _ G_2.out).mono ?_;rintro e w3 ⟨rfl,hb⟩;have AF_3:=zd AF_2 hb;have Ts_3:=zh (Ts_2.out.keep hb);have G_3:=zh (G_2.out.keep hb);have Ss_3:=zh (Ss_2.out.keep hb);clear hb AF_2 Ts_2 G_2 Ss_2;clear ai aj ak al am an ao ap;obtain ⟨aa,ab,ac,ad,ae,af,ag,ah⟩:=Ts_3.out.z7;go_wp2_with fail
    clear aa ab ac ad ae af ag ah;refine (RV.out _ Ss_3.out).mono ?_;rintro e w4 ⟨rfl,hb⟩;have AF_4:=zd AF_3 hb;have Ts_4:=zh (Ts_3.out.keep hb);have Ss_4:=zh (Ss_3.out.keep hb);clear hb AF_3 Ts_3 Ss_3;have H0:Hid (∀ W,SS3 W s (.slice osa s.A.length csa) (.slice osb s.B.length csb) (.slice osl s.L.length csl)→Calls Tryz.prog 21 #[.agg #[.int .i64 s.P,.slice osa s.A.length csa,.int .i64 s.Q,.slice osb s.B.length csb,.int .i64 s.a,.int .i64 s.b,.slice osl s.L.length csl],.int .i64 (x)] W fun e w'=>e=.returned (.bool true)∧Below W.heap.size W w'):=fun W h=>by have z:=HAS.out W (x) hx h;rw [fx] at z;exact z
    obtain ⟨aa,ab,ac,ad,ae,af,ag,ah⟩:=Ts_4.out.z7;go_wp2_with fail
    clear aa ab ac ad ae af ag ah;refine (H0.out _ Ss_4.out).mono ?_;rintro e w5 ⟨rfl,hb⟩;have AF_5:=zd AF_4 hb;have Ts_5:=zh (Ts_4.out.keep hb);have Ss_5:=zh (Ss_4.out.keep hb);clear hb AF_4 Ts_4 Ss_4;clear H0;obtain ⟨aa,ab,ac,ad,ae,af,ag,ah⟩:=Ts_5.out.z7;go_wp2_with fail
    clear aa ab ac ad ae af ag ah;refine (CH.out _ Ss_5.out).mono ?_;rintro e w6 ⟨⟨c,o0,rfl,n9⟩,hb⟩;have AF_6:=zd AF_5 hb;have Ts_6:=zh (Ts_5.out.keep hb);have Ss_6:=zh (Ss_5.out.keep hb);clear hb AF_5 Ts_5 Ss_5;have C0:=n9.1 vx;clear n9
    cases o0
    · skip
      have q0:=nc_no C0 (y:=x+d) (by omega) (by omega);rw [fx] at q0;have b0:IntKind.i64.wrap (x+d)=x+d:=by rw [IntKind.wrap_i64];omega
      have H4:Hid (∀ W,SS3 W s (.slice osa s.A.length csa) (.slice osb s.B.length csb) (.slice osl s.L.length csl)→Calls Tryz.prog 21 #[.agg #[.int .i64 s.P,.slice osa s.A.length csa,.int .i64 s.Q,.slice osb s.B.length csb,.int .i64 s.a,.int .i64 s.b,.slice osl s.L.length csl],.int .i64 (x+d)] W fun e w'=>e=.returned (.bool true)∧Below W.heap.size W w'):=fun W h=>by have z:=HAS.out W (x+d) ⟨by omega,by omega⟩ h;rw [q0] at z;exact z
      obtain ⟨aa,ab,ac,ad,ae,af,ag,ah⟩:=Ts_6.out.z7;go_wp2_with fail
      clear aa ab ac ad ae af ag ah;refine (H4.out _ Ss_6.out).mono ?_;rintro e w7 ⟨rfl,hb⟩;have AF_7:=zd AF_6 hb;have Ts_7:=zh (Ts_6.out.keep hb);have Ss_7:=zh (Ss_6.out.keep hb);clear hb AF_6 Ts_6 Ss_6;clear H4;clear C0 b0;obtain ⟨aa,ab,ac,ad,ae,af,ag,ah⟩:=Ts_7.out.z7;go_wp2_with fail
      clear aa ab ac ad ae af ag ah;refine (NX.out _ Ss_7.out).mono ?_;rintro e w8 ⟨⟨n1,o1,rfl,n9⟩,hb⟩;have AF_8:=zd AF_7 hb;have Ts_8:=zh (Ts_7.out.keep hb);have Ss_8:=zh (Ss_7.out.keep hb);clear hb AF_7 Ts_7 Ss_7;have N1:=n9.1 vx;clear n9;obtain ⟨aa,ab,ac,ad,ae,af,ag,ah⟩:=Ts_8.out.z7;go_wp2_with fail
      clear aa ab ac ad ae af ag ah;refine (PV.out _ Ss_8.out).mono ?_;rintro e w9 ⟨⟨n2,o2,rfl,n9⟩,hb⟩;have AF_9:=zd AF_8 hb;have Ts_9:=zh (Ts_8.out.keep hb);have Ss_9:=zh (Ss_8.out.keep hb);clear hb AF_8 Ts_8 Ss_8;have N2:=n9.1 vx;clear n9
      cases o1
      · have z:=(N1.no rfl).2 x (Int.le_refl x) (by omega);rw [fx] at z;cases z
      · skip
        obtain ⟨n1a,n1b,n1c,n1z⟩:=N1.yes rfl;clear N1
        cases o2
        · have z:=(N2.no rfl).2 x (by omega) (Int.le_refl x);rw [fx] at z;cases z
        · skip
          obtain ⟨n2a,n2b,n2c,n2z⟩:=N2.yes rfl;clear N2;have e1:x=n1:=by
              refine Int.le_antisymm n1a (Int.not_lt.1 fun c=>?_);have z:=n1z x (Int.le_refl x) c;rw [fx] at z;cases z
          have e2:x=n2:=by
              refine Int.le_antisymm (Int.not_lt.1 fun c=>?_) n2a;have z:=n2z x c (Int.le_refl x);rw [fx] at z;cases z
          subst e1;subst e2;have k1:decide (x<x)=false:=zdf (by omega);have k2:decide (x<x)=false:=zdf (by omega);have H5:Hid (∀ W,SS3 W s (.slice osa s.A.length csa) (.slice osb s.B.length csb) (.slice osl s.L.length csl)→Calls Tryz.prog 21 #[.agg #[.int .i64 s.P,.slice osa s.A.length csa,.int .i64 s.Q,.slice osb s.B.length csb,.int .i64 s.a,.int .i64 s.b,.slice osl s.L.length csl],.int .i64 (x)] W fun e w'=>e=.returned (.bool true)∧Below W.heap.size W w'):=fun W h=>by have z:=HAS.out W (x) ⟨by omega,by omega⟩ h;rw [n1c] at z;exact z
          obtain ⟨aa,ab,ac,ad,ae,af,ag,ah⟩:=Ts_9.out.z7;go_wp2_with fail
          clear aa ab ac ad ae af ag ah;refine (H5.out _ Ss_9.out).mono ?_;rintro e w10 ⟨rfl,hb⟩;have AF_10:=zd AF_9 hb;have Ts_10:=zh (Ts_9.out.keep hb);have Ss_10:=zh (Ss_9.out.keep hb);clear hb AF_9 Ts_9 Ss_9;clear H5;have H6:Hid (∀ W,SS3 W s (.slice osa s.A.length csa) (.slice osb s.B.length csb) (.slice osl s.L.length csl)→Calls Tryz.prog 21 #[.agg #[.int .i64 s.P,.slice osa s.A.length csa,.int .i64 s.Q,.slice osb s.B.length csb,.int .i64 s.a,.int .i64 s.b,.slice osl s.L.length csl],.int .i64 (x)] W fun e w'=>e=.returned (.bool true)∧Below W.heap.size W w'):=fun W h=>by have z:=HAS.out W (x) ⟨by omega,by omega⟩ h;rw [n2c] at z;exact z
          obtain ⟨aa,ab,ac,ad,ae,af,ag,ah⟩:=Ts_10.out.z7;go_wp2_with fail
          clear aa ab ac ad ae af ag ah;refine (H6.out _ Ss_10.out).mono ?_;rintro e w11 ⟨rfl,hb⟩;have AF_11:=zd AF_10 hb;have Ts_11:=zh (Ts_10.out.keep hb);have Ss_11:=zh (Ss_10.out.keep hb);clear hb AF_10 Ts_10 Ss_10;clear H6;have b1:IntKind.i64.wrap (x+d)=x+d:=by rw [IntKind.wrap_i64];omega
          have b2:IntKind.i64.wrap (x - d)=x - d:=by rw [IntKind.wrap_i64];omega
          cases q1:f (x+d)
          · skip
            have H7:Hid (∀ W,SS3 W s (.slice osa s.A.length csa) (.slice osb s.B.length csb) (.slice osl s.L.length csl)→Calls Tryz.prog 21 #[.agg #[.int .i64 s.P,.slice osa s.A.length csa,.int .i64 s.Q,.slice osb s.B.length csb,.int .i64 s.a,.int .i64 s.b,.slice osl s.L.length csl],.int .i64 (x+d)] W fun e w'=>e=.returned (.bool false)∧Below W.heap.size W w'):=fun W h=>by have z:=HAS.out W (x+d) ⟨by omega,by omega⟩ h;rw [q1] at z;exact z
            obtain ⟨aa,ab,ac,ad,ae,af,ag,ah⟩:=Ts_11.out.z7;go_wp2_with fail
            clear aa ab ac ad ae af ag ah;refine (H7.out _ Ss_11.out).mono ?_;rintro e w12 ⟨rfl,hb⟩;have AF_12:=zd AF_11 hb;have Ts_12:=zh (Ts_11.out.keep hb);have Ss_12:=zh (Ss_11.out.keep hb);clear hb AF_11 Ts_11 Ss_11;clear H7
            cases q2:f (x - d)
            · skip
              have H8:Hid (∀ W,SS3 W s (.slice osa s.A.length csa) (.slice osb s.B.length csb) (.slice osl s.L.length csl)→Calls Tryz.prog 21 #[.agg #[.int .i64 s.P,.slice osa s.A.length csa,.int .i64 s.Q,.slice osb s.B.length csb,.int .i64 s.a,.int .i64 s.b,.slice osl s.L.length csl],.int .i64 (x - d)] W fun e w'=>e=.returned (.bool false)∧Below W.heap.size W w'):=fun W h=>by have z:=HAS.out W (x - d) ⟨by omega,by omega⟩ h;rw [q2] at z;exact z
              obtain ⟨aa,ab,ac,ad,ae,af,ag,ah⟩:=Ts_12.out.z7;go_wp2_with fail
              clear aa ab ac ad ae af ag ah;refine (H8.out _ Ss_12.out).mono ?_;rintro e w13 ⟨rfl,hb⟩;have AF_13:=zd AF_12 hb;have Ts_13:=zh (Ts_12.out.keep hb);have Ss_13:=zh (Ss_12.out.keep hb);clear hb AF_12 Ts_12 Ss_12;clear H8;obtain ⟨aa,ab,ac,ad,ae,af,ag,ah⟩:=Ts_13.out.z7;go_wp2
              go_ret
              exact ⟨rfl,AF_13.out⟩
            · skip
              have n2y:decide (x - d≤x)=true:=zdt (by
                  refine Int.not_lt.1 fun c=>?_;have z:=n2z (x - d) c (by omega);rw [q2] at z;cases z)
              have H8:Hid (∀ W,SS3 W s (.slice osa s.A.length csa) (.slice osb s.B.length csb) (.slice osl s.L.length csl)→Calls Tryz.prog 21 #[.agg #[.int .i64 s.P,.slice osa s.A.length csa,.int .i64 s.Q,.slice osb s.B.length csb,.int .i64 s.a,.int .i64 s.b,.slice osl s.L.length csl],.int .i64 (x - d)] W fun e w'=>e=.returned (.bool true)∧Below W.heap.size W w'):=fun W h=>by have z:=HAS.out W (x - d) ⟨by omega,by omega⟩ h;rw [q2] at z;exact z
              obtain ⟨aa,ab,ac,ad,ae,af,ag,ah⟩:=Ts_12.out.z7;go_wp2_with fail
              clear aa ab ac ad ae af ag ah;refine (H8.out _ Ss_12.out).mono ?_;rintro e w13 ⟨rfl,hb⟩;have AF_13:=zd AF_12 hb;have Ts_13:=zh (Ts_12.out.keep hb);have Ss_13:=zh (Ss_12.out.keep hb);clear hb AF_12 Ts_12 Ss_12;clear H8;obtain ⟨aa,ab,ac,ad,ae,af,ag,ah⟩:=Ts_13.out.z7;go_wp2
              go_ret
              exact ⟨rfl,AF_13.out⟩
          · skip
            have n1y:decide (x+d<x)=false:=zdf (by
                intro c;have z:=n1z (x+d) (by omega) c;rw [q1] at z;cases z)
            have H7:Hid (∀ W,SS3 W s (.slice osa s.A.length csa) (.slice osb s.B.length csb) (.slice osl s.L.length csl)→Calls Tryz.prog 21 #[.agg #[.int .i64 s.P,.slice osa s.A.length csa,.int .i64 s.Q,.slice osb s.B.length csb,.int .i64 s.a,.int .i64 s.b,.slice osl s.L.length csl],.int .i64 (x+d)] W fun e w'=>e=.returned (.bool true)∧Below W.heap.size W w'):=fun W h=>by have z:=HAS.out W (x+d) ⟨by omega,by omega⟩ h;rw [q1] at z;exact z
            obtain ⟨aa,ab,ac,ad,ae,af,ag,ah⟩:=Ts_11.out.z7;go_wp2_with fail
            clear aa ab ac ad ae af ag ah;refine (H7.out _ Ss_11.out).mono ?_;rintro e w12 ⟨rfl,hb⟩;have AF_12:=zd AF_11 hb;have Ts_12:=zh (Ts_11.out.keep hb);have Ss_12:=zh (Ss_11.out.keep hb);clear hb AF_11 Ts_11 Ss_11;clear H7
            cases q2:f (x - d)
            · skip
              have H8:Hid (∀ W,SS3 W s (.slice osa s.A.length csa) (.slice osb s.B.length csb) (.slice osl s.L.length csl)→Calls Tryz.prog 21 #[.agg #[.int .i64 s.P,.slice osa s.A.length csa,.int .i64 s.Q,.slice osb s.B.length csb,.int .i64 s.a,.int .i64 s.b,.slice osl s.L.length csl],.int .i64 (x - d)] W fun e w'=>e=.returned (.bool false)∧Below W.heap.size W w'):=fun W h=>by have z:=HAS.out W (x - d) ⟨by omega,by omega⟩ h;rw [q2] at z;exact z
              obtain ⟨aa,ab,ac,ad,ae,af,ag,ah⟩:=Ts_12.out.z7;go_wp2_with fail
              clear aa ab ac ad ae af ag ah;refine (H8.out _ Ss_12.out).mono ?_;rintro e w13 ⟨rfl,hb⟩;have AF_13:=zd AF_12 hb;have Ts_13:=zh (Ts_12.out.keep hb);have Ss_13:=zh (Ss_12.out.keep hb);clear hb AF_12 Ts_12 Ss_12;clear H8;obtain ⟨aa,ab,ac,ad,ae,af,ag,ah⟩:=Ts_13.out.z7;go_wp2
              go_ret
              exact ⟨rfl,AF_13.out⟩
            · skip
              have n2y:decide (x - d≤x)=true:=zdt (by
                  refine Int.not_lt.1 fun c=>?_;have z:=n2z (x - d) c (by omega);rw [q2] at z;cases z)
              have H8:Hid (∀ W,SS3 W s (.slice osa s.A.length csa) (.slice osb s.B.length csb) (.slice osl s.L.length csl)→Calls Tryz.prog 21 #[.agg #[.int .i64 s.P,.slice osa s.A.length csa,.int .i64 s.Q,.slice osb s.B.length csb,.int .i64 s.a,.int .i64 s.b,.slice osl s.L.length csl],.int .i64 (x - d)] W fun e w'=>e=.returned (.bool true)∧Below W.heap.size W w'):=fun W h=>by have z:=HAS.out W (x - d) ⟨by omega,by omega⟩ h;rw [q2] at z;exact z
              obtain ⟨aa,ab,ac,ad,ae,af,ag,ah⟩:=Ts_12.out.z7;go_wp2_with fail
              clear aa ab ac ad ae af ag ah;refine (H8.out _ Ss_12.out).mono ?_;rintro e w13 ⟨rfl,hb⟩;have AF_13:=zd AF_12 hb;have Ts_13:=zh (Ts_12.out.keep hb);have Ss_13:=zh (Ss_12.out.keep hb);clear hb AF_12 Ts_12 Ss_12;clear H8;obtain ⟨aa,ab,ac,ad,ae,af,ag,ah⟩:=Ts_13.out.z7;go_wp2
              go_ret
              exact ⟨rfl,AF_13.out⟩
    · skip
      obtain ⟨c0,c1,c2,c3⟩:=C0.yes rfl;have kc:decide (c≤x)=false:=zdf (by omega);have q0:=nc_yes C0 (y:=c - 1) (by omega) (by omega);rw [fx] at q0;have b0:IntKind.i64.wrap (c - 1)=c - 1:=by rw [IntKind.wrap_i64];omega
      have q3:f c=false:=by
          have z:f c≠f (c - 1):=c2;rw [q0] at z
          cases q:f c
          · first | rfl | exact absurd q z
          · first | rfl | exact absurd q z
      have H1:Hid (∀ W,SS3 W s (.slice osa s.A.length csa) (.slice osb s.B.length csb) (.slice osl s.L.length csl)→Calls Tryz.prog 21 #[.agg #[.int .i64 s.P,.slice osa s.A.length csa,.int .i64 s.Q,.slice osb s.B.length csb,.int .i64 s.a,.int .i64 s.b,.slice osl s.L.length csl],.int .i64 (c - 1)] W fun e w'=>e=.returned (.bool true)∧Below W.heap.size W w'):=fun W h=>by have z:=HAS.out W (c - 1) ⟨by omega,by omega⟩ h;rw [q0] at z;exact z
      obtain ⟨aa,ab,ac,ad,ae,af,ag,ah⟩:=Ts_6.out.z7;go_wp2_with fail
      clear aa ab ac ad ae af ag ah;refine (H1.out _ Ss_6.out).mono ?_;rintro e w7 ⟨rfl,hb⟩;have AF_7:=zd AF_6 hb;have Ts_7:=zh (Ts_6.out.keep hb);have Ss_7:=zh (Ss_6.out.keep hb);clear hb AF_6 Ts_6 Ss_6;clear H1;have H2:Hid (∀ W,SS3 W s (.slice osa s.A.length csa) (.slice osb s.B.length csb) (.slice osl s.L.length csl)→Calls Tryz.prog 21 #[.agg #[.int .i64 s.P,.slice osa s.A.length csa,.int .i64 s.Q,.slice osb s.B.length csb,.int .i64 s.a,.int .i64 s.b,.slice osl s.L.length csl],.int .i64 (c)] W fun e w'=>e=.returned (.bool false)∧Below W.heap.size W w'):=fun W h=>by have z:=HAS.out W (c) ⟨by omega,by omega⟩ h;rw [q3] at z;exact z
      obtain ⟨aa,ab,ac,ad,ae,af,ag,ah⟩:=Ts_7.out.z7;go_wp2_with fail
      clear aa ab ac ad ae af ag ah;refine (H2.out _ Ss_7.out).mono ?_;rintro e w8 ⟨rfl,hb⟩;have AF_8:=zd AF_7 hb;have Ts_8:=zh (Ts_7.out.keep hb);have Ss_8:=zh (Ss_7.out.keep hb);clear hb AF_7 Ts_7 Ss_7;clear H2;obtain ⟨m,hm⟩:∃ m,(if (256:Int)<c - x then (256:Int) else c - x)=m:=⟨_,rfl⟩;have m1:1≤m∧m≤256∧m≤c - x:=by rw [← hm];split <;> omega
      have em:min (c - x) 256=m:=by rw [← hm];split <;> omega
      have bx:IntKind.i64.wrap (c - x)=c - x:=by rw [IntKind.wrap_i64];omega
      obtain ⟨r,hr⟩:∃ r,d.tmod m=r:=⟨_,rfl⟩;have r0:r=d % m:=by rw [← hr,Int.tmod_eq_emod_of_nonneg (by omega)]
      have r1:=Int.emod_nonneg d (show m≠0 by omega);have r2:=Int.emod_lt_of_pos d (show 0<m by omega);rw [← r0] at r1 r2;have km:(m==0)=false:=by rw [beq_eq_false_iff_ne];omega
      have mz:m≠0:=by omega
      have bw:IntKind.i64.wrap r=r:=by rw [IntKind.wrap_i64];omega
      have by1:IntKind.i64.wrap (x+r)=x+r:=by rw [IntKind.wrap_i64];omega
      have q4:=nc_yes C0 (y:=x+r) (by omega) (by omega);rw [fx] at q4;replace hm:=zh hm;replace r0:=zh r0;have H3:Hid (∀ W,SS3 W s (.slice osa s.A.length csa) (.slice osb s.B.length csb) (.slice osl s.L.length csl)→Calls Tryz.prog 21 #[.agg #[.int .i64 s.P,.slice osa s.A.length csa,.int .i64 s.Q,.slice osb s.B.length csb,.int .i64 s.a,.int .i64 s.b,.slice osl s.L.length csl],.int .i64 (x+r)] W fun e w'=>e=.returned (.bool true)∧Below W.heap.size W w'):=fun W h=>by have z:=HAS.out W (x+r) ⟨by omega,by omega⟩ h;rw [q4] at z;exact z
      obtain ⟨aa,ab,ac,ad,ae,af,ag,ah⟩:=Ts_8.out.z7;go_wp2_with fail
      clear aa ab ac ad ae af ag ah;refine (H3.out _ Ss_8.out).mono ?_;rintro e w9 ⟨rfl,hb⟩;have AF_9:=zd AF_8 hb;have Ts_9:=zh (Ts_8.out.keep hb);have Ss_9:=zh (Ss_8.out.keep hb);clear hb AF_8 Ts_8 Ss_8;clear H3;clear C0 c2 c3 kc q0 b0 q3 hm m1 em bx hr r0 r1 r2 km mz bw by1 q4;obtain ⟨aa,ab,ac,ad,ae,af,ag,ah⟩:=Ts_9.out.z7;go_wp2_with fail
      clear aa ab ac ad ae af ag ah;refine (NX.out _ Ss_9.out).mono ?_;rintro e w10 ⟨⟨n1,o1,rfl,n9⟩,hb⟩;have AF_10:=zd AF_9 hb;have Ts_10:=zh (Ts_9.out.keep hb);have Ss_10:=zh (Ss_9.out.keep hb);clear hb AF_9 Ts_9 Ss_9;have N1:=n9.1 vx;clear n9;obtain ⟨aa,ab,ac,ad,ae,af,ag,ah⟩:=Ts_10.out.z7;go_wp2_with fail
      clear aa ab ac ad ae af ag ah;refine (PV.out _ Ss_10.out).mono ?_;rintro e w11 ⟨⟨n2,o2,rfl,n9⟩,hb⟩;have AF_11:=zd AF_10 hb;have Ts_11:=zh (Ts_10.out.keep hb);have Ss_11:=zh (Ss_10.out.keep hb);clear hb AF_10 Ts_10 Ss_10;have N2:=n9.1 vx;clear n9
      cases o1
      · have z:=(N1.no rfl).2 x (Int.le_refl x) (by omega);rw [fx] at z;cases z
      · skip
        obtain ⟨n1a,n1b,n1c,n1z⟩:=N1.yes rfl;clear N1
        cases o2
        · have z:=(N2.no rfl).2 x (by omega) (Int.le_refl x);rw [fx] at z;cases z
        · skip
          obtain ⟨n2a,n2b,n2c,n2z⟩:=N2.yes rfl;clear N2;have e1:x=n1:=by
              refine Int.le_antisymm n1a (Int.not_lt.1 fun c=>?_);have z:=n1z x (Int.le_refl x) c;rw [fx] at z;cases z
          have e2:x=n2:=by
              refine Int.le_antisymm (Int.not_lt.1 fun c=>?_) n2a;have z:=n2z x c (Int.le_refl x);rw [fx] at z;cases z
          subst e1;subst e2;have k1:decide (x<x)=false:=zdf (by omega);have k2:decide (x<x)=false:=zdf (by omega);have H5:Hid (∀ W,SS3 W s (.slice osa s.A.length csa) (.slice osb s.B.length csb) (.slice osl s.L.length csl)→Calls Tryz.prog 21 #[.agg #[.int .i64 s.P,.slice osa s.A.length csa,.int .i64 s.Q,.slice osb s.B.length csb,.int .i64 s.a,.int .i64 s.b,.slice osl s.L.length csl],.int .i64 (x)] W fun e w'=>e=.returned (.bool true)∧Below W.heap.size W w'):=fun W h=>by have z:=HAS.out W (x) ⟨by omega,by omega⟩ h;rw [n1c] at z;exact z
          obtain ⟨aa,ab,ac,ad,ae,af,ag,ah⟩:=Ts_11.out.z7;go_wp2_with fail
          clear aa ab ac ad ae af ag ah;refine (H5.out _ Ss_11.out).mono ?_;rintro e w12 ⟨rfl,hb⟩;have AF_12:=zd AF_11 hb;have Ts_12:=zh (Ts_11.out.keep hb);have Ss_12:=zh (Ss_11.out.keep hb);clear hb AF_11 Ts_11 Ss_11;clear H5;have H6:Hid (∀ W,SS3 W s (.slice osa s.A.length csa) (.slice osb s.B.length csb) (.slice osl s.L.length csl)→Calls Tryz.prog 21 #[.agg #[.int .i64 s.P,.slice osa s.A.length csa,.int .i64 s.Q,.slice osb s.B.length csb,.int .i64 s.a,.int .i64 s.b,.slice osl s.L.length csl],.int .i64 (x)] W fun e w'=>e=.returned (.bool true)∧Below W.heap.size W w'):=fun W h=>by have z:=HAS.out W (x) ⟨by omega,by omega⟩ h;rw [n2c] at z;exact z
          obtain ⟨aa,ab,ac,ad,ae,af,ag,ah⟩:=Ts_12.out.z7;go_wp2_with fail
          clear aa ab ac ad ae af ag ah;refine (H6.out _ Ss_12.out).mono ?_;rintro e w13 ⟨rfl,hb⟩;have AF_13:=zd AF_12 hb;have Ts_13:=zh (Ts_12.out.keep hb);have Ss_13:=zh (Ss_12.out.keep hb);clear hb AF_12 Ts_12 Ss_12;clear H6;have b1:IntKind.i64.wrap (x+d)=x+d:=by rw [IntKind.wrap_i64];omega
          have b2:IntKind.i64.wrap (x - d)=x - d:=by rw [IntKind.wrap_i64];omega
          cases q1:f (x+d)
          · skip
            have H7:Hid (∀ W,SS3 W s (.slice osa s.A.length csa) (.slice osb s.B.length csb) (.slice osl s.L.length csl)→Calls Tryz.prog 21 #[.agg #[.int .i64 s.P,.slice osa s.A.length csa,.int .i64 s.Q,.slice osb s.B.length csb,.int .i64 s.a,.int .i64 s.b,.slice osl s.L.length csl],.int .i64 (x+d)] W fun e w'=>e=.returned (.bool false)∧Below W.heap.size W w'):=fun W h=>by have z:=HAS.out W (x+d) ⟨by omega,by omega⟩ h;rw [q1] at z;exact z
            obtain ⟨aa,ab,ac,ad,ae,af,ag,ah⟩:=Ts_13.out.z7;go_wp2_with fail
            clear aa ab ac ad ae af ag ah;refine (H7.out _ Ss_13.out).mono ?_;rintro e w14 ⟨rfl,hb⟩;have AF_14:=zd AF_13 hb;have Ts_14:=zh (Ts_13.out.keep hb);have Ss_14:=zh (Ss_13.out.keep hb);clear hb AF_13 Ts_13 Ss_13;clear H7
            cases q2:f (x - d)
            · skip
              have H8:Hid (∀ W,SS3 W s (.slice osa s.A.length csa) (.slice osb s.B.length csb) (.slice osl s.L.length csl)→Calls Tryz.prog 21 #[.agg #[.int .i64 s.P,.slice osa s.A.length csa,.int .i64 s.Q,.slice osb s.B.length csb,.int .i64 s.a,.int .i64 s.b,.slice osl s.L.length csl],.int .i64 (x - d)] W fun e w'=>e=.returned (.bool false)∧Below W.heap.size W w'):=fun W h=>by have z:=HAS.out W (x - d) ⟨by omega,by omega⟩ h;rw [q2] at z;exact z
              obtain ⟨aa,ab,ac,ad,ae,af,ag,ah⟩:=Ts_14.out.z7;go_wp2_with fail
              clear aa ab ac ad ae af ag ah;refine (H8.out _ Ss_14.out).mono ?_;rintro e w15 ⟨rfl,hb⟩;have AF_15:=zd AF_14 hb;have Ts_15:=zh (Ts_14.out.keep hb);have Ss_15:=zh (Ss_14.out.keep hb);clear hb AF_14 Ts_14 Ss_14;clear H8;obtain ⟨aa,ab,ac,ad,ae,af,ag,ah⟩:=Ts_15.out.z7;go_wp2
              go_ret
              exact ⟨rfl,AF_15.out⟩
            · skip
              have n2y:decide (x - d≤x)=true:=zdt (by
                  refine Int.not_lt.1 fun c=>?_;have z:=n2z (x - d) c (by omega);rw [q2] at z;cases z)
              have H8:Hid (∀ W,SS3 W s (.slice osa s.A.length csa) (.slice osb s.B.length csb) (.slice osl s.L.length csl)→Calls Tryz.prog 21 #[.agg #[.int .i64 s.P,.slice osa s.A.length csa,.int .i64 s.Q,.slice osb s.B.length csb,.int .i64 s.a,.int .i64 s.b,.slice osl s.L.length csl],.int .i64 (x - d)] W fun e w'=>e=.returned (.bool true)∧Below W.heap.size W w'):=fun W h=>by have z:=HAS.out W (x - d) ⟨by omega,by omega⟩ h;rw [q2] at z;exact z
              obtain ⟨aa,ab,ac,ad,ae,af,ag,ah⟩:=Ts_14.out.z7;go_wp2_with fail
              clear aa ab ac ad ae af ag ah;refine (H8.out _ Ss_14.out).mono ?_;rintro e w15 ⟨rfl,hb⟩;have AF_15:=zd AF_14 hb;have Ts_15:=zh (Ts_14.out.keep hb);have Ss_15:=zh (Ss_14.out.keep hb);clear hb AF_14 Ts_14 Ss_14;clear H8;obtain ⟨aa,ab,ac,ad,ae,af,ag,ah⟩:=Ts_15.out.z7;go_wp2
              go_ret
              exact ⟨rfl,AF_15.out⟩
          · skip
            have n1y:decide (x+d<x)=false:=zdf (by
                intro c;have z:=n1z (x+d) (by omega) c;rw [q1] at z;cases z)
            have H7:Hid (∀ W,SS3 W s (.slice osa s.A.length csa) (.slice osb s.B.length csb) (.slice osl s.L.length csl)→Calls Tryz.prog 21 #[.agg #[.int .i64 s.P,.slice osa s.A.length csa,.int .i64 s.Q,.slice osb s.B.length csb,.int .i64 s.a,.int .i64 s.b,.slice osl s.L.length csl],.int .i64 (x+d)] W fun e w'=>e=.returned (.bool true)∧Below W.heap.size W w'):=fun W h=>by have z:=HAS.out W (x+d) ⟨by omega,by omega⟩ h;rw [q1] at z;exact z
            obtain ⟨aa,ab,ac,ad,ae,af,ag,ah⟩:=Ts_13.out.z7;go_wp2_with fail
            clear aa ab ac ad ae af ag ah;refine (H7.out _ Ss_13.out).mono ?_;rintro e w14 ⟨rfl,hb⟩;have AF_14:=zd AF_13 hb;have Ts_14:=zh (Ts_13.out.keep hb);have Ss_14:=zh (Ss_13.out.keep hb);clear hb AF_13 Ts_13 Ss_13;clear H7
            cases q2:f (x - d)
            · skip
              have H8:Hid (∀ W,SS3 W s (.slice osa s.A.length csa) (.slice osb s.B.length csb) (.slice osl s.L.length csl)→Calls Tryz.prog 21 #[.agg #[.int .i64 s.P,.slice osa s.A.length csa,.int .i64 s.Q,.slice osb s.B.length csb,.int .i64 s.a,.int .i64 s.b,.slice osl s.L.length csl],.int .i64 (x - d)] W fun e w'=>e=.returned (.bool false)∧Below W.heap.size W w'):=fun W h=>by have z:=HAS.out W (x - d) ⟨by omega,by omega⟩ h;rw [q2] at z;exact z
              obtain ⟨aa,ab,ac,ad,ae,af,ag,ah⟩:=Ts_14.out.z7;go_wp2_with fail
              clear aa ab ac ad ae af ag ah;refine (H8.out _ Ss_14.out).mono ?_;rintro e w15 ⟨rfl,hb⟩;have AF_15:=zd AF_14 hb;have Ts_15:=zh (Ts_14.out.keep hb);have Ss_15:=zh (Ss_14.out.keep hb);clear hb AF_14 Ts_14 Ss_14;clear H8;obtain ⟨aa,ab,ac,ad,ae,af,ag,ah⟩:=Ts_15.out.z7;go_wp2
              go_ret
              exact ⟨rfl,AF_15.out⟩
            · skip
              have n2y:decide (x - d≤x)=true:=zdt (by
                  refine Int.not_lt.1 fun c=>?_;have z:=n2z (x - d) c (by omega);rw [q2] at z;cases z)
              have H8:Hid (∀ W,SS3 W s (.slice osa s.A.length csa) (.slice osb s.B.length csb) (.slice osl s.L.length csl)→Calls Tryz.prog 21 #[.agg #[.int .i64 s.P,.slice osa s.A.length csa,.int .i64 s.Q,.slice osb s.B.length csb,.int .i64 s.a,.int .i64 s.b,.slice osl s.L.length csl],.int .i64 (x - d)] W fun e w'=>e=.returned (.bool true)∧Below W.heap.size W w'):=fun W h=>by have z:=HAS.out W (x - d) ⟨by omega,by omega⟩ h;rw [q2] at z;exact z
              obtain ⟨aa,ab,ac,ad,ae,af,ag,ah⟩:=Ts_14.out.z7;go_wp2_with fail
              clear aa ab ac ad ae af ag ah;refine (H8.out _ Ss_14.out).mono ?_;rintro e w15 ⟨rfl,hb⟩;have AF_15:=zd AF_14 hb;have Ts_15:=zh (Ts_14.out.keep hb);have Ss_15:=zh (Ss_14.out.keep hb);clear hb AF_14 Ts_14 Ss_14;clear H8;obtain ⟨aa,ab,ac,ad,ae,af,ag,ah⟩:=Ts_15.out.z7;go_wp2
              go_ret
              exact ⟨rfl,AF_15.out⟩
end Go.Proofs.YtmamlgaogpkagaaGreat
