/- TlR. -/
import Derived.Test.YtmamlgaogpkagaaGreatQLPlain
import Derived.Test.YtmamlgaogpkagaaGreatQLGen
import Derived.Test.YtmamlgaogpkagaaGreatQLSl
import Derived.Test.YtmamlgaogpkagaaGreatQLSla
import Derived.Test.YtmamlgaogpkagaaGreatQRnVa
import Derived.Test.YtmamlgaogpkagaaGreatQRnKF
import Derived.Test.YtmamlgaogpkagaaGreatQPeKJ
import Derived.Test.YtmamlgaogpkagaaGreatQPeHEb
import Derived.Test.YtmamlgaogpkagaaGreatQTsGa
import Derived.Test.YtmamlgaogpkagaaGreatQTvB
import Derived.Test.YtmamlgaogpkagaaGreatQTvI
import Derived.Test.YtmamlgaogpkagaaGreatQTvL
import Derived.Test.YtmamlgaogpkagaaGreatQTvM
import Derived.Test.YtmamlgaogpkagaaGreatQTsCk
import Derived.Test.YtmamlgaogpkagaaGreatQTlRa
import Derived.StillTailTactics
import Derived.BigQuiet
import Derived.Deep.QuietTactic
import Derived.Deep.Cut
namespace Go.Proofs.YtmamlgaogpkagaaGreat
open Go.RowKit
set_option linter.unusedVariables false
set_option linter.unusedSimpArgs false
set_option maxRecDepth 100000 in
set_option maxHeartbeats 16000000 in
theorem plruns (s:TS) (vsa vsb vsl:Value) (tis:TsI s) (a:Int) (ha:I64 a) (b:Int) (hb:I64 b) (c:Int) (hc:I64 c) (x:Int) (hx:I64 x) (w:World) (hs:SS3 w s vsa vsb vsl) :
    Calls Tryz.prog 11 #[.agg #[.int .i64 s.P,vsa,.int .i64 s.Q,vsb,.int .i64 s.a,.int .i64 s.b,vsl],.int .i64 a,.int .i64 b,.int .i64 c,.int .i64 x] w fun e w'=>e=.returned (.bool true)∧Below w.heap.size w w':=by
  obtain ⟨osa,csa,rfl⟩:=prs_shape hs.a;obtain ⟨osb,csb,rfl⟩:=prs_shape hs.b;obtain ⟨osl,csl,rfl⟩:=prs_shape hs.l;have AF_0:=zh (grow (here w) (.cells #[.int .i64 s.P,.slice osa s.A.length csa,.int .i64 s.Q,.slice osb s.B.length csb,.int .i64 s.a,.int .i64 s.b,.slice osl s.L.length csl] 26));have Ts_0:=zh (Bxs.new (w:=w) [.int .i64 s.P,.slice osa s.A.length csa,.int .i64 s.Q,.slice osb s.B.length csb,.int .i64 s.a,.int .i64 s.b,.slice osl s.L.length csl] 26);have Ss_0:=zh (hs.keep AF_0.out);have AW:=zh (fun W=>lawake W);have LG0:=zh (fun W bk (h:Bxs W bk [.int .i64 s.P,.slice osa s.A.length csa,.int .i64 s.Q,.slice osb s.B.length csb,.int .i64 s.a,.int .i64 s.b,.slice osl s.L.length csl])=>llarge1s s _ _ _ _ _ _ W bk h);have LG:Hid (∀ W bk,Bxs W bk [.int .i64 s.P,.slice osa s.A.length csa,.int .i64 s.Q,.slice osb s.B.length csb,.int .i64 s.a,.int .i64 s.b,.slice osl s.L.length csl]→Calls Tryz.prog 15 #[.slice (some ⟨bk,0,none⟩) 1 1] W fun e w'=>e=.returned (.bool (lgB s))∧Below W.heap.size W w'):=LG0;clear LG0;obtain ⟨lg,hlg⟩:∃ lg,(lgB s)=lg:=⟨_,rfl⟩;rw [hlg] at LG;clear hs
  cases lg
  rotate_left
  · clear tis ha hb hc hx hlg
    go_enter Tryz.func11,Tryz.ntmps11
    obtain ⟨aa,ab,ac,ad,ae,af,ag,ah⟩:=Ts_0.out.z7;go_wp2_with fail
    clear aa ab ac ad ae af ag ah;generalize (w.alloc (.cells #[.int .i64 s.P,.slice osa s.A.length csa,.int .i64 s.Q,.slice osb s.B.length csb,.int .i64 s.a,.int .i64 s.b,.slice osl s.L.length csl] 26))=w0 at *;refine (AW.out _).mono ?_;rintro e w1 ⟨rfl,hb⟩;have AF_1:=zd AF_0 hb;have Ts_1:=zh (Ts_0.out.keep hb);have Ss_1:=zh (Ss_0.out.keep hb);clear hb AF_0 Ts_0 Ss_0;obtain ⟨ai,aj,ak,al,am,an,ao,ap⟩:=Ts_1.out.z7;have gb:=grow (here w1) (.cells #[.int .i64 s.P,.slice osa s.A.length csa,.int .i64 s.Q,.slice osb s.B.length csb,.int .i64 s.a,.int .i64 s.b,.slice osl s.L.length csl] 26);have AF_2:=zd AF_1 gb;have Ts_2:=zh (Ts_1.out.keep gb);have Ss_2:=zh (Ss_1.out.keep gb);have G_2:=zh (Bxs.new (w:=w1) [.int .i64 s.P,.slice osa s.A.length csa,.int .i64 s.Q,.slice osb s.B.length csb,.int .i64 s.a,.int .i64 s.b,.slice osl s.L.length csl] 26);clear gb AF_1 Ts_1 Ss_1;obtain ⟨aa,ab,ac,ad,ae,af,ag,ah⟩:=Ts_2.out.z7;obtain ⟨aq,ar,au,av,aw,ax,ay,az⟩:=G_2.out.z7;go_wp2_with fail
    clear aa ab ac ad ae af ag aq ar au av aw ax ay ah az;generalize (w1.alloc (.cells #[.int .i64 s.P,.slice osa s.A.length csa,.int .i64 s.Q,.slice osb s.B.length csb,.int .i64 s.a,.int .i64 s.b,.slice osl s.L.length csl] 26))=w2 at *;refine (LG.out _ _ G_2.out).mono ?_;rintro e w3 ⟨rfl,hb⟩;have AF_3:=zd AF_2 hb;have Ts_3:=zh (Ts_2.out.keep hb);have G_3:=zh (G_2.out.keep hb);have Ss_3:=zh (Ss_2.out.keep hb);clear hb AF_2 Ts_2 G_2 Ss_2;clear ai aj ak al am an ao ap;obtain ⟨aa,ab,ac,ad,ae,af,ag,ah⟩:=Ts_3.out.z7;go_wp2
    go_ret
    exact ⟨rfl,AF_3.out⟩
  by_cases g1:b≤a
  · have k1:decide (b≤a)=true:=zdt g1;clear tis ha hb hc hx hlg g1
    go_enter Tryz.func11,Tryz.ntmps11
    obtain ⟨aa,ab,ac,ad,ae,af,ag,ah⟩:=Ts_0.out.z7;go_wp2_with fail
    clear aa ab ac ad ae af ag ah;generalize (w.alloc (.cells #[.int .i64 s.P,.slice osa s.A.length csa,.int .i64 s.Q,.slice osb s.B.length csb,.int .i64 s.a,.int .i64 s.b,.slice osl s.L.length csl] 26))=w0 at *;refine (AW.out _).mono ?_;rintro e w1 ⟨rfl,hb⟩;have AF_1:=zd AF_0 hb;have Ts_1:=zh (Ts_0.out.keep hb);have Ss_1:=zh (Ss_0.out.keep hb);clear hb AF_0 Ts_0 Ss_0;obtain ⟨ai,aj,ak,al,am,an,ao,ap⟩:=Ts_1.out.z7;have gb:=grow (here w1) (.cells #[.int .i64 s.P,.slice osa s.A.length csa,.int .i64 s.Q,.slice osb s.B.length csb,.int .i64 s.a,.int .i64 s.b,.slice osl s.L.length csl] 26);have AF_2:=zd AF_1 gb;have Ts_2:=zh (Ts_1.out.keep gb);have Ss_2:=zh (Ss_1.out.keep gb);have G_2:=zh (Bxs.new (w:=w1) [.int .i64 s.P,.slice osa s.A.length csa,.int .i64 s.Q,.slice osb s.B.length csb,.int .i64 s.a,.int .i64 s.b,.slice osl s.L.length csl] 26);clear gb AF_1 Ts_1 Ss_1;obtain ⟨aa,ab,ac,ad,ae,af,ag,ah⟩:=Ts_2.out.z7;obtain ⟨aq,ar,au,av,aw,ax,ay,az⟩:=G_2.out.z7;go_wp2_with fail
    clear aa ab ac ad ae af ag aq ar au av aw ax ay ah az;generalize (w1.alloc (.cells #[.int .i64 s.P,.slice osa s.A.length csa,.int .i64 s.Q,.slice osb s.B.length csb,.int .i64 s.a,.int .i64 s.b,.slice osl s.L.length csl] 26))=w2 at *;refine (LG.out _ _ G_2.out).mono ?_;rintro e w3 ⟨rfl,hb⟩;have AF_3:=zd AF_2 hb;have Ts_3:=zh (Ts_2.out.keep hb);have G_3:=zh (G_2.out.keep hb);have Ss_3:=zh (Ss_2.out.keep hb);clear hb AF_2 Ts_2 G_2 Ss_2;clear ai aj ak al am an ao ap;obtain ⟨aa,ab,ac,ad,ae,af,ag,ah⟩:=Ts_3.out.z7;go_wp2
    go_ret
    exact ⟨rfl,AF_3.out⟩
  have k1:decide (b≤a)=false:=zdf g1
  by_cases g2:c≤b
  · have k2:decide (c≤b)=true:=zdt g2;clear tis ha hb hc hx hlg g1 g2
    go_enter Tryz.func11,Tryz.ntmps11
    obtain ⟨aa,ab,ac,ad,ae,af,ag,ah⟩:=Ts_0.out.z7;go_wp2_with fail
    clear aa ab ac ad ae af ag ah;generalize (w.alloc (.cells #[.int .i64 s.P,.slice osa s.A.length csa,.int .i64 s.Q,.slice osb s.B.length csb,.int .i64 s.a,.int .i64 s.b,.slice osl s.L.length csl] 26))=w0 at *;refine (AW.out _).mono ?_;rintro e w1 ⟨rfl,hb⟩;have AF_1:=zd AF_0 hb;have Ts_1:=zh (Ts_0.out.keep hb);have Ss_1:=zh (Ss_0.out.keep hb);clear hb AF_0 Ts_0 Ss_0;obtain ⟨ai,aj,ak,al,am,an,ao,ap⟩:=Ts_1.out.z7;have gb:=grow (here w1) (.cells #[.int .i64 s.P,.slice osa s.A.length csa,.int .i64 s.Q,.slice osb s.B.length csb,.int .i64 s.a,.int .i64 s.b,.slice osl s.L.length csl] 26);have AF_2:=zd AF_1 gb;have Ts_2:=zh (Ts_1.out.keep gb);have Ss_2:=zh (Ss_1.out.keep gb);have G_2:=zh (Bxs.new (w:=w1) [.int .i64 s.P,.slice osa s.A.length csa,.int .i64 s.Q,.slice osb s.B.length csb,.int .i64 s.a,.int .i64 s.b,.slice osl s.L.length csl] 26);clear gb AF_1 Ts_1 Ss_1;obtain ⟨aa,ab,ac,ad,ae,af,ag,ah⟩:=Ts_2.out.z7;obtain ⟨aq,ar,au,av,aw,ax,ay,az⟩:=G_2.out.z7;go_wp2_with fail
    clear aa ab ac ad ae af ag aq ar au av aw ax ay ah az;generalize (w1.alloc (.cells #[.int .i64 s.P,.slice osa s.A.length csa,.int .i64 s.Q,.slice osb s.B.length csb,.int .i64 s.a,.int .i64 s.b,.slice osl s.L.length csl] 26))=w2 at *;refine (LG.out _ _ G_2.out).mono ?_;rintro e w3 ⟨rfl,hb⟩;have AF_3:=zd AF_2 hb;have Ts_3:=zh (Ts_2.out.keep hb);have G_3:=zh (G_2.out.keep hb);have Ss_3:=zh (Ss_2.out.keep hb);clear hb AF_2 Ts_2 G_2 Ss_2;clear ai aj ak al am an ao ap;obtain ⟨aa,ab,ac,ad,ae,af,ag,ah⟩:=Ts_3.out.z7;go_wp2
    go_ret
    exact ⟨rfl,AF_3.out⟩
  have k2:decide (c≤b)=false:=zdf g2;have UX:∀ p q:Int,Hid (∀ W,SS3 W s (.slice osa s.A.length csa) (.slice osb s.B.length csb) (.slice osl s.L.length csl)→Calls Tryz.prog 33 #[.agg #[.int .i64 s.P,.slice osa s.A.length csa,.int .i64 s.Q,.slice osb s.B.length csb,.int .i64 s.a,.int .i64 s.b,.slice osl s.L.length csl],.agg #[.int .i64 p,.int .i64 q]] W fun e w'=>(∃ o1 c1,e=.returned (.tuple #[.slice o1 (wdR s p q).1.length c1,.int .i64 (wdR s p q).2])∧PairS 0 w' (.slice o1 (wdR s p q).1.length c1) (wdR s p q).1)∧Below W.heap.size W w'):=fun p q W h=>(tvwindow s _ _ _ tis p q W h).mono (by
    rintro e w' ⟨⟨v1,rfl,p⟩,hb⟩;obtain ⟨o1,c1,rfl⟩:=prs_shape p;exact ⟨⟨o1,c1,rfl,Sl.weak p (Nat.zero_le _)⟩,hb⟩)
  have U1:=UX a c;have U2:=UX a b;have U3:=UX b c;clear UX;have wd0:∀ p q,(wdR s p q).2=0→vsB s=true∧-4398046511104≤p∧q≤4398046511104∧(caL (hsT s) p q).length≤2000∧(wdR s p q).1=caL (hsT s) p q:=fun p q h=>by
    unfold wdR at h ⊢
    split at h
    · rename_i v
      rw [if_pos v]
      split at h
      · cases h
      · rename_i l
        rw [if_neg l];rw [Bool.and_eq_true] at v;have z:=spB_iff.1 v.2;exact ⟨v.1,by omega,by omega,by omega,rfl⟩
    · cases h
  have HH0:=zh (fun W (h:SS3 W s (.slice osa s.A.length csa) (.slice osb s.B.length csb) (.slice osl s.L.length csl))=>tvhas s _ _ _ tis x hx W h);have fin:(wdR s a c).2=0→(wdR s a b).2=0→(wdR s b c).2=0→(vsB s=true∧(wdR s a c).1.length≤2000∧(wdR s a b).1.length≤2000∧(wdR s b c).1.length≤2000∧ruOf ((wdR s a b).1++(wdR s b c).1)=((wdR s a c).1,0)∧vaB (wdR s a c).1=true∧inB (wdR s a c).1 x=(decide (a≤x)&&decide (x<c)&&hsT s x)):=fun h1 h2 h3=>by
    obtain ⟨v,l0,l1,l2,e1⟩:=wd0 a c h1;obtain ⟨-,-,-,l3,e2⟩:=wd0 a b h2;obtain ⟨-,-,-,l4,e3⟩:=wd0 b c h3;rw [e1,e2,e3];refine ⟨v,l2,l3,l4,lw_join (by omega) (by omega) l0 l1 l2,?_,ca_in _ _ _ _⟩;exact vaB_iff.2 ⟨l2,fun q hq=>by have:=ca_ends _ _ _ q hq;omega,ca_cn _ _ _⟩
  replace fin:=zh fin;clear wd0 tis ha hb hc hx hlg;generalize wdR s a c=X at *;generalize wdR s a b=Y at *;generalize wdR s b c=Z at *
  go_enter Tryz.func11,Tryz.ntmps11
  obtain ⟨aa,ab,ac,ad,ae,af,ag,ah⟩:=Ts_0.out.z7;go_wp2_with fail
  clear aa ab ac ad ae af ag ah;generalize (w.alloc (.cells #[.int .i64 s.P,.slice osa s.A.length csa,.int .i64 s.Q,.slice osb s.B.length csb,.int .i64 s.a,.int .i64 s.b,.slice osl s.L.length csl] 26))=w0 at *;refine (AW.out _).mono ?_;rintro e w1 ⟨rfl,hb⟩;have AF_1:=zd AF_0 hb;have Ts_1:=zh (Ts_0.out.keep hb);have Ss_1:=zh (Ss_0.out.keep hb);clear hb AF_0 Ts_0 Ss_0;obtain ⟨ai,aj,ak,al,am,an,ao,ap⟩:=Ts_1.out.z7;have gb:=grow (here w1) (.cells #[.int .i64 s.P,.slice osa s.A.length csa,.int .i64 s.Q,.slice osb s.B.length csb,.int .i64 s.a,.int .i64 s.b,.slice osl s.L.length csl] 26);have AF_2:=zd AF_1 gb;have Ts_2:=zh (Ts_1.out.keep gb);have Ss_2:=zh (Ss_1.out.keep gb);have G_2:=zh (Bxs.new (w:=w1) [.int .i64 s.P,.slice osa s.A.length csa,.int .i64 s.Q,.slice osb s.B.length csb,.int .i64 s.a,.int .i64 s.b,.slice osl s.L.length csl] 26);clear gb AF_1 Ts_1 Ss_1;obtain ⟨aa,ab,ac,ad,ae,af,ag,ah⟩:=Ts_2.out.z7;obtain ⟨aq,ar,au,av,aw,ax,ay,az⟩:=G_2.out.z7;go_wp2_with fail
  clear aa ab ac ad ae af ag aq ar au av aw ax ay ah az;generalize (w1.alloc (.cells #[.int .i64 s.P,.slice osa s.A.length csa,.int .i64 s.Q,.slice osb s.B.length csb,.int .i64 s.a,.int .i64 s.b,.slice osl s.L.length csl] 26))=w2 at *;refine (LG.out _ _ G_2.out).mono ?_;rintro e w3 ⟨rfl,hb⟩;have AF_3:=zd AF_2 hb;have Ts_3:=zh (Ts_2.out.keep hb);have G_3:=zh (G_2.out.keep hb);have Ss_3:=zh (Ss_2.out.keep hb);clear hb AF_2 Ts_2 G_2 Ss_2;clear ai aj ak al am an ao ap;go_wp2_with fail
  have HW:Hid (∀ W,Below w3.heap.size w3 W→Calls Tryz.prog 33 #[.agg #[.int .i64 s.P,.slice osa s.A.length csa,.int .i64 s.Q,.slice osb s.B.length csb,.int .i64 s.a,.int .i64 s.b,.slice osl s.L.length csl],.agg #[.int .i64 a,.int .i64 c]] W fun e w'=>(∃ o1 c1,e=.returned (.tuple #[.slice o1 X.1.length c1,.int .i64 X.2])∧PairS 0 w' (.slice o1 X.1.length c1) X.1)∧Below W.heap.size W w'):=fun W hW=>U1.out W (Ss_3.out.keep hW);go_wp2
  refine lra_region _ a b c _ X.1 X.2 w.heap.size w3 w3 (fun _ _ _ _ _ h=>h) HW ⟨here _,Ts_3.out.c 0 _ rfl,Ts_3.out.c 1 _ rfl,Ts_3.out.c 2 _ rfl,Ts_3.out.c 3 _ rfl,Ts_3.out.c 4 _ rfl,Ts_3.out.c 5 _ rfl,Ts_3.out.c 6 _ rfl,Ts_3.out.lt⟩ ?_;intro o1 c1 w4 hS p;have hb:=hS.1;clear hS HW;have AF_4:=zd AF_3 hb;have Ts_4:=zh (Ts_3.out.keep hb);have Ss_4:=zh (Ss_3.out.keep hb);clear hb AF_3 Ts_3 Ss_3;have P1_4:=zh p;clear p;have HW:Hid (∀ W,Below w4.heap.size w4 W→Calls Tryz.prog 33 #[.agg #[.int .i64 s.P,.slice osa s.A.length csa,.int .i64 s.Q,.slice osb s.B.length csb,.int .i64 s.a,.int .i64 s.b,.slice osl s.L.length csl],.agg #[.int .i64 a,.int .i64 b]] W fun e w'=>(∃ o1 c1,e=.returned (.tuple #[.slice o1 Y.1.length c1,.int .i64 Y.2])∧PairS 0 w' (.slice o1 Y.1.length c1) Y.1)∧Below W.heap.size W w'):=fun W hW=>U2.out W (Ss_4.out.keep hW);go_wp2
  refine lrb_region _ a b c _ Y.1 Y.2 w.heap.size w4 w4 (fun _ _ _ _ _ h=>h) HW ⟨here _,Ts_4.out.c 0 _ rfl,Ts_4.out.c 1 _ rfl,Ts_4.out.c 2 _ rfl,Ts_4.out.c 3 _ rfl,Ts_4.out.c 4 _ rfl,Ts_4.out.c 5 _ rfl,Ts_4.out.c 6 _ rfl,Ts_4.out.lt⟩ ?_;intro o2 c2 w5 hS p;have hb:=hS.1;clear hS HW;have AF_5:=zd AF_4 hb;have Ts_5:=zh (Ts_4.out.keep hb);have Ss_5:=zh (Ss_4.out.keep hb);have P1_5:=zh (P1_4.out.keep hb);clear hb AF_4 Ts_4 Ss_4 P1_4;have P2_5:=zh p;clear p;have HW:Hid (∀ W,Below w5.heap.size w5 W→Calls Tryz.prog 33 #[.agg #[.int .i64 s.P,.slice osa s.A.length csa,.int .i64 s.Q,.slice osb s.B.length csb,.int .i64 s.a,.int .i64 s.b,.slice osl s.L.length csl],.agg #[.int .i64 b,.int .i64 c]] W fun e w'=>(∃ o1 c1,e=.returned (.tuple #[.slice o1 Z.1.length c1,.int .i64 Z.2])∧PairS 0 w' (.slice o1 Z.1.length c1) Z.1)∧Below W.heap.size W w'):=fun W hW=>U3.out W (Ss_5.out.keep hW);go_wp2
  refine lrc_region _ a b c _ Z.1 Z.2 w.heap.size w5 w5 (fun _ _ _ _ _ h=>h) HW ⟨here _,Ts_5.out.c 0 _ rfl,Ts_5.out.c 1 _ rfl,Ts_5.out.c 2 _ rfl,Ts_5.out.c 3 _ rfl,Ts_5.out.c 4 _ rfl,Ts_5.out.c 5 _ rfl,Ts_5.out.c 6 _ rfl,Ts_5.out.lt⟩ ?_;intro o3 c3 w6 hS p;have hb:=hS.1;clear hS HW;have AF_6:=zd AF_5 hb;have Ts_6:=zh (Ts_5.out.keep hb);have Ss_6:=zh (Ss_5.out.keep hb);have P1_6:=zh (P1_5.out.keep hb);have P2_6:=zh (P2_5.out.keep hb);clear hb AF_5 Ts_5 Ss_5 P1_5 P2_5;have P3_6:=zh p;clear p
  by_cases e0:X.2=0
  rotate_left
  · have k0e:(X.2==0)=false:=by rw [beq_eq_false_iff_ne];exact e0
    have h0e:(X.2 != 0)=true:=by rw [bne_iff_ne];exact e0
    clear e0 fin HH0 g1 g2;go_wp2
    go_ret
    exact ⟨rfl,AF_6.out⟩
  have k0e:(X.2==0)=true:=beq_iff_eq.2 e0;have h0e:(X.2 != 0)=false:=by rw [bne_eq_false_iff_eq];exact e0
  replace e0:=zh e0
  by_cases e1:Y.2=0
  rotate_left
  · have k1e:(Y.2==0)=false:=by rw [beq_eq_false_iff_ne];exact e1
    have h1e:(Y.2 != 0)=true:=by rw [bne_iff_ne];exact e1
    clear e1 fin HH0 g1 g2;go_wp2
    go_ret
    exact ⟨rfl,AF_6.out⟩
  have k1e:(Y.2==0)=true:=beq_iff_eq.2 e1;have h1e:(Y.2 != 0)=false:=by rw [bne_eq_false_iff_eq];exact e1
  replace e1:=zh e1
  by_cases e2:Z.2=0
  rotate_left
  · have k2e:(Z.2==0)=false:=by rw [beq_eq_false_iff_ne];exact e2
    have h2e:(Z.2 != 0)=true:=by rw [bne_iff_ne];exact e2
    clear e2 fin HH0 g1 g2;go_wp2
    go_ret
    exact ⟨rfl,AF_6.out⟩
  have k2e:(Z.2==0)=true:=beq_iff_eq.2 e2;have h2e:(Z.2 != 0)=false:=by rw [bne_eq_false_iff_eq];exact e2
  replace e2:=zh e2;obtain ⟨v,l1,l2,l3,rj,va,ie⟩:=fin.out e0.out e1.out e2.out;rw [v] at HH0;have CL:=zh (fun W v (h:PairS 0 W v Y.1)=>ruclone v Y.1 Y.1.length rfl (by omega) W h);have RN:Hid (∀ W v,PairS 0 W v (Y.1++Z.1)→Calls Tryz.prog 51 #[v] W fun e w'=>(∃ v',e=.returned (.tuple #[v',.int .i64 0])∧PairS W.heap.size w' v' X.1)∧Below W.heap.size W w'):=fun W v h=>by
    have q:=rnof v (Y.1++Z.1) (by rw [List.length_append];omega) W h;rw [rj] at q;exact q
  have EQ:=zh (fun W (b1 b2:Nat) v1 v2 (p:PairS b1 W v1 X.1) (q:PairS b2 W v2 X.1)=>sl_eq v1 v2 _ l1 W p q);have VA:=zh (fun W v (h:PairS 0 W v X.1)=>rnvalid v X.1 (by unfold maxLen;omega) W h);have IN:=zh (fun W v (h:PairS 0 W v X.1)=>rnin v X.1 (by unfold maxLen;omega) x W h);have YZ:Hid (Y.1.length+Z.1.length≤1000000):=by show _≤_;omega
  rw [va] at VA;rw [ie] at IN;clear fin e0 e1 e2 v rj va ie l1 l2 l3 g1 g2;go_wp2_with fail
  refine (CL.out _ _ P2_6.out).mono ?_;rintro e w7 ⟨vc,rfl,own,hb⟩;have O_7:=zh own;have HB:=zh hb;clear own hb;go_wp2_with (at_builtin;refine walk_app_sp rfl _ _ rfl vc Y.1 Z.1 rfl o3 c3 rfl w6 O_7.out HB.out (P3_6.out.keep HB.out) YZ.out ?_)
  intro v9 w8 PP hb;clear O_7 HB YZ;have AF_8:=zd AF_6 hb;have Ts_8:=zh (Ts_6.out.keep hb);have Ss_8:=zh (Ss_6.out.keep hb);have P1_8:=zh (P1_6.out.keep hb);have P2_8:=zh (P2_6.out.keep hb);have P3_8:=zh (P3_6.out.keep hb);clear hb AF_6 Ts_6 Ss_6 P1_6 P2_6 P3_6;have PJ_8:=zh PP;clear PP;go_wp2_with fail
  refine (RN.out _ _ (Sl.weak PJ_8.out (Nat.zero_le _))).mono ?_;rintro e w9 ⟨⟨v7,rfl,p⟩,hb⟩;obtain ⟨o7,c7,rfl⟩:=prs_shape p;have AF_9:=zd AF_8 hb;have Ts_9:=zh (Ts_8.out.keep hb);have Ss_9:=zh (Ss_8.out.keep hb);have P1_9:=zh (P1_8.out.keep hb);have P2_9:=zh (P2_8.out.keep hb);have P3_9:=zh (P3_8.out.keep hb);have PJ_9:=zh (PJ_8.out.keep hb);clear hb AF_8 Ts_8 Ss_8 P1_8 P2_8 P3_8 PJ_8;have P7_9:=zh p;clear p
  by_cases g3:a≤x
  rotate_left
  · have k3:decide (a≤x)=false:=zdf g3;rw [k3,Bool.false_and,Bool.false_and] at IN;clear g3 HH0;go_wp2_with fail
    refine (EQ.out _ _ _ _ _ P7_9.out P1_9.out).mono ?_;rintro e w10 ⟨rfl,hb⟩;have AF_10:=zd AF_9 hb;have Ts_10:=zh (Ts_9.out.keep hb);have Ss_10:=zh (Ss_9.out.keep hb);have P1_10:=zh (P1_9.out.keep hb);have P2_10:=zh (P2_9.out.keep hb);have P3_10:=zh (P3_9.out.keep hb);have PJ_10:=zh (PJ_9.out.keep hb);have P7_10:=zh (P7_9.out.keep hb);clear hb AF_9 Ts_9 Ss_9 P1_9 P2_9 P3_9 PJ_9 P7_9;go_wp2_with fail
    refine (VA.out _ _ P1_10.out).mono ?_;rintro e w11 ⟨rfl,hb⟩;have AF_11:=zd AF_10 hb;have Ts_11:=zh (Ts_10.out.keep hb);have Ss_11:=zh (Ss_10.out.keep hb);have P1_11:=zh (P1_10.out.keep hb);have P2_11:=zh (P2_10.out.keep hb);have P3_11:=zh (P3_10.out.keep hb);have PJ_11:=zh (PJ_10.out.keep hb);have P7_11:=zh (P7_10.out.keep hb);clear hb AF_10 Ts_10 Ss_10 P1_10 P2_10 P3_10 PJ_10 P7_10;go_wp2_with fail
    refine (IN.out _ _ P1_11.out).mono ?_;rintro e w' ⟨rfl,rfl⟩;go_wp2
    go_ret
    exact ⟨rfl,AF_11.out⟩
  have k3:decide (a≤x)=true:=zdt g3
  by_cases g4:x<c
  rotate_left
  · have k4:decide (x<c)=false:=zdf g4;rw [k3,k4,Bool.and_false,Bool.false_and] at IN;clear g3 g4 HH0;go_wp2_with fail
    refine (EQ.out _ _ _ _ _ P7_9.out P1_9.out).mono ?_;rintro e w10 ⟨rfl,hb⟩;have AF_10:=zd AF_9 hb;have Ts_10:=zh (Ts_9.out.keep hb);have Ss_10:=zh (Ss_9.out.keep hb);have P1_10:=zh (P1_9.out.keep hb);have P2_10:=zh (P2_9.out.keep hb);have P3_10:=zh (P3_9.out.keep hb);have PJ_10:=zh (PJ_9.out.keep hb);have P7_10:=zh (P7_9.out.keep hb);clear hb AF_9 Ts_9 Ss_9 P1_9 P2_9 P3_9 PJ_9 P7_9;go_wp2_with fail
    refine (VA.out _ _ P1_10.out).mono ?_;rintro e w11 ⟨rfl,hb⟩;have AF_11:=zd AF_10 hb;have Ts_11:=zh (Ts_10.out.keep hb);have Ss_11:=zh (Ss_10.out.keep hb);have P1_11:=zh (P1_10.out.keep hb);have P2_11:=zh (P2_10.out.keep hb);have P3_11:=zh (P3_10.out.keep hb);have PJ_11:=zh (PJ_10.out.keep hb);have P7_11:=zh (P7_10.out.keep hb);clear hb AF_10 Ts_10 Ss_10 P1_10 P2_10 P3_10 PJ_10 P7_10;go_wp2_with fail
    refine (IN.out _ _ P1_11.out).mono ?_;rintro e w' ⟨rfl,rfl⟩;go_wp2
    go_ret
    exact ⟨rfl,AF_11.out⟩
  have k4:decide (x<c)=true:=zdt g4;rw [k3,k4,Bool.and_true,Bool.true_and] at IN;clear g3 g4;generalize hsT s x=q0 at *;rw [Bool.true_and] at HH0;have be:(q0==q0)=true:=beq_self_eq_true q0;obtain ⟨aa,ab,ac,ad,ae,af,ag,ah⟩:=Ts_9.out.z7;go_wp2_with fail
  clear aa ab ac ad ae af ag ah;refine (HH0.out _ Ss_9.out).mono ?_;rintro e w10 ⟨rfl,hb⟩;have AF_10:=zd AF_9 hb;have Ts_10:=zh (Ts_9.out.keep hb);have Ss_10:=zh (Ss_9.out.keep hb);have P1_10:=zh (P1_9.out.keep hb);have P2_10:=zh (P2_9.out.keep hb);have P3_10:=zh (P3_9.out.keep hb);have PJ_10:=zh (PJ_9.out.keep hb);have P7_10:=zh (P7_9.out.keep hb);clear hb AF_9 Ts_9 Ss_9 P1_9 P2_9 P3_9 PJ_9 P7_9;go_wp2_with fail
  refine (EQ.out _ _ _ _ _ P7_10.out P1_10.out).mono ?_;rintro e w11 ⟨rfl,hb⟩;have AF_11:=zd AF_10 hb;have Ts_11:=zh (Ts_10.out.keep hb);have Ss_11:=zh (Ss_10.out.keep hb);have P1_11:=zh (P1_10.out.keep hb);have P2_11:=zh (P2_10.out.keep hb);have P3_11:=zh (P3_10.out.keep hb);have PJ_11:=zh (PJ_10.out.keep hb);have P7_11:=zh (P7_10.out.keep hb);clear hb AF_10 Ts_10 Ss_10 P1_10 P2_10 P3_10 PJ_10 P7_10;go_wp2_with fail
  refine (VA.out _ _ P1_11.out).mono ?_;rintro e w12 ⟨rfl,hb⟩;have AF_12:=zd AF_11 hb;have Ts_12:=zh (Ts_11.out.keep hb);have Ss_12:=zh (Ss_11.out.keep hb);have P1_12:=zh (P1_11.out.keep hb);have P2_12:=zh (P2_11.out.keep hb);have P3_12:=zh (P3_11.out.keep hb);have PJ_12:=zh (PJ_11.out.keep hb);have P7_12:=zh (P7_11.out.keep hb);clear hb AF_11 Ts_11 Ss_11 P1_11 P2_11 P3_11 PJ_11 P7_11;go_wp2_with fail
  refine (IN.out _ _ P1_12.out).mono ?_;rintro e w' ⟨rfl,rfl⟩;go_wp2
  go_ret
  exact ⟨rfl,AF_12.out⟩
end Go.Proofs.YtmamlgaogpkagaaGreat
