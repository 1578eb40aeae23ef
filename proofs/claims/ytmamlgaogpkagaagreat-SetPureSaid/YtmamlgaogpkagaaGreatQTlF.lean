/- TlF. -/
import Derived.Test.YtmamlgaogpkagaaGreatQLPlain
import Derived.Test.YtmamlgaogpkagaaGreatQLGen
import Derived.Test.YtmamlgaogpkagaaGreatQLSl
import Derived.Test.YtmamlgaogpkagaaGreatQRnKF
import Derived.Test.YtmamlgaogpkagaaGreatQPeKD
import Derived.Test.YtmamlgaogpkagaaGreatQPeGC
import Derived.Test.YtmamlgaogpkagaaGreatQPeKJ
import Derived.Test.YtmamlgaogpkagaaGreatQPeKJ1
import Derived.Test.YtmamlgaogpkagaaGreatQPeGI
import Derived.Test.YtmamlgaogpkagaaGreatQTsGa
import Derived.Test.YtmamlgaogpkagaaGreatQTvB
import Derived.Test.YtmamlgaogpkagaaGreatQTvI
import Derived.Test.YtmamlgaogpkagaaGreatQTvL
import Derived.Test.YtmamlgaogpkagaaGreatQTvLa
import Derived.Test.YtmamlgaogpkagaaGreatQTvNa
import Derived.Test.YtmamlgaogpkagaaGreatQTsCj
import Derived.StillTailTactics
import Derived.BigQuiet
import Derived.Deep.QuietTactic
namespace Go.Proofs.YtmamlgaogpkagaaGreat
open Go.RowKit
set_option linter.unusedVariables false
set_option linter.unusedSimpArgs false
set_option maxRecDepth 100000 in
set_option maxHeartbeats 6000000 in
theorem plpure (Pa:Int) (va:Value) (A:List Sp) (ia:I64 Pa) (la:A.length≤maxLen) (Pb:Int) (vb:Value) (B:List Sp) (ib:I64 Pb) (lb:B.length≤maxLen) (w:World) (ha:PairS 0 w va A) (hb:PairS 0 w vb B) :
    Calls Tryz.prog 13 #[.agg #[.int .i64 Pa,va],.agg #[.int .i64 Pb,vb]] w fun e w'=>e=.returned (.bool true)∧Below w.heap.size w w':=by
  obtain ⟨oa,ca,rfl⟩:=prs_shape ha;obtain ⟨ob,cb,rfl⟩:=prs_shape hb;have AF_0:=zh (grow (grow (here w) (.cells #[.int .i64 Pa,.slice oa A.length ca] 24)) (.cells #[.int .i64 Pb,.slice ob B.length cb] 24));have Ta_0:=zh ((Bxs.new (w:=w) [.int .i64 Pa,.slice oa A.length ca] 24).old (.cells #[.int .i64 Pb,.slice ob B.length cb] 24));have Tb_0:=zh (Bxs.snd (w:=w) (o:=(.cells #[.int .i64 Pa,.slice oa A.length ca] 24)) [.int .i64 Pb,.slice ob B.length cb] 24);have Sa_0:=zh (ha.keep AF_0.out);have Sb_0:=zh (hb.keep AF_0.out);have AW:=zh (fun W=>lawake W);clear ha hb;have G1:=zh (fun W=>lgreat Pa oa A.length ca W);have G2:=zh (fun W=>lgreat Pb ob B.length cb W);have V1:=zh (fun W (h:PairS 0 W (.slice oa A.length ca) A)=>rpvalid _ Pa A la ia W h);have V2:=zh (fun W (h:PairS 0 W (.slice ob B.length cb) B)=>rpvalid _ Pb B lb ib W h);have UN0:PV Pa A→PV Pb B→Hid (∀ W,SS3 W (puT Pa A) (.slice oa A.length ca) (.slice oa A.length ca) (.slice none 0 0)→SS3 W (puT Pb B) (.slice ob B.length cb) (.slice ob B.length cb) (.slice none 0 0)→Calls Tryz.prog 43 #[.agg #[.int .i64 Pa,.slice oa A.length ca,.int .i64 Pa,.slice oa A.length ca,.int .i64 0,.int .i64 0,.slice none 0 0],.agg #[.int .i64 Pb,.slice ob B.length cb,.int .i64 Pb,.slice ob B.length cb,.int .i64 0,.int .i64 0,.slice none 0 0]] W (TsO W (cbT 1 (puT Pa A) (puT Pb B)))):=fun p q W h k=>tvunion _ _ _ _ _ _ _ _ (pu_vs p).1.ti (pu_vs q).1.ti W h k;have RC:=zh (fun W (h:PairS 0 W (.slice oa A.length ca) A) (k:PairS 0 W (.slice ob B.length cb) B)=>rpcombine 0 (by decide) (by decide) _ _ Pa Pb A B la lb ia ib W h k);replace RC:Hid (∀ W,PairS 0 W (.slice oa A.length ca) A→PairS 0 W (.slice ob B.length cb) B→Calls Tryz.prog 57 #[.agg #[.int .i64 Pa,.slice oa A.length ca],.agg #[.int .i64 Pb,.slice ob B.length cb],.int .i64 0] W fun e w'=>(∃ v',e=.returned (.tuple #[.agg #[.int .i64 (coR 1 Pa A Pb B).1.1,v'],.int .i64 (coR 1 Pa A Pb B).2])∧PairS W.heap.size w' v' (coR 1 Pa A Pb B).1.2)∧Below W.heap.size W w'):=RC;have lp:=fun h=>lw_pure (P:=Pa) (Q:=Pb) (A:=A) (B:=B) h;have ut:=cb_ti (k:=1) (by decide) (by decide) (puT Pa A) (puT Pb B);have uz:=cb_zt 1 (puT Pa A) (puT Pb B);clear ia ib la lb
  cases g1:grB Pa A.length
  rotate_left
  · rw [g1] at G1;clear G2 V1 V2 UN0 RC lp ut uz g1
    go_enter Tryz.func13,Tryz.ntmps13
    obtain ⟨aa,ab,ac⟩:=Ta_0.out.z2;obtain ⟨ad,ae,af⟩:=Tb_0.out.z2;go_wp2_with fail
    clear aa ab ad ae ac af;generalize ((w.alloc (.cells #[.int .i64 Pa,.slice oa A.length ca] 24)).alloc (.cells #[.int .i64 Pb,.slice ob B.length cb] 24))=w0 at *;refine (AW.out _).mono ?_;rintro e w1 ⟨rfl,hb⟩;have AF_1:=zd AF_0 hb;have Ta_1:=zh (Ta_0.out.keep hb);have Tb_1:=zh (Tb_0.out.keep hb);have Sa_1:=zh (Sa_0.out.keep hb);have Sb_1:=zh (Sb_0.out.keep hb);clear hb AF_0 Ta_0 Tb_0 Sa_0 Sb_0;obtain ⟨aa,ab,ac⟩:=Ta_1.out.z2;obtain ⟨ad,ae,af⟩:=Tb_1.out.z2;go_wp2_with fail
    clear aa ab ad ae ac af;refine (G1.out _).mono ?_;rintro e w2 ⟨rfl,hb⟩;have AF_2:=zd AF_1 hb;have Ta_2:=zh (Ta_1.out.keep hb);have Tb_2:=zh (Tb_1.out.keep hb);have Sa_2:=zh (Sa_1.out.keep hb);have Sb_2:=zh (Sb_1.out.keep hb);clear hb AF_1 Ta_1 Tb_1 Sa_1 Sb_1;obtain ⟨aa,ab,ac⟩:=Ta_2.out.z2;obtain ⟨ad,ae,af⟩:=Tb_2.out.z2;go_wp2
    go_ret
    exact ⟨rfl,AF_2.out⟩
  rw [g1] at G1
  cases g2:grB Pb B.length
  rotate_left
  · rw [g2] at G2;clear V1 V2 UN0 RC lp ut uz g1 g2
    go_enter Tryz.func13,Tryz.ntmps13
    obtain ⟨aa,ab,ac⟩:=Ta_0.out.z2;obtain ⟨ad,ae,af⟩:=Tb_0.out.z2;go_wp2_with fail
    clear aa ab ad ae ac af;generalize ((w.alloc (.cells #[.int .i64 Pa,.slice oa A.length ca] 24)).alloc (.cells #[.int .i64 Pb,.slice ob B.length cb] 24))=w0 at *;refine (AW.out _).mono ?_;rintro e w1 ⟨rfl,hb⟩;have AF_1:=zd AF_0 hb;have Ta_1:=zh (Ta_0.out.keep hb);have Tb_1:=zh (Tb_0.out.keep hb);have Sa_1:=zh (Sa_0.out.keep hb);have Sb_1:=zh (Sb_0.out.keep hb);clear hb AF_0 Ta_0 Tb_0 Sa_0 Sb_0;obtain ⟨aa,ab,ac⟩:=Ta_1.out.z2;obtain ⟨ad,ae,af⟩:=Tb_1.out.z2;go_wp2_with fail
    clear aa ab ad ae ac af;refine (G1.out _).mono ?_;rintro e w2 ⟨rfl,hb⟩;have AF_2:=zd AF_1 hb;have Ta_2:=zh (Ta_1.out.keep hb);have Tb_2:=zh (Tb_1.out.keep hb);have Sa_2:=zh (Sa_1.out.keep hb);have Sb_2:=zh (Sb_1.out.keep hb);clear hb AF_1 Ta_1 Tb_1 Sa_1 Sb_1;obtain ⟨aa,ab,ac⟩:=Ta_2.out.z2;obtain ⟨ad,ae,af⟩:=Tb_2.out.z2;go_wp2_with fail
    clear aa ab ad ae ac af;refine (G2.out _).mono ?_;rintro e w3 ⟨rfl,hb⟩;have AF_3:=zd AF_2 hb;have Ta_3:=zh (Ta_2.out.keep hb);have Tb_3:=zh (Tb_2.out.keep hb);have Sa_3:=zh (Sa_2.out.keep hb);have Sb_3:=zh (Sb_2.out.keep hb);clear hb AF_2 Ta_2 Tb_2 Sa_2 Sb_2;obtain ⟨aa,ab,ac⟩:=Ta_3.out.z2;obtain ⟨ad,ae,af⟩:=Tb_3.out.z2;go_wp2
    go_ret
    exact ⟨rfl,AF_3.out⟩
  rw [g2] at G2;clear g1 g2
  cases v1:pvB Pa A
  · rw [v1] at V1;clear V2 UN0 RC lp ut uz v1
    go_enter Tryz.func13,Tryz.ntmps13
    obtain ⟨aa,ab,ac⟩:=Ta_0.out.z2;obtain ⟨ad,ae,af⟩:=Tb_0.out.z2;go_wp2_with fail
    clear aa ab ad ae ac af;generalize ((w.alloc (.cells #[.int .i64 Pa,.slice oa A.length ca] 24)).alloc (.cells #[.int .i64 Pb,.slice ob B.length cb] 24))=w0 at *;refine (AW.out _).mono ?_;rintro e w1 ⟨rfl,hb⟩;have AF_1:=zd AF_0 hb;have Ta_1:=zh (Ta_0.out.keep hb);have Tb_1:=zh (Tb_0.out.keep hb);have Sa_1:=zh (Sa_0.out.keep hb);have Sb_1:=zh (Sb_0.out.keep hb);clear hb AF_0 Ta_0 Tb_0 Sa_0 Sb_0;obtain ⟨aa,ab,ac⟩:=Ta_1.out.z2;obtain ⟨ad,ae,af⟩:=Tb_1.out.z2;go_wp2_with fail
    clear aa ab ad ae ac af;refine (G1.out _).mono ?_;rintro e w2 ⟨rfl,hb⟩;have AF_2:=zd AF_1 hb;have Ta_2:=zh (Ta_1.out.keep hb);have Tb_2:=zh (Tb_1.out.keep hb);have Sa_2:=zh (Sa_1.out.keep hb);have Sb_2:=zh (Sb_1.out.keep hb);clear hb AF_1 Ta_1 Tb_1 Sa_1 Sb_1;obtain ⟨aa,ab,ac⟩:=Ta_2.out.z2;obtain ⟨ad,ae,af⟩:=Tb_2.out.z2;go_wp2_with fail
    clear aa ab ad ae ac af;refine (G2.out _).mono ?_;rintro e w3 ⟨rfl,hb⟩;have AF_3:=zd AF_2 hb;have Ta_3:=zh (Ta_2.out.keep hb);have Tb_3:=zh (Tb_2.out.keep hb);have Sa_3:=zh (Sa_2.out.keep hb);have Sb_3:=zh (Sb_2.out.keep hb);clear hb AF_2 Ta_2 Tb_2 Sa_2 Sb_2;obtain ⟨aa,ab,ac⟩:=Ta_3.out.z2;obtain ⟨ad,ae,af⟩:=Tb_3.out.z2;go_wp2_with fail
    clear aa ab ad ae ac af;refine (V1.out _ Sa_3.out).mono ?_;rintro e w4 ⟨rfl,hb⟩;have AF_4:=zd AF_3 hb;have Ta_4:=zh (Ta_3.out.keep hb);have Tb_4:=zh (Tb_3.out.keep hb);have Sa_4:=zh (Sa_3.out.keep hb);have Sb_4:=zh (Sb_3.out.keep hb);clear hb AF_3 Ta_3 Tb_3 Sa_3 Sb_3;obtain ⟨aa,ab,ac⟩:=Ta_4.out.z2;obtain ⟨ad,ae,af⟩:=Tb_4.out.z2;go_wp2
    go_ret
    exact ⟨rfl,AF_4.out⟩
  rw [v1] at V1
  cases v2:pvB Pb B
  · rw [v2] at V2;clear UN0 RC lp ut uz v1 v2
    go_enter Tryz.func13,Tryz.ntmps13
    obtain ⟨aa,ab,ac⟩:=Ta_0.out.z2;obtain ⟨ad,ae,af⟩:=Tb_0.out.z2;go_wp2_with fail
    clear aa ab ad ae ac af;generalize ((w.alloc (.cells #[.int .i64 Pa,.slice oa A.length ca] 24)).alloc (.cells #[.int .i64 Pb,.slice ob B.length cb] 24))=w0 at *;refine (AW.out _).mono ?_;rintro e w1 ⟨rfl,hb⟩;have AF_1:=zd AF_0 hb;have Ta_1:=zh (Ta_0.out.keep hb);have Tb_1:=zh (Tb_0.out.keep hb);have Sa_1:=zh (Sa_0.out.keep hb);have Sb_1:=zh (Sb_0.out.keep hb);clear hb AF_0 Ta_0 Tb_0 Sa_0 Sb_0;obtain ⟨aa,ab,ac⟩:=Ta_1.out.z2;obtain ⟨ad,ae,af⟩:=Tb_1.out.z2;go_wp2_with fail
    clear aa ab ad ae ac af;refine (G1.out _).mono ?_;rintro e w2 ⟨rfl,hb⟩;have AF_2:=zd AF_1 hb;have Ta_2:=zh (Ta_1.out.keep hb);have Tb_2:=zh (Tb_1.out.keep hb);have Sa_2:=zh (Sa_1.out.keep hb);have Sb_2:=zh (Sb_1.out.keep hb);clear hb AF_1 Ta_1 Tb_1 Sa_1 Sb_1;obtain ⟨aa,ab,ac⟩:=Ta_2.out.z2;obtain ⟨ad,ae,af⟩:=Tb_2.out.z2;go_wp2_with fail
    clear aa ab ad ae ac af;refine (G2.out _).mono ?_;rintro e w3 ⟨rfl,hb⟩;have AF_3:=zd AF_2 hb;have Ta_3:=zh (Ta_2.out.keep hb);have Tb_3:=zh (Tb_2.out.keep hb);have Sa_3:=zh (Sa_2.out.keep hb);have Sb_3:=zh (Sb_2.out.keep hb);clear hb AF_2 Ta_2 Tb_2 Sa_2 Sb_2;obtain ⟨aa,ab,ac⟩:=Ta_3.out.z2;obtain ⟨ad,ae,af⟩:=Tb_3.out.z2;go_wp2_with fail
    clear aa ab ad ae ac af;refine (V1.out _ Sa_3.out).mono ?_;rintro e w4 ⟨rfl,hb⟩;have AF_4:=zd AF_3 hb;have Ta_4:=zh (Ta_3.out.keep hb);have Tb_4:=zh (Tb_3.out.keep hb);have Sa_4:=zh (Sa_3.out.keep hb);have Sb_4:=zh (Sb_3.out.keep hb);clear hb AF_3 Ta_3 Tb_3 Sa_3 Sb_3;obtain ⟨aa,ab,ac⟩:=Ta_4.out.z2;obtain ⟨ad,ae,af⟩:=Tb_4.out.z2;go_wp2_with fail
    clear aa ab ad ae ac af;refine (V2.out _ Sb_4.out).mono ?_;rintro e w5 ⟨rfl,hb⟩;have AF_5:=zd AF_4 hb;have Ta_5:=zh (Ta_4.out.keep hb);have Tb_5:=zh (Tb_4.out.keep hb);have Sa_5:=zh (Sa_4.out.keep hb);have Sb_5:=zh (Sb_4.out.keep hb);clear hb AF_4 Ta_4 Tb_4 Sa_4 Sb_4;obtain ⟨aa,ab,ac⟩:=Ta_5.out.z2;obtain ⟨ad,ae,af⟩:=Tb_5.out.z2;go_wp2
    go_ret
    exact ⟨rfl,AF_5.out⟩
  rw [v2] at V2;have UN:=UN0 (pv_iff.1 v1) (pv_iff.1 v2);have UE:=zh (fun W ua ub ul v (h:SS3 W (cbT 1 (puT Pa A) (puT Pb B)).1 ua ub ul) (p:PairS 0 W v (coR 1 Pa A Pb B).1.2)=>tvequal (cbT 1 (puT Pa A) (puT Pb B)).1 (puT (coR 1 Pa A Pb B).1.1 (coR 1 Pa A Pb B).1.2) ua ub ul v v (.slice none 0 0) ut W h ⟨p,p,Or.inl ⟨rfl,_,_,rfl⟩⟩);clear UN0 v1 v2 ut;generalize cbT 1 (puT Pa A) (puT Pb B)=R at *;generalize coR 1 Pa A Pb B=C at *
  by_cases e:R.2=0
  · obtain ⟨l1,l2⟩:=lp e;replace UE:Hid (∀ W ua ub ul v,SS3 W R.1 ua ub ul→PairS 0 W v C.1.2→Calls Tryz.prog 23 #[.agg #[.int .i64 R.1.P,ua,.int .i64 R.1.Q,ub,.int .i64 R.1.a,.int .i64 R.1.b,ul],.agg #[.int .i64 C.1.1,v,.int .i64 C.1.1,v,.int .i64 0,.int .i64 0,.slice none 0 0]] W fun e w'=>e=.returned (.bool true)∧Below W.heap.size W w'):=fun W ua ub ul v h p=>by have z:=UE.out W ua ub ul v h p;rw [l2] at z;exact z
    have ke:(R.2==0)=true:=beq_iff_eq.2 e;have kc:(C.2==0)=true:=beq_iff_eq.2 l1;clear lp uz l1 l2 e
    go_enter Tryz.func13,Tryz.ntmps13
    obtain ⟨aa,ab,ac⟩:=Ta_0.out.z2;obtain ⟨ad,ae,af⟩:=Tb_0.out.z2;go_wp2_with fail
    clear aa ab ad ae ac af;generalize ((w.alloc (.cells #[.int .i64 Pa,.slice oa A.length ca] 24)).alloc (.cells #[.int .i64 Pb,.slice ob B.length cb] 24))=w0 at *;refine (AW.out _).mono ?_;rintro e w1 ⟨rfl,hb⟩;have AF_1:=zd AF_0 hb;have Ta_1:=zh (Ta_0.out.keep hb);have Tb_1:=zh (Tb_0.out.keep hb);have Sa_1:=zh (Sa_0.out.keep hb);have Sb_1:=zh (Sb_0.out.keep hb);clear hb AF_0 Ta_0 Tb_0 Sa_0 Sb_0;obtain ⟨aa,ab,ac⟩:=Ta_1.out.z2;obtain ⟨ad,ae,af⟩:=Tb_1.out.z2;go_wp2_with fail
    clear aa ab ad ae ac af;refine (G1.out _).mono ?_;rintro e w2 ⟨rfl,hb⟩;have AF_2:=zd AF_1 hb;have Ta_2:=zh (Ta_1.out.keep hb);have Tb_2:=zh (Tb_1.out.keep hb);have Sa_2:=zh (Sa_1.out.keep hb);have Sb_2:=zh (Sb_1.out.keep hb);clear hb AF_1 Ta_1 Tb_1 Sa_1 Sb_1;obtain ⟨aa,ab,ac⟩:=Ta_2.out.z2;obtain ⟨ad,ae,af⟩:=Tb_2.out.z2;go_wp2_with fail
    clear aa ab ad ae ac af;refine (G2.out _).mono ?_;rintro e w3 ⟨rfl,hb⟩;have AF_3:=zd AF_2 hb;have Ta_3:=zh (Ta_2.out.keep hb);have Tb_3:=zh (Tb_2.out.keep hb);have Sa_3:=zh (Sa_2.out.keep hb);have Sb_3:=zh (Sb_2.out.keep hb);clear hb AF_2 Ta_2 Tb_2 Sa_2 Sb_2;obtain ⟨aa,ab,ac⟩:=Ta_3.out.z2;obtain ⟨ad,ae,af⟩:=Tb_3.out.z2;go_wp2_with fail
    clear aa ab ad ae ac af;refine (V1.out _ Sa_3.out).mono ?_;rintro e w4 ⟨rfl,hb⟩;have AF_4:=zd AF_3 hb;have Ta_4:=zh (Ta_3.out.keep hb);have Tb_4:=zh (Tb_3.out.keep hb);have Sa_4:=zh (Sa_3.out.keep hb);have Sb_4:=zh (Sb_3.out.keep hb);clear hb AF_3 Ta_3 Tb_3 Sa_3 Sb_3;obtain ⟨aa,ab,ac⟩:=Ta_4.out.z2;obtain ⟨ad,ae,af⟩:=Tb_4.out.z2;go_wp2_with fail
    clear aa ab ad ae ac af;refine (V2.out _ Sb_4.out).mono ?_;rintro e w5 ⟨rfl,hb⟩;have AF_5:=zd AF_4 hb;have Ta_5:=zh (Ta_4.out.keep hb);have Tb_5:=zh (Tb_4.out.keep hb);have Sa_5:=zh (Sa_4.out.keep hb);have Sb_5:=zh (Sb_4.out.keep hb);clear hb AF_4 Ta_4 Tb_4 Sa_4 Sb_4;obtain ⟨aa,ab,ac⟩:=Ta_5.out.z2;obtain ⟨ad,ae,af⟩:=Tb_5.out.z2;go_wp2_with fail
    clear aa ab ad ae ac af;refine (UN.out _ ⟨Sa_5.out,Sa_5.out,Or.inl ⟨rfl,_,_,rfl⟩⟩ ⟨Sb_5.out,Sb_5.out,Or.inl ⟨rfl,_,_,rfl⟩⟩).mono ?_;rintro e w6 ⟨⟨ua,ub,ul,rfl,ss⟩,hb⟩;obtain ⟨oua,cua,rfl⟩:=prs_shape ss.a;obtain ⟨oub,cub,rfl⟩:=prs_shape ss.b;obtain ⟨oul,cul,rfl⟩:=prs_shape ss.l;have AF_6:=zd AF_5 hb;have Ta_6:=zh (Ta_5.out.keep hb);have Tb_6:=zh (Tb_5.out.keep hb);have Sa_6:=zh (Sa_5.out.keep hb);have Sb_6:=zh (Sb_5.out.keep hb);clear hb AF_5 Ta_5 Tb_5 Sa_5 Sb_5;have SSu_6:=zh ss;clear ss;have gb:=grow (here w6) (.cells #[.int .i64 R.1.P,.slice oua R.1.A.length cua,.int .i64 R.1.Q,.slice oub R.1.B.length cub,.int .i64 R.1.a,.int .i64 R.1.b,.slice oul R.1.L.length cul] 26);have AF_7:=zd AF_6 gb;have Ta_7:=zh (Ta_6.out.keep gb);have Tb_7:=zh (Tb_6.out.keep gb);have Sa_7:=zh (Sa_6.out.keep gb);have Sb_7:=zh (Sb_6.out.keep gb);have SSu_7:=zh (SSu_6.out.keep gb);have Bu_7:=zh (Bxs.new (w:=w6) [.int .i64 R.1.P,.slice oua R.1.A.length cua,.int .i64 R.1.Q,.slice oub R.1.B.length cub,.int .i64 R.1.a,.int .i64 R.1.b,.slice oul R.1.L.length cul] 26);clear gb AF_6 Ta_6 Tb_6 Sa_6 Sb_6 SSu_6;obtain ⟨aa,ab,ac⟩:=Ta_7.out.z2;obtain ⟨ad,ae,af⟩:=Tb_7.out.z2;obtain ⟨ag,ah,ai,aj,ak,al,am,an⟩:=Bu_7.out.z7;go_wp2_with fail
    clear aa ab ad ae ag ah ai aj ak al am ac af an;generalize (w6.alloc (.cells #[.int .i64 R.1.P,.slice oua R.1.A.length cua,.int .i64 R.1.Q,.slice oub R.1.B.length cub,.int .i64 R.1.a,.int .i64 R.1.b,.slice oul R.1.L.length cul] 26))=w7 at *;refine (RC.out _ Sa_7.out Sb_7.out).mono ?_;rintro e w8 ⟨⟨v9,rfl,p⟩,hb⟩;obtain ⟨o9,c9,rfl⟩:=Sl.shape p;have AF_8:=zd AF_7 hb;have Ta_8:=zh (Ta_7.out.keep hb);have Tb_8:=zh (Tb_7.out.keep hb);have Bu_8:=zh (Bu_7.out.keep hb);have Sa_8:=zh (Sa_7.out.keep hb);have Sb_8:=zh (Sb_7.out.keep hb);have SSu_8:=zh (SSu_7.out.keep hb);clear hb AF_7 Ta_7 Tb_7 Bu_7 Sa_7 Sb_7 SSu_7;have P9_8:=zh (Sl.weak p (Nat.zero_le _));clear p;have gb:=grow (here w8) (.cells #[.int .i64 C.1.1,.slice o9 C.1.2.length c9] 24);have AF_9:=zd AF_8 gb;have Ta_9:=zh (Ta_8.out.keep gb);have Tb_9:=zh (Tb_8.out.keep gb);have Bu_9:=zh (Bu_8.out.keep gb);have Sa_9:=zh (Sa_8.out.keep gb);have Sb_9:=zh (Sb_8.out.keep gb);have SSu_9:=zh (SSu_8.out.keep gb);have P9_9:=zh (P9_8.out.keep gb);have C_9:=zh (Bxs.new (w:=w8) [.int .i64 C.1.1,.slice o9 C.1.2.length c9] 24);clear gb AF_8 Ta_8 Tb_8 Bu_8 Sa_8 Sb_8 SSu_8 P9_8;obtain ⟨aa,ab,ac⟩:=Ta_9.out.z2;obtain ⟨ad,ae,af⟩:=Tb_9.out.z2;obtain ⟨ag,ah,ai,aj,ak,al,am,an⟩:=Bu_9.out.z7;obtain ⟨ao,ap,aq⟩:=C_9.out.z2;go_wp2_with fail
    clear aa ab ad ae ag ah ai aj ak al am ao ap ac af an aq;generalize (w8.alloc (.cells #[.int .i64 C.1.1,.slice o9 C.1.2.length c9] 24))=w9 at *;refine (UE.out _ _ _ _ _ SSu_9.out P9_9.out).mono ?_;rintro e w10 ⟨rfl,hb⟩;have AF_10:=zd AF_9 hb;have Ta_10:=zh (Ta_9.out.keep hb);have Tb_10:=zh (Tb_9.out.keep hb);have Bu_10:=zh (Bu_9.out.keep hb);have C_10:=zh (C_9.out.keep hb);have Sa_10:=zh (Sa_9.out.keep hb);have Sb_10:=zh (Sb_9.out.keep hb);have SSu_10:=zh (SSu_9.out.keep hb);have P9_10:=zh (P9_9.out.keep hb);clear hb AF_9 Ta_9 Tb_9 Bu_9 C_9 Sa_9 Sb_9 SSu_9 P9_9;obtain ⟨aa,ab,ac⟩:=Ta_10.out.z2;obtain ⟨ad,ae,af⟩:=Tb_10.out.z2;obtain ⟨ag,ah,ai,aj,ak,al,am,an⟩:=Bu_10.out.z7;obtain ⟨ao,ap,aq⟩:=C_10.out.z2;go_wp2
    go_ret
    exact ⟨rfl,AF_10.out⟩
  · have zp:(R.1.P==0)=true:=by
      rcases uz with h | h
      · exact absurd h e
      · rw [h];rfl
    have ke:(R.2==0)=false:=by rw [beq_eq_false_iff_ne];exact e
    clear lp uz e RC UE
    go_enter Tryz.func13,Tryz.ntmps13
    obtain ⟨aa,ab,ac⟩:=Ta_0.out.z2;obtain ⟨ad,ae,af⟩:=Tb_0.out.z2;go_wp2_with fail
    clear aa ab ad ae ac af;generalize ((w.alloc (.cells #[.int .i64 Pa,.slice oa A.length ca] 24)).alloc (.cells #[.int .i64 Pb,.slice ob B.length cb] 24))=w0 at *;refine (AW.out _).mono ?_;rintro e w1 ⟨rfl,hb⟩;have AF_1:=zd AF_0 hb;have Ta_1:=zh (Ta_0.out.keep hb);have Tb_1:=zh (Tb_0.out.keep hb);have Sa_1:=zh (Sa_0.out.keep hb);have Sb_1:=zh (Sb_0.out.keep hb);clear hb AF_0 Ta_0 Tb_0 Sa_0 Sb_0;obtain ⟨aa,ab,ac⟩:=Ta_1.out.z2;obtain ⟨ad,ae,af⟩:=Tb_1.out.z2;go_wp2_with fail
    clear aa ab ad ae ac af;refine (G1.out _).mono ?_;rintro e w2 ⟨rfl,hb⟩;have AF_2:=zd AF_1 hb;have Ta_2:=zh (Ta_1.out.keep hb);have Tb_2:=zh (Tb_1.out.keep hb);have Sa_2:=zh (Sa_1.out.keep hb);have Sb_2:=zh (Sb_1.out.keep hb);clear hb AF_1 Ta_1 Tb_1 Sa_1 Sb_1;obtain ⟨aa,ab,ac⟩:=Ta_2.out.z2;obtain ⟨ad,ae,af⟩:=Tb_2.out.z2;go_wp2_with fail
    clear aa ab ad ae ac af;refine (G2.out _).mono ?_;rintro e w3 ⟨rfl,hb⟩;have AF_3:=zd AF_2 hb;have Ta_3:=zh (Ta_2.out.keep hb);have Tb_3:=zh (Tb_2.out.keep hb);have Sa_3:=zh (Sa_2.out.keep hb);have Sb_3:=zh (Sb_2.out.keep hb);clear hb AF_2 Ta_2 Tb_2 Sa_2 Sb_2;obtain ⟨aa,ab,ac⟩:=Ta_3.out.z2;obtain ⟨ad,ae,af⟩:=Tb_3.out.z2;go_wp2_with fail
    clear aa ab ad ae ac af;refine (V1.out _ Sa_3.out).mono ?_;rintro e w4 ⟨rfl,hb⟩;have AF_4:=zd AF_3 hb;have Ta_4:=zh (Ta_3.out.keep hb);have Tb_4:=zh (Tb_3.out.keep hb);have Sa_4:=zh (Sa_3.out.keep hb);have Sb_4:=zh (Sb_3.out.keep hb);clear hb AF_3 Ta_3 Tb_3 Sa_3 Sb_3;obtain ⟨aa,ab,ac⟩:=Ta_4.out.z2;obtain ⟨ad,ae,af⟩:=Tb_4.out.z2;go_wp2_with fail
    clear aa ab ad ae ac af;refine (V2.out _ Sb_4.out).mono ?_;rintro e w5 ⟨rfl,hb⟩;have AF_5:=zd AF_4 hb;have Ta_5:=zh (Ta_4.out.keep hb);have Tb_5:=zh (Tb_4.out.keep hb);have Sa_5:=zh (Sa_4.out.keep hb);have Sb_5:=zh (Sb_4.out.keep hb);clear hb AF_4 Ta_4 Tb_4 Sa_4 Sb_4;obtain ⟨aa,ab,ac⟩:=Ta_5.out.z2;obtain ⟨ad,ae,af⟩:=Tb_5.out.z2;go_wp2_with fail
    clear aa ab ad ae ac af;refine (UN.out _ ⟨Sa_5.out,Sa_5.out,Or.inl ⟨rfl,_,_,rfl⟩⟩ ⟨Sb_5.out,Sb_5.out,Or.inl ⟨rfl,_,_,rfl⟩⟩).mono ?_;rintro e w6 ⟨⟨ua,ub,ul,rfl,ss⟩,hb⟩;obtain ⟨oua,cua,rfl⟩:=prs_shape ss.a;obtain ⟨oub,cub,rfl⟩:=prs_shape ss.b;obtain ⟨oul,cul,rfl⟩:=prs_shape ss.l;have AF_6:=zd AF_5 hb;have Ta_6:=zh (Ta_5.out.keep hb);have Tb_6:=zh (Tb_5.out.keep hb);have Sa_6:=zh (Sa_5.out.keep hb);have Sb_6:=zh (Sb_5.out.keep hb);clear hb AF_5 Ta_5 Tb_5 Sa_5 Sb_5;have SSu_6:=zh ss;clear ss;have gb:=grow (here w6) (.cells #[.int .i64 R.1.P,.slice oua R.1.A.length cua,.int .i64 R.1.Q,.slice oub R.1.B.length cub,.int .i64 R.1.a,.int .i64 R.1.b,.slice oul R.1.L.length cul] 26);have AF_7:=zd AF_6 gb;have Ta_7:=zh (Ta_6.out.keep gb);have Tb_7:=zh (Tb_6.out.keep gb);have Sa_7:=zh (Sa_6.out.keep gb);have Sb_7:=zh (Sb_6.out.keep gb);have SSu_7:=zh (SSu_6.out.keep gb);have Bu_7:=zh (Bxs.new (w:=w6) [.int .i64 R.1.P,.slice oua R.1.A.length cua,.int .i64 R.1.Q,.slice oub R.1.B.length cub,.int .i64 R.1.a,.int .i64 R.1.b,.slice oul R.1.L.length cul] 26);clear gb AF_6 Ta_6 Tb_6 Sa_6 Sb_6 SSu_6;obtain ⟨aa,ab,ac⟩:=Ta_7.out.z2;obtain ⟨ad,ae,af⟩:=Tb_7.out.z2;obtain ⟨ag,ah,ai,aj,ak,al,am,an⟩:=Bu_7.out.z7;go_wp2
    go_ret
    exact ⟨rfl,AF_7.out⟩
end Go.Proofs.YtmamlgaogpkagaaGreat
