/- TrA. -/
import Derived.Test.YtmamlgaogpkagaaGreatQLPlain
import Derived.Test.YtmamlgaogpkagaaGreatQLGen
import Derived.Test.YtmamlgaogpkagaaGreatQLSl
import Derived.Test.YtmamlgaogpkagaaGreatQRnKF
import Derived.Test.YtmamlgaogpkagaaGreatQPeKJ
import Derived.Test.YtmamlgaogpkagaaGreatQPeHEa
import Derived.Test.YtmamlgaogpkagaaGreatQTsGa
import Derived.Test.YtmamlgaogpkagaaGreatQTsI
import Derived.Test.YtmamlgaogpkagaaGreatQTsIa
import Derived.StillTailTactics
import Derived.BigQuiet
import Derived.Deep.QuietTactic
import Derived.Laws.EntriesVeiled
namespace Go.Proofs.YtmamlgaogpkagaaGreat
open Go.RowKit
set_option linter.unusedVariables false
set_option linter.unusedSimpArgs false
set_option maxRecDepth 100000 in
set_option maxHeartbeats 4000000 in
theorem rtof (P Q:Int) (va vb vl:Value) (A B l:List Sp) (hA:A.length≤maxLen) (hB:B.length≤maxLen) (hl:l.length≤maxLen) (hP:I64 P) (hQ:I64 Q) (lo hi:Int) (h1:I64 lo) (h2:I64 hi) {ba bb bl:Nat} (w:World) (a:PairS ba w va A) (b:PairS bb w vb B) (pl:PairS bl w vl l) :
    Calls Tryz.prog 18 #[.agg #[.int .i64 P,va],.agg #[.int .i64 Q,vb],.int .i64 lo,.int .i64 hi,vl] w (TsO w (toR P A Q B lo hi l)):=by
  obtain ⟨oa,ca,rfl⟩:=prs_shape a;obtain ⟨ob,cb,rfl⟩:=prs_shape b;obtain ⟨ol,cl,rfl⟩:=prs_shape pl;have AF_0:=zh (grow (grow (grow (here w) (.cells #[.int .i64 P,.slice oa A.length ca] 24)) (.cells #[.int .i64 Q,.slice ob B.length cb] 24)) (.cells #[.int .i64 0,.slice none 0 0,.int .i64 0,.slice none 0 0,.int .i64 0,.int .i64 0,.slice none 0 0] 26));have T_0:=zh (((Bxs.new (w:=w) [.int .i64 P,.slice oa A.length ca] 24).old (.cells #[.int .i64 Q,.slice ob B.length cb] 24)).old (.cells #[.int .i64 0,.slice none 0 0,.int .i64 0,.slice none 0 0,.int .i64 0,.int .i64 0,.slice none 0 0] 26));have U_0:=zh ((Bxs.snd (w:=w) (o:=(.cells #[.int .i64 P,.slice oa A.length ca] 24)) [.int .i64 Q,.slice ob B.length cb] 24).old (.cells #[.int .i64 0,.slice none 0 0,.int .i64 0,.slice none 0 0,.int .i64 0,.int .i64 0,.slice none 0 0] 26));have R_0:=zh (Bxo.trd (w:=w) (o:=(.cells #[.int .i64 P,.slice oa A.length ca] 24)) (o':=(.cells #[.int .i64 Q,.slice ob B.length cb] 24)) [.int .i64 0,.slice none 0 0,.int .i64 0,.slice none 0 0,.int .i64 0,.int .i64 0,.slice none 0 0] 26);have Sa_0:=zh (a.keep AF_0.out);have Sb_0:=zh (b.keep AF_0.out);have Sl_0:=zh (pl.keep AF_0.out);clear a b pl;have GV:=zh (fun W (h:PairS ba W (.slice oa A.length ca) A) (k:PairS bb W (.slice ob B.length cb) B) (m:PairS bl W (.slice ol l.length cl) l)=>rtgiven _ _ _ P Q A B l hA hB hl hP hQ lo hi h1 h2 W h k m);have FO0:Hid (∀ W (h:PairS ba W (.slice oa A.length ca) A) (k:PairS bb W (.slice ob B.length cb) B) (m:PairS bl W (.slice ol l.length cl) l),Giv P A Q B lo hi l→Calls Tryz.prog 65 #[.agg #[.int .i64 P,.slice oa A.length ca],.agg #[.int .i64 Q,.slice ob B.length cb],.int .i64 lo,.int .i64 hi,.slice ol l.length cl] W (TsO W (frT P A Q B (gvF P A Q B lo hi l)))):=fun W h k m g=>rtform _ _ _ P Q A B l lo hi g W h k m;obtain ⟨R,hR⟩:∃ R,toR P A Q B lo hi l=R:=⟨_,rfl⟩;have TL:Hid (TsL R.1):=by show TsL R.1;rw [← hR];exact to_tl P A Q B lo hi l
  have gl:givB P A Q B lo hi l↔Giv P A Q B lo hi l:=giv_iff;have gb:gvB P A Q B lo hi l=true↔givB P A Q B lo hi l:=gvb_iff;rw [hR]
  unfold toR at hR
  clear hA hB hl hP hQ h1 h2
  by_cases c1:givB P A Q B lo hi l
  · rw [if_pos c1] at hR;rw [gb.2 c1] at GV;have FO:=zh (fun W h k m=>FO0.out W h k m (gl.1 c1));rw [hR] at FO;clear hR FO0 gl gb c1
    go_enter Tryz.func18,Tryz.ntmps18
    obtain ⟨aa,ab,ac⟩:=T_0.out.z2;obtain ⟨ad,ae,af⟩:=U_0.out.z2;go_wp2_with fail
    clear aa ab ad ae ac af;generalize (((w.alloc (.cells #[.int .i64 P,.slice oa A.length ca] 24)).alloc (.cells #[.int .i64 Q,.slice ob B.length cb] 24)).alloc (.cells #[.int .i64 0,.slice none 0 0,.int .i64 0,.slice none 0 0,.int .i64 0,.int .i64 0,.slice none 0 0] 26))=w0 at *;refine (GV.out _ Sa_0.out Sb_0.out Sl_0.out).mono ?_;rintro e w1 ⟨rfl,hb⟩;have AF_1:=zd AF_0 hb;have T_1:=zh (T_0.out.keep hb);have U_1:=zh (U_0.out.keep hb);have Sa_1:=zh (Sa_0.out.keep hb);have Sb_1:=zh (Sb_0.out.keep hb);have Sl_1:=zh (Sl_0.out.keep hb);have R_1:=zh (R_0.out.keep hb);clear hb AF_0 T_0 U_0 Sa_0 Sb_0 Sl_0 R_0;obtain ⟨aa,ab,ac⟩:=T_1.out.z2;obtain ⟨ad,ae,af⟩:=U_1.out.z2;go_wp2_with fail
    clear aa ab ad ae ac af;refine (FO.out _ Sa_1.out Sb_1.out Sl_1.out).mono ?_;rintro e w2 ⟨⟨ua,ub,ul,rfl,ss⟩,hb⟩;obtain ⟨ora,cra,rfl⟩:=prs_shape ss.a;obtain ⟨orb,crb,rfl⟩:=prs_shape ss.b;obtain ⟨orl,crl,rfl⟩:=prs_shape ss.l;have AF_2:=zd AF_1 hb;have T_2:=zh (T_1.out.keep hb);have U_2:=zh (U_1.out.keep hb);have Sa_2:=zh (Sa_1.out.keep hb);have Sb_2:=zh (Sb_1.out.keep hb);have Sl_2:=zh (Sl_1.out.keep hb);have R_2:=zh (R_1.out.keep hb);clear hb AF_1 T_1 U_1 Sa_1 Sb_1 Sl_1 R_1;have SSr_2:=zh ss;clear ss;obtain ⟨ag,ah,ai,aj,ak,al,am,an,ao,ap,aq,ar,au,av,rl⟩:=R_2.out.z7;go_wp2
    have FB:=R_2.out.put7 (.int .i64 R.1.P) (.slice ora R.1.A.length cra) (.int .i64 R.1.Q) (.slice orb R.1.B.length crb) (.int .i64 R.1.a) (.int .i64 R.1.b) (.slice orl R.1.L.length crl);have AF:=below_put7 AF_2.out (show w.heap.size≤w.heap.size+1+1 by omega) (.int .i64 R.1.P) (.slice ora R.1.A.length cra) (.int .i64 R.1.Q) (.slice orb R.1.B.length crb) (.int .i64 R.1.a) (.int .i64 R.1.b) (.slice orl R.1.L.length crl);obtain ⟨q0,q1,q2,q3,q4,q5,q6,-⟩:=FB.z7;refine bodyPost_ret (v:=.tuple #[.agg #[.int .i64 R.1.P,.slice ora R.1.A.length cra,.int .i64 R.1.Q,.slice orb R.1.B.length crb,.int .i64 R.1.a,.int .i64 R.1.b,.slice orl R.1.L.length crl],.int .i64 R.2]) (by simp [results,Tryz.results18,go_sem,q0,q1,q2,q3,q4,q5,q6]) rfl ?_;exact ⟨⟨_,_,_,rfl,SSr_2.out.stray TL.out R_2.out (.int .i64 R.1.P) (.slice ora R.1.A.length cra) (.int .i64 R.1.Q) (.slice orb R.1.B.length crb) (.int .i64 R.1.a) (.int .i64 R.1.b) (.slice orl R.1.L.length crl)⟩,AF⟩
  · rw [if_neg c1] at hR;have gf:gvB P A Q B lo hi l=false:=by
      cases q:gvB P A Q B lo hi l
      · rfl
      · exact absurd (gb.1 q) c1
    rw [gf] at GV;replace hR:=zh hR.symm;clear FO0 gl gb c1 gf TL
    go_enter Tryz.func18,Tryz.ntmps18
    obtain ⟨aa,ab,ac⟩:=T_0.out.z2;obtain ⟨ad,ae,af⟩:=U_0.out.z2;go_wp2_with fail
    clear aa ab ad ae ac af;generalize (((w.alloc (.cells #[.int .i64 P,.slice oa A.length ca] 24)).alloc (.cells #[.int .i64 Q,.slice ob B.length cb] 24)).alloc (.cells #[.int .i64 0,.slice none 0 0,.int .i64 0,.slice none 0 0,.int .i64 0,.int .i64 0,.slice none 0 0] 26))=w0 at *;refine (GV.out _ Sa_0.out Sb_0.out Sl_0.out).mono ?_;rintro e w1 ⟨rfl,hb⟩;have AF_1:=zd AF_0 hb;have T_1:=zh (T_0.out.keep hb);have U_1:=zh (U_0.out.keep hb);have Sa_1:=zh (Sa_0.out.keep hb);have Sb_1:=zh (Sb_0.out.keep hb);have Sl_1:=zh (Sl_0.out.keep hb);have R_1:=zh (R_0.out.keep hb);clear hb AF_0 T_0 U_0 Sa_0 Sb_0 Sl_0 R_0;obtain ⟨aa,ab,ac⟩:=T_1.out.z2;obtain ⟨ad,ae,af⟩:=U_1.out.z2;obtain ⟨ag,ah,ai,aj,ak,al,am,an,ao,ap,aq,ar,au,av,rl⟩:=R_1.out.z7;go_wp2
    have FB:=R_1.out.put7 (.int .i64 0) (.slice none 0 0) (.int .i64 0) (.slice none 0 0) (.int .i64 0) (.int .i64 0) (.slice none 0 0);have AF:=below_put7 AF_1.out (show w.heap.size≤w.heap.size+1+1 by omega) (.int .i64 0) (.slice none 0 0) (.int .i64 0) (.slice none 0 0) (.int .i64 0) (.int .i64 0) (.slice none 0 0);obtain ⟨q0,q1,q2,q3,q4,q5,q6,-⟩:=FB.z7;refine bodyPost_ret (v:=.tuple #[.agg #[.int .i64 0,.slice none 0 0,.int .i64 0,.slice none 0 0,.int .i64 0,.int .i64 0,.slice none 0 0],.int .i64 1]) (by simp [results,Tryz.results18,go_sem,q0,q1,q2,q3,q4,q5,q6]) rfl ?_;rw [hR.out];exact TsO.zero _ AF
theorem vs_of (s:TS):vsB s=(decide ((ofT s).2=0)&&smT s (ofT s).1):=by
 rw [Bool.eq_iff_iff,vs_iff,Bool.and_eq_true,decide_eq_true_iff,sm_iff]
 constructor
 ·intro h;rw [h];exact ⟨rfl,rfl⟩
 ·rintro ⟨h1,h2⟩;exact Prod.ext h2.symm h1
set_option maxRecDepth 100000 in
set_option maxHeartbeats 4000000 in
theorem rtvalid (s:TS) (va vb vl:Value) (ti:TsI s) (w:World) (h:SS3 w s va vb vl) :
    Calls Tryz.prog 16 #[.agg #[.int .i64 s.P,va,.int .i64 s.Q,vb,.int .i64 s.a,.int .i64 s.b,vl]] w fun e w'=>e=.returned (.bool (vsB s))∧Below w.heap.size w w':=by
  obtain ⟨osa,csa,rfl⟩:=prs_shape h.a;obtain ⟨osb,csb,rfl⟩:=prs_shape h.b;obtain ⟨osl,csl,rfl⟩:=prs_shape h.l;have AF_0:=zh (grow (here w) (.cells #[.int .i64 s.P,.slice osa s.A.length csa,.int .i64 s.Q,.slice osb s.B.length csb,.int .i64 s.a,.int .i64 s.b,.slice osl s.L.length csl] 26));have T_0:=zh (Bxs.new (w:=w) [.int .i64 s.P,.slice osa s.A.length csa,.int .i64 s.Q,.slice osb s.B.length csb,.int .i64 s.a,.int .i64 s.b,.slice osl s.L.length csl] 26);have S_0:=zh (h.keep AF_0.out);have OF:=zh (fun W (h:SS3 W s (.slice osa s.A.length csa) (.slice osb s.B.length csb) (.slice osl s.L.length csl))=>rtof s.P s.Q _ _ _ s.A s.B s.L ti.A ti.B ti.L ti.P ti.Q s.a s.b ti.a ti.b W h.a h.b h.l);rw [vs_of];have tj:TsI (ofT s).1:=to_ti _ _ _ _ _ _ _;replace OF:Hid (∀ W (h:SS3 W s (.slice osa s.A.length csa) (.slice osb s.B.length csb) (.slice osl s.L.length csl)),Calls Tryz.prog 18 #[.agg #[.int .i64 s.P,.slice osa s.A.length csa],.agg #[.int .i64 s.Q,.slice osb s.B.length csb],.int .i64 s.a,.int .i64 s.b,.slice osl s.L.length csl] W (TsO W (ofT s))):=OF;have SM:=zh (fun W {ra rb rl} (h:SS3 W s (.slice osa s.A.length csa) (.slice osb s.B.length csb) (.slice osl s.L.length csl)) (k:SS3 W (ofT s).1 ra rb rl)=>rtsame s (ofT s).1 _ _ _ _ _ _ ti tj W h k);generalize ofT s=R at *;clear h ti tj
  by_cases z:R.2=0
  · have kz:(R.2==0)=true:=beq_iff_eq.2 z;rw [zdt z,Bool.true_and];generalize smT s R.1=sm at *;clear z
    go_enter Tryz.func16,Tryz.ntmps16
    obtain ⟨aa,ab,ac,ad,ae,af,ag,ah⟩:=T_0.out.z7;go_wp2_with fail
    clear aa ab ac ad ae af ag ah;generalize (w.alloc (.cells #[.int .i64 s.P,.slice osa s.A.length csa,.int .i64 s.Q,.slice osb s.B.length csb,.int .i64 s.a,.int .i64 s.b,.slice osl s.L.length csl] 26))=w0 at *;refine (OF.out _ S_0.out).mono ?_;rintro e w1 ⟨⟨ua,ub,ul,rfl,ss⟩,hb⟩;obtain ⟨ora,cra,rfl⟩:=prs_shape ss.a;obtain ⟨orb,crb,rfl⟩:=prs_shape ss.b;obtain ⟨orl,crl,rfl⟩:=prs_shape ss.l;have AF_1:=zd AF_0 hb;have T_1:=zh (T_0.out.keep hb);have S_1:=zh (S_0.out.keep hb);clear hb AF_0 T_0 S_0;have SSr_1:=zh ss;clear ss;have gb:=grow (here w1) (.cells #[.int .i64 R.1.P,.slice ora R.1.A.length cra,.int .i64 R.1.Q,.slice orb R.1.B.length crb,.int .i64 R.1.a,.int .i64 R.1.b,.slice orl R.1.L.length crl] 26);have AF_2:=zd AF_1 gb;have T_2:=zh (T_1.out.keep gb);have S_2:=zh (S_1.out.keep gb);have SSr_2:=zh (SSr_1.out.keep gb);have V_2:=zh (Bxs.new (w:=w1) [.int .i64 R.1.P,.slice ora R.1.A.length cra,.int .i64 R.1.Q,.slice orb R.1.B.length crb,.int .i64 R.1.a,.int .i64 R.1.b,.slice orl R.1.L.length crl] 26);clear gb AF_1 T_1 S_1 SSr_1;obtain ⟨aa,ab,ac,ad,ae,af,ag,ah⟩:=T_2.out.z7;obtain ⟨ai,aj,ak,al,am,an,ao,ap⟩:=V_2.out.z7;go_wp2_with fail
    clear aa ab ac ad ae af ag ai aj ak al am an ao ah ap;generalize (w1.alloc (.cells #[.int .i64 R.1.P,.slice ora R.1.A.length cra,.int .i64 R.1.Q,.slice orb R.1.B.length crb,.int .i64 R.1.a,.int .i64 R.1.b,.slice orl R.1.L.length crl] 26))=w2 at *;refine (SM.out _ S_2.out SSr_2.out).mono ?_;rintro e w3 ⟨rfl,hb⟩;have AF_3:=zd AF_2 hb;have T_3:=zh (T_2.out.keep hb);have V_3:=zh (V_2.out.keep hb);have S_3:=zh (S_2.out.keep hb);have SSr_3:=zh (SSr_2.out.keep hb);clear hb AF_2 T_2 V_2 S_2 SSr_2;obtain ⟨aa,ab,ac,ad,ae,af,ag,ah⟩:=T_3.out.z7;obtain ⟨ai,aj,ak,al,am,an,ao,ap⟩:=V_3.out.z7;go_wp2
    go_ret
    exact ⟨rfl,AF_3.out⟩
  · have kz:(R.2==0)=false:=by rw [beq_eq_false_iff_ne];exact z
    rw [zdf z,Bool.false_and];clear z SM
    go_enter Tryz.func16,Tryz.ntmps16
    obtain ⟨aa,ab,ac,ad,ae,af,ag,ah⟩:=T_0.out.z7;go_wp2_with fail
    clear aa ab ac ad ae af ag ah;generalize (w.alloc (.cells #[.int .i64 s.P,.slice osa s.A.length csa,.int .i64 s.Q,.slice osb s.B.length csb,.int .i64 s.a,.int .i64 s.b,.slice osl s.L.length csl] 26))=w0 at *;refine (OF.out _ S_0.out).mono ?_;rintro e w1 ⟨⟨ua,ub,ul,rfl,ss⟩,hb⟩;obtain ⟨ora,cra,rfl⟩:=prs_shape ss.a;obtain ⟨orb,crb,rfl⟩:=prs_shape ss.b;obtain ⟨orl,crl,rfl⟩:=prs_shape ss.l;have AF_1:=zd AF_0 hb;have T_1:=zh (T_0.out.keep hb);have S_1:=zh (S_0.out.keep hb);clear hb AF_0 T_0 S_0;have SSr_1:=zh ss;clear ss;have gb:=grow (here w1) (.cells #[.int .i64 R.1.P,.slice ora R.1.A.length cra,.int .i64 R.1.Q,.slice orb R.1.B.length crb,.int .i64 R.1.a,.int .i64 R.1.b,.slice orl R.1.L.length crl] 26);have AF_2:=zd AF_1 gb;have T_2:=zh (T_1.out.keep gb);have S_2:=zh (S_1.out.keep gb);have SSr_2:=zh (SSr_1.out.keep gb);have V_2:=zh (Bxs.new (w:=w1) [.int .i64 R.1.P,.slice ora R.1.A.length cra,.int .i64 R.1.Q,.slice orb R.1.B.length crb,.int .i64 R.1.a,.int .i64 R.1.b,.slice orl R.1.L.length crl] 26);clear gb AF_1 T_1 S_1 SSr_1;obtain ⟨aa,ab,ac,ad,ae,af,ag,ah⟩:=T_2.out.z7;obtain ⟨ai,aj,ak,al,am,an,ao,ap⟩:=V_2.out.z7;go_wp2
    go_ret
    exact ⟨rfl,AF_2.out⟩
end Go.Proofs.YtmamlgaogpkagaaGreat
