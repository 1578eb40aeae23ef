/- TvPb. -/
import Derived.Test.YtmamlgaogpkagaaGreatQLPlain
import Derived.Test.YtmamlgaogpkagaaGreatQLGen
import Derived.Test.YtmamlgaogpkagaaGreatQLSl
import Derived.Test.YtmamlgaogpkagaaGreatQRnKF
import Derived.Test.YtmamlgaogpkagaaGreatQPeKJ
import Derived.Test.YtmamlgaogpkagaaGreatQPeKKc
import Derived.Test.YtmamlgaogpkagaaGreatQTsGa
import Derived.Test.YtmamlgaogpkagaaGreatQTsI
import Derived.Test.YtmamlgaogpkagaaGreatQTvB
import Derived.Test.YtmamlgaogpkagaaGreatQTvI
import Derived.Test.YtmamlgaogpkagaaGreatQTvL
import Derived.Test.YtmamlgaogpkagaaGreatQTvNb
import Derived.StillTailTactics
import Derived.BigQuiet
import Derived.Deep.QuietTactic
import Derived.Laws.EntriesVeiled
namespace Go.Proofs.YtmamlgaogpkagaaGreat
open Go.RowKit
set_option linter.unusedVariables false
set_option linter.unusedSimpArgs false
set_option maxRecDepth 100000 in
set_option maxHeartbeats 3000000 in
theorem tvmeet (s t:TS) (va vb vl ua ub ul:Value) (ti:TsI s) (tj:TsI t) (w:World) (h:SS3 w s va vb vl) (h2:SS3 w t ua ub ul) :
    Calls Tryz.prog 44 #[.agg #[.int .i64 s.P,va,.int .i64 s.Q,vb,.int .i64 s.a,.int .i64 s.b,vl],.agg #[.int .i64 t.P,ua,.int .i64 t.Q,ub,.int .i64 t.a,.int .i64 t.b,ul]] w (TsO w (cbT 2 s t)):=by
  obtain ⟨osa,csa,rfl⟩:=prs_shape h.a;obtain ⟨osb,csb,rfl⟩:=prs_shape h.b;obtain ⟨osl,csl,rfl⟩:=prs_shape h.l;obtain ⟨ota,cta,rfl⟩:=prs_shape h2.a;obtain ⟨otb,ctb,rfl⟩:=prs_shape h2.b;obtain ⟨otl,ctl,rfl⟩:=prs_shape h2.l;have AF_0:=zh (grow (grow (grow (here w) (.cells #[.int .i64 s.P,.slice osa s.A.length csa,.int .i64 s.Q,.slice osb s.B.length csb,.int .i64 s.a,.int .i64 s.b,.slice osl s.L.length csl] 26)) (.cells #[.int .i64 t.P,.slice ota t.A.length cta,.int .i64 t.Q,.slice otb t.B.length ctb,.int .i64 t.a,.int .i64 t.b,.slice otl t.L.length ctl] 26)) (.cells #[.int .i64 0,.slice none 0 0,.int .i64 0,.slice none 0 0,.int .i64 0,.int .i64 0,.slice none 0 0] 26));have T_0:=zh (((Bxs.new (w:=w) [.int .i64 s.P,.slice osa s.A.length csa,.int .i64 s.Q,.slice osb s.B.length csb,.int .i64 s.a,.int .i64 s.b,.slice osl s.L.length csl] 26).old (.cells #[.int .i64 t.P,.slice ota t.A.length cta,.int .i64 t.Q,.slice otb t.B.length ctb,.int .i64 t.a,.int .i64 t.b,.slice otl t.L.length ctl] 26)).old (.cells #[.int .i64 0,.slice none 0 0,.int .i64 0,.slice none 0 0,.int .i64 0,.int .i64 0,.slice none 0 0] 26));have U_0:=zh ((Bxs.snd (w:=w) (o:=(.cells #[.int .i64 s.P,.slice osa s.A.length csa,.int .i64 s.Q,.slice osb s.B.length csb,.int .i64 s.a,.int .i64 s.b,.slice osl s.L.length csl] 26)) [.int .i64 t.P,.slice ota t.A.length cta,.int .i64 t.Q,.slice otb t.B.length ctb,.int .i64 t.a,.int .i64 t.b,.slice otl t.L.length ctl] 26).old (.cells #[.int .i64 0,.slice none 0 0,.int .i64 0,.slice none 0 0,.int .i64 0,.int .i64 0,.slice none 0 0] 26));have R_0:=zh (Bxo.trd (w:=w) (o:=(.cells #[.int .i64 s.P,.slice osa s.A.length csa,.int .i64 s.Q,.slice osb s.B.length csb,.int .i64 s.a,.int .i64 s.b,.slice osl s.L.length csl] 26)) (o':=(.cells #[.int .i64 t.P,.slice ota t.A.length cta,.int .i64 t.Q,.slice otb t.B.length ctb,.int .i64 t.a,.int .i64 t.b,.slice otl t.L.length ctl] 26)) [.int .i64 0,.slice none 0 0,.int .i64 0,.slice none 0 0,.int .i64 0,.int .i64 0,.slice none 0 0] 26);have S_0:=zh (h.keep AF_0.out);have V_0:=zh (h2.keep AF_0.out);have CO:=zh (fun W (h:SS3 W s (.slice osa s.A.length csa) (.slice osb s.B.length csb) (.slice osl s.L.length csl)) (h2:SS3 W t (.slice ota t.A.length cta) (.slice otb t.B.length ctb) (.slice otl t.L.length ctl))=>tvcomb 2 (by decide) (by decide) 101 102 (fun _ _=>rfl) (fun _ _=>rfl)
    (fun P Q A B va vb W hA hB hP hQ a b=>upmeet va vb P Q A B hA hB hP hQ W a b) (fun W a b=>tvkp2 a b W) s t _ _ _ _ _ _ ti tj W h h2)
  have TL:Hid (TsL (cbT 2 s t).1):=cb_tl (by decide) (by decide) s t;generalize cbT 2 s t=RR at *;clear h h2 ti tj
  go_enter Tryz.func44,Tryz.ntmps44
  obtain ⟨aa,ab,ac,ad,ae,af,ag,ah⟩:=T_0.out.z7;obtain ⟨ai,aj,ak,al,am,an,ao,ap⟩:=U_0.out.z7;go_wp2_with fail
  clear aa ab ac ad ae af ag ai aj ak al am an ao ah ap;generalize (((w.alloc (.cells #[.int .i64 s.P,.slice osa s.A.length csa,.int .i64 s.Q,.slice osb s.B.length csb,.int .i64 s.a,.int .i64 s.b,.slice osl s.L.length csl] 26)).alloc (.cells #[.int .i64 t.P,.slice ota t.A.length cta,.int .i64 t.Q,.slice otb t.B.length ctb,.int .i64 t.a,.int .i64 t.b,.slice otl t.L.length ctl] 26)).alloc (.cells #[.int .i64 0,.slice none 0 0,.int .i64 0,.slice none 0 0,.int .i64 0,.int .i64 0,.slice none 0 0] 26))=w0 at *;refine (CO.out _ S_0.out V_0.out).mono ?_;rintro e w1 ⟨⟨ua,ub,ul,rfl,ss⟩,hb⟩;obtain ⟨ora,cra,rfl⟩:=prs_shape ss.a;obtain ⟨orb,crb,rfl⟩:=prs_shape ss.b;obtain ⟨orl,crl,rfl⟩:=prs_shape ss.l;have AF_1:=zd AF_0 hb;have T_1:=zh (T_0.out.keep hb);have U_1:=zh (U_0.out.keep hb);have S_1:=zh (S_0.out.keep hb);have V_1:=zh (V_0.out.keep hb);have R_1:=zh (R_0.out.keep hb);clear hb AF_0 T_0 U_0 S_0 V_0 R_0;have SSr_1:=zh ss;clear ss;obtain ⟨aq,ar,au,av,aw,ax,ay,az,aA,aB,aC,aD,aE,aF,rl⟩:=R_1.out.z7;go_wp2
  have FB:=R_1.out.put7 (.int .i64 RR.1.P) (.slice ora RR.1.A.length cra) (.int .i64 RR.1.Q) (.slice orb RR.1.B.length crb) (.int .i64 RR.1.a) (.int .i64 RR.1.b) (.slice orl RR.1.L.length crl);have AF:=below_put7 AF_1.out (show w.heap.size≤w.heap.size+1+1 by omega) (.int .i64 RR.1.P) (.slice ora RR.1.A.length cra) (.int .i64 RR.1.Q) (.slice orb RR.1.B.length crb) (.int .i64 RR.1.a) (.int .i64 RR.1.b) (.slice orl RR.1.L.length crl);obtain ⟨q0,q1,q2,q3,q4,q5,q6,-⟩:=FB.z7;refine bodyPost_ret (v:=.tuple #[.agg #[.int .i64 RR.1.P,.slice ora RR.1.A.length cra,.int .i64 RR.1.Q,.slice orb RR.1.B.length crb,.int .i64 RR.1.a,.int .i64 RR.1.b,.slice orl RR.1.L.length crl],.int .i64 RR.2]) (by simp [results,Tryz.results44,go_sem,q0,q1,q2,q3,q4,q5,q6]) rfl ?_;exact ⟨⟨_,_,_,rfl,SSr_1.out.stray TL.out R_1.out (.int .i64 RR.1.P) (.slice ora RR.1.A.length cra) (.int .i64 RR.1.Q) (.slice orb RR.1.B.length crb) (.int .i64 RR.1.a) (.int .i64 RR.1.b) (.slice orl RR.1.L.length crl)⟩,AF⟩
end Go.Proofs.YtmamlgaogpkagaaGreat
