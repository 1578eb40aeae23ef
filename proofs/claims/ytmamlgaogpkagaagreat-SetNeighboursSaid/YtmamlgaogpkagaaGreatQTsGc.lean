/- TsGc. -/
import Derived.Test.YtmamlgaogpkagaaGreatQLPlain
import Derived.Test.YtmamlgaogpkagaaGreatQLGen
import Derived.Test.YtmamlgaogpkagaaGreatQLSl
import Derived.Test.YtmamlgaogpkagaaGreatQLSla
import Derived.Test.YtmamlgaogpkagaaGreatQPeB
import Derived.Test.YtmamlgaogpkagaaGreatQRnKF
import Derived.Test.YtmamlgaogpkagaaGreatQPeKD
import Derived.Test.YtmamlgaogpkagaaGreatQPeKJ
import Derived.StillTailTactics
namespace Go.Proofs.YtmamlgaogpkagaaGreat
open Go.RowKit
set_option linter.unusedVariables false
set_option linter.unusedSimpArgs false
set_option maxRecDepth 100000 in
set_option maxHeartbeats 2000000 in
theorem rthas (s:TS) (va vb vl:Value) (p:PV s.P s.A) (q:PV s.Q s.B) (ll:s.L.length≤maxLen) (x:Int) (hx:I64 x) (w:World) (h:SS3 w s va vb vl) :
    Calls Tryz.prog 22 #[.agg #[.int .i64 s.P,va,.int .i64 s.Q,vb,.int .i64 s.a,.int .i64 s.b,vl],.int .i64 x] w fun e w'=>e=.returned (.bool (hsT s x))∧Below w.heap.size w w':=by
  obtain ⟨osa,csa,rfl⟩:=prs_shape h.a;obtain ⟨osb,csb,rfl⟩:=prs_shape h.b;obtain ⟨osl,csl,rfl⟩:=prs_shape h.l;have AF_0:=zh (grow (here w) (.cells #[.int .i64 s.P,.slice osa s.A.length csa,.int .i64 s.Q,.slice osb s.B.length csb,.int .i64 s.a,.int .i64 s.b,.slice osl s.L.length csl] 26));have T_0:=zh (Bxs.new (w:=w) [.int .i64 s.P,.slice osa s.A.length csa,.int .i64 s.Q,.slice osb s.B.length csb,.int .i64 s.a,.int .i64 s.b,.slice osl s.L.length csl] 26);have S_0:=zh (h.keep AF_0.out);have p0:=p.p0;have p1:=p.p1;have q0:=q.p0;have q1:=q.p1;have lA:=p.len;have lB:=q.len;have HL:=zh (fun W (h:PairS 0 W (.slice osa s.A.length csa) s.A)=>rphas _ s.P s.A (le_mx (by omega)) (by omega) (by omega) x hx W h);have HR:=zh (fun W (h:PairS 0 W (.slice osb s.B.length csb) s.B)=>rphas _ s.Q s.B (le_mx (by omega)) (by omega) (by omega) x hx W h);have HI:=zh (fun W (h:PairS 0 W (.slice osl s.L.length csl) s.L)=>rnin _ s.L ll x W h);clear h p q
  show Calls _ _ _ _ fun e w'=>e=.returned (.bool (if x<s.a then hsP s.P s.A x else if x<s.b then inB s.L x else hsP s.Q s.B x))∧Below w.heap.size w w'
  by_cases c:x<s.a
  · rw [if_pos c];have k:decide (x<s.a)=true:=zdt c;clear c HR HI
    go_enter Tryz.func22,Tryz.ntmps22
    obtain ⟨aa,ab,ac,ad,ae,af,ag,ah⟩:=T_0.out.z7;go_wp2_with fail
    clear aa ab ac ad ae af ag ah;generalize (w.alloc (.cells #[.int .i64 s.P,.slice osa s.A.length csa,.int .i64 s.Q,.slice osb s.B.length csb,.int .i64 s.a,.int .i64 s.b,.slice osl s.L.length csl] 26))=w0 at *;refine (HL.out _ S_0.out.a).mono ?_;rintro e w1 ⟨rfl,hb⟩;have AF_1:=zd AF_0 hb;have T_1:=zh (T_0.out.keep hb);have S_1:=zh (S_0.out.keep hb);clear hb AF_0 T_0 S_0;obtain ⟨aa,ab,ac,ad,ae,af,ag,ah⟩:=T_1.out.z7;go_wp2
    go_ret
    exact ⟨rfl,AF_1.out⟩
  · rw [if_neg c];have k:decide (x<s.a)=false:=zdf c
    by_cases d:x<s.b
    · rw [if_pos d];have k2:decide (x<s.b)=true:=zdt d;clear c d HR HL
      go_enter Tryz.func22,Tryz.ntmps22
      obtain ⟨aa,ab,ac,ad,ae,af,ag,ah⟩:=T_0.out.z7;go_wp2_with fail
      clear aa ab ac ad ae af ag ah;generalize (w.alloc (.cells #[.int .i64 s.P,.slice osa s.A.length csa,.int .i64 s.Q,.slice osb s.B.length csb,.int .i64 s.a,.int .i64 s.b,.slice osl s.L.length csl] 26))=w0 at *;refine (HI.out _ S_0.out.l).mono ?_;rintro e w' ⟨rfl,rfl⟩;obtain ⟨aa,ab,ac,ad,ae,af,ag,ah⟩:=T_0.out.z7;go_wp2
      go_ret
      exact ⟨rfl,AF_0.out⟩
    · rw [if_neg d];have k2:decide (x<s.b)=false:=zdf d;clear c d HL HI
      go_enter Tryz.func22,Tryz.ntmps22
      obtain ⟨aa,ab,ac,ad,ae,af,ag,ah⟩:=T_0.out.z7;go_wp2_with fail
      clear aa ab ac ad ae af ag ah;generalize (w.alloc (.cells #[.int .i64 s.P,.slice osa s.A.length csa,.int .i64 s.Q,.slice osb s.B.length csb,.int .i64 s.a,.int .i64 s.b,.slice osl s.L.length csl] 26))=w0 at *;refine (HR.out _ S_0.out.b).mono ?_;rintro e w1 ⟨rfl,hb⟩;have AF_1:=zd AF_0 hb;have T_1:=zh (T_0.out.keep hb);have S_1:=zh (S_0.out.keep hb);clear hb AF_0 T_0 S_0;obtain ⟨aa,ab,ac,ad,ae,af,ag,ah⟩:=T_1.out.z7;go_wp2
      go_ret
      exact ⟨rfl,AF_1.out⟩
end Go.Proofs.YtmamlgaogpkagaaGreat
