/- TrJ. -/
import Derived.Test.YtmamlgaogpkagaaGreatQLPlain
import Derived.Test.YtmamlgaogpkagaaGreatQLGen
import Derived.Test.YtmamlgaogpkagaaGreatQLSl
import Derived.Test.YtmamlgaogpkagaaGreatQRnKF
import Derived.Test.YtmamlgaogpkagaaGreatQPeKJ
import Derived.Test.YtmamlgaogpkagaaGreatQPeHEa
import Derived.Test.YtmamlgaogpkagaaGreatQTsGa
import Derived.Test.YtmamlgaogpkagaaGreatQTsGc
import Derived.Test.YtmamlgaogpkagaaGreatQTsTa
import Derived.Test.YtmamlgaogpkagaaGreatQTvB
import Derived.Test.YtmamlgaogpkagaaGreatQTvI
import Derived.Test.YtmamlgaogpkagaaGreatQTvL
import Derived.Test.YtmamlgaogpkagaaGreatQTrI
import Derived.WalkKit
import Derived.BigQuiet
import Derived.Deep.QuietTactic
namespace Go.Proofs.YtmamlgaogpkagaaGreat
open Go.RowKit
set_option linter.unusedVariables false
set_option linter.unusedSimpArgs false
set_option maxRecDepth 100000 in
set_option maxHeartbeats 4000000 in
theorem rtnext (s:TS) (vs:VS s) (va vb vl:Value) (x:Int) (hx:I64 x) (w:World) (h:SS3 w s va vb vl) :
    Calls Tryz.prog 40 #[.agg #[.int .i64 s.P,va,.int .i64 s.Q,vb,.int .i64 s.a,.int .i64 s.b,vl],.int .i64 x] w fun e w'=>(∃ y o,e=.returned (.tuple #[.int .i64 y,.bool o])∧((nvB x=true→NxN (hsT s) x y o)∧(nvB x=false→y=0∧o=false)))∧Below w.heap.size w w':=by
  obtain ⟨osa,csa,rfl⟩:=prs_shape h.a;obtain ⟨osb,csb,rfl⟩:=prs_shape h.b;obtain ⟨osl,csl,rfl⟩:=prs_shape h.l;have AF_0:=zh (grow (here w) (.cells #[.int .i64 s.P,.slice osa s.A.length csa,.int .i64 s.Q,.slice osb s.B.length csb,.int .i64 s.a,.int .i64 s.b,.slice osl s.L.length csl] 26));have T_0:=zh (Bxs.new (w:=w) [.int .i64 s.P,.slice osa s.A.length csa,.int .i64 s.Q,.slice osb s.B.length csb,.int .i64 s.a,.int .i64 s.b,.slice osl s.L.length csl] 26);have S_0:=zh (h.keep AF_0.out);have LN:=zh (fun W=>rtline x W);have HH:=zh (fun W (h:SS3 W s (.slice osa s.A.length csa) (.slice osb s.B.length csb) (.slice osl s.L.length csl))=>rthas s _ _ _ vs.g.p vs.g.q vs.ti.L x hx W h);have CH:=zh (fun W (h:SS3 W s (.slice osa s.A.length csa) (.slice osb s.B.length csb) (.slice osl s.L.length csl))=>rtchange s vs _ _ _ x hx W h);clear h vs
  cases n0:nvB x
  · rw [n0] at LN;clear HH CH
    go_enter Tryz.func40,Tryz.ntmps40
    obtain ⟨aa,ab,ac,ad,ae,af,ag,ah⟩:=T_0.out.z7;go_wp2_with fail
    clear aa ab ac ad ae af ag ah;generalize (w.alloc (.cells #[.int .i64 s.P,.slice osa s.A.length csa,.int .i64 s.Q,.slice osb s.B.length csb,.int .i64 s.a,.int .i64 s.b,.slice osl s.L.length csl] 26))=w0 at *;refine (LN.out _).mono ?_;rintro e w' ⟨rfl,rfl⟩;obtain ⟨aa,ab,ac,ad,ae,af,ag,ah⟩:=T_0.out.z7;go_wp2
    go_ret2
    exact ⟨⟨0,false,rfl,fun h=>(by cases h),fun _=>⟨rfl,rfl⟩⟩,AF_0.out⟩
  rw [n0] at LN CH;have xh:=(nvB_iff.1 n0).2
  cases f0:hsT s x
  · rw [f0] at HH;have NN:=fun (y:Int) (o:Bool) (h:NxC (hsT s) x y o)=>nn_next f0 h;generalize hsT s=f at *;clear f0 n0
    go_enter Tryz.func40,Tryz.ntmps40
    obtain ⟨aa,ab,ac,ad,ae,af,ag,ah⟩:=T_0.out.z7;go_wp2_with fail
    clear aa ab ac ad ae af ag ah;generalize (w.alloc (.cells #[.int .i64 s.P,.slice osa s.A.length csa,.int .i64 s.Q,.slice osb s.B.length csb,.int .i64 s.a,.int .i64 s.b,.slice osl s.L.length csl] 26))=w0 at *;refine (LN.out _).mono ?_;rintro e w' ⟨rfl,rfl⟩;obtain ⟨aa,ab,ac,ad,ae,af,ag,ah⟩:=T_0.out.z7;go_wp2_with fail
    clear aa ab ac ad ae af ag ah;refine (HH.out _ S_0.out).mono ?_;rintro e w1 ⟨rfl,hb⟩;have AF_1:=zd AF_0 hb;have T_1:=zh (T_0.out.keep hb);have S_1:=zh (S_0.out.keep hb);clear hb AF_0 T_0 S_0;obtain ⟨aa,ab,ac,ad,ae,af,ag,ah⟩:=T_1.out.z7;go_wp2_with fail
    clear aa ab ac ad ae af ag ah;refine (CH.out _ S_1.out).mono ?_;rintro e w2 ⟨⟨y,o,rfl,nc⟩,hb⟩;have AF_2:=zd AF_1 hb;have T_2:=zh (T_1.out.keep hb);have S_2:=zh (S_1.out.keep hb);clear hb AF_1 T_1 S_1;obtain ⟨aa,ab,ac,ad,ae,af,ag,ah⟩:=T_2.out.z7;go_wp2
    go_ret2
    exact ⟨⟨_,_,rfl,fun _=>NN _ _ (nc.1 (by first | rfl | trivial)),fun h=>by cases h⟩,AF_2.out⟩
  · rw [f0] at HH;have NN:=nn_here xh f0;generalize hsT s=f at *;clear f0 n0 CH
    go_enter Tryz.func40,Tryz.ntmps40
    obtain ⟨aa,ab,ac,ad,ae,af,ag,ah⟩:=T_0.out.z7;go_wp2_with fail
    clear aa ab ac ad ae af ag ah;generalize (w.alloc (.cells #[.int .i64 s.P,.slice osa s.A.length csa,.int .i64 s.Q,.slice osb s.B.length csb,.int .i64 s.a,.int .i64 s.b,.slice osl s.L.length csl] 26))=w0 at *;refine (LN.out _).mono ?_;rintro e w' ⟨rfl,rfl⟩;obtain ⟨aa,ab,ac,ad,ae,af,ag,ah⟩:=T_0.out.z7;go_wp2_with fail
    clear aa ab ac ad ae af ag ah;refine (HH.out _ S_0.out).mono ?_;rintro e w1 ⟨rfl,hb⟩;have AF_1:=zd AF_0 hb;have T_1:=zh (T_0.out.keep hb);have S_1:=zh (S_0.out.keep hb);clear hb AF_0 T_0 S_0;obtain ⟨aa,ab,ac,ad,ae,af,ag,ah⟩:=T_1.out.z7;go_wp2
    go_ret2
    exact ⟨⟨_,_,rfl,fun _=>NN,fun h=>by cases h⟩,AF_1.out⟩
end Go.Proofs.YtmamlgaogpkagaaGreat
