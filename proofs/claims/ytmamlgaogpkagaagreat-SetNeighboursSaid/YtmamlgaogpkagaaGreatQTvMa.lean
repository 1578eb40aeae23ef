/- TvMa. -/
import Derived.Test.YtmamlgaogpkagaaGreatQLPlain
import Derived.Test.YtmamlgaogpkagaaGreatQLGen
import Derived.Test.YtmamlgaogpkagaaGreatQLSl
import Derived.Test.YtmamlgaogpkagaaGreatQRnKF
import Derived.Test.YtmamlgaogpkagaaGreatQPeKJ
import Derived.Test.YtmamlgaogpkagaaGreatQPeHEa
import Derived.Test.YtmamlgaogpkagaaGreatQTsGa
import Derived.Test.YtmamlgaogpkagaaGreatQTsWa
import Derived.Test.YtmamlgaogpkagaaGreatQTvB
import Derived.Test.YtmamlgaogpkagaaGreatQTvEa
import Derived.Test.YtmamlgaogpkagaaGreatQTvI
import Derived.Test.YtmamlgaogpkagaaGreatQTvHa
import Derived.Test.YtmamlgaogpkagaaGreatQTvL
import Derived.StillTailTactics
import Derived.BigQuiet
import Derived.Deep.QuietTactic
import Derived.Deep.RegionHeld3
import Derived.Laws.EntriesVeiled
namespace Go.Proofs.YtmamlgaogpkagaaGreat
open Go.RowKit
set_option linter.unusedVariables false
set_option linter.unusedSimpArgs false
theorem step_ok {s:TS} (g:GW s) {x:Int} (x0:-4398046511105≤x) (x1:x≤4398046511105):∃ M,x≤M∧M≤17592186044416∧∀ y,x≤y→y≤M→(∀ z,x≤z→z<y→hsT s z=hsT s x)→hsT s y=hsT s x→NxV (hsT s) y (nxT s y)∧(nxT s y≤M∨nxT s y=farI):=by
 have hi:=g.hi0;have lo:=g.lo0;have le:=g.le;have q0:=g.q.p0;have q1:=g.q.p1;refine ⟨(if x<s.b then s.b else x)+s.Q,by split <;> omega,by split <;> omega,fun y y0 y1 on sm=>⟨nxT_ok g (by unfold farI;split at y1 <;> omega),up_to g x1 y0 on rfl sm y1⟩⟩
def NbR (b:Bool) (N:Int→Bool→Prop) (y:Int) (o:Bool):Prop:=(b=true→N y o)∧(b=false→y=0∧o=false)
set_option maxRecDepth 100000 in
set_option maxHeartbeats 4000000 in
theorem tvchg (s:TS) (va vb vl:Value) (ti:TsI s) (x:Int) (hx:I64 x) (w:World) (h:SS3 w s va vb vl) :
    Calls Tryz.prog 39 #[.agg #[.int .i64 s.P,va,.int .i64 s.Q,vb,.int .i64 s.a,.int .i64 s.b,vl],.int .i64 x] w fun e w'=>(∃ y o,e=.returned (.tuple #[.int .i64 y,.bool o])∧NbR (vsB s&&nvB x) (NxC (hsT s) x) y o)∧Below w.heap.size w w':=by
  obtain ⟨osa,csa,rfl⟩:=prs_shape h.a;obtain ⟨osb,csb,rfl⟩:=prs_shape h.b;obtain ⟨osl,csl,rfl⟩:=prs_shape h.l;have AF_0:=zh (grow (here w) (.cells #[.int .i64 s.P,.slice osa s.A.length csa,.int .i64 s.Q,.slice osb s.B.length csb,.int .i64 s.a,.int .i64 s.b,.slice osl s.L.length csl] 26));have T_0:=zh (Bxs.new (w:=w) [.int .i64 s.P,.slice osa s.A.length csa,.int .i64 s.Q,.slice osb s.B.length csb,.int .i64 s.a,.int .i64 s.b,.slice osl s.L.length csl] 26);have S_0:=zh (h.keep AF_0.out);have VA:=zh (fun W (h:SS3 W s (.slice osa s.A.length csa) (.slice osb s.B.length csb) (.slice osl s.L.length csl))=>tvvalid s _ _ _ ti W h);have LI:=zh (fun W=>tvline x W);have gl:=vs_ok (s:=s);have nl:=nvB_iff (x:=x);clear ti
  cases v:vsB s
  · rw [v] at VA;rw [Bool.false_and];have NR:Hid (NbR false (NxC (hsT s) x) 0 false):=⟨fun c=>(by cases c),fun _=>⟨rfl,rfl⟩⟩;clear v gl nl LI h
    go_enter Tryz.func39,Tryz.ntmps39
    obtain ⟨aa,ab,ac,ad,ae,af,ag,ah⟩:=T_0.out.z7;go_wp2_with fail
    clear aa ab ac ad ae af ag ah;generalize (w.alloc (.cells #[.int .i64 s.P,.slice osa s.A.length csa,.int .i64 s.Q,.slice osb s.B.length csb,.int .i64 s.a,.int .i64 s.b,.slice osl s.L.length csl] 26))=w0 at *;refine (VA.out _ S_0.out).mono ?_;rintro e w1 ⟨rfl,hb⟩;have AF_1:=zd AF_0 hb;have T_1:=zh (T_0.out.keep hb);have S_1:=zh (S_0.out.keep hb);clear hb AF_0 T_0 S_0;obtain ⟨aa,ab,ac,ad,ae,af,ag,ah⟩:=T_1.out.z7;go_wp2
    go_ret2
    first | exact ⟨⟨_,.inl ⟨rfl,NR.out⟩⟩,AF_1.out⟩ | exact ⟨⟨_,_,rfl,NR.out⟩,AF_1.out⟩
  · rw [v] at VA;rw [Bool.true_and]
    cases n:nvB x
    · rw [n] at LI;have NR:Hid (NbR false (NxC (hsT s) x) 0 false):=⟨fun c=>(by cases c),fun _=>⟨rfl,rfl⟩⟩;clear v gl nl n h
      go_enter Tryz.func39,Tryz.ntmps39
      obtain ⟨aa,ab,ac,ad,ae,af,ag,ah⟩:=T_0.out.z7;go_wp2_with fail
      clear aa ab ac ad ae af ag ah;generalize (w.alloc (.cells #[.int .i64 s.P,.slice osa s.A.length csa,.int .i64 s.Q,.slice osb s.B.length csb,.int .i64 s.a,.int .i64 s.b,.slice osl s.L.length csl] 26))=w0 at *;refine (VA.out _ S_0.out).mono ?_;rintro e w1 ⟨rfl,hb⟩;have AF_1:=zd AF_0 hb;have T_1:=zh (T_0.out.keep hb);have S_1:=zh (S_0.out.keep hb);clear hb AF_0 T_0 S_0;obtain ⟨aa,ab,ac,ad,ae,af,ag,ah⟩:=T_1.out.z7;go_wp2_with fail
      clear aa ab ac ad ae af ag ah;refine (LI.out _).mono ?_;rintro e w' ⟨rfl,rfl⟩;obtain ⟨aa,ab,ac,ad,ae,af,ag,ah⟩:=T_1.out.z7;go_wp2
      go_ret2
      first | exact ⟨⟨_,.inl ⟨rfl,NR.out⟩⟩,AF_1.out⟩ | exact ⟨⟨_,_,rfl,NR.out⟩,AF_1.out⟩
    · rw [n] at LI;obtain ⟨x0,x1⟩:=nl.1 n;have gw:=(gl.1 v).g.gw;obtain ⟨M,xM,M1,step⟩:=step_ok gw (x:=x) (by omega) (by omega);have VS:=zh (fun W (h:SS3 W s (.slice osa s.A.length csa) (.slice osb s.B.length csb) (.slice osl s.L.length csl))=>tvset s gw _ _ _ W h);have FI:=zh (fun W (v:Value) (V:Vw W v (hsT s) (nxT s))=>tvchange (hsT s) (nxT s) x M (by omega) xM M1 step v W V);have fin:∀ y,ChW (hsT s) x y→NbR true (NxC (hsT s) x) (olI y) (nvB y):=fun y h=>⟨fun _=>ch_fin x0 x1 h,fun c=>by cases c⟩;have yup:∀ y,ChW (hsT s) x y→x≤y∧y≤9223372036854775807:=fun y h=>by have:=h.up (by unfold farI;omega);unfold farI at this;omega
      replace fin:=fin;clear v gl nl n h gw step
      go_enter Tryz.func39,Tryz.ntmps39
      obtain ⟨aa,ab,ac,ad,ae,af,ag,ah⟩:=T_0.out.z7;go_wp2_with fail
      clear aa ab ac ad ae af ag ah;generalize (w.alloc (.cells #[.int .i64 s.P,.slice osa s.A.length csa,.int .i64 s.Q,.slice osb s.B.length csb,.int .i64 s.a,.int .i64 s.b,.slice osl s.L.length csl] 26))=w0 at *;refine (VA.out _ S_0.out).mono ?_;rintro e w1 ⟨rfl,hb⟩;have AF_1:=zd AF_0 hb;have T_1:=zh (T_0.out.keep hb);have S_1:=zh (S_0.out.keep hb);clear hb AF_0 T_0 S_0;obtain ⟨aa,ab,ac,ad,ae,af,ag,ah⟩:=T_1.out.z7;go_wp2_with fail
      clear aa ab ac ad ae af ag ah;refine (LI.out _).mono ?_;rintro e w' ⟨rfl,rfl⟩;obtain ⟨aa,ab,ac,ad,ae,af,ag,ah⟩:=T_1.out.z7;go_wp2_with fail
      clear aa ab ac ad ae af ag ah;refine (VS.out _ S_1.out).mono ?_;rintro e w2 ⟨⟨v,rfl,V⟩,hb⟩;have AF_2:=zd AF_1 hb;have T_2:=zh (T_1.out.keep hb);have S_2:=zh (S_1.out.keep hb);clear hb AF_1 T_1 S_1;obtain ⟨g5,k5,rfl⟩:=V.shape;replace V:=zh V;obtain ⟨aa,ab,ac,ad,ae,af,ag,ah⟩:=T_2.out.z7;go_wp2_with fail
      clear aa ab ac ad ae af ag ah;refine (FI.out _ _ V.out).mono ?_;rintro e w3 ⟨⟨y,rfl,hy⟩,hb⟩;have AF_3:=zd AF_2 hb;have T_3:=zh (T_2.out.keep hb);have S_3:=zh (S_2.out.keep hb);clear hb AF_2 T_2 S_2;have yu:=yup y hy;have NR:=zh (fin y hy);replace hy:=zh hy;obtain ⟨aa,ab,ac,ad,ae,af,ag,ah⟩:=T_3.out.z7;go_wp2_with fail
      clear aa ab ac ad ae af ag ah;refine (tvonl y _).mono ?_;rintro e w' ⟨rfl,rfl⟩;obtain ⟨y2,hy2⟩:∃ y2,olI y=y2:=⟨_,rfl⟩;obtain ⟨o2,ho2⟩:∃ o2,nvB y=o2:=⟨_,rfl⟩;rw [hy2,ho2] at NR ⊢;clear hy2 ho2;obtain ⟨aa,ab,ac,ad,ae,af,ag,ah⟩:=T_3.out.z7
      cases o2
      all_goals
        go_wp2
        go_ret2
        first | exact ⟨⟨_,.inl ⟨rfl,NR.out⟩⟩,AF_3.out⟩ | exact ⟨⟨_,.inr ⟨rfl,NR.out⟩⟩,AF_3.out⟩ | exact ⟨⟨_,_,rfl,NR.out⟩,AF_3.out⟩
set_option maxRecDepth 100000 in
set_option maxHeartbeats 4000000 in
theorem tvnext (s:TS) (va vb vl:Value) (ti:TsI s) (x:Int) (hx:I64 x) (w:World) (h:SS3 w s va vb vl) :
    Calls Tryz.prog 37 #[.agg #[.int .i64 s.P,va,.int .i64 s.Q,vb,.int .i64 s.a,.int .i64 s.b,vl],.int .i64 x] w fun e w'=>(∃ y o,e=.returned (.tuple #[.int .i64 y,.bool o])∧NbR (vsB s&&nvB x) (NxN (hsT s) x) y o)∧Below w.heap.size w w':=by
  obtain ⟨osa,csa,rfl⟩:=prs_shape h.a;obtain ⟨osb,csb,rfl⟩:=prs_shape h.b;obtain ⟨osl,csl,rfl⟩:=prs_shape h.l;have AF_0:=zh (grow (here w) (.cells #[.int .i64 s.P,.slice osa s.A.length csa,.int .i64 s.Q,.slice osb s.B.length csb,.int .i64 s.a,.int .i64 s.b,.slice osl s.L.length csl] 26));have T_0:=zh (Bxs.new (w:=w) [.int .i64 s.P,.slice osa s.A.length csa,.int .i64 s.Q,.slice osb s.B.length csb,.int .i64 s.a,.int .i64 s.b,.slice osl s.L.length csl] 26);have S_0:=zh (h.keep AF_0.out);have VA:=zh (fun W (h:SS3 W s (.slice osa s.A.length csa) (.slice osb s.B.length csb) (.slice osl s.L.length csl))=>tvvalid s _ _ _ ti W h);have LI:=zh (fun W=>tvline x W);have gl:=vs_ok (s:=s);have nl:=nvB_iff (x:=x);clear ti
  cases v:vsB s
  · rw [v] at VA;rw [Bool.false_and];have NR:Hid (NbR false (NxN (hsT s) x) 0 false):=⟨fun c=>(by cases c),fun _=>⟨rfl,rfl⟩⟩;clear v gl nl LI h
    go_enter Tryz.func37,Tryz.ntmps37
    obtain ⟨aa,ab,ac,ad,ae,af,ag,ah⟩:=T_0.out.z7;go_wp2_with fail
    clear aa ab ac ad ae af ag ah;generalize (w.alloc (.cells #[.int .i64 s.P,.slice osa s.A.length csa,.int .i64 s.Q,.slice osb s.B.length csb,.int .i64 s.a,.int .i64 s.b,.slice osl s.L.length csl] 26))=w0 at *;refine (VA.out _ S_0.out).mono ?_;rintro e w1 ⟨rfl,hb⟩;have AF_1:=zd AF_0 hb;have T_1:=zh (T_0.out.keep hb);have S_1:=zh (S_0.out.keep hb);clear hb AF_0 T_0 S_0;obtain ⟨aa,ab,ac,ad,ae,af,ag,ah⟩:=T_1.out.z7;go_wp2
    go_ret2
    first | exact ⟨⟨_,.inl ⟨rfl,NR.out⟩⟩,AF_1.out⟩ | exact ⟨⟨_,_,rfl,NR.out⟩,AF_1.out⟩
  · rw [v] at VA;rw [Bool.true_and]
    cases n:nvB x
    · rw [n] at LI;have NR:Hid (NbR false (NxN (hsT s) x) 0 false):=⟨fun c=>(by cases c),fun _=>⟨rfl,rfl⟩⟩;clear v gl nl n h
      go_enter Tryz.func37,Tryz.ntmps37
      obtain ⟨aa,ab,ac,ad,ae,af,ag,ah⟩:=T_0.out.z7;go_wp2_with fail
      clear aa ab ac ad ae af ag ah;generalize (w.alloc (.cells #[.int .i64 s.P,.slice osa s.A.length csa,.int .i64 s.Q,.slice osb s.B.length csb,.int .i64 s.a,.int .i64 s.b,.slice osl s.L.length csl] 26))=w0 at *;refine (VA.out _ S_0.out).mono ?_;rintro e w1 ⟨rfl,hb⟩;have AF_1:=zd AF_0 hb;have T_1:=zh (T_0.out.keep hb);have S_1:=zh (S_0.out.keep hb);clear hb AF_0 T_0 S_0;obtain ⟨aa,ab,ac,ad,ae,af,ag,ah⟩:=T_1.out.z7;go_wp2_with fail
      clear aa ab ac ad ae af ag ah;refine (LI.out _).mono ?_;rintro e w' ⟨rfl,rfl⟩;obtain ⟨aa,ab,ac,ad,ae,af,ag,ah⟩:=T_1.out.z7;go_wp2
      go_ret2
      first | exact ⟨⟨_,.inl ⟨rfl,NR.out⟩⟩,AF_1.out⟩ | exact ⟨⟨_,_,rfl,NR.out⟩,AF_1.out⟩
    · rw [n] at LI;obtain ⟨x0,x1⟩:=nl.1 n;have gw:=(gl.1 v).g.gw;obtain ⟨M,xM,M1,step⟩:=step_ok gw (x:=x) (by omega) (by omega);have VS:=zh (fun W (h:SS3 W s (.slice osa s.A.length csa) (.slice osb s.B.length csb) (.slice osl s.L.length csl))=>tvset s gw _ _ _ W h);have FI:=zh (fun W (v:Value) (V:Vw W v (hsT s) (nxT s))=>tvfirst (hsT s) (nxT s) x M (by omega) xM M1 step v W V);have fin:∀ y,FsW (hsT s) x y→NbR true (NxN (hsT s) x) (olI y) (nvB y):=fun y h=>⟨fun _=>fs_fin x0 x1 h,fun c=>by cases c⟩;have yup:∀ y,FsW (hsT s) x y→x≤y∧y≤9223372036854775807:=fun y h=>by have:=h.up (by unfold farI;omega);unfold farI at this;omega
      replace fin:=fin;clear v gl nl n h gw step
      go_enter Tryz.func37,Tryz.ntmps37
      obtain ⟨aa,ab,ac,ad,ae,af,ag,ah⟩:=T_0.out.z7;go_wp2_with fail
      clear aa ab ac ad ae af ag ah;generalize (w.alloc (.cells #[.int .i64 s.P,.slice osa s.A.length csa,.int .i64 s.Q,.slice osb s.B.length csb,.int .i64 s.a,.int .i64 s.b,.slice osl s.L.length csl] 26))=w0 at *;refine (VA.out _ S_0.out).mono ?_;rintro e w1 ⟨rfl,hb⟩;have AF_1:=zd AF_0 hb;have T_1:=zh (T_0.out.keep hb);have S_1:=zh (S_0.out.keep hb);clear hb AF_0 T_0 S_0;obtain ⟨aa,ab,ac,ad,ae,af,ag,ah⟩:=T_1.out.z7;go_wp2_with fail
      clear aa ab ac ad ae af ag ah;refine (LI.out _).mono ?_;rintro e w' ⟨rfl,rfl⟩;obtain ⟨aa,ab,ac,ad,ae,af,ag,ah⟩:=T_1.out.z7;go_wp2_with fail
      clear aa ab ac ad ae af ag ah;refine (VS.out _ S_1.out).mono ?_;rintro e w2 ⟨⟨v,rfl,V⟩,hb⟩;have AF_2:=zd AF_1 hb;have T_2:=zh (T_1.out.keep hb);have S_2:=zh (S_1.out.keep hb);clear hb AF_1 T_1 S_1;obtain ⟨g5,k5,rfl⟩:=V.shape;replace V:=zh V;obtain ⟨aa,ab,ac,ad,ae,af,ag,ah⟩:=T_2.out.z7;go_wp2_with fail
      clear aa ab ac ad ae af ag ah;refine (FI.out _ _ V.out).mono ?_;rintro e w3 ⟨⟨y,rfl,hy⟩,hb⟩;have AF_3:=zd AF_2 hb;have T_3:=zh (T_2.out.keep hb);have S_3:=zh (S_2.out.keep hb);clear hb AF_2 T_2 S_2;have yu:=yup y hy;have NR:=zh (fin y hy);replace hy:=zh hy;obtain ⟨aa,ab,ac,ad,ae,af,ag,ah⟩:=T_3.out.z7;go_wp2_with fail
      clear aa ab ac ad ae af ag ah;refine (tvonl y _).mono ?_;rintro e w' ⟨rfl,rfl⟩;obtain ⟨y2,hy2⟩:∃ y2,olI y=y2:=⟨_,rfl⟩;obtain ⟨o2,ho2⟩:∃ o2,nvB y=o2:=⟨_,rfl⟩;rw [hy2,ho2] at NR ⊢;clear hy2 ho2;obtain ⟨aa,ab,ac,ad,ae,af,ag,ah⟩:=T_3.out.z7
      cases o2
      all_goals
        go_wp2
        go_ret2
        first | exact ⟨⟨_,.inl ⟨rfl,NR.out⟩⟩,AF_3.out⟩ | exact ⟨⟨_,.inr ⟨rfl,NR.out⟩⟩,AF_3.out⟩ | exact ⟨⟨_,_,rfl,NR.out⟩,AF_3.out⟩
set_option maxRecDepth 100000 in
set_option maxHeartbeats 4000000 in
theorem tvprev (s:TS) (va vb vl:Value) (ti:TsI s) (x:Int) (hx:I64 x) (w:World) (h:SS3 w s va vb vl) :
    Calls Tryz.prog 38 #[.agg #[.int .i64 s.P,va,.int .i64 s.Q,vb,.int .i64 s.a,.int .i64 s.b,vl],.int .i64 x] w fun e w'=>(∃ y o,e=.returned (.tuple #[.int .i64 y,.bool o])∧NbR (vsB s&&nvB x) (NxP (hsT s) x) y o)∧Below w.heap.size w w':=by
  obtain ⟨osa,csa,rfl⟩:=prs_shape h.a;obtain ⟨osb,csb,rfl⟩:=prs_shape h.b;obtain ⟨osl,csl,rfl⟩:=prs_shape h.l;have AF_0:=zh (grow (here w) (.cells #[.int .i64 s.P,.slice osa s.A.length csa,.int .i64 s.Q,.slice osb s.B.length csb,.int .i64 s.a,.int .i64 s.b,.slice osl s.L.length csl] 26));have T_0:=zh (Bxs.new (w:=w) [.int .i64 s.P,.slice osa s.A.length csa,.int .i64 s.Q,.slice osb s.B.length csb,.int .i64 s.a,.int .i64 s.b,.slice osl s.L.length csl] 26);have S_0:=zh (h.keep AF_0.out);have VA:=zh (fun W (h:SS3 W s (.slice osa s.A.length csa) (.slice osb s.B.length csb) (.slice osl s.L.length csl))=>tvvalid s _ _ _ ti W h);have LI:=zh (fun W=>tvline x W);have gl:=vs_ok (s:=s);have nl:=nvB_iff (x:=x);clear ti
  cases v:vsB s
  · rw [v] at VA;rw [Bool.false_and];have NR:Hid (NbR false (NxP (hsT s) x) 0 false):=⟨fun c=>(by cases c),fun _=>⟨rfl,rfl⟩⟩;clear v gl nl LI h
    go_enter Tryz.func38,Tryz.ntmps38
    obtain ⟨aa,ab,ac,ad,ae,af,ag,ah⟩:=T_0.out.z7;go_wp2_with fail
    clear aa ab ac ad ae af ag ah;generalize (w.alloc (.cells #[.int .i64 s.P,.slice osa s.A.length csa,.int .i64 s.Q,.slice osb s.B.length csb,.int .i64 s.a,.int .i64 s.b,.slice osl s.L.length csl] 26))=w0 at *;refine (VA.out _ S_0.out).mono ?_;rintro e w1 ⟨rfl,hb⟩;have AF_1:=zd AF_0 hb;have T_1:=zh (T_0.out.keep hb);have S_1:=zh (S_0.out.keep hb);clear hb AF_0 T_0 S_0;obtain ⟨aa,ab,ac,ad,ae,af,ag,ah⟩:=T_1.out.z7;go_wp2
    go_ret2
    first | exact ⟨⟨_,.inl ⟨rfl,NR.out⟩⟩,AF_1.out⟩ | exact ⟨⟨_,_,rfl,NR.out⟩,AF_1.out⟩
  · rw [v] at VA;rw [Bool.true_and]
    cases n:nvB x
    · rw [n] at LI;have NR:Hid (NbR false (NxP (hsT s) x) 0 false):=⟨fun c=>(by cases c),fun _=>⟨rfl,rfl⟩⟩;clear v gl nl n h
      go_enter Tryz.func38,Tryz.ntmps38
      obtain ⟨aa,ab,ac,ad,ae,af,ag,ah⟩:=T_0.out.z7;go_wp2_with fail
      clear aa ab ac ad ae af ag ah;generalize (w.alloc (.cells #[.int .i64 s.P,.slice osa s.A.length csa,.int .i64 s.Q,.slice osb s.B.length csb,.int .i64 s.a,.int .i64 s.b,.slice osl s.L.length csl] 26))=w0 at *;refine (VA.out _ S_0.out).mono ?_;rintro e w1 ⟨rfl,hb⟩;have AF_1:=zd AF_0 hb;have T_1:=zh (T_0.out.keep hb);have S_1:=zh (S_0.out.keep hb);clear hb AF_0 T_0 S_0;obtain ⟨aa,ab,ac,ad,ae,af,ag,ah⟩:=T_1.out.z7;go_wp2_with fail
      clear aa ab ac ad ae af ag ah;refine (LI.out _).mono ?_;rintro e w' ⟨rfl,rfl⟩;obtain ⟨aa,ab,ac,ad,ae,af,ag,ah⟩:=T_1.out.z7;go_wp2
      go_ret2
      first | exact ⟨⟨_,.inl ⟨rfl,NR.out⟩⟩,AF_1.out⟩ | exact ⟨⟨_,_,rfl,NR.out⟩,AF_1.out⟩
    · rw [n] at LI;obtain ⟨x0,x1⟩:=nl.1 n;have gw:=(gl.1 v).g.gw;obtain ⟨M,xM,M1,step⟩:=step_ok gw.mirror (x:=(-1 - x)) (by omega) (by omega);have MI:=zh (fun W (h:SS3 W s (.slice osa s.A.length csa) (.slice osb s.B.length csb) (.slice osl s.L.length csl))=>tvmir s gw _ _ _ W h);have VS0:=zh (fun W ua ub ul (h:SS3 W (mrT s) ua ub ul)=>tvset (mrT s) gw.mirror ua ub ul W h);have FI:=zh (fun W (v:Value) (V:Vw W v (hsT (mrT s)) (nxT (mrT s)))=>tvfirst (hsT (mrT s)) (nxT (mrT s)) (-1 - x) M (by omega) xM M1 step v W V);have fin:∀ y,FsW (hsT (mrT s)) (-1 - x) y→NbR true (NxP (hsT s) x) (olI (-1 - y)) (nvB (-1 - y)):=fun y h=>⟨fun _=>pr_fin x0 x1 (fun z=>mr_has gw z) h,fun c=>by cases c⟩;have yup:∀ y,FsW (hsT (mrT s)) (-1 - x) y→(-1 - x)≤y∧y≤9223372036854775807:=fun y h=>by have:=h.up (by unfold farI;omega);unfold farI at this;omega
      replace fin:=fin;clear v gl nl n h gw step
      go_enter Tryz.func38,Tryz.ntmps38
      obtain ⟨aa,ab,ac,ad,ae,af,ag,ah⟩:=T_0.out.z7;go_wp2_with fail
      clear aa ab ac ad ae af ag ah;generalize (w.alloc (.cells #[.int .i64 s.P,.slice osa s.A.length csa,.int .i64 s.Q,.slice osb s.B.length csb,.int .i64 s.a,.int .i64 s.b,.slice osl s.L.length csl] 26))=w0 at *;refine (VA.out _ S_0.out).mono ?_;rintro e w1 ⟨rfl,hb⟩;have AF_1:=zd AF_0 hb;have T_1:=zh (T_0.out.keep hb);have S_1:=zh (S_0.out.keep hb);clear hb AF_0 T_0 S_0;obtain ⟨aa,ab,ac,ad,ae,af,ag,ah⟩:=T_1.out.z7;go_wp2_with fail
      clear aa ab ac ad ae af ag ah;refine (LI.out _).mono ?_;rintro e w' ⟨rfl,rfl⟩;obtain ⟨aa,ab,ac,ad,ae,af,ag,ah⟩:=T_1.out.z7;go_wp2_with fail
      clear aa ab ac ad ae af ag ah;refine (MI.out _ S_1.out).mono ?_;rintro e w2 ⟨⟨ua,ub,ul,rfl,SM⟩,hb⟩;have AF_2:=zd AF_1 hb;have T_2:=zh (T_1.out.keep hb);have S_2:=zh (S_1.out.keep hb);clear hb AF_1 T_1 S_1;have VS:=zh (VS0.out _ _ _ _ SM);clear SM;obtain ⟨aa,ab,ac,ad,ae,af,ag,ah⟩:=T_2.out.z7;go_wp2_with fail
      clear aa ab ac ad ae af ag ah;refine VS.out.mono ?_;rintro e w3 ⟨⟨v,rfl,V⟩,hb⟩;have AF_3:=zd AF_2 hb;have T_3:=zh (T_2.out.keep hb);have S_3:=zh (S_2.out.keep hb);clear hb AF_2 T_2 S_2;obtain ⟨g5,k5,rfl⟩:=V.shape;replace V:=zh V;obtain ⟨aa,ab,ac,ad,ae,af,ag,ah⟩:=T_3.out.z7;go_wp2_with fail
      clear aa ab ac ad ae af ag ah;refine (FI.out _ _ V.out).mono ?_;rintro e w4 ⟨⟨y,rfl,hy⟩,hb⟩;have AF_4:=zd AF_3 hb;have T_4:=zh (T_3.out.keep hb);have S_4:=zh (S_3.out.keep hb);clear hb AF_3 T_3 S_3;have yu:=yup y hy;have NR:=zh (fin y hy);replace hy:=zh hy;obtain ⟨aa,ab,ac,ad,ae,af,ag,ah⟩:=T_4.out.z7;go_wp2_with fail
      clear aa ab ac ad ae af ag ah;refine (tvonl (-1 - y) _).mono ?_;rintro e w' ⟨rfl,rfl⟩;obtain ⟨y2,hy2⟩:∃ y2,olI (-1 - y)=y2:=⟨_,rfl⟩;obtain ⟨o2,ho2⟩:∃ o2,nvB (-1 - y)=o2:=⟨_,rfl⟩;rw [hy2,ho2] at NR ⊢;clear hy2 ho2;obtain ⟨aa,ab,ac,ad,ae,af,ag,ah⟩:=T_4.out.z7
      cases o2
      all_goals
        go_wp2
        go_ret2
        first | exact ⟨⟨_,.inl ⟨rfl,NR.out⟩⟩,AF_4.out⟩ | exact ⟨⟨_,.inr ⟨rfl,NR.out⟩⟩,AF_4.out⟩ | exact ⟨⟨_,_,rfl,NR.out⟩,AF_4.out⟩
end Go.Proofs.YtmamlgaogpkagaaGreat
