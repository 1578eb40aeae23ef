/- TlAb. -/
import Derived.Test.YtmamlgaogpkagaaGreatQLPlain
import Derived.Test.YtmamlgaogpkagaaGreatQLGen
import Derived.Test.YtmamlgaogpkagaaGreatQLSl
import Derived.Test.YtmamlgaogpkagaaGreatQRnKF
import Derived.Test.YtmamlgaogpkagaaGreatQPeKJ
import Derived.Test.YtmamlgaogpkagaaGreatQTsGa
import Derived.Test.YtmamlgaogpkagaaGreatQTvB
import Derived.StillTailTactics
import Derived.BigQuiet
import Derived.Deep.QuietTactic
import Derived.Deep.RegionWith
namespace Go.Proofs.YtmamlgaogpkagaaGreat
open Go.RowKit
set_option linter.unusedVariables false
set_option linter.unusedSimpArgs false
set_option maxRecDepth 100000 in
set_option maxHeartbeats 6000000 in
theorem lsame (s t:TS) (e f:Int) (va vb vl ua ub ul:Value) (ti:TsI s) (hA:s.A.length≤1000000) (hB:s.B.length≤1000000) (hL:s.L.length≤1000000) (w:World) (h:SS3 w s va vb vl) (k:SS3 w t ua ub ul) :
    Calls Tryz.prog 19 #[.agg #[.int .i64 s.P,va,.int .i64 s.Q,vb,.int .i64 s.a,.int .i64 s.b,vl],.int .i64 e,.agg #[.int .i64 t.P,ua,.int .i64 t.Q,ub,.int .i64 t.a,.int .i64 t.b,ul],.int .i64 f] w fun e' w'=>e'=.returned (.bool (decide (e=f)&&smT s t))∧Below w.heap.size w w':=by
  obtain ⟨osa,csa,rfl⟩:=prs_shape h.a;obtain ⟨osb,csb,rfl⟩:=prs_shape h.b;obtain ⟨osl,csl,rfl⟩:=prs_shape h.l;obtain ⟨ota,cta,rfl⟩:=prs_shape k.a;obtain ⟨otb,ctb,rfl⟩:=prs_shape k.b;obtain ⟨otl,ctl,rfl⟩:=prs_shape k.l;have AF_0:=zh (grow (grow (here w) (.cells #[.int .i64 s.P,.slice osa s.A.length csa,.int .i64 s.Q,.slice osb s.B.length csb,.int .i64 s.a,.int .i64 s.b,.slice osl s.L.length csl] 26)) (.cells #[.int .i64 t.P,.slice ota t.A.length cta,.int .i64 t.Q,.slice otb t.B.length ctb,.int .i64 t.a,.int .i64 t.b,.slice otl t.L.length ctl] 26));have T_0:=zh ((Bxs.new (w:=w) [.int .i64 s.P,.slice osa s.A.length csa,.int .i64 s.Q,.slice osb s.B.length csb,.int .i64 s.a,.int .i64 s.b,.slice osl s.L.length csl] 26).old (.cells #[.int .i64 t.P,.slice ota t.A.length cta,.int .i64 t.Q,.slice otb t.B.length ctb,.int .i64 t.a,.int .i64 t.b,.slice otl t.L.length ctl] 26));have U_0:=zh (Bxs.snd (w:=w) (o:=(.cells #[.int .i64 s.P,.slice osa s.A.length csa,.int .i64 s.Q,.slice osb s.B.length csb,.int .i64 s.a,.int .i64 s.b,.slice osl s.L.length csl] 26)) [.int .i64 t.P,.slice ota t.A.length cta,.int .i64 t.Q,.slice otb t.B.length ctb,.int .i64 t.a,.int .i64 t.b,.slice otl t.L.length ctl] 26);have S_0:=zh (h.keep AF_0.out);have R_0:=zh (k.keep AF_0.out);have E1:Hid (∀ W,PairS 0 W (.slice osl s.L.length csl) s.L→PairS 0 W (.slice otl t.L.length ctl) t.L→Calls Tryz.prog 36 #[.slice osl s.L.length csl,.slice otl t.L.length ctl] W fun e w'=>e=.returned (.bool (s.L==t.L))∧Below W.heap.size W w'):=fun W h k=>eq_below (eq_pairs s.L t.L _ _ (by omega) W h k);have E2:Hid (∀ W,PairS 0 W (.slice osa s.A.length csa) s.A→PairS 0 W (.slice ota t.A.length cta) t.A→Calls Tryz.prog 36 #[.slice osa s.A.length csa,.slice ota t.A.length cta] W fun e w'=>e=.returned (.bool (s.A==t.A))∧Below W.heap.size W w'):=fun W h k=>eq_below (eq_pairs s.A t.A _ _ (by omega) W h k);have E3:Hid (∀ W,PairS 0 W (.slice osb s.B.length csb) s.B→PairS 0 W (.slice otb t.B.length ctb) t.B→Calls Tryz.prog 36 #[.slice osb s.B.length csb,.slice otb t.B.length ctb] W fun e w'=>e=.returned (.bool (s.B==t.B))∧Below W.heap.size W w'):=fun W h k=>eq_below (eq_pairs s.B t.B _ _ (by omega) W h k);have sm:(decide (e=f)&&smT s t)=(decide (e=f)&&(decide (s.a=t.a)&&(decide (s.b=t.b)&&(decide (s.P=t.P)&&(decide (s.Q=t.Q)&&((s.L==t.L)&&((s.A==t.A)&&(s.B==t.B)))))))):=by
    congr 1
    unfold smT
    rw [Bool.eq_iff_iff]
    simp only [Bool.and_eq_true,decide_eq_true_eq,beq_iff_eq]
    constructor
    · rintro ⟨⟨⟨⟨⟨h1,h2⟩,h3,h4⟩,h5⟩,h6⟩,h7⟩;exact ⟨h5,h6,h1,h3,h7,h2,h4⟩
    · rintro ⟨h5,h6,h1,h3,h7,h2,h4⟩;exact ⟨⟨⟨⟨⟨h1,h2⟩,h3,h4⟩,h5⟩,h6⟩,h7⟩
  rw [sm];clear h k ti sm hA hB hL
  by_cases c0:e=f
  · have ke:(e==f)=true:=beq_iff_eq.2 c0;rw [zdt c0,Bool.true_and];clear c0
    by_cases c1:s.a=t.a
    · have k1:(s.a==t.a)=true:=beq_iff_eq.2 c1;rw [zdt c1,Bool.true_and];clear c1
      by_cases c2:s.b=t.b
      · have k2:(s.b==t.b)=true:=beq_iff_eq.2 c2;rw [zdt c2,Bool.true_and];clear c2
        by_cases c3:s.P=t.P
        · have k3:(s.P==t.P)=true:=beq_iff_eq.2 c3;rw [zdt c3,Bool.true_and];clear c3
          by_cases c4:s.Q=t.Q
          · have k4:(s.Q==t.Q)=true:=beq_iff_eq.2 c4;rw [zdt c4,Bool.true_and];clear c4
            cases q1x:(s.L==t.L)
            · rw [q1x] at E1;rw [Bool.false_and];clear q1x E2 E3
              go_enter Tryz.func19,Tryz.ntmps19
              obtain ⟨aa,ab,ac,ad,ae,af,ag,ah⟩:=T_0.out.z7;obtain ⟨ai,aj,ak,al,am,an,ao,ap⟩:=U_0.out.z7;go_wp2_with fail
              clear aa ab ac ad ae af ag ai aj ak al am an ao ah ap;generalize ((w.alloc (.cells #[.int .i64 s.P,.slice osa s.A.length csa,.int .i64 s.Q,.slice osb s.B.length csb,.int .i64 s.a,.int .i64 s.b,.slice osl s.L.length csl] 26)).alloc (.cells #[.int .i64 t.P,.slice ota t.A.length cta,.int .i64 t.Q,.slice otb t.B.length ctb,.int .i64 t.a,.int .i64 t.b,.slice otl t.L.length ctl] 26))=w0 at *;refine (E1.out _ S_0.out.l R_0.out.l).mono ?_;rintro e w1 ⟨rfl,hb⟩;have AF_1:=zd AF_0 hb;have T_1:=zh (T_0.out.keep hb);have U_1:=zh (U_0.out.keep hb);have S_1:=zh (S_0.out.keep hb);have R_1:=zh (R_0.out.keep hb);clear hb AF_0 T_0 U_0 S_0 R_0;obtain ⟨aa,ab,ac,ad,ae,af,ag,ah⟩:=T_1.out.z7;obtain ⟨ai,aj,ak,al,am,an,ao,ap⟩:=U_1.out.z7;go_wp2
              go_ret
              exact ⟨rfl,AF_1.out⟩
            · rw [q1x] at E1;rw [Bool.true_and];clear q1x
              cases q2x:(s.A==t.A)
              · rw [q2x] at E2;rw [Bool.false_and];clear q2x E3
                go_enter Tryz.func19,Tryz.ntmps19
                obtain ⟨aa,ab,ac,ad,ae,af,ag,ah⟩:=T_0.out.z7;obtain ⟨ai,aj,ak,al,am,an,ao,ap⟩:=U_0.out.z7;go_wp2_with fail
                clear aa ab ac ad ae af ag ai aj ak al am an ao ah ap;generalize ((w.alloc (.cells #[.int .i64 s.P,.slice osa s.A.length csa,.int .i64 s.Q,.slice osb s.B.length csb,.int .i64 s.a,.int .i64 s.b,.slice osl s.L.length csl] 26)).alloc (.cells #[.int .i64 t.P,.slice ota t.A.length cta,.int .i64 t.Q,.slice otb t.B.length ctb,.int .i64 t.a,.int .i64 t.b,.slice otl t.L.length ctl] 26))=w0 at *;refine (E1.out _ S_0.out.l R_0.out.l).mono ?_;rintro e w1 ⟨rfl,hb⟩;have AF_1:=zd AF_0 hb;have T_1:=zh (T_0.out.keep hb);have U_1:=zh (U_0.out.keep hb);have S_1:=zh (S_0.out.keep hb);have R_1:=zh (R_0.out.keep hb);clear hb AF_0 T_0 U_0 S_0 R_0;obtain ⟨aa,ab,ac,ad,ae,af,ag,ah⟩:=T_1.out.z7;obtain ⟨ai,aj,ak,al,am,an,ao,ap⟩:=U_1.out.z7;go_wp2_with fail
                clear aa ab ac ad ae af ag ai aj ak al am an ao ah ap;refine (E2.out _ S_1.out.a R_1.out.a).mono ?_;rintro e w2 ⟨rfl,hb⟩;have AF_2:=zd AF_1 hb;have T_2:=zh (T_1.out.keep hb);have U_2:=zh (U_1.out.keep hb);have S_2:=zh (S_1.out.keep hb);have R_2:=zh (R_1.out.keep hb);clear hb AF_1 T_1 U_1 S_1 R_1;obtain ⟨aa,ab,ac,ad,ae,af,ag,ah⟩:=T_2.out.z7;obtain ⟨ai,aj,ak,al,am,an,ao,ap⟩:=U_2.out.z7;go_wp2
                go_ret
                exact ⟨rfl,AF_2.out⟩
              · rw [q2x] at E2;rw [Bool.true_and];clear q2x;generalize (s.B==t.B)=z at *
                go_enter Tryz.func19,Tryz.ntmps19
                obtain ⟨aa,ab,ac,ad,ae,af,ag,ah⟩:=T_0.out.z7;obtain ⟨ai,aj,ak,al,am,an,ao,ap⟩:=U_0.out.z7;go_wp2_with fail
                clear aa ab ac ad ae af ag ai aj ak al am an ao ah ap;generalize ((w.alloc (.cells #[.int .i64 s.P,.slice osa s.A.length csa,.int .i64 s.Q,.slice osb s.B.length csb,.int .i64 s.a,.int .i64 s.b,.slice osl s.L.length csl] 26)).alloc (.cells #[.int .i64 t.P,.slice ota t.A.length cta,.int .i64 t.Q,.slice otb t.B.length ctb,.int .i64 t.a,.int .i64 t.b,.slice otl t.L.length ctl] 26))=w0 at *;refine (E1.out _ S_0.out.l R_0.out.l).mono ?_;rintro e w1 ⟨rfl,hb⟩;have AF_1:=zd AF_0 hb;have T_1:=zh (T_0.out.keep hb);have U_1:=zh (U_0.out.keep hb);have S_1:=zh (S_0.out.keep hb);have R_1:=zh (R_0.out.keep hb);clear hb AF_0 T_0 U_0 S_0 R_0;obtain ⟨aa,ab,ac,ad,ae,af,ag,ah⟩:=T_1.out.z7;obtain ⟨ai,aj,ak,al,am,an,ao,ap⟩:=U_1.out.z7;go_wp2_with fail
                clear aa ab ac ad ae af ag ai aj ak al am an ao ah ap;refine (E2.out _ S_1.out.a R_1.out.a).mono ?_;rintro e w2 ⟨rfl,hb⟩;have AF_2:=zd AF_1 hb;have T_2:=zh (T_1.out.keep hb);have U_2:=zh (U_1.out.keep hb);have S_2:=zh (S_1.out.keep hb);have R_2:=zh (R_1.out.keep hb);clear hb AF_1 T_1 U_1 S_1 R_1;obtain ⟨aa,ab,ac,ad,ae,af,ag,ah⟩:=T_2.out.z7;obtain ⟨ai,aj,ak,al,am,an,ao,ap⟩:=U_2.out.z7;go_wp2_with fail
                clear aa ab ac ad ae af ag ai aj ak al am an ao ah ap;refine (E3.out _ S_2.out.b R_2.out.b).mono ?_;rintro e w3 ⟨rfl,hb⟩;have AF_3:=zd AF_2 hb;have T_3:=zh (T_2.out.keep hb);have U_3:=zh (U_2.out.keep hb);have S_3:=zh (S_2.out.keep hb);have R_3:=zh (R_2.out.keep hb);clear hb AF_2 T_2 U_2 S_2 R_2;obtain ⟨aa,ab,ac,ad,ae,af,ag,ah⟩:=T_3.out.z7;obtain ⟨ai,aj,ak,al,am,an,ao,ap⟩:=U_3.out.z7;go_wp2
                go_ret
                exact ⟨rfl,AF_3.out⟩
          · have k4:(s.Q==t.Q)=false:=by rw [beq_eq_false_iff_ne];exact c4
            rw [zdf c4,Bool.false_and];clear c4 E1 E2 E3
            go_enter Tryz.func19,Tryz.ntmps19
            obtain ⟨aa,ab,ac,ad,ae,af,ag,ah⟩:=T_0.out.z7;obtain ⟨ai,aj,ak,al,am,an,ao,ap⟩:=U_0.out.z7;go_wp2
            go_ret
            exact ⟨rfl,AF_0.out⟩
        · have k3:(s.P==t.P)=false:=by rw [beq_eq_false_iff_ne];exact c3
          rw [zdf c3,Bool.false_and];clear c3 E1 E2 E3
          go_enter Tryz.func19,Tryz.ntmps19
          obtain ⟨aa,ab,ac,ad,ae,af,ag,ah⟩:=T_0.out.z7;obtain ⟨ai,aj,ak,al,am,an,ao,ap⟩:=U_0.out.z7;go_wp2
          go_ret
          exact ⟨rfl,AF_0.out⟩
      · have k2:(s.b==t.b)=false:=by rw [beq_eq_false_iff_ne];exact c2
        rw [zdf c2,Bool.false_and];clear c2 E1 E2 E3
        go_enter Tryz.func19,Tryz.ntmps19
        obtain ⟨aa,ab,ac,ad,ae,af,ag,ah⟩:=T_0.out.z7;obtain ⟨ai,aj,ak,al,am,an,ao,ap⟩:=U_0.out.z7;go_wp2
        go_ret
        exact ⟨rfl,AF_0.out⟩
    · have k1:(s.a==t.a)=false:=by rw [beq_eq_false_iff_ne];exact c1
      rw [zdf c1,Bool.false_and];clear c1 E1 E2 E3
      go_enter Tryz.func19,Tryz.ntmps19
      obtain ⟨aa,ab,ac,ad,ae,af,ag,ah⟩:=T_0.out.z7;obtain ⟨ai,aj,ak,al,am,an,ao,ap⟩:=U_0.out.z7;go_wp2
      go_ret
      exact ⟨rfl,AF_0.out⟩
  · have ke:(e==f)=false:=by rw [beq_eq_false_iff_ne];exact c0
    rw [zdf c0,Bool.false_and];clear c0 E1 E2 E3
    go_enter Tryz.func19,Tryz.ntmps19
    obtain ⟨aa,ab,ac,ad,ae,af,ag,ah⟩:=T_0.out.z7;obtain ⟨ai,aj,ak,al,am,an,ao,ap⟩:=U_0.out.z7;go_wp2
    go_ret
    exact ⟨rfl,AF_0.out⟩
end Go.Proofs.YtmamlgaogpkagaaGreat
