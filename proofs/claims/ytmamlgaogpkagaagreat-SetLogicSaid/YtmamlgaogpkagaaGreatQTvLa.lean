/- TvLa. -/
import Derived.Test.YtmamlgaogpkagaaGreatQLPlain
import Derived.Test.YtmamlgaogpkagaaGreatQLGen
import Derived.Test.YtmamlgaogpkagaaGreatQLSl
import Derived.Test.YtmamlgaogpkagaaGreatQRnKF
import Derived.Test.YtmamlgaogpkagaaGreatQPeKD
import Derived.Test.YtmamlgaogpkagaaGreatQPeKJ
import Derived.Test.YtmamlgaogpkagaaGreatQTsGa
import Derived.Test.YtmamlgaogpkagaaGreatQTvB
import Derived.Test.YtmamlgaogpkagaaGreatQTvI
import Derived.Test.YtmamlgaogpkagaaGreatQTvL
import Derived.StillTailTactics
import Derived.BigQuiet
import Derived.Deep.QuietTactic
import Derived.Laws.EntriesVeiled
namespace Go.Proofs.YtmamlgaogpkagaaGreat
open Go.RowKit
set_option linter.unusedVariables false
set_option linter.unusedSimpArgs false
set_option maxRecDepth 100000 in
set_option maxHeartbeats 4000000 in
theorem tvequal (s t:TS) (va vb vl ua ub ul:Value) (ti:TsI s) (w:World) (h:SS3 w s va vb vl) (k:SS3 w t ua ub ul) :
    Calls Tryz.prog 23 #[.agg #[.int .i64 s.P,va,.int .i64 s.Q,vb,.int .i64 s.a,.int .i64 s.b,vl],.agg #[.int .i64 t.P,ua,.int .i64 t.Q,ub,.int .i64 t.a,.int .i64 t.b,ul]] w fun e w'=>e=.returned (.bool (vsB s&&smT s t))∧Below w.heap.size w w':=by
  obtain ⟨osa,csa,rfl⟩:=prs_shape h.a;obtain ⟨osb,csb,rfl⟩:=prs_shape h.b;obtain ⟨osl,csl,rfl⟩:=prs_shape h.l;obtain ⟨ota,cta,rfl⟩:=prs_shape k.a;obtain ⟨otb,ctb,rfl⟩:=prs_shape k.b;obtain ⟨otl,ctl,rfl⟩:=prs_shape k.l;have AF_0:=zh (grow (grow (here w) (.cells #[.int .i64 s.P,.slice osa s.A.length csa,.int .i64 s.Q,.slice osb s.B.length csb,.int .i64 s.a,.int .i64 s.b,.slice osl s.L.length csl] 26)) (.cells #[.int .i64 t.P,.slice ota t.A.length cta,.int .i64 t.Q,.slice otb t.B.length ctb,.int .i64 t.a,.int .i64 t.b,.slice otl t.L.length ctl] 26));have T_0:=zh ((Bxs.new (w:=w) [.int .i64 s.P,.slice osa s.A.length csa,.int .i64 s.Q,.slice osb s.B.length csb,.int .i64 s.a,.int .i64 s.b,.slice osl s.L.length csl] 26).old (.cells #[.int .i64 t.P,.slice ota t.A.length cta,.int .i64 t.Q,.slice otb t.B.length ctb,.int .i64 t.a,.int .i64 t.b,.slice otl t.L.length ctl] 26));have U_0:=zh (Bxs.snd (w:=w) (o:=(.cells #[.int .i64 s.P,.slice osa s.A.length csa,.int .i64 s.Q,.slice osb s.B.length csb,.int .i64 s.a,.int .i64 s.b,.slice osl s.L.length csl] 26)) [.int .i64 t.P,.slice ota t.A.length cta,.int .i64 t.Q,.slice otb t.B.length ctb,.int .i64 t.a,.int .i64 t.b,.slice otl t.L.length ctl] 26);have S_0:=zh (h.keep AF_0.out);have R_0:=zh (k.keep AF_0.out);have VA:=zh (fun W (h:SS3 W s (.slice osa s.A.length csa) (.slice osb s.B.length csb) (.slice osl s.L.length csl))=>tvvalid s _ _ _ ti W h);have E10:Hid (∀ W,GW s→PairS 0 W (.slice osl s.L.length csl) s.L→PairS 0 W (.slice otl t.L.length ctl) t.L→Calls Tryz.prog 36 #[.slice osl s.L.length csl,.slice otl t.L.length ctl] W fun e w'=>e=.returned (.bool (s.L==t.L))∧Below W.heap.size W w'):=fun W gw h k=>eq_below (eq_pairs s.L t.L _ _ (by have:=gw.len;omega) W h k);have E20:Hid (∀ W,GW s→PairS 0 W (.slice osa s.A.length csa) s.A→PairS 0 W (.slice ota t.A.length cta) t.A→Calls Tryz.prog 70 #[.agg #[.int .i64 s.P,.slice osa s.A.length csa],.agg #[.int .i64 t.P,.slice ota t.A.length cta]] W fun e w'=>e=.returned (.bool (decide (s.P=t.P∧s.A=t.A)))∧Below W.heap.size W w'):=fun W gw h k=>tvsame s.P t.P _ _ s.A t.A (by have:=gw.p.len;omega) W h k;have E30:Hid (∀ W,GW s→PairS 0 W (.slice osb s.B.length csb) s.B→PairS 0 W (.slice otb t.B.length ctb) t.B→Calls Tryz.prog 70 #[.agg #[.int .i64 s.Q,.slice osb s.B.length csb],.agg #[.int .i64 t.Q,.slice otb t.B.length ctb]] W fun e w'=>e=.returned (.bool (decide (s.Q=t.Q∧s.B=t.B)))∧Below W.heap.size W w'):=fun W gw h k=>tvsame s.Q t.Q _ _ s.B t.B (by have:=gw.q.len;omega) W h k;have gl:=vs_ok (s:=s);have sm:smT s t=(decide (s.a=t.a)&&(decide (s.b=t.b)&&((s.L==t.L)&&(decide (s.P=t.P∧s.A=t.A)&&decide (s.Q=t.Q∧s.B=t.B))))):=by
    unfold smT
    rw [Bool.eq_iff_iff]
    simp only [Bool.and_eq_true,decide_eq_true_eq,beq_iff_eq]
    constructor
    · rintro ⟨⟨⟨⟨⟨h1,h2⟩,h3,h4⟩,h5⟩,h6⟩,h7⟩;exact ⟨h5,h6,h7,⟨h1,h2⟩,h3,h4⟩
    · rintro ⟨h5,h6,h7,⟨h1,h2⟩,h3,h4⟩;exact ⟨⟨⟨⟨⟨h1,h2⟩,h3,h4⟩,h5⟩,h6⟩,h7⟩
  rw [sm];clear h k ti sm
  cases v:vsB s
  · rw [v] at VA;rw [Bool.false_and];clear v gl E10 E20 E30
    go_enter Tryz.func23,Tryz.ntmps23
    obtain ⟨aa,ab,ac,ad,ae,af,ag,ah⟩:=T_0.out.z7;obtain ⟨ai,aj,ak,al,am,an,ao,ap⟩:=U_0.out.z7;go_wp2_with fail
    clear aa ab ac ad ae af ag ai aj ak al am an ao ah ap;generalize ((w.alloc (.cells #[.int .i64 s.P,.slice osa s.A.length csa,.int .i64 s.Q,.slice osb s.B.length csb,.int .i64 s.a,.int .i64 s.b,.slice osl s.L.length csl] 26)).alloc (.cells #[.int .i64 t.P,.slice ota t.A.length cta,.int .i64 t.Q,.slice otb t.B.length ctb,.int .i64 t.a,.int .i64 t.b,.slice otl t.L.length ctl] 26))=w0 at *;refine (VA.out _ S_0.out).mono ?_;rintro e w1 ⟨rfl,hb⟩;have AF_1:=zd AF_0 hb;have T_1:=zh (T_0.out.keep hb);have U_1:=zh (U_0.out.keep hb);have S_1:=zh (S_0.out.keep hb);have R_1:=zh (R_0.out.keep hb);clear hb AF_0 T_0 U_0 S_0 R_0;obtain ⟨aa,ab,ac,ad,ae,af,ag,ah⟩:=T_1.out.z7;obtain ⟨ai,aj,ak,al,am,an,ao,ap⟩:=U_1.out.z7;go_wp2
    go_ret
    exact ⟨rfl,AF_1.out⟩
  · rw [v] at VA;rw [Bool.true_and];have gw:=(gl.1 v).g.gw;have E1:=zh (fun W h k=>E10.out W gw h k);have E2:=zh (fun W h k=>E20.out W gw h k);have E3:=zh (fun W h k=>E30.out W gw h k);clear v gl E10 E20 E30 gw
    by_cases c:s.a=t.a
    · have kc:(s.a==t.a)=true:=beq_iff_eq.2 c;rw [zdt c,Bool.true_and];clear c
      by_cases d:s.b=t.b
      · have kd:(s.b==t.b)=true:=beq_iff_eq.2 d;rw [zdt d,Bool.true_and];clear d
        cases q:(s.L==t.L)
        · rw [q] at E1;rw [Bool.false_and];clear q E2 E3
          go_enter Tryz.func23,Tryz.ntmps23
          obtain ⟨aa,ab,ac,ad,ae,af,ag,ah⟩:=T_0.out.z7;obtain ⟨ai,aj,ak,al,am,an,ao,ap⟩:=U_0.out.z7;go_wp2_with fail
          clear aa ab ac ad ae af ag ai aj ak al am an ao ah ap;generalize ((w.alloc (.cells #[.int .i64 s.P,.slice osa s.A.length csa,.int .i64 s.Q,.slice osb s.B.length csb,.int .i64 s.a,.int .i64 s.b,.slice osl s.L.length csl] 26)).alloc (.cells #[.int .i64 t.P,.slice ota t.A.length cta,.int .i64 t.Q,.slice otb t.B.length ctb,.int .i64 t.a,.int .i64 t.b,.slice otl t.L.length ctl] 26))=w0 at *;refine (VA.out _ S_0.out).mono ?_;rintro e w1 ⟨rfl,hb⟩;have AF_1:=zd AF_0 hb;have T_1:=zh (T_0.out.keep hb);have U_1:=zh (U_0.out.keep hb);have S_1:=zh (S_0.out.keep hb);have R_1:=zh (R_0.out.keep hb);clear hb AF_0 T_0 U_0 S_0 R_0;obtain ⟨aa,ab,ac,ad,ae,af,ag,ah⟩:=T_1.out.z7;obtain ⟨ai,aj,ak,al,am,an,ao,ap⟩:=U_1.out.z7;go_wp2_with fail
          clear aa ab ac ad ae af ag ai aj ak al am an ao ah ap;refine (E1.out _ S_1.out.l R_1.out.l).mono ?_;rintro e w2 ⟨rfl,hb⟩;have AF_2:=zd AF_1 hb;have T_2:=zh (T_1.out.keep hb);have U_2:=zh (U_1.out.keep hb);have S_2:=zh (S_1.out.keep hb);have R_2:=zh (R_1.out.keep hb);clear hb AF_1 T_1 U_1 S_1 R_1;obtain ⟨aa,ab,ac,ad,ae,af,ag,ah⟩:=T_2.out.z7;obtain ⟨ai,aj,ak,al,am,an,ao,ap⟩:=U_2.out.z7;go_wp2
          go_ret
          exact ⟨rfl,AF_2.out⟩
        · rw [q] at E1;rw [Bool.true_and];clear q
          cases r:decide (s.P=t.P∧s.A=t.A)
          · rw [r] at E2;rw [Bool.false_and];clear r E3
            go_enter Tryz.func23,Tryz.ntmps23
            obtain ⟨aa,ab,ac,ad,ae,af,ag,ah⟩:=T_0.out.z7;obtain ⟨ai,aj,ak,al,am,an,ao,ap⟩:=U_0.out.z7;go_wp2_with fail
            clear aa ab ac ad ae af ag ai aj ak al am an ao ah ap;generalize ((w.alloc (.cells #[.int .i64 s.P,.slice osa s.A.length csa,.int .i64 s.Q,.slice osb s.B.length csb,.int .i64 s.a,.int .i64 s.b,.slice osl s.L.length csl] 26)).alloc (.cells #[.int .i64 t.P,.slice ota t.A.length cta,.int .i64 t.Q,.slice otb t.B.length ctb,.int .i64 t.a,.int .i64 t.b,.slice otl t.L.length ctl] 26))=w0 at *;refine (VA.out _ S_0.out).mono ?_;rintro e w1 ⟨rfl,hb⟩;have AF_1:=zd AF_0 hb;have T_1:=zh (T_0.out.keep hb);have U_1:=zh (U_0.out.keep hb);have S_1:=zh (S_0.out.keep hb);have R_1:=zh (R_0.out.keep hb);clear hb AF_0 T_0 U_0 S_0 R_0;obtain ⟨aa,ab,ac,ad,ae,af,ag,ah⟩:=T_1.out.z7;obtain ⟨ai,aj,ak,al,am,an,ao,ap⟩:=U_1.out.z7;go_wp2_with fail
            clear aa ab ac ad ae af ag ai aj ak al am an ao ah ap;refine (E1.out _ S_1.out.l R_1.out.l).mono ?_;rintro e w2 ⟨rfl,hb⟩;have AF_2:=zd AF_1 hb;have T_2:=zh (T_1.out.keep hb);have U_2:=zh (U_1.out.keep hb);have S_2:=zh (S_1.out.keep hb);have R_2:=zh (R_1.out.keep hb);clear hb AF_1 T_1 U_1 S_1 R_1;obtain ⟨aa,ab,ac,ad,ae,af,ag,ah⟩:=T_2.out.z7;obtain ⟨ai,aj,ak,al,am,an,ao,ap⟩:=U_2.out.z7;go_wp2_with fail
            clear aa ab ac ad ae af ag ai aj ak al am an ao ah ap;refine (E2.out _ S_2.out.a R_2.out.a).mono ?_;rintro e w3 ⟨rfl,hb⟩;have AF_3:=zd AF_2 hb;have T_3:=zh (T_2.out.keep hb);have U_3:=zh (U_2.out.keep hb);have S_3:=zh (S_2.out.keep hb);have R_3:=zh (R_2.out.keep hb);clear hb AF_2 T_2 U_2 S_2 R_2;obtain ⟨aa,ab,ac,ad,ae,af,ag,ah⟩:=T_3.out.z7;obtain ⟨ai,aj,ak,al,am,an,ao,ap⟩:=U_3.out.z7;go_wp2
            go_ret
            exact ⟨rfl,AF_3.out⟩
          · rw [r] at E2;rw [Bool.true_and];clear r;generalize decide (s.Q=t.Q∧s.B=t.B)=z at *
            go_enter Tryz.func23,Tryz.ntmps23
            obtain ⟨aa,ab,ac,ad,ae,af,ag,ah⟩:=T_0.out.z7;obtain ⟨ai,aj,ak,al,am,an,ao,ap⟩:=U_0.out.z7;go_wp2_with fail
            clear aa ab ac ad ae af ag ai aj ak al am an ao ah ap;generalize ((w.alloc (.cells #[.int .i64 s.P,.slice osa s.A.length csa,.int .i64 s.Q,.slice osb s.B.length csb,.int .i64 s.a,.int .i64 s.b,.slice osl s.L.length csl] 26)).alloc (.cells #[.int .i64 t.P,.slice ota t.A.length cta,.int .i64 t.Q,.slice otb t.B.length ctb,.int .i64 t.a,.int .i64 t.b,.slice otl t.L.length ctl] 26))=w0 at *;refine (VA.out _ S_0.out).mono ?_;rintro e w1 ⟨rfl,hb⟩;have AF_1:=zd AF_0 hb;have T_1:=zh (T_0.out.keep hb);have U_1:=zh (U_0.out.keep hb);have S_1:=zh (S_0.out.keep hb);have R_1:=zh (R_0.out.keep hb);clear hb AF_0 T_0 U_0 S_0 R_0;obtain ⟨aa,ab,ac,ad,ae,af,ag,ah⟩:=T_1.out.z7;obtain ⟨ai,aj,ak,al,am,an,ao,ap⟩:=U_1.out.z7;go_wp2_with fail
            clear aa ab ac ad ae af ag ai aj ak al am an ao ah ap;refine (E1.out _ S_1.out.l R_1.out.l).mono ?_;rintro e w2 ⟨rfl,hb⟩;have AF_2:=zd AF_1 hb;have T_2:=zh (T_1.out.keep hb);have U_2:=zh (U_1.out.keep hb);have S_2:=zh (S_1.out.keep hb);have R_2:=zh (R_1.out.keep hb);clear hb AF_1 T_1 U_1 S_1 R_1;obtain ⟨aa,ab,ac,ad,ae,af,ag,ah⟩:=T_2.out.z7;obtain ⟨ai,aj,ak,al,am,an,ao,ap⟩:=U_2.out.z7;go_wp2_with fail
            clear aa ab ac ad ae af ag ai aj ak al am an ao ah ap;refine (E2.out _ S_2.out.a R_2.out.a).mono ?_;rintro e w3 ⟨rfl,hb⟩;have AF_3:=zd AF_2 hb;have T_3:=zh (T_2.out.keep hb);have U_3:=zh (U_2.out.keep hb);have S_3:=zh (S_2.out.keep hb);have R_3:=zh (R_2.out.keep hb);clear hb AF_2 T_2 U_2 S_2 R_2;obtain ⟨aa,ab,ac,ad,ae,af,ag,ah⟩:=T_3.out.z7;obtain ⟨ai,aj,ak,al,am,an,ao,ap⟩:=U_3.out.z7;go_wp2_with fail
            clear aa ab ac ad ae af ag ai aj ak al am an ao ah ap;refine (E3.out _ S_3.out.b R_3.out.b).mono ?_;rintro e w4 ⟨rfl,hb⟩;have AF_4:=zd AF_3 hb;have T_4:=zh (T_3.out.keep hb);have U_4:=zh (U_3.out.keep hb);have S_4:=zh (S_3.out.keep hb);have R_4:=zh (R_3.out.keep hb);clear hb AF_3 T_3 U_3 S_3 R_3;obtain ⟨aa,ab,ac,ad,ae,af,ag,ah⟩:=T_4.out.z7;obtain ⟨ai,aj,ak,al,am,an,ao,ap⟩:=U_4.out.z7;go_wp2
            go_ret
            exact ⟨rfl,AF_4.out⟩
      · have kd:(s.b==t.b)=false:=by rw [beq_eq_false_iff_ne];exact d
        rw [zdf d,Bool.false_and];clear d E1 E2 E3
        go_enter Tryz.func23,Tryz.ntmps23
        obtain ⟨aa,ab,ac,ad,ae,af,ag,ah⟩:=T_0.out.z7;obtain ⟨ai,aj,ak,al,am,an,ao,ap⟩:=U_0.out.z7;go_wp2_with fail
        clear aa ab ac ad ae af ag ai aj ak al am an ao ah ap;generalize ((w.alloc (.cells #[.int .i64 s.P,.slice osa s.A.length csa,.int .i64 s.Q,.slice osb s.B.length csb,.int .i64 s.a,.int .i64 s.b,.slice osl s.L.length csl] 26)).alloc (.cells #[.int .i64 t.P,.slice ota t.A.length cta,.int .i64 t.Q,.slice otb t.B.length ctb,.int .i64 t.a,.int .i64 t.b,.slice otl t.L.length ctl] 26))=w0 at *;refine (VA.out _ S_0.out).mono ?_;rintro e w1 ⟨rfl,hb⟩;have AF_1:=zd AF_0 hb;have T_1:=zh (T_0.out.keep hb);have U_1:=zh (U_0.out.keep hb);have S_1:=zh (S_0.out.keep hb);have R_1:=zh (R_0.out.keep hb);clear hb AF_0 T_0 U_0 S_0 R_0;obtain ⟨aa,ab,ac,ad,ae,af,ag,ah⟩:=T_1.out.z7;obtain ⟨ai,aj,ak,al,am,an,ao,ap⟩:=U_1.out.z7;go_wp2
        go_ret
        exact ⟨rfl,AF_1.out⟩
    · have kc:(s.a==t.a)=false:=by rw [beq_eq_false_iff_ne];exact c
      rw [zdf c,Bool.false_and];clear c E1 E2 E3
      go_enter Tryz.func23,Tryz.ntmps23
      obtain ⟨aa,ab,ac,ad,ae,af,ag,ah⟩:=T_0.out.z7;obtain ⟨ai,aj,ak,al,am,an,ao,ap⟩:=U_0.out.z7;go_wp2_with fail
      clear aa ab ac ad ae af ag ai aj ak al am an ao ah ap;generalize ((w.alloc (.cells #[.int .i64 s.P,.slice osa s.A.length csa,.int .i64 s.Q,.slice osb s.B.length csb,.int .i64 s.a,.int .i64 s.b,.slice osl s.L.length csl] 26)).alloc (.cells #[.int .i64 t.P,.slice ota t.A.length cta,.int .i64 t.Q,.slice otb t.B.length ctb,.int .i64 t.a,.int .i64 t.b,.slice otl t.L.length ctl] 26))=w0 at *;refine (VA.out _ S_0.out).mono ?_;rintro e w1 ⟨rfl,hb⟩;have AF_1:=zd AF_0 hb;have T_1:=zh (T_0.out.keep hb);have U_1:=zh (U_0.out.keep hb);have S_1:=zh (S_0.out.keep hb);have R_1:=zh (R_0.out.keep hb);clear hb AF_0 T_0 U_0 S_0 R_0;obtain ⟨aa,ab,ac,ad,ae,af,ag,ah⟩:=T_1.out.z7;obtain ⟨ai,aj,ak,al,am,an,ao,ap⟩:=U_1.out.z7;go_wp2
      go_ret
      exact ⟨rfl,AF_1.out⟩
end Go.Proofs.YtmamlgaogpkagaaGreat
