/- TsH. -/
import Derived.Test.YtmamlgaogpkagaaGreatZLPlain
import Derived.Test.YtmamlgaogpkagaaGreatZLGen
import Derived.Test.YtmamlgaogpkagaaGreatZLSl
import Derived.Test.YtmamlgaogpkagaaGreatZLOwn
import Derived.Test.YtmamlgaogpkagaaGreatZPeKE
import Derived.Test.YtmamlgaogpkagaaGreatZPeKK
import Derived.Test.YtmamlgaogpkagaaGreatZPeGD
import Derived.Test.YtmamlgaogpkagaaGreatZTsG
import Derived.Test.YtmamlgaogpkagaaGreatZTsE
import Derived.StillTailTactics
namespace Go.Proofs.YtmamlgaogpkagaaGreat
open Go.RowKit
set_option linter.unusedVariables false
set_option linter.unusedSimpArgs false
theorem Bxs.old {w:World} {b:Nat} {us:List Value} (h:Bxs w b us) (o:Obj):Bxs (w.alloc o) b us:=h.keep (grow (here w) o)
theorem Bxs.snd {w:World} {o:Obj} (us:List Value) (t:TypeId):Bxs ((w.alloc o).alloc (.cells us.toArray t)) (w.heap.size+1) us:=by
 have h:=Bxs.new (w:=w.alloc o) us t;rw [size_two] at h;exact h
set_option maxRecDepth 100000 in
set_option maxHeartbeats 4000000 in
theorem rtsame (s t:TS) (va vb vl ua ub ul:Value) (ti:TsI s) (tj:TsI t) (w:World) (h:SS3 w s va vb vl) (k:SS3 w t ua ub ul) :
  Calls Tryz.prog 24 #[.agg #[.int .i64 s.P,va,.int .i64 s.Q,vb,.int .i64 s.a,.int .i64 s.b,vl],.agg #[.int .i64 t.P,ua,.int .i64 t.Q,ub,.int .i64 t.a,.int .i64 t.b,ul]] w fun e w'=>e=.returned (.bool (smT s t))∧Below w.heap.size w w':=by
 obtain ⟨osa,csa,rfl⟩:=prs_shape h.a;obtain ⟨osb,csb,rfl⟩:=prs_shape h.b;obtain ⟨osl,csl,rfl⟩:=prs_shape h.l;obtain ⟨ota,cta,rfl⟩:=prs_shape k.a;obtain ⟨otb,ctb,rfl⟩:=prs_shape k.b;obtain ⟨otl,ctl,rfl⟩:=prs_shape k.l;have ar:=zh (grow (grow (here w) (.cells #[.int .i64 s.P,.slice osa s.A.length csa,.int .i64 s.Q,.slice osb s.B.length csb,.int .i64 s.a,.int .i64 s.b,.slice osl s.L.length csl] 26)) (.cells #[.int .i64 t.P,.slice ota t.A.length cta,.int .i64 t.Q,.slice otb t.B.length ctb,.int .i64 t.a,.int .i64 t.b,.slice otl t.L.length ctl] 26));have T_0:=zh ((Bxs.new (w:=w) [.int .i64 s.P,.slice osa s.A.length csa,.int .i64 s.Q,.slice osb s.B.length csb,.int .i64 s.a,.int .i64 s.b,.slice osl s.L.length csl] 26).old (.cells #[.int .i64 t.P,.slice ota t.A.length cta,.int .i64 t.Q,.slice otb t.B.length ctb,.int .i64 t.a,.int .i64 t.b,.slice otl t.L.length ctl] 26));have U_0:=zh (Bxs.snd (w:=w) (o:=(.cells #[.int .i64 s.P,.slice osa s.A.length csa,.int .i64 s.Q,.slice osb s.B.length csb,.int .i64 s.a,.int .i64 s.b,.slice osl s.L.length csl] 26)) [.int .i64 t.P,.slice ota t.A.length cta,.int .i64 t.Q,.slice otb t.B.length ctb,.int .i64 t.a,.int .i64 t.b,.slice otl t.L.length ctl] 26);have S_0:=zh (h.keep ar.out);have R_0:=zh (k.keep ar.out);have E1:=zh (fun W (h:PairS 0 W (.slice osa s.A.length csa) s.A) (k:PairS 0 W (.slice ota t.A.length cta) t.A)=>rpequal _ _ s.P t.P s.A t.A ti.A tj.A W h k);have E2:=zh (fun W (h:PairS 0 W (.slice osb s.B.length csb) s.B) (k:PairS 0 W (.slice otb t.B.length ctb) t.B)=>rpequal _ _ s.Q t.Q s.B t.B ti.B tj.B W h k);have E3:=zh (fun W (h:PairS 0 W (.slice osl s.L.length csl) s.L) (k:PairS 0 W (.slice otl t.L.length ctl) t.L)=>rnsame _ _ s.L t.L ti.L tj.L W h k)
 unfold smT
 generalize (decide (s.P=t.P)&&decide (s.A=t.A))=d1 at *;generalize (decide (s.Q=t.Q)&&decide (s.B=t.B))=d2 at *;generalize decide (s.L=t.L)=d3 at *;clear h k ti tj
 cases d1
 ·rw [Bool.false_and,Bool.false_and,Bool.false_and,Bool.false_and];clear E2 E3
  go_enter Tryz.func24,Tryz.ntmps24
  refine T_0.out.k7 fun aa ab ac ad ae af ag ah=>?_;refine U_0.out.k7 fun ai aj ak al am an ao ap=>?_;go_wp2_with fail
  clear aa ab ac ad ae af ag ai aj ak al am an ao ah ap;generalize ((w.alloc (.cells #[.int .i64 s.P,.slice osa s.A.length csa,.int .i64 s.Q,.slice osb s.B.length csb,.int .i64 s.a,.int .i64 s.b,.slice osl s.L.length csl] 26)).alloc (.cells #[.int .i64 t.P,.slice ota t.A.length cta,.int .i64 t.Q,.slice otb t.B.length ctb,.int .i64 t.a,.int .i64 t.b,.slice otl t.L.length ctl] 26))=w0 at *;refine (E1.out _ S_0.out.a R_0.out.a).mono ?_;rintro e w1 ⟨rfl,hb⟩;have aq:=zd ar hb;have T_1:=zh (T_0.out.keep hb);have U_1:=zh (U_0.out.keep hb);have S_1:=zh (S_0.out.keep hb);have R_1:=zh (R_0.out.keep hb);clear hb ar T_0 U_0 S_0 R_0;refine T_1.out.k7 fun aa ab ac ad ae af ag ah=>?_;refine U_1.out.k7 fun ai aj ak al am an ao ap=>?_;go_wp2
  go_ret
  exact ⟨rfl,aq.out⟩
 ·rw [Bool.true_and]
  cases d2
  ·rw [Bool.false_and,Bool.false_and,Bool.false_and];clear E3
   go_enter Tryz.func24,Tryz.ntmps24
   refine T_0.out.k7 fun aa ab ac ad ae af ag ah=>?_;refine U_0.out.k7 fun ai aj ak al am an ao ap=>?_;go_wp2_with fail
   clear aa ab ac ad ae af ag ai aj ak al am an ao ah ap;generalize ((w.alloc (.cells #[.int .i64 s.P,.slice osa s.A.length csa,.int .i64 s.Q,.slice osb s.B.length csb,.int .i64 s.a,.int .i64 s.b,.slice osl s.L.length csl] 26)).alloc (.cells #[.int .i64 t.P,.slice ota t.A.length cta,.int .i64 t.Q,.slice otb t.B.length ctb,.int .i64 t.a,.int .i64 t.b,.slice otl t.L.length ctl] 26))=w0 at *;refine (E1.out _ S_0.out.a R_0.out.a).mono ?_;rintro e w1 ⟨rfl,hb⟩;have aq:=zd ar hb;have T_1:=zh (T_0.out.keep hb);have U_1:=zh (U_0.out.keep hb);have S_1:=zh (S_0.out.keep hb);have R_1:=zh (R_0.out.keep hb);clear hb ar T_0 U_0 S_0 R_0;refine T_1.out.k7 fun aa ab ac ad ae af ag ah=>?_;refine U_1.out.k7 fun ai aj ak al am an ao ap=>?_;go_wp2_with fail
   clear aa ab ac ad ae af ag ai aj ak al am an ao ah ap;refine (E2.out _ S_1.out.b R_1.out.b).mono ?_;rintro e w2 ⟨rfl,hb⟩;have au:=zd aq hb;have T_2:=zh (T_1.out.keep hb);have U_2:=zh (U_1.out.keep hb);have S_2:=zh (S_1.out.keep hb);have R_2:=zh (R_1.out.keep hb);clear hb aq T_1 U_1 S_1 R_1;refine T_2.out.k7 fun aa ab ac ad ae af ag ah=>?_;refine U_2.out.k7 fun ai aj ak al am an ao ap=>?_;go_wp2
   go_ret
   exact ⟨rfl,au.out⟩
  ·rw [Bool.true_and]
   by_cases c:s.a=t.a
   ·have kc:(s.a==t.a)=true:=beq_iff_eq.2 c;rw [zdt c,Bool.true_and]
    by_cases d:s.b=t.b
    ·have kd:(s.b==t.b)=true:=beq_iff_eq.2 d;rw [zdt d,Bool.true_and];clear c d
     go_enter Tryz.func24,Tryz.ntmps24
     refine T_0.out.k7 fun aa ab ac ad ae af ag ah=>?_;refine U_0.out.k7 fun ai aj ak al am an ao ap=>?_;go_wp2_with fail
     clear aa ab ac ad ae af ag ai aj ak al am an ao ah ap;generalize ((w.alloc (.cells #[.int .i64 s.P,.slice osa s.A.length csa,.int .i64 s.Q,.slice osb s.B.length csb,.int .i64 s.a,.int .i64 s.b,.slice osl s.L.length csl] 26)).alloc (.cells #[.int .i64 t.P,.slice ota t.A.length cta,.int .i64 t.Q,.slice otb t.B.length ctb,.int .i64 t.a,.int .i64 t.b,.slice otl t.L.length ctl] 26))=w0 at *;refine (E1.out _ S_0.out.a R_0.out.a).mono ?_;rintro e w1 ⟨rfl,hb⟩;have aq:=zd ar hb;have T_1:=zh (T_0.out.keep hb);have U_1:=zh (U_0.out.keep hb);have S_1:=zh (S_0.out.keep hb);have R_1:=zh (R_0.out.keep hb);clear hb ar T_0 U_0 S_0 R_0;refine T_1.out.k7 fun aa ab ac ad ae af ag ah=>?_;refine U_1.out.k7 fun ai aj ak al am an ao ap=>?_;go_wp2_with fail
     clear aa ab ac ad ae af ag ai aj ak al am an ao ah ap;refine (E2.out _ S_1.out.b R_1.out.b).mono ?_;rintro e w2 ⟨rfl,hb⟩;have au:=zd aq hb;have T_2:=zh (T_1.out.keep hb);have U_2:=zh (U_1.out.keep hb);have S_2:=zh (S_1.out.keep hb);have R_2:=zh (R_1.out.keep hb);clear hb aq T_1 U_1 S_1 R_1;refine T_2.out.k7 fun aa ab ac ad ae af ag ah=>?_;refine U_2.out.k7 fun ai aj ak al am an ao ap=>?_;go_wp2_with fail
     clear aa ab ac ad ae af ag ai aj ak al am an ao ah ap;refine (E3.out _ S_2.out.l R_2.out.l).mono ?_;rintro e w3 ⟨rfl,hb⟩;have av:=zd au hb;have T_3:=zh (T_2.out.keep hb);have U_3:=zh (U_2.out.keep hb);have S_3:=zh (S_2.out.keep hb);have R_3:=zh (R_2.out.keep hb);clear hb au T_2 U_2 S_2 R_2;refine T_3.out.k7 fun aa ab ac ad ae af ag ah=>?_;refine U_3.out.k7 fun ai aj ak al am an ao ap=>?_;go_wp2
     go_ret
     exact ⟨rfl,av.out⟩
    ·have kd:(s.b==t.b)=false:=by rw [beq_eq_false_iff_ne];exact d
     rw [zdf d,Bool.false_and];clear c d E3
     go_enter Tryz.func24,Tryz.ntmps24
     refine T_0.out.k7 fun aa ab ac ad ae af ag ah=>?_;refine U_0.out.k7 fun ai aj ak al am an ao ap=>?_;go_wp2_with fail
     clear aa ab ac ad ae af ag ai aj ak al am an ao ah ap;generalize ((w.alloc (.cells #[.int .i64 s.P,.slice osa s.A.length csa,.int .i64 s.Q,.slice osb s.B.length csb,.int .i64 s.a,.int .i64 s.b,.slice osl s.L.length csl] 26)).alloc (.cells #[.int .i64 t.P,.slice ota t.A.length cta,.int .i64 t.Q,.slice otb t.B.length ctb,.int .i64 t.a,.int .i64 t.b,.slice otl t.L.length ctl] 26))=w0 at *;refine (E1.out _ S_0.out.a R_0.out.a).mono ?_;rintro e w1 ⟨rfl,hb⟩;have aq:=zd ar hb;have T_1:=zh (T_0.out.keep hb);have U_1:=zh (U_0.out.keep hb);have S_1:=zh (S_0.out.keep hb);have R_1:=zh (R_0.out.keep hb);clear hb ar T_0 U_0 S_0 R_0;refine T_1.out.k7 fun aa ab ac ad ae af ag ah=>?_;refine U_1.out.k7 fun ai aj ak al am an ao ap=>?_;go_wp2_with fail
     clear aa ab ac ad ae af ag ai aj ak al am an ao ah ap;refine (E2.out _ S_1.out.b R_1.out.b).mono ?_;rintro e w2 ⟨rfl,hb⟩;have au:=zd aq hb;have T_2:=zh (T_1.out.keep hb);have U_2:=zh (U_1.out.keep hb);have S_2:=zh (S_1.out.keep hb);have R_2:=zh (R_1.out.keep hb);clear hb aq T_1 U_1 S_1 R_1;refine T_2.out.k7 fun aa ab ac ad ae af ag ah=>?_;refine U_2.out.k7 fun ai aj ak al am an ao ap=>?_;go_wp2
     go_ret
     exact ⟨rfl,au.out⟩
   ·have kc:(s.a==t.a)=false:=by rw [beq_eq_false_iff_ne];exact c
    rw [zdf c,Bool.false_and,Bool.false_and];clear c E3
    go_enter Tryz.func24,Tryz.ntmps24
    refine T_0.out.k7 fun aa ab ac ad ae af ag ah=>?_;refine U_0.out.k7 fun ai aj ak al am an ao ap=>?_;go_wp2_with fail
    clear aa ab ac ad ae af ag ai aj ak al am an ao ah ap;generalize ((w.alloc (.cells #[.int .i64 s.P,.slice osa s.A.length csa,.int .i64 s.Q,.slice osb s.B.length csb,.int .i64 s.a,.int .i64 s.b,.slice osl s.L.length csl] 26)).alloc (.cells #[.int .i64 t.P,.slice ota t.A.length cta,.int .i64 t.Q,.slice otb t.B.length ctb,.int .i64 t.a,.int .i64 t.b,.slice otl t.L.length ctl] 26))=w0 at *;refine (E1.out _ S_0.out.a R_0.out.a).mono ?_;rintro e w1 ⟨rfl,hb⟩;have aq:=zd ar hb;have T_1:=zh (T_0.out.keep hb);have U_1:=zh (U_0.out.keep hb);have S_1:=zh (S_0.out.keep hb);have R_1:=zh (R_0.out.keep hb);clear hb ar T_0 U_0 S_0 R_0;refine T_1.out.k7 fun aa ab ac ad ae af ag ah=>?_;refine U_1.out.k7 fun ai aj ak al am an ao ap=>?_;go_wp2_with fail
    clear aa ab ac ad ae af ag ai aj ak al am an ao ah ap;refine (E2.out _ S_1.out.b R_1.out.b).mono ?_;rintro e w2 ⟨rfl,hb⟩;have au:=zd aq hb;have T_2:=zh (T_1.out.keep hb);have U_2:=zh (U_1.out.keep hb);have S_2:=zh (S_1.out.keep hb);have R_2:=zh (R_1.out.keep hb);clear hb aq T_1 U_1 S_1 R_1;refine T_2.out.k7 fun aa ab ac ad ae af ag ah=>?_;refine U_2.out.k7 fun ai aj ak al am an ao ap=>?_;go_wp2
    go_ret
    exact ⟨rfl,au.out⟩
noncomputable def gvB (P:Int) (A:List Sp) (Q:Int) (B:List Sp) (lo hi:Int) (l:List Sp):Bool :=
 decide (lo≤hi)&&(nvB lo&&(nvB hi&&(pvB P A&&(pvB Q B&&(vaB l&&(decide (l.length=0) || (decide (lo≤(l.getD 0 (0,0)).1)&&decide ((l.getD (l.length - 1) (0,0)).2≤hi))))))))
theorem gvb_iff {P Q lo hi:Int} {A B l:List Sp}:gvB P A Q B lo hi l=true↔givB P A Q B lo hi l:=by
 unfold gvB givB
 simp only [Bool.and_eq_true,Bool.or_eq_true,decide_eq_true_eq]
set_option maxRecDepth 100000 in
set_option maxHeartbeats 4000000 in
theorem rtgiven (va vb vl:Value) (P Q:Int) (A B l:List Sp) (hA:A.length≤maxLen) (hB:B.length≤maxLen) (hl:l.length≤maxLen) (hP:I64 P) (hQ:I64 Q) (lo hi:Int) (h1:I64 lo) (h2:I64 hi) {ba bb bl:Nat} (w:World) (a:PairS ba w va A) (b:PairS bb w vb B) (pl:PairS bl w vl l) :
  Calls Tryz.prog 64 #[.agg #[.int .i64 P,va],.agg #[.int .i64 Q,vb],.int .i64 lo,.int .i64 hi,vl] w fun e w'=>e=.returned (.bool (gvB P A Q B lo hi l))∧Below w.heap.size w w':=by
 obtain ⟨oa,ca,rfl⟩:=prs_shape a;obtain ⟨ob,cb,rfl⟩:=prs_shape b;obtain ⟨ol,cl,rfl⟩:=prs_shape pl;have ai:=zh (grow (grow (here w) (.cells #[.int .i64 P,.slice oa A.length ca] 24)) (.cells #[.int .i64 Q,.slice ob B.length cb] 24));have T_0:=zh ((Bxs.new (w:=w) [.int .i64 P,.slice oa A.length ca] 24).old (.cells #[.int .i64 Q,.slice ob B.length cb] 24));have U_0:=zh (Bxs.snd (w:=w) (o:=(.cells #[.int .i64 P,.slice oa A.length ca] 24)) [.int .i64 Q,.slice ob B.length cb] 24);have ah:=zh (a.keep ai.out);have aq:=zh (b.keep ai.out);have ar:=zh (pl.keep ai.out);clear a b pl;have L1:=zh (fun W=>rtline lo W);have L2:=zh (fun W=>rtline hi W);have V1:=zh (fun W (h:PairS ba W (.slice oa A.length ca) A)=>rpvalid _ P A hA hP W h);have V2:=zh (fun W (h:PairS bb W (.slice ob B.length cb) B)=>rpvalid _ Q B hB hQ W h);have V3:=zh (fun W (h:PairS bl W (.slice ol l.length cl) l)=>rnvalid _ l hl W h)
 unfold gvB
 generalize nvB lo=n1 at *;generalize nvB hi=n2 at *;generalize pvB P A=p1 at *;generalize pvB Q B=p2 at *;generalize vaB l=v1 at *;have mx:l.length≤9223372036854775807:=hl;clear hA hB hP hQ
 by_cases c:lo≤hi
 ·have kc:decide (hi<lo)=false:=zdf (by omega);rw [zdt c,Bool.true_and];clear c
  cases n1
  ·rw [Bool.false_and]
   go_enter Tryz.func64,Tryz.ntmps64
   refine T_0.out.k2 fun aa ab ac=>?_;refine U_0.out.k2 fun ad ae af=>?_;go_wp2_with fail
   clear aa ab ad ae ac af;generalize ((w.alloc (.cells #[.int .i64 P,.slice oa A.length ca] 24)).alloc (.cells #[.int .i64 Q,.slice ob B.length cb] 24))=w0 at *;refine (L1.out _).mono ?_;rintro e w' ⟨rfl,rfl⟩;refine T_0.out.k2 fun aa ab ac=>?_;refine U_0.out.k2 fun ad ae af=>?_;go_wp2
   go_ret
   exact ⟨rfl,ai.out⟩
  ·rw [Bool.true_and]
   cases n2
   ·rw [Bool.false_and]
    go_enter Tryz.func64,Tryz.ntmps64
    refine T_0.out.k2 fun aa ab ac=>?_;refine U_0.out.k2 fun ad ae af=>?_;go_wp2_with fail
    clear aa ab ad ae ac af;generalize ((w.alloc (.cells #[.int .i64 P,.slice oa A.length ca] 24)).alloc (.cells #[.int .i64 Q,.slice ob B.length cb] 24))=w0 at *;refine (L1.out _).mono ?_;rintro e w' ⟨rfl,rfl⟩;refine T_0.out.k2 fun aa ab ac=>?_;refine U_0.out.k2 fun ad ae af=>?_;go_wp2_with fail
    clear aa ab ad ae ac af;refine (L2.out _).mono ?_;rintro e w' ⟨rfl,rfl⟩;refine T_0.out.k2 fun aa ab ac=>?_;refine U_0.out.k2 fun ad ae af=>?_;go_wp2
    go_ret
    exact ⟨rfl,ai.out⟩
   ·rw [Bool.true_and]
    cases p1
    ·rw [Bool.false_and]
     go_enter Tryz.func64,Tryz.ntmps64
     refine T_0.out.k2 fun aa ab ac=>?_;refine U_0.out.k2 fun ad ae af=>?_;go_wp2_with fail
     clear aa ab ad ae ac af;generalize ((w.alloc (.cells #[.int .i64 P,.slice oa A.length ca] 24)).alloc (.cells #[.int .i64 Q,.slice ob B.length cb] 24))=w0 at *;refine (L1.out _).mono ?_;rintro e w' ⟨rfl,rfl⟩;refine T_0.out.k2 fun aa ab ac=>?_;refine U_0.out.k2 fun ad ae af=>?_;go_wp2_with fail
     clear aa ab ad ae ac af;refine (L2.out _).mono ?_;rintro e w' ⟨rfl,rfl⟩;refine T_0.out.k2 fun aa ab ac=>?_;refine U_0.out.k2 fun ad ae af=>?_;go_wp2_with fail
     clear aa ab ad ae ac af;refine (V1.out _ ah.out).mono ?_;rintro e w1 ⟨rfl,hb⟩;have ak:=zd ai hb;have T_1:=zh (T_0.out.keep hb);have U_1:=zh (U_0.out.keep hb);have al:=zh (ah.out.keep hb);have ag:=zh (aq.out.keep hb);have am:=zh (ar.out.keep hb);clear hb ai T_0 U_0 ah aq ar;refine T_1.out.k2 fun aa ab ac=>?_;refine U_1.out.k2 fun ad ae af=>?_;go_wp2
     go_ret
     exact ⟨rfl,ak.out⟩
    ·rw [Bool.true_and]
     cases p2
     ·rw [Bool.false_and]
      go_enter Tryz.func64,Tryz.ntmps64
      refine T_0.out.k2 fun aa ab ac=>?_;refine U_0.out.k2 fun ad ae af=>?_;go_wp2_with fail
      clear aa ab ad ae ac af;generalize ((w.alloc (.cells #[.int .i64 P,.slice oa A.length ca] 24)).alloc (.cells #[.int .i64 Q,.slice ob B.length cb] 24))=w0 at *;refine (L1.out _).mono ?_;rintro e w' ⟨rfl,rfl⟩;refine T_0.out.k2 fun aa ab ac=>?_;refine U_0.out.k2 fun ad ae af=>?_;go_wp2_with fail
      clear aa ab ad ae ac af;refine (L2.out _).mono ?_;rintro e w' ⟨rfl,rfl⟩;refine T_0.out.k2 fun aa ab ac=>?_;refine U_0.out.k2 fun ad ae af=>?_;go_wp2_with fail
      clear aa ab ad ae ac af;refine (V1.out _ ah.out).mono ?_;rintro e w1 ⟨rfl,hb⟩;have ak:=zd ai hb;have T_1:=zh (T_0.out.keep hb);have U_1:=zh (U_0.out.keep hb);have al:=zh (ah.out.keep hb);have ag:=zh (aq.out.keep hb);have am:=zh (ar.out.keep hb);clear hb ai T_0 U_0 ah aq ar;refine T_1.out.k2 fun aa ab ac=>?_;refine U_1.out.k2 fun ad ae af=>?_;go_wp2_with fail
      clear aa ab ad ae ac af;refine (V2.out _ ag.out).mono ?_;rintro e w2 ⟨rfl,hb⟩;have an:=zd ak hb;have T_2:=zh (T_1.out.keep hb);have U_2:=zh (U_1.out.keep hb);have ao:=zh (al.out.keep hb);have ap:=zh (ag.out.keep hb);have aj:=zh (am.out.keep hb);clear hb ak T_1 U_1 al ag am;refine T_2.out.k2 fun aa ab ac=>?_;refine U_2.out.k2 fun ad ae af=>?_;go_wp2
      go_ret
      exact ⟨rfl,an.out⟩
     ·rw [Bool.true_and]
      cases v1
      ·rw [Bool.false_and]
       go_enter Tryz.func64,Tryz.ntmps64
       refine T_0.out.k2 fun aa ab ac=>?_;refine U_0.out.k2 fun ad ae af=>?_;go_wp2_with fail
       clear aa ab ad ae ac af;generalize ((w.alloc (.cells #[.int .i64 P,.slice oa A.length ca] 24)).alloc (.cells #[.int .i64 Q,.slice ob B.length cb] 24))=w0 at *;refine (L1.out _).mono ?_;rintro e w' ⟨rfl,rfl⟩;refine T_0.out.k2 fun aa ab ac=>?_;refine U_0.out.k2 fun ad ae af=>?_;go_wp2_with fail
       clear aa ab ad ae ac af;refine (L2.out _).mono ?_;rintro e w' ⟨rfl,rfl⟩;refine T_0.out.k2 fun aa ab ac=>?_;refine U_0.out.k2 fun ad ae af=>?_;go_wp2_with fail
       clear aa ab ad ae ac af;refine (V1.out _ ah.out).mono ?_;rintro e w1 ⟨rfl,hb⟩;have ak:=zd ai hb;have T_1:=zh (T_0.out.keep hb);have U_1:=zh (U_0.out.keep hb);have al:=zh (ah.out.keep hb);have ag:=zh (aq.out.keep hb);have am:=zh (ar.out.keep hb);clear hb ai T_0 U_0 ah aq ar;refine T_1.out.k2 fun aa ab ac=>?_;refine U_1.out.k2 fun ad ae af=>?_;go_wp2_with fail
       clear aa ab ad ae ac af;refine (V2.out _ ag.out).mono ?_;rintro e w2 ⟨rfl,hb⟩;have an:=zd ak hb;have T_2:=zh (T_1.out.keep hb);have U_2:=zh (U_1.out.keep hb);have ao:=zh (al.out.keep hb);have ap:=zh (ag.out.keep hb);have aj:=zh (am.out.keep hb);clear hb ak T_1 U_1 al ag am;refine T_2.out.k2 fun aa ab ac=>?_;refine U_2.out.k2 fun ad ae af=>?_;go_wp2_with fail
       clear aa ab ad ae ac af;refine (V3.out _ aj.out).mono ?_;rintro e w3 ⟨rfl,hb⟩;have au:=zd an hb;have T_3:=zh (T_2.out.keep hb);have U_3:=zh (U_2.out.keep hb);have aw:=zh (ao.out.keep hb);have ax:=zh (ap.out.keep hb);have av:=zh (aj.out.keep hb);clear hb an T_2 U_2 ao ap aj;refine T_3.out.k2 fun aa ab ac=>?_;refine U_3.out.k2 fun ad ae af=>?_;go_wp2
       go_ret
       exact ⟨rfl,au.out⟩
      ·rw [Bool.true_and]
       by_cases z:l.length=0
       ·have kz:((l.length:Int)==0)=true:=by rw [beq_iff_eq];omega
        rw [zdt z,Bool.true_or];clear z
        go_enter Tryz.func64,Tryz.ntmps64
        refine T_0.out.k2 fun aa ab ac=>?_;refine U_0.out.k2 fun ad ae af=>?_;go_wp2_with fail
        clear aa ab ad ae ac af;generalize ((w.alloc (.cells #[.int .i64 P,.slice oa A.length ca] 24)).alloc (.cells #[.int .i64 Q,.slice ob B.length cb] 24))=w0 at *;refine (L1.out _).mono ?_;rintro e w' ⟨rfl,rfl⟩;refine T_0.out.k2 fun aa ab ac=>?_;refine U_0.out.k2 fun ad ae af=>?_;go_wp2_with fail
        clear aa ab ad ae ac af;refine (L2.out _).mono ?_;rintro e w' ⟨rfl,rfl⟩;refine T_0.out.k2 fun aa ab ac=>?_;refine U_0.out.k2 fun ad ae af=>?_;go_wp2_with fail
        clear aa ab ad ae ac af;refine (V1.out _ ah.out).mono ?_;rintro e w1 ⟨rfl,hb⟩;have ak:=zd ai hb;have T_1:=zh (T_0.out.keep hb);have U_1:=zh (U_0.out.keep hb);have al:=zh (ah.out.keep hb);have ag:=zh (aq.out.keep hb);have am:=zh (ar.out.keep hb);clear hb ai T_0 U_0 ah aq ar;refine T_1.out.k2 fun aa ab ac=>?_;refine U_1.out.k2 fun ad ae af=>?_;go_wp2_with fail
        clear aa ab ad ae ac af;refine (V2.out _ ag.out).mono ?_;rintro e w2 ⟨rfl,hb⟩;have an:=zd ak hb;have T_2:=zh (T_1.out.keep hb);have U_2:=zh (U_1.out.keep hb);have ao:=zh (al.out.keep hb);have ap:=zh (ag.out.keep hb);have aj:=zh (am.out.keep hb);clear hb ak T_1 U_1 al ag am;refine T_2.out.k2 fun aa ab ac=>?_;refine U_2.out.k2 fun ad ae af=>?_;go_wp2_with fail
        clear aa ab ad ae ac af;refine (V3.out _ aj.out).mono ?_;rintro e w3 ⟨rfl,hb⟩;have au:=zd an hb;have T_3:=zh (T_2.out.keep hb);have U_3:=zh (U_2.out.keep hb);have aw:=zh (ao.out.keep hb);have ax:=zh (ap.out.keep hb);have av:=zh (aj.out.keep hb);clear hb an T_2 U_2 ao ap aj;refine T_3.out.k2 fun aa ab ac=>?_;refine U_3.out.k2 fun ad ae af=>?_;go_wp2
        go_ret
        exact ⟨rfl,au.out⟩
       ·have kz:((l.length:Int)==0)=false:=by rw [beq_eq_false_iff_ne];omega
        rw [zdf z,Bool.false_or];obtain ⟨f0,hf0⟩:∃ f0,(l.getD 0 (0,0)).1=f0:=⟨_,rfl⟩;obtain ⟨g1,hg1⟩:∃ g1,(l.getD (l.length - 1) (0,0)).2=g1:=⟨_,rfl⟩;rw [hf0,hg1];replace hf0:=zh hf0;replace hg1:=zh hg1
        cases t1:decide (lo≤f0)
        ·rw [Bool.false_and];have t2:True:=trivial
         go_enter Tryz.func64,Tryz.ntmps64
         refine T_0.out.k2 fun aa ab ac=>?_;refine U_0.out.k2 fun ad ae af=>?_;go_wp2_with fail
         clear aa ab ad ae ac af;generalize ((w.alloc (.cells #[.int .i64 P,.slice oa A.length ca] 24)).alloc (.cells #[.int .i64 Q,.slice ob B.length cb] 24))=w0 at *;refine (L1.out _).mono ?_;rintro e w' ⟨rfl,rfl⟩;refine T_0.out.k2 fun aa ab ac=>?_;refine U_0.out.k2 fun ad ae af=>?_;go_wp2_with fail
         clear aa ab ad ae ac af;refine (L2.out _).mono ?_;rintro e w' ⟨rfl,rfl⟩;refine T_0.out.k2 fun aa ab ac=>?_;refine U_0.out.k2 fun ad ae af=>?_;go_wp2_with fail
         clear aa ab ad ae ac af;refine (V1.out _ ah.out).mono ?_;rintro e w1 ⟨rfl,hb⟩;have ak:=zd ai hb;have T_1:=zh (T_0.out.keep hb);have U_1:=zh (U_0.out.keep hb);have al:=zh (ah.out.keep hb);have ag:=zh (aq.out.keep hb);have am:=zh (ar.out.keep hb);clear hb ai T_0 U_0 ah aq ar;refine T_1.out.k2 fun aa ab ac=>?_;refine U_1.out.k2 fun ad ae af=>?_;go_wp2_with fail
         clear aa ab ad ae ac af;refine (V2.out _ ag.out).mono ?_;rintro e w2 ⟨rfl,hb⟩;have an:=zd ak hb;have T_2:=zh (T_1.out.keep hb);have U_2:=zh (U_1.out.keep hb);have ao:=zh (al.out.keep hb);have ap:=zh (ag.out.keep hb);have aj:=zh (am.out.keep hb);clear hb ak T_1 U_1 al ag am;refine T_2.out.k2 fun aa ab ac=>?_;refine U_2.out.k2 fun ad ae af=>?_;go_wp2_with fail
         clear aa ab ad ae ac af;refine (V3.out _ aj.out).mono ?_;rintro e w3 ⟨rfl,hb⟩;have au:=zd an hb;have T_3:=zh (T_2.out.keep hb);have U_3:=zh (U_2.out.keep hb);have aw:=zh (ao.out.keep hb);have ax:=zh (ap.out.keep hb);have av:=zh (aj.out.keep hb);clear hb an T_2 U_2 ao ap aj;obtain ⟨b0,off,rfl,bl',cs⟩:=prs_here av.out (show 0<l.length by omega);obtain ⟨c0,c1⟩:=cs 0 (by omega);obtain ⟨e0,e1⟩:=cs (l.length - 1) (by omega);clear cs;obtain ⟨m,hm⟩:∃ m,l.length - 1=m:=⟨_,rfl⟩;rw [hg1.out] at e1;have hm2:(l.length:Int) - 1=m:=by omega
         rw [hm] at e0 e1;rw [Nat.zero_mul,Nat.add_zero,hf0.out] at c0;have mb:m<l.length:=by omega
         clear hm;go_wp2
         go_ret
         exact ⟨rfl,au.out⟩
        ·rw [Bool.true_and]
         cases t2:decide (g1≤hi)
         ·skip
          go_enter Tryz.func64,Tryz.ntmps64
          refine T_0.out.k2 fun aa ab ac=>?_;refine U_0.out.k2 fun ad ae af=>?_;go_wp2_with fail
          clear aa ab ad ae ac af;generalize ((w.alloc (.cells #[.int .i64 P,.slice oa A.length ca] 24)).alloc (.cells #[.int .i64 Q,.slice ob B.length cb] 24))=w0 at *;refine (L1.out _).mono ?_;rintro e w' ⟨rfl,rfl⟩;refine T_0.out.k2 fun aa ab ac=>?_;refine U_0.out.k2 fun ad ae af=>?_;go_wp2_with fail
          clear aa ab ad ae ac af;refine (L2.out _).mono ?_;rintro e w' ⟨rfl,rfl⟩;refine T_0.out.k2 fun aa ab ac=>?_;refine U_0.out.k2 fun ad ae af=>?_;go_wp2_with fail
          clear aa ab ad ae ac af;refine (V1.out _ ah.out).mono ?_;rintro e w1 ⟨rfl,hb⟩;have ak:=zd ai hb;have T_1:=zh (T_0.out.keep hb);have U_1:=zh (U_0.out.keep hb);have al:=zh (ah.out.keep hb);have ag:=zh (aq.out.keep hb);have am:=zh (ar.out.keep hb);clear hb ai T_0 U_0 ah aq ar;refine T_1.out.k2 fun aa ab ac=>?_;refine U_1.out.k2 fun ad ae af=>?_;go_wp2_with fail
          clear aa ab ad ae ac af;refine (V2.out _ ag.out).mono ?_;rintro e w2 ⟨rfl,hb⟩;have an:=zd ak hb;have T_2:=zh (T_1.out.keep hb);have U_2:=zh (U_1.out.keep hb);have ao:=zh (al.out.keep hb);have ap:=zh (ag.out.keep hb);have aj:=zh (am.out.keep hb);clear hb ak T_1 U_1 al ag am;refine T_2.out.k2 fun aa ab ac=>?_;refine U_2.out.k2 fun ad ae af=>?_;go_wp2_with fail
          clear aa ab ad ae ac af;refine (V3.out _ aj.out).mono ?_;rintro e w3 ⟨rfl,hb⟩;have au:=zd an hb;have T_3:=zh (T_2.out.keep hb);have U_3:=zh (U_2.out.keep hb);have aw:=zh (ao.out.keep hb);have ax:=zh (ap.out.keep hb);have av:=zh (aj.out.keep hb);clear hb an T_2 U_2 ao ap aj;obtain ⟨b0,off,rfl,bl',cs⟩:=prs_here av.out (show 0<l.length by omega);obtain ⟨c0,c1⟩:=cs 0 (by omega);obtain ⟨e0,e1⟩:=cs (l.length - 1) (by omega);clear cs;obtain ⟨m,hm⟩:∃ m,l.length - 1=m:=⟨_,rfl⟩;rw [hg1.out] at e1;have hm2:(l.length:Int) - 1=m:=by omega
          rw [hm] at e0 e1;rw [Nat.zero_mul,Nat.add_zero,hf0.out] at c0;have mb:m<l.length:=by omega
          clear hm;go_wp2
          go_ret
          exact ⟨rfl,au.out⟩
         ·skip
          go_enter Tryz.func64,Tryz.ntmps64
          refine T_0.out.k2 fun aa ab ac=>?_;refine U_0.out.k2 fun ad ae af=>?_;go_wp2_with fail
          clear aa ab ad ae ac af;generalize ((w.alloc (.cells #[.int .i64 P,.slice oa A.length ca] 24)).alloc (.cells #[.int .i64 Q,.slice ob B.length cb] 24))=w0 at *;refine (L1.out _).mono ?_;rintro e w' ⟨rfl,rfl⟩;refine T_0.out.k2 fun aa ab ac=>?_;refine U_0.out.k2 fun ad ae af=>?_;go_wp2_with fail
          clear aa ab ad ae ac af;refine (L2.out _).mono ?_;rintro e w' ⟨rfl,rfl⟩;refine T_0.out.k2 fun aa ab ac=>?_;refine U_0.out.k2 fun ad ae af=>?_;go_wp2_with fail
          clear aa ab ad ae ac af;refine (V1.out _ ah.out).mono ?_;rintro e w1 ⟨rfl,hb⟩;have ak:=zd ai hb;have T_1:=zh (T_0.out.keep hb);have U_1:=zh (U_0.out.keep hb);have al:=zh (ah.out.keep hb);have ag:=zh (aq.out.keep hb);have am:=zh (ar.out.keep hb);clear hb ai T_0 U_0 ah aq ar;refine T_1.out.k2 fun aa ab ac=>?_;refine U_1.out.k2 fun ad ae af=>?_;go_wp2_with fail
          clear aa ab ad ae ac af;refine (V2.out _ ag.out).mono ?_;rintro e w2 ⟨rfl,hb⟩;have an:=zd ak hb;have T_2:=zh (T_1.out.keep hb);have U_2:=zh (U_1.out.keep hb);have ao:=zh (al.out.keep hb);have ap:=zh (ag.out.keep hb);have aj:=zh (am.out.keep hb);clear hb ak T_1 U_1 al ag am;refine T_2.out.k2 fun aa ab ac=>?_;refine U_2.out.k2 fun ad ae af=>?_;go_wp2_with fail
          clear aa ab ad ae ac af;refine (V3.out _ aj.out).mono ?_;rintro e w3 ⟨rfl,hb⟩;have au:=zd an hb;have T_3:=zh (T_2.out.keep hb);have U_3:=zh (U_2.out.keep hb);have aw:=zh (ao.out.keep hb);have ax:=zh (ap.out.keep hb);have av:=zh (aj.out.keep hb);clear hb an T_2 U_2 ao ap aj;obtain ⟨b0,off,rfl,bl',cs⟩:=prs_here av.out (show 0<l.length by omega);obtain ⟨c0,c1⟩:=cs 0 (by omega);obtain ⟨e0,e1⟩:=cs (l.length - 1) (by omega);clear cs;obtain ⟨m,hm⟩:∃ m,l.length - 1=m:=⟨_,rfl⟩;rw [hg1.out] at e1;have hm2:(l.length:Int) - 1=m:=by omega
          rw [hm] at e0 e1;rw [Nat.zero_mul,Nat.add_zero,hf0.out] at c0;have mb:m<l.length:=by omega
          clear hm;go_wp2
          go_ret
          exact ⟨rfl,au.out⟩
 ·have kc:decide (hi<lo)=true:=zdt (by omega);rw [zdf c,Bool.false_and];clear c
  go_enter Tryz.func64,Tryz.ntmps64
  refine T_0.out.k2 fun aa ab ac=>?_;refine U_0.out.k2 fun ad ae af=>?_;go_wp2
  go_ret
  exact ⟨rfl,ai.out⟩
end Go.Proofs.YtmamlgaogpkagaaGreat
