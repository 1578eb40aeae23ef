/- PeGEa TsGd. -/
import Derived.Test.YtmamlgaogpkagaaGreatQLPlain
import Derived.Test.YtmamlgaogpkagaaGreatQLGen
import Derived.Test.YtmamlgaogpkagaaGreatQLSl
import Derived.Test.YtmamlgaogpkagaaGreatQPeB
import Derived.Test.YtmamlgaogpkagaaGreatQRnKF
import Derived.Test.YtmamlgaogpkagaaGreatQPeKD
import Derived.Test.YtmamlgaogpkagaaGreatQPeGC
import Derived.Test.YtmamlgaogpkagaaGreatQPeGCb
import Derived.Test.YtmamlgaogpkagaaGreatQPeKJ
import Derived.Deep.RegionWith
import Derived.StillTailTactics
namespace Go.Proofs.YtmamlgaogpkagaaGreat
open Go.RowKit
set_option linter.unusedVariables false
set_option linter.unusedSimpArgs false
theorem least_fm {P:Int} {f:Int→Bool} (P0:0<P) (per:Per f P):leF P (hsP P (caL f 0 P))=(fmP P f).1∧caL (hsP P (caL f 0 P)) 0 (leF P (hsP P (caL f 0 P)))=(fmP P f).2:=by
 have e:hsP P (caL f 0 P)=f:=funext fun x=>ca_hs P0 per x;rw [e];exact ⟨rfl,rfl⟩
structure Lea (P:Int) (f:Int→Bool):Prop where
 le:∀ (v:Value) (L:List Sp) (W:World) {b:Nat},L=caL f 0 P→L.length≤20000→PairS b W v L→Calls Tryz.prog 109 #[.int .i64 P,v] W fun e w'=>(∃ v',e=.returned (.agg #[.int .i64 (fmP P f).1,v'])∧PairS W.heap.size w' v' (fmP P f).2)∧Below W.heap.size W w'
 li:∀ (v:Value) (W:World) {b:Nat},b≤W.heap.size→PairS b W v (fmP P f).2→Calls Tryz.prog 111 #[.agg #[.int .i64 (fmP P f).1,v]] W fun e w'=>(∃ v',e=.returned (.tuple #[.agg #[.int .i64 (pfR P f).1.1,v'],.int .i64 (pfR P f).2])∧PairS b w' v' (pfR P f).1.2)∧Below W.heap.size W w'
theorem lea_of {P:Int} {f:Int→Bool} (P0:0<P) (P1:P≤12622780800) (per:Per f P) (len:(caL f 0 P).length≤20000):Lea P f:=by
 obtain ⟨e1,e2⟩:=least_fm P0 per;refine ⟨fun v L W b e l h=>?_,fun v W b hb h=>?_⟩
 ·subst e;have q:=rpleast v P (caL f 0 P) l (ca_cn f 0 P) (ca_inp f P) P0 P1 W h;rw [e2,e1] at q;exact q
 ·have d:=le_lst P0 per;have dP:=Int.le_of_dvd P0 d.dvd;have l2:(fmP P f).2.length≤20000:=by
   have:=len_mono' f (a:=0) dP
   show (caL f 0 (leF P f)).length≤_
   omega
  have q:=rplimited v (fmP P f).1 (fmP P f).2 (by unfold maxLen;omega) W hb h;rw [lm_pf] at q;exact q
set_option maxRecDepth 100000 in
set_option maxHeartbeats 2000000 in
theorem rtpu (s:TS) (va vb vl:Value) (ti:TsI s) (w:World) (h:SS3 w s va vb vl) :
    Calls Tryz.prog 88 #[.agg #[.int .i64 s.P,va,.int .i64 s.Q,vb,.int .i64 s.a,.int .i64 s.b,vl]] w fun e w'=>e=.returned (.bool (puB s))∧Below w.heap.size w w':=by
  obtain ⟨osa,csa,rfl⟩:=prs_shape h.a;obtain ⟨osb,csb,rfl⟩:=prs_shape h.b;obtain ⟨osl,csl,rfl⟩:=prs_shape h.l;have AF_0:=zh (grow (here w) (.cells #[.int .i64 s.P,.slice osa s.A.length csa,.int .i64 s.Q,.slice osb s.B.length csb,.int .i64 s.a,.int .i64 s.b,.slice osl s.L.length csl] 26));have T_0:=zh (Bxs.new (w:=w) [.int .i64 s.P,.slice osa s.A.length csa,.int .i64 s.Q,.slice osb s.B.length csb,.int .i64 s.a,.int .i64 s.b,.slice osl s.L.length csl] 26);have S_0:=zh (h.keep AF_0.out);have EQ:=zh (fun W (h:PairS 0 W (.slice osa s.A.length csa) s.A) (k:PairS 0 W (.slice osb s.B.length csb) s.B)=>rpequal _ _ s.P s.Q s.A s.B ti.A ti.B W h k)
  unfold puB
  rw [Bool.and_assoc];generalize (decide (s.P=s.Q)&&decide (s.A=s.B))=E at *;clear h
  by_cases c:s.a=0
  · have k:(s.a==0)=true:=beq_iff_eq.2 c;rw [zdt c,Bool.true_and]
    by_cases d:s.b=0
    · have k2:(s.b==0)=true:=beq_iff_eq.2 d;rw [zdt d,Bool.true_and];clear c d ti
      go_enter Tryz.func88,Tryz.ntmps88
      obtain ⟨aa,ab,ac,ad,ae,af,ag,ah⟩:=T_0.out.z7;go_wp2_with fail
      clear aa ab ac ad ae af ag ah;generalize (w.alloc (.cells #[.int .i64 s.P,.slice osa s.A.length csa,.int .i64 s.Q,.slice osb s.B.length csb,.int .i64 s.a,.int .i64 s.b,.slice osl s.L.length csl] 26))=w0 at *;refine (EQ.out _ S_0.out.a S_0.out.b).mono ?_;rintro e w1 ⟨rfl,hb⟩;have AF_1:=zd AF_0 hb;have T_1:=zh (T_0.out.keep hb);have S_1:=zh (S_0.out.keep hb);clear hb AF_0 T_0 S_0;obtain ⟨aa,ab,ac,ad,ae,af,ag,ah⟩:=T_1.out.z7;go_wp2
      go_ret
      exact ⟨rfl,AF_1.out⟩
    · have k2:(s.b==0)=false:=by rw [beq_eq_false_iff_ne];exact d
      rw [zdf d,Bool.false_and];clear c d ti
      go_enter Tryz.func88,Tryz.ntmps88
      obtain ⟨aa,ab,ac,ad,ae,af,ag,ah⟩:=T_0.out.z7;go_wp2
      go_ret
      exact ⟨rfl,AF_0.out⟩
  · have k:(s.a==0)=false:=by rw [beq_eq_false_iff_ne];exact c
    rw [zdf c,Bool.false_and,Bool.false_and];clear c ti
    go_enter Tryz.func88,Tryz.ntmps88
    obtain ⟨aa,ab,ac,ad,ae,af,ag,ah⟩:=T_0.out.z7;go_wp2
    go_ret
    exact ⟨rfl,AF_0.out⟩
end Go.Proofs.YtmamlgaogpkagaaGreat
