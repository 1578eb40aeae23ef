/- TsGa TsX TsY TsZ. -/
import Derived.Test.YtmamlgaogpkagaaGreatQLPlain
import Derived.Test.YtmamlgaogpkagaaGreatQLGen
import Derived.Test.YtmamlgaogpkagaaGreatQLSl
import Derived.Test.YtmamlgaogpkagaaGreatQRnKF
import Derived.Test.YtmamlgaogpkagaaGreatQPeKD
import Derived.Test.YtmamlgaogpkagaaGreatQPeKI
import Derived.Test.YtmamlgaogpkagaaGreatQPeKJ
import Derived.Test.YtmamlgaogpkagaaGreatQTsI
import Derived.StillTailTactics
namespace Go.Proofs.YtmamlgaogpkagaaGreat
open Go.RowKit
set_option linter.unusedVariables false
set_option linter.unusedSimpArgs false
def smT (s t:TS):Bool:=decide (s.P=t.P)&&decide (s.A=t.A)&&(decide (s.Q=t.Q)&&decide (s.B=t.B))&&decide (s.a=t.a)&&decide (s.b=t.b)&&decide (s.L=t.L)
theorem sm_iff {s t:TS}:smT s t=true↔s=t:=by
 unfold smT
 simp only [Bool.and_eq_true,decide_eq_true_eq]
 constructor
 ·rintro ⟨⟨⟨⟨⟨h1,h2⟩,h3,h4⟩,h5⟩,h6⟩,h7⟩
  cases s;cases t
  simp only at h1 h2 h3 h4 h5 h6 h7
  subst h1 h2 h3 h4 h5 h6 h7;rfl
 ·rintro rfl;exact ⟨⟨⟨⟨⟨rfl,rfl⟩,rfl,rfl⟩,rfl⟩,rfl⟩,rfl⟩
end Go.Proofs.YtmamlgaogpkagaaGreat
namespace Go.Proofs.YtmamlgaogpkagaaGreat
set_option linter.unusedVariables false
set_option linter.unusedSimpArgs false
def smP (s:TS):Prop:=s.P=s.Q∧s.A=s.B
instance (s:TS):Decidable (smP s):=inferInstanceAs (Decidable (_∧_))
structure DfM (s:TS) (M:Int):Prop where
 m0:0<M
 m1:M≤12622780800
 ex:∀ u,∃ y,u≤y∧y<u+M∧hsP s.Q s.B y≠hsP s.P s.A y
theorem per_ne {f g:Int→Bool} {M:Int} (m0:0<M) (pf:Per f M) (pg:Per g M) (ne:f≠g) (u:Int):∃ y,u≤y∧y<u+M∧f y≠g y:=by
 by_cases e:∃ y,u≤y∧y<u+M∧f y≠g y
 ·exact e
 ·refine absurd (funext fun x=>?_) ne;have r0:=Int.emod_nonneg (x - u) (show M≠0 by omega);have r1:=Int.emod_lt_of_pos (x - u) m0;have d:=Int.mul_ediv_add_emod (x - u) M;have e1:=pf.mul (-((x - u) / M)) x;have e2:=pg.mul (-((x - u) / M)) x;rw [← e1,← e2,Int.mul_neg]
  by_cases z:f (x+-(M * ((x - u) / M)))=g (x+-(M * ((x - u) / M)))
  ·exact z
  ·exact absurd ⟨_,by omega,by omega,z⟩ e
theorem df_ex {s:TS} (p:PV s.P s.A) (q:PV s.Q s.B) (e:pqE s.P s.A s.Q s.B=0) (ne:¬ smP s):∃ M,DfM s M:=by
 unfold pqE at e
 rw [if_neg (show ¬ (s.P=s.Q∧s.A=s.B) from ne)] at e;have c:=co_facts (k:=1) (by decide) (by decide) p q e;exact ⟨_,c.m0,c.m1,fun u=>per_ne c.m0 c.qm c.pm (fun h=>ne (pv_ext p q h.symm)) u⟩
theorem df_mirror {s:TS} (h:GW s) {M:Int} (d:DfM s M):DfM (mrT s) M:=by
 refine ⟨d.m0,d.m1,fun u=>?_⟩;obtain ⟨y,y0,y1,y2⟩:=d.ex (-u - M);refine ⟨-1 - y,by omega,by omega,?_⟩
 show hsP s.P (mrL s.A s.P) (-1 - y)≠hsP s.Q (mrL s.B s.Q) (-1 - y)
 rw [mr_hs h.p.p0,mr_hs h.q.p0,show (-1 - (-1 - y):Int)=y by omega];exact fun c=>y2 c.symm
theorem mr_inj {A B:List Sp} {e:Int} (h:mrL A e=mrL B e):A=B:=by
 have h2:=congrArg (fun l=>mrL l e) h;have k:∀ L:List Sp,mrL (mrL L e) e=L:=fun L=>by
  unfold mrL
  rw [List.map_reverse,List.reverse_reverse,List.map_map]
  conv=>rhs;rw [← List.map_id L]
  refine List.map_congr_left fun q _=>?_
  show (e - (e - q.1),e - (e - q.2))=q
  rw [show e - (e - q.1)=q.1 by omega,show e - (e - q.2)=q.2 by omega]
 simp only [k] at h2
 exact h2
theorem sm_mirror {s:TS}:smP (mrT s)↔smP s:=by
 constructor
 ·rintro ⟨a,b⟩;replace a:s.Q=s.P:=a;replace b:mrL s.B s.Q=mrL s.A s.P:=b;rw [a] at b;exact ⟨a.symm,(mr_inj b).symm⟩
 ·rintro ⟨a,b⟩;exact ⟨a.symm,by show mrL s.B s.Q=mrL s.A s.P;rw [a,b]⟩
structure DpR (s:TS) (x:Int) (o:Bool):Prop where
 yes:o=true→s.a≤x∧hsT s x≠hsP s.P s.A x∧(∀ y,s.a≤y→y<x→hsT s y=hsP s.P s.A y)∧(smP s→x<s.b)
 no:o=false→x=0∧smP s∧∀ y,s.a≤y→y<s.b→hsT s y=hsP s.P s.A y
theorem dp_a {s:TS} {x:Int} (h:DpR s x true):EdA (hsT s) (hsP s.P s.A) x:=by
 obtain ⟨a,b,c,d⟩:=h.yes rfl;refine ⟨fun y hy=>?_,b⟩
 by_cases e:y<s.a
 ·exact gv_low e
 ·exact c y (by omega) hy
theorem dp_b {s:TS} (g:GW s) {x:Int} (h:DpR (mrT s) x true):EdB (hsT s) (hsP s.Q s.B) (-x):=by
 have k:=dp_a h;have e:∀ y,hsP (mrT s).P (mrT s).A y=hsP s.Q s.B (-1 - y):=fun y=>mr_hs g.q.p0 y;refine ⟨fun y hy=>?_,?_⟩
 ·have:=k.on (-1 - y) (by omega);rw [mr_has g,e,show (-1 - (-1 - y):Int)=y by omega] at this;exact this
 ·have:=k.no;rw [mr_has g,e] at this;rw [show (-x - 1:Int)=-1 - x by omega];exact this
theorem dp_none {s:TS} (g:Giv s.P s.A s.Q s.B s.a s.b s.L) {x:Int} (h:DpR s x false):frT s.P s.A s.Q s.B (hsT s)=(⟨s.P,s.A,s.P,s.A,0,0,[]⟩,0):=by
 obtain ⟨-,⟨e1,e2⟩,c⟩:=h.no rfl;have f:hsT s=hsP s.P s.A:=funext fun y=>by
  by_cases a:y<s.a
  ·exact gv_low a
  ·by_cases b:y<s.b
   ·exact c y (by omega) b
   ·rw [show hsT s y=hsP s.Q s.B y from gv_high g.le (by omega),e1,e2]
 have k:=fr_pure (P:=s.P) (A:=s.A) f;rw [← e1,← e2];exact k
theorem dp_both {s:TS} (g:GW s) {x z:Int} {o:Bool} (h:DpR s x true) (k:DpR (mrT s) z o):o=true:=by
 cases o
 ·exfalso
  obtain ⟨-,sm,c⟩:=k.no rfl;have sm':=sm_mirror.1 sm;obtain ⟨a,b,-,d⟩:=h.yes rfl;have xb:=d sm';have:=c (-1 - x) (by show -s.b≤_;omega) (by show _ < -s.a;omega);rw [mr_has g,show (-1 - (-1 - x):Int)=x by omega] at this;refine b ?_;rw [this]
  show hsP s.Q (mrL s.B s.Q) (-1 - x)=_
  rw [mr_hs g.q.p0,show (-1 - (-1 - x):Int)=x by omega,sm'.1,sm'.2]
 ·rfl
theorem dp_form {s:TS} (g:Giv s.P s.A s.Q s.B s.a s.b s.L) (e:pqE s.P s.A s.Q s.B=0) {x z:Int} (h:DpR s x true) (k:DpR (mrT s) z true) :
    -z≤4398046511104∧(caL (hsT s) (mnI x (-z)) (-z)).length≤2000 ∧
    frT s.P s.A s.Q s.B (hsT s)=if mnI x (-z) < -4398046511104 then (tsZ,9) else (⟨s.P,s.A,s.Q,s.B,mnI x (-z),-z,caL (hsT s) (mnI x (-z)) (-z)⟩,0):=by
  have gw:=g.gw;have ha:=dp_a h;have hb:=dp_b gw k;have x0:=(h.yes rfl).1;have z0:-s.b≤z:=(k.yes rfl).1;have hi0:=g.hi0;have lo0:=g.lo0;have f:=fr_ends g e ha hb fun _=>⟨x0,by omega⟩;have m:=mnI_le x (-z);have o:=mnI_or x (-z);have em:mnI x (-z)=if x≤-z then x else -z:=by unfold mnI;split <;> split <;> omega
  have el:(if x≤-z then clL s.L x (-z) else [])=caL (hsT s) (mnI x (-z)) (-z):=by
    by_cases c:x < -z
    · rw [if_pos (by omega),cl_ca gw.cn,show mnI x (-z)=x by omega];exact ca_congr fun y y0 y1=>(gv_mid (by omega) (by omega)).symm
    · rw [ca_none _ (by omega)]
      split
      · rw [cl_ca gw.cn,ca_none _ (by omega)]
      · rfl
  refine ⟨by omega,?_,?_⟩
  · rw [← el]
    split
    · have:=cl_len s.L x (-z);have:=gw.len;omega
    · exact Nat.zero_le _
  · rw [show frT s.P s.A s.Q s.B (hsT s)=_ from f,el,← em]
    by_cases c:mnI x (-z) < -4398046511104
    · have n:nvB (mnI x (-z))=false:=by
        cases q:nvB (mnI x (-z))
        · rfl
        · have:=(nvB_iff.1 q).1;omega
      rw [if_pos c,n,Bool.false_and,if_neg (by simp)]
    · rw [if_neg c,if_pos (by rw [nvB_iff.2 ⟨by omega,by omega⟩,nvB_iff.2 ⟨by omega,by omega⟩];rfl)]
def vdB (s:TS):Bool:=if s.a=s.b∧smP s then decide (s.a=0) else (hsT s (s.b - 1) != hsP s.Q s.B (s.b - 1))&&(decide (s.a=s.b) || (hsT s s.a != hsP s.P s.A s.a))
theorem giv_nil {P Q a:Int} {A B L:List Sp} (g:Giv P A Q B a a L):L=[]:=by
  cases L with
  | nil=>rfl
  | cons q L =>
    have:=g.low q (by simp);have:=(vaB_iff.1 g.va).2.2.lt q (by simp);omega
theorem vd_ok {s:TS} (g:Giv s.P s.A s.Q s.B s.a s.b s.L) (e:pqE s.P s.A s.Q s.B=0):vsB s=vdB s:=by
 have gw:=g.gw;have le:=g.le;rw [Bool.eq_iff_iff,vs_ok]
 unfold vdB
 by_cases c:s.a=s.b∧smP s
 ·rw [if_pos c,decide_eq_true_eq];have ln:s.L=[]:=giv_nil (by have:=g;rw [← c.1] at this;exact this);have f:hsT s=hsP s.P s.A:=funext fun y=>by
   by_cases a:y<s.a
   ·exact gv_low a
   ·rw [show hsT s y=hsP s.Q s.B y from gv_high g.le (by omega),c.2.1,c.2.2]
  constructor
  ·intro v;have:=v.pure ⟨c.2.1,c.2.2,f⟩;rw [this]
  ·intro a0;refine ⟨g,?_⟩;have k:=fr_pure (P:=s.P) (A:=s.A) f;have e1:s=⟨s.P,s.A,s.P,s.A,0,0,[]⟩:=by
    obtain ⟨c1,c2,c3⟩:=c
    cases s
    simp only at c1 c2 c3 a0 ln
    subst c2 c3 a0 ln;rw [← c1]
   rw [← c.2.1,← c.2.2]
   conv=>rhs;rw [e1]
   exact k
 ·rw [if_neg c]
  constructor
  ·intro v;have np:¬ (s.P=s.Q∧s.A=s.B∧hsT s=hsP s.P s.A):=fun p=>by
    have k:=v.pure p;exact c ⟨by rw [k],p.1,p.2.1⟩
   obtain ⟨ea,eb,-,⟨a,ha⟩,b,hb⟩:=v.ends np;rw [edB_eq hb] at eb
   unfold loT at ea
   rw [edB_eq hb,edA_eq ha] at ea;have h1:(hsT s (s.b - 1) != hsP s.Q s.B (s.b - 1))=true:=by rw [eb];simpa using hb.no
   rw [h1,Bool.true_and]
   by_cases z:a≤b
   ·rw [if_pos z] at ea;have h2:(hsT s s.a != hsP s.P s.A s.a)=true:=by rw [ea];simpa using ha.no
    rw [h2,Bool.or_true]
   ·rw [if_neg z] at ea;rw [zdt (by omega),Bool.true_or]
  ·intro v;rw [Bool.and_eq_true,Bool.or_eq_true,decide_eq_true_eq] at v;obtain ⟨v1,v2⟩:=v;have hb:EdB (hsT s) (hsP s.Q s.B) s.b:=⟨fun y hy=>gv_high g.le hy,by simpa using v1⟩;have np:¬ (s.P=s.Q∧s.A=s.B∧hsT s=hsP s.P s.A):=fun p=>hb.no (by rw [p.2.2,p.1,p.2.1]);obtain ⟨⟨a,ha⟩,-⟩:=ends_ex g.p g.q (pc_mid _ _ _ g.le) np;have aa:s.a≤a:=by
    by_cases z:s.a≤a
    ·exact z
    ·exact absurd (gv_low (by omega)) ha.no
   have fr:=fr_ends (l:=s.L) g e ha hb fun z=>⟨aa,Int.le_refl _⟩;have na:nvB s.a=true:=nvB_iff.2 ⟨g.lo0,by have:=g.hi0;omega⟩;have nb:nvB s.b=true:=nvB_iff.2 ⟨by have:=g.lo0;omega,g.hi0⟩;refine ⟨g,?_⟩;rw [show frT s.P s.A s.Q s.B (hsT s)=_ from fr]
   by_cases z:s.a=s.b
   ·have ln:s.L=[]:=giv_nil (by have:=g;rw [← z] at this;exact this);have e1:(if a≤s.b then a else s.b)=s.b:=by split <;> omega
    have e2:(if a≤s.b then clL s.L a s.b else [])=[]:=by rw [ln];split <;> rfl
    rw [e1,e2,nb,if_pos (show (true&&true)=true from rfl)];have es:s=⟨s.P,s.A,s.Q,s.B,s.b,s.b,[]⟩:=by
     clear fr e2 e1 nb na aa ha np hb v2 v1 c gw e g le
     cases s
     simp only at z ln
     subst z ln;rfl
    exact congrArg (fun q=>(q,(0:Int))) es.symm
   ·rcases v2 with v2 | v2
    ·exact absurd v2 z
    ·have ha':EdA (hsT s) (hsP s.P s.A) s.a:=⟨fun y hy=>gv_low hy,by simpa using v2⟩;have:=ha.unique ha';subst this;have e2:clL s.L s.a s.b=s.L:=by
      rw [cl_ca gw.cn];exact (ca_eq gw.cn fun y=>by
       cases i:inB s.L y
       ·rw [Bool.and_false]
       ·obtain ⟨q,hq,q1,q2⟩:=inB_iff.1 i;have:=g.low q hq;rw [zdt (by omega),zdt (by omega)];rfl).symm
     rw [if_pos le,if_pos le,na,nb,if_pos (show (true&&true)=true from rfl),e2]
theorem pu_same {s:TS} (v:VS s):puB s=decide (s.a=s.b∧smP s):=by
 rw [Bool.eq_iff_iff,pu_iff,decide_eq_true_eq]
 constructor
 ·rintro ⟨a,b,c,d⟩;exact ⟨by omega,c,d⟩
 ·rintro ⟨a,c,d⟩;have f:hsT s=hsP s.P s.A:=funext fun y=>by
   by_cases z:y<s.a
   ·exact gv_low z
   ·rw [show hsT s y=hsP s.Q s.B y from gv_high v.g.le (by omega),c,d]
  have:=v.pure ⟨c,d,f⟩;exact ⟨by rw [this],by rw [this],c,d⟩
theorem pq_co {P Q:Int} {A B:List Sp} (p:PV P A) (q:PV Q B) (ne:¬ (P=Q∧A=B)):(coR 3 P A Q B).2=pqE P A Q B:=by
 unfold coR pqE
 rw [if_pos (by rw [pv_iff.2 p,pv_iff.2 q];rfl),if_neg ne]
 by_cases e:(prR P Q A.length B.length).2=0
 ·rw [if_pos e,e];have c:=co_facts (k:=3) (by decide) (by decide) p q e
  unfold pfR
  rw [if_neg];have l:=le_lst c.m0 (f:=fun x=>kpB 3 (hsP P A x) (hsP Q B x)) (fun x=>by show kpB _ _ _=kpB _ _ _;rw [c.pm x,c.qm x]);have d:=Int.le_of_dvd c.m0 l.dvd;have m:=len_mono' (fun x=>kpB 3 (hsP P A x) (hsP Q B x)) (a:=0) d;rw [← c.ec] at m;have:=c.lc
  show ¬ 2000<(caL _ 0 _).length
  omega
 ·rw [if_neg e]
noncomputable def paE (P:Int) (A:List Sp) (Q:Int) (B:List Sp):Int:=if pvB P A&&pvB Q B then pqE P A Q B else 1
theorem paE_eq (P:Int) (A:List Sp) (Q:Int) (B:List Sp):paE P A Q B=if (pvB P A&&decide (P=Q)&&(A==B))=true then 0 else (coR 3 P A Q B).2:=by
 unfold paE
 by_cases p:pvB P A=true
 ·by_cases q:pvB Q B=true
  ·rw [if_pos (by rw [p,q];rfl)]
   by_cases e:P=Q∧A=B
   ·rw [if_pos (by rw [p,zdt e.1,beq_iff_eq.2 e.2];rfl)]
    unfold pqE;rw [if_pos e]
   ·rw [if_neg (fun h=>e (by simp only [Bool.and_eq_true,decide_eq_true_eq,beq_iff_eq] at h;exact ⟨h.1.2,h.2⟩))];exact (pq_co (pv_iff.1 p) (pv_iff.1 q) e).symm
  ·have q':pvB Q B=false:=by cases z:pvB Q B <;> simp_all
   rw [if_neg (by rw [q',Bool.and_false];simp)];rw [if_neg (fun h=>by simp only [Bool.and_eq_true,decide_eq_true_eq,beq_iff_eq] at h;obtain ⟨⟨h1,h2⟩,h3⟩:=h;rw [← h2,← h3,p] at q';cases q')]
   unfold coR
   rw [if_neg (by rw [q',Bool.and_false];simp)]
 ·have p':pvB P A=false:=by cases z:pvB P A <;> simp_all
  rw [if_neg (by rw [p',Bool.false_and];simp),if_neg (by rw [p',Bool.false_and,Bool.false_and];simp)]
  unfold coR
  rw [if_neg (by rw [p',Bool.false_and];simp)]
theorem pqE_not1 (P:Int) (A:List Sp) (Q:Int) (B:List Sp):pqE P A Q B=0∨pqE P A Q B=5∨pqE P A Q B=9:=by
 unfold pqE prR
 split
 ·exact Or.inl rfl
 ·split
  ·split
   ·exact Or.inr (Or.inl rfl)
   ·exact Or.inl rfl
  ·exact Or.inr (Or.inr rfl)
theorem paE_cases (P:Int) (A:List Sp) (Q:Int) (B:List Sp):paE P A Q B=0∨paE P A Q B=1∨paE P A Q B=5∨paE P A Q B=9:=by
 unfold paE
 split
 ·have:=pqE_not1 P A Q B;omega
 ·omega
theorem paE_1 {P Q:Int} {A B:List Sp}:paE P A Q B≠1↔PV P A∧PV Q B:=by
 unfold paE
 rw [← pv_iff,← pv_iff,← Bool.and_eq_true]
 by_cases c:(pvB P A&&pvB Q B)=true
 ·rw [if_pos c];have:=pqE_not1 P A Q B;exact ⟨fun _=>c,fun _=>by omega⟩
 ·rw [if_neg c];exact ⟨fun h=>absurd rfl h,fun h=>absurd h c⟩
theorem paE_pq {P Q:Int} {A B:List Sp} (p:PV P A) (q:PV Q B):paE P A Q B=pqE P A Q B:=by
 unfold paE;rw [if_pos (by rw [pv_iff.2 p,pv_iff.2 q];rfl)]
def ilB (l:List Sp) (lo hi:Int):Bool:=nvB lo&&nvB hi&&decide (lo≤hi)&&vaB l&&(decide (l.length=0) || (decide (lo≤(l.getD 0 (0,0)).1)&&decide ((l.getD (l.length - 1) (0,0)).2≤hi)))
theorem giv_il {P Q lo hi:Int} {A B l:List Sp}:Giv P A Q B lo hi l↔paE P A Q B≠1∧ilB l lo hi=true:=by
 rw [← giv_iff,paE_1,← pv_iff,← pv_iff]
 unfold givB ilB
 simp only [Bool.and_eq_true,Bool.or_eq_true,decide_eq_true_eq]
 constructor
 ·rintro ⟨a,b,c,d,e,f,g⟩;exact ⟨⟨d,e⟩,⟨⟨⟨b,c⟩,a⟩,f⟩,g⟩
 ·rintro ⟨⟨d,e⟩,⟨⟨⟨b,c⟩,a⟩,f⟩,g⟩;exact ⟨a,b,c,d,e,f,g⟩
theorem to_eq (P:Int) (A:List Sp) (Q:Int) (B:List Sp) (lo hi:Int) (l:List Sp):toR P A Q B lo hi l=if paE P A Q B=1∨ilB l lo hi=false then (tsZ,1) else if paE P A Q B≠0 then (tsZ,paE P A Q B) else frT P A Q B (gvF P A Q B lo hi l):=by
 unfold toR
 by_cases g:Giv P A Q B lo hi l
 ·obtain ⟨g1,g2⟩:=giv_il.1 g;rw [if_pos (giv_iff.2 g),if_neg (by rintro (h | h);exact g1 h;rw [g2] at h;cases h),paE_pq g.p g.q]
  split
  ·exact fr_pair (by assumption)
  ·rfl
 ·rw [if_neg (fun h=>g (giv_iff.1 h)),if_pos]
  by_cases a:paE P A Q B=1
  ·exact Or.inl a
  ·refine Or.inr ?_
   cases b:ilB l lo hi
   ·rfl
   ·exact absurd (giv_il.2 ⟨a,b⟩) g
theorem vs_eq (s:TS):vsB s=(decide (paE s.P s.A s.Q s.B=0)&&ilB s.L s.a s.b&&vdB s):=by
 by_cases g:Giv s.P s.A s.Q s.B s.a s.b s.L
 ·obtain ⟨g1,g2⟩:=giv_il.1 g;rw [g2,Bool.and_true,paE_pq g.p g.q]
  by_cases e:pqE s.P s.A s.Q s.B=0
  ·rw [zdt e,Bool.true_and];exact vd_ok g e
  ·rw [zdf e,Bool.false_and]
   cases v:vsB s
   ·rfl
   ·exact absurd (vs_ok.1 v).pq e
 ·have v:vsB s=false:=by
   cases v:vsB s
   ·rfl
   ·exact absurd (vs_ok.1 v).g g
  rw [v]
  cases c:(decide (paE s.P s.A s.Q s.B=0)&&ilB s.L s.a s.b)
  ·rfl
  ·rw [Bool.and_eq_true,decide_eq_true_eq] at c;exact absurd (giv_il.2 ⟨by omega,c.2⟩) g
end Go.Proofs.YtmamlgaogpkagaaGreat
namespace Go.Proofs.YtmamlgaogpkagaaGreat
open Go.RowKit
set_option linter.unusedVariables false
set_option linter.unusedSimpArgs false
def TsO (w:World) (R:TS × Int) (e:Ending) (w':World):Prop :=
 (∃ ua ub ul,e=.returned (.tuple #[.agg #[.int .i64 R.1.P,ua,.int .i64 R.1.Q,ub,.int .i64 R.1.a,.int .i64 R.1.b,ul],.int .i64 R.2])∧SS3 w' R.1 ua ub ul)∧Below w.heap.size w w'
theorem TsO.zero {w w':World} (e:Int) (h:Below w.heap.size w w'):TsO w (tsZ,e) (.returned (.tuple #[.agg #[.int .i64 0,.slice none 0 0,.int .i64 0,.slice none 0 0,.int .i64 0,.int .i64 0,.slice none 0 0],.int .i64 e])) w':=⟨⟨_,_,_,rfl,ss3_none _⟩,h⟩
theorem Lies.past {w:World} {b b' off i:Nat} {xs:List Value} (k:Lies w b off xs) (h:b≠b'∨i<off) (u:Value):Lies (w.setCell ⟨b',i,none⟩ u) b off xs:=by
 refine ⟨by rw [size_set];exact k.lt,fun j x hj=>?_⟩;rw [zco (h:=fun e=>by have h1:=congrArg Addr.block e;have h2:=congrArg Addr.off e;simp at h1 h2;omega)];exact k.cell j x hj
theorem two_vals {a b:Value} {o:Option Value} (h:o=some a) (k:o=some b):a=b:=by rw [h] at k;injection k
theorem stray7 {w:World} {v:Value} {L:List Sp} {b:Nat} (h:PairS 0 w v L) (lt:∀ q,q∈L→q.1<q.2) (z:Bxo w b [.int .i64 0,.slice none 0 0,.int .i64 0,.slice none 0 0,.int .i64 0,.int .i64 0,.slice none 0 0]) (u0 u1 u2 u3 u4 u5 u6:Value) :
    PairS 0 (((((((w.setCell ⟨b,0,none⟩ u0).setCell ⟨b,1,none⟩ u1).setCell ⟨b,2,none⟩ u2).setCell ⟨b,3,none⟩ u3).setCell ⟨b,4,none⟩ u4).setCell ⟨b,5,none⟩ u5).setCell ⟨b,6,none⟩ u6) v L:=by
  rcases h with h | ⟨blk,off,c,e,l,k⟩
  · exact .inl h
  · cases L with
    | nil=>exact .inl ⟨rfl,_,_,e⟩
    | cons q L =>
      have c0:=k.cell 0 _ rfl;have c1:=k.cell 1 _ rfl;have q2:=lt q (List.mem_cons_self ..);have away:blk≠b∨6<off:=by
        by_cases e1:blk=b
        · subst e1;refine Or.inr ?_
          by_cases o0:6<off
          · exact o0
          · exfalso
            have cs:off=0∨off=1∨off=2∨off=3∨off=4∨off=5∨off=6:=by omega
            rcases cs with rfl | rfl | rfl | rfl | rfl | rfl | rfl
            · have:=two_vals c1 (z.t.c 1 _ rfl);cases this
            · have:=two_vals c0 (z.t.c 1 _ rfl);cases this
            · have:=two_vals c1 (z.t.c 3 _ rfl);cases this
            · have:=two_vals c0 (z.t.c 3 _ rfl);cases this
            · have h1:=two_vals c0 (z.t.c 4 _ rfl);have h2:=two_vals c1 (z.t.c 5 _ rfl)
              injection h1 with _ h1
              injection h2 with _ h2
              omega
            · have:=two_vals c1 (z.t.c 6 _ rfl);cases this
            · have:=two_vals c0 (z.t.c 6 _ rfl);cases this
        · exact Or.inl e1
      exact .inr ⟨blk,off,c,e,l,((((((k.past (by omega) u0).past (by omega) u1).past (by omega) u2).past (by omega) u3).past (by omega) u4).past (by omega) u5).past (by omega) u6⟩
structure TsL (s:TS):Prop where
 A:∀ q,q∈s.A→q.1<q.2
 B:∀ q,q∈s.B→q.1<q.2
 L:∀ q,q∈s.L→q.1<q.2
theorem tl_zero:TsL tsZ:=⟨fun q h=>(by cases h),fun q h=>(by cases h),fun q h=>(by cases h)⟩
theorem PV.lt {P:Int} {A:List Sp} (h:PV P A):∀ q,q∈A→q.1<q.2:=(vaB_iff.1 h.va).2.2.lt
theorem fr_tl {P Q:Int} {A B:List Sp} (p:PV P A) (q:PV Q B) (f:Int→Bool):TsL (frT P A Q B f).1:=by
 unfold frT
 split
 ·exact tl_zero
 ·split
  ·exact ⟨p.lt,q.lt,fun q h=>(by cases h)⟩
  ·split
   ·exact ⟨p.lt,q.lt,(ca_cn _ _ _).lt⟩
   ·exact tl_zero
theorem to_tl (P:Int) (A:List Sp) (Q:Int) (B:List Sp) (lo hi:Int) (l:List Sp):TsL (toR P A Q B lo hi l).1:=by
 unfold toR
 split
 ·rename_i g
  have:=giv_iff.1 g;exact fr_tl this.p this.q _
 ·exact tl_zero
theorem SS3.stray {w:World} {s:TS} {ua ub ul:Value} {b:Nat} (h:SS3 w s ua ub ul) (lt:TsL s) (z:Bxo w b [.int .i64 0,.slice none 0 0,.int .i64 0,.slice none 0 0,.int .i64 0,.int .i64 0,.slice none 0 0]) (u0 u1 u2 u3 u4 u5 u6:Value) :
    SS3 (((((((w.setCell ⟨b,0,none⟩ u0).setCell ⟨b,1,none⟩ u1).setCell ⟨b,2,none⟩ u2).setCell ⟨b,3,none⟩ u3).setCell ⟨b,4,none⟩ u4).setCell ⟨b,5,none⟩ u5).setCell ⟨b,6,none⟩ u6) s ua ub ul :=
  ⟨stray7 h.a lt.A z _ _ _ _ _ _ _,stray7 h.b lt.B z _ _ _ _ _ _ _,stray7 h.l lt.L z _ _ _ _ _ _ _⟩
end Go.Proofs.YtmamlgaogpkagaaGreat
