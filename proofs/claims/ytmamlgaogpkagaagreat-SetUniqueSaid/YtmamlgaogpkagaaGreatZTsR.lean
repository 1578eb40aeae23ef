/- TsR TsW TsU. -/
import Derived.Test.YtmamlgaogpkagaaGreatZLPlain
import Derived.Test.YtmamlgaogpkagaaGreatZLGen
import Derived.Test.YtmamlgaogpkagaaGreatZRnP
import Derived.Test.YtmamlgaogpkagaaGreatZPeR
import Derived.Test.YtmamlgaogpkagaaGreatZPeT
import Derived.Test.YtmamlgaogpkagaaGreatZPeKE
import Derived.Test.YtmamlgaogpkagaaGreatZPeKJ
import Derived.Test.YtmamlgaogpkagaaGreatZPeKK
import Derived.Test.YtmamlgaogpkagaaGreatZPeGD
namespace Go.Proofs.YtmamlgaogpkagaaGreat
open Go.RowKit
set_option linter.unusedVariables false
set_option linter.unusedSimpArgs false
def puB (s:TS):Bool:=decide (s.a=0)&&decide (s.b=0)&&decide (s.P=s.Q)&&decide (s.A=s.B)
theorem pu_iff {s:TS}:puB s=true↔s.a=0∧s.b=0∧s.P=s.Q∧s.A=s.B:=by
 unfold puB
 simp only [Bool.and_eq_true,decide_eq_true_eq,and_assoc]
theorem pu_has {s:TS} (h:puB s=true) (x:Int):hsT s x=hsP s.P s.A x∧hsT s x=hsP s.Q s.B x:=by
 obtain ⟨a,b,c,d⟩:=pu_iff.1 h;have e:hsT s x=hsP s.P s.A x:=by
  show (if x<s.a then _ else if x<s.b then _ else hsP s.Q s.B x)=_
  rw [a,b,← c,← d]
  split
  ·rfl
  ·rfl
 exact ⟨e,by rw [e,c,d]⟩
theorem hs_low {s:TS} {x:Int} (h:x<s.a):hsT s x=hsP s.P s.A x:=gv_low h
theorem hs_high {s:TS} (le:s.a≤s.b) {x:Int} (h:s.b≤x):hsT s x=hsP s.Q s.B x:=gv_high le h
def wnT (s t:TS):Int × Int:=if puB s then (t.a,t.b) else if puB t then (s.a,s.b) else (if t.a<s.a then t.a else s.a,if s.b<t.b then t.b else s.b)
theorem wn_ok2 {s t:TS} (hs:VS s) (ht:VS t):(wnT s t).1≤(wnT s t).2∧-4398046511104≤(wnT s t).1∧(wnT s t).2≤4398046511104∧(∀ x,x<(wnT s t).1→hsT s x=hsP s.P s.A x∧hsT t x=hsP t.P t.A x)∧∀ x,(wnT s t).2≤x→hsT s x=hsP s.Q s.B x∧hsT t x=hsP t.Q t.B x:=by
 have gs:=hs.g;have gt:=ht.g;have l1:=gs.le;have l2:=gt.le;have b1:=gs.lo0;have b2:=gs.hi0;have b3:=gt.lo0;have b4:=gt.hi0
 unfold wnT
 by_cases p:puB s=true
 ·rw [if_pos p];exact ⟨l2,b3,b4,fun x hx=>⟨(pu_has p x).1,hs_low hx⟩,fun x hx=>⟨(pu_has p x).2,hs_high l2 hx⟩⟩
 ·rw [if_neg p]
  by_cases q:puB t=true
  ·rw [if_pos q];exact ⟨l1,b1,b2,fun x hx=>⟨hs_low hx,(pu_has q x).1⟩,fun x hx=>⟨hs_high l1 hx,(pu_has q x).2⟩⟩
  ·rw [if_neg q];refine ⟨by show (if t.a<s.a then t.a else s.a)≤(if s.b<t.b then t.b else s.b);split <;> split <;> omega,by show _≤(if t.a<s.a then t.a else s.a);split <;> omega,by show (if s.b<t.b then t.b else s.b)≤_;split <;> omega,fun x hx=>?_,fun x hx=>?_⟩
   ·have hx':x<(if t.a<s.a then t.a else s.a):=hx;exact ⟨hs_low (by split at hx' <;> omega),hs_low (by split at hx' <;> omega)⟩
   ·have hx':(if s.b<t.b then t.b else s.b)≤x:=hx;exact ⟨hs_high l1 (by split at hx' <;> omega),hs_high l2 (by split at hx' <;> omega)⟩
noncomputable def cbT (k:Int) (s t:TS):TS × Int :=
 if (vsB s&&vsB t)=false then (tsZ,1)
 else if (coR k s.P s.A t.P t.A).2≠0 then (tsZ,(coR k s.P s.A t.P t.A).2)
 else if (coR k s.Q s.B t.Q t.B).2≠0 then (tsZ,(coR k s.Q s.B t.Q t.B).2)
 else if pqE (coR k s.P s.A t.P t.A).1.1 (coR k s.P s.A t.P t.A).1.2 (coR k s.Q s.B t.Q t.B).1.1 (coR k s.Q s.B t.Q t.B).1.2≠0 then (tsZ,pqE (coR k s.P s.A t.P t.A).1.1 (coR k s.P s.A t.P t.A).1.2 (coR k s.Q s.B t.Q t.B).1.1 (coR k s.Q s.B t.Q t.B).1.2)
 else if 2000<(caL (hsT s) (wnT s t).1 (wnT s t).2).length+(caL (hsT t) (wnT s t).1 (wnT s t).2).length then (tsZ,5)
 else frT (coR k s.P s.A t.P t.A).1.1 (coR k s.P s.A t.P t.A).1.2 (coR k s.Q s.B t.Q t.B).1.1 (coR k s.Q s.B t.Q t.B).1.2 (fun x=>kpB k (hsT s x) (hsT t x))
theorem pc_congr {g m m' h f:Int→Bool} {lo hi:Int} (low:∀ x,x<lo→f x=g x) (mid:∀ x,lo≤x→x<hi→f x=m x) (high:∀ x,hi≤x→f x=h x) (le:lo≤hi):pcS g m h lo hi=f:=funext fun x=>by
 unfold pcS
 by_cases a:x<lo
 ·rw [if_pos a,low x a]
 ·rw [if_neg a]
  by_cases b:x<hi
  ·rw [if_pos b,mid x (by omega) b]
  ·rw [if_neg b,high x (by omega)]
theorem cb_giv {k:Int} (k1:1≤k) (k3:k≤3) {s t:TS} (hs:VS s) (ht:VS t) (e1:(coR k s.P s.A t.P t.A).2=0) (e2:(coR k s.Q s.B t.Q t.B).2=0) (few:(caL (hsT s) (wnT s t).1 (wnT s t).2).length+(caL (hsT t) (wnT s t).1 (wnT s t).2).length≤2000) :
  Giv (coR k s.P s.A t.P t.A).1.1 (coR k s.P s.A t.P t.A).1.2 (coR k s.Q s.B t.Q t.B).1.1 (coR k s.Q s.B t.Q t.B).1.2 (wnT s t).1 (wnT s t).2 (caL (fun x=>kpB k (hsT s x) (hsT t x)) (wnT s t).1 (wnT s t).2) ∧
  gvF (coR k s.P s.A t.P t.A).1.1 (coR k s.P s.A t.P t.A).1.2 (coR k s.Q s.B t.Q t.B).1.1 (coR k s.Q s.B t.Q t.B).1.2 (wnT s t).1 (wnT s t).2 (caL (fun x=>kpB k (hsT s x) (hsT t x)) (wnT s t).1 (wnT s t).2)=fun x=>kpB k (hsT s x) (hsT t x):=by
 obtain ⟨w1,w2,w3,w4,w5⟩:=wn_ok2 hs ht;obtain ⟨-,-,pl,fl⟩:=co_ok k1 k3 e1;obtain ⟨-,-,pr,fr⟩:=co_ok k1 k3 e2;have len:=len_comb k1 k3 (hsT s) (hsT t) (wnT s t).1 ((wnT s t).2 - (wnT s t).1).toNat;rw [show (wnT s t).1+((((wnT s t).2 - (wnT s t).1).toNat:Nat):Int)=(wnT s t).2 by omega] at len;refine ⟨⟨pl,pr,w1,w2,w3,vaB_iff.2 ⟨by omega,fun p hp=>by have:=ca_ends _ _ _ p hp;omega,ca_cn _ _ _⟩,fun p hp=>ca_ends _ _ _ p hp⟩,?_⟩;refine pc_congr (m':=fun _=>true) (fun x hx=>?_) (fun x h1 h2=>?_) (fun x hx=>?_) w1
 ·rw [fl,(w4 x hx).1,(w4 x hx).2]
 ·rw [ca_in,zdt h1,zdt h2];rfl
 ·rw [fr,(w5 x hx).1,(w5 x hx).2]
end Go.Proofs.YtmamlgaogpkagaaGreat
namespace Go.Proofs.YtmamlgaogpkagaaGreat
set_option linter.unusedVariables false
set_option linter.unusedSimpArgs false
structure NxV (f:Int→Bool) (x n:Int):Prop where
 lt:x<n
 on:∀ y,x≤y→y<n→f y=f x
abbrev farI:Int:=9223372036854775807
theorem NxV.congr {f g:Int→Bool} {x n m:Int} (h:NxV f x n) (mn:m≤n) (xm:x<m) (e:∀ y,x≤y→y<m→g y=f y):NxV g x m :=
 ⟨xm,fun y a b=>by rw [e y a b,e x (Int.le_refl x) xm];exact h.on y a (by omega)⟩
def mnI (a b:Int):Int:=if b<a then b else a
theorem mnI_le (a b:Int):mnI a b≤a∧mnI a b≤b:=by unfold mnI;split <;> omega
theorem mn_min (a b:Int):min a b=mnI a b:=by unfold mnI;split <;> omega
theorem mnI_or (a b:Int):mnI a b=a∨mnI a b=b:=by unfold mnI;split <;> omega
def nxL (L:List Sp) (x:Int):Int:=if fdN L x=L.length then farI else if x<(L.getD (fdN L x) (0,0)).1 then (L.getD (fdN L x) (0,0)).1 else (L.getD (fdN L x) (0,0)).2
theorem nxL_ok {L:List Sp} (c:Cn L) {x:Int} (xf:x<farI):NxV (inB L) x (nxL L x):=by
 have key:∀ y,x≤y→y<nxL L x→fdN L y=fdN L x:=fun y a b=>by
  refine (fd_eq c (fd_le L x) (fun j hj=>?_) (fun j hj hl=>?_)).symm
  ·have:=(fd_iff c (x:=x) (j:=j) (by have:=fd_le L x;omega)).2 hj;omega
  ·have h1:¬ (L.getD (fdN L x) (0,0)).2≤y:=by
    unfold nxL at b
    rw [if_neg (by omega)] at b;have:=c.lt _ (getD_mem (L:=L) (j:=fdN L x) (by omega))
    split at b <;> omega
   have h2:=(cn_lo c hj hl).2;omega
 have lt:x<nxL L x:=by
  unfold nxL
  by_cases e:fdN L x=L.length
  ·rw [if_pos e];exact xf
  ·rw [if_neg e];have hl:fdN L x<L.length:=by have:=fd_le L x;omega
   have h3:¬ (L.getD (fdN L x) (0,0)).2≤x:=fun h=>Nat.lt_irrefl _ ((fd_iff c (x:=x) hl).1 h)
   split <;> omega
 refine ⟨lt,fun y a b=>?_⟩;rw [← fd_in c y,← fd_in c x]
 unfold fdH
 rw [key y a b]
 unfold nxL at b
 by_cases e:fdN L x=L.length
 ·rw [e];simp
 ·rw [if_neg e] at b
  split at b
  ·rw [zdf (p:=(L.getD (fdN L x) (0,0)).1≤y) (by omega),zdf (p:=(L.getD (fdN L x) (0,0)).1≤x) (by omega)]
  ·rw [zdt (p:=(L.getD (fdN L x) (0,0)).1≤y) (by omega),zdt (p:=(L.getD (fdN L x) (0,0)).1≤x) (by omega)]
def nxP (P:Int) (A:List Sp) (x:Int):Int:=if P=1 then farI else x - x % P+mnI (nxL A (x % P)) P
theorem nxP_ok {P:Int} {A:List Sp} (p0:1≤P) (p1:P≤12622780800) (c:Cn A) {x:Int} (xf:x<farI):NxV (hsP P A) x (nxP P A x):=by
 by_cases e:P=1
 ·subst e
  unfold nxP;rw [if_pos rfl]
  exact ⟨xf,fun y _ _=>by unfold hsP;rw [Int.emod_one,Int.emod_one]⟩
 ·unfold nxP;rw [if_neg e]
  have r0:=Int.emod_nonneg x (show P≠0 by omega);have r1:=Int.emod_lt_of_pos x (show 0<P by omega);have h:=nxL_ok c (x:=x % P) (show _<farI by unfold farI;omega);have hl:=h.lt;have m:=mnI_le (nxL A (x % P)) P;have o:=mnI_or (nxL A (x % P)) P;refine ⟨by omega,fun y a b=>?_⟩;have ey:y % P=y - (x - x % P):=by
   have d:P * (x / P)=x - x % P:=by have:=Int.mul_ediv_add_emod x P;omega
   rw [← d];have:y=(y - P * (x / P))+P * (x / P):=by omega
   conv=>lhs;rw [this]
   rw [Int.add_mul_emod_self_left];exact Int.emod_eq_of_lt (by omega) (by omega)
  show inB A (y % P)=inB A (x % P)
  rw [ey];exact h.on _ (by omega) (by omega)
structure PW (P:Int) (A:List Sp):Prop where
 p0:1≤P
 p1:P≤12622780800
 cn:Cn A
 ip:InP P A
 len:A.length≤2000
 var:P≠1→∀ u,∃ y,u≤y∧y<u+P∧hsP P A y≠hsP P A u
theorem per_all {f:Int→Bool} {P u:Int} (P0:0<P) (per:Per f P) (h:∀ y,u≤y→y<u+P→f y=f u):∀ x,f x=f u:=fun x=>by
 have r0:=Int.emod_nonneg (x - u) (show P≠0 by omega);have r1:=Int.emod_lt_of_pos (x - u) P0;have e:=per.mul (-((x - u) / P)) x;have d:=Int.mul_ediv_add_emod (x - u) P;rw [← e,Int.mul_neg];exact h _ (by omega) (by omega)
theorem PV.pw {P:Int} {A:List Sp} (h:PV P A):PW P A:=by
 have p0:=h.p0;refine ⟨h.p0,h.p1,(vaB_iff.1 h.va).2.2,h.ip,(vaB_iff.1 h.va).1,fun ne u=>?_⟩
 by_cases e:∃ y,u≤y∧y<u+P∧hsP P A y≠hsP P A u
 ·exact e
 ·have all:=per_all (f:=hsP P A) (u:=u) (show 0<P by omega) hs_per fun y a b=>by
   by_cases z:hsP P A y=hsP P A u
   ·exact z
   ·exact absurd ⟨y,a,b,z⟩ e
  have d:=h.ls.dvd_of (e:=1) (by omega) fun x=>by rw [all (x+1),all x]
  have:=Int.le_of_dvd (by omega) d;omega
def mrL (L:List Sp) (e:Int):List Sp:=(L.map fun q=>(e - q.2,e - q.1)).reverse
theorem mr_len (L:List Sp) (e:Int):(mrL L e).length=L.length:=by simp [mrL]
theorem mr_cons (q:Sp) (L:List Sp) (e:Int):mrL (q :: L) e=mrL L e++[(e - q.2,e - q.1)]:=by simp [mrL]
theorem mr_mem {L:List Sp} {e:Int} {q:Sp}:q∈mrL L e↔∃ p,p∈L∧(e - p.2,e - p.1)=q:=by simp [mrL]
theorem mr_in (e x:Int):∀ L:List Sp,inB (mrL L e) x=inB L (e - 1 - x)
  | []=>rfl
  | q :: L=>by
    rw [mr_cons,inB_app,mr_in e x L,inB_one,inB_cons,Bool.or_comm]
    congr 1
    rw [Bool.and_comm]
    congr 1
    · exact decide_eq_decide.2 (by constructor <;> (intro h;omega))
    · exact decide_eq_decide.2 (by constructor <;> (intro h;omega))
theorem cn_after:∀ {q:Sp} {L:List Sp},Cn (q :: L)→∀ p,p∈L→q.2<p.1:=fun {q L} h p hp=>by
 obtain ⟨j,hj,rfl⟩:=mem_getD hp;have:=cn_gt (L:=q :: L) (j:=0) (k:=j+1) h (by omega) (by simp;omega);rw [getD_zero,getD_succ] at this;exact this
theorem cn_tail {q:Sp} {L:List Sp} (h:Cn (q :: L)):Cn L:=cn_drop 1 h
theorem cn_single {q:Sp} (h:q.1<q.2):Cn [q]:=by
 have:=cn_of (L:=[q]) (fun p hp=>by simp at hp;subst hp;exact h) rfl;exact this
theorem mr_cn (e:Int):∀ {L:List Sp},Cn L→Cn (mrL L e)
  | [],h=>h
  | q :: L,h=>by
    rw [mr_cons];refine cn_app (mr_cn e (cn_tail h)) (cn_single ?_) fun p hp r hr=>?_
    · have:=h.lt q (List.mem_cons_self ..);show e - q.2<e - q.1;omega
    · obtain ⟨s,hs,rfl⟩:=mr_mem.1 hp
      simp at hr;subst hr
      have:=cn_after h s hs
      show e - s.1<e - q.2;omega
theorem mr_ip {P:Int} {A:List Sp} (h:InP P A):InP P (mrL A P):=fun q hq=>by
 obtain ⟨s,hs,rfl⟩:=mr_mem.1 hq;have:=h s hs
 show 0≤P - s.2∧P - s.1≤P;omega
theorem mr_ln {L:List Sp} (h:Ln L):Ln (mrL L 0):=fun q hq=>by
 obtain ⟨s,hs,rfl⟩:=mr_mem.1 hq;have:=h s hs
 show -4398046511104≤0 - s.2∧0 - s.1≤4398046511104;omega
theorem mr_hs {P:Int} {A:List Sp} (p0:1≤P) (x:Int):hsP P (mrL A P) x=hsP P A (-1 - x):=by
 unfold hsP
 rw [mr_in]
 congr 1
 have r0:=Int.emod_nonneg x (show P≠0 by omega);have r1:=Int.emod_lt_of_pos x (show 0<P by omega);have d:=Int.mul_ediv_add_emod x P;rw [show (-1 - x:Int)=(P - 1 - x % P)+P * (-(x / P) - 1) by rw [Int.mul_sub,Int.mul_neg];omega,Int.add_mul_emod_self_left];exact (Int.emod_eq_of_lt (by omega) (by omega)).symm
theorem PW.mirror {P:Int} {A:List Sp} (h:PW P A):PW P (mrL A P):=by
 have p0:=h.p0;refine ⟨h.p0,h.p1,mr_cn P h.cn,mr_ip h.ip,by rw [mr_len];exact h.len,fun ne u=>?_⟩
 by_cases e:∃ y,u≤y∧y<u+P∧hsP P (mrL A P) y≠hsP P (mrL A P) u
 ·exact e
 ·have all:=per_all (f:=hsP P (mrL A P)) (u:=u) (show 0<P by omega) hs_per fun y a b=>by
   by_cases z:hsP P (mrL A P) y=hsP P (mrL A P) u
   ·exact z
   ·exact absurd ⟨y,a,b,z⟩ e
  obtain ⟨y,-,-,no⟩:=h.var ne 0;refine absurd ?_ no;have h1:=mr_hs (A:=A) h.p0 (-1 - y);have h2:=mr_hs (A:=A) h.p0 (-1 - 0);rw [all] at h1 h2;rw [show (-1 - (-1 - y):Int)=y by omega] at h1;rw [show (-1 - (-1 - 0):Int)=0 by omega] at h2;rw [← h1,← h2]
structure GW (s:TS):Prop where
 p:PW s.P s.A
 q:PW s.Q s.B
 le:s.a≤s.b
 lo0:-4398046511104≤s.a
 hi0:s.b≤4398046511104
 cn:Cn s.L
 ln:Ln s.L
 len:s.L.length≤2000
theorem Giv.gw {s:TS} (h:Giv s.P s.A s.Q s.B s.a s.b s.L):GW s :=
 ⟨h.p.pw,h.q.pw,h.le,h.lo0,h.hi0,(vaB_iff.1 h.va).2.2,(vaB_iff.1 h.va).2.1,(vaB_iff.1 h.va).1⟩
def mrT (s:TS):TS:=⟨s.Q,mrL s.B s.Q,s.P,mrL s.A s.P,-s.b,-s.a,mrL s.L 0⟩
theorem GW.mirror {s:TS} (h:GW s):GW (mrT s):=by
 have a:=h.le;have b:=h.lo0;have c:=h.hi0;exact ⟨h.q.mirror,h.p.mirror,(by show -s.b≤-s.a;omega),(by show _≤-s.b;omega),(by show -s.a≤_;omega),mr_cn 0 h.cn,mr_ln h.ln,(by show (mrL s.L 0).length≤_;rw [mr_len];exact h.len)⟩
theorem mr_has {s:TS} (h:GW s) (x:Int):hsT (mrT s) x=hsT s (-1 - x):=by
 have a:=h.le
 show pcS (hsP s.Q (mrL s.B s.Q)) (inB (mrL s.L 0)) (hsP s.P (mrL s.A s.P)) (-s.b) (-s.a) x=pcS (hsP s.P s.A) (inB s.L) (hsP s.Q s.B) s.a s.b (-1 - x)
 unfold pcS
 by_cases c:x < -s.b
 ·rw [if_pos c,if_neg (by omega),if_neg (by omega),mr_hs h.q.p0]
 ·rw [if_neg c]
  by_cases d:x < -s.a
  ·rw [if_pos d,if_neg (by omega),if_pos (by omega),mr_in]
   congr 1
  ·rw [if_neg d,if_pos (by omega),mr_hs h.p.p0]
def nxT (s:TS) (x:Int):Int:=if x<s.a then mnI (nxP s.P s.A x) s.a else if x<s.b then mnI (nxL s.L x) s.b else nxP s.Q s.B x
theorem nxT_ok {s:TS} (h:GW s) {x:Int} (xf:x<farI):NxV (hsT s) x (nxT s x):=by
 have le:=h.le
 unfold nxT
 by_cases c:x<s.a
 ·rw [if_pos c];have n:=nxP_ok h.p.p0 h.p.p1 h.p.cn xf;have m:=mnI_le (nxP s.P s.A x) s.a;have o:=mnI_or (nxP s.P s.A x) s.a;have l:=n.lt;exact n.congr m.1 (by omega) fun y _ b=>gv_low (by omega)
 ·rw [if_neg c]
  by_cases d:x<s.b
  ·rw [if_pos d];have n:=nxL_ok h.cn xf;have m:=mnI_le (nxL s.L x) s.b;have o:=mnI_or (nxL s.L x) s.b;have l:=n.lt;exact n.congr m.1 (by omega) fun y a b=>gv_mid (by omega) (by omega)
  ·rw [if_neg d];have n:=nxP_ok h.q.p0 h.q.p1 h.q.cn xf;exact n.congr (Int.le_refl _) n.lt fun y a b=>gv_high h.le (by omega)
theorem nxP_far {P:Int} (p0:1≤P) (p1:P≤12622780800) (A:List Sp) (x:Int) (x1:x≤1152921504606846976):nxP P A x≤farI:=by
 unfold nxP
 by_cases e:P=1
 ·rw [if_pos e];exact Int.le_refl _
 ·rw [if_neg e];have r0:=Int.emod_nonneg x (show P≠0 by omega);have m:=(mnI_le (nxL A (x % P)) P).2
  unfold farI;omega
theorem nxT_far {s:TS} (h:GW s) (x:Int) (x1:x≤1152921504606846976):nxT s x≤farI:=by
 have hi:=h.hi0;have lo:=h.lo0;have le:=h.le
 unfold nxT
 split
 ·have:=(mnI_le (nxP s.P s.A x) s.a).2;unfold farI;omega
 ·split
  ·have:=(mnI_le (nxL s.L x) s.b).2;unfold farI;omega
  ·exact nxP_far h.q.p0 h.q.p1 s.B x x1
def ruS (l:List Sp) (i:Bool) (x n:Int):List Sp:=if i=false then l else if 0<l.length∧(l.getD (l.length - 1) (0,0)).2=x then l.dropLast++[((l.getD (l.length - 1) (0,0)).1,n)] else l++[(x,n)]
theorem ru_step {f:Int→Bool} {a x n m:Int} (ax:a≤x) (h:NxV f x n) (mn:m≤n) (xm:x<m):ruS (caL f a x) (f x) x m=caL f a m:=by
 unfold ruS
 by_cases i:f x=false
 ·rw [if_pos i];exact ca_skip (by omega) fun z z0 z1=>by rw [h.on z z0 (by omega)];exact i
 ·rw [if_neg i];have fx:f x=true:=by cases e:f x <;> simp_all
  have yes:∀ z,x≤z→z<m→f z=true:=fun z z0 z1=>by rw [h.on z z0 (by omega)];exact fx
  have cn:=ca_cn f a x;have en:=ca_ends f a x
  by_cases c:0<(caL f a x).length∧((caL f a x).getD ((caL f a x).length - 1) (0,0)).2=x
  ·rw [if_pos c];obtain ⟨l0,q,e⟩:∃ l0 q,caL f a x=l0++[q]:=⟨_,_,(List.dropLast_concat_getLast (List.ne_nil_of_length_pos c.1)).symm⟩;have q2:=c.2;have ins:=ca_in f a x;rw [e] at q2 cn en ins ⊢;rw [last_snoc] at q2;have ql:=cn.lt q (by simp);rw [last_snoc,List.dropLast_concat]
   show l0++[(q.1,m)]=_
   refine ca_eq ?_ fun z=>?_
   ·refine cn_app ?_ (cn_single (show q.1<m by omega)) fun p hp r hr=>?_
    ·have:=cn_take l0.length cn;rwa [List.take_left' rfl] at this
    ·simp at hr;subst hr
     obtain ⟨j,hj,rfl⟩:=mem_getD hp;have:=cn_gt cn (j:=j) (k:=l0.length) hj (by simp);rw [app_left _ _ hj] at this;have e2:=app_right l0 [q] 0;rw [Nat.add_zero] at e2;rw [e2] at this;exact this
   ·have iz:=ins z;rw [inB_app,inB_one] at iz ⊢
    show (inB l0 z || (decide (q.1≤z)&&decide (z<m)))=_
    by_cases zx:z<x
    ·rw [zdt (p:=z<m) (by omega),Bool.and_true];rw [zdt (p:=z<x) zx,Bool.and_true,zdt (p:=z<q.2) (by omega),Bool.and_true] at iz;rw [iz,Bool.and_true]
    ·have n0:inB l0 z=false:=by
      rw [zdf (p:=z<x) zx,Bool.and_false,Bool.false_and] at iz
      cases e3:inB l0 z
      ·rfl
      ·rw [e3] at iz;cases iz
     rw [n0,Bool.false_or,zdt (p:=q.1≤z) (by omega),Bool.true_and,zdt (p:=a≤z) (by omega),Bool.true_and]
     by_cases zm:z<m
     ·rw [zdt zm,yes z (by omega) zm];rfl
     ·rw [zdf zm];rfl
  ·rw [if_neg c];have below:∀ q,q∈caL f a x→q.2<x:=fun q hq=>by
    obtain ⟨j,hj,rfl⟩:=mem_getD hq;have h1:=(cn_lo cn (i:=j) (j:=(caL f a x).length - 1) (by omega) (by omega)).2;have h2:=(en _ (getD_mem (L:=caL f a x) (j:=(caL f a x).length - 1) (by omega))).2;have h3:((caL f a x).getD ((caL f a x).length - 1) (0,0)).2≠x:=fun k=>c ⟨by omega,k⟩;omega
   refine ca_eq ?_ fun z=>?_
   ·exact cn_app cn (cn_single (show x<m from xm)) fun p hp r hr=>by simp at hr;subst hr;exact below p hp
   ·rw [inB_app,inB_one,ca_in]
    show (_ || (decide (x≤z)&&decide (z<m)))=_
    by_cases zx:z<x
    ·rw [zdf (p:=x≤z) (by omega),Bool.false_and,Bool.or_false,zdt zx,zdt (p:=z<m) (by omega)]
    ·rw [zdf zx,Bool.and_false,Bool.false_and,Bool.false_or,zdt (p:=x≤z) (by omega),Bool.true_and,zdt (p:=a≤z) (by omega),Bool.true_and]
     by_cases zm:z<m
     ·rw [zdt zm,yes z (by omega) zm];rfl
     ·rw [zdf zm];rfl
structure RuW (f:Int→Bool) (a b:Int) (R:List Sp):Prop where
 few:R.length≤2000→R=caL f a b
 many:2000<R.length→2000<(caL f a b).length
 len:R.length≤2001
theorem RuW.eq {f:Int→Bool} {a b:Int} {R:List Sp} (h:RuW f a b R) (k:(caL f a b).length≤2000):R=caL f a b:=by
 by_cases c:R.length≤2000
 ·exact h.few c
 ·have:=h.many (by omega);omega
theorem RuW.two {f g:Int→Bool} {a b:Int} {R S:List Sp} (h:RuW f a b R) (k:RuW g a b S):2000<R.length+S.length↔2000<(caL f a b).length+(caL g a b).length:=by
 by_cases c:R.length≤2000
 ·by_cases d:S.length≤2000
  ·rw [← h.few c,← k.few d]
  ·have:=k.many (by omega);constructor <;> (intro;omega)
 ·have:=h.many (by omega);constructor <;> (intro;omega)
theorem RuW.one {f:Int→Bool} {a b:Int} {R:List Sp} (h:RuW f a b R):2000<R.length↔2000<(caL f a b).length:=by
 by_cases c:R.length≤2000
 ·rw [← h.few c]
 ·have:=h.many (by omega);constructor <;> (intro;omega)
end Go.Proofs.YtmamlgaogpkagaaGreat
namespace Go.Proofs.YtmamlgaogpkagaaGreat
open Go.RowKit
set_option linter.unusedVariables false
set_option linter.unusedSimpArgs false
theorem fr_parts {P Q:Int} {A B:List Sp} {f:Int→Bool} (h:(frT P A Q B f).2=0):(frT P A Q B f).1.P=P∧(frT P A Q B f).1.A=A∧(frT P A Q B f).1.Q=Q∧(frT P A Q B f).1.B=B:=by
 unfold frT at h ⊢
 by_cases e:pqE P A Q B=0
 rotate_left
 ·rw [if_pos e] at h;exact absurd h e
 rw [if_neg (by rw [e];exact fun c=>c rfl)] at h ⊢
 by_cases c:P=Q∧A=B∧f=hsP P A
 ·rw [if_pos c];exact ⟨rfl,rfl,rfl,rfl⟩
 ·rw [if_neg c] at h ⊢
  by_cases n:(nvB (loT f (hsP P A) (hsP Q B))&&nvB (edB f (hsP Q B)))=true
  ·rw [if_pos n];exact ⟨rfl,rfl,rfl,rfl⟩
  ·rw [if_neg n] at h;cases h
theorem fr_vs {P Q lo hi:Int} {A B l:List Sp} (g:Giv P A Q B lo hi l) (h:(frT P A Q B (gvF P A Q B lo hi l)).2=0) :
  VS (frT P A Q B (gvF P A Q B lo hi l)).1∧hsT (frT P A Q B (gvF P A Q B lo hi l)).1=gvF P A Q B lo hi l:=by
 have has:=fr_has g.p g.q (pc_mid _ _ _ g.le) h;obtain ⟨e1,e2,e3,e4⟩:=fr_parts h;have gg:Giv (frT P A Q B (gvF P A Q B lo hi l)).1.P (frT P A Q B (gvF P A Q B lo hi l)).1.A (frT P A Q B (gvF P A Q B lo hi l)).1.Q (frT P A Q B (gvF P A Q B lo hi l)).1.B (frT P A Q B (gvF P A Q B lo hi l)).1.a (frT P A Q B (gvF P A Q B lo hi l)).1.b (frT P A Q B (gvF P A Q B lo hi l)).1.L:=by
  rw [e1,e2,e3,e4];clear e1 e2 e3 e4 has;have le:=g.le;have mid:=pc_mid (hsP P A) (inB l) (hsP Q B) g.le;have fm:∀ x,lo≤x→x<hi→gvF P A Q B lo hi l x=inB l x:=fun x a b=>gv_mid a b;generalize hf:gvF P A Q B lo hi l=f at *;replace mid:Mid f (hsP P A) (hsP Q B) lo hi:=by rw [← hf];exact mid
  unfold frT at h ⊢
  by_cases e:pqE P A Q B=0
  rotate_left
  ·rw [if_pos e] at h;exact absurd h e
  rw [if_neg (by rw [e];exact fun c=>c rfl)] at h ⊢
  by_cases c:P=Q∧A=B∧f=hsP P A
  ·rw [if_pos c];exact ⟨g.p,g.q,Int.le_refl 0,by show (-4398046511104:Int)≤0;decide,by show (0:Int)≤4398046511104;decide,rfl,fun s h=>by cases h⟩
  ·rw [if_neg c] at h ⊢
   by_cases n:(nvB (loT f (hsP P A) (hsP Q B))&&nvB (edB f (hsP Q B)))=true
   rotate_left
   ·rw [if_neg n] at h;cases h
   rw [if_pos n];obtain ⟨n1,n2⟩:=Bool.and_eq_true_iff.1 n;obtain ⟨⟨a,ha⟩,b,hb⟩:=ends_ex g.p g.q mid c;have ea:lo≤a:=by
    by_cases z:a<lo
    ·exact absurd (mid.low a z) ha.no
    ·omega
   have eb:b≤hi:=by
    by_cases z:hi≤b - 1
    ·exact absurd (mid.high _ z) hb.no
    ·omega
   have ll:=lo_le f (hsP P A) (hsP Q B);have n3:=(nvB_iff.1 n1).1;have n4:=(nvB_iff.1 n2).2;refine ⟨g.p,g.q,ll,n3,n4,vaB_iff.2 ⟨?_,fun q hq=>?_,ca_cn _ _ _⟩,ca_ends _ _ _⟩
   ·show (caL f (loT f (hsP P A) (hsP Q B)) (edB f (hsP Q B))).length≤2000
    by_cases z:loT f (hsP P A) (hsP Q B)<edB f (hsP Q B)
    ·have el:loT f (hsP P A) (hsP Q B)=a:=by
      have:edA f (hsP P A)=a:=edA_eq ha
      unfold loT at z ⊢
      rw [this] at z ⊢
      split at z
      ·rename_i c1;rw [if_pos c1]
      ·exact absurd z (by omega)
     have:=edB_eq hb;rw [el,this] at z ⊢;rw [show caL f a b=clL l a b by rw [cl_ca (vaB_iff.1 g.va).2.2];exact ca_congr fun y y0 y1=>fm y (by omega) (by omega)];have:=cl_len l a b;have:=(vaB_iff.1 g.va).1;omega
    ·rw [ca_none _ (by omega)];exact Nat.zero_le _
   ·have:=ca_ends f _ _ q hq;omega
 refine ⟨⟨gg,?_⟩,has⟩;rw [has,e1,e2,e3,e4];exact Prod.ext rfl h
theorem pv_low {P Q u:Int} {A B:List Sp} (p:PV P A) (q:PV Q B) (h:∀ x,x<u→hsP P A x=hsP Q B x):P=Q∧A=B:=by
 refine Classical.byContradiction fun c=>?_;have d:∃ x,hsP P A x≠hsP Q B x:=by
  refine Classical.byContradiction fun n=>c (pv_ext p q (funext fun x=>Classical.byContradiction fun m=>n ⟨x,m⟩))
 obtain ⟨x,hx⟩:=d;have p0:=p.p0;have q0:=q.p0;have pm:Per (hsP P A) (P * Q):=(hs_per (P:=P) (L:=A)).mul Q;have qm:Per (hsP Q B) (P * Q):=by have:=(hs_per (P:=Q) (L:=B)).mul P;rwa [Int.mul_comm] at this
 obtain ⟨⟨y,y0,y1⟩,-⟩:=per_far (Int.mul_pos (show 0<P by omega) (show 0<Q by omega)) pm qm hx u u;exact y1 (h y y0)
theorem pv_high {P Q u:Int} {A B:List Sp} (p:PV P A) (q:PV Q B) (h:∀ x,u≤x→hsP P A x=hsP Q B x):P=Q∧A=B:=by
 refine Classical.byContradiction fun c=>?_;have d:∃ x,hsP P A x≠hsP Q B x:=by
  refine Classical.byContradiction fun n=>c (pv_ext p q (funext fun x=>Classical.byContradiction fun m=>n ⟨x,m⟩))
 obtain ⟨x,hx⟩:=d;have p0:=p.p0;have q0:=q.p0;have pm:Per (hsP P A) (P * Q):=(hs_per (P:=P) (L:=A)).mul Q;have qm:Per (hsP Q B) (P * Q):=by have:=(hs_per (P:=Q) (L:=B)).mul P;rwa [Int.mul_comm] at this
 obtain ⟨-,⟨y,y0,y1⟩⟩:=per_far (Int.mul_pos (show 0<P by omega) (show 0<Q by omega)) pm qm hx u u;exact y1 (h y y0)
theorem vs_ext {s t:TS} (h:VS s) (k:VS t) (e:hsT s=hsT t):s=t:=by
 obtain ⟨a1,a2⟩:=pv_low (u:=if s.a<t.a then s.a else t.a) h.g.p k.g.p fun x hx=>by
  rw [← hs_low (s:=s) (by split at hx <;> omega),← hs_low (s:=t) (by split at hx <;> omega),e]
 obtain ⟨b1,b2⟩:=pv_high (u:=if s.b<t.b then t.b else s.b) h.g.q k.g.q fun x hx=>by
  rw [← hs_high (s:=s) h.g.le (by split at hx <;> omega),← hs_high (s:=t) k.g.le (by split at hx <;> omega),e]
 have f:=h.fr;rw [a1,a2,b1,b2,e,k.fr] at f;exact (congrArg Prod.fst f).symm
theorem to_vs {P Q lo hi:Int} {A B l:List Sp} (h:(toR P A Q B lo hi l).2=0):Giv P A Q B lo hi l∧VS (toR P A Q B lo hi l).1∧hsT (toR P A Q B lo hi l).1=gvF P A Q B lo hi l:=by
 unfold toR at h ⊢
 by_cases g:givB P A Q B lo hi l
 ·rw [if_pos g] at h ⊢;have g':=giv_iff.1 g;exact ⟨g',fr_vs g' h⟩
 ·rw [if_neg g] at h;cases h
theorem cb_vs {k:Int} (k1:1≤k) (k3:k≤3) {s t:TS} (h:(cbT k s t).2=0):VS s∧VS t∧VS (cbT k s t).1∧(∀ x,hsT (cbT k s t).1 x=kpB k (hsT s x) (hsT t x)):=by
 unfold cbT at h ⊢
 by_cases v:(vsB s&&vsB t)=true
 rotate_left
 ·rw [if_pos (by simpa using v)] at h;cases h
 rw [if_neg (by rw [v];simp)] at h ⊢;obtain ⟨v1,v2⟩:=Bool.and_eq_true_iff.1 v;have s1:=vs_ok.1 v1;have s2:=vs_ok.1 v2
 by_cases e1:(coR k s.P s.A t.P t.A).2=0
 rotate_left
 ·rw [if_pos e1] at h;exact absurd h e1
 rw [if_neg (by rw [e1];exact fun c=>c rfl)] at h ⊢
 by_cases e2:(coR k s.Q s.B t.Q t.B).2=0
 rotate_left
 ·rw [if_pos e2] at h;exact absurd h e2
 rw [if_neg (by rw [e2];exact fun c=>c rfl)] at h ⊢
 by_cases e3:pqE (coR k s.P s.A t.P t.A).1.1 (coR k s.P s.A t.P t.A).1.2 (coR k s.Q s.B t.Q t.B).1.1 (coR k s.Q s.B t.Q t.B).1.2=0
 rotate_left
 ·rw [if_pos e3] at h;exact absurd h e3
 rw [if_neg (by rw [e3];exact fun c=>c rfl)] at h ⊢
 by_cases few:2000<(caL (hsT s) (wnT s t).1 (wnT s t).2).length+(caL (hsT t) (wnT s t).1 (wnT s t).2).length
 ·rw [if_pos few] at h;cases h
 rw [if_neg few] at h ⊢;obtain ⟨g,ge⟩:=cb_giv k1 k3 s1 s2 e1 e2 (by omega);rw [← ge] at h ⊢;obtain ⟨a,b⟩:=fr_vs g h;exact ⟨s1,s2,a,fun x=>by rw [b,ge]⟩
end Go.Proofs.YtmamlgaogpkagaaGreat
