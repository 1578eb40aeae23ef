/- PeHEa TsMa TsNa TsOa TsPa TsGb TsE TsHa TsF TsA TsB TsD. -/
import Derived.Test.YtmamlgaogpkagaaGreatQLPlain
import Derived.Test.YtmamlgaogpkagaaGreatQLGen
import Derived.Test.YtmamlgaogpkagaaGreatQLSl
import Derived.Test.YtmamlgaogpkagaaGreatQLSla
import Derived.Test.YtmamlgaogpkagaaGreatQRnT
import Derived.Test.YtmamlgaogpkagaaGreatQRnV
import Derived.Test.YtmamlgaogpkagaaGreatQPeB
import Derived.Test.YtmamlgaogpkagaaGreatQRnKF
import Derived.Test.YtmamlgaogpkagaaGreatQPeKD
import Derived.Test.YtmamlgaogpkagaaGreatQPeGC
import Derived.Test.YtmamlgaogpkagaaGreatQPeKI
import Derived.Test.YtmamlgaogpkagaaGreatQPeKJ
import Derived.Test.YtmamlgaogpkagaaGreatQPeGD
import Derived.Test.YtmamlgaogpkagaaGreatQTsGa
import Derived.StillTailTactics
import Derived.Deep.AppendLies
import Derived.Deep.RegionWith
import Derived.BigQuiet
import Derived.Deep.QuietTactic
namespace Go.Proofs.YtmamlgaogpkagaaGreat
open Go.RowKit
set_option linter.unusedVariables false
set_option linter.unusedSimpArgs false
theorem pr_er (P Q:Int) (n m:Nat):0≤(prR P Q n m).2∧(prR P Q n m).2≤9:=by
 unfold prR;split
 ·split <;> simp
 ·simp
theorem pqE_er (P:Int) (A:List Sp) (Q:Int) (B:List Sp):0≤pqE P A Q B∧pqE P A Q B≤9:=by
 unfold pqE;split
 ·exact ⟨by decide,by decide⟩
 ·exact pr_er _ _ _ _
theorem cl_snoc (L:List Sp) (q:Sp) (a b:Int):clL (L++[q]) a b=clL L a b++(if (cpS a b q).1<(cpS a b q).2 then [cpS a b q] else []):=by
 unfold clL
 rw [List.map_append,List.filter_append]
 congr 1
 show List.filter _ [cpS a b q]=_
 by_cases z:(cpS a b q).1<(cpS a b q).2
 ·rw [if_pos z,List.filter_cons_of_pos (by simpa using z)];rfl
 ·rw [if_neg z,List.filter_cons_of_neg (by simpa using z)];rfl
theorem no_chg {f:Int→Bool} {u:Int}:∀ (n:Nat),(∀ c,u<c→c≤u+n→¬ Chg f c)→∀ y,u≤y→y≤u+n→f y=f u
  | 0,_,y,h1,h2=>by rw [show y=u by omega]
  | n+1,h,y,h1,h2=>by
    by_cases z:y≤u+n
    · exact no_chg n (fun c a b=>h c a (by omega)) y h1 z
    · have a:=no_chg n (fun c a b=>h c a (by omega)) (y - 1) (by omega) (by omega);have b:¬ Chg f y:=h y (by omega) (by omega);rw [← a];exact Classical.byContradiction fun c=>b c
theorem no_chg' {f:Int→Bool} {u v:Int} (h:∀ c,u<c→c<v→¬ Chg f c) {y:Int} (h1:u≤y) (h2:y<v):f y=f u:=no_chg (v - 1 - u).toNat (fun c a b=>h c a (by omega)) y h1 (by omega)
theorem ch_app (P:Int) (A:List Sp):∀ (M N:List Sp),chL P A (M++N)=chL P A M++chL P A N
  | [],N=>rfl
  | q :: M,N=>by show chS P A q++chL P A (M++N)=_;rw [ch_app P A M N,← List.append_assoc];rfl
theorem ch_len (P:Int) (A:List Sp):∀ (M:List Sp),(chL P A M).length≤2 * M.length
  | []=>Nat.le_refl _
  | q :: M=>by
    have ih:=ch_len P A M
    show (chS P A q++chL P A M).length≤_
    rw [List.length_append];have:(chS P A q).length≤2:=by unfold chS;rw [List.length_append];split <;> split <;> simp
    simp only [List.length_cons];omega
theorem bf_start (P x:Int) (l:List Int):BfI P x l 0 false 0:=⟨rfl,fun h=>absurd h (Nat.lt_irrefl 0),fun j h=>absurd h (Nat.not_lt_zero j)⟩
theorem af_start (P x:Int) (l:List Int):AfI P x l 0 false 0:=⟨rfl,fun h=>absurd h (Nat.lt_irrefl 0),fun j h=>absurd h (Nat.not_lt_zero j)⟩
theorem BfI.up {P x:Int} {l:List Int} {i:Nat} {o:Bool} {b:Int} (h:BfI P x l i o b) (k:o=false∨b<caB P x (l.getD i 0)):BfI P x l (i+1) true (caB P x (l.getD i 0)):=by
 refine ⟨(zdt (Nat.succ_pos i)).symm,fun _=>⟨i,Nat.lt_succ_self i,rfl⟩,fun j hj=>?_⟩
 by_cases e:j=i
 ·rw [e];exact Int.le_refl _
 ·rcases k with k | k
  ·have:=h.ok;rw [k] at this;have:=of_decide_eq_false this.symm;omega
  ·have:=h.top j (by omega);omega
theorem BfI.stay {P x:Int} {l:List Int} {i:Nat} {o:Bool} {b:Int} (h:BfI P x l i o b) (k1:o=true) (k2:caB P x (l.getD i 0)≤b):BfI P x l (i+1) true b:=by
 have z:0<i:=by have:=h.ok;rw [k1] at this;exact of_decide_eq_true this.symm
 refine ⟨(zdt (Nat.succ_pos i)).symm,fun _=>by obtain ⟨j,hj,e⟩:=h.is z;exact ⟨j,by omega,e⟩,fun j hj=>?_⟩
 by_cases e:j=i
 ·rw [e];exact k2
 ·exact h.top j (by omega)
theorem AfI.up {P x:Int} {l:List Int} {i:Nat} {o:Bool} {b:Int} (h:AfI P x l i o b) (k:o=false∨caA P x (l.getD i 0)<b):AfI P x l (i+1) true (caA P x (l.getD i 0)):=by
 refine ⟨(zdt (Nat.succ_pos i)).symm,fun _=>⟨i,Nat.lt_succ_self i,rfl⟩,fun j hj=>?_⟩
 by_cases e:j=i
 ·rw [e];exact Int.le_refl _
 ·rcases k with k | k
  ·have:=h.ok;rw [k] at this;have:=of_decide_eq_false this.symm;omega
  ·have:=h.top j (by omega);omega
theorem AfI.stay {P x:Int} {l:List Int} {i:Nat} {o:Bool} {b:Int} (h:AfI P x l i o b) (k1:o=true) (k2:b≤caA P x (l.getD i 0)):AfI P x l (i+1) true b:=by
 have z:0<i:=by have:=h.ok;rw [k1] at this;exact of_decide_eq_true this.symm
 refine ⟨(zdt (Nat.succ_pos i)).symm,fun _=>by obtain ⟨j,hj,e⟩:=h.is z;exact ⟨j,by omega,e⟩,fun j hj=>?_⟩
 by_cases e:j=i
 ·rw [e];exact k2
 ·exact h.top j (by omega)
structure LsR (f g:Int→Bool) (lo hi:Int) (o:Bool) (b:Int):Prop where
 yes:o=true→lo<b∧b≤hi∧f (b - 1)≠g (b - 1)∧∀ y,b≤y→y<hi→f y=g y
 no:o=false→∀ y,lo≤y→y<hi→f y=g y
structure FiR (f g:Int→Bool) (lo hi:Int) (o:Bool) (a:Int):Prop where
 yes:o=true→lo≤a∧a<hi∧f a≠g a∧∀ y,lo≤y→y<a→f y=g y
 no:o=false→∀ y,lo≤y→y<hi→f y=g y
theorem ls_step {P:Int} {A l:List Sp} {x n c:Int} {o:Bool} (e:inB l (x - 1)=hsP P A (x - 1)) (ends:∀ q,q∈l→(q.1<x→q.1≤n)∧(q.2<x→q.2≤n)) (bf:BfS (hsP P A) x o c) (cn:o=true→c≤n) {y:Int} (y1:n≤y) (y2:y<x):inB l y=hsP P A y:=by
 have h1:∀ c,n<c→c<x→¬ Chg (inB l) c:=fun c a b hc=>by
  obtain ⟨q,hq,k⟩:=in_chg hc;have:=ends q hq
  rcases k with rfl | rfl
  ·have:=this.1 b;omega
  ·have:=this.2 b;omega
 have h2:∀ d,n<d→d<x→¬ Chg (hsP P A) d:=fun d a b hc=>by
  cases ho:o
  ·exact bf.no ho d hc
  ·have:=cn ho;exact (bf.yes ho).2.2 d (by omega) b hc
 rw [no_chg' h1 y1 y2,no_chg' h2 y1 y2];have a:=no_chg' h1 (y:=x - 1) (by omega) (by omega);have b:=no_chg' h2 (y:=x - 1) (by omega) (by omega);rw [← a,← b,e]
theorem fi_step {P:Int} {A l:List Sp} {x n c:Int} {o:Bool} (e:inB l x=hsP P A x) (ends:∀ q,q∈l→(x<q.1→n≤q.1)∧(x<q.2→n≤q.2)) (af:AfS (hsP P A) x o c) (cn:o=true→n≤c) {y:Int} (y1:x≤y) (y2:y<n):inB l y=hsP P A y:=by
 have h1:∀ c,x<c→c<n→¬ Chg (inB l) c:=fun c a b hc=>by
  obtain ⟨q,hq,k⟩:=in_chg hc;have:=ends q hq
  rcases k with rfl | rfl
  ·have:=this.1 a;omega
  ·have:=this.2 a;omega
 have h2:∀ d,x<d→d<n→¬ Chg (hsP P A) d:=fun d a b hc=>by
  cases ho:o
  ·exact af.no ho d hc
  ·have:=cn ho;exact (af.yes ho).2.2 d a (by omega) hc
 rw [no_chg' h1 y1 y2,no_chg' h2 y1 y2,e]
def ddB (P:Int) (A:List Sp) (Q:Int) (B:List Sp) (x:Int):Bool:=hsP P A x != hsP Q B x
theorem dd_iff {P Q:Int} {A B:List Sp} {x:Int}:ddB P A Q B x=true↔hsP P A x≠hsP Q B x:=by
 unfold ddB;rw [bne_iff_ne]
def bI (D:List Sp) (m r base:Int):Nat→Int
  | 0=>base - m+(D.getD (D.length - 1) (0,0)).2
  | i+1=>if (D.getD i (0,0)).1<r then base+(if r<(D.getD i (0,0)).2 then r else (D.getD i (0,0)).2) else bI D m r base i
def aI (D:List Sp) (m r base:Int):Nat→Int
  | 0=>base+m+(D.getD 0 (0,0)).1
  | i+1=>if r<(D.getD (D.length - 1 - i) (0,0)).2 then base+(if (D.getD (D.length - 1 - i) (0,0)).1<r then r else (D.getD (D.length - 1 - i) (0,0)).1) else aI D m r base i
structure Dd (f:Int→Bool) (m:Int) (D:List Sp):Prop where
 m0:0<m
 per:Per f m
 cn:Cn D
 ip:InP m D
 has:∀ x,0≤x→x<m→f x=inB D x
 ne:0<D.length
theorem dd_at {f:Int→Bool} {m:Int} {D:List Sp} (d:Dd f m D) {base:Int} (hb:m ∣ base) {x:Int} (x0:base≤x) (x1:x<base+m):f x=inB D (x - base):=by
 obtain ⟨k,rfl⟩:=hb;rw [← d.has (x - m * k) (by omega) (by omega)];have:=d.per.mul (-k) x;rw [← this,Int.mul_neg];congr 1
theorem bI_cases (D:List Sp) (m r base:Int):∀ i,((∀ j,j<i→¬ (D.getD j (0,0)).1<r)∧bI D m r base i=base - m+(D.getD (D.length - 1) (0,0)).2)∨∃ j,j<i∧(D.getD j (0,0)).1<r∧bI D m r base i=base+(if r<(D.getD j (0,0)).2 then r else (D.getD j (0,0)).2)∧∀ k,j<k→k<i→¬ (D.getD k (0,0)).1<r
  | 0=>.inl ⟨fun j h=>absurd h (Nat.not_lt_zero j),rfl⟩
  | i+1=>by
    by_cases z:(D.getD i (0,0)).1<r
    · exact .inr ⟨i,Nat.lt_succ_self i,z,by rw [bI,if_pos z],fun k h1 h2=>by omega⟩
    · have e:bI D m r base (i+1)=bI D m r base i:=by rw [bI,if_neg z]
      rw [e]
      rcases bI_cases D m r base i with ⟨a,b⟩ | ⟨j,a,b,c,d⟩
      · exact .inl ⟨fun j h=>by by_cases y:j=i;rw [y];exact z;exact a j (by omega),b⟩
      · exact .inr ⟨j,by omega,b,c,fun k h1 h2=>by by_cases y:k=i;rw [y];exact z;exact d k h1 (by omega)⟩
theorem bI_ok {f:Int→Bool} {m:Int} {D:List Sp} (d:Dd f m D) {r base:Int} (hb:m ∣ base) (r0:0≤r) (r1:r<m):bI D m r base D.length≤base+r∧f (bI D m r base D.length - 1)=true∧∀ y,bI D m r base D.length≤y→y<base+r→f y=false:=by
 have m0:=d.m0;have bd:∀ j,j<D.length→0≤(D.getD j (0,0)).1∧(D.getD j (0,0)).1<(D.getD j (0,0)).2∧(D.getD j (0,0)).2≤m:=fun j hj=>⟨(d.ip _ (getD_mem hj)).1,d.cn.lt _ (getD_mem hj),(d.ip _ (getD_mem hj)).2⟩;have hb':m ∣ base - m:=by obtain ⟨k,rfl⟩:=hb;exact ⟨k - 1,by rw [Int.mul_sub,Int.mul_one]⟩
 rcases bI_cases D m r base D.length with ⟨a,b⟩ | ⟨j,a,b,c,e⟩
 ·rw [b];have l:=bd (D.length - 1) (by have:=d.ne;omega);refine ⟨by omega,?_,fun y y0 y1=>?_⟩
  ·rw [dd_at d hb' (by omega) (by omega)];exact inB_iff.2 ⟨_,getD_mem (show D.length - 1<D.length by have:=d.ne;omega),by omega,by omega⟩
  ·rw [← Bool.not_eq_true];intro h
   by_cases z:y<base
   ·rw [dd_at d hb' (by omega) (by omega)] at h;obtain ⟨q,hq,h1,h2⟩:=inB_iff.1 h;obtain ⟨j,hj,rfl⟩:=mem_getD hq;have:=(cn_lo d.cn (show j≤D.length - 1 by omega) (by omega)).2;omega
   ·rw [dd_at d hb (by omega) (by omega)] at h;obtain ⟨q,hq,h1,h2⟩:=inB_iff.1 h;obtain ⟨j,hj,rfl⟩:=mem_getD hq;have:=a j hj;omega
 ·rw [c];have l:=bd j a;obtain ⟨v,hv⟩:∃ v,(if r<(D.getD j (0,0)).2 then r else (D.getD j (0,0)).2)=v:=⟨_,rfl⟩;have hv':(r<(D.getD j (0,0)).2∧v=r)∨((D.getD j (0,0)).2≤r∧v=(D.getD j (0,0)).2):=by rw [← hv];split <;> omega
  rw [hv];refine ⟨by omega,?_,fun y y0 y1=>?_⟩
  ·rw [dd_at d hb (by omega) (by omega)];exact inB_iff.2 ⟨_,getD_mem a,by omega,by omega⟩
  ·rw [← Bool.not_eq_true];intro h;rw [dd_at d hb (by omega) (by omega)] at h;obtain ⟨q,hq,h1,h2⟩:=inB_iff.1 h;obtain ⟨k,hk,rfl⟩:=mem_getD hq
   by_cases z:k≤j
   ·have:=(cn_lo d.cn z a).2;omega
   ·have:=e k (by omega) hk;omega
theorem aI_cases (D:List Sp) (m r base:Int):∀ i,i≤D.length→((∀ j,D.length - i≤j→j<D.length→¬ r<(D.getD j (0,0)).2)∧aI D m r base i=base+m+(D.getD 0 (0,0)).1)∨∃ j,D.length - i≤j∧j<D.length∧r<(D.getD j (0,0)).2∧aI D m r base i=base+(if (D.getD j (0,0)).1<r then r else (D.getD j (0,0)).1)∧∀ k,D.length - i≤k→k<j→¬ r<(D.getD k (0,0)).2
  | 0,_=>.inl ⟨fun j h h'=>by omega,rfl⟩
  | i+1,hi=>by
    by_cases z:r<(D.getD (D.length - 1 - i) (0,0)).2
    · exact .inr ⟨D.length - 1 - i,by omega,by omega,z,by rw [aI,if_pos z],fun k h1 h2=>by omega⟩
    · have e:aI D m r base (i+1)=aI D m r base i:=by rw [aI,if_neg z]
      rw [e]
      rcases aI_cases D m r base i (by omega) with ⟨a,b⟩ | ⟨j,a0,a,b,c,d⟩
      · exact .inl ⟨fun j h h'=>by by_cases y:j=D.length - 1 - i;rw [y];exact z;exact a j (by omega) h',b⟩
      · exact .inr ⟨j,by omega,a,b,c,fun k h1 h2=>by by_cases y:k=D.length - 1 - i;rw [y];exact z;exact d k (by omega) h2⟩
theorem aI_ok {f:Int→Bool} {m:Int} {D:List Sp} (d:Dd f m D) {r base:Int} (hb:m ∣ base) (r0:0≤r) (r1:r<m):base+r≤aI D m r base D.length∧f (aI D m r base D.length)=true∧∀ y,base+r≤y→y<aI D m r base D.length→f y=false:=by
 have m0:=d.m0;have bd:∀ j,j<D.length→0≤(D.getD j (0,0)).1∧(D.getD j (0,0)).1<(D.getD j (0,0)).2∧(D.getD j (0,0)).2≤m:=fun j hj=>⟨(d.ip _ (getD_mem hj)).1,d.cn.lt _ (getD_mem hj),(d.ip _ (getD_mem hj)).2⟩;have hb':m ∣ base+m:=by obtain ⟨k,rfl⟩:=hb;exact ⟨k+1,by rw [Int.mul_add,Int.mul_one]⟩
 rcases aI_cases D m r base D.length (Nat.le_refl _) with ⟨a,b⟩ | ⟨j,a0,a,b,c,e⟩
 ·rw [b];have l:=bd 0 d.ne;refine ⟨by omega,?_,fun y y0 y1=>?_⟩
  ·rw [dd_at d hb' (by omega) (by omega)];exact inB_iff.2 ⟨_,getD_mem d.ne,by omega,by omega⟩
  ·rw [← Bool.not_eq_true];intro h
   by_cases z:y<base+m
   ·rw [dd_at d hb (by omega) (by omega)] at h;obtain ⟨q,hq,h1,h2⟩:=inB_iff.1 h;obtain ⟨j,hj,rfl⟩:=mem_getD hq;have:=a j (by omega) hj;omega
   ·rw [dd_at d hb' (by omega) (by omega)] at h;obtain ⟨q,hq,h1,h2⟩:=inB_iff.1 h;obtain ⟨j,hj,rfl⟩:=mem_getD hq;have:=(cn_lo d.cn (Nat.zero_le j) hj).1;omega
 ·rw [c];have l:=bd j a;obtain ⟨v,hv⟩:∃ v,(if (D.getD j (0,0)).1<r then r else (D.getD j (0,0)).1)=v:=⟨_,rfl⟩;have hv':((D.getD j (0,0)).1<r∧v=r)∨(r≤(D.getD j (0,0)).1∧v=(D.getD j (0,0)).1):=by rw [← hv];split <;> omega
  rw [hv];refine ⟨by omega,?_,fun y y0 y1=>?_⟩
  ·rw [dd_at d hb (by omega) (by omega)];exact inB_iff.2 ⟨_,getD_mem a,by omega,by omega⟩
  ·rw [← Bool.not_eq_true];intro h;rw [dd_at d hb (by omega) (by omega)] at h;obtain ⟨q,hq,h1,h2⟩:=inB_iff.1 h;obtain ⟨k,hk,rfl⟩:=mem_getD hq
   by_cases z:k<j
   ·have:=e k (by omega) z;omega
   ·have:=(cn_lo d.cn (show j≤k by omega) hk).1;omega
theorem dd_ok {P Q m:Int} {A B:List Sp} (p:PV P A) (q:PV Q B) (m0:0<m) (pm:P ∣ m) (qm:Q ∣ m) (ne:¬ (P=Q∧A=B)):Dd (ddB P A Q B) m (caL (ddB P A Q B) 0 m):=by
 have per:Per (ddB P A Q B) m:=fun x=>by
  unfold ddB
  rw [per_dvd hs_per pm,per_dvd hs_per qm]
 refine ⟨m0,per,ca_cn _ _ _,ca_inp _ _,fun x x0 x1=>?_,?_⟩
 ·rw [ca_in,zdt x0,zdt x1];rfl
 ·have d:∃ x,hsP P A x≠hsP Q B x:=by
   refine Classical.byContradiction fun c=>ne (pv_ext p q (funext fun x=>Classical.byContradiction fun h=>c ⟨x,h⟩))
  obtain ⟨x,hx⟩:=d;have hm:=per.mod x;have t:inB (caL (ddB P A Q B) 0 m) (x % m)=true:=by
   rw [ca_in,zdt (Int.emod_nonneg x (by omega)),zdt (Int.emod_lt_of_pos x m0),hm,dd_iff.2 hx];rfl
  rcases Nat.eq_zero_or_pos (caL (ddB P A Q B) 0 m).length with z | z
  ·rw [List.length_eq_zero_iff.1 z] at t;cases t
  ·exact z
theorem end_b {P Q lo hi:Int} {A B l:List Sp} (g:Giv P A Q B lo hi l) {b:Int} (h:LsR (inB l) (hsP Q B) lo hi true b):EdB (gvF P A Q B lo hi l) (hsP Q B) b:=by
 obtain ⟨h1,h2,h3,h4⟩:=h.yes rfl;have le:=g.le;refine ⟨fun x hx=>?_,?_⟩
 ·by_cases z:x<hi
  ·rw [gv_mid (by omega) z];exact h4 x hx z
  ·exact gv_high le (by omega)
 ·rw [gv_mid (by omega) (by omega)];exact h3
theorem end_a {P Q lo hi:Int} {A B l:List Sp} (g:Giv P A Q B lo hi l) {a:Int} (h:FiR (inB l) (hsP P A) lo hi true a):EdA (gvF P A Q B lo hi l) (hsP P A) a:=by
 obtain ⟨h1,h2,h3,h4⟩:=h.yes rfl;refine ⟨fun x hx=>?_,?_⟩
 ·by_cases z:x<lo
  ·exact gv_low z
  ·rw [gv_mid (by omega) (by omega)];exact h4 x (by omega) hx
 ·rw [gv_mid h1 h2];exact h3
theorem end_b' {P Q lo hi:Int} {A B l:List Sp} (g:Giv P A Q B lo hi l) {o:Int} (h:LsR (inB l) (hsP Q B) lo hi false o) {b:Int} (h1:b≤lo) (h2:ddB P A Q B (b - 1)=true) (h3:∀ y,b≤y→y<lo→ddB P A Q B y=false):EdB (gvF P A Q B lo hi l) (hsP Q B) b:=by
 have le:=g.le;refine ⟨fun x hx=>?_,?_⟩
 ·by_cases z:x<lo
  ·rw [gv_low z];have:=h3 x hx z;exact Classical.byContradiction fun c=>by rw [dd_iff.2 c] at this;cases this
  ·by_cases y:x<hi
   ·rw [gv_mid (by omega) y];exact h.no rfl x (by omega) y
   ·exact gv_high le (by omega)
 ·rw [gv_low (by omega)];exact dd_iff.1 h2
theorem end_a' {P Q lo hi:Int} {A B l:List Sp} (g:Giv P A Q B lo hi l) {o:Int} (h:FiR (inB l) (hsP P A) lo hi false o) {a:Int} (h1:hi≤a) (h2:ddB P A Q B a=true) (h3:∀ y,hi≤y→y<a→ddB P A Q B y=false):EdA (gvF P A Q B lo hi l) (hsP P A) a:=by
 have le:=g.le;refine ⟨fun x hx=>?_,?_⟩
 ·by_cases z:x<lo
  ·exact gv_low z
  ·by_cases y:x<hi
   ·rw [gv_mid (by omega) y];exact h.no rfl x (by omega) y
   ·rw [gv_high le (by omega)];have:=h3 x (by omega) hx;exact Classical.byContradiction fun c=>by rw [dd_iff.2 (fun e=>c e.symm)] at this;cases this
 ·rw [gv_high le h1];exact fun e=>dd_iff.1 h2 e.symm
theorem gv_pure {P lo hi:Int} {A l:List Sp} (g:Giv P A P A lo hi l) {o:Int} (h:FiR (inB l) (hsP P A) lo hi false o):gvF P A P A lo hi l=hsP P A:=funext fun x=>by
 by_cases z:x<lo
 ·exact gv_low z
 ·by_cases y:x<hi
  ·rw [gv_mid (by omega) y];exact h.no rfl x (by omega) y
  ·exact gv_high g.le (by omega)
theorem gv_both {P lo hi:Int} {A l:List Sp} (g:Giv P A P A lo hi l) {a b:Int} {o:Bool} (h:FiR (inB l) (hsP P A) lo hi true a) (k:LsR (inB l) (hsP P A) lo hi o b):o=true:=by
 cases o
 ·obtain ⟨h1,h2,h3,-⟩:=h.yes rfl;exact absurd (k.no rfl a h1 h2) h3
 ·rfl
set_option maxRecDepth 100000 in
set_option maxHeartbeats 2000000 in
theorem rtpure (P:Int) (va:Value) (A:List Sp) {ba:Nat} (w:World) (a:PairS ba w va A) :
    Calls Tryz.prog 74 #[.agg #[.int .i64 P,va]] w fun e w'=>e=.returned (.agg #[.int .i64 P,va,.int .i64 P,va,.int .i64 0,.int .i64 0,.slice none 0 0])∧Below w.heap.size w w':=by
  obtain ⟨oa,ca,rfl⟩:=prs_shape a;have TA:=zh (Bxs.new (w:=w) [.int .i64 P,.slice oa A.length ca] 24);have FI:=Bxs.new (w:=(w.alloc (.cells #[.int .i64 P,.slice oa A.length ca] 24))) [.int .i64 P,.slice oa A.length ca,.int .i64 P,.slice oa A.length ca,.int .i64 0,.int .i64 0,.slice none 0 0] 26;rw [size_two] at FI;replace FI:=zh FI;have A1:=zh (grow (grow (here w) (.cells #[.int .i64 P,.slice oa A.length ca] 24)) (.cells #[.int .i64 P,.slice oa A.length ca,.int .i64 P,.slice oa A.length ca,.int .i64 0,.int .i64 0,.slice none 0 0] 26));obtain ⟨r0,r1,rl⟩:=TA.out.z2
  go_enter Tryz.func74,Tryz.ntmps74
  go_wp2
  obtain ⟨q0,q1,q2,q3,q4,q5,q6,-⟩:=FI.out.z7;refine bodyPost_ret (v:=.agg #[.int .i64 P,.slice oa A.length ca,.int .i64 P,.slice oa A.length ca,.int .i64 0,.int .i64 0,.slice none 0 0]) (by simp [results,Tryz.results74,go_sem,q0,q1,q2,q3,q4,q5,q6]) rfl ?_;exact ⟨rfl,A1.out⟩
set_option maxRecDepth 100000 in
set_option maxHeartbeats 2000000 in
theorem rtline (x:Int) (w:World) :
    Calls Tryz.prog 89 #[.int .i64 x] w fun e w'=>e=.returned (.bool (nvB x))∧w=w':=by
  unfold nvB
  by_cases a:-4398046511104≤x
  · have ka:=zdt a;rw [ka,Bool.true_and];clear a
    go_enter Tryz.func89,Tryz.ntmps89
    go_wp2
    go_ret
    exact ⟨rfl,rfl⟩
  · have ka:=zdf a;rw [ka,Bool.false_and];clear a
    go_enter Tryz.func89,Tryz.ntmps89
    go_wp2
    go_ret
    exact ⟨rfl,rfl⟩
theorem clip_step {L:List Sp} {i:Nat} (h:i<L.length) (a b:Int):clL (L.take (i+1)) a b=clL (L.take i) a b++(if (cpS a b (L.getD i (0,0))).1<(cpS a b (L.getD i (0,0))).2 then [cpS a b (L.getD i (0,0))] else []):=by
 rw [tak_snoc L h,cl_snoc]
set_option maxRecDepth 100000 in
set_option maxHeartbeats 4000000 in
theorem rtclip (vl:Value) (l:List Sp) (ll:l.length≤10000) (a b:Int) (ha:I64 a) (hb:I64 b) (lb:∀ q,q∈l→I64 q.1∧I64 q.2) {bl:Nat} (w:World) (pl:PairS bl w vl l) :
    Calls Tryz.prog 91 #[vl,.int .i64 a,.int .i64 b] w fun e w'=>(∃ v',e=.returned v'∧PairS w.heap.size w' v' (clL l a b))∧Below w.heap.size w w':=by
  obtain ⟨i0,hi,hz0,hz1,hz2⟩:=info_parts infoS;obtain ⟨ol,cl,rfl⟩:=prs_shape pl;have PL1:=zh pl;replace lb:=zh lb;clear pl;obtain ⟨n,hn⟩:∃ n,l.length=n:=⟨_,rfl⟩;rw [hn] at PL1 ll ⊢;have L0:=zh (here w);have I0:Hid (w.ownsRow w.heap.size 40 2 (.slice none 0 0) ([]:List Sp).length (pairs [])):=World.ownsRow_nil _ _ _ _;have S0:Hid ([]=clL (l.take 0) a b):=rfl
  go_enter Tryz.func91,Tryz.ntmps91
  go_wp2
  go_loopw [7,8] (fun v t wr=>∃ (k:Nat) (v':Value) (M:List Sp),v'=v∧k≤n∧M.length≤k∧t=.int .i64 k∧Hid (M=clL (l.take k) a b)∧Hid (wr.ownsRow w.heap.size 40 2 v M.length (pairs M))∧Hid (Below w.heap.size w wr)) (fun _ t _=>n - (intOf t).toNat)
  case atStart=>exact ⟨0,_,[],rfl,Nat.zero_le _,by simp,rfl,S0,I0,L0⟩
  case round =>
    obtain ⟨k,v',M,rfl,hk,lM,rfl,SM,OM,AM⟩:=hrel;clear L0 I0 S0
    by_cases y:k<n
    · have ky:decide ((k:Int)<(n:Int))=true:=zdt (by omega);have PR:=zh (PL1.out.keep AM.out);have SN:=clip_step (show k<l.length by omega) a b;rw [← SM.out] at SN;obtain ⟨q0,q1⟩:=lb.out _ (getD_mem (show k<l.length by omega));obtain ⟨bb,off,rfl,bl',cs⟩:=prs_here PR.out (show k<l.length by omega);obtain ⟨c0,c1⟩:=cs k (by omega);clear cs;obtain ⟨k1,hk1⟩:∃ k1,k+1=k1:=⟨_,rfl⟩;rw [hk1] at SN;generalize l.getD k (0,0)=q at *;obtain ⟨f,g⟩:=q;replace c0:wr.cell? ⟨bb,off+k * 2,none⟩=some (.int .i64 f):=c0;replace c1:wr.cell? ⟨bb,off+k * 2+1,none⟩=some (.int .i64 g):=c1;obtain ⟨F,hF⟩:∃ F,(if f<a then a else f)=F:=⟨_,rfl⟩;obtain ⟨G,hG⟩:∃ G,(if b<g then b else g)=G:=⟨_,rfl⟩;have mF:max f a=F:=by rw [← hF];split <;> omega
      have mG:min g b=G:=by rw [← hG];split <;> omega
      replace SN:clL (l.take k1) a b=M++(if (if f<a then a else f)<(if b<g then b else g) then [((if f<a then a else f),(if b<g then b else g))] else []):=SN;rw [hF,hG] at SN;replace SN:=zh SN;obtain ⟨m,hm⟩:∃ m,M.length=m:=⟨_,rfl⟩;rw [hm] at OM lM;obtain ⟨ao,cp,rfl⟩:=(Sl.owns OM.out).shape;clear q0 q1;go_wp2
      go_region
      refine at_world (G:=fun W'=>Exit.then _ _ Exit.normal _ W') (fun W'=>Below wr.heap.size wr W'∧Two W' wr.heap.size (.int .i64 F) (.int .i64 G)∧W'.ownsRow w.heap.size 40 2 (.slice ao m cp) m (pairs M)) ⟨(grow (here wr) _).drew,Two.new (Below.drew (here _)),OM.out.alloc _⟩ ?_;rintro w5 ⟨W5,X5,O5⟩;have A5:=zd AM W5;obtain ⟨x0,x1,xl⟩:=X5;replace O5:=zh O5;clear W5 AM OM PR c0 c1 bl'
      by_cases z:F<G
      · have kz:decide (F<G)=true:=zdt z;rw [if_pos z] at SN;have EQ:Hid (M++[(F,G)]=clL (l.take k1) a b):=SN.out.symm;have CM:Hid (m+1≤maxLen):=by show _≤_;unfold maxLen;omega
        have sz:Hid (w.heap.size≤(w5.alloc (.cells #[.int .i64 F,.int .i64 G] 40)).heap.size):=by show _≤_;have:=A5.out.size;simp;omega
        go_wp2_with (at_builtin;refine wpList_append_own _ rfl _ _ 22 rfl w.heap.size 40 i0 (.agg #[.int .i64 0,.int .i64 0]) 2 16 Tryz.underlying22 hi hz0 hz1 hz2 rfl (by decide) (.slice ao m cp) m (pairs M) rfl (O5.out.alloc _) ⟨w5.heap.size,0,none⟩ 1 1 [.int .i64 F,.int .i64 G] rfl rfl (fun j u hj=>by rw [Addr.add_lit,Nat.zero_add,World.cell?_alloc_new];simpa using hj) (fun u hu=>by simp at hu;rcases hu with rfl | rfl <;> rfl) CM.out (by omega) sz.out ?_)
        intro v7 w7 hown hgrow _;have B7:Hid (Below w.heap.size w w7):=(A5.out.alloc A5.out.size (.cells #[.int .i64 F,.int .i64 G] 40)).grown hgrow sz.out (own_ge O5.out);have O7:Hid (w7.ownsRow w.heap.size 40 2 v7 (M++[(F,G)]).length (pairs (M++[(F,G)]))):=by
          show World.ownsRow _ _ _ _ _ _ _
          rw [pairs_append,List.length_append,hm];exact hown
        clear hown hgrow x0 x1 xl O5 A5;go_wp2
        go_roundw
        case rel=>exact ⟨k1,v7,_,rfl,by omega,by rw [List.length_append,hm];simp;omega,by first | rfl | go_num,EQ,O7,B7⟩
        case measure=>simp [intOf];omega
      · have kz:decide (F<G)=false:=zdf z;rw [if_neg z,List.append_nil] at SN;have EQ:Hid (M=clL (l.take k1) a b):=SN.out.symm;have O7:Hid (w5.ownsRow w.heap.size 40 2 (.slice ao m cp) M.length (pairs M)):=by show World.ownsRow _ _ _ _ _ _ _;rw [hm];exact O5.out
        go_wp2
        go_roundw
        case rel=>exact ⟨k1,_,M,rfl,by omega,by omega,by first | rfl | go_num,EQ,O7,A5⟩
        case measure=>simp [intOf];omega
    · have ky:decide ((k:Int)<(n:Int))=false:=zdf (by omega);have PF:Hid (PairS w.heap.size wr v' (clL l a b)):=by
        show PairS _ _ _ _
        have e:M=clL l a b:=by rw [SM.out,List.take_of_length_le (by omega)]
        rw [← e];exact Sl.owns OM.out
      go_wp2
      go_ret
      exact ⟨⟨_,rfl,PF.out⟩,AM.out⟩
set_option maxRecDepth 100000 in
set_option maxHeartbeats 4000000 in
theorem rtsame (s t:TS) (va vb vl ua ub ul:Value) (ti:TsI s) (tj:TsI t) (w:World) (h:SS3 w s va vb vl) (k:SS3 w t ua ub ul) :
    Calls Tryz.prog 24 #[.agg #[.int .i64 s.P,va,.int .i64 s.Q,vb,.int .i64 s.a,.int .i64 s.b,vl],.agg #[.int .i64 t.P,ua,.int .i64 t.Q,ub,.int .i64 t.a,.int .i64 t.b,ul]] w fun e w'=>e=.returned (.bool (smT s t))∧Below w.heap.size w w':=by
  obtain ⟨osa,csa,rfl⟩:=prs_shape h.a;obtain ⟨osb,csb,rfl⟩:=prs_shape h.b;obtain ⟨osl,csl,rfl⟩:=prs_shape h.l;obtain ⟨ota,cta,rfl⟩:=prs_shape k.a;obtain ⟨otb,ctb,rfl⟩:=prs_shape k.b;obtain ⟨otl,ctl,rfl⟩:=prs_shape k.l;have AF_0:=zh (grow (grow (here w) (.cells #[.int .i64 s.P,.slice osa s.A.length csa,.int .i64 s.Q,.slice osb s.B.length csb,.int .i64 s.a,.int .i64 s.b,.slice osl s.L.length csl] 26)) (.cells #[.int .i64 t.P,.slice ota t.A.length cta,.int .i64 t.Q,.slice otb t.B.length ctb,.int .i64 t.a,.int .i64 t.b,.slice otl t.L.length ctl] 26));have T_0:=zh ((Bxs.new (w:=w) [.int .i64 s.P,.slice osa s.A.length csa,.int .i64 s.Q,.slice osb s.B.length csb,.int .i64 s.a,.int .i64 s.b,.slice osl s.L.length csl] 26).old (.cells #[.int .i64 t.P,.slice ota t.A.length cta,.int .i64 t.Q,.slice otb t.B.length ctb,.int .i64 t.a,.int .i64 t.b,.slice otl t.L.length ctl] 26));have U_0:=zh (Bxs.snd (w:=w) (o:=(.cells #[.int .i64 s.P,.slice osa s.A.length csa,.int .i64 s.Q,.slice osb s.B.length csb,.int .i64 s.a,.int .i64 s.b,.slice osl s.L.length csl] 26)) [.int .i64 t.P,.slice ota t.A.length cta,.int .i64 t.Q,.slice otb t.B.length ctb,.int .i64 t.a,.int .i64 t.b,.slice otl t.L.length ctl] 26);have S_0:=zh (h.keep AF_0.out);have R_0:=zh (k.keep AF_0.out);have E1:=zh (fun W (h:PairS 0 W (.slice osa s.A.length csa) s.A) (k:PairS 0 W (.slice ota t.A.length cta) t.A)=>rpequal _ _ s.P t.P s.A t.A ti.A tj.A W h k);have E2:=zh (fun W (h:PairS 0 W (.slice osb s.B.length csb) s.B) (k:PairS 0 W (.slice otb t.B.length ctb) t.B)=>rpequal _ _ s.Q t.Q s.B t.B ti.B tj.B W h k);have E3:=zh (fun W (h:PairS 0 W (.slice osl s.L.length csl) s.L) (k:PairS 0 W (.slice otl t.L.length ctl) t.L)=>rnsame _ _ s.L t.L ti.L tj.L W h k)
  unfold smT
  generalize (decide (s.P=t.P)&&decide (s.A=t.A))=d1 at *;generalize (decide (s.Q=t.Q)&&decide (s.B=t.B))=d2 at *;generalize decide (s.L=t.L)=d3 at *;clear h k ti tj
  cases d1
  · rw [Bool.false_and,Bool.false_and,Bool.false_and,Bool.false_and];clear E2 E3
    go_enter Tryz.func24,Tryz.ntmps24
    obtain ⟨aa,ab,ac,ad,ae,af,ag,ah⟩:=T_0.out.z7;obtain ⟨ai,aj,ak,al,am,an,ao,ap⟩:=U_0.out.z7;go_wp2_with fail
    clear aa ab ac ad ae af ag ai aj ak al am an ao ah ap;generalize ((w.alloc (.cells #[.int .i64 s.P,.slice osa s.A.length csa,.int .i64 s.Q,.slice osb s.B.length csb,.int .i64 s.a,.int .i64 s.b,.slice osl s.L.length csl] 26)).alloc (.cells #[.int .i64 t.P,.slice ota t.A.length cta,.int .i64 t.Q,.slice otb t.B.length ctb,.int .i64 t.a,.int .i64 t.b,.slice otl t.L.length ctl] 26))=w0 at *;refine (E1.out _ S_0.out.a R_0.out.a).mono ?_;rintro e w1 ⟨rfl,hb⟩;have AF_1:=zd AF_0 hb;have T_1:=zh (T_0.out.keep hb);have U_1:=zh (U_0.out.keep hb);have S_1:=zh (S_0.out.keep hb);have R_1:=zh (R_0.out.keep hb);clear hb AF_0 T_0 U_0 S_0 R_0;obtain ⟨aa,ab,ac,ad,ae,af,ag,ah⟩:=T_1.out.z7;obtain ⟨ai,aj,ak,al,am,an,ao,ap⟩:=U_1.out.z7;go_wp2
    go_ret
    exact ⟨rfl,AF_1.out⟩
  · rw [Bool.true_and]
    cases d2
    · rw [Bool.false_and,Bool.false_and,Bool.false_and];clear E3
      go_enter Tryz.func24,Tryz.ntmps24
      obtain ⟨aa,ab,ac,ad,ae,af,ag,ah⟩:=T_0.out.z7;obtain ⟨ai,aj,ak,al,am,an,ao,ap⟩:=U_0.out.z7;go_wp2_with fail
      clear aa ab ac ad ae af ag ai aj ak al am an ao ah ap;generalize ((w.alloc (.cells #[.int .i64 s.P,.slice osa s.A.length csa,.int .i64 s.Q,.slice osb s.B.length csb,.int .i64 s.a,.int .i64 s.b,.slice osl s.L.length csl] 26)).alloc (.cells #[.int .i64 t.P,.slice ota t.A.length cta,.int .i64 t.Q,.slice otb t.B.length ctb,.int .i64 t.a,.int .i64 t.b,.slice otl t.L.length ctl] 26))=w0 at *;refine (E1.out _ S_0.out.a R_0.out.a).mono ?_;rintro e w1 ⟨rfl,hb⟩;have AF_1:=zd AF_0 hb;have T_1:=zh (T_0.out.keep hb);have U_1:=zh (U_0.out.keep hb);have S_1:=zh (S_0.out.keep hb);have R_1:=zh (R_0.out.keep hb);clear hb AF_0 T_0 U_0 S_0 R_0;obtain ⟨aa,ab,ac,ad,ae,af,ag,ah⟩:=T_1.out.z7;obtain ⟨ai,aj,ak,al,am,an,ao,ap⟩:=U_1.out.z7;go_wp2_with fail
      clear aa ab ac ad ae af ag ai aj ak al am an ao ah ap;refine (E2.out _ S_1.out.b R_1.out.b).mono ?_;rintro e w2 ⟨rfl,hb⟩;have AF_2:=zd AF_1 hb;have T_2:=zh (T_1.out.keep hb);have U_2:=zh (U_1.out.keep hb);have S_2:=zh (S_1.out.keep hb);have R_2:=zh (R_1.out.keep hb);clear hb AF_1 T_1 U_1 S_1 R_1;obtain ⟨aa,ab,ac,ad,ae,af,ag,ah⟩:=T_2.out.z7;obtain ⟨ai,aj,ak,al,am,an,ao,ap⟩:=U_2.out.z7;go_wp2
      go_ret
      exact ⟨rfl,AF_2.out⟩
    · rw [Bool.true_and]
      by_cases c:s.a=t.a
      · have kc:(s.a==t.a)=true:=beq_iff_eq.2 c;rw [zdt c,Bool.true_and]
        by_cases d:s.b=t.b
        · have kd:(s.b==t.b)=true:=beq_iff_eq.2 d;rw [zdt d,Bool.true_and];clear c d
          go_enter Tryz.func24,Tryz.ntmps24
          obtain ⟨aa,ab,ac,ad,ae,af,ag,ah⟩:=T_0.out.z7;obtain ⟨ai,aj,ak,al,am,an,ao,ap⟩:=U_0.out.z7;go_wp2_with fail
          clear aa ab ac ad ae af ag ai aj ak al am an ao ah ap;generalize ((w.alloc (.cells #[.int .i64 s.P,.slice osa s.A.length csa,.int .i64 s.Q,.slice osb s.B.length csb,.int .i64 s.a,.int .i64 s.b,.slice osl s.L.length csl] 26)).alloc (.cells #[.int .i64 t.P,.slice ota t.A.length cta,.int .i64 t.Q,.slice otb t.B.length ctb,.int .i64 t.a,.int .i64 t.b,.slice otl t.L.length ctl] 26))=w0 at *;refine (E1.out _ S_0.out.a R_0.out.a).mono ?_;rintro e w1 ⟨rfl,hb⟩;have AF_1:=zd AF_0 hb;have T_1:=zh (T_0.out.keep hb);have U_1:=zh (U_0.out.keep hb);have S_1:=zh (S_0.out.keep hb);have R_1:=zh (R_0.out.keep hb);clear hb AF_0 T_0 U_0 S_0 R_0;obtain ⟨aa,ab,ac,ad,ae,af,ag,ah⟩:=T_1.out.z7;obtain ⟨ai,aj,ak,al,am,an,ao,ap⟩:=U_1.out.z7;go_wp2_with fail
          clear aa ab ac ad ae af ag ai aj ak al am an ao ah ap;refine (E2.out _ S_1.out.b R_1.out.b).mono ?_;rintro e w2 ⟨rfl,hb⟩;have AF_2:=zd AF_1 hb;have T_2:=zh (T_1.out.keep hb);have U_2:=zh (U_1.out.keep hb);have S_2:=zh (S_1.out.keep hb);have R_2:=zh (R_1.out.keep hb);clear hb AF_1 T_1 U_1 S_1 R_1;obtain ⟨aa,ab,ac,ad,ae,af,ag,ah⟩:=T_2.out.z7;obtain ⟨ai,aj,ak,al,am,an,ao,ap⟩:=U_2.out.z7;go_wp2_with fail
          clear aa ab ac ad ae af ag ai aj ak al am an ao ah ap;refine (E3.out _ S_2.out.l R_2.out.l).mono ?_;rintro e w3 ⟨rfl,hb⟩;have AF_3:=zd AF_2 hb;have T_3:=zh (T_2.out.keep hb);have U_3:=zh (U_2.out.keep hb);have S_3:=zh (S_2.out.keep hb);have R_3:=zh (R_2.out.keep hb);clear hb AF_2 T_2 U_2 S_2 R_2;obtain ⟨aa,ab,ac,ad,ae,af,ag,ah⟩:=T_3.out.z7;obtain ⟨ai,aj,ak,al,am,an,ao,ap⟩:=U_3.out.z7;go_wp2
          go_ret
          exact ⟨rfl,AF_3.out⟩
        · have kd:(s.b==t.b)=false:=by rw [beq_eq_false_iff_ne];exact d
          rw [zdf d,Bool.false_and];clear c d E3
          go_enter Tryz.func24,Tryz.ntmps24
          obtain ⟨aa,ab,ac,ad,ae,af,ag,ah⟩:=T_0.out.z7;obtain ⟨ai,aj,ak,al,am,an,ao,ap⟩:=U_0.out.z7;go_wp2_with fail
          clear aa ab ac ad ae af ag ai aj ak al am an ao ah ap;generalize ((w.alloc (.cells #[.int .i64 s.P,.slice osa s.A.length csa,.int .i64 s.Q,.slice osb s.B.length csb,.int .i64 s.a,.int .i64 s.b,.slice osl s.L.length csl] 26)).alloc (.cells #[.int .i64 t.P,.slice ota t.A.length cta,.int .i64 t.Q,.slice otb t.B.length ctb,.int .i64 t.a,.int .i64 t.b,.slice otl t.L.length ctl] 26))=w0 at *;refine (E1.out _ S_0.out.a R_0.out.a).mono ?_;rintro e w1 ⟨rfl,hb⟩;have AF_1:=zd AF_0 hb;have T_1:=zh (T_0.out.keep hb);have U_1:=zh (U_0.out.keep hb);have S_1:=zh (S_0.out.keep hb);have R_1:=zh (R_0.out.keep hb);clear hb AF_0 T_0 U_0 S_0 R_0;obtain ⟨aa,ab,ac,ad,ae,af,ag,ah⟩:=T_1.out.z7;obtain ⟨ai,aj,ak,al,am,an,ao,ap⟩:=U_1.out.z7;go_wp2_with fail
          clear aa ab ac ad ae af ag ai aj ak al am an ao ah ap;refine (E2.out _ S_1.out.b R_1.out.b).mono ?_;rintro e w2 ⟨rfl,hb⟩;have AF_2:=zd AF_1 hb;have T_2:=zh (T_1.out.keep hb);have U_2:=zh (U_1.out.keep hb);have S_2:=zh (S_1.out.keep hb);have R_2:=zh (R_1.out.keep hb);clear hb AF_1 T_1 U_1 S_1 R_1;obtain ⟨aa,ab,ac,ad,ae,af,ag,ah⟩:=T_2.out.z7;obtain ⟨ai,aj,ak,al,am,an,ao,ap⟩:=U_2.out.z7;go_wp2
          go_ret
          exact ⟨rfl,AF_2.out⟩
      · have kc:(s.a==t.a)=false:=by rw [beq_eq_false_iff_ne];exact c
        rw [zdf c,Bool.false_and,Bool.false_and];clear c E3
        go_enter Tryz.func24,Tryz.ntmps24
        obtain ⟨aa,ab,ac,ad,ae,af,ag,ah⟩:=T_0.out.z7;obtain ⟨ai,aj,ak,al,am,an,ao,ap⟩:=U_0.out.z7;go_wp2_with fail
        clear aa ab ac ad ae af ag ai aj ak al am an ao ah ap;generalize ((w.alloc (.cells #[.int .i64 s.P,.slice osa s.A.length csa,.int .i64 s.Q,.slice osb s.B.length csb,.int .i64 s.a,.int .i64 s.b,.slice osl s.L.length csl] 26)).alloc (.cells #[.int .i64 t.P,.slice ota t.A.length cta,.int .i64 t.Q,.slice otb t.B.length ctb,.int .i64 t.a,.int .i64 t.b,.slice otl t.L.length ctl] 26))=w0 at *;refine (E1.out _ S_0.out.a R_0.out.a).mono ?_;rintro e w1 ⟨rfl,hb⟩;have AF_1:=zd AF_0 hb;have T_1:=zh (T_0.out.keep hb);have U_1:=zh (U_0.out.keep hb);have S_1:=zh (S_0.out.keep hb);have R_1:=zh (R_0.out.keep hb);clear hb AF_0 T_0 U_0 S_0 R_0;obtain ⟨aa,ab,ac,ad,ae,af,ag,ah⟩:=T_1.out.z7;obtain ⟨ai,aj,ak,al,am,an,ao,ap⟩:=U_1.out.z7;go_wp2_with fail
        clear aa ab ac ad ae af ag ai aj ak al am an ao ah ap;refine (E2.out _ S_1.out.b R_1.out.b).mono ?_;rintro e w2 ⟨rfl,hb⟩;have AF_2:=zd AF_1 hb;have T_2:=zh (T_1.out.keep hb);have U_2:=zh (U_1.out.keep hb);have S_2:=zh (S_1.out.keep hb);have R_2:=zh (R_1.out.keep hb);clear hb AF_1 T_1 U_1 S_1 R_1;obtain ⟨aa,ab,ac,ad,ae,af,ag,ah⟩:=T_2.out.z7;obtain ⟨ai,aj,ak,al,am,an,ao,ap⟩:=U_2.out.z7;go_wp2
        go_ret
        exact ⟨rfl,AF_2.out⟩
noncomputable def gvB (P:Int) (A:List Sp) (Q:Int) (B:List Sp) (lo hi:Int) (l:List Sp):Bool :=
 decide (lo≤hi)&&(nvB lo&&(nvB hi&&(pvB P A&&(pvB Q B&&(vaB l&&(decide (l.length=0) || (decide (lo≤(l.getD 0 (0,0)).1)&&decide ((l.getD (l.length - 1) (0,0)).2≤hi))))))))
theorem gvb_iff {P Q lo hi:Int} {A B l:List Sp}:gvB P A Q B lo hi l=true↔givB P A Q B lo hi l:=by
 unfold gvB givB
 simp only [Bool.and_eq_true,Bool.or_eq_true,decide_eq_true_eq]
set_option maxRecDepth 100000 in
set_option maxHeartbeats 4000000 in
theorem rtgiven (va vb vl:Value) (P Q:Int) (A B l:List Sp) (hA:A.length≤maxLen) (hB:B.length≤maxLen) (hl:l.length≤maxLen) (hP:I64 P) (hQ:I64 Q) (lo hi:Int) (h1:I64 lo) (h2:I64 hi) {ba bb bl:Nat} (w:World) (a:PairS ba w va A) (b:PairS bb w vb B) (pl:PairS bl w vl l) :
    Calls Tryz.prog 64 #[.agg #[.int .i64 P,va],.agg #[.int .i64 Q,vb],.int .i64 lo,.int .i64 hi,vl] w fun e w'=>e=.returned (.bool (gvB P A Q B lo hi l))∧Below w.heap.size w w':=by
  obtain ⟨oa,ca,rfl⟩:=prs_shape a;obtain ⟨ob,cb,rfl⟩:=prs_shape b;obtain ⟨ol,cl,rfl⟩:=prs_shape pl;have AF_0:=zh (grow (grow (here w) (.cells #[.int .i64 P,.slice oa A.length ca] 24)) (.cells #[.int .i64 Q,.slice ob B.length cb] 24));have T_0:=zh ((Bxs.new (w:=w) [.int .i64 P,.slice oa A.length ca] 24).old (.cells #[.int .i64 Q,.slice ob B.length cb] 24));have U_0:=zh (Bxs.snd (w:=w) (o:=(.cells #[.int .i64 P,.slice oa A.length ca] 24)) [.int .i64 Q,.slice ob B.length cb] 24);have Sa_0:=zh (a.keep AF_0.out);have Sb_0:=zh (b.keep AF_0.out);have Sl_0:=zh (pl.keep AF_0.out);clear a b pl;have L1:=zh (fun W=>rtline lo W);have L2:=zh (fun W=>rtline hi W);have V1:=zh (fun W (h:PairS ba W (.slice oa A.length ca) A)=>rpvalid _ P A hA hP W h);have V2:=zh (fun W (h:PairS bb W (.slice ob B.length cb) B)=>rpvalid _ Q B hB hQ W h);have V3:=zh (fun W (h:PairS bl W (.slice ol l.length cl) l)=>rnvalid _ l hl W h)
  unfold gvB
  generalize nvB lo=n1 at *;generalize nvB hi=n2 at *;generalize pvB P A=p1 at *;generalize pvB Q B=p2 at *;generalize vaB l=v1 at *;have mx:l.length≤9223372036854775807:=hl;clear hA hB hP hQ
  by_cases c:lo≤hi
  · have kc:decide (hi<lo)=false:=zdf (by omega);rw [zdt c,Bool.true_and];clear c
    cases n1
    · rw [Bool.false_and]
      go_enter Tryz.func64,Tryz.ntmps64
      obtain ⟨aa,ab,ac⟩:=T_0.out.z2;obtain ⟨ad,ae,af⟩:=U_0.out.z2;go_wp2_with fail
      clear aa ab ad ae ac af;generalize ((w.alloc (.cells #[.int .i64 P,.slice oa A.length ca] 24)).alloc (.cells #[.int .i64 Q,.slice ob B.length cb] 24))=w0 at *;refine (L1.out _).mono ?_;rintro e w' ⟨rfl,rfl⟩;obtain ⟨aa,ab,ac⟩:=T_0.out.z2;obtain ⟨ad,ae,af⟩:=U_0.out.z2;go_wp2
      go_ret
      exact ⟨rfl,AF_0.out⟩
    · rw [Bool.true_and]
      cases n2
      · rw [Bool.false_and]
        go_enter Tryz.func64,Tryz.ntmps64
        obtain ⟨aa,ab,ac⟩:=T_0.out.z2;obtain ⟨ad,ae,af⟩:=U_0.out.z2;go_wp2_with fail
        clear aa ab ad ae ac af;generalize ((w.alloc (.cells #[.int .i64 P,.slice oa A.length ca] 24)).alloc (.cells #[.int .i64 Q,.slice ob B.length cb] 24))=w0 at *;refine (L1.out _).mono ?_;rintro e w' ⟨rfl,rfl⟩;obtain ⟨aa,ab,ac⟩:=T_0.out.z2;obtain ⟨ad,ae,af⟩:=U_0.out.z2;go_wp2_with fail
        clear aa ab ad ae ac af;refine (L2.out _).mono ?_;rintro e w' ⟨rfl,rfl⟩;obtain ⟨aa,ab,ac⟩:=T_0.out.z2;obtain ⟨ad,ae,af⟩:=U_0.out.z2;go_wp2
        go_ret
        exact ⟨rfl,AF_0.out⟩
      · rw [Bool.true_and]
        cases p1
        · rw [Bool.false_and]
          go_enter Tryz.func64,Tryz.ntmps64
          obtain ⟨aa,ab,ac⟩:=T_0.out.z2;obtain ⟨ad,ae,af⟩:=U_0.out.z2;go_wp2_with fail
          clear aa ab ad ae ac af;generalize ((w.alloc (.cells #[.int .i64 P,.slice oa A.length ca] 24)).alloc (.cells #[.int .i64 Q,.slice ob B.length cb] 24))=w0 at *;refine (L1.out _).mono ?_;rintro e w' ⟨rfl,rfl⟩;obtain ⟨aa,ab,ac⟩:=T_0.out.z2;obtain ⟨ad,ae,af⟩:=U_0.out.z2;go_wp2_with fail
          clear aa ab ad ae ac af;refine (L2.out _).mono ?_;rintro e w' ⟨rfl,rfl⟩;obtain ⟨aa,ab,ac⟩:=T_0.out.z2;obtain ⟨ad,ae,af⟩:=U_0.out.z2;go_wp2_with fail
          clear aa ab ad ae ac af;refine (V1.out _ Sa_0.out).mono ?_;rintro e w1 ⟨rfl,hb⟩;have AF_1:=zd AF_0 hb;have T_1:=zh (T_0.out.keep hb);have U_1:=zh (U_0.out.keep hb);have Sa_1:=zh (Sa_0.out.keep hb);have Sb_1:=zh (Sb_0.out.keep hb);have Sl_1:=zh (Sl_0.out.keep hb);clear hb AF_0 T_0 U_0 Sa_0 Sb_0 Sl_0;obtain ⟨aa,ab,ac⟩:=T_1.out.z2;obtain ⟨ad,ae,af⟩:=U_1.out.z2;go_wp2
          go_ret
          exact ⟨rfl,AF_1.out⟩
        · rw [Bool.true_and]
          cases p2
          · rw [Bool.false_and]
            go_enter Tryz.func64,Tryz.ntmps64
            obtain ⟨aa,ab,ac⟩:=T_0.out.z2;obtain ⟨ad,ae,af⟩:=U_0.out.z2;go_wp2_with fail
            clear aa ab ad ae ac af;generalize ((w.alloc (.cells #[.int .i64 P,.slice oa A.length ca] 24)).alloc (.cells #[.int .i64 Q,.slice ob B.length cb] 24))=w0 at *;refine (L1.out _).mono ?_;rintro e w' ⟨rfl,rfl⟩;obtain ⟨aa,ab,ac⟩:=T_0.out.z2;obtain ⟨ad,ae,af⟩:=U_0.out.z2;go_wp2_with fail
            clear aa ab ad ae ac af;refine (L2.out _).mono ?_;rintro e w' ⟨rfl,rfl⟩;obtain ⟨aa,ab,ac⟩:=T_0.out.z2;obtain ⟨ad,ae,af⟩:=U_0.out.z2;go_wp2_with fail
            clear aa ab ad ae ac af;refine (V1.out _ Sa_0.out).mono ?_;rintro e w1 ⟨rfl,hb⟩;have AF_1:=zd AF_0 hb;have T_1:=zh (T_0.out.keep hb);have U_1:=zh (U_0.out.keep hb);have Sa_1:=zh (Sa_0.out.keep hb);have Sb_1:=zh (Sb_0.out.keep hb);have Sl_1:=zh (Sl_0.out.keep hb);clear hb AF_0 T_0 U_0 Sa_0 Sb_0 Sl_0;obtain ⟨aa,ab,ac⟩:=T_1.out.z2;obtain ⟨ad,ae,af⟩:=U_1.out.z2;go_wp2_with fail
            clear aa ab ad ae ac af;refine (V2.out _ Sb_1.out).mono ?_;rintro e w2 ⟨rfl,hb⟩;have AF_2:=zd AF_1 hb;have T_2:=zh (T_1.out.keep hb);have U_2:=zh (U_1.out.keep hb);have Sa_2:=zh (Sa_1.out.keep hb);have Sb_2:=zh (Sb_1.out.keep hb);have Sl_2:=zh (Sl_1.out.keep hb);clear hb AF_1 T_1 U_1 Sa_1 Sb_1 Sl_1;obtain ⟨aa,ab,ac⟩:=T_2.out.z2;obtain ⟨ad,ae,af⟩:=U_2.out.z2;go_wp2
            go_ret
            exact ⟨rfl,AF_2.out⟩
          · rw [Bool.true_and]
            cases v1
            · rw [Bool.false_and]
              go_enter Tryz.func64,Tryz.ntmps64
              obtain ⟨aa,ab,ac⟩:=T_0.out.z2;obtain ⟨ad,ae,af⟩:=U_0.out.z2;go_wp2_with fail
              clear aa ab ad ae ac af;generalize ((w.alloc (.cells #[.int .i64 P,.slice oa A.length ca] 24)).alloc (.cells #[.int .i64 Q,.slice ob B.length cb] 24))=w0 at *;refine (L1.out _).mono ?_;rintro e w' ⟨rfl,rfl⟩;obtain ⟨aa,ab,ac⟩:=T_0.out.z2;obtain ⟨ad,ae,af⟩:=U_0.out.z2;go_wp2_with fail
              clear aa ab ad ae ac af;refine (L2.out _).mono ?_;rintro e w' ⟨rfl,rfl⟩;obtain ⟨aa,ab,ac⟩:=T_0.out.z2;obtain ⟨ad,ae,af⟩:=U_0.out.z2;go_wp2_with fail
              clear aa ab ad ae ac af;refine (V1.out _ Sa_0.out).mono ?_;rintro e w1 ⟨rfl,hb⟩;have AF_1:=zd AF_0 hb;have T_1:=zh (T_0.out.keep hb);have U_1:=zh (U_0.out.keep hb);have Sa_1:=zh (Sa_0.out.keep hb);have Sb_1:=zh (Sb_0.out.keep hb);have Sl_1:=zh (Sl_0.out.keep hb);clear hb AF_0 T_0 U_0 Sa_0 Sb_0 Sl_0;obtain ⟨aa,ab,ac⟩:=T_1.out.z2;obtain ⟨ad,ae,af⟩:=U_1.out.z2;go_wp2_with fail
              clear aa ab ad ae ac af;refine (V2.out _ Sb_1.out).mono ?_;rintro e w2 ⟨rfl,hb⟩;have AF_2:=zd AF_1 hb;have T_2:=zh (T_1.out.keep hb);have U_2:=zh (U_1.out.keep hb);have Sa_2:=zh (Sa_1.out.keep hb);have Sb_2:=zh (Sb_1.out.keep hb);have Sl_2:=zh (Sl_1.out.keep hb);clear hb AF_1 T_1 U_1 Sa_1 Sb_1 Sl_1;obtain ⟨aa,ab,ac⟩:=T_2.out.z2;obtain ⟨ad,ae,af⟩:=U_2.out.z2;go_wp2_with fail
              clear aa ab ad ae ac af;refine (V3.out _ Sl_2.out).mono ?_;rintro e w3 ⟨rfl,hb⟩;have AF_3:=zd AF_2 hb;have T_3:=zh (T_2.out.keep hb);have U_3:=zh (U_2.out.keep hb);have Sa_3:=zh (Sa_2.out.keep hb);have Sb_3:=zh (Sb_2.out.keep hb);have Sl_3:=zh (Sl_2.out.keep hb);clear hb AF_2 T_2 U_2 Sa_2 Sb_2 Sl_2;obtain ⟨aa,ab,ac⟩:=T_3.out.z2;obtain ⟨ad,ae,af⟩:=U_3.out.z2;go_wp2
              go_ret
              exact ⟨rfl,AF_3.out⟩
            · rw [Bool.true_and]
              by_cases z:l.length=0
              · have kz:((l.length:Int)==0)=true:=by rw [beq_iff_eq];omega
                rw [zdt z,Bool.true_or];clear z
                go_enter Tryz.func64,Tryz.ntmps64
                obtain ⟨aa,ab,ac⟩:=T_0.out.z2;obtain ⟨ad,ae,af⟩:=U_0.out.z2;go_wp2_with fail
                clear aa ab ad ae ac af;generalize ((w.alloc (.cells #[.int .i64 P,.slice oa A.length ca] 24)).alloc (.cells #[.int .i64 Q,.slice ob B.length cb] 24))=w0 at *;refine (L1.out _).mono ?_;rintro e w' ⟨rfl,rfl⟩;obtain ⟨aa,ab,ac⟩:=T_0.out.z2;obtain ⟨ad,ae,af⟩:=U_0.out.z2;go_wp2_with fail
                clear aa ab ad ae ac af;refine (L2.out _).mono ?_;rintro e w' ⟨rfl,rfl⟩;obtain ⟨aa,ab,ac⟩:=T_0.out.z2;obtain ⟨ad,ae,af⟩:=U_0.out.z2;go_wp2_with fail
                clear aa ab ad ae ac af;refine (V1.out _ Sa_0.out).mono ?_;rintro e w1 ⟨rfl,hb⟩;have AF_1:=zd AF_0 hb;have T_1:=zh (T_0.out.keep hb);have U_1:=zh (U_0.out.keep hb);have Sa_1:=zh (Sa_0.out.keep hb);have Sb_1:=zh (Sb_0.out.keep hb);have Sl_1:=zh (Sl_0.out.keep hb);clear hb AF_0 T_0 U_0 Sa_0 Sb_0 Sl_0;obtain ⟨aa,ab,ac⟩:=T_1.out.z2;obtain ⟨ad,ae,af⟩:=U_1.out.z2;go_wp2_with fail
                clear aa ab ad ae ac af;refine (V2.out _ Sb_1.out).mono ?_;rintro e w2 ⟨rfl,hb⟩;have AF_2:=zd AF_1 hb;have T_2:=zh (T_1.out.keep hb);have U_2:=zh (U_1.out.keep hb);have Sa_2:=zh (Sa_1.out.keep hb);have Sb_2:=zh (Sb_1.out.keep hb);have Sl_2:=zh (Sl_1.out.keep hb);clear hb AF_1 T_1 U_1 Sa_1 Sb_1 Sl_1;obtain ⟨aa,ab,ac⟩:=T_2.out.z2;obtain ⟨ad,ae,af⟩:=U_2.out.z2;go_wp2_with fail
                clear aa ab ad ae ac af;refine (V3.out _ Sl_2.out).mono ?_;rintro e w3 ⟨rfl,hb⟩;have AF_3:=zd AF_2 hb;have T_3:=zh (T_2.out.keep hb);have U_3:=zh (U_2.out.keep hb);have Sa_3:=zh (Sa_2.out.keep hb);have Sb_3:=zh (Sb_2.out.keep hb);have Sl_3:=zh (Sl_2.out.keep hb);clear hb AF_2 T_2 U_2 Sa_2 Sb_2 Sl_2;obtain ⟨aa,ab,ac⟩:=T_3.out.z2;obtain ⟨ad,ae,af⟩:=U_3.out.z2;go_wp2
                go_ret
                exact ⟨rfl,AF_3.out⟩
              · have kz:((l.length:Int)==0)=false:=by rw [beq_eq_false_iff_ne];omega
                rw [zdf z,Bool.false_or];obtain ⟨f0,hf0⟩:∃ f0,(l.getD 0 (0,0)).1=f0:=⟨_,rfl⟩;obtain ⟨g1,hg1⟩:∃ g1,(l.getD (l.length - 1) (0,0)).2=g1:=⟨_,rfl⟩;rw [hf0,hg1];replace hf0:=zh hf0;replace hg1:=zh hg1
                cases t1:decide (lo≤f0)
                · rw [Bool.false_and];have t2:True:=trivial
                  go_enter Tryz.func64,Tryz.ntmps64
                  obtain ⟨aa,ab,ac⟩:=T_0.out.z2;obtain ⟨ad,ae,af⟩:=U_0.out.z2;go_wp2_with fail
                  clear aa ab ad ae ac af;generalize ((w.alloc (.cells #[.int .i64 P,.slice oa A.length ca] 24)).alloc (.cells #[.int .i64 Q,.slice ob B.length cb] 24))=w0 at *;refine (L1.out _).mono ?_;rintro e w' ⟨rfl,rfl⟩;obtain ⟨aa,ab,ac⟩:=T_0.out.z2;obtain ⟨ad,ae,af⟩:=U_0.out.z2;go_wp2_with fail
                  clear aa ab ad ae ac af;refine (L2.out _).mono ?_;rintro e w' ⟨rfl,rfl⟩;obtain ⟨aa,ab,ac⟩:=T_0.out.z2;obtain ⟨ad,ae,af⟩:=U_0.out.z2;go_wp2_with fail
                  clear aa ab ad ae ac af;refine (V1.out _ Sa_0.out).mono ?_;rintro e w1 ⟨rfl,hb⟩;have AF_1:=zd AF_0 hb;have T_1:=zh (T_0.out.keep hb);have U_1:=zh (U_0.out.keep hb);have Sa_1:=zh (Sa_0.out.keep hb);have Sb_1:=zh (Sb_0.out.keep hb);have Sl_1:=zh (Sl_0.out.keep hb);clear hb AF_0 T_0 U_0 Sa_0 Sb_0 Sl_0;obtain ⟨aa,ab,ac⟩:=T_1.out.z2;obtain ⟨ad,ae,af⟩:=U_1.out.z2;go_wp2_with fail
                  clear aa ab ad ae ac af;refine (V2.out _ Sb_1.out).mono ?_;rintro e w2 ⟨rfl,hb⟩;have AF_2:=zd AF_1 hb;have T_2:=zh (T_1.out.keep hb);have U_2:=zh (U_1.out.keep hb);have Sa_2:=zh (Sa_1.out.keep hb);have Sb_2:=zh (Sb_1.out.keep hb);have Sl_2:=zh (Sl_1.out.keep hb);clear hb AF_1 T_1 U_1 Sa_1 Sb_1 Sl_1;obtain ⟨aa,ab,ac⟩:=T_2.out.z2;obtain ⟨ad,ae,af⟩:=U_2.out.z2;go_wp2_with fail
                  clear aa ab ad ae ac af;refine (V3.out _ Sl_2.out).mono ?_;rintro e w3 ⟨rfl,hb⟩;have AF_3:=zd AF_2 hb;have T_3:=zh (T_2.out.keep hb);have U_3:=zh (U_2.out.keep hb);have Sa_3:=zh (Sa_2.out.keep hb);have Sb_3:=zh (Sb_2.out.keep hb);have Sl_3:=zh (Sl_2.out.keep hb);clear hb AF_2 T_2 U_2 Sa_2 Sb_2 Sl_2;obtain ⟨b0,off,rfl,bl',cs⟩:=prs_here Sl_3.out (show 0<l.length by omega);obtain ⟨c0,c1⟩:=cs 0 (by omega);obtain ⟨e0,e1⟩:=cs (l.length - 1) (by omega);clear cs;obtain ⟨m,hm⟩:∃ m,l.length - 1=m:=⟨_,rfl⟩;rw [hg1.out] at e1;have hm2:(l.length:Int) - 1=m:=by omega
                  rw [hm] at e0 e1;rw [Nat.zero_mul,Nat.add_zero,hf0.out] at c0;have mb:m<l.length:=by omega
                  clear hm;go_wp2
                  go_ret
                  exact ⟨rfl,AF_3.out⟩
                · rw [Bool.true_and]
                  cases t2:decide (g1≤hi)
                  · skip
                    go_enter Tryz.func64,Tryz.ntmps64
                    obtain ⟨aa,ab,ac⟩:=T_0.out.z2;obtain ⟨ad,ae,af⟩:=U_0.out.z2;go_wp2_with fail
                    clear aa ab ad ae ac af;generalize ((w.alloc (.cells #[.int .i64 P,.slice oa A.length ca] 24)).alloc (.cells #[.int .i64 Q,.slice ob B.length cb] 24))=w0 at *;refine (L1.out _).mono ?_;rintro e w' ⟨rfl,rfl⟩;obtain ⟨aa,ab,ac⟩:=T_0.out.z2;obtain ⟨ad,ae,af⟩:=U_0.out.z2;go_wp2_with fail
                    clear aa ab ad ae ac af;refine (L2.out _).mono ?_;rintro e w' ⟨rfl,rfl⟩;obtain ⟨aa,ab,ac⟩:=T_0.out.z2;obtain ⟨ad,ae,af⟩:=U_0.out.z2;go_wp2_with fail
                    clear aa ab ad ae ac af;refine (V1.out _ Sa_0.out).mono ?_;rintro e w1 ⟨rfl,hb⟩;have AF_1:=zd AF_0 hb;have T_1:=zh (T_0.out.keep hb);have U_1:=zh (U_0.out.keep hb);have Sa_1:=zh (Sa_0.out.keep hb);have Sb_1:=zh (Sb_0.out.keep hb);have Sl_1:=zh (Sl_0.out.keep hb);clear hb AF_0 T_0 U_0 Sa_0 Sb_0 Sl_0;obtain ⟨aa,ab,ac⟩:=T_1.out.z2;obtain ⟨ad,ae,af⟩:=U_1.out.z2;go_wp2_with fail
                    clear aa ab ad ae ac af;refine (V2.out _ Sb_1.out).mono ?_;rintro e w2 ⟨rfl,hb⟩;have AF_2:=zd AF_1 hb;have T_2:=zh (T_1.out.keep hb);have U_2:=zh (U_1.out.keep hb);have Sa_2:=zh (Sa_1.out.keep hb);have Sb_2:=zh (Sb_1.out.keep hb);have Sl_2:=zh (Sl_1.out.keep hb);clear hb AF_1 T_1 U_1 Sa_1 Sb_1 Sl_1;obtain ⟨aa,ab,ac⟩:=T_2.out.z2;obtain ⟨ad,ae,af⟩:=U_2.out.z2;go_wp2_with fail
                    clear aa ab ad ae ac af;refine (V3.out _ Sl_2.out).mono ?_;rintro e w3 ⟨rfl,hb⟩;have AF_3:=zd AF_2 hb;have T_3:=zh (T_2.out.keep hb);have U_3:=zh (U_2.out.keep hb);have Sa_3:=zh (Sa_2.out.keep hb);have Sb_3:=zh (Sb_2.out.keep hb);have Sl_3:=zh (Sl_2.out.keep hb);clear hb AF_2 T_2 U_2 Sa_2 Sb_2 Sl_2;obtain ⟨b0,off,rfl,bl',cs⟩:=prs_here Sl_3.out (show 0<l.length by omega);obtain ⟨c0,c1⟩:=cs 0 (by omega);obtain ⟨e0,e1⟩:=cs (l.length - 1) (by omega);clear cs;obtain ⟨m,hm⟩:∃ m,l.length - 1=m:=⟨_,rfl⟩;rw [hg1.out] at e1;have hm2:(l.length:Int) - 1=m:=by omega
                    rw [hm] at e0 e1;rw [Nat.zero_mul,Nat.add_zero,hf0.out] at c0;have mb:m<l.length:=by omega
                    clear hm;go_wp2
                    go_ret
                    exact ⟨rfl,AF_3.out⟩
                  · skip
                    go_enter Tryz.func64,Tryz.ntmps64
                    obtain ⟨aa,ab,ac⟩:=T_0.out.z2;obtain ⟨ad,ae,af⟩:=U_0.out.z2;go_wp2_with fail
                    clear aa ab ad ae ac af;generalize ((w.alloc (.cells #[.int .i64 P,.slice oa A.length ca] 24)).alloc (.cells #[.int .i64 Q,.slice ob B.length cb] 24))=w0 at *;refine (L1.out _).mono ?_;rintro e w' ⟨rfl,rfl⟩;obtain ⟨aa,ab,ac⟩:=T_0.out.z2;obtain ⟨ad,ae,af⟩:=U_0.out.z2;go_wp2_with fail
                    clear aa ab ad ae ac af;refine (L2.out _).mono ?_;rintro e w' ⟨rfl,rfl⟩;obtain ⟨aa,ab,ac⟩:=T_0.out.z2;obtain ⟨ad,ae,af⟩:=U_0.out.z2;go_wp2_with fail
                    clear aa ab ad ae ac af;refine (V1.out _ Sa_0.out).mono ?_;rintro e w1 ⟨rfl,hb⟩;have AF_1:=zd AF_0 hb;have T_1:=zh (T_0.out.keep hb);have U_1:=zh (U_0.out.keep hb);have Sa_1:=zh (Sa_0.out.keep hb);have Sb_1:=zh (Sb_0.out.keep hb);have Sl_1:=zh (Sl_0.out.keep hb);clear hb AF_0 T_0 U_0 Sa_0 Sb_0 Sl_0;obtain ⟨aa,ab,ac⟩:=T_1.out.z2;obtain ⟨ad,ae,af⟩:=U_1.out.z2;go_wp2_with fail
                    clear aa ab ad ae ac af;refine (V2.out _ Sb_1.out).mono ?_;rintro e w2 ⟨rfl,hb⟩;have AF_2:=zd AF_1 hb;have T_2:=zh (T_1.out.keep hb);have U_2:=zh (U_1.out.keep hb);have Sa_2:=zh (Sa_1.out.keep hb);have Sb_2:=zh (Sb_1.out.keep hb);have Sl_2:=zh (Sl_1.out.keep hb);clear hb AF_1 T_1 U_1 Sa_1 Sb_1 Sl_1;obtain ⟨aa,ab,ac⟩:=T_2.out.z2;obtain ⟨ad,ae,af⟩:=U_2.out.z2;go_wp2_with fail
                    clear aa ab ad ae ac af;refine (V3.out _ Sl_2.out).mono ?_;rintro e w3 ⟨rfl,hb⟩;have AF_3:=zd AF_2 hb;have T_3:=zh (T_2.out.keep hb);have U_3:=zh (U_2.out.keep hb);have Sa_3:=zh (Sa_2.out.keep hb);have Sb_3:=zh (Sb_2.out.keep hb);have Sl_3:=zh (Sl_2.out.keep hb);clear hb AF_2 T_2 U_2 Sa_2 Sb_2 Sl_2;obtain ⟨b0,off,rfl,bl',cs⟩:=prs_here Sl_3.out (show 0<l.length by omega);obtain ⟨c0,c1⟩:=cs 0 (by omega);obtain ⟨e0,e1⟩:=cs (l.length - 1) (by omega);clear cs;obtain ⟨m,hm⟩:∃ m,l.length - 1=m:=⟨_,rfl⟩;rw [hg1.out] at e1;have hm2:(l.length:Int) - 1=m:=by omega
                    rw [hm] at e0 e1;rw [Nat.zero_mul,Nat.add_zero,hf0.out] at c0;have mb:m<l.length:=by omega
                    clear hm;go_wp2
                    go_ret
                    exact ⟨rfl,AF_3.out⟩
  · have kc:decide (hi<lo)=true:=zdt (by omega);rw [zdf c,Bool.false_and];clear c
    go_enter Tryz.func64,Tryz.ntmps64
    obtain ⟨aa,ab,ac⟩:=T_0.out.z2;obtain ⟨ad,ae,af⟩:=U_0.out.z2;go_wp2
    go_ret
    exact ⟨rfl,AF_0.out⟩
theorem dd_list {P Q m:Int} {A B:List Sp}:cbL 3 (cbL 1 (caL (hsP P A) 0 m) (caL (hsP Q B) 0 m)) (cbL 2 (caL (hsP P A) 0 m) (caL (hsP Q B) 0 m))=caL (ddB P A Q B) 0 m:=by
 refine ca_eq (cb_spec 3 _ _).1 fun x=>?_;rw [(cb_spec 3 _ _).2.1,(cb_spec 1 _ _).2.1,(cb_spec 2 _ _).2.1,ca_in,ca_in]
 unfold ddB
 generalize (decide (0≤x)&&decide (x<m))=d;generalize hsP P A x=p;generalize hsP Q B x=q
 cases d <;> cases p <;> cases q <;> rfl
def pqM (P:Int) (A:List Sp) (Q:Int) (B:List Sp):Int:=if P=Q∧A=B then P else (prR P Q A.length B.length).1
set_option maxRecDepth 100000 in
set_option maxHeartbeats 4000000 in
theorem rtdiffer (va vb:Value) (P Q:Int) (A B:List Sp) (pv:PV P A) (qv:PV Q B) (m:Int) (m0:0<m) (m1:m≤12622780800) (dP:P ∣ m) (dQ:Q ∣ m) (la:(caL (hsP P A) 0 m).length≤2000) (lb:(caL (hsP Q B) 0 m).length≤2000) {ba bb:Nat} (w:World) (a:PairS ba w va A) (b:PairS bb w vb B) :
    Calls Tryz.prog 121 #[.agg #[.int .i64 P,va],.agg #[.int .i64 Q,vb],.int .i64 m] w fun e w'=>(∃ v',e=.returned v'∧PairS w.heap.size w' v' (caL (ddB P A Q B) 0 m))∧Below w.heap.size w w':=by
  obtain ⟨oa,ca,rfl⟩:=prs_shape a;obtain ⟨ob,cb,rfl⟩:=prs_shape b;have A1:=zh (grow (grow (here w) (.cells #[.int .i64 P,.slice oa A.length ca] 24)) (.cells #[.int .i64 Q,.slice ob B.length cb] 24));have TA:=zh (Two.fst (here ((w.alloc (.cells #[.int .i64 P,.slice oa A.length ca] 24)).alloc (.cells #[.int .i64 Q,.slice ob B.length cb] 24))));have TB:=zh (Two.snd (here ((w.alloc (.cells #[.int .i64 P,.slice oa A.length ca] 24)).alloc (.cells #[.int .i64 Q,.slice ob B.length cb] 24))));have PA1:=zh (a.keep A1.out);have PB1:=zh (b.keep A1.out);clear a b;have DL:=zh (dd_list (P:=P) (Q:=Q) (m:=m) (A:=A) (B:=B));have cX:=ca_cn (hsP P A) 0 m;have cY:=ca_cn (hsP Q B) 0 m;have SPA0:Hid (∀ W,PairS ba W (.slice oa A.length ca) A→Calls Tryz.prog 112 #[.agg #[.int .i64 P,.slice oa A.length ca],.int .i64 m] W fun e w'=>(∃ v',e=.returned v'∧PairS 0 w' v' (caL (hsP P A) 0 m))∧Below W.heap.size W w'):=fun W h=>rpspread _ P A pv m m0 m1 dP la W h;have SPB0:Hid (∀ W,PairS bb W (.slice ob B.length cb) B→Calls Tryz.prog 112 #[.agg #[.int .i64 Q,.slice ob B.length cb],.int .i64 m] W fun e w'=>(∃ v',e=.returned v'∧PairS 0 w' v' (caL (hsP Q B) 0 m))∧Below W.heap.size W w'):=fun W h=>rpspread _ Q B qv m m0 m1 dQ lb W h;generalize caL (hsP P A) 0 m=X at *;generalize caL (hsP Q B) 0 m=Y at *;have L1:Hid (∀ W v u,PairS 0 W v X→PairS 0 W u Y→Calls Tryz.prog 83 #[v,u,.int .i64 0] W fun e w'=>(∃ v',e=.returned v'∧PairS W.heap.size w' v' (cbL 1 X Y))∧Below W.heap.size W w'):=fun W v u h k=>by have r:=rplists v u X Y (by omega) (by omega) cX cY 0 (by omega) (by omega) W h k;exact r
  have L2:Hid (∀ W v u,PairS 0 W v X→PairS 0 W u Y→Calls Tryz.prog 83 #[v,u,.int .i64 1] W fun e w'=>(∃ v',e=.returned v'∧PairS W.heap.size w' v' (cbL 2 X Y))∧Below W.heap.size W w'):=fun W v u h k=>by have r:=rplists v u X Y (by omega) (by omega) cX cY 1 (by omega) (by omega) W h k;exact r
  have l1:=(cb_spec 1 X Y).2.2.2;have l2:=(cb_spec 2 X Y).2.2.2;have c1:=(cb_spec 1 X Y).1;have c2:=(cb_spec 2 X Y).1;have L3:Hid (∀ W v u b1 b2,PairS b1 W v (cbL 1 X Y)→PairS b2 W u (cbL 2 X Y)→Calls Tryz.prog 83 #[v,u,.int .i64 2] W fun e w'=>(∃ v',e=.returned v'∧PairS W.heap.size w' v' (cbL 3 (cbL 1 X Y) (cbL 2 X Y)))∧Below W.heap.size W w'):=fun W v u b1 b2 h k=>by have r:=rplists v u (cbL 1 X Y) (cbL 2 X Y) (by omega) (by omega) c1 c2 2 (by omega) (by omega) W h k;exact r
  clear l1 l2 c1 c2 cX cY la lb;obtain ⟨ta,tb,tl⟩:=TA.out;obtain ⟨ua,ub,ul⟩:=TB.out
  go_enter Tryz.func121,Tryz.ntmps121
  go_wp2
  generalize ((w.alloc (.cells #[.int .i64 P,.slice oa A.length ca] 24)).alloc (.cells #[.int .i64 Q,.slice ob B.length cb] 24))=w1 at *;have SPA:=zh (fun W (x:Below w1.heap.size w1 W)=>SPA0.out W (PA1.out.keep x));have SPB:=zh (fun W (x:Below w1.heap.size w1 W)=>SPB0.out W (PB1.out.keep x));clear SPA0 SPB0
  go_region_with (first
  | (go_at_call 112;(with_reducible refine (SPA.out _ (Below.drew (here _))).mono ?_);rintro e w4 ⟨⟨v4,rfl,P4⟩,hb⟩;have hB4:=zh (down (Below.drew (here w1)) hb);have ta:=(TA.out.keep hB4.out).c0;have tb:=(TA.out.keep hB4.out).c1;have tl:=(TA.out.keep hB4.out).lt;have ua:=(TB.out.keep hB4.out).c0;have ub:=(TB.out.keep hB4.out).c1;have ul:=(TB.out.keep hB4.out).lt;replace P4:=zh P4;clear hb)
  | (go_at_call 112;(with_reducible refine (SPB.out _ hB4.out).mono ?_);rintro e w5 ⟨⟨v5,rfl,P5⟩,hb⟩;have hB5:=zd hB4 hb;(replace P4:=zh (PairS.keep P4.out hb));have ta:=(TA.out.keep hB5.out).c0;have tb:=(TA.out.keep hB5.out).c1;have tl:=(TA.out.keep hB5.out).lt;have ua:=(TB.out.keep hB5.out).c0;have ub:=(TB.out.keep hB5.out).c1;have ul:=(TB.out.keep hB5.out).lt;replace P5:=zh P5;clear hb))
  all_goals
    have A5:=zh (down A1.out hB5.out);clear ta tb tl ua ub ul;go_wp2_with fail
    refine (L1.out _ _ _ P4.out P5.out).mono ?_;rintro e w6 ⟨⟨v6,rfl,P6⟩,hb⟩;have A6:=zd A5 hb;have P4':=zh (PairS.keep P4.out hb);have P5':=zh (PairS.keep P5.out hb);replace P6:=zh P6;clear hb;go_wp2_with fail
    refine (L2.out _ _ _ P4'.out P5'.out).mono ?_;rintro e w7 ⟨⟨v7,rfl,P7⟩,hb⟩;have A7:=zd A6 hb;have P6':=zh (PairS.keep P6.out hb);replace P7:=zh P7;clear hb;go_wp2_with fail
    refine (L3.out _ _ _ _ _ P6'.out P7.out).mono ?_;rintro e w8 ⟨⟨v8,rfl,P8⟩,hb⟩;have A8:=zd A7 hb;have P9:Hid (PairS w.heap.size w8 v8 (caL (ddB P A Q B) 0 m)):=by show PairS _ _ _ _;rw [← DL.out];exact Sl.weak P8 A7.out.size
    clear hb P8;go_wp2
    go_ret
    exact ⟨⟨_,rfl,P9.out⟩,A8.out⟩
set_option maxRecDepth 100000 in
set_option maxHeartbeats 2000000 in
theorem rtpair (va vb:Value) (P Q:Int) (A B:List Sp) (pv:PV P A) (qv:PV Q B) {ba bb:Nat} (w:World) (a:PairS ba w va A) (b:PairS bb w vb B) :
    Calls Tryz.prog 82 #[.agg #[.int .i64 P,va],.agg #[.int .i64 Q,vb]] w fun e w'=>e=.returned (.tuple #[.int .i64 (pqM P A Q B),.int .i64 (pqE P A Q B)])∧Below w.heap.size w w':=by
  obtain ⟨oa,ca,rfl⟩:=prs_shape a;obtain ⟨ob,cb,rfl⟩:=prs_shape b;have A1:=zh (grow (grow (here w) (.cells #[.int .i64 P,.slice oa A.length ca] 24)) (.cells #[.int .i64 Q,.slice ob B.length cb] 24));have TA:=zh (Two.fst (here ((w.alloc (.cells #[.int .i64 P,.slice oa A.length ca] 24)).alloc (.cells #[.int .i64 Q,.slice ob B.length cb] 24))));have TB:=zh (Two.snd (here ((w.alloc (.cells #[.int .i64 P,.slice oa A.length ca] 24)).alloc (.cells #[.int .i64 Q,.slice ob B.length cb] 24))));have PA1:=zh (a.keep A1.out);have PB1:=zh (b.keep A1.out);clear a b;have lA:=pv.len;have lB:=qv.len;have p0:=pv.p0;have p1:=pv.p1;have q0:=qv.p0;have q1:=qv.p1;have EQ:=zh (fun W (h:PairS ba W (.slice oa A.length ca) A) (k:PairS bb W (.slice ob B.length cb) B)=>rpequal _ _ P Q A B (le_mx (by omega)) (le_mx (by omega)) W h k);have PR:=zh (fun W (h:PairS ba W (.slice oa A.length ca) A) (k:PairS bb W (.slice ob B.length cb) B)=>rppair _ _ P Q A B lA lB p0 p1 q0 q1 W h k)
  unfold pqM pqE
  obtain ⟨ta,tb,tl⟩:=TA.out;obtain ⟨ua,ub,ul⟩:=TB.out
  by_cases e:P=Q∧A=B
  · rw [zdt e.1,zdt e.2] at EQ;rw [if_pos e,if_pos e];clear e PR
    go_enter Tryz.func82,Tryz.ntmps82
    go_wp2_with fail
    clear ta tb tl ua ub ul;generalize ((w.alloc (.cells #[.int .i64 P,.slice oa A.length ca] 24)).alloc (.cells #[.int .i64 Q,.slice ob B.length cb] 24))=w1 at *;refine (EQ.out _ PA1.out PB1.out).mono ?_;rintro e w2 ⟨rfl,hb⟩;have A2:=zd A1 hb;obtain ⟨ta,tb,tl⟩:=TA.out.keep hb;clear hb;go_wp2
    go_ret2
    exact ⟨rfl,A2.out⟩
  · have e':(decide (P=Q)&&decide (A=B))=false:=by
      rw [← Bool.not_eq_true,Bool.and_eq_true,decide_eq_true_iff,decide_eq_true_iff];exact e
    rw [e'] at EQ;rw [if_neg e,if_neg e];clear e e';generalize (prR P Q A.length B.length).1=M at *;generalize (prR P Q A.length B.length).2=E at *
    go_enter Tryz.func82,Tryz.ntmps82
    go_wp2_with fail
    clear ta tb tl ua ub ul;generalize ((w.alloc (.cells #[.int .i64 P,.slice oa A.length ca] 24)).alloc (.cells #[.int .i64 Q,.slice ob B.length cb] 24))=w1 at *;refine (EQ.out _ PA1.out PB1.out).mono ?_;rintro e w2 ⟨rfl,hb⟩;have A2:=zd A1 hb;have PA2:=zh (PA1.out.keep hb);have PB2:=zh (PB1.out.keep hb);obtain ⟨ta,tb,tl⟩:=TA.out.keep hb;obtain ⟨ua,ub,ul⟩:=TB.out.keep hb;clear hb;go_wp2_with fail
    clear ta tb tl ua ub ul;refine (PR.out _ PA2.out PB2.out).mono ?_;rintro e w3 ⟨rfl,hb⟩;have A3:=zd A2 hb;clear hb;go_wp2
    go_ret2
    exact ⟨rfl,A3.out⟩
theorem ch_snoc {P:Int} {A:List Sp} {k:Nat} (h:k<A.length):chL P A (A.take (k+1))=chL P A (A.take k)++chS P A (A.getD k (0,0)):=by
 rw [tak_snoc A h,ch_app]
 show _++(chS P A (A.getD k (0,0))++[])=_
 rw [List.append_nil]
theorem ch_parts {P:Int} {A:List Sp} {q:Sp} {a b c d:Bool} (ha:hsP P A q.1=a) (hb:hsP P A (q.1 - 1)=b) (hc:hsP P A (q.2 % P)=c) (hd:hsP P A (q.2 % P - 1)=d) :
    chS P A q=(if (a != b)=true then [q.1] else [])++(if (c != d)=true then [q.2 % P] else []):=by
  unfold chS
  rw [ha,hb,hc,hd]
  simp only [bne_iff_ne,ne_eq]
set_option maxRecDepth 100000 in
set_option maxHeartbeats 4000000 in
theorem rtchanges (va:Value) (P:Int) (A:List Sp) (pv:PV P A) {ba:Nat} (w:World) (a:PairS ba w va A) :
    Calls Tryz.prog 143 #[.agg #[.int .i64 P,va]] w fun e w'=>(∃ v',e=.returned v'∧IntS w.heap.size w' v' (chL P A A))∧Below w.heap.size w w':=by
  obtain ⟨i0,hi,hz0,hz1,hz2⟩:=info_parts infoI;obtain ⟨oa,ca,rfl⟩:=prs_shape a;have A1:=zh (grow (here w) (.cells #[.int .i64 P,.slice oa A.length ca] 24));have TA:=zh (Two.new (t:=24) (x:=.int .i64 P) (y:=.slice oa A.length ca) (here (w.alloc (.cells #[.int .i64 P,.slice oa A.length ca] 24))));have PA1:=zh (a.keep A1.out);have p0:=pv.p0;have p1:=pv.p1;have alen:=pv.len;have HS:=zh (fun W x (hx:I64 x) (h:PairS ba W (.slice oa A.length ca) A)=>rphas _ P A (le_mx (by omega)) (by omega) (by omega) x hx W h);obtain ⟨n,hn⟩:∃ n,A.length=n:=⟨_,rfl⟩;rw [hn] at A1 TA PA1 HS alen ⊢;clear a
  go_enter Tryz.func143,Tryz.ntmps143
  go_wp2
  generalize (w.alloc (.cells #[.int .i64 P,.slice oa n ca] 24))=w1 at *;have L0:=zh (here w1);have I0:Hid (w1.ownsRow w1.heap.size 3 1 (.slice none 0 0) ([]:List Int).length (ints [])):=World.ownsRow_nil _ _ _ _;have S0:Hid ([]=chL P A (A.take 0)):=rfl
  go_loopw [3,4] (fun v t wr=>∃ (k:Nat) (v':Value) (M:List Int),v'=v∧k≤n∧M.length≤2 * k∧t=.int .i64 k∧Hid (M=chL P A (A.take k))∧Hid (wr.ownsRow w1.heap.size 3 1 v M.length (ints M))∧Hid (Below w1.heap.size w1 wr)) (fun _ t _=>n - (intOf t).toNat)
  case atStart=>exact ⟨0,_,[],rfl,Nat.zero_le _,by simp,rfl,S0,I0,L0⟩
  case round =>
    obtain ⟨k,v',M,rfl,hk,lM,rfl,SM,OM,AM⟩:=hrel;clear L0 I0 S0;have TR:=zh (TA.out.keep AM.out);obtain ⟨ta,tb,tl⟩:=TR.out
    by_cases y:k<n
    · have ky:decide ((k:Int)<(n:Int))=true:=zdt (by omega);have PR:=zh (PA1.out.keep AM.out);obtain ⟨b,off,rfl,bl,cs⟩:=prs_here PR.out (show k<A.length by omega);obtain ⟨c0,c1⟩:=cs k (by omega);have SN:Hid (chL P A (A.take (k+1))=M++chS P A (A.getD k (0,0))):=by show _=_;rw [ch_snoc (by omega),SM.out]
      have b0:=(pv.ip _ (getD_mem (show k<A.length by omega))).1;have b1:=pv.cn.lt _ (getD_mem (show k<A.length by omega));have b2:=(pv.ip _ (getD_mem (show k<A.length by omega))).2;clear cs;obtain ⟨k1,hk1⟩:∃ k1,k+1=k1:=⟨_,rfl⟩;rw [hk1] at SN;generalize A.getD k (0,0)=q at *;obtain ⟨f,g⟩:=q;replace c0:wr.cell? ⟨b,off+k * 2,none⟩=some (.int .i64 f):=c0;replace c1:wr.cell? ⟨b,off+k * 2+1,none⟩=some (.int .i64 g):=c1;replace b0:0≤f:=b0;replace b1:f<g:=b1;replace b2:g≤P:=b2;obtain ⟨t,ht⟩:∃ t,g % P=t:=⟨_,rfl⟩;have t0:=Int.emod_nonneg g (show P≠0 by omega);have t2:=Int.emod_lt_of_pos g (show 0<P by omega);rw [ht] at t0 t2;have tm:g.tmod P=t:=by rw [Int.tmod_eq_emod_of_nonneg (by omega)];exact ht
      obtain ⟨f1,hf1⟩:∃ x,f - 1=x:=⟨_,rfl⟩;obtain ⟨t1,ht1⟩:∃ x,t - 1=x:=⟨_,rfl⟩;obtain ⟨b1',e1⟩:∃ x,hsP P A f=x:=⟨_,rfl⟩;obtain ⟨b2',e2⟩:∃ x,hsP P A f1=x:=⟨_,rfl⟩;obtain ⟨b3,e3⟩:∃ x,hsP P A t=x:=⟨_,rfl⟩;obtain ⟨b4,e4⟩:∃ x,hsP P A t1=x:=⟨_,rfl⟩;have CP:=ch_parts (P:=P) (A:=A) (q:=(f,g)) (show hsP P A f=b1' from e1) (show hsP P A (f - 1)=b2' by rw [hf1];exact e2) (show hsP P A (g % P)=b3 by rw [ht];exact e3) (show hsP P A (g % P - 1)=b4 by rw [ht,ht1];exact e4);rw [CP] at SN;replace SN:Hid (chL P A (A.take k1)=M++((if (b1' != b2')=true then [f] else [])++(if (b3 != b4)=true then [g % P] else []))):=SN;rw [ht] at SN;have Hf:=zh (fun W h=>by have r:=HS.out W f ⟨by omega,by omega⟩ h;rw [e1] at r;exact r);have Hf1:=zh (fun W h=>by have r:=HS.out W f1 ⟨by omega,by omega⟩ h;rw [e2] at r;exact r);have Ht:=zh (fun W h=>by have r:=HS.out W t ⟨by omega,by omega⟩ h;rw [e3] at r;exact r);have Ht1:=zh (fun W h=>by have r:=HS.out W t1 ⟨by omega,by omega⟩ h;rw [e4] at r;exact r);clear CP e1 e2 e3 e4;obtain ⟨m,hm⟩:∃ m,M.length=m:=⟨_,rfl⟩;rw [hm] at OM lM;obtain ⟨ao,cp,rfl⟩:=(Sl.owns OM.out).shape;go_wp2
      go_quiet (fail)
      obtain ⟨w2,hw2⟩:∃ w2:World,wr.drewN nq=w2:=⟨_,rfl⟩;rw [hw2];have A_w2:Hid (Below w1.heap.size w1 w2):=by show Below w1.heap.size w1 w2;rw [← hw2];exact below_drewN AM.out _
      have O_w2:Hid (w2.ownsRow w1.heap.size 3 1 (.slice ao m cp) m (ints M)):=by show w2.ownsRow w1.heap.size 3 1 (.slice ao m cp) m (ints M);rw [← hw2];exact OM.out
      clear hw2;clear AM OM TR PR ta tb tl c0 c1 bl
      by_cases d1':b1'=b2'
      · have d1:(b1' != b2')=false:=by rw [d1',bne,beq_self_eq_true];rfl
        rw [d1,if_neg (show ¬ (false=true) by decide),List.nil_append] at SN;subst d1';clear d1;have a0:∀ x':Kept w2,x'.wd.cell? ⟨w.heap.size,0,none⟩=some (.int .i64 P):=fun x'=>((TA.out.keep A_w2.out).keep x'.ok).c0;have a1:∀ x':Kept w2,x'.wd.cell? ⟨w.heap.size,1,none⟩=some (.slice (some ⟨b,off,none⟩) n ca):=fun x'=>((TA.out.keep A_w2.out).keep x'.ok).c1;have GA:Hid (∀ x':Kept w2,Calls Tryz.prog 69 #[.agg #[.int .i64 P,.slice (some ⟨b,off,none⟩) n ca],.int .i64 f] x'.wd fun e w'=>e=.returned (.bool (b1'))∧Below x'.wd.heap.size x'.wd w'):=fun x'=>Hf.out x'.wd ((PA1.out.keep A_w2.out).keep x'.ok);have GB:Hid (∀ x':Kept w2,Calls Tryz.prog 69 #[.agg #[.int .i64 P,.slice (some ⟨b,off,none⟩) n ca],.int .i64 f1] x'.wd fun e w'=>e=.returned (.bool (b1'))∧Below x'.wd.heap.size x'.wd w'):=fun x'=>Hf1.out x'.wd ((PA1.out.keep A_w2.out).keep x'.ok);go_wp2
        refine wp_region_kept (by kernel_rfl) (by kernel_rfl) ?_
        repeat (go_big_quiet_step ((go_at_call 69;first | (with_reducible exact kept_call _ (GA.out _)) | (with_reducible exact kept_call _ (GB.out _)))))
        refine wpQuiet_nil ?_;intro w3 hx;obtain ⟨⟨x3,hb⟩,hw⟩:=hx;replace hw:w3=x3:=hw;subst x3;have A_w3:=zd A_w2 hb;have O_w3:Hid (w3.ownsRow w1.heap.size 3 1 (.slice ao m cp) m (ints (M))):=by show World.ownsRow _ _ _ _ _ _ _;exact owns_below O_w2.out hb
        clear hb a0 a1 GA GB
        by_cases d2':b3=b4
        · have d2:(b3 != b4)=false:=by rw [d2',bne,beq_self_eq_true];rfl
          have EQ:Hid (M=chL P A (A.take k1)):=by show _=_;rw [SN.out,d2,if_neg (show ¬ (false=true) by decide),List.append_nil]
          subst d2';clear d2;have a0:∀ x':Kept w3,x'.wd.cell? ⟨w.heap.size,0,none⟩=some (.int .i64 P):=fun x'=>((TA.out.keep A_w3.out).keep x'.ok).c0;have a1:∀ x':Kept w3,x'.wd.cell? ⟨w.heap.size,1,none⟩=some (.slice (some ⟨b,off,none⟩) n ca):=fun x'=>((TA.out.keep A_w3.out).keep x'.ok).c1;have GA:Hid (∀ x':Kept w3,Calls Tryz.prog 69 #[.agg #[.int .i64 P,.slice (some ⟨b,off,none⟩) n ca],.int .i64 t] x'.wd fun e w'=>e=.returned (.bool (b3))∧Below x'.wd.heap.size x'.wd w'):=fun x'=>Ht.out x'.wd ((PA1.out.keep A_w3.out).keep x'.ok);have GB:Hid (∀ x':Kept w3,Calls Tryz.prog 69 #[.agg #[.int .i64 P,.slice (some ⟨b,off,none⟩) n ca],.int .i64 t1] x'.wd fun e w'=>e=.returned (.bool (b3))∧Below x'.wd.heap.size x'.wd w'):=fun x'=>Ht1.out x'.wd ((PA1.out.keep A_w3.out).keep x'.ok);go_wp2
          refine wp_region_kept (by kernel_rfl) (by kernel_rfl) ?_
          repeat (go_big_quiet_step ((go_at_call 69;first | (with_reducible exact kept_call _ (GA.out _)) | (with_reducible exact kept_call _ (GB.out _)))))
          refine wpQuiet_nil ?_;intro w3c hx;obtain ⟨⟨x3,hb⟩,hw⟩:=hx;replace hw:w3c=x3:=hw;subst x3;have A_w3c:=zd A_w3 hb;have O_w3c:Hid (w3c.ownsRow w1.heap.size 3 1 (.slice ao m cp) m (ints (M))):=by show World.ownsRow _ _ _ _ _ _ _;exact owns_below O_w3.out hb
          clear hb a0 a1 GA GB;go_wp2
          go_roundw
          case rel=>exact ⟨k1,(.slice ao m cp),M,rfl,by omega,by omega,by first | rfl | go_num,EQ,by rw [hm];exact O_w3c,A_w3c⟩
          case measure=>simp [intOf];omega
        · have d2:(b3 != b4)=true:=bne_iff_ne.2 d2';have EQ:Hid (M++[t]=chL P A (A.take k1)):=by show _=_;rw [SN.out,d2,if_pos rfl]
          obtain rfl:b4=!b3:=by cases b3 <;> cases b4 <;> simp_all
          clear d2 d2';have a0:∀ x':Kept w3,x'.wd.cell? ⟨w.heap.size,0,none⟩=some (.int .i64 P):=fun x'=>((TA.out.keep A_w3.out).keep x'.ok).c0;have a1:∀ x':Kept w3,x'.wd.cell? ⟨w.heap.size,1,none⟩=some (.slice (some ⟨b,off,none⟩) n ca):=fun x'=>((TA.out.keep A_w3.out).keep x'.ok).c1;have GA:Hid (∀ x':Kept w3,Calls Tryz.prog 69 #[.agg #[.int .i64 P,.slice (some ⟨b,off,none⟩) n ca],.int .i64 t] x'.wd fun e w'=>e=.returned (.bool (b3))∧Below x'.wd.heap.size x'.wd w'):=fun x'=>Ht.out x'.wd ((PA1.out.keep A_w3.out).keep x'.ok);have GB:Hid (∀ x':Kept w3,Calls Tryz.prog 69 #[.agg #[.int .i64 P,.slice (some ⟨b,off,none⟩) n ca],.int .i64 t1] x'.wd fun e w'=>e=.returned (.bool ((!b3)))∧Below x'.wd.heap.size x'.wd w'):=fun x'=>Ht1.out x'.wd ((PA1.out.keep A_w3.out).keep x'.ok);go_wp2
          refine wp_region_kept (by kernel_rfl) (by kernel_rfl) ?_
          repeat (go_big_quiet_step ((go_at_call 69;first | (with_reducible exact kept_call _ (GA.out _)) | (with_reducible exact kept_call _ (GB.out _)))))
          refine wpQuiet_nil ?_;intro w3c hx;obtain ⟨⟨x3,hb⟩,hw⟩:=hx;replace hw:w3c=x3:=hw;subst x3;have A_w3c:=zd A_w3 hb;have O_w3c:Hid (w3c.ownsRow w1.heap.size 3 1 (.slice ao m cp) m (ints (M))):=by show World.ownsRow _ _ _ _ _ _ _;exact owns_below O_w3.out hb
          clear hb a0 a1 GA GB;have CM:Hid (m+1≤maxLen):=by show _≤_;unfold maxLen;omega
          have sz:Hid (w1.heap.size≤(w3c.alloc (.cells #[.int .i64 t] 3)).heap.size):=by show _≤_;have:=A_w3c.out.size;simp;omega
          go_wp2_with (at_builtin;refine wpList_append_own _ rfl _ _ 129 rfl w1.heap.size 3 i0 (.int .i64 0) 1 8 Tryz.underlying129 hi hz0 hz1 hz2 rfl (by decide) ((.slice ao m cp)) (m) (ints (M)) rfl (O_w3c.out.alloc _) ⟨w3c.heap.size,0,none⟩ 1 1 [.int .i64 t] rfl rfl (fun j u hj=>by rw [Addr.add_lit,Nat.zero_add,World.cell?_alloc_new];simpa using hj) (fun u hu=>by simp at hu;subst hu;rfl) CM.out (by omega) sz.out ?_)
          intro v8 w8 hown hgrow _;have A_w8:Hid (Below w1.heap.size w1 w8):=(A_w3c.out.alloc A_w3c.out.size _).grown hgrow sz.out (own_ge O_w3c.out);have O_w8:Hid (w8.ownsRow w1.heap.size 3 1 v8 (m+1) (ints (M++[t]))):=by show World.ownsRow _ _ _ _ _ _ _;first | (rw [ints_app];exact hown) | (simpa [ints] using hown)
          clear hown hgrow CM sz;go_wp2
          go_roundw
          case rel=>exact ⟨k1,v8,M++[t],rfl,by omega,by rw [List.length_append,hm];simp;omega,by first | rfl | go_num,EQ,by rw [List.length_append,hm];exact O_w8,A_w8⟩
          case measure=>simp [intOf];omega
      · have d1:(b1' != b2')=true:=bne_iff_ne.2 d1';rw [d1,if_pos rfl,← List.append_assoc] at SN;obtain rfl:b2'=!b1':=by cases b1' <;> cases b2' <;> simp_all
        clear d1 d1';have a0:∀ x':Kept w2,x'.wd.cell? ⟨w.heap.size,0,none⟩=some (.int .i64 P):=fun x'=>((TA.out.keep A_w2.out).keep x'.ok).c0;have a1:∀ x':Kept w2,x'.wd.cell? ⟨w.heap.size,1,none⟩=some (.slice (some ⟨b,off,none⟩) n ca):=fun x'=>((TA.out.keep A_w2.out).keep x'.ok).c1;have GA:Hid (∀ x':Kept w2,Calls Tryz.prog 69 #[.agg #[.int .i64 P,.slice (some ⟨b,off,none⟩) n ca],.int .i64 f] x'.wd fun e w'=>e=.returned (.bool (b1'))∧Below x'.wd.heap.size x'.wd w'):=fun x'=>Hf.out x'.wd ((PA1.out.keep A_w2.out).keep x'.ok);have GB:Hid (∀ x':Kept w2,Calls Tryz.prog 69 #[.agg #[.int .i64 P,.slice (some ⟨b,off,none⟩) n ca],.int .i64 f1] x'.wd fun e w'=>e=.returned (.bool ((!b1')))∧Below x'.wd.heap.size x'.wd w'):=fun x'=>Hf1.out x'.wd ((PA1.out.keep A_w2.out).keep x'.ok);go_wp2
        refine wp_region_kept (by kernel_rfl) (by kernel_rfl) ?_
        repeat (go_big_quiet_step ((go_at_call 69;first | (with_reducible exact kept_call _ (GA.out _)) | (with_reducible exact kept_call _ (GB.out _)))))
        refine wpQuiet_nil ?_;intro w3 hx;obtain ⟨⟨x3,hb⟩,hw⟩:=hx;replace hw:w3=x3:=hw;subst x3;have A_w3:=zd A_w2 hb;have O_w3:Hid (w3.ownsRow w1.heap.size 3 1 (.slice ao m cp) m (ints (M))):=by show World.ownsRow _ _ _ _ _ _ _;exact owns_below O_w2.out hb
        clear hb a0 a1 GA GB;have CM:Hid (m+1≤maxLen):=by show _≤_;unfold maxLen;omega
        have sz:Hid (w1.heap.size≤(w3.alloc (.cells #[.int .i64 f] 3)).heap.size):=by show _≤_;have:=A_w3.out.size;simp;omega
        go_wp2_with (at_builtin;refine wpList_append_own _ rfl _ _ 129 rfl w1.heap.size 3 i0 (.int .i64 0) 1 8 Tryz.underlying129 hi hz0 hz1 hz2 rfl (by decide) (.slice ao m cp) (m) (ints M) rfl (O_w3.out.alloc _) ⟨w3.heap.size,0,none⟩ 1 1 [.int .i64 f] rfl rfl (fun j u hj=>by rw [Addr.add_lit,Nat.zero_add,World.cell?_alloc_new];simpa using hj) (fun u hu=>by simp at hu;subst hu;rfl) CM.out (by omega) sz.out ?_)
        intro v7 w7 hown hgrow _;have A_w7:Hid (Below w1.heap.size w1 w7):=(A_w3.out.alloc A_w3.out.size _).grown hgrow sz.out (own_ge O_w3.out);have O_w7:Hid (w7.ownsRow w1.heap.size 3 1 v7 (m+1) (ints (M++[f]))):=by show World.ownsRow _ _ _ _ _ _ _;first | (rw [ints_app];exact hown) | (simpa [ints] using hown)
        clear hown hgrow CM sz
        by_cases d2':b3=b4
        · have d2:(b3 != b4)=false:=by rw [d2',bne,beq_self_eq_true];rfl
          have EQ:Hid ((M++[f])=chL P A (A.take k1)):=by show _=_;rw [SN.out,d2,if_neg (show ¬ (false=true) by decide),List.append_nil]
          subst d2';clear d2;have a0:∀ x':Kept w7,x'.wd.cell? ⟨w.heap.size,0,none⟩=some (.int .i64 P):=fun x'=>((TA.out.keep A_w7.out).keep x'.ok).c0;have a1:∀ x':Kept w7,x'.wd.cell? ⟨w.heap.size,1,none⟩=some (.slice (some ⟨b,off,none⟩) n ca):=fun x'=>((TA.out.keep A_w7.out).keep x'.ok).c1;have GA:Hid (∀ x':Kept w7,Calls Tryz.prog 69 #[.agg #[.int .i64 P,.slice (some ⟨b,off,none⟩) n ca],.int .i64 t] x'.wd fun e w'=>e=.returned (.bool (b3))∧Below x'.wd.heap.size x'.wd w'):=fun x'=>Ht.out x'.wd ((PA1.out.keep A_w7.out).keep x'.ok);have GB:Hid (∀ x':Kept w7,Calls Tryz.prog 69 #[.agg #[.int .i64 P,.slice (some ⟨b,off,none⟩) n ca],.int .i64 t1] x'.wd fun e w'=>e=.returned (.bool (b3))∧Below x'.wd.heap.size x'.wd w'):=fun x'=>Ht1.out x'.wd ((PA1.out.keep A_w7.out).keep x'.ok);go_wp2
          refine wp_region_kept (by kernel_rfl) (by kernel_rfl) ?_
          repeat (go_big_quiet_step ((go_at_call 69;first | (with_reducible exact kept_call _ (GA.out _)) | (with_reducible exact kept_call _ (GB.out _)))))
          refine wpQuiet_nil ?_;intro w7c hx;obtain ⟨⟨x3,hb⟩,hw⟩:=hx;replace hw:w7c=x3:=hw;subst x3;have A_w7c:=zd A_w7 hb;have O_w7c:Hid (w7c.ownsRow w1.heap.size 3 1 v7 (m+1) (ints ((M++[f])))):=by show World.ownsRow _ _ _ _ _ _ _;exact owns_below O_w7.out hb
          clear hb a0 a1 GA GB;go_wp2
          go_roundw
          case rel=>exact ⟨k1,v7,(M++[f]),rfl,by omega,by rw [List.length_append,hm];simp;omega,by first | rfl | go_num,EQ,by rw [List.length_append,hm];exact O_w7c,A_w7c⟩
          case measure=>simp [intOf];omega
        · have d2:(b3 != b4)=true:=bne_iff_ne.2 d2';have EQ:Hid ((M++[f])++[t]=chL P A (A.take k1)):=by show _=_;rw [SN.out,d2,if_pos rfl]
          obtain rfl:b4=!b3:=by cases b3 <;> cases b4 <;> simp_all
          clear d2 d2';have a0:∀ x':Kept w7,x'.wd.cell? ⟨w.heap.size,0,none⟩=some (.int .i64 P):=fun x'=>((TA.out.keep A_w7.out).keep x'.ok).c0;have a1:∀ x':Kept w7,x'.wd.cell? ⟨w.heap.size,1,none⟩=some (.slice (some ⟨b,off,none⟩) n ca):=fun x'=>((TA.out.keep A_w7.out).keep x'.ok).c1;have GA:Hid (∀ x':Kept w7,Calls Tryz.prog 69 #[.agg #[.int .i64 P,.slice (some ⟨b,off,none⟩) n ca],.int .i64 t] x'.wd fun e w'=>e=.returned (.bool (b3))∧Below x'.wd.heap.size x'.wd w'):=fun x'=>Ht.out x'.wd ((PA1.out.keep A_w7.out).keep x'.ok);have GB:Hid (∀ x':Kept w7,Calls Tryz.prog 69 #[.agg #[.int .i64 P,.slice (some ⟨b,off,none⟩) n ca],.int .i64 t1] x'.wd fun e w'=>e=.returned (.bool ((!b3)))∧Below x'.wd.heap.size x'.wd w'):=fun x'=>Ht1.out x'.wd ((PA1.out.keep A_w7.out).keep x'.ok);go_wp2
          refine wp_region_kept (by kernel_rfl) (by kernel_rfl) ?_
          repeat (go_big_quiet_step ((go_at_call 69;first | (with_reducible exact kept_call _ (GA.out _)) | (with_reducible exact kept_call _ (GB.out _)))))
          refine wpQuiet_nil ?_;intro w7c hx;obtain ⟨⟨x3,hb⟩,hw⟩:=hx;replace hw:w7c=x3:=hw;subst x3;have A_w7c:=zd A_w7 hb;have O_w7c:Hid (w7c.ownsRow w1.heap.size 3 1 v7 (m+1) (ints ((M++[f])))):=by show World.ownsRow _ _ _ _ _ _ _;exact owns_below O_w7.out hb
          clear hb a0 a1 GA GB;have CM:Hid ((m+1)+1≤maxLen):=by show _≤_;unfold maxLen;omega
          have sz:Hid (w1.heap.size≤(w7c.alloc (.cells #[.int .i64 t] 3)).heap.size):=by show _≤_;have:=A_w7c.out.size;simp;omega
          go_wp2_with (at_builtin;refine wpList_append_own _ rfl _ _ 129 rfl w1.heap.size 3 i0 (.int .i64 0) 1 8 Tryz.underlying129 hi hz0 hz1 hz2 rfl (by decide) (v7) ((m+1)) (ints ((M++[f]))) rfl (O_w7c.out.alloc _) ⟨w7c.heap.size,0,none⟩ 1 1 [.int .i64 t] rfl rfl (fun j u hj=>by rw [Addr.add_lit,Nat.zero_add,World.cell?_alloc_new];simpa using hj) (fun u hu=>by simp at hu;subst hu;rfl) CM.out (by omega) sz.out ?_)
          intro v8 w8 hown hgrow _;have A_w8:Hid (Below w1.heap.size w1 w8):=(A_w7c.out.alloc A_w7c.out.size _).grown hgrow sz.out (own_ge O_w7c.out);have O_w8:Hid (w8.ownsRow w1.heap.size 3 1 v8 ((m+1)+1) (ints ((M++[f])++[t]))):=by show World.ownsRow _ _ _ _ _ _ _;first | (rw [ints_app];exact hown) | (simpa [ints] using hown)
          clear hown hgrow CM sz;go_wp2
          go_roundw
          case rel=>exact ⟨k1,v8,(M++[f])++[t],rfl,by omega,by rw [List.length_append,List.length_append,hm];simp;omega,by first | rfl | go_num,EQ,by rw [List.length_append,List.length_append,hm];exact O_w8,A_w8⟩
          case measure=>simp [intOf];omega
    · have ky:decide ((k:Int)<(n:Int))=false:=zdf (by omega);have PF:Hid (IntS w.heap.size wr v' (chL P A A)):=by
        show IntS _ _ _ _
        have e:M=chL P A A:=by rw [SM.out,List.take_of_length_le (by omega)]
        rw [← e];exact Sl.weak (Sl.owns OM.out) A1.out.size
      have A9:=zh (down A1.out AM.out);clear SM OM AM TR;go_wp2
      go_ret
      exact ⟨⟨_,rfl,PF.out⟩,A9.out⟩
set_option maxRecDepth 100000 in
set_option maxHeartbeats 4000000 in
theorem rtbefore (va:Value) (P:Int) (A:List Sp) (pv:PV P A) (x:Int) (x0:-10000000000000≤x) (x1:x≤10000000000000) {ba:Nat} (w:World) (a:PairS ba w va A) :
    Calls Tryz.prog 96 #[.agg #[.int .i64 P,va],.int .i64 x] w fun e w'=>(∃ b o,e=.returned (.tuple #[.int .i64 b,.bool o])∧BfS (hsP P A) x o b∧-30000000000000≤b∧b≤30000000000000)∧Below w.heap.size w w':=by
  obtain ⟨oa,ca,rfl⟩:=prs_shape a;have A1:=zh (grow (here w) (.cells #[.int .i64 P,.slice oa A.length ca] 24));have TA:=zh (Two.new (t:=24) (x:=.int .i64 P) (y:=.slice oa A.length ca) (here (w.alloc (.cells #[.int .i64 P,.slice oa A.length ca] 24))));have PA1:=zh (a.keep A1.out);have p0:=pv.p0;have p1:=pv.p1;have CH:=zh (fun W (h:PairS ba W (.slice oa A.length ca) A)=>rtchanges _ P A pv W h);have MO:=zh (fun W=>by have h:=refmod_all x P (by omega) (by omega) (by omega) (by omega) W;rw [dR_pos (show 0<P by omega)] at h;exact h);have BD:Hid (∀ j,j<(chL P A A).length→0≤(chL P A A).getD j 0∧(chL P A A).getD j 0<P):=fun j hj=>⟨(ch_in pv (ints_mem hj)).1,(ch_in pv (ints_mem hj)).2.1⟩;have FN:Hid (∀ o b,BfI P x (chL P A A) (chL P A A).length o b→BfS (hsP P A) x o b):=fun o b h=>h.fin pv;have cl:=Nat.le_trans (ch_len P A A) (Nat.mul_le_mul_left 2 pv.len);clear a;obtain ⟨m,hm⟩:∃ m,x % P=m:=⟨_,rfl⟩;have m0:=Int.emod_nonneg x (show P≠0 by omega);have m1:=Int.emod_lt_of_pos x (show 0<P by omega);rw [hm] at m0 m1 MO;obtain ⟨bs,hbs⟩:∃ bs,x - m=bs:=⟨_,rfl⟩;obtain ⟨ta,tb,tl⟩:=TA.out
  go_enter Tryz.func96,Tryz.ntmps96
  go_wp2_with fail
  clear ta tb tl;generalize (w.alloc (.cells #[.int .i64 P,.slice oa A.length ca] 24))=w1 at *;refine (CH.out _ PA1.out).mono ?_;rintro e w2 ⟨⟨v,rfl,I1⟩,hb⟩;have A2:=zd A1 hb;have T2:=zh (TA.out.keep hb);obtain ⟨oi,ci,rfl⟩:=peh_shape I1;replace I1:=zh I1;clear hb CH PA1 TA A1;obtain ⟨ta,tb,tl⟩:=T2.out;go_wp2_with fail
  refine (MO.out _).mono ?_;rintro e w3' ⟨rfl,q,rfl⟩;obtain ⟨w3,hw3⟩:∃ w3,w2.drewN q=w3:=⟨_,rfl⟩;rw [hw3];have A3:Hid (Below w.heap.size w w3):=by show Below _ _ _;rw [← hw3];exact below_drewN A2.out q
  have T3:Hid (Two w3 w.heap.size (.int .i64 P) (.slice oa A.length ca)):=by show Two _ _ _ _;rw [← hw3];exact Two.drewN T2.out q
  have I3:Hid (IntS w1.heap.size w3 (.slice oi (chL P A A).length ci) (chL P A A)):=by show IntS _ _ _ _;rw [← hw3];exact I1.out.keep (below_drewN (here w2) q)
  clear hw3 A2 T2 I1 ta tb tl MO;have L0:=zh (here w3);have S0:=zh (bf_start P x (chL P A A));obtain ⟨n,hn⟩:∃ n,(chL P A A).length=n:=⟨_,rfl⟩;rw [hn] at BD FN cl I3 ⊢;go_wp2
  go_loopw [8,9,10] (fun u v t wr=>∃ (k:Nat) (b:Int) (o:Bool),u=.int .i64 b∧v=.bool o∧k≤n∧-30000000000000≤b∧b≤30000000000000∧t=.int .i64 k∧Hid (BfI P x (chL P A A) k o b)∧Hid (Below w3.heap.size w3 wr)) (fun _ _ t _=>n - (intOf t).toNat)
  case atStart=>exact ⟨0,0,false,rfl,rfl,Nat.zero_le _,by omega,by omega,rfl,S0,L0⟩
  case round =>
    obtain ⟨k,b,o,rfl,rfl,hk,b0,b1,rfl,SI,AM⟩:=hrel;clear L0 S0;have TR:=zh (T3.out.keep AM.out);obtain ⟨ta,tb,tl⟩:=TR.out
    by_cases y:k<n
    · have ky:decide ((k:Int)<(n:Int))=true:=zdt (by omega);have IR:=zh (I3.out.keep AM.out);obtain ⟨bi,off,rfl,bl,cs⟩:=peh_here IR.out (show k<(chL P A A).length by omega);have c0:=cs k (by omega);obtain ⟨r0,r1⟩:=BD.out k (by omega);have CD:Hid (caB P x ((chL P A A).getD k 0)=caB P x ((chL P A A).getD k 0)):=rfl;obtain ⟨k1,hk1⟩:∃ k1,k+1=k1:=⟨_,rfl⟩;clear cs;obtain ⟨r,hr⟩:∃ r,(chL P A A).getD k 0=r:=⟨_,rfl⟩;rw [hr] at c0 r0 r1;obtain ⟨d,hd⟩:∃ d,bs+r=d:=⟨_,rfl⟩
      by_cases ge:x≤d
      · have kg:decide (x≤d)=true:=zdt ge;obtain ⟨c,hc⟩:∃ c,d - P=c:=⟨_,rfl⟩;replace CD:Hid (caB P x ((chL P A A).getD k 0)=c):=by
          show _=_;rw [hr];unfold caB;rw [hm,hbs,hd,if_pos ge];exact hc
        replace hr:=zh hr
        cases o
        · have N:=zh (SI.out.up (.inl rfl));rw [CD.out,hk1] at N;go_wp2
          go_roundw
          case rel=>exact ⟨k1,c,true,rfl,rfl,by omega,by omega,by omega,by first | rfl | go_num,N,AM⟩
          case measure=>simp [intOf];omega
        · by_cases z:b<c
          · have kz:decide (b<c)=true:=zdt z;have N:=zh (SI.out.up (.inr (by rw [CD.out];exact z)));rw [CD.out,hk1] at N;go_wp2
            go_roundw
            case rel=>exact ⟨k1,c,true,rfl,rfl,by omega,by omega,by omega,by first | rfl | go_num,N,AM⟩
            case measure=>simp [intOf];omega
          · have kz:decide (b<c)=false:=zdf z;have N:=zh (SI.out.stay rfl (by rw [CD.out];omega));rw [hk1] at N;go_wp2
            go_roundw
            case rel=>exact ⟨k1,b,true,rfl,rfl,by omega,by omega,by omega,by first | rfl | go_num,N,AM⟩
            case measure=>simp [intOf];omega
      · have kg:decide (x≤d)=false:=zdf ge;obtain ⟨c,hc⟩:∃ c,d=c:=⟨_,rfl⟩;replace CD:Hid (caB P x ((chL P A A).getD k 0)=c):=by
          show _=_;rw [hr];unfold caB;rw [hm,hbs,hd,if_neg ge];exact hc
        replace hr:=zh hr;subst hc
        cases o
        · have N:=zh (SI.out.up (.inl rfl));rw [CD.out,hk1] at N;go_wp2
          go_roundw
          case rel=>exact ⟨k1,d,true,rfl,rfl,by omega,by omega,by omega,by first | rfl | go_num,N,AM⟩
          case measure=>simp [intOf];omega
        · by_cases z:b<d
          · have kz:decide (b<d)=true:=zdt z;have N:=zh (SI.out.up (.inr (by rw [CD.out];exact z)));rw [CD.out,hk1] at N;go_wp2
            go_roundw
            case rel=>exact ⟨k1,d,true,rfl,rfl,by omega,by omega,by omega,by first | rfl | go_num,N,AM⟩
            case measure=>simp [intOf];omega
          · have kz:decide (b<d)=false:=zdf z;have N:=zh (SI.out.stay rfl (by rw [CD.out];omega));rw [hk1] at N;go_wp2
            go_roundw
            case rel=>exact ⟨k1,b,true,rfl,rfl,by omega,by omega,by omega,by first | rfl | go_num,N,AM⟩
            case measure=>simp [intOf];omega
    · have ky:decide ((k:Int)<(n:Int))=false:=zdf (by omega);obtain rfl:k=n:=by omega
      have A9:=zh (down A3.out AM.out);go_wp2
      go_ret2
      exact ⟨⟨_,_,rfl,FN.out _ _ SI.out,b0,b1⟩,A9.out⟩
set_option maxRecDepth 100000 in
set_option maxHeartbeats 4000000 in
theorem rtafter (va:Value) (P:Int) (A:List Sp) (pv:PV P A) (x:Int) (x0:-10000000000000≤x) (x1:x≤10000000000000) {ba:Nat} (w:World) (a:PairS ba w va A) :
    Calls Tryz.prog 97 #[.agg #[.int .i64 P,va],.int .i64 x] w fun e w'=>(∃ b o,e=.returned (.tuple #[.int .i64 b,.bool o])∧AfS (hsP P A) x o b∧-30000000000000≤b∧b≤30000000000000)∧Below w.heap.size w w':=by
  obtain ⟨oa,ca,rfl⟩:=prs_shape a;have A1:=zh (grow (here w) (.cells #[.int .i64 P,.slice oa A.length ca] 24));have TA:=zh (Two.new (t:=24) (x:=.int .i64 P) (y:=.slice oa A.length ca) (here (w.alloc (.cells #[.int .i64 P,.slice oa A.length ca] 24))));have PA1:=zh (a.keep A1.out);have p0:=pv.p0;have p1:=pv.p1;have CH:=zh (fun W (h:PairS ba W (.slice oa A.length ca) A)=>rtchanges _ P A pv W h);have MO:=zh (fun W=>by have h:=refmod_all x P (by omega) (by omega) (by omega) (by omega) W;rw [dR_pos (show 0<P by omega)] at h;exact h);have BD:Hid (∀ j,j<(chL P A A).length→0≤(chL P A A).getD j 0∧(chL P A A).getD j 0<P):=fun j hj=>⟨(ch_in pv (ints_mem hj)).1,(ch_in pv (ints_mem hj)).2.1⟩;have FN:Hid (∀ o b,AfI P x (chL P A A) (chL P A A).length o b→AfS (hsP P A) x o b):=fun o b h=>h.fin pv;have cl:=Nat.le_trans (ch_len P A A) (Nat.mul_le_mul_left 2 pv.len);clear a;obtain ⟨m,hm⟩:∃ m,x % P=m:=⟨_,rfl⟩;have m0:=Int.emod_nonneg x (show P≠0 by omega);have m1:=Int.emod_lt_of_pos x (show 0<P by omega);rw [hm] at m0 m1 MO;obtain ⟨bs,hbs⟩:∃ bs,x - m=bs:=⟨_,rfl⟩;obtain ⟨ta,tb,tl⟩:=TA.out
  go_enter Tryz.func97,Tryz.ntmps97
  go_wp2_with fail
  clear ta tb tl;generalize (w.alloc (.cells #[.int .i64 P,.slice oa A.length ca] 24))=w1 at *;refine (CH.out _ PA1.out).mono ?_;rintro e w2 ⟨⟨v,rfl,I1⟩,hb⟩;have A2:=zd A1 hb;have T2:=zh (TA.out.keep hb);obtain ⟨oi,ci,rfl⟩:=peh_shape I1;replace I1:=zh I1;clear hb CH PA1 TA A1;obtain ⟨ta,tb,tl⟩:=T2.out;go_wp2_with fail
  refine (MO.out _).mono ?_;rintro e w3' ⟨rfl,q,rfl⟩;obtain ⟨w3,hw3⟩:∃ w3,w2.drewN q=w3:=⟨_,rfl⟩;rw [hw3];have A3:Hid (Below w.heap.size w w3):=by show Below _ _ _;rw [← hw3];exact below_drewN A2.out q
  have T3:Hid (Two w3 w.heap.size (.int .i64 P) (.slice oa A.length ca)):=by show Two _ _ _ _;rw [← hw3];exact Two.drewN T2.out q
  have I3:Hid (IntS w1.heap.size w3 (.slice oi (chL P A A).length ci) (chL P A A)):=by show IntS _ _ _ _;rw [← hw3];exact I1.out.keep (below_drewN (here w2) q)
  clear hw3 A2 T2 I1 ta tb tl MO;have L0:=zh (here w3);have S0:=zh (af_start P x (chL P A A));obtain ⟨n,hn⟩:∃ n,(chL P A A).length=n:=⟨_,rfl⟩;rw [hn] at BD FN cl I3 ⊢;go_wp2
  go_loopw [8,9,10] (fun u v t wr=>∃ (k:Nat) (b:Int) (o:Bool),u=.int .i64 b∧v=.bool o∧k≤n∧-30000000000000≤b∧b≤30000000000000∧t=.int .i64 k∧Hid (AfI P x (chL P A A) k o b)∧Hid (Below w3.heap.size w3 wr)) (fun _ _ t _=>n - (intOf t).toNat)
  case atStart=>exact ⟨0,0,false,rfl,rfl,Nat.zero_le _,by omega,by omega,rfl,S0,L0⟩
  case round =>
    obtain ⟨k,b,o,rfl,rfl,hk,b0,b1,rfl,SI,AM⟩:=hrel;clear L0 S0;have TR:=zh (T3.out.keep AM.out);obtain ⟨ta,tb,tl⟩:=TR.out
    by_cases y:k<n
    · have ky:decide ((k:Int)<(n:Int))=true:=zdt (by omega);have IR:=zh (I3.out.keep AM.out);obtain ⟨bi,off,rfl,bl,cs⟩:=peh_here IR.out (show k<(chL P A A).length by omega);have c0:=cs k (by omega);obtain ⟨r0,r1⟩:=BD.out k (by omega);have CD:Hid (caA P x ((chL P A A).getD k 0)=caA P x ((chL P A A).getD k 0)):=rfl;obtain ⟨k1,hk1⟩:∃ k1,k+1=k1:=⟨_,rfl⟩;clear cs;obtain ⟨r,hr⟩:∃ r,(chL P A A).getD k 0=r:=⟨_,rfl⟩;rw [hr] at c0 r0 r1;obtain ⟨d,hd⟩:∃ d,bs+r=d:=⟨_,rfl⟩
      by_cases ge:d≤x
      · have kg:decide (d≤x)=true:=zdt ge;obtain ⟨c,hc⟩:∃ c,d+P=c:=⟨_,rfl⟩;replace CD:Hid (caA P x ((chL P A A).getD k 0)=c):=by
          show _=_;rw [hr];unfold caA;rw [hm,hbs,hd,if_pos ge];exact hc
        replace hr:=zh hr
        cases o
        · have N:=zh (SI.out.up (.inl rfl));rw [CD.out,hk1] at N;go_wp2
          go_roundw
          case rel=>exact ⟨k1,c,true,rfl,rfl,by omega,by omega,by omega,by first | rfl | go_num,N,AM⟩
          case measure=>simp [intOf];omega
        · by_cases z:c<b
          · have kz:decide (c<b)=true:=zdt z;have N:=zh (SI.out.up (.inr (by rw [CD.out];exact z)));rw [CD.out,hk1] at N;go_wp2
            go_roundw
            case rel=>exact ⟨k1,c,true,rfl,rfl,by omega,by omega,by omega,by first | rfl | go_num,N,AM⟩
            case measure=>simp [intOf];omega
          · have kz:decide (c<b)=false:=zdf z;have N:=zh (SI.out.stay rfl (by rw [CD.out];omega));rw [hk1] at N;go_wp2
            go_roundw
            case rel=>exact ⟨k1,b,true,rfl,rfl,by omega,by omega,by omega,by first | rfl | go_num,N,AM⟩
            case measure=>simp [intOf];omega
      · have kg:decide (d≤x)=false:=zdf ge;obtain ⟨c,hc⟩:∃ c,d=c:=⟨_,rfl⟩;replace CD:Hid (caA P x ((chL P A A).getD k 0)=c):=by
          show _=_;rw [hr];unfold caA;rw [hm,hbs,hd,if_neg ge];exact hc
        replace hr:=zh hr;subst hc
        cases o
        · have N:=zh (SI.out.up (.inl rfl));rw [CD.out,hk1] at N;go_wp2
          go_roundw
          case rel=>exact ⟨k1,d,true,rfl,rfl,by omega,by omega,by omega,by first | rfl | go_num,N,AM⟩
          case measure=>simp [intOf];omega
        · by_cases z:d<b
          · have kz:decide (d<b)=true:=zdt z;have N:=zh (SI.out.up (.inr (by rw [CD.out];exact z)));rw [CD.out,hk1] at N;go_wp2
            go_roundw
            case rel=>exact ⟨k1,d,true,rfl,rfl,by omega,by omega,by omega,by first | rfl | go_num,N,AM⟩
            case measure=>simp [intOf];omega
          · have kz:decide (d<b)=false:=zdf z;have N:=zh (SI.out.stay rfl (by rw [CD.out];omega));rw [hk1] at N;go_wp2
            go_roundw
            case rel=>exact ⟨k1,b,true,rfl,rfl,by omega,by omega,by omega,by first | rfl | go_num,N,AM⟩
            case measure=>simp [intOf];omega
    · have ky:decide ((k:Int)<(n:Int))=false:=zdf (by omega);obtain rfl:k=n:=by omega
      have A9:=zh (down A3.out AM.out);go_wp2
      go_ret2
      exact ⟨⟨_,_,rfl,FN.out _ _ SI.out,b0,b1⟩,A9.out⟩
def LsZ (o:Bool) (b:Int):Prop:=o=false→b=0
set_option maxRecDepth 100000 in
set_option maxHeartbeats 4000000 in
theorem rtlast (vl va:Value) (l:List Sp) (ll:l.length≤2000) (P:Int) (A:List Sp) (pv:PV P A) (lo hi:Int) (le:lo≤hi) (lo0:-4398046511104≤lo) (hi0:hi≤4398046511104) {bl ba:Nat} (w:World) (pl:PairS bl w vl l) (a:PairS ba w va A) :
    Calls Tryz.prog 119 #[vl,.agg #[.int .i64 P,va],.int .i64 lo,.int .i64 hi] w fun e w'=>(∃ b o,e=.returned (.tuple #[.int .i64 b,.bool o])∧LsR (inB l) (hsP P A) lo hi o b∧LsZ o b)∧Below w.heap.size w w':=by
  obtain ⟨oa,ca,rfl⟩:=prs_shape a;obtain ⟨ol,cl,rfl⟩:=prs_shape pl;have A1:=zh (grow (here w) (.cells #[.int .i64 P,.slice oa A.length ca] 24));have TA:=zh (Two.new (t:=24) (x:=.int .i64 P) (y:=.slice oa A.length ca) (here (w.alloc (.cells #[.int .i64 P,.slice oa A.length ca] 24))));have PA1:=zh (a.keep A1.out);have PL1:=zh (pl.keep A1.out);have p0:=pv.p0;have p1:=pv.p1;have alen:=pv.len;have HA:=zh (fun W x (hx:I64 x) (h:PairS ba W (.slice oa A.length ca) A)=>rphas _ P A (le_mx (by omega)) (by omega) (by omega) x hx W h);have HL:=zh (fun W x (h:PairS bl W (.slice ol l.length cl) l)=>rnin _ l (le_mx (by omega)) x W h);have BF:=zh (fun W x x0 x1 (h:PairS ba W (.slice oa A.length ca) A)=>rtbefore _ P A pv x x0 x1 W h);clear a pl;obtain ⟨n,hn⟩:∃ n,l.length=n:=⟨_,rfl⟩;rw [hn] at PL1 HL ll ⊢
  go_enter Tryz.func119,Tryz.ntmps119
  go_wp2
  generalize (w.alloc (.cells #[.int .i64 P,.slice oa A.length ca] 24))=w1 at *;have L0:=zh (here w1)
  go_loopw [10] (fun t wr=>∃ (x:Int),lo≤x∧x≤hi∧t=.int .i64 x∧Hid (∀ y,x≤y→y<hi→inB l y=hsP P A y)∧Hid (Below w1.heap.size w1 wr)) (fun t _=>(intOf t - lo).toNat)
  case atStart=>exact ⟨hi,by omega,by omega,rfl,fun y h1 h2=>by omega,L0⟩
  case round =>
    obtain ⟨x,x0,x1,rfl,SX,AM⟩:=hrel;clear L0
    by_cases y:lo<x
    · have ky:decide (lo<x)=true:=zdt y;obtain ⟨x2,hx2⟩:∃ x2,x - 1=x2:=⟨_,rfl⟩;obtain ⟨u,hu⟩:∃ u,inB l x2=u:=⟨_,rfl⟩;obtain ⟨v,hv⟩:∃ v,hsP P A x2=v:=⟨_,rfl⟩;replace hu:=zh hu;replace hv:=zh hv
      by_cases d':u=v
      rotate_left
      · have d:(u != v)=true:=bne_iff_ne.2 d';have RS:Hid (LsR (inB l) (hsP P A) lo hi true x):=⟨fun _=>⟨by omega,by omega,by rw [hx2];rw [hu.out,hv.out];exact bne_iff_ne.1 d,SX.out⟩,fun h=>by cases h⟩;obtain rfl:v=!u:=by cases u <;> cases v <;> simp_all
        clear d d';have a0:∀ x':Kept wr,x'.wd.cell? ⟨w.heap.size,0,none⟩=some (.int .i64 P):=fun x'=>((TA.out.keep AM.out).keep x'.ok).c0;have a1:∀ x':Kept wr,x'.wd.cell? ⟨w.heap.size,1,none⟩=some (.slice oa A.length ca):=fun x'=>((TA.out.keep AM.out).keep x'.ok).c1;have GA:Hid (∀ x':Kept wr,Calls Tryz.prog 69 #[.agg #[.int .i64 P,.slice oa A.length ca],.int .i64 x2] x'.wd fun e w'=>e=.returned (.bool (!u))∧Below x'.wd.heap.size x'.wd w'):=fun x'=>by have r:=HA.out x'.wd x2 ⟨by omega,by omega⟩ ((PA1.out.keep AM.out).keep x'.ok);rw [hv.out] at r;exact r
        have GB:Hid (∀ x':Kept wr,Calls Tryz.prog 54 #[.slice ol n cl,.int .i64 x2] x'.wd fun e w'=>e=.returned (.bool u)∧x'.wd=w'):=fun x'=>by have r:=HL.out x'.wd x2 ((PL1.out.keep AM.out).keep x'.ok);rw [hu.out] at r;exact r
        go_wp2
        refine wp_region_kept (by kernel_rfl) (by kernel_rfl) ?_
        repeat (go_big_quiet_step (first | (go_at_call 69;with_reducible exact kept_call _ (GA.out _)) | (go_at_call 54;with_reducible exact kept_same _ (GB.out _))))
        refine wpQuiet_nil ?_;intro w3 hx;obtain ⟨⟨z3,hb⟩,hw⟩:=hx;replace hw:w3=z3:=hw;subst z3;have A3:=zd AM hb;clear hb a0 a1 GA GB AM;have A9:=zh (down A1.out A3.out);clear hu hv;go_wp2
        go_ret2
        exact ⟨⟨_,_,rfl,RS.out,fun h=>by cases h⟩,A9.out⟩
      · have EQ:Hid (inB l (x - 1)=hsP P A (x - 1)):=by show _=_;rw [hx2];rw [hu.out,hv.out];exact d'
        subst d';have a0:∀ x':Kept wr,x'.wd.cell? ⟨w.heap.size,0,none⟩=some (.int .i64 P):=fun x'=>((TA.out.keep AM.out).keep x'.ok).c0;have a1:∀ x':Kept wr,x'.wd.cell? ⟨w.heap.size,1,none⟩=some (.slice oa A.length ca):=fun x'=>((TA.out.keep AM.out).keep x'.ok).c1;have GA:Hid (∀ x':Kept wr,Calls Tryz.prog 69 #[.agg #[.int .i64 P,.slice oa A.length ca],.int .i64 x2] x'.wd fun e w'=>e=.returned (.bool (u))∧Below x'.wd.heap.size x'.wd w'):=fun x'=>by have r:=HA.out x'.wd x2 ⟨by omega,by omega⟩ ((PA1.out.keep AM.out).keep x'.ok);rw [hv.out] at r;exact r
        have GB:Hid (∀ x':Kept wr,Calls Tryz.prog 54 #[.slice ol n cl,.int .i64 x2] x'.wd fun e w'=>e=.returned (.bool u)∧x'.wd=w'):=fun x'=>by have r:=HL.out x'.wd x2 ((PL1.out.keep AM.out).keep x'.ok);rw [hu.out] at r;exact r
        go_wp2
        refine wp_region_kept (by kernel_rfl) (by kernel_rfl) ?_
        repeat (go_big_quiet_step (first | (go_at_call 69;with_reducible exact kept_call _ (GA.out _)) | (go_at_call 54;with_reducible exact kept_same _ (GB.out _))))
        refine wpQuiet_nil ?_;intro w3 hx;obtain ⟨⟨z3,hb⟩,hw⟩:=hx;replace hw:w3=z3:=hw;subst z3;have A3:=zd AM hb;clear hb a0 a1 GA GB AM;clear hu hv;have A3':=A3;go_wp2
        go_loopw [11,12] (fun s t wr=>∃ (j:Nat) (nx:Int),s=.int .i64 nx∧j≤n∧lo≤nx∧nx<x∧t=.int .i64 j∧Hid (∀ i,i<j→((l.getD i (0,0)).1<x→(l.getD i (0,0)).1≤nx)∧((l.getD i (0,0)).2<x→(l.getD i (0,0)).2≤nx))∧Hid (Below w1.heap.size w1 wr)) (fun _ t _=>n - (intOf t).toNat)
        case atStart=>exact ⟨0,lo,rfl,Nat.zero_le _,by omega,by omega,rfl,fun i h=>absurd h (Nat.not_lt_zero i),A3'⟩
        case round =>
          obtain ⟨j,nx,rfl,hj,nx0,nx1,rfl,EI,AI⟩:=hrel;clear A3'
          by_cases z:j<n
          · have kz:decide ((j:Int)<(n:Int))=true:=zdt (by omega);have PI:=zh (PL1.out.keep AI.out);obtain ⟨b,off,rfl,bl',cs⟩:=prs_here PI.out (show j<l.length by omega);obtain ⟨c0,c1⟩:=cs j (by omega);clear cs;obtain ⟨j1,hj1⟩:∃ j1,j+1=j1:=⟨_,rfl⟩;obtain ⟨q,hq⟩:∃ q,l.getD j (0,0)=q:=⟨_,rfl⟩;rw [hq] at c0 c1;replace hq:=zh hq;obtain ⟨f,g⟩:=q;replace c0:wr.cell? ⟨b,off+j * 2,none⟩=some (.int .i64 f):=c0;replace c1:wr.cell? ⟨b,off+j * 2+1,none⟩=some (.int .i64 g):=c1
            by_cases t1:f<x
            · have k1:decide (f<x)=true:=zdt t1;obtain ⟨n1,hn1⟩:∃ n1,(if nx<f then f else nx)=n1:=⟨_,rfl⟩;have mn1:max nx f=n1:=by rw [← hn1];omega
              have n1f:(nx<f∧n1=f)∨(f≤nx∧n1=nx):=by rw [← hn1];split <;> omega
              by_cases t2:g<x
              · have k2:decide (g<x)=true:=zdt t2;obtain ⟨n2,hn2⟩:∃ n2,(if n1<g then g else n1)=n2:=⟨_,rfl⟩;have mn2:max n1 g=n2:=by rw [← hn2];omega
                have n2f:(n1<g∧n2=g)∨(g≤n1∧n2=n1):=by rw [← hn2];split <;> omega
                have EN:Hid (∀ i,i<j1→((l.getD i (0,0)).1<x→(l.getD i (0,0)).1≤n2)∧((l.getD i (0,0)).2<x→(l.getD i (0,0)).2≤n2)):=fun i hi'=>by
                  by_cases e:i=j
                  · rw [e,hq.out];exact ⟨fun h=>by omega,fun h=>by omega⟩
                  · have:=EI.out i (by omega);exact ⟨fun h=>by have:=this.1 h;omega,fun h=>by have:=this.2 h;omega⟩
                go_wp2
                go_roundw
                case rel=>exact ⟨j1,n2,rfl,by omega,by omega,by omega,by first | rfl | go_num,EN,AI⟩
                case measure=>simp [intOf];omega
              · have k2:decide (g<x)=false:=zdf t2;have EN:Hid (∀ i,i<j1→((l.getD i (0,0)).1<x→(l.getD i (0,0)).1≤n1)∧((l.getD i (0,0)).2<x→(l.getD i (0,0)).2≤n1)):=fun i hi'=>by
                  by_cases e:i=j
                  · rw [e,hq.out];exact ⟨fun h=>by omega,fun h=>by omega⟩
                  · have:=EI.out i (by omega);exact ⟨fun h=>by have:=this.1 h;omega,fun h=>by have:=this.2 h;omega⟩
                go_wp2
                go_roundw
                case rel=>exact ⟨j1,n1,rfl,by omega,by omega,by omega,by first | rfl | go_num,EN,AI⟩
                case measure=>simp [intOf];omega
            · have k1:decide (f<x)=false:=zdf t1
              by_cases t2:g<x
              · have k2:decide (g<x)=true:=zdt t2;obtain ⟨n2,hn2⟩:∃ n2,(if nx<g then g else nx)=n2:=⟨_,rfl⟩;have mn2:max nx g=n2:=by rw [← hn2];omega
                have n2f:(nx<g∧n2=g)∨(g≤nx∧n2=nx):=by rw [← hn2];split <;> omega
                have EN:Hid (∀ i,i<j1→((l.getD i (0,0)).1<x→(l.getD i (0,0)).1≤n2)∧((l.getD i (0,0)).2<x→(l.getD i (0,0)).2≤n2)):=fun i hi'=>by
                  by_cases e:i=j
                  · rw [e,hq.out];exact ⟨fun h=>by omega,fun h=>by omega⟩
                  · have:=EI.out i (by omega);exact ⟨fun h=>by have:=this.1 h;omega,fun h=>by have:=this.2 h;omega⟩
                go_wp2
                go_roundw
                case rel=>exact ⟨j1,n2,rfl,by omega,by omega,by omega,by first | rfl | go_num,EN,AI⟩
                case measure=>simp [intOf];omega
              · have k2:decide (g<x)=false:=zdf t2;have EN:Hid (∀ i,i<j1→((l.getD i (0,0)).1<x→(l.getD i (0,0)).1≤nx)∧((l.getD i (0,0)).2<x→(l.getD i (0,0)).2≤nx)):=fun i hi'=>by
                  by_cases e:i=j
                  · rw [e,hq.out];exact ⟨fun h=>by omega,fun h=>by omega⟩
                  · have:=EI.out i (by omega);exact ⟨fun h=>by have:=this.1 h;omega,fun h=>by have:=this.2 h;omega⟩
                go_wp2
                go_roundw
                case rel=>exact ⟨j1,nx,rfl,by omega,by omega,by omega,by first | rfl | go_num,EN,AI⟩
                case measure=>simp [intOf];omega
          · have kz:decide ((j:Int)<(n:Int))=false:=zdf (by omega);obtain rfl:j=n:=by omega
            have ES:Hid (∀ q,q∈l→(q.1<x→q.1≤nx)∧(q.2<x→q.2≤nx)):=fun q hq=>by
              obtain ⟨i,hi',rfl⟩:=mem_getD hq;exact EI.out i (by omega)
            have TR:=zh (TA.out.keep AI.out);have PR:=zh (PA1.out.keep AI.out);obtain ⟨ta,tb,tl⟩:=TR.out;go_wp2_with fail
            refine (BF.out _ x (by omega) (by omega) PR.out).mono ?_;rintro e w5 ⟨⟨c,oo,rfl,bs,c0,c1⟩,hb⟩;have A5:=zd AI hb;replace bs:=zh bs;clear hb ta tb tl TR PR AI EI
            cases oo
            · have SN:Hid (∀ y,nx≤y→y<hi→inB l y=hsP P A y):=fun z h1 h2=>by
                by_cases e:z<x
                · exact ls_step EQ.out ES.out bs.out (fun h=>by cases h) h1 e
                · exact SX.out z (by omega) (by omega)
              go_wp2
              go_roundw
              case rel=>exact ⟨nx,by omega,by omega,by first | rfl | go_num,SN,A5⟩
              case measure=>simp [intOf];omega
            · have cx:=(bs.out.yes rfl).1;obtain ⟨n3,hn3⟩:∃ n3,(if nx<c then c else nx)=n3:=⟨_,rfl⟩;have mn3:max nx c=n3:=by rw [← hn3];omega
              have n3f:(nx<c∧n3=c)∨(c≤nx∧n3=nx):=by rw [← hn3];split <;> omega
              have SN:Hid (∀ y,n3≤y→y<hi→inB l y=hsP P A y):=fun z h1 h2=>by
                by_cases e:z<x
                · exact ls_step EQ.out (fun q hq=>by have:=ES.out q hq;exact ⟨fun h=>by have:=this.1 h;omega,fun h=>by have:=this.2 h;omega⟩) bs.out (fun _=>by omega) h1 e
                · exact SX.out z (by omega) (by omega)
              go_wp2
              go_roundw
              case rel=>exact ⟨n3,by omega,by omega,by first | rfl | go_num,SN,A5⟩
              case measure=>simp [intOf];omega
    · have ky:decide (lo<x)=false:=zdf y;obtain rfl:x=lo:=by omega
      have A9:=zh (down A1.out AM.out);have RS:Hid (LsR (inB l) (hsP P A) x hi false 0):=⟨fun h=>(by cases h),fun _=>SX.out⟩;go_wp2
      go_ret2
      exact ⟨⟨0,.inl ⟨rfl,RS.out,fun _=>rfl⟩⟩,A9.out⟩
set_option maxRecDepth 100000 in
set_option maxHeartbeats 4000000 in
theorem rtfirst (vl va:Value) (l:List Sp) (ll:l.length≤2000) (P:Int) (A:List Sp) (pv:PV P A) (lo hi:Int) (le:lo≤hi) (lo0:-4398046511104≤lo) (hi0:hi≤4398046511104) {bl ba:Nat} (w:World) (pl:PairS bl w vl l) (a:PairS ba w va A) :
    Calls Tryz.prog 120 #[vl,.agg #[.int .i64 P,va],.int .i64 lo,.int .i64 hi] w fun e w'=>(∃ b o,e=.returned (.tuple #[.int .i64 b,.bool o])∧FiR (inB l) (hsP P A) lo hi o b∧LsZ o b)∧Below w.heap.size w w':=by
  obtain ⟨oa,ca,rfl⟩:=prs_shape a;obtain ⟨ol,cl,rfl⟩:=prs_shape pl;have A1:=zh (grow (here w) (.cells #[.int .i64 P,.slice oa A.length ca] 24));have TA:=zh (Two.new (t:=24) (x:=.int .i64 P) (y:=.slice oa A.length ca) (here (w.alloc (.cells #[.int .i64 P,.slice oa A.length ca] 24))));have PA1:=zh (a.keep A1.out);have PL1:=zh (pl.keep A1.out);have p0:=pv.p0;have p1:=pv.p1;have alen:=pv.len;have HA:=zh (fun W x (hx:I64 x) (h:PairS ba W (.slice oa A.length ca) A)=>rphas _ P A (le_mx (by omega)) (by omega) (by omega) x hx W h);have HL:=zh (fun W x (h:PairS bl W (.slice ol l.length cl) l)=>rnin _ l (le_mx (by omega)) x W h);have BF:=zh (fun W x x0 x1 (h:PairS ba W (.slice oa A.length ca) A)=>rtafter _ P A pv x x0 x1 W h);clear a pl;obtain ⟨n,hn⟩:∃ n,l.length=n:=⟨_,rfl⟩;rw [hn] at PL1 HL ll ⊢
  go_enter Tryz.func120,Tryz.ntmps120
  go_wp2
  generalize (w.alloc (.cells #[.int .i64 P,.slice oa A.length ca] 24))=w1 at *;have L0:=zh (here w1)
  go_loopw [10] (fun t wr=>∃ (x:Int),lo≤x∧x≤hi∧t=.int .i64 x∧Hid (∀ y,lo≤y→y<x→inB l y=hsP P A y)∧Hid (Below w1.heap.size w1 wr)) (fun t _=>(hi - intOf t).toNat)
  case atStart=>exact ⟨lo,by omega,by omega,rfl,fun y h1 h2=>by omega,L0⟩
  case round =>
    obtain ⟨x,x0,x1,rfl,SX,AM⟩:=hrel;clear L0
    by_cases y:x<hi
    · have ky:decide (x<hi)=true:=zdt y;obtain ⟨x2,hx2⟩:∃ x2,x=x2:=⟨_,rfl⟩;obtain ⟨u,hu⟩:∃ u,inB l x2=u:=⟨_,rfl⟩;obtain ⟨v,hv⟩:∃ v,hsP P A x2=v:=⟨_,rfl⟩;replace hu:=zh hu;replace hv:=zh hv
      by_cases d':u=v
      rotate_left
      · have d:(u != v)=true:=bne_iff_ne.2 d';have RS:Hid (FiR (inB l) (hsP P A) lo hi true x):=⟨fun _=>⟨by omega,by omega,by rw [hx2];rw [hu.out,hv.out];exact bne_iff_ne.1 d,SX.out⟩,fun h=>by cases h⟩;obtain rfl:v=!u:=by cases u <;> cases v <;> simp_all
        clear d d';have a0:∀ x':Kept wr,x'.wd.cell? ⟨w.heap.size,0,none⟩=some (.int .i64 P):=fun x'=>((TA.out.keep AM.out).keep x'.ok).c0;have a1:∀ x':Kept wr,x'.wd.cell? ⟨w.heap.size,1,none⟩=some (.slice oa A.length ca):=fun x'=>((TA.out.keep AM.out).keep x'.ok).c1;have GA:Hid (∀ x':Kept wr,Calls Tryz.prog 69 #[.agg #[.int .i64 P,.slice oa A.length ca],.int .i64 x2] x'.wd fun e w'=>e=.returned (.bool (!u))∧Below x'.wd.heap.size x'.wd w'):=fun x'=>by have r:=HA.out x'.wd x2 ⟨by omega,by omega⟩ ((PA1.out.keep AM.out).keep x'.ok);rw [hv.out] at r;exact r
        have GB:Hid (∀ x':Kept wr,Calls Tryz.prog 54 #[.slice ol n cl,.int .i64 x2] x'.wd fun e w'=>e=.returned (.bool u)∧x'.wd=w'):=fun x'=>by have r:=HL.out x'.wd x2 ((PL1.out.keep AM.out).keep x'.ok);rw [hu.out] at r;exact r
        subst hx2;go_wp2
        refine wp_region_kept (by kernel_rfl) (by kernel_rfl) ?_
        repeat (go_big_quiet_step (first | (go_at_call 69;with_reducible exact kept_call _ (GA.out _)) | (go_at_call 54;with_reducible exact kept_same _ (GB.out _))))
        refine wpQuiet_nil ?_;intro w3 hx;obtain ⟨⟨z3,hb⟩,hw⟩:=hx;replace hw:w3=z3:=hw;subst z3;have A3:=zd AM hb;clear hb a0 a1 GA GB AM;have A9:=zh (down A1.out A3.out);clear hu hv;go_wp2
        go_ret2
        exact ⟨⟨_,_,rfl,RS.out,fun h=>by cases h⟩,A9.out⟩
      · have EQ:Hid (inB l (x)=hsP P A (x)):=by show _=_;rw [hx2];rw [hu.out,hv.out];exact d'
        subst d';have a0:∀ x':Kept wr,x'.wd.cell? ⟨w.heap.size,0,none⟩=some (.int .i64 P):=fun x'=>((TA.out.keep AM.out).keep x'.ok).c0;have a1:∀ x':Kept wr,x'.wd.cell? ⟨w.heap.size,1,none⟩=some (.slice oa A.length ca):=fun x'=>((TA.out.keep AM.out).keep x'.ok).c1;have GA:Hid (∀ x':Kept wr,Calls Tryz.prog 69 #[.agg #[.int .i64 P,.slice oa A.length ca],.int .i64 x2] x'.wd fun e w'=>e=.returned (.bool (u))∧Below x'.wd.heap.size x'.wd w'):=fun x'=>by have r:=HA.out x'.wd x2 ⟨by omega,by omega⟩ ((PA1.out.keep AM.out).keep x'.ok);rw [hv.out] at r;exact r
        have GB:Hid (∀ x':Kept wr,Calls Tryz.prog 54 #[.slice ol n cl,.int .i64 x2] x'.wd fun e w'=>e=.returned (.bool u)∧x'.wd=w'):=fun x'=>by have r:=HL.out x'.wd x2 ((PL1.out.keep AM.out).keep x'.ok);rw [hu.out] at r;exact r
        subst hx2;go_wp2
        refine wp_region_kept (by kernel_rfl) (by kernel_rfl) ?_
        repeat (go_big_quiet_step (first | (go_at_call 69;with_reducible exact kept_call _ (GA.out _)) | (go_at_call 54;with_reducible exact kept_same _ (GB.out _))))
        refine wpQuiet_nil ?_;intro w3 hx;obtain ⟨⟨z3,hb⟩,hw⟩:=hx;replace hw:w3=z3:=hw;subst z3;have A3:=zd AM hb;clear hb a0 a1 GA GB AM;clear hu hv;have A3':=A3;go_wp2
        go_loopw [11,12] (fun s t wr=>∃ (j:Nat) (nx:Int),s=.int .i64 nx∧j≤n∧x<nx∧nx≤hi∧t=.int .i64 j∧Hid (∀ i,i<j→(x<(l.getD i (0,0)).1→nx≤(l.getD i (0,0)).1)∧(x<(l.getD i (0,0)).2→nx≤(l.getD i (0,0)).2))∧Hid (Below w1.heap.size w1 wr)) (fun _ t _=>n - (intOf t).toNat)
        case atStart=>exact ⟨0,hi,rfl,Nat.zero_le _,by omega,by omega,rfl,fun i h=>absurd h (Nat.not_lt_zero i),A3'⟩
        case round =>
          obtain ⟨j,nx,rfl,hj,nx0,nx1,rfl,EI,AI⟩:=hrel;clear A3'
          by_cases z:j<n
          · have kz:decide ((j:Int)<(n:Int))=true:=zdt (by omega);have PI:=zh (PL1.out.keep AI.out);obtain ⟨b,off,rfl,bl',cs⟩:=prs_here PI.out (show j<l.length by omega);obtain ⟨c0,c1⟩:=cs j (by omega);clear cs;obtain ⟨j1,hj1⟩:∃ j1,j+1=j1:=⟨_,rfl⟩;obtain ⟨q,hq⟩:∃ q,l.getD j (0,0)=q:=⟨_,rfl⟩;rw [hq] at c0 c1;replace hq:=zh hq;obtain ⟨f,g⟩:=q;replace c0:wr.cell? ⟨b,off+j * 2,none⟩=some (.int .i64 f):=c0;replace c1:wr.cell? ⟨b,off+j * 2+1,none⟩=some (.int .i64 g):=c1
            by_cases t1:x<f
            · have k1:decide (x<f)=true:=zdt t1;obtain ⟨n1,hn1⟩:∃ n1,(if f<nx then f else nx)=n1:=⟨_,rfl⟩;have mn1:min nx f=n1:=by rw [← hn1];omega
              have n1f:(f<nx∧n1=f)∨(nx≤f∧n1=nx):=by rw [← hn1];split <;> omega
              by_cases t2:x<g
              · have k2:decide (x<g)=true:=zdt t2;obtain ⟨n2,hn2⟩:∃ n2,(if g<n1 then g else n1)=n2:=⟨_,rfl⟩;have mn2:min n1 g=n2:=by rw [← hn2];omega
                have n2f:(g<n1∧n2=g)∨(n1≤g∧n2=n1):=by rw [← hn2];split <;> omega
                have EN:Hid (∀ i,i<j1→(x<(l.getD i (0,0)).1→n2≤(l.getD i (0,0)).1)∧(x<(l.getD i (0,0)).2→n2≤(l.getD i (0,0)).2)):=fun i hi'=>by
                  by_cases e:i=j
                  · rw [e,hq.out];exact ⟨fun h=>by omega,fun h=>by omega⟩
                  · have:=EI.out i (by omega);exact ⟨fun h=>by have:=this.1 h;omega,fun h=>by have:=this.2 h;omega⟩
                go_wp2
                go_roundw
                case rel=>exact ⟨j1,n2,rfl,by omega,by omega,by omega,by first | rfl | go_num,EN,AI⟩
                case measure=>simp [intOf];omega
              · have k2:decide (x<g)=false:=zdf t2;have EN:Hid (∀ i,i<j1→(x<(l.getD i (0,0)).1→n1≤(l.getD i (0,0)).1)∧(x<(l.getD i (0,0)).2→n1≤(l.getD i (0,0)).2)):=fun i hi'=>by
                  by_cases e:i=j
                  · rw [e,hq.out];exact ⟨fun h=>by omega,fun h=>by omega⟩
                  · have:=EI.out i (by omega);exact ⟨fun h=>by have:=this.1 h;omega,fun h=>by have:=this.2 h;omega⟩
                go_wp2
                go_roundw
                case rel=>exact ⟨j1,n1,rfl,by omega,by omega,by omega,by first | rfl | go_num,EN,AI⟩
                case measure=>simp [intOf];omega
            · have k1:decide (x<f)=false:=zdf t1
              by_cases t2:x<g
              · have k2:decide (x<g)=true:=zdt t2;obtain ⟨n2,hn2⟩:∃ n2,(if g<nx then g else nx)=n2:=⟨_,rfl⟩;have mn2:min nx g=n2:=by rw [← hn2];omega
                have n2f:(g<nx∧n2=g)∨(nx≤g∧n2=nx):=by rw [← hn2];split <;> omega
                have EN:Hid (∀ i,i<j1→(x<(l.getD i (0,0)).1→n2≤(l.getD i (0,0)).1)∧(x<(l.getD i (0,0)).2→n2≤(l.getD i (0,0)).2)):=fun i hi'=>by
                  by_cases e:i=j
                  · rw [e,hq.out];exact ⟨fun h=>by omega,fun h=>by omega⟩
                  · have:=EI.out i (by omega);exact ⟨fun h=>by have:=this.1 h;omega,fun h=>by have:=this.2 h;omega⟩
                go_wp2
                go_roundw
                case rel=>exact ⟨j1,n2,rfl,by omega,by omega,by omega,by first | rfl | go_num,EN,AI⟩
                case measure=>simp [intOf];omega
              · have k2:decide (x<g)=false:=zdf t2;have EN:Hid (∀ i,i<j1→(x<(l.getD i (0,0)).1→nx≤(l.getD i (0,0)).1)∧(x<(l.getD i (0,0)).2→nx≤(l.getD i (0,0)).2)):=fun i hi'=>by
                  by_cases e:i=j
                  · rw [e,hq.out];exact ⟨fun h=>by omega,fun h=>by omega⟩
                  · have:=EI.out i (by omega);exact ⟨fun h=>by have:=this.1 h;omega,fun h=>by have:=this.2 h;omega⟩
                go_wp2
                go_roundw
                case rel=>exact ⟨j1,nx,rfl,by omega,by omega,by omega,by first | rfl | go_num,EN,AI⟩
                case measure=>simp [intOf];omega
          · have kz:decide ((j:Int)<(n:Int))=false:=zdf (by omega);obtain rfl:j=n:=by omega
            have ES:Hid (∀ q,q∈l→(x<q.1→nx≤q.1)∧(x<q.2→nx≤q.2)):=fun q hq=>by
              obtain ⟨i,hi',rfl⟩:=mem_getD hq;exact EI.out i (by omega)
            have TR:=zh (TA.out.keep AI.out);have PR:=zh (PA1.out.keep AI.out);obtain ⟨ta,tb,tl⟩:=TR.out;go_wp2_with fail
            refine (BF.out _ x (by omega) (by omega) PR.out).mono ?_;rintro e w5 ⟨⟨c,oo,rfl,bs,c0,c1⟩,hb⟩;have A5:=zd AI hb;replace bs:=zh bs;clear hb ta tb tl TR PR AI EI
            cases oo
            · have SN:Hid (∀ y,lo≤y→y<nx→inB l y=hsP P A y):=fun z h1 h2=>by
                by_cases e:x≤z
                · exact fi_step EQ.out ES.out bs.out (fun h=>by cases h) e h2
                · exact SX.out z (by omega) (by omega)
              go_wp2
              go_roundw
              case rel=>exact ⟨nx,by omega,by omega,by first | rfl | go_num,SN,A5⟩
              case measure=>simp [intOf];omega
            · have cx:=(bs.out.yes rfl).1;obtain ⟨n3,hn3⟩:∃ n3,(if c<nx then c else nx)=n3:=⟨_,rfl⟩;have mn3:min nx c=n3:=by rw [← hn3];omega
              have n3f:(c<nx∧n3=c)∨(nx≤c∧n3=nx):=by rw [← hn3];split <;> omega
              have SN:Hid (∀ y,lo≤y→y<n3→inB l y=hsP P A y):=fun z h1 h2=>by
                by_cases e:x≤z
                · exact fi_step EQ.out (fun q hq=>by have:=ES.out q hq;exact ⟨fun h=>by have:=this.1 h;omega,fun h=>by have:=this.2 h;omega⟩) bs.out (fun _=>by omega) e h2
                · exact SX.out z (by omega) (by omega)
              go_wp2
              go_roundw
              case rel=>exact ⟨n3,by omega,by omega,by first | rfl | go_num,SN,A5⟩
              case measure=>simp [intOf];omega
    · have ky:decide (x<hi)=false:=zdf y;obtain rfl:x=hi:=by omega
      have A9:=zh (down A1.out AM.out);have RS:Hid (FiR (inB l) (hsP P A) lo x false 0):=⟨fun h=>(by cases h),fun _=>SX.out⟩;go_wp2
      go_ret2
      exact ⟨⟨0,.inl ⟨rfl,RS.out,fun _=>rfl⟩⟩,A9.out⟩
end Go.Proofs.YtmamlgaogpkagaaGreat
