/- PeR PeV. -/
import Derived.Test.YtmamlgaogpkagaaGreatZLPlain
import Derived.Test.YtmamlgaogpkagaaGreatZRnP
import Derived.Test.YtmamlgaogpkagaaGreatZPeT
namespace Go.Proofs.YtmamlgaogpkagaaGreat
open Go.RowKit
set_option linter.unusedVariables false
set_option linter.unusedSimpArgs false
def loL (P m:Int) (L:List Sp):List Sp:=(L.filter fun q=>decide (P<q.2+m)).map fun q=>((if q.1+m<P then P else q.1+m) - P,q.2+m - P)
def hiL (P m:Int) (L:List Sp):List Sp:=(L.filter fun q=>decide (q.1+m<P)).map fun q=>(q.1+m,if P<q.2+m then P else q.2+m)
def roL (P n:Int) (L:List Sp):List Sp:=if n % P=0 then L else cbL 1 (loL P (n % P) L) (hiL P (n % P) L)
theorem lo_in (P m:Int) (L:List Sp) (x:Int):inB (loL P m L) x=(decide (0≤x)&&inB L (x+P - m)):=by
 rw [Bool.eq_iff_iff,inB_iff,Bool.and_eq_true,decide_eq_true_iff,inB_iff]
 constructor
 ·rintro ⟨p,hp,a,b⟩;obtain ⟨q,hq,rfl⟩:=List.mem_map.1 hp;replace a:(if q.1+m<P then P else q.1+m) - P≤x:=a;replace b:x<q.2+m - P:=b
  split at a
  ·exact ⟨by omega,q,(List.mem_filter.1 hq).1,by omega,by omega⟩
  ·exact ⟨by omega,q,(List.mem_filter.1 hq).1,by omega,by omega⟩
 ·rintro ⟨l,q,hq,a,b⟩;refine ⟨_,List.mem_map.2 ⟨q,List.mem_filter.2 ⟨hq,decide_eq_true (by omega)⟩,rfl⟩,?_,by show x<q.2+m - P;omega⟩
  show (if q.1+m<P then P else q.1+m) - P≤x
  split <;> omega
theorem hi_in (P m:Int) (L:List Sp) (x:Int):inB (hiL P m L) x=(decide (x<P)&&inB L (x - m)):=by
 rw [Bool.eq_iff_iff,inB_iff,Bool.and_eq_true,decide_eq_true_iff,inB_iff]
 constructor
 ·rintro ⟨p,hp,a,b⟩;obtain ⟨q,hq,rfl⟩:=List.mem_map.1 hp;replace a:q.1+m≤x:=a;replace b:x<if P<q.2+m then P else q.2+m:=b
  split at b
  ·exact ⟨by omega,q,(List.mem_filter.1 hq).1,by omega,by omega⟩
  ·exact ⟨by omega,q,(List.mem_filter.1 hq).1,by omega,by omega⟩
 ·rintro ⟨l,q,hq,a,b⟩;refine ⟨_,List.mem_map.2 ⟨q,List.mem_filter.2 ⟨hq,decide_eq_true (by omega)⟩,rfl⟩,by show q.1+m≤x;omega,?_⟩
  show x<if P<q.2+m then P else q.2+m
  split <;> omega
theorem lo_cn:∀ {L:List Sp} (P m:Int),Cn L→Cn (loL P m L)
  | [],_,_,_=>trivial
  | p :: L,P,m,h=>by
    have ih:=lo_cn (L:=L) P m h.2.2
    unfold loL at ih ⊢
    rw [List.filter_cons]
    by_cases z:P<p.2+m
    · rw [if_pos (decide_eq_true z),List.map_cons];refine ⟨by show (if p.1+m<P then P else p.1+m) - P<p.2+m - P;have:=h.1;split <;> omega,fun q hq=>?_,ih⟩;obtain ⟨r,hr,rfl⟩:=List.mem_map.1 hq;obtain ⟨hr,lt⟩:=List.mem_filter.1 hr;have:=h.2.1 r hr
      show p.2+m - P<(if r.1+m<P then P else r.1+m) - P
      split <;> omega
    · rw [if_neg (by simpa using z)];exact ih
theorem hi_cn:∀ {L:List Sp} (P m:Int),Cn L→Cn (hiL P m L)
  | [],_,_,_=>trivial
  | p :: L,P,m,h=>by
    have ih:=hi_cn (L:=L) P m h.2.2
    unfold hiL at ih ⊢
    rw [List.filter_cons]
    by_cases z:p.1+m<P
    · rw [if_pos (decide_eq_true z),List.map_cons];refine ⟨by show p.1+m<if P<p.2+m then P else p.2+m;have:=h.1;split <;> omega,fun q hq=>?_,ih⟩;obtain ⟨r,hr,rfl⟩:=List.mem_map.1 hq;obtain ⟨hr,lt⟩:=List.mem_filter.1 hr;have lt:=of_decide_eq_true lt;have:=h.2.1 r hr
      show (if P<p.2+m then P else p.2+m)<r.1+m
      split <;> omega
    · rw [if_neg (by simpa using z)];exact ih
theorem hs_shift {P:Int} {L:List Sp} (P0:0<P) (x n:Int) (h0:0≤x) (h1:x<P) (i:InP P L):hsP P L (x - n)=(inB L (x+P - n % P) || inB L (x - n % P)):=by
 have m0:=Int.emod_nonneg n (show P≠0 by omega);have m1:=Int.emod_lt_of_pos n P0;have e:(x - n) % P=(x - n % P) % P:=by rw [Int.sub_emod,Int.sub_emod x (n % P),Int.emod_emod]
 unfold hsP
 rw [e];have o:∀ y,¬ (0≤y∧y<P)→inB L y=false:=fun y hy=>by rw [← Bool.not_eq_true];intro q;exact hy (in_out i q)
 by_cases z:n % P≤x
 ·rw [Int.emod_eq_of_lt (by omega) (by omega),o (x+P - n % P) (by omega),Bool.false_or]
 ·rw [o (x - n % P) (by omega),Bool.or_false]
  congr 1
  have:(x - n % P) % P=(x - n % P+P) % P:=by rw [Int.add_emod_right]
  rw [this,Int.emod_eq_of_lt (by omega) (by omega)];omega
theorem ro_eq {P:Int} {L:List Sp} (P0:0<P) (c:Cn L) (i:InP P L) (n:Int):roL P n L=caL (fun x=>hsP P L (x - n)) 0 P:=by
 unfold roL
 by_cases z:n % P=0
 ·rw [if_pos z];refine ca_eq c fun x=>?_
  by_cases y:0≤x∧x<P
  ·rw [decide_eq_true y.1,decide_eq_true y.2,hs_shift P0 x n y.1 y.2 i,z,Int.sub_zero,Int.sub_zero];have o:inB L (x+P)=false:=by rw [← Bool.not_eq_true];intro q;have:=in_out i q;omega
   rw [o];rfl
  ·have e:inB L x=false:=by rw [← Bool.not_eq_true];intro q;exact y (in_out i q)
   rw [e]
   by_cases t:0≤x
   ·rw [decide_eq_false (show ¬ x<P by omega),Bool.and_false,Bool.false_and]
   ·rw [decide_eq_false t];rfl
 ·rw [if_neg z];obtain ⟨cc,cm,-⟩:=cb_spec 1 (loL P (n % P) L) (hiL P (n % P) L);have m0:=Int.emod_nonneg n (show P≠0 by omega);have m1:=Int.emod_lt_of_pos n P0;refine ca_eq cc fun x=>?_;rw [cm,lo_in,hi_in]
  show (_ || _)=_
  by_cases y:0≤x∧x<P
  ·rw [decide_eq_true y.1,decide_eq_true y.2,hs_shift P0 x n y.1 y.2 i];rfl
  ·have o:∀ y,¬ (0≤y∧y<P)→inB L y=false:=fun y hy=>by rw [← Bool.not_eq_true];intro q;exact hy (in_out i q)
   by_cases t:0≤x
   ·rw [decide_eq_false (show ¬ x<P by omega),Bool.false_and,o (x+P - n % P) (by omega)];simp
   ·rw [decide_eq_false t,o (x - n % P) (by omega)];simp
theorem ro_same {P:Int} {L:List Sp} (P0:0<P) (c:Cn L) (i:InP P L) (q:Int):roL P q L=L↔Per (hsP P L) q:=by
 rw [ro_eq P0 c i]
 constructor
 ·intro h;have n1:Per (hsP P L) (-q):=fun x=>by
   have m0:=Int.emod_nonneg x (show P≠0 by omega);have m1:=Int.emod_lt_of_pos x P0;have e:inB L (x % P)=hsP P L (x % P - q):=by
    conv=>lhs;rw [← h]
    rw [ca_in,decide_eq_true m0,decide_eq_true m1];rfl
   have e2:hsP P L (x % P - q)=hsP P L (x - q):=by
    unfold hsP;rw [Int.sub_emod,Int.emod_emod,← Int.sub_emod]
   show hsP P L (x+-q)=inB L (x % P)
   rw [e,e2];rfl
  have:=n1.neg;rwa [Int.neg_neg] at this
 ·intro h;refine (ca_eq c fun x=>?_).symm;have e:hsP P L (x - q)=hsP P L x:=by have:=h (x - q);rw [Int.sub_add_cancel] at this;exact this.symm
  rw [e];have s:=ca_self c i
  conv=>lhs;rw [s]
  rw [ca_in]
theorem cu_eq {P d:Int} {L:List Sp} (c:Cn L) (i:InP P L) (dP:d≤P):cuL d L=caL (hsP P L) 0 d :=
 ca_eq (cu_cn d c) fun x=>by
  rw [cu_in]
  by_cases y:0≤x∧x<d
  ·rw [decide_eq_true y.1,decide_eq_true y.2,hs_in y.1 (by omega)];rfl
  ·by_cases t:0≤x
   ·rw [decide_eq_false (show ¬ x<d by omega),Bool.and_false,Bool.false_and,Bool.false_and]
   ·have e:inB L x=false:=by rw [← Bool.not_eq_true];intro q;have:=in_out i q;omega
    rw [e,decide_eq_false t,Bool.and_false];rfl
theorem le_up {P q:Int} {f:Int→Bool} (q0:0<q) (dv:q ∣ P) (per:Per f q) (no:∀ e,0<e→e<q→e ∣ P→¬ Per f e):Lst f P q :=
 ⟨q0,dv,per,fun e e0 ed ep=>by
  rcases Int.lt_or_le e q with z | z
  ·exact absurd ep (no e e0 z ed)
  ·exact z⟩
structure Sec (f:Int→Bool) (P q b:Int):Prop where
 pos:0<b
 dvd:b ∣ P
 per:Per f b
 low:∀ e,0<e→e<q→e ∣ P→Per f (P / e)→b≤P / e
theorem sec_start {f:Int→Bool} {P:Int} (P0:0<P) (per:Per f P):Sec f P 1 P:=⟨P0,Int.dvd_refl _,per,fun e a b=>by omega⟩
theorem sec_hit {f:Int→Bool} {P q b:Int} (P0:0<P) (S:Sec f P q b) (q0:0<q) (dv:q ∣ P) (per:Per f (P / q)):Sec f P (q+1) (P / q):=by
 obtain ⟨k,rfl⟩:=dv;have k0:0<k:=by
  rcases Int.lt_or_le 0 k with z | z
  ·exact z
  ·have:=Int.mul_nonneg (Int.le_of_lt q0) (show 0≤-k by omega);rw [Int.mul_neg] at this;omega
 have e1:q * k / q=k:=Int.mul_ediv_cancel_left k (by omega);rw [e1] at per ⊢;refine ⟨k0,Int.dvd_mul_left q k,per,fun e e0 eq ed ep=>?_⟩;obtain ⟨l,hl⟩:=ed;rw [hl,Int.mul_ediv_cancel_left l (by omega)];have le:e≤q:=by omega
 rcases Int.lt_or_le l k with z | z
 ·have l0:0<l:=by
   rcases Int.lt_or_le 0 l with y | y
   ·exact y
   ·have:=Int.mul_nonneg (Int.le_of_lt e0) (show 0≤-l by omega);rw [Int.mul_neg] at this;omega
  have a:e * l≤q * l:=Int.mul_le_mul_of_nonneg_right le (Int.le_of_lt l0);have b:q * l<q * k:=Int.mul_lt_mul_of_pos_left z q0;omega
 ·exact z
theorem sec_miss {f:Int→Bool} {P q b:Int} (S:Sec f P q b) (no:¬ (q ∣ P∧Per f (P / q))):Sec f P (q+1) b :=
 ⟨S.pos,S.dvd,S.per,fun e e0 eq ed ep=>by
  rcases Int.lt_or_le e q with z | z
  ·exact S.low e e0 z ed ep
  ·obtain rfl:e=q:=by omega
   exact absurd ⟨ed,ep⟩ no⟩
theorem sec_end {f:Int→Bool} {P q b:Int} (P0:0<P) (S:Sec f P q b) (hq:P<q * q) (q0:0<q) (no:∀ e,0<e→e * e≤P→e ∣ P→¬ Per f e):Lst f P b :=
 ⟨S.pos,S.dvd,S.per,fun d d0 dd dp=>by
  obtain ⟨k,hk⟩:=dd;have k0:0<k:=by
   rcases Int.lt_or_le 0 k with z | z
   ·exact z
   ·have:=Int.mul_nonneg (Int.le_of_lt d0) (show 0≤-k by omega);rw [Int.mul_neg] at this;omega
  have big:P<d * d:=by
   rcases Int.lt_or_le P (d * d) with z | z
   ·exact z
   ·exact absurd dp (no d d0 z ⟨k,hk⟩)
  have kd:k<d:=by
   rcases Int.lt_or_le k d with z | z
   ·exact z
   ·have:=Int.mul_le_mul_of_nonneg_left z (Int.le_of_lt d0);omega
  have kq:k<q:=by
   rcases Int.lt_or_le k q with z | z
   ·exact z
   ·have a:=Int.mul_le_mul_of_nonneg_left z (Int.le_of_lt q0);have b:=Int.mul_le_mul_of_nonneg_right (show q≤d by omega) (Int.le_of_lt k0);omega
  have e1:P / k=d:=by rw [hk,Int.mul_comm];exact Int.mul_ediv_cancel_left d (by omega)
  have:=S.low k k0 kq ⟨d,by rw [hk,Int.mul_comm]⟩ (by rw [e1];exact dp);omega⟩
theorem cb_ca {P:Int} {A B:List Sp} (P0:0<P) (a:InP P A) (b:InP P B) (k:Int):cbL k A B=caL (fun x=>kpB k (hsP P A x) (hsP P B x)) 0 P:=by
 obtain ⟨cc,cm,-⟩:=cb_spec k A B;refine ca_eq cc fun x=>?_;rw [cm]
 by_cases y:0≤x∧x<P
 ·rw [decide_eq_true y.1,decide_eq_true y.2,hs_in y.1 y.2,hs_in y.1 y.2];rfl
 ·have o:∀ {L:List Sp},InP P L→inB L x=false:=fun {L} i=>by rw [← Bool.not_eq_true];intro q;exact y (in_out i q)
  rw [o a,o b,kp_no]
  by_cases t:0≤x
  ·rw [decide_eq_false (show ¬ x<P by omega),Bool.and_false,Bool.false_and]
  ·rw [decide_eq_false t];rfl
theorem ca_none (f:Int→Bool) {a b:Int} (h:b≤a):caL f a b=[]:=by
 unfold caL;rw [show (b - a).toNat=0 by omega];rfl
theorem len_step (f:Int→Bool) {a c:Int} (h:a≤c):(caL f a (c+1)).length=(caL f a c).length+(if f c=true∧¬ (a<c∧f (c - 1)=true) then 1 else 0):=by
 have e:caL f a (c+1)=if f c then addL (caL f a c) (c,c+1) else caL f a c:=by
  unfold caL
  rw [show (c+1 - a).toNat=(c - a).toNat+1 by omega,caN,show a+((c - a).toNat:Int)=c by omega]
 rw [e]
 by_cases z:f c=true
 ·rw [if_pos z];have mm:=ca_in f a c;have cn:=ca_cn f a c;have en:=ca_ends f a c
  rcases snoc_cases (caL f a c) with y | ⟨R,q,y⟩
  ·rw [y] at mm ⊢;have:¬ (a<c∧f (c - 1)=true):=fun ⟨u,v⟩=>by
    have:=mm (c - 1);rw [v,decide_eq_true (show a≤c - 1 by omega),decide_eq_true (show c - 1<c by omega)] at this;cases this
   rw [if_pos ⟨z,this⟩];rfl
  ·rw [y] at mm cn en ⊢;obtain ⟨cR,bR,ltq⟩:=cn_last cn;have eq:=en q (List.mem_append_right _ (List.mem_singleton.2 rfl));rw [add_snoc]
   by_cases t:q.2=c
   ·have i:inB (R++[q]) (c - 1)=true:=inB_iff.2 ⟨q,List.mem_append_right _ (List.mem_singleton.2 rfl),by omega,by omega⟩;rw [mm,Bool.and_eq_true,Bool.and_eq_true,decide_eq_true_iff,decide_eq_true_iff] at i;rw [if_pos t,if_neg (fun n=>n.2 ⟨by omega,i.2⟩)]
    simp
   ·have:¬ (a<c∧f (c - 1)=true):=fun ⟨u,v⟩=>by
     have i:=mm (c - 1);rw [v,decide_eq_true (show a≤c - 1 by omega),decide_eq_true (show c - 1<c by omega)] at i;obtain ⟨r,hr,r0,r1⟩:=inB_iff.1 i;have er:=en r hr
     rcases List.mem_append.1 hr with w | w
     ·have:=bR r w;omega
     ·rw [List.mem_singleton.1 w] at er r1;omega
    rw [if_neg t,if_pos ⟨z,this⟩];simp
 ·rw [if_neg z,if_neg (fun n=>z n.1)];rfl
theorem len_split (f:Int→Bool) {a b:Int} (ab:a≤b):∀ n:Nat,(caL f a (b+n)).length≤(caL f a b).length+(caL f b (b+n)).length
  | 0=>by rw [show b+((0:Nat):Int)=b by omega];omega
  | n+1=>by
    have ih:=len_split f ab n;rw [show b+((n+1:Nat):Int)=b+n+1 by omega,len_step f (show a≤b+n by omega),len_step f (show b≤b+n by omega)]
    by_cases z:f (b+n)=true
    · by_cases y:b<b+n
      · by_cases x:f (b+n - 1)=true
        · rw [if_neg (fun q=>q.2 ⟨by omega,x⟩),if_neg (fun q=>q.2 ⟨by omega,x⟩)];omega
        · rw [if_pos ⟨z,fun q=>x q.2⟩,if_pos ⟨z,fun q=>x q.2⟩];omega
      · rw [if_pos (c:=f (b+n)=true∧¬ (b<b+n∧f (b+n - 1)=true)) ⟨z,fun q=>y q.1⟩]
        split <;> omega
    · rw [if_neg (fun q=>z q.1),if_neg (fun q=>z q.1)];omega
theorem len_mono (f:Int→Bool) {a c:Int} (h:a≤c):∀ n:Nat,(caL f a c).length≤(caL f a (c+n)).length
  | 0=>by rw [show c+((0:Nat):Int)=c by omega];omega
  | n+1=>by
    have ih:=len_mono f h n;rw [show c+((n+1:Nat):Int)=c+n+1 by omega,len_step f (show a≤c+n by omega)];omega
theorem len_mono' (f:Int→Bool) {a c d:Int} (h:c≤d):(caL f a c).length≤(caL f a d).length:=by
 by_cases z:a≤c
 ·have:=len_mono f z (d - c).toNat;rwa [show c+((d - c).toNat:Int)=d by omega] at this
 ·rw [ca_none f (show c≤a by omega)];exact Nat.zero_le _
theorem len_comb {k:Int} (k1:1≤k) (k3:k≤3) (f g:Int→Bool) (a:Int):∀ n:Nat,(caL (fun x=>kpB k (f x) (g x)) a (a+n)).length+(if k=3∧0<n∧g (a+n - 1)=true then 1 else 0)≤(caL f a (a+n)).length+(caL g a (a+n)).length
  | 0=>by rw [show a+((0:Nat):Int)=a by omega,ca_none _ (Int.le_refl a)];simp
  | n+1=>by
    have ih:=len_comb k1 k3 f g a n;rw [show a+((n+1:Nat):Int)=a+n+1 by omega,len_step _ (show a≤a+n by omega),len_step f (show a≤a+n by omega),len_step g (show a≤a+n by omega),show a+(n:Int)+1 - 1=a+n by omega];have kk:k=1∨k=2∨k=3:=by omega
    generalize a+(n:Int) - 1=y at ih ⊢;have an:(a<a+n)↔0<n:=by omega
    generalize (caL (fun x=>kpB k (f x) (g x)) a (a+n)).length=K at ih ⊢;generalize (caL f a (a+n)).length=F at ih ⊢;generalize (caL g a (a+n)).length=G at ih ⊢
    simp only [an]
    generalize a+(n:Int)=x at ih ⊢
    by_cases n0:0<n
    · rcases kk with rfl | rfl | rfl <;> cases f x <;> cases g x <;> cases f y <;> cases hg:g y <;> simp [kpB,n0,hg] at ih ⊢ <;> omega
    · rcases kk with rfl | rfl | rfl <;> cases f x <;> cases g x <;> simp [kpB,n0] at ih ⊢ <;> omega
theorem len_cb {k:Int} (k1:1≤k) (k3:k≤3) {P:Int} {A B:List Sp} (P0:0<P) (cA:Cn A) (cB:Cn B) (a:InP P A) (b:InP P B):(cbL k A B).length≤A.length+B.length:=by
 have h:=len_comb k1 k3 (hsP P A) (hsP P B) 0 P.toNat;rw [show (0:Int)+(P.toNat:Int)=P by omega] at h;rw [cb_ca P0 a b k,ca_self cA a,ca_self cB b,← ca_self cA a,← ca_self cB b];have e1:=congrArg List.length (ca_self cA a);have e2:=congrArg List.length (ca_self cB b);omega
theorem per_len {f:Int→Bool} {P:Int} (P0:0<P) (per:Per f P):∀ k:Nat,(caL f 0 (k * P)).length≤k * (caL f 0 P).length
  | 0=>by rw [ca_none _ (show ((0:Nat):Int) * P≤0 by simp)];simp
  | k+1=>by
    have ih:=per_len P0 per k;have kn:(0:Int)≤k * P:=Int.mul_nonneg (by omega) (by omega);have e:((k+1:Nat):Int) * P=k * P+P:=by rw [Int.natCast_succ,Int.add_mul,Int.one_mul]
    have s:=len_split f kn P.toNat;rw [show (k:Int) * P+(P.toNat:Int)=k * P+P by omega] at s;have pk:Per f ((k:Int) * P):=by have:=per.mul (k:Int);rwa [Int.mul_comm] at this
    have sh:=ca_shift pk 0 P;rw [show (0:Int)+k * P=k * P by omega,show P+(k:Int) * P=k * P+P by omega] at sh;rw [sh,sh_len] at s;rw [e,Nat.succ_mul];omega
def clZ (b e:Int):Int:=if b<e then b else e
theorem win_step {f:Int→Bool} {a b e u v:Int} (eu:e<u) (uv:u<v) (no:∀ x,e≤x→x<u→f x=false) (yes:∀ x,u≤x→x<v→f x=true) :
  caL f a (clZ b v)=if (if a<u then u else a)<(if v<b then v else b) then caL f a (clZ b e)++[((if a<u then u else a),(if v<b then v else b))] else caL f a (clZ b e):=by
 generalize hs:(if a<u then u else a)=s;generalize ht:(if v<b then v else b)=t;have hs':s=u∧a<u∨s=a∧u≤a:=by rw [← hs];split <;> omega
 have ht':t=v∧v<b∨t=b∧b≤v:=by rw [← ht];split <;> omega
 have ce:clZ b e=b∧b<e∨clZ b e=e∧e≤b:=by unfold clZ;split <;> omega
 have cv:clZ b v=b∧b<v∨clZ b v=v∧v≤b:=by unfold clZ;split <;> omega
 generalize clZ b e=E at ce ⊢;generalize clZ b v=V at cv ⊢
 symm
 split
 ·rename_i st
  refine ca_eq (cn_snoc (ca_cn f a E) (fun q hq=>by have:=ca_ends f a E q hq;show q.2<s;omega) st) fun x=>?_;rw [inB_app,ca_in,inB_one]
  show (decide (a≤x)&&decide (x<E)&&f x || (decide (s≤x)&&decide (x<t)))=_
  by_cases x1:x<u
  ·by_cases x0:e≤x
   ·rw [no x x0 x1,decide_eq_false (show ¬ s≤x by omega)];simp
   ·have dd:decide (x<E)=decide (x<V):=decide_eq_decide.2 (by omega);rw [decide_eq_false (show ¬ s≤x by omega),dd];simp
  ·by_cases x2:x<v
   ·rw [yes x (by omega) x2,decide_eq_false (show ¬ x<E by omega)];rw [Bool.eq_iff_iff];simp;omega
   ·rw [decide_eq_false (show ¬ x<E by omega),decide_eq_false (show ¬ x<t by omega),decide_eq_false (show ¬ x<V by omega)];simp
 ·rename_i st
  refine ca_eq (ca_cn f a E) fun x=>?_;rw [ca_in]
  by_cases x1:x<u
  ·by_cases x0:e≤x
   ·rw [no x x0 x1,Bool.and_false,Bool.and_false]
   ·have dd:decide (x<E)=decide (x<V):=decide_eq_decide.2 (by omega);rw [dd]
  ·by_cases x2:x<v
   ·rw [yes x (by omega) x2];rw [Bool.eq_iff_iff];simp;omega
   ·rw [decide_eq_false (show ¬ x<E by omega),decide_eq_false (show ¬ x<V by omega)]
theorem ca_skip {f:Int→Bool} {a e b:Int} (eb:e≤b) (no:∀ x,e≤x→x<b→f x=false):caL f a e=caL f a b:=by
 refine ca_eq (ca_cn f a e) fun x=>?_;rw [ca_in]
 by_cases x1:x<e
 ·rw [decide_eq_true x1,decide_eq_true (show x<b by omega)]
 ·by_cases x2:x<b
  ·rw [no x (by omega) x2,Bool.and_false,Bool.and_false]
  ·rw [decide_eq_false x1,decide_eq_false x2]
section
variable {P:Int} {f:Int→Bool} {L:List Sp}
theorem Crc.at (h:Crc P f L) {x s k:Int} (hs:s=P * k) (x0:s+(L.getD 0 (0,0)).1≤x) (x1:x<s+(L.getD 0 (0,0)).1+P):f x=inB L (x - s):=by
 have:=(h.per.mul k) (x - s);rw [← hs,show x - s+s=x by omega] at this;rw [this,h.mem,Int.emod_eq_of_lt (by omega) (by omega)]
 congr 1;omega
theorem Crc.yes (h:Crc P f L) {x s k:Int} (hs:s=P * k) {i:Nat} (hi:i<L.length) (x0:s+(L.getD i (0,0)).1≤x) (x1:x<s+(L.getD i (0,0)).2):f x=true:=by
 have:=h.hi _ (getD_mem hi);rw [h.at hs (by omega) (by omega)];exact inB_iff.2 ⟨_,getD_mem hi,by omega,by omega⟩
theorem cn_lo {L:List Sp} (c:Cn L) {i j:Nat} (h:i≤j) (hj:j<L.length):(L.getD i (0,0)).1≤(L.getD j (0,0)).1∧(L.getD i (0,0)).2≤(L.getD j (0,0)).2:=by
 rcases Nat.eq_or_lt_of_le h with z | z
 ·rw [z];omega
 ·have a:=cn_gt c z hj;have b:=c.lt _ (getD_mem (show i<L.length by omega));have d:=c.lt _ (getD_mem hj);omega
theorem Crc.no (h:Crc P f L) {x s k:Int} (hs:s=P * k) {i:Nat} (hi:i+1<L.length) (x0:s+(L.getD i (0,0)).2≤x) (x1:x<s+(L.getD (i+1) (0,0)).1):f x=false:=by
 have a:=h.hi _ (getD_mem (show i<L.length by omega));have a':=h.cn.lt _ (getD_mem (show i<L.length by omega));have b:=h.hi _ (getD_mem hi);have b':=h.cn.lt _ (getD_mem hi);rw [h.at hs (by omega) (by omega),← Bool.not_eq_true];intro t;obtain ⟨q,hq,q0,q1⟩:=inB_iff.1 t;obtain ⟨j,hj,rfl⟩:=mem_getD hq
 rcases Nat.lt_or_ge i j with z | z
 ·have:=cn_lo h.cn (show i+1≤j from z) hj;omega
 ·have:=cn_lo h.cn z (by omega);omega
theorem Crc.last (h:Crc P f L) {x s k:Int} (hs:s=P * k) (x0:s+(L.getD (L.length - 1) (0,0)).2≤x) (x1:x<s+P+(L.getD 0 (0,0)).1):f x=false:=by
 have ne:=h.ne;have a:=h.hi _ (getD_mem (show L.length - 1<L.length by omega));have a':=h.cn.lt _ (getD_mem (show L.length - 1<L.length by omega));rw [h.at hs (by omega) (by omega),← Bool.not_eq_true];intro t;obtain ⟨q,hq,q0,q1⟩:=inB_iff.1 t;obtain ⟨j,hj,rfl⟩:=mem_getD hq;have:=cn_lo h.cn (show j≤L.length - 1 by omega) (by omega);omega
end
end Go.Proofs.YtmamlgaogpkagaaGreat
