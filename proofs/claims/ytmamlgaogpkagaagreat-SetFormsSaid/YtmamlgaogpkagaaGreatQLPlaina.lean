/- LPlaina PeMa PeRa PeL. -/
import Derived.Test.YtmamlgaogpkagaaGreatQLPlain
import Derived.WalkKit
namespace Go.Proofs.YtmamlgaogpkagaaGreat
open Go.RowKit
set_option linter.unusedVariables false
set_option linter.unusedSimpArgs false
theorem mul_back {a b:Int} (hb:b≠0) (h2:-9223372036854775808≤b) (h3:b≤9223372036854775807) :
    (wrap64 (a * b)).tdiv b=a↔-9223372036854775808≤a * b∧a * b≤9223372036854775807:=by
  constructor
  · intro h;have e:=Int.tdiv_mul_add_tmod (wrap64 (a * b)) b;rw [h] at e;have r:=(tr_bd (a:=wrap64 (a * b)) hb).1;generalize (wrap64 (a * b)).tmod b=t at *;generalize a * b=m at *
    unfold wrap64 at e
    omega
  · intro h;rw [show wrap64 (a * b)=a * b by unfold wrap64;omega];exact Int.mul_tdiv_cancel a hb
def cuL (d:Int) (L:List Sp):List Sp:=(L.filter fun q=>decide (q.1<d)).map fun q=>(q.1,if q.2<d then q.2 else d)
theorem cu_in (d:Int) (L:List Sp) (x:Int):inB (cuL d L) x=(decide (x<d)&&inB L x):=by
 rw [Bool.eq_iff_iff,inB_iff,Bool.and_eq_true,decide_eq_true_iff,inB_iff]
 constructor
 ·rintro ⟨p,hp,a,b⟩;obtain ⟨q,hq,rfl⟩:=List.mem_map.1 hp;obtain ⟨hq,lt⟩:=List.mem_filter.1 hq;replace b:x<if q.2<d then q.2 else d:=b
  split at b
  ·exact ⟨by omega,q,hq,a,b⟩
  ·exact ⟨b,q,hq,a,by omega⟩
 ·rintro ⟨l,q,hq,a,b⟩;refine ⟨_,List.mem_map.2 ⟨q,List.mem_filter.2 ⟨hq,decide_eq_true (by omega)⟩,rfl⟩,a,?_⟩
  show x<if q.2<d then q.2 else d
  split <;> omega
theorem cu_cn:∀ {L:List Sp} (d:Int),Cn L→Cn (cuL d L)
  | [],_,_=>trivial
  | p :: L,d,h=>by
    have ih:=cu_cn (L:=L) d h.2.2
    unfold cuL at ih ⊢
    rw [List.filter_cons]
    by_cases z:p.1<d
    · rw [if_pos (decide_eq_true z),List.map_cons];refine ⟨by show p.1<if p.2<d then p.2 else d;have:=h.1;split <;> omega,fun q hq=>?_,ih⟩;obtain ⟨r,hr,rfl⟩:=List.mem_map.1 hq;obtain ⟨hr,lt⟩:=List.mem_filter.1 hr;have:=h.2.1 r hr;have lt:=of_decide_eq_true lt
      show (if p.2<d then p.2 else d)<r.1
      split <;> omega
    · rw [if_neg (by simpa using z)];exact ih
theorem cu_len (d:Int) (L:List Sp):(cuL d L).length≤L.length:=by
 unfold cuL;rw [List.length_map];exact List.length_filter_le _ _
def loL (P m:Int) (L:List Sp):List Sp:=(L.filter fun q=>decide (P<q.2+m)).map fun q=>((if q.1+m<P then P else q.1+m) - P,q.2+m - P)
def hiL (P m:Int) (L:List Sp):List Sp:=(L.filter fun q=>decide (q.1+m<P)).map fun q=>(q.1+m,if P<q.2+m then P else q.2+m)
def roL (P n:Int) (L:List Sp):List Sp:=if n % P=0 then L else cbL 1 (loL P (n % P) L) (hiL P (n % P) L)
theorem lo_in (P m:Int) (L:List Sp) (x:Int):inB (loL P m L) x=(decide (0≤x)&&inB L (x+P - m)):=by
 rw [Bool.eq_iff_iff,inB_iff,Bool.and_eq_true,decide_eq_true_iff,inB_iff]
 constructor
 ·rintro ⟨p,hp,a,b⟩;obtain ⟨q,hq,rfl⟩:=List.mem_map.1 hp;replace a:(if q.1+m<P then P else q.1+m) - P≤x:=a;replace b:x<q.2+m - P:=b
  split at a
  ·exact ⟨by omega,q,(List.mem_filter.1 hq).1,by omega,by omega⟩
  ·exact ⟨by omega,q,(List.mem_filter.1 hq).1,by omega,by omega⟩
 ·rintro ⟨l,q,hq,a,b⟩;refine ⟨_,List.mem_map.2 ⟨q,List.mem_filter.2 ⟨hq,decide_eq_true (by omega)⟩,rfl⟩,?_,by show x<q.2+m - P;omega⟩
  show (if q.1+m<P then P else q.1+m) - P≤x
  split <;> omega
theorem hi_in (P m:Int) (L:List Sp) (x:Int):inB (hiL P m L) x=(decide (x<P)&&inB L (x - m)):=by
 rw [Bool.eq_iff_iff,inB_iff,Bool.and_eq_true,decide_eq_true_iff,inB_iff]
 constructor
 ·rintro ⟨p,hp,a,b⟩;obtain ⟨q,hq,rfl⟩:=List.mem_map.1 hp;replace a:q.1+m≤x:=a;replace b:x<if P<q.2+m then P else q.2+m:=b
  split at b
  ·exact ⟨by omega,q,(List.mem_filter.1 hq).1,by omega,by omega⟩
  ·exact ⟨by omega,q,(List.mem_filter.1 hq).1,by omega,by omega⟩
 ·rintro ⟨l,q,hq,a,b⟩;refine ⟨_,List.mem_map.2 ⟨q,List.mem_filter.2 ⟨hq,decide_eq_true (by omega)⟩,rfl⟩,by show q.1+m≤x;omega,?_⟩
  show x<if P<q.2+m then P else q.2+m
  split <;> omega
theorem lo_cn:∀ {L:List Sp} (P m:Int),Cn L→Cn (loL P m L)
  | [],_,_,_=>trivial
  | p :: L,P,m,h=>by
    have ih:=lo_cn (L:=L) P m h.2.2
    unfold loL at ih ⊢
    rw [List.filter_cons]
    by_cases z:P<p.2+m
    · rw [if_pos (decide_eq_true z),List.map_cons];refine ⟨by show (if p.1+m<P then P else p.1+m) - P<p.2+m - P;have:=h.1;split <;> omega,fun q hq=>?_,ih⟩;obtain ⟨r,hr,rfl⟩:=List.mem_map.1 hq;obtain ⟨hr,lt⟩:=List.mem_filter.1 hr;have:=h.2.1 r hr
      show p.2+m - P<(if r.1+m<P then P else r.1+m) - P
      split <;> omega
    · rw [if_neg (by simpa using z)];exact ih
theorem hi_cn:∀ {L:List Sp} (P m:Int),Cn L→Cn (hiL P m L)
  | [],_,_,_=>trivial
  | p :: L,P,m,h=>by
    have ih:=hi_cn (L:=L) P m h.2.2
    unfold hiL at ih ⊢
    rw [List.filter_cons]
    by_cases z:p.1+m<P
    · rw [if_pos (decide_eq_true z),List.map_cons];refine ⟨by show p.1+m<if P<p.2+m then P else p.2+m;have:=h.1;split <;> omega,fun q hq=>?_,ih⟩;obtain ⟨r,hr,rfl⟩:=List.mem_map.1 hq;obtain ⟨hr,lt⟩:=List.mem_filter.1 hr;have lt:=of_decide_eq_true lt;have:=h.2.1 r hr
      show (if P<p.2+m then P else p.2+m)<r.1+m
      split <;> omega
    · rw [if_neg (by simpa using z)];exact ih
theorem hs_shift {P:Int} {L:List Sp} (P0:0<P) (x n:Int) (h0:0≤x) (h1:x<P) (i:InP P L):hsP P L (x - n)=(inB L (x+P - n % P) || inB L (x - n % P)):=by
 have m0:=Int.emod_nonneg n (show P≠0 by omega);have m1:=Int.emod_lt_of_pos n P0;have e:(x - n) % P=(x - n % P) % P:=by rw [Int.sub_emod,Int.sub_emod x (n % P),Int.emod_emod]
 unfold hsP
 rw [e];have o:∀ y,¬ (0≤y∧y<P)→inB L y=false:=fun y hy=>by rw [← Bool.not_eq_true];intro q;exact hy (in_out i q)
 by_cases z:n % P≤x
 ·rw [Int.emod_eq_of_lt (by omega) (by omega),o (x+P - n % P) (by omega),Bool.false_or]
 ·rw [o (x - n % P) (by omega),Bool.or_false]
  congr 1
  have:(x - n % P) % P=(x - n % P+P) % P:=by rw [Int.add_emod_right]
  rw [this,Int.emod_eq_of_lt (by omega) (by omega)];omega
theorem ro_eq {P:Int} {L:List Sp} (P0:0<P) (c:Cn L) (i:InP P L) (n:Int):roL P n L=caL (fun x=>hsP P L (x - n)) 0 P:=by
 unfold roL
 by_cases z:n % P=0
 ·rw [if_pos z];refine ca_eq c fun x=>?_
  by_cases y:0≤x∧x<P
  ·rw [decide_eq_true y.1,decide_eq_true y.2,hs_shift P0 x n y.1 y.2 i,z,Int.sub_zero,Int.sub_zero];have o:inB L (x+P)=false:=by rw [← Bool.not_eq_true];intro q;have:=in_out i q;omega
   rw [o];rfl
  ·have e:inB L x=false:=by rw [← Bool.not_eq_true];intro q;exact y (in_out i q)
   rw [e]
   by_cases t:0≤x
   ·rw [decide_eq_false (show ¬ x<P by omega),Bool.and_false,Bool.false_and]
   ·rw [decide_eq_false t];rfl
 ·rw [if_neg z];obtain ⟨cc,cm,-⟩:=cb_spec 1 (loL P (n % P) L) (hiL P (n % P) L);have m0:=Int.emod_nonneg n (show P≠0 by omega);have m1:=Int.emod_lt_of_pos n P0;refine ca_eq cc fun x=>?_;rw [cm,lo_in,hi_in]
  show (_ || _)=_
  by_cases y:0≤x∧x<P
  ·rw [decide_eq_true y.1,decide_eq_true y.2,hs_shift P0 x n y.1 y.2 i];rfl
  ·have o:∀ y,¬ (0≤y∧y<P)→inB L y=false:=fun y hy=>by rw [← Bool.not_eq_true];intro q;exact hy (in_out i q)
   by_cases t:0≤x
   ·rw [decide_eq_false (show ¬ x<P by omega),Bool.false_and,o (x+P - n % P) (by omega)];simp
   ·rw [decide_eq_false t,o (x - n % P) (by omega)];simp
theorem ro_same {P:Int} {L:List Sp} (P0:0<P) (c:Cn L) (i:InP P L) (q:Int):roL P q L=L↔Per (hsP P L) q:=by
 rw [ro_eq P0 c i]
 constructor
 ·intro h;have n1:Per (hsP P L) (-q):=fun x=>by
   have m0:=Int.emod_nonneg x (show P≠0 by omega);have m1:=Int.emod_lt_of_pos x P0;have e:inB L (x % P)=hsP P L (x % P - q):=by
    conv=>lhs;rw [← h]
    rw [ca_in,decide_eq_true m0,decide_eq_true m1];rfl
   have e2:hsP P L (x % P - q)=hsP P L (x - q):=by
    unfold hsP;rw [Int.sub_emod,Int.emod_emod,← Int.sub_emod]
   show hsP P L (x+-q)=inB L (x % P)
   rw [e,e2];rfl
  have:=n1.neg;rwa [Int.neg_neg] at this
 ·intro h;refine (ca_eq c fun x=>?_).symm;have e:hsP P L (x - q)=hsP P L x:=by have:=h (x - q);rw [Int.sub_add_cancel] at this;exact this.symm
  rw [e];have s:=ca_self c i
  conv=>lhs;rw [s]
  rw [ca_in]
theorem cu_eq {P d:Int} {L:List Sp} (c:Cn L) (i:InP P L) (dP:d≤P):cuL d L=caL (hsP P L) 0 d :=
 ca_eq (cu_cn d c) fun x=>by
  rw [cu_in]
  by_cases y:0≤x∧x<d
  ·rw [decide_eq_true y.1,decide_eq_true y.2,hs_in y.1 (by omega)];rfl
  ·by_cases t:0≤x
   ·rw [decide_eq_false (show ¬ x<d by omega),Bool.and_false,Bool.false_and,Bool.false_and]
   ·have e:inB L x=false:=by rw [← Bool.not_eq_true];intro q;have:=in_out i q;omega
    rw [e,decide_eq_false t,Bool.and_false];rfl
theorem le_up {P q:Int} {f:Int→Bool} (q0:0<q) (dv:q ∣ P) (per:Per f q) (no:∀ e,0<e→e<q→e ∣ P→¬ Per f e):Lst f P q :=
 ⟨q0,dv,per,fun e e0 ed ep=>by
  rcases Int.lt_or_le e q with z | z
  ·exact absurd ep (no e e0 z ed)
  ·exact z⟩
structure Sec (f:Int→Bool) (P q b:Int):Prop where
 pos:0<b
 dvd:b ∣ P
 per:Per f b
 low:∀ e,0<e→e<q→e ∣ P→Per f (P / e)→b≤P / e
theorem sec_start {f:Int→Bool} {P:Int} (P0:0<P) (per:Per f P):Sec f P 1 P:=⟨P0,Int.dvd_refl _,per,fun e a b=>by omega⟩
theorem sec_hit {f:Int→Bool} {P q b:Int} (P0:0<P) (S:Sec f P q b) (q0:0<q) (dv:q ∣ P) (per:Per f (P / q)):Sec f P (q+1) (P / q):=by
 obtain ⟨k,rfl⟩:=dv;have k0:0<k:=by
  rcases Int.lt_or_le 0 k with z | z
  ·exact z
  ·have:=Int.mul_nonneg (Int.le_of_lt q0) (show 0≤-k by omega);rw [Int.mul_neg] at this;omega
 have e1:q * k / q=k:=Int.mul_ediv_cancel_left k (by omega);rw [e1] at per ⊢;refine ⟨k0,Int.dvd_mul_left q k,per,fun e e0 eq ed ep=>?_⟩;obtain ⟨l,hl⟩:=ed;rw [hl,Int.mul_ediv_cancel_left l (by omega)];have le:e≤q:=by omega
 rcases Int.lt_or_le l k with z | z
 ·have l0:0<l:=by
   rcases Int.lt_or_le 0 l with y | y
   ·exact y
   ·have:=Int.mul_nonneg (Int.le_of_lt e0) (show 0≤-l by omega);rw [Int.mul_neg] at this;omega
  have a:e * l≤q * l:=Int.mul_le_mul_of_nonneg_right le (Int.le_of_lt l0);have b:q * l<q * k:=Int.mul_lt_mul_of_pos_left z q0;omega
 ·exact z
theorem sec_miss {f:Int→Bool} {P q b:Int} (S:Sec f P q b) (no:¬ (q ∣ P∧Per f (P / q))):Sec f P (q+1) b :=
 ⟨S.pos,S.dvd,S.per,fun e e0 eq ed ep=>by
  rcases Int.lt_or_le e q with z | z
  ·exact S.low e e0 z ed ep
  ·obtain rfl:e=q:=by omega
   exact absurd ⟨ed,ep⟩ no⟩
theorem sec_end {f:Int→Bool} {P q b:Int} (P0:0<P) (S:Sec f P q b) (hq:P<q * q) (q0:0<q) (no:∀ e,0<e→e * e≤P→e ∣ P→¬ Per f e):Lst f P b :=
 ⟨S.pos,S.dvd,S.per,fun d d0 dd dp=>by
  obtain ⟨k,hk⟩:=dd;have k0:0<k:=by
   rcases Int.lt_or_le 0 k with z | z
   ·exact z
   ·have:=Int.mul_nonneg (Int.le_of_lt d0) (show 0≤-k by omega);rw [Int.mul_neg] at this;omega
  have big:P<d * d:=by
   rcases Int.lt_or_le P (d * d) with z | z
   ·exact z
   ·exact absurd dp (no d d0 z ⟨k,hk⟩)
  have kd:k<d:=by
   rcases Int.lt_or_le k d with z | z
   ·exact z
   ·have:=Int.mul_le_mul_of_nonneg_left z (Int.le_of_lt d0);omega
  have kq:k<q:=by
   rcases Int.lt_or_le k q with z | z
   ·exact z
   ·have a:=Int.mul_le_mul_of_nonneg_left z (Int.le_of_lt q0);have b:=Int.mul_le_mul_of_nonneg_right (show q≤d by omega) (Int.le_of_lt k0);omega
  have e1:P / k=d:=by rw [hk,Int.mul_comm];exact Int.mul_ediv_cancel_left d (by omega)
  have:=S.low k k0 kq ⟨d,by rw [hk,Int.mul_comm]⟩ (by rw [e1];exact dp);omega⟩
def flL:List Sp→List Int
  | []=>[]
  | p :: L=>p.1 :: p.2 :: flL L
theorem fl_app (A B:List Sp):flL (A++B)=flL A++flL B:=by
  induction A with
  | nil=>rfl
  | cons p A ih=>show p.1 :: p.2 :: flL (A++B)=_;rw [ih];rfl
theorem fl_len (A:List Sp):(flL A).length=2 * A.length:=by
  induction A with
  | nil=>rfl
  | cons p A ih=>show (flL A).length+1+1=_;rw [ih,List.length_cons];omega
theorem fl_mem {A:List Sp} {y:Int}:y∈flL A↔∃ p,p∈A∧(y=p.1∨y=p.2):=by
  induction A with
  | nil=>exact ⟨fun h=>(by cases h),fun ⟨p,h,_⟩=>(by cases h)⟩
  | cons p A ih =>
    show y∈p.1 :: p.2 :: flL A↔_
    rw [List.mem_cons,List.mem_cons,ih]
    constructor
    · rintro (h | h | ⟨q,hq,h⟩)
      · exact ⟨p,List.mem_cons_self,.inl h⟩
      · exact ⟨p,List.mem_cons_self,.inr h⟩
      · exact ⟨q,List.mem_cons_of_mem _ hq,h⟩
    · rintro ⟨q,hq,h⟩
      rcases List.mem_cons.1 hq with rfl | hq
      · rcases h with h | h
        · exact .inl h
        · exact .inr (.inl h)
      · exact .inr (.inr ⟨q,hq,h⟩)
abbrev Wsc (l:List Int):Prop:=l.Pairwise (·≤·)
theorem fl_asc:∀ {A:List Sp},Cn A→Wsc (flL A)
  | [],_=>List.Pairwise.nil
  | p :: A,c=>by
    have ih:=fl_asc c.2.2;have lt:=c.1;refine List.pairwise_cons.2 ⟨fun y hy=>?_,List.pairwise_cons.2 ⟨fun y hy=>?_,ih⟩⟩
    · rcases List.mem_cons.1 hy with rfl | hy
      · omega
      · obtain ⟨q,hq,h⟩:=fl_mem.1 hy;have:=c.2.1 q hq;have:=c.2.2.lt q hq
        rcases h with rfl | rfl <;> omega
    · obtain ⟨q,hq,h⟩:=fl_mem.1 hy;have:=c.2.1 q hq;have:=c.2.2.lt q hq
      rcases h with rfl | rfl <;> omega
def mgZ:List Int→List Int→List Int
  | [],y=>y
  | a :: x,[]=>a :: x
  | a :: x,b :: y=>if a≤b then a :: mgZ x (b :: y) else b :: mgZ (a :: x) y
termination_by x y=>x.length+y.length
theorem mg_right (x:List Int):mgZ x []=x:=by cases x <;> simp [mgZ]
theorem mgz_mem:∀ (x y:List Int) (t:Int),t∈mgZ x y↔t∈x∨t∈y
  | [],y,t=>by rw [mgZ];simp
  | a :: x,[],t=>by rw [mgZ];simp
  | a :: x,b :: y,t=>by
    rw [mgZ]
    split
    · rw [List.mem_cons,mgz_mem x (b :: y) t,List.mem_cons (l:=x),or_assoc]
    · rw [List.mem_cons,mgz_mem (a :: x) y t,List.mem_cons (a:=t) (b:=b)]
      constructor
      · rintro (h | h | h)
        · exact .inr (.inl h)
        · exact .inl h
        · exact .inr (.inr h)
      · rintro (h | h | h)
        · exact .inr (.inl h)
        · exact .inl h
        · exact .inr (.inr h)
termination_by x y=>x.length+y.length
theorem mgz_asc:∀ (x y:List Int),Wsc x→Wsc y→Wsc (mgZ x y)
  | [],y,_,h=>by rw [mgZ];exact h
  | a :: x,[],h,_=>by rw [mgZ];exact h
  | a :: x,b :: y,h,k=>by
    rw [mgZ];obtain ⟨h1,h2⟩:=List.pairwise_cons.1 h;obtain ⟨k1,k2⟩:=List.pairwise_cons.1 k
    by_cases z:a≤b
    · rw [if_pos z];refine List.pairwise_cons.2 ⟨fun t ht=>?_,mgz_asc x (b :: y) h2 k⟩
      rcases (mgz_mem _ _ _).1 ht with q | q
      · exact h1 t q
      · rcases List.mem_cons.1 q with rfl | q
        · exact z
        · have:=k1 t q;omega
    · rw [if_neg z];refine List.pairwise_cons.2 ⟨fun t ht=>?_,mgz_asc (a :: x) y h k2⟩
      rcases (mgz_mem _ _ _).1 ht with q | q
      · rcases List.mem_cons.1 q with rfl | q
        · omega
        · have:=h1 t q;omega
      · exact k1 t q
termination_by x y=>x.length+y.length
theorem mgz_len:∀ (x y:List Int),(mgZ x y).length=x.length+y.length
  | [],y=>by rw [mgZ];simp
  | a :: x,[]=>by rw [mgZ];simp
  | a :: x,b :: y=>by
    rw [mgZ]
    split
    · rw [List.length_cons,mgz_len x (b :: y),List.length_cons,List.length_cons];omega
    · rw [List.length_cons,mgz_len (a :: x) y,List.length_cons,List.length_cons];omega
termination_by x y=>x.length+y.length
theorem dropZ {l:List Int} {k:Nat} (h:k<l.length):l.drop k=l.getD k 0 :: l.drop (k+1):=by
 rw [List.drop_eq_getElem_cons h,List.getD_eq_getElem?_getD,List.getElem?_eq_getElem h];rfl
theorem mgz_left {x y:List Int} {i k:Nat} (hi:i<x.length) (h:y.length≤k∨x.getD i 0≤y.getD k 0):mgZ (x.drop i) (y.drop k)=x.getD i 0 :: mgZ (x.drop (i+1)) (y.drop k):=by
 rw [dropZ hi]
 rcases Nat.lt_or_ge k y.length with z | z
 ·rw [dropZ z,mgZ,if_pos (h.resolve_left (by omega)),← dropZ z]
 ·rw [List.drop_of_length_le z,mg_right,mg_right]
theorem mgz_right' {x y:List Int} {i k:Nat} (hk:k<y.length) (h:x.length≤i∨y.getD k 0<x.getD i 0):mgZ (x.drop i) (y.drop k)=y.getD k 0 :: mgZ (x.drop i) (y.drop (k+1)):=by
 rw [dropZ hk]
 rcases Nat.lt_or_ge i x.length with z | z
 ·rw [dropZ z,mgZ,if_neg (by have:=h.resolve_left (by omega);omega),← dropZ z]
 ·rw [List.drop_of_length_le z,mgZ,mgZ]
def cuts (A B:List Sp):List Int:=mgZ (flL A) (flL B)
theorem wsc_at {l:List Int} (h:Wsc l) {i j:Nat} (hij:i≤j) (hj:j<l.length):l.getD i 0≤l.getD j 0:=by
 rcases Nat.lt_or_eq_of_le hij with z | rfl
 ·rw [List.getD_eq_getElem?_getD,List.getD_eq_getElem?_getD,List.getElem?_eq_getElem hj,List.getElem?_eq_getElem (by omega)];exact List.pairwise_iff_getElem.1 h i j (by omega) hj z
 ·exact Int.le_refl _
theorem cuts_len (A B:List Sp):(cuts A B).length=2 * (A.length+B.length):=by unfold cuts;rw [mgz_len,fl_len,fl_len];omega
theorem cut_const {E:List Int} (s:Wsc E) {L:List Sp} (m:∀ p,p∈L→p.1∈E∧p.2∈E) {c:Nat} (hc:c+1<E.length) {t:Int} (t0:E.getD c 0≤t) (t1:t<E.getD (c+1) 0):inB L t=inB L (E.getD c 0):=by
 have side:∀ y,y∈E→y≤E.getD c 0∨E.getD (c+1) 0≤y:=fun y hy=>by
  obtain ⟨j,hj,rfl⟩:=mem_at hy
  rcases Nat.lt_or_ge c j with z | z
  ·exact .inr (wsc_at s (by omega) hj)
  ·exact .inl (wsc_at s z (by omega))
 rw [Bool.eq_iff_iff,inB_iff,inB_iff]
 constructor
 ·rintro ⟨p,hp,a,b⟩;obtain ⟨m1,m2⟩:=m p hp;refine ⟨p,hp,?_,by omega⟩
  rcases side _ m1 with q | q <;> omega
 ·rintro ⟨p,hp,a,b⟩;obtain ⟨m1,m2⟩:=m p hp;refine ⟨p,hp,by omega,?_⟩
  rcases side _ m2 with q | q <;> omega
structure Cmb (k:Int) (A B:List Sp) (e:Int) (R:List Sp):Prop where
 cn:Cn R
 mem:∀ t,inB R t=(decide (t<e)&&kpB k (inB A t) (inB B t))
 low:∀ q,q∈R→q.2≤e
theorem cmb_start {k:Int} {A B:List Sp} (a:Cn A) (b:Cn B):Cmb k A B ((cuts A B).getD 0 0) []:=by
 refine ⟨trivial,fun t=>?_,fun q hq=>by cases hq⟩
 show false=_
 by_cases z:t<(cuts A B).getD 0 0
 ·have lowL:∀ {L:List Sp},(∀ p,p∈L→p.1∈cuts A B)→inB L t=false:=fun {L} m=>by
   rw [← Bool.not_eq_true,inB_iff];rintro ⟨p,hp,p0,p1⟩;obtain ⟨j,hj,e⟩:=mem_at (m p hp);have:=wsc_at (mgz_asc _ _ (fl_asc a) (fl_asc b)) (Nat.zero_le j) hj
   unfold cuts at *
   omega
  rw [lowL (fun p hp=>(mgz_mem _ _ _).2 (.inl (fl_mem.2 ⟨p,hp,.inl rfl⟩))),lowL (fun p hp=>(mgz_mem _ _ _).2 (.inr (fl_mem.2 ⟨p,hp,.inl rfl⟩))),kp_no,Bool.and_false]
 ·rw [decide_eq_false z];rfl
theorem cmb_step {k:Int} {A B:List Sp} (a:Cn A) (b:Cn B) {c:Nat} {R:List Sp} (hc:c+1<(cuts A B).length) (S:Cmb k A B ((cuts A B).getD c 0) R) (lt:(cuts A B).getD c 0<(cuts A B).getD (c+1) 0) :
    (kpB k (inB A ((cuts A B).getD c 0)) (inB B ((cuts A B).getD c 0))=false→Cmb k A B ((cuts A B).getD (c+1) 0) R) ∧
    (kpB k (inB A ((cuts A B).getD c 0)) (inB B ((cuts A B).getD c 0))=true→Cmb k A B ((cuts A B).getD (c+1) 0) (addL R ((cuts A B).getD c 0,(cuts A B).getD (c+1) 0))):=by
  have asc:Wsc (cuts A B):=mgz_asc _ _ (fl_asc a) (fl_asc b);have mA:∀ p,p∈A→p.1∈cuts A B∧p.2∈cuts A B:=fun p hp=>⟨(mgz_mem _ _ _).2 (.inl (fl_mem.2 ⟨p,hp,.inl rfl⟩)),(mgz_mem _ _ _).2 (.inl (fl_mem.2 ⟨p,hp,.inr rfl⟩))⟩;have mB:∀ p,p∈B→p.1∈cuts A B∧p.2∈cuts A B:=fun p hp=>⟨(mgz_mem _ _ _).2 (.inr (fl_mem.2 ⟨p,hp,.inl rfl⟩)),(mgz_mem _ _ _).2 (.inr (fl_mem.2 ⟨p,hp,.inr rfl⟩))⟩;have cst:∀ t,(cuts A B).getD c 0≤t→t<(cuts A B).getD (c+1) 0→kpB k (inB A t) (inB B t)=kpB k (inB A ((cuts A B).getD c 0)) (inB B ((cuts A B).getD c 0)):=fun t t0 t1=>by
    rw [cut_const asc mA hc t0 t1,cut_const asc mB hc t0 t1]
  generalize (cuts A B).getD c 0=e at *;generalize (cuts A B).getD (c+1) 0=e' at *
  constructor
  · intro no;refine ⟨S.cn,fun t=>?_,fun q hq=>by have:=S.low q hq;omega⟩;rw [S.mem]
    by_cases z:t<e
    · rw [decide_eq_true z,decide_eq_true (show t<e' by omega)]
    · rw [decide_eq_false z,Bool.false_and]
      by_cases y:t<e'
      · rw [cst t (by omega) y,no,Bool.and_false]
      · rw [decide_eq_false y,Bool.false_and]
  · intro yes;obtain ⟨cn,m,-,l⟩:=add_ok (s:=(e,e')) S.cn (fun q hq=>S.low q hq) lt;refine ⟨cn,fun t=>?_,l⟩;rw [m,S.mem]
    show ((decide (t<e)&&_) || (decide (e≤t)&&decide (t<e')))=_
    by_cases z:t<e
    · rw [decide_eq_true z,decide_eq_true (show t<e' by omega),decide_eq_false (show ¬ e≤t by omega),Bool.false_and,Bool.or_false]
    · rw [decide_eq_false z,Bool.false_and,Bool.false_or,decide_eq_true (show e≤t by omega),Bool.true_and]
      by_cases y:t<e'
      · rw [cst t (by omega) y,yes,Bool.and_true]
      · rw [decide_eq_false y,Bool.false_and]
theorem cmb_end {k:Int} {A B:List Sp} (a:Cn A) (b:Cn B) {c:Nat} {R:List Sp} (hc:c+1=(cuts A B).length∨(cuts A B).length=0) (S:Cmb k A B ((cuts A B).getD c 0) R):R=cbL k A B:=by
 obtain ⟨cc,cm,-⟩:=cb_spec k A B;refine cn_ext S.cn cc fun t=>?_;rw [S.mem,cm]
 by_cases z:t<(cuts A B).getD c 0
 ·rw [decide_eq_true z,Bool.true_and]
 ·rw [decide_eq_false z,Bool.false_and];have asc:Wsc (cuts A B):=mgz_asc _ _ (fl_asc a) (fl_asc b);have hi:∀ {L:List Sp},(∀ p,p∈L→p.2∈cuts A B)→inB L t=false:=fun {L} m=>in_high fun q hq=>by
   obtain ⟨j,hj,e⟩:=mem_at (m q hq);have h1:=wsc_at asc (show j≤(cuts A B).length - 1 by omega) (by omega);have h2:c=(cuts A B).length - 1:=by omega
   rw [h2] at z;omega
  rw [hi (fun p hp=>(mgz_mem _ _ _).2 (.inl (fl_mem.2 ⟨p,hp,.inr rfl⟩))),hi (fun p hp=>(mgz_mem _ _ _).2 (.inr (fl_mem.2 ⟨p,hp,.inr rfl⟩))),kp_no]
end Go.Proofs.YtmamlgaogpkagaaGreat
