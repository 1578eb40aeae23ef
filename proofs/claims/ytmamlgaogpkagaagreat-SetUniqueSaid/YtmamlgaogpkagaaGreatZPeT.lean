/- PeT PeU. -/
import Derived.Test.YtmamlgaogpkagaaGreatZLPlain
import Derived.Test.YtmamlgaogpkagaaGreatZRnP
namespace Go.Proofs.YtmamlgaogpkagaaGreat
open Go.RowKit
set_option linter.unusedVariables false
set_option linter.unusedSimpArgs false
theorem gD {L:List Sp} {k:Nat} (h:k<L.length):L.getD k (0,0)=L[k]:=by rw [List.getD_eq_getElem?_getD,List.getElem?_eq_getElem h];rfl
theorem cn_app:∀ {A B:List Sp},Cn A→Cn B→(∀ p,p∈A→∀ q,q∈B→p.2<q.1)→Cn (A++B)
  | [],_,_,b,_=>b
  | p :: A,B,a,b,h=>by
    refine ⟨a.1,fun q hq=>?_,cn_app a.2.2 b fun r hr=>h r (List.mem_cons_of_mem _ hr)⟩
    rcases List.mem_append.1 hq with z | z
    · exact a.2.1 q z
    · exact h p (List.mem_cons_self ..) q z
theorem cn_take:∀ {A:List Sp} (n:Nat),Cn A→Cn (A.take n)
 | [],n,_=>by rw [List.take_nil];trivial
 | _ :: _,0,_=>trivial
 | p :: A,n+1,a=>⟨a.1,fun q hq=>a.2.1 q (List.mem_of_mem_take hq),cn_take n a.2.2⟩
theorem cn_drop:∀ {A:List Sp} (n:Nat),Cn A→Cn (A.drop n)
 | [],n,_=>by rw [List.drop_nil];trivial
 | _ :: _,0,a=>a
 | _ :: _,n+1,a=>cn_drop n a.2.2
theorem cn_gt:∀ {L:List Sp} {j k:Nat},Cn L→j<k→k<L.length→(L.getD j (0,0)).2<(L.getD k (0,0)).1
 | [],j,k,_,_,h=>absurd h (Nat.not_lt_zero _)
 | p :: L,0,k+1,c,_,h=>c.2.1 _ (getD_mem (L:=L) (by simpa using h))
 | p :: L,j+1,k+1,c,l,h=>cn_gt (L:=L) (j:=j) (k:=k) c.2.2 (by omega) (by simpa using h)
theorem ca_split {f:Int→Bool} {a b c:Int} (ab:a≤b) (bc:b≤c) (no:f (b - 1)=false):caL f a c=caL f a b++caL f b c:=by
 refine (ca_eq (cn_app (ca_cn f a b) (ca_cn f b c) fun p hp q hq=>?_) fun x=>?_).symm
 ·have e:=ca_ends f a b p hp;have e':=ca_ends f b c q hq;have lt:=(ca_cn f a b).lt p hp
  rcases Int.lt_or_eq_of_le e.2 with z | z
  ·omega
  ·have i:inB (caL f a b) (b - 1)=true:=inB_iff.2 ⟨p,hp,by omega,by omega⟩;rw [ca_in,no,Bool.and_false] at i;cases i
 ·rw [inB_app,ca_in,ca_in]
  cases f x
  ·simp
  ·by_cases y:x<b
   ·rw [decide_eq_true y,decide_eq_false (show ¬ b≤x by omega),decide_eq_true (show x<c by omega)];simp
   ·rw [decide_eq_false y,decide_eq_true (show b≤x by omega),decide_eq_true (show a≤x by omega)];simp
theorem sh_in' (L:List Sp) (n x:Int):inB (shL L n) x=inB L (x - n):=by
 have:=sh_in L n (x - n);rwa [show x - n+n=x by omega] at this
theorem sh_app (A B:List Sp) (n:Int):shL (A++B) n=shL A n++shL B n:=by simp [shL]
theorem ca_shift {f:Int→Bool} {n:Int} (per:Per f n) (a b:Int):caL f (a+n) (b+n)=shL (caL f a b) n:=by
 refine (ca_eq (sh_cn (ca_cn f a b)) fun x=>?_).symm;rw [sh_in',ca_in,decide_eq_decide.2 (show a≤x - n↔a+n≤x by omega),decide_eq_decide.2 (show x - n<b↔x<b+n by omega)];have:=per (x - n);rw [show x - n+n=x by omega] at this;rw [this]
def rpA (A:List Sp) (d:Int):Nat→List Sp
 | 0=>[]
 | t+1=>A++shL (rpA A d t) d
theorem rp_len (A:List Sp) (d:Int):∀ t,(rpA A d t).length=t * A.length
 | 0=>by simp [rpA]
 | t+1=>by rw [rpA,List.length_append,sh_len,rp_len A d t,Nat.succ_mul];omega
theorem rp_pre (A:List Sp) (d:Int):∀ t,∃ S,rpA A d (t+1)=rpA A d t++S
  | 0=>⟨_,(List.nil_append _).symm⟩
  | t+1=>by
    obtain ⟨S,e⟩:=rp_pre A d t;refine ⟨shL S d,?_⟩;rw [rpA,e,sh_app,← List.append_assoc,← e];rfl
theorem sh_getD (L:List Sp) (n:Int) {k:Nat} (hk:k<L.length):(shL L n).getD k (0,0)=((L.getD k (0,0)).1+n,(L.getD k (0,0)).2+n):=by
 rw [gD (by rw [sh_len];exact hk),gD hk]
 simp [shL]
theorem app_left (A B:List Sp) {k:Nat} (h:k<A.length):(A++B).getD k (0,0)=A.getD k (0,0):=by
 rw [gD (by rw [List.length_append];omega),gD h,List.getElem_append_left h]
theorem app_right (A B:List Sp) (k:Nat):(A++B).getD (A.length+k) (0,0)=B.getD k (0,0):=by
 rw [List.getD_eq_getElem?_getD,List.getD_eq_getElem?_getD,List.getElem?_append_right (by omega),Nat.add_sub_cancel_left]
theorem rp_shift (A:List Sp) (d:Int) (t i:Nat) (h:i<t * A.length):(rpA A d (t+1)).getD (i+A.length) (0,0)=(((rpA A d (t+1)).getD i (0,0)).1+d,((rpA A d (t+1)).getD i (0,0)).2+d):=by
 obtain ⟨S,e⟩:=rp_pre A d t;have hl:=rp_len A d t;have p:(rpA A d (t+1)).getD i (0,0)=(rpA A d t).getD i (0,0):=by rw [e,app_left _ _ (by omega)]
 rw [p,rpA,Nat.add_comm i,app_right,sh_getD _ _ (by omega)]
theorem rp_in {A:List Sp} {o d:Int} (d0:0<d) (h:∀ q,q∈A→o≤q.1∧q.2≤o+d):∀ (t:Nat) (x:Int),inB (rpA A d t) x=(decide (o≤x)&&decide (x<o+t * d)&&inB A (o+(x - o) % d))
  | 0,x=>by
    show false=_
    by_cases z:o≤x
    · rw [decide_eq_false (show ¬ x<o+((0:Nat):Int) * d by rw [show ((0:Nat):Int) * d=0 by simp];omega),Bool.and_false,Bool.false_and]
    · rw [decide_eq_false z];rfl
  | t+1,x=>by
    rw [rpA,inB_app,sh_in',rp_in d0 h t];have out:∀ y,¬ (o≤y∧y<o+d)→inB A y=false:=fun y hy=>by
      rw [← Bool.not_eq_true];intro i;obtain ⟨q,hq,a,b⟩:=inB_iff.1 i;have:=h q hq;omega
    have e:((t+1:Nat):Int) * d=t * d+d:=by rw [Int.natCast_succ,Int.add_mul,Int.one_mul]
    rw [e];have tn:(0:Int)≤t * d:=Int.mul_nonneg (by omega) (by omega);generalize (t:Int) * d=T at tn ⊢;have em:(x - d - o) % d=(x - o) % d:=by rw [show x - d - o=x - o - d by omega,Int.sub_emod_right]
    rw [em]
    by_cases z:o≤x
    · by_cases y:x<o+d
      · rw [decide_eq_true z,decide_eq_false (show ¬ o≤x - d by omega),decide_eq_true (show x<o+(T+d) by omega),Int.emod_eq_of_lt (show 0≤x - o by omega) (by omega),show o+(x - o)=x by omega]
        simp
      · rw [out x (by omega),decide_eq_true z,decide_eq_true (show o≤x - d by omega),decide_eq_decide.2 (show x - d<o+T↔x<o+(T+d) by omega),Bool.false_or,show o+(x - o) % d=o+(x - o) % d from rfl]
    · rw [out x (by omega),decide_eq_false z,decide_eq_false (show ¬ o≤x - d by omega)];simp
structure Crc (P:Int) (f:Int→Bool) (L:List Sp):Prop where
 P0:0<P
 cn:Cn L
 ne:0<L.length
 lo:∀ q,q∈L→0≤q.1∧q.1<P
 hi:∀ q,q∈L→(L.getD 0 (0,0)).1≤q.1∧q.2<(L.getD 0 (0,0)).1+P
 mem:∀ x,f x=inB L ((L.getD 0 (0,0)).1+(x - (L.getD 0 (0,0)).1) % P)
section
variable {P:Int} {f:Int→Bool} {L:List Sp}
theorem Crc.o0 (h:Crc P f L):0≤(L.getD 0 (0,0)).1∧(L.getD 0 (0,0)).1<P:=h.lo _ (getD_mem h.ne)
theorem Crc.per (h:Crc P f L):Per f P:=fun x=>by
  rw [h.mem,h.mem,show x+P - (L.getD 0 (0,0)).1=x - (L.getD 0 (0,0)).1+P by omega,Int.add_emod_right]
theorem Crc.gap (h:Crc P f L):f ((L.getD 0 (0,0)).1 - 1)=false:=by
  have P0:=h.P0;rw [h.mem,show (L.getD 0 (0,0)).1 - 1 - (L.getD 0 (0,0)).1=-1 by omega];have e:(-1:Int) % P=P - 1:=by
    have:=Int.add_emod_right (-1) P;rw [← this,Int.emod_eq_of_lt (by omega) (by omega)];omega
  rw [e,← Bool.not_eq_true];intro i;obtain ⟨q,hq,a,b⟩:=inB_iff.1 i;have:=h.hi q hq;omega
theorem Crc.self (h:Crc P f L):L=caL f (L.getD 0 (0,0)).1 ((L.getD 0 (0,0)).1+P):=by
  refine ca_eq h.cn fun x=>?_;generalize ho:(L.getD 0 (0,0)).1=o;have H:=h.hi;rw [ho] at H;have M:=h.mem;rw [ho] at M
  by_cases z:o≤x∧x<o+P
  · rw [decide_eq_true z.1,decide_eq_true z.2,M,Int.emod_eq_of_lt (by omega) (by omega),show o+(x - o)=x by omega];rfl
  · have e:inB L x=false:=by
      rw [← Bool.not_eq_true];intro i;obtain ⟨q,hq,a,b⟩:=inB_iff.1 i;have:=H q hq;omega
    rw [e]
    by_cases y:o≤x
    · rw [decide_eq_false (show ¬ x<o+P by omega),Bool.and_false,Bool.false_and]
    · rw [decide_eq_false y];rfl
theorem Crc.parts (h:Crc P f L) {d:Int} {t:Nat} (d0:0<d) (e:P=t * d) (per:Per f d):L=rpA (caL f (L.getD 0 (0,0)).1 ((L.getD 0 (0,0)).1+d)) d t:=by
  have g:=h.gap;have s:=h.self;generalize (L.getD 0 (0,0)).1=o at g s ⊢;rw [e] at s;rw [s];clear s e;have go:∀ t:Nat,caL f o (o+t * d)=rpA (caL f o (o+d)) d t:=by
    intro t
    induction t with
    | zero=>rw [show o+((0:Nat):Int) * d=o by simp];unfold caL;rw [Int.sub_self];rfl
    | succ t ih =>
      have en:((t+1:Nat):Int) * d=t * d+d:=by rw [Int.natCast_succ,Int.add_mul,Int.one_mul]
      have tn:(0:Int)≤t * d:=Int.mul_nonneg (by omega) (by omega);have gd:f (o+d - 1)=false:=by
        have:=per (o - 1);rw [show o - 1+d=o+d - 1 by omega,g] at this;exact this
      rw [en,ca_split (b:=o+d) (by omega) (by omega) gd,rpA,show o+((t:Int) * d+d)=(o+t * d)+d by omega,ca_shift per,ih]
  exact go t
def ShO (L:List Sp) (c:Nat) (d:Int):Prop:=∀ i,i+c<L.length→L.getD (i+c) (0,0)=((L.getD i (0,0)).1+d,(L.getD i (0,0)).2+d)
theorem Crc.count (h:Crc P f L) {d:Int} {t:Nat} (d0:0<d) (e:P=t * d) (per:Per f d):L.length=t * (caL f (L.getD 0 (0,0)).1 ((L.getD 0 (0,0)).1+d)).length:=by
  have:=congrArg List.length (h.parts d0 e per);rwa [rp_len] at this
theorem Crc.shift (h:Crc P f L) {d:Int} {t:Nat} (d0:0<d) (e:P=t * d) (per:Per f d):ShO L (caL f (L.getD 0 (0,0)).1 ((L.getD 0 (0,0)).1+d)).length d:=by
  intro i hi;have n:=h.count d0 e per;have p:=h.parts d0 e per;generalize caL f (L.getD 0 (0,0)).1 ((L.getD 0 (0,0)).1+d)=A at n p hi ⊢
  cases t with
  | zero=>rw [Nat.zero_mul] at n;omega
  | succ t =>
    rw [Nat.succ_mul] at n;rw [p];exact rp_shift A d t i (by omega)
theorem list_ext {A B:List Sp} (hl:A.length=B.length) (h:∀ i,i<A.length→A.getD i (0,0)=B.getD i (0,0)):A=B:=by
  refine List.ext_getElem hl fun i h1 h2=>?_;have:=h i h1;rwa [gD h1,gD h2] at this
theorem take_getD (L:List Sp) {n i:Nat} (h:i<n):(L.take n).getD i (0,0)=L.getD i (0,0):=by
  rw [List.getD_eq_getElem?_getD,List.getD_eq_getElem?_getD,List.getElem?_take,if_pos h]
theorem drop_getD (L:List Sp) (n i:Nat):(L.drop n).getD i (0,0)=L.getD (n+i) (0,0):=by
  rw [List.getD_eq_getElem?_getD,List.getD_eq_getElem?_getD,List.getElem?_drop]
theorem sho_parts:∀ (t c:Nat) (L:List Sp) (d:Int),L.length=t * c→ShO L c d→L=rpA (L.take c) d t
  | 0,c,L,d,n,s=>by rw [Nat.zero_mul] at n;exact List.eq_nil_of_length_eq_zero n
  | t+1,c,L,d,n,s=>by
    rw [Nat.succ_mul] at n;have e:L.drop c=shL (L.take (t * c)) d:=by
      refine list_ext (by rw [List.length_drop,sh_len,List.length_take];omega) fun i hi=>?_;rw [List.length_drop] at hi;rw [drop_getD,sh_getD _ _ (by rw [List.length_take];omega),take_getD _ (by omega),Nat.add_comm c,s i (by omega)]
    have ih:=sho_parts t c (L.take (t * c)) d (by rw [List.length_take];omega) fun i hi=>by
      rw [List.length_take] at hi;rw [take_getD _ (by omega),take_getD _ (by omega),s i (by omega)]
    cases t with
    | zero =>
      rw [Nat.zero_mul] at n e;have e':L.take c=L:=List.take_of_length_le (by omega);rw [e'];show L=L++[];rw [List.append_nil]
    | succ t =>
      rw [List.take_take,Nat.min_eq_left (by rw [Nat.succ_mul];omega)] at ih;rw [rpA,← ih,← e,List.take_append_drop]
theorem sho_per (h:Crc P f L) {d:Int} {t c:Nat} (d0:0<d) (t2:2≤t) (e:P=t * d) (n:L.length=t * c) (s:ShO L c d):Per f d:=by
  have p:=sho_parts t c L d n s;have c0:0<c:=by
    rcases Nat.eq_zero_or_pos c with z | z
    · subst z;rw [Nat.mul_zero] at n;have:=h.ne;omega
    · exact z
  have n2:c+c≤L.length:=by rw [n];have:=Nat.mul_le_mul_right c t2;omega
  have s0:=s 0 (by omega);rw [Nat.zero_add] at s0;have H:=h.hi;have M:=h.mem;have c':=h.cn;generalize ho:(L.getD 0 (0,0)).1=o at *;have b:∀ q,q∈L.take c→o≤q.1∧q.2≤o+d:=fun q hq=>by
    refine ⟨(H q (List.mem_of_mem_take hq)).1,?_⟩;obtain ⟨j,hj,rfl⟩:=mem_getD hq;rw [List.length_take] at hj;rw [take_getD _ (by omega)];have g:(L.getD (c - 1) (0,0)).2<(L.getD c (0,0)).1:=by
      have:=gpB_at.1 (gp_of_cn c') (c - 1) (by omega);rwa [show c - 1+1=c by omega] at this
    have g2:(L.getD j (0,0)).2≤(L.getD (c - 1) (0,0)).2:=by
      rcases Nat.lt_or_ge j (c - 1) with z | z
      · have:=cn_gt c' z (show c - 1<L.length by omega);have:=c'.lt _ (getD_mem (show c - 1<L.length by omega));omega
      · rw [show j=c - 1 by omega];exact Int.le_refl _
    rw [s0] at g;have g:(L.getD (c - 1) (0,0)).2<o+d:=g;omega
  have r:∀ x,f x=inB (L.take c) (o+(x - o) % d):=fun x=>by
    have m0:=Int.emod_nonneg (x - o) (show P≠0 by have:=h.P0;omega);have m1:=Int.emod_lt_of_pos (x - o) h.P0;rw [M,p,rp_in d0 b,← p,decide_eq_true (show o≤o+(x - o) % P by omega),decide_eq_true (show o+(x - o) % P<o+t * d by rw [← e];omega),show o+(x - o) % P - o=(x - o) % P by omega];rw [Int.emod_emod_of_dvd _ (show d ∣ P from ⟨t,by rw [e,Int.mul_comm]⟩)];rfl
  intro x;rw [r,r,show x+d - o=x - o+d by omega,Int.add_emod_right]
end
structure Cir (P:Int) (f:Int→Bool) (L:List Sp):Prop where
 P0:0<P
 cn:Cn L
 lo:∀ q,q∈L→0≤q.1∧q.1<P∧q.2≤2 * P
 mem:∀ x,f x=(inB L (x % P) || inB L (x % P+P))
theorem cir_in {P:Int} {L:List Sp} (P0:0<P) (c:Cn L) (i:InP P L):Cir P (hsP P L) L :=
 ⟨P0,c,fun q hq=>by have:=i q hq;have:=c.lt q hq;omega,fun x=>by
  have m0:=Int.emod_nonneg x (show P≠0 by omega);have e:inB L (x % P+P)=false:=by
   rw [← Bool.not_eq_true];intro q;have:=in_out i q;omega
  rw [e,Bool.or_false];rfl⟩
theorem cir_step {P:Int} {f:Int→Bool} {p q:Sp} {R:List Sp} (h:Cir P f (p :: (R++[q]))) (t:p.1+P≤q.2):Cir P f (R++[(q.1,if q.2<p.2+P then p.2+P else q.2)]):=by
 obtain ⟨P0,cn,lo,mem⟩:=h;obtain ⟨cR,bR,ltq⟩:=cn_last cn.2.2;have lp:=lo p (List.mem_cons_self ..);have lq:=lo q (List.mem_cons_of_mem _ (List.mem_append_right _ (List.mem_singleton.2 rfl)));have ltp:=cn.1;have pq:=cn.2.1 q (List.mem_append_right _ (List.mem_singleton.2 rfl));generalize hy:(if q.2<p.2+P then p.2+P else q.2)=y;have hy':y=p.2+P∧q.2<p.2+P∨y=q.2∧p.2+P≤q.2:=by
  rw [← hy];split
  ·left;exact ⟨rfl,by assumption⟩
  ·right;exact ⟨rfl,by omega⟩
 refine ⟨P0,cn_snoc cR bR (by show q.1<y;omega),fun r hr=>?_,fun x=>?_⟩
 ·rcases List.mem_append.1 hr with z | z
  ·exact lo r (List.mem_cons_of_mem _ (List.mem_append_left _ z))
  ·rw [List.mem_singleton.1 z];refine ⟨lq.1,lq.2.1,?_⟩
   show y≤_
   omega
 ·rw [mem];have m0:=Int.emod_nonneg x (show P≠0 by omega);have m1:=Int.emod_lt_of_pos x P0;generalize x % P=r at m0 m1;rw [inB_cons,inB_cons,inB_app,inB_app,inB_app,inB_app,inB_one,inB_one,inB_one,inB_one];rw [show (decide (p.1≤r+P)&&decide (r+P<p.2))=false by rw [decide_eq_false (show ¬ r+P<p.2 by omega),Bool.and_false]]
  show _=(inB R r || (decide (q.1≤r)&&decide (r<y)) || (inB R (r+P) || (decide (q.1≤r+P)&&decide (r+P<y))))
  rw [decide_eq_decide.2 (show r<q.2↔r<y by omega),decide_eq_true (show q.1≤r+P by omega),Bool.true_and,Bool.true_and,Bool.false_or];generalize inB R r=b1;generalize inB R (r+P)=b2;generalize (decide (q.1≤r)&&decide (r<y))=b3
  by_cases z:p.1≤r∧r<p.2
  ·rw [decide_eq_true z.1,decide_eq_true z.2,decide_eq_true (show r+P<y by omega)]
   cases b1 <;> cases b2 <;> cases b3 <;> rfl
  ·have e:(decide (p.1≤r)&&decide (r<p.2))=false:=by
    rw [← Bool.not_eq_true,Bool.and_eq_true,decide_eq_true_iff,decide_eq_true_iff];exact z
   rw [e,Bool.false_or,decide_eq_decide.2 (show r+P<q.2↔r+P<y by omega)]
def CrV (P:Int) (f:Int→Bool) (Q:Int) (L:List Sp):Prop:=(Q=1∧L=[]∧∀ x,f x=false)∨(Q=1∧L=[(0,1)]∧∀ x,f x=true)∨(Q=P∧Crc P f L)
theorem cir_nil {P:Int} {f:Int→Bool} (h:Cir P f []):∀ x,f x=false:=fun x=>by rw [h.mem];rfl
theorem cir_all {P:Int} {f:Int→Bool} {L:List Sp} (h:Cir P f L) (ne:0<L.length) (t:P≤(L.getD 0 (0,0)).2 - (L.getD 0 (0,0)).1):∀ x,f x=true:=fun x=>by
 have m0:=Int.emod_nonneg x (show P≠0 by have:=h.P0;omega);have m1:=Int.emod_lt_of_pos x h.P0;have hm:=getD_mem ne;have l:=h.lo _ hm;rw [h.mem,Bool.or_eq_true]
 by_cases z:(L.getD 0 (0,0)).1≤x % P
 ·exact Or.inl (inB_iff.2 ⟨_,hm,z,by omega⟩)
 ·exact Or.inr (inB_iff.2 ⟨_,hm,by omega,by omega⟩)
theorem cir_crc {P:Int} {f:Int→Bool} {L:List Sp} (h:Cir P f L) (ne:0<L.length) (t:(L.getD 0 (0,0)).2 - (L.getD 0 (0,0)).1<P) (e:L.length=1∨(L.getD (L.length - 1) (0,0)).2<(L.getD 0 (0,0)).1+P):Crc P f L:=by
 have P0:=h.P0;have hi:∀ q,q∈L→(L.getD 0 (0,0)).1≤q.1∧q.2<(L.getD 0 (0,0)).1+P:=fun q hq=>by
  obtain ⟨j,hj,rfl⟩:=mem_getD hq;have l0:=h.cn.lt _ (getD_mem ne);have lj:=h.cn.lt _ (getD_mem hj)
  constructor
  ·rcases Nat.eq_zero_or_pos j with z | z
   ·rw [z];exact Int.le_refl _
   ·have:=cn_gt h.cn z hj;omega
  ·rcases e with e | e
   ·rw [show j=0 by omega];omega
   ·rcases Nat.lt_or_ge j (L.length - 1) with z | z
    ·have a:=cn_gt h.cn z (by omega);have b:=h.cn.lt _ (getD_mem (show L.length - 1<L.length by omega));omega
    ·rw [show j=L.length - 1 by omega];exact e
 refine ⟨P0,h.cn,ne,fun q hq=>⟨(h.lo q hq).1,(h.lo q hq).2.1⟩,hi,fun x=>?_⟩;have o0:=h.lo _ (getD_mem ne);rw [h.mem];generalize (L.getD 0 (0,0)).1=o at hi o0;have out:∀ y,¬ (o≤y∧y<o+P)→inB L y=false:=fun y hy=>by
  rw [← Bool.not_eq_true];intro i;obtain ⟨q,hq,a,b⟩:=inB_iff.1 i;have:=hi q hq;omega
 have m0:=Int.emod_nonneg x (show P≠0 by omega);have m1:=Int.emod_lt_of_pos x P0;have em:(x - o) % P=(x % P - o) % P:=by rw [Int.emod_sub_emod]
 rw [em];generalize x % P=r at m0 m1
 by_cases z:o≤r
 ·rw [out (r+P) (by omega),Bool.or_false,Int.emod_eq_of_lt (by omega) (by omega),show o+(r - o)=r by omega]
 ·rw [out r (by omega),Bool.false_or];have:(r - o) % P=r - o+P:=by rw [← Int.add_emod_right,Int.emod_eq_of_lt (by omega) (by omega)]
  rw [this,show o+(r - o+P)=r+P by omega]
theorem CrV.same {P:Int} {f:Int→Bool} {Q:Int} {L:List Sp} (h:CrV P f Q L) (P0:0<P):0<Q:=by
 rcases h with ⟨rfl,-⟩ | ⟨rfl,-⟩ | ⟨rfl,c⟩
 ·omega
 ·omega
 ·exact P0
theorem lst_const {P:Int} {f:Int→Bool} {b:Bool} (h:∀ x,f x=b):Lst f P 1:=⟨by omega,Int.one_dvd P,fun x=>by rw [h,h],fun e a _ _=>by omega⟩
theorem dvd_nat {P e:Int} (P0:0<P) (e0:0<e) (d:e ∣ P):∃ s:Nat,P=s * e∧0<s:=by
 obtain ⟨k,rfl⟩:=d;have k0:0<k:=by
  rcases Int.lt_or_le 0 k with z | z
  ·exact z
  ·have:=Int.mul_nonneg (show 0≤e by omega) (show 0≤-k by omega);rw [Int.mul_neg] at this;omega
 exact ⟨k.toNat,by rw [Int.toNat_of_nonneg (by omega),Int.mul_comm],by omega⟩
theorem crc_found {P:Int} {f:Int→Bool} {L:List Sp} (h:Crc P f L) {e:Int} {s:Nat} (e0:0<e) (hs:P=s * e) (s0:0<s) (per:Per f e):s≤L.length∧L.length % s=0∧P % (s:Int)=0∧ShO L (L.length / s) (P / s):=by
 have n:=h.count e0 hs per;have sh:=h.shift e0 hs per;have ne:=h.ne;generalize (caL f (L.getD 0 (0,0)).1 ((L.getD 0 (0,0)).1+e)).length=c at n sh;have c0:0<c:=by
  rcases Nat.eq_zero_or_pos c with z | z
  ·subst z;rw [Nat.mul_zero] at n;omega
  ·exact z
 refine ⟨by rw [n];exact Nat.le_mul_of_pos_right _ c0,by rw [n];exact Nat.mul_mod_right _ _,by rw [hs];exact Int.mul_emod_right _ _,?_⟩;have e1:L.length / s=c:=by rw [n];exact Nat.mul_div_cancel_left _ s0
 have e2:P / (s:Int)=e:=by rw [hs];exact Int.mul_ediv_cancel_left _ (show (s:Int)≠0 by omega)
 rw [e1,e2];exact sh
def TrY (P:Int) (L:List Sp) (s:Nat):Prop:=L.length % s=0∧P % (s:Int)=0∧ShO L (L.length / s) (P / s)
theorem least_hit {P:Int} {f:Int→Bool} {L:List Sp} (h:Crc P f L) {t:Nat} (t2:2≤t) (y:TrY P L t) (no:∀ s,t<s→s≤L.length→¬ TrY P L s):Lst f P (P / t):=by
 obtain ⟨a,b,c⟩:=y;have P0:=h.P0;have e1:P=t * (P / t):=by have:=Int.emod_add_mul_ediv P t;omega
 have e2:L.length=t * (L.length / t):=by have:=Nat.mod_add_div L.length t;omega
 have d0:0<P / t:=by
  rcases Int.lt_or_le 0 (P / t) with z | z
  ·exact z
  ·have:=Int.mul_nonneg (show (0:Int)≤t by omega) (show 0≤-(P / t) by omega);rw [Int.mul_neg] at this;omega
 refine ⟨d0,⟨t,by rw [Int.mul_comm];exact e1⟩,sho_per h d0 t2 e1 e2 c,fun e e0 dv per=>?_⟩;obtain ⟨s,hs,s0⟩:=dvd_nat P0 e0 dv;obtain ⟨f1,f2,f3,f4⟩:=crc_found h e0 hs s0 per
 rcases Int.lt_or_le e (P / t) with z | z
 ·exfalso
  refine no s ?_ f1 ⟨f2,f3,f4⟩
  rcases Nat.lt_or_ge t s with y | y
  ·exact y
  ·have a1:(s:Int) * e≤t * e:=Int.mul_le_mul_of_nonneg_right (by omega) (by omega);have a2:(t:Int) * e<t * (P / t):=Int.mul_lt_mul_of_pos_left z (by omega);omega
 ·exact z
theorem least_end {P:Int} {f:Int→Bool} {L:List Sp} (h:Crc P f L) (no:∀ s,1<s→s≤L.length→¬ TrY P L s):Lst f P P:=by
 refine ⟨h.P0,Int.dvd_refl P,h.per,fun e e0 dv per=>?_⟩;obtain ⟨s,hs,s0⟩:=dvd_nat h.P0 e0 dv;obtain ⟨f1,f2,f3,f4⟩:=crc_found h e0 hs s0 per
 rcases Nat.lt_or_ge 1 s with z | z
 ·exact absurd ⟨f2,f3,f4⟩ (no s z f1)
 ·obtain rfl:s=1:=by omega
  omega
theorem crc_front {P:Int} {f:Int→Bool} {L:List Sp} (h:Crc P f L) {y:Int} (y0:0≤y) (y1:y<(L.getD 0 (0,0)).1) (t:f y=true):f (y - 1)=true:=by
 have P0:=h.P0;have o:=h.o0;have e:∀ z,-1≤z→z<(L.getD 0 (0,0)).1→f z=inB L (z+P):=fun z z0 z1=>by
  rw [h.mem];have:(z - (L.getD 0 (0,0)).1) % P=z - (L.getD 0 (0,0)).1+P:=by
   rw [← Int.add_emod_right,Int.emod_eq_of_lt (by omega) (by omega)]
  rw [this]
  congr 1;omega
 rw [e y (by omega) y1] at t;rw [e (y - 1) (by omega) (by omega)];obtain ⟨q,hq,a,b⟩:=inB_iff.1 t;have:=h.lo q hq;exact inB_iff.2 ⟨q,hq,by omega,by omega⟩
theorem crc_low {P d:Int} {f:Int→Bool} {L:List Sp} (h:Crc P f L) (d0:0<d) (dP:d≤P) (per:Per f d):∀ q,q∈caL f (L.getD 0 (0,0)).1 ((L.getD 0 (0,0)).1+d)→(L.getD 0 (0,0)).1≤q.1∧q.1<d∧q.2<(L.getD 0 (0,0)).1+d:=fun q hq=>by
 have g:=h.gap;have fr:=fun y=>@crc_front P f L h y;have cn:=ca_cn f (L.getD 0 (0,0)).1 ((L.getD 0 (0,0)).1+d);have e:=ca_ends f _ _ q hq;have oz:=h.o0;have mm:=ca_in f (L.getD 0 (0,0)).1 ((L.getD 0 (0,0)).1+d);generalize (L.getD 0 (0,0)).1=o at *;have lt:=cn.lt q hq;have gd:f (o+d - 1)=false:=by
  have:=per (o - 1);rw [show o - 1+d=o+d - 1 by omega,g] at this;exact this
 have hi:q.2<o+d:=by
  rcases Int.lt_or_eq_of_le e.2 with z | z
  ·exact z
  ·have i:inB (caL f o (o+d)) (o+d - 1)=true:=inB_iff.2 ⟨q,hq,by omega,by omega⟩;rw [mm,gd,Bool.and_false] at i;cases i
 refine ⟨e.1,?_,hi⟩
 rcases Int.lt_or_le q.1 d with z | z
 ·exact z
 ·exfalso
  have f1:f q.1=true:=by
   have i:inB (caL f o (o+d)) q.1=true:=inB_iff.2 ⟨q,hq,by omega,by omega⟩;rw [mm,Bool.and_eq_true] at i;exact i.2
  have f0:f (q.1 - 1)=false:=by
   rcases Int.lt_or_eq_of_le e.1 with y | y
   ·have i:inB (caL f o (o+d)) (q.1 - 1)=false:=by
     rw [← Bool.not_eq_true];intro i;obtain ⟨r,hr,a,b⟩:=inB_iff.1 i;obtain ⟨j,hj,ej⟩:=mem_getD hr;obtain ⟨k,hk,ek⟩:=mem_getD hq
     rcases Nat.lt_or_ge j k with u | u
     ·have:=cn_gt cn u hk;rw [ej,ek] at this;omega
     ·rcases Nat.eq_or_lt_of_le u with v | v
      ·rw [← v,ek] at ej;subst ej;omega
      ·have:=cn_gt cn v hj;rw [ej,ek] at this;omega
    rw [mm,decide_eq_true (show o≤q.1 - 1 by omega),decide_eq_true (show q.1 - 1<o+d by omega)] at i;exact i
   ·rw [← y];exact g
  have s1:=per (q.1 - d);rw [show q.1 - d+d=q.1 by omega,f1] at s1;have s0:=per (q.1 - d - 1);rw [show q.1 - d - 1+d=q.1 - 1 by omega,f0] at s0;have:=fr (q.1 - d) (by omega) (by omega) s1.symm;rw [← s0] at this;cases this
theorem frm_ok {P d:Int} {f:Int→Bool} {L:List Sp} (h:Crc P f L) (d0:0<d) (dP:d≤P) (per:Per f d) {R:List Sp} {q:Sp} (e:caL f (L.getD 0 (0,0)).1 ((L.getD 0 (0,0)).1+d)=R++[q]) :
  caL f 0 d=if d<q.2 then (0,q.2 - d) :: (R++[(q.1,d)]) else R++[q]:=by
 have lw:=crc_low h d0 dP per;have oz:=h.o0;have mm:=ca_in f (L.getD 0 (0,0)).1 ((L.getD 0 (0,0)).1+d);have cn:=ca_cn f (L.getD 0 (0,0)).1 ((L.getD 0 (0,0)).1+d);rw [e] at lw mm cn;generalize (L.getD 0 (0,0)).1=o at *;obtain ⟨cR,bR,ltq⟩:=cn_last cn;have lq:=lw q (List.mem_append_right _ (List.mem_singleton.2 rfl));have lr:∀ r,r∈R→o≤r.1∧r.2<q.1:=fun r hr=>⟨(lw r (List.mem_append_left _ hr)).1,bR r hr⟩;have fx:∀ x,0≤x→x<d→f x=if x<o then decide (x+d<q.2) else inB (R++[q]) x:=fun x x0 x1=>by
  split
  ·rename_i z
   have m:=mm (x+d);rw [decide_eq_true (show o≤x+d by omega),decide_eq_true (show x+d<o+d by omega),per x,Bool.and_self,Bool.true_and] at m;rw [← m,inB_app,inB_one,in_high (fun r hr=>by have:=lr r hr;omega),decide_eq_true (show q.1≤x+d by omega),Bool.true_and,Bool.false_or]
  ·rename_i z
   have m:=mm x;rw [decide_eq_true (show o≤x by omega),decide_eq_true (show x<o+d by omega),Bool.and_self,Bool.true_and] at m;exact m.symm
 symm
 split
 ·rename_i z
  refine ca_eq ⟨by show (0:Int)<q.2 - d;omega,fun r hr=>?_,cn_snoc cR bR (by show q.1<d;omega)⟩ fun x=>?_
  ·rcases List.mem_append.1 hr with y | y
   ·have:=lr r y;show q.2 - d<r.1;omega
   ·rw [List.mem_singleton.1 y];show q.2 - d<q.1;omega
  ·rw [inB_cons,inB_app,inB_one]
   show (decide (0≤x)&&decide (x<q.2 - d) || (inB R x || decide (q.1≤x)&&decide (x<d)))=_
   by_cases x0:0≤x
   ·by_cases x1:x<d
    ·rw [fx x x0 x1,decide_eq_true x0,decide_eq_true x1,Bool.true_and,Bool.true_and,Bool.true_and,Bool.and_true]
     split
     ·rename_i y
      have:inB R x=false:=by
       rw [← Bool.not_eq_true];intro i;obtain ⟨r,hr,a,b⟩:=inB_iff.1 i;have:=lr r hr;omega
      rw [this,decide_eq_false (show ¬ q.1≤x by omega),Bool.or_false,Bool.or_false,decide_eq_decide.2 (show x<q.2 - d↔x+d<q.2 by omega)]
     ·rename_i y
      rw [inB_app,inB_one,decide_eq_false (show ¬ x<q.2 - d by omega),Bool.false_or,decide_eq_true (show x<q.2 by omega),Bool.and_true]
    ·rw [decide_eq_false x1,decide_eq_false (show ¬ x<q.2 - d by omega),in_high (fun r hr=>by have:=lr r hr;omega)];simp
   ·have:inB R x=false:=by
     rw [← Bool.not_eq_true];intro i;obtain ⟨r,hr,a,b⟩:=inB_iff.1 i;have:=lr r hr;omega
    rw [decide_eq_false x0,this,decide_eq_false (show ¬ q.1≤x by omega)];rfl
 ·rename_i z
  refine ca_eq cn fun x=>?_
  by_cases x0:0≤x
  ·by_cases x1:x<d
   ·rw [fx x x0 x1,decide_eq_true x0,decide_eq_true x1,Bool.true_and,Bool.true_and]
    split
    ·rename_i y
     rw [decide_eq_false (show ¬ x+d<q.2 by omega),inB_app,inB_one,decide_eq_false (show ¬ q.1≤x by omega),Bool.false_and,Bool.or_false,← Bool.not_eq_true];intro i;obtain ⟨r,hr,a,b⟩:=inB_iff.1 i;have:=lr r hr;omega
    ·rfl
   ·rw [decide_eq_false x1,inB_app,inB_one,in_high (fun r hr=>by have:=lr r hr;omega),decide_eq_false (show ¬ x<q.2 by omega)];simp
  ·have:inB R x=false:=by
    rw [← Bool.not_eq_true];intro i;obtain ⟨r,hr,a,b⟩:=inB_iff.1 i;have:=lr r hr;omega
   rw [decide_eq_false x0,inB_app,inB_one,this,decide_eq_false (show ¬ q.1≤x by omega)];rfl
theorem frm_len {P d:Int} {f:Int→Bool} {L:List Sp} (h:Crc P f L) (d0:0<d) (dv:d ∣ P) (per:Per f d) :
  ∃ c:Nat,0<c∧c≤L.length∧(L.length:Int) * d / P=c∧L.take c=caL f (L.getD 0 (0,0)).1 ((L.getD 0 (0,0)).1+d):=by
 obtain ⟨t,ht,t0⟩:=dvd_nat h.P0 d0 dv;have n:=h.count d0 ht per;have p:=h.parts d0 ht per;have ne:=h.ne;generalize caL f (L.getD 0 (0,0)).1 ((L.getD 0 (0,0)).1+d)=A at n p ⊢;have c0:0<A.length:=by
  rcases Nat.eq_zero_or_pos A.length with z | z
  ·rw [z,Nat.mul_zero] at n;omega
  ·exact z
 refine ⟨A.length,c0,by rw [n];exact Nat.le_mul_of_pos_left _ t0,?_,?_⟩
 ·rw [n,ht,Int.natCast_mul,Int.mul_assoc,Int.mul_comm (A.length:Int) d,← Int.mul_assoc];exact Int.mul_ediv_cancel_left _ (by have:=Int.mul_pos (show (0:Int)<t by omega) d0;omega)
 ·obtain ⟨t,rfl⟩:∃ u,t=u+1:=⟨t - 1,by omega⟩;rw [p,rpA,List.take_left]
end Go.Proofs.YtmamlgaogpkagaaGreat
