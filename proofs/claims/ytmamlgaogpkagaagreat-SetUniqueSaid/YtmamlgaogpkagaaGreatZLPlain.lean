/- LPlain LIvM RnM RnN RnC PeS RnL. -/
import Derived.WalkKit
namespace Go.Proofs.YtmamlgaogpkagaaGreat
open Go.RowKit
set_option linter.unusedVariables false
set_option linter.unusedSimpArgs false
theorem fdm_unique {a b q r:Int} (hb:b≠0) (h:q * b+r=a) (hp:0<b→0≤r∧r<b) (hn:b<0→b<r∧r≤0):a.fdiv b=q∧a.fmod b=r:=by
 have e:=Int.mul_fdiv_add_fmod a b;have hr:a.fmod b=r:=by
  have d:b ∣ a.fmod b - r:=⟨q - a.fdiv b,by rw [Int.mul_sub,Int.mul_comm b q];omega⟩;have z:a.fmod b - r=0:=by
   apply Int.eq_zero_of_dvd_of_natAbs_lt_natAbs d
   by_cases p:0<b
   ·have:=Int.fmod_nonneg_of_pos a p;have:=Int.fmod_lt_of_pos a p;have:=hp p;omega
   ·have p':b<0:=by omega
    have t:=Int.fmod_nonneg_of_pos (-a) (show 0 < -b by omega);have u:=Int.fmod_lt_of_pos (-a) (show 0 < -b by omega);rw [Int.neg_fmod_neg] at t u;have:=hn p';omega
  omega
 refine ⟨?_,hr⟩;have:b * a.fdiv b=b * q:=by rw [Int.mul_comm b q];omega
 exact Int.eq_of_mul_eq_mul_left hb this
theorem tq_bd {a b:Int} (h0:-9223372036854775808≤a) (h1:a≤9223372036854775807) (hx:¬ (a=-9223372036854775808∧b=-1)) (hb:b≠0) :
  -9223372036854775808≤a.tdiv b∧a.tdiv b≤9223372036854775807:=by
 have e:(a.tdiv b).natAbs=a.natAbs / b.natAbs:=Int.natAbs_tdiv a b;have l:a.natAbs / b.natAbs≤a.natAbs:=Nat.div_le_self _ _
 by_cases h:a=-9223372036854775808
 ·by_cases hb1:b=1
  ·subst hb1;simp;omega
  ·have h2:2≤b.natAbs:=by omega
   have:a.natAbs / b.natAbs≤a.natAbs / 2:=Nat.div_le_div_left h2 (by omega);omega
 ·omega
theorem tr_bd {a b:Int} (hb:b≠0):(a.tmod b).natAbs<b.natAbs∧(0≤a→0≤a.tmod b)∧(a≤0→a.tmod b≤0):=by
 refine ⟨?_,fun h=>Int.tmod_nonneg b h,fun h=>?_⟩
 ·rw [Int.natAbs_tmod];exact Nat.mod_lt _ (by omega)
 ·have:=Int.tmod_nonneg b (show 0≤-a by omega);rw [Int.neg_tmod] at this;omega
theorem tq_half {a b:Int} (h0:-9223372036854775808≤a) (h1:a≤9223372036854775807) (hr:a.tmod b≠0) :
  -4611686018427387904≤a.tdiv b∧a.tdiv b≤4611686018427387904:=by
 have e:(a.tdiv b).natAbs=a.natAbs / b.natAbs:=Int.natAbs_tdiv a b;have e2:=Int.natAbs_tmod a b;have h2:2≤b.natAbs∨b.natAbs=0:=by
  by_cases h:b.natAbs=1
  ·rw [h,Nat.mod_one] at e2;omega
  ·omega
 rcases h2 with h2 | h2
 ·have:a.natAbs / b.natAbs≤a.natAbs / 2:=Nat.div_le_div_left h2 (by omega);omega
 ·rw [h2,Nat.div_zero] at e;omega
theorem fdm_exact {a b:Int} (hb:b≠0) (h:a.tmod b=0):a.fdiv b=a.tdiv b∧a.fmod b=0:=by
 have e:=Int.tdiv_mul_add_tmod a b;exact fdm_unique hb (by omega) (fun _=>by omega) (fun _=>by omega)
theorem fdm_same {a b:Int} (hb:b≠0) (h:0<a.tmod b∧0<b∨a.tmod b<0∧b<0):a.fdiv b=a.tdiv b∧a.fmod b=a.tmod b:=by
 have e:=Int.tdiv_mul_add_tmod a b;have t:=(tr_bd (a:=a) hb).1;exact fdm_unique hb (by omega) (fun _=>by omega) (fun _=>by omega)
theorem fdm_other {a b:Int} (hb:b≠0) (h:0<a.tmod b∧b<0∨a.tmod b<0∧0<b):a.fdiv b=a.tdiv b - 1∧a.fmod b=a.tmod b+b:=by
 have e:=Int.tdiv_mul_add_tmod a b;have t:=(tr_bd (a:=a) hb).1;exact fdm_unique hb (by rw [Int.sub_mul];omega) (fun _=>by omega) (fun _=>by omega)
def dQ (a b:Int):Int:=if b=0∨(a=-9223372036854775808∧b=-1) then 0 else a.fdiv b
def dR (a b:Int):Int:=if b=0∨(a=-9223372036854775808∧b=-1) then 0 else a.fmod b
def dE (a b:Int):Int:=if b=0 then 10 else if a=-9223372036854775808∧b=-1 then 9 else 0
theorem dQ_pos {a b:Int} (h:0<b):dQ a b=a / b:=by
 unfold dQ;rw [if_neg (by omega),Int.fdiv_eq_ediv_of_nonneg _ (by omega)]
theorem dR_pos {a b:Int} (h:0<b):dR a b=a % b:=by
 unfold dR;rw [if_neg (by omega),Int.fmod_eq_emod_of_nonneg _ (by omega)]
def fits (n:Int):Bool:=decide (-9223372036854775808≤n∧n≤9223372036854775807)
def xV (n:Int):Int:=if fits n then n else 0
def xE (n:Int):Int:=if fits n then 0 else 9
theorem fits_iff {n:Int}:fits n=true↔-9223372036854775808≤n∧n≤9223372036854775807:=by unfold fits;simp
theorem xV_in {n:Int} (h:-9223372036854775808≤n∧n≤9223372036854775807):xV n=n:=by unfold xV;rw [if_pos (fits_iff.2 h)]
theorem xE_in {n:Int} (h:-9223372036854775808≤n∧n≤9223372036854775807):xE n=0:=by unfold xE;rw [if_pos (fits_iff.2 h)]
theorem xV_out {n:Int} (h:¬ (-9223372036854775808≤n∧n≤9223372036854775807)):xV n=0:=by unfold xV;rw [if_neg (mt fits_iff.1 h)]
theorem xE_out {n:Int} (h:¬ (-9223372036854775808≤n∧n≤9223372036854775807)):xE n=9:=by unfold xE;rw [if_neg (mt fits_iff.1 h)]
def mg (a:Int):Int:=if a<0 then -a else a
theorem mg_cases (a:Int):a<0∧mg a=-a∨0≤a∧mg a=a:=by unfold mg;split <;> omega
theorem mg_bd {a:Int} (h0:-9223372036854775808≤a) (h1:a≤9223372036854775807):0≤mg a∧mg a≤9223372036854775808:=by have:=mg_cases a;omega
theorem mg_mul {a b:Int}:(a<0∧¬ b<0∨¬ a<0∧b<0)∧a * b=-(mg a * mg b)∨(a<0∧b<0∨¬ a<0∧¬ b<0)∧a * b=mg a * mg b:=by
 rcases mg_cases a with ⟨h,e⟩ | ⟨h,e⟩ <;> rcases mg_cases b with ⟨k,f⟩ | ⟨k,f⟩ <;> rw [e,f] <;> simp [Int.neg_mul,Int.mul_neg] <;> omega
theorem mg_mul_nonneg {a b:Int} (h0:-9223372036854775808≤a) (h1:a≤9223372036854775807) (h2:-9223372036854775808≤b) (h3:b≤9223372036854775807):0≤mg a * mg b :=
 Int.mul_nonneg (mg_bd h0 h1).1 (mg_bd h2 h3).1
theorem mul_back {a b:Int} (hb:b≠0) (h2:-9223372036854775808≤b) (h3:b≤9223372036854775807) :
  (wrap64 (a * b)).tdiv b=a↔-9223372036854775808≤a * b∧a * b≤9223372036854775807:=by
 constructor
 ·intro h;have e:=Int.tdiv_mul_add_tmod (wrap64 (a * b)) b;rw [h] at e;have r:=(tr_bd (a:=wrap64 (a * b)) hb).1;generalize (wrap64 (a * b)).tmod b=t at *;generalize a * b=m at *
  unfold wrap64 at e
  omega
 ·intro h;rw [show wrap64 (a * b)=a * b by unfold wrap64;omega];exact Int.mul_tdiv_cancel a hb
theorem gcd_step {x y:Int} (hx:0≤x) (hy:0≤y):Int.gcd y (x % y)=Int.gcd x y:=by
 obtain ⟨n,rfl⟩:=Int.eq_ofNat_of_zero_le hx;obtain ⟨m,rfl⟩:=Int.eq_ofNat_of_zero_le hy;rw [← Int.natCast_emod]
 show Nat.gcd m (n % m)=Nat.gcd n m
 rw [Nat.gcd_comm,Nat.gcd_comm n m,Nat.gcd_rec m n]
theorem gcd_mg (a b:Int):Int.gcd (mg a) (mg b)=Int.gcd a b:=by
 rcases mg_cases a with ⟨h,e⟩ | ⟨h,e⟩ <;> rcases mg_cases b with ⟨k,f⟩ | ⟨k,f⟩ <;> rw [e,f] <;> simp [Int.gcd]
theorem gcd_zero_right {x:Int} (hx:0≤x):(Int.gcd x 0:Int)=x:=by simp [Int.gcd];omega
def gR (a b:Int):Int:=if (Int.gcd a b:Int)≤9223372036854775807 then Int.gcd a b else 0
def ivB (a b:Int):Bool:=decide (-4398046511104≤a∧b≤4398046511104∧a<b)
abbrev Sp:=Int × Int
def nvB (x:Int):Bool:=decide (-4398046511104≤x)&&decide (x≤4398046511104)
def spB (p:Sp):Bool:=nvB p.1&&nvB p.2&&decide (p.1<p.2)
def spsB (L:List Sp):Bool:=L.all spB
def gpB:List Sp→Bool
 | p :: q :: r=>decide (p.2<q.1)&&gpB (q :: r)
 | _=>true
def vaB (L:List Sp):Bool:=decide (L.length≤2000)&&spsB L&&gpB L
theorem nvB_iff {x:Int}:nvB x=true↔-4398046511104≤x∧x≤4398046511104:=by unfold nvB;simp
theorem spB_iff {p:Sp}:spB p=true↔-4398046511104≤p.1∧p.2≤4398046511104∧p.1<p.2:=by
 unfold spB
 rw [Bool.and_eq_true,Bool.and_eq_true,nvB_iff,nvB_iff,decide_eq_true_iff];omega
theorem spsB_at {L:List Sp}:spsB L=true↔∀ i,i<L.length→spB (L.getD i (0,0))=true:=by
 unfold spsB
 rw [List.all_eq_true]
 constructor
 ·intro h i hi;rw [List.getD_eq_getElem?_getD,List.getElem?_eq_getElem hi];exact h _ (List.getElem_mem hi)
 ·intro h p hp;obtain ⟨i,hi,rfl⟩:=List.getElem_of_mem hp;have:=h i hi;rwa [List.getD_eq_getElem?_getD,List.getElem?_eq_getElem hi] at this
theorem gpB_at:∀ {L:List Sp},gpB L=true↔∀ i,i+1<L.length→(L.getD i (0,0)).2<(L.getD (i+1) (0,0)).1
  | []=>by simp [gpB]
  | [p]=>by simp [gpB]
  | p :: q :: r=>by
    show (decide (p.2<q.1)&&gpB (q :: r))=true↔_
    rw [Bool.and_eq_true,decide_eq_true_iff,gpB_at (L:=q :: r)]
    constructor
    · rintro ⟨h0,h⟩ i hi
      cases i with
      | zero=>simpa using h0
      | succ i=>have:=h i (by simp at hi ⊢;omega);simpa using this
    · intro h;refine ⟨by simpa using h 0 (by simp),fun i hi=>?_⟩;have:=h (i+1) (by simp at hi ⊢;omega)
      simpa using this
def inB (L:List Sp) (x:Int):Bool:=L.any fun p=>decide (p.1≤x)&&decide (x<p.2)
theorem inB_nil (x:Int):inB [] x=false:=rfl
theorem inB_cons (p:Sp) (L:List Sp) (x:Int):inB (p :: L) x=(decide (p.1≤x)&&decide (x<p.2) || inB L x):=by simp [inB]
theorem inB_app (A B:List Sp) (x:Int):inB (A++B) x=(inB A x || inB B x):=by simp [inB]
theorem inB_iff {L:List Sp} {x:Int}:inB L x=true↔∃ p,p∈L∧p.1≤x∧x<p.2:=by
 unfold inB;simp
def Cn:List Sp→Prop
 | []=>True
 | p :: L=>p.1<p.2∧(∀ q,q∈L→p.2<q.1)∧Cn L
def Ln (L:List Sp):Prop:=∀ p,p∈L→-4398046511104≤p.1∧p.2≤4398046511104
theorem Cn.lt:∀ {L:List Sp},Cn L→∀ p,p∈L→p.1<p.2
  | p :: L,h,q,hq=>by
    rcases List.mem_cons.1 hq with rfl | hq
    · exact h.1
    · exact Cn.lt h.2.2 q hq
theorem cn_of:∀ {L:List Sp},(∀ p,p∈L→p.1<p.2)→gpB L=true→Cn L
  | [],_,_=>trivial
  | [p],h,_=>⟨h p List.mem_cons_self,fun q hq=>by simp at hq,trivial⟩
  | p :: q :: r,h,g=>by
    have g':(decide (p.2<q.1)&&gpB (q :: r))=true:=g;rw [Bool.and_eq_true,decide_eq_true_iff] at g';have c:=cn_of (L:=q :: r) (fun x hx=>h x (List.mem_cons_of_mem _ hx)) g'.2;refine ⟨h p List.mem_cons_self,fun x hx=>?_,c⟩
    rcases List.mem_cons.1 hx with rfl | hx
    · exact g'.1
    · have:=c.2.1 x hx;have:=c.1;omega
theorem gp_of_cn:∀ {L:List Sp},Cn L→gpB L=true
  | [],_=>rfl
  | [p],_=>rfl
  | p :: q :: r,h=>by
    show (decide (p.2<q.1)&&gpB (q :: r))=true
    rw [Bool.and_eq_true,decide_eq_true_iff];exact ⟨h.2.1 q List.mem_cons_self,gp_of_cn h.2.2⟩
theorem vaB_iff {L:List Sp}:vaB L=true↔L.length≤2000∧Ln L∧Cn L:=by
 unfold vaB
 rw [Bool.and_eq_true,Bool.and_eq_true,decide_eq_true_iff]
 constructor
 ·rintro ⟨⟨h1,h2⟩,h3⟩;have h2':∀ p,p∈L→spB p=true:=List.all_eq_true.1 h2;exact ⟨h1,fun p hp=>by have:=spB_iff.1 (h2' p hp);omega,cn_of (fun p hp=>(spB_iff.1 (h2' p hp)).2.2) h3⟩
 ·rintro ⟨h1,h2,h3⟩;refine ⟨⟨h1,List.all_eq_true.2 fun p hp=>?_⟩,gp_of_cn h3⟩;rw [spB_iff];exact ⟨(h2 p hp).1,(h2 p hp).2,h3.lt p hp⟩
theorem sps_of {L:List Sp}:spsB L=true↔Ln L∧∀ p,p∈L→p.1<p.2:=by
 unfold spsB
 rw [List.all_eq_true]
 constructor
 ·intro h;exact ⟨fun p hp=>by have:=spB_iff.1 (h p hp);omega,fun p hp=>(spB_iff.1 (h p hp)).2.2⟩
 ·rintro ⟨h1,h2⟩ p hp;rw [spB_iff];exact ⟨(h1 p hp).1,(h1 p hp).2,h2 p hp⟩
theorem cn_before:∀ {L:List Sp} {x:Int},(∀ q,q∈L→x<q.1)→inB L x=false
  | L,x,h=>by
    rw [← Bool.not_eq_true,inB_iff];rintro ⟨p,hp,a,b⟩;have:=h p hp;omega
theorem cn_head {p:Sp} {L:List Sp} (h:Cn (p :: L)) (x:Int):inB (p :: L) x=if x<p.2 then decide (p.1≤x) else inB L x:=by
 rw [inB_cons]
 by_cases z:x<p.2
 ·rw [if_pos z,decide_eq_true z,Bool.and_true,cn_before (L:=L) (fun q hq=>by have:=h.2.1 q hq;omega),Bool.or_false]
 ·rw [if_neg z,decide_eq_false z,Bool.and_false,Bool.false_or]
theorem cn_ext:∀ {A B:List Sp},Cn A→Cn B→(∀ x,inB A x=inB B x)→A=B
  | [],[],_,_,_=>rfl
  | [],q :: B,_,hB,h=>by
    have:=h q.1;rw [inB_nil,cn_head hB,if_pos hB.1,decide_eq_true (Int.le_refl _)] at this
    cases this
  | p :: A,[],hA,_,h=>by
    have:=h p.1;rw [inB_nil,cn_head hA,if_pos hA.1,decide_eq_true (Int.le_refl _)] at this
    cases this
  | p :: A,q :: B,hA,hB,h=>by
    have le1:∀ {p q:Sp} {A B:List Sp},Cn (p :: A)→Cn (q :: B)→(∀ x,inB (p :: A) x=inB (q :: B) x)→¬ p.1<q.1:=by
      intro p q A B hA hB h z;have:=h p.1;rw [cn_head hA,if_pos hA.1,decide_eq_true (Int.le_refl _),cn_before (L:=q :: B) (fun r hr=>by
        rcases List.mem_cons.1 hr with rfl | hr
        · exact z
        · have:=hB.2.1 r hr;have:=hB.1;omega)] at this
      cases this
    have e1:p.1=q.1:=by
      have a:=le1 hA hB h;have b:=le1 hB hA (fun x=>(h x).symm);omega
    have le2:∀ {p q:Sp} {A B:List Sp},Cn (p :: A)→Cn (q :: B)→p.1=q.1→(∀ x,inB (p :: A) x=inB (q :: B) x)→¬ p.2<q.2:=by
      intro p q A B hA hB e h z;have:=h p.2;rw [cn_head hA,if_neg (Int.lt_irrefl _),cn_head hB,if_pos z,decide_eq_true (by have:=hA.1;omega),cn_before (L:=A) hA.2.1] at this
      cases this
    have e2:p.2=q.2:=by
      have a:=le2 hA hB e1 h;have b:=le2 hB hA e1.symm (fun x=>(h x).symm);omega
    have e:p=q:=Prod.ext e1 e2;subst e;rw [cn_ext hA.2.2 hB.2.2 (fun x=>?_)];have:=h x;rw [cn_head hA,cn_head hB] at this
    by_cases z:x<p.2
    · rw [cn_before (L:=A) (fun r hr=>by have:=hA.2.1 r hr;omega),cn_before (L:=B) (fun r hr=>by have:=hB.2.1 r hr;omega)]
    · rwa [if_neg z,if_neg z] at this
def shL (L:List Sp) (n:Int):List Sp:=L.map fun p=>(p.1+n,p.2+n)
theorem sh_in (L:List Sp) (n x:Int):inB (shL L n) (x+n)=inB L x:=by
 unfold inB shL
 rw [List.any_map]
 congr 1
 funext p
 show (decide (p.1+n≤x+n)&&decide (x+n<p.2+n))=_
 rw [Bool.eq_iff_iff];simp only [Bool.and_eq_true,decide_eq_true_iff];omega
theorem sh_cn:∀ {L:List Sp} {n:Int},Cn L→Cn (shL L n)
  | [],_,_=>trivial
  | p :: L,n,h=>⟨by show p.1+n<p.2+n;have:=h.1;omega,fun q hq=>by
      obtain ⟨r,hr,rfl⟩:=List.mem_map.1 hq;have:=h.2.1 r hr
      show p.2+n<r.1+n;omega,sh_cn h.2.2⟩
theorem sh_len (L:List Sp) (n:Int):(shL L n).length=L.length:=by simp [shL]
def kpB (k:Int) (a b:Bool):Bool:=if k=1 then a || b else if k=2 then a&&b else if k=3 then a&&!b else a != b
theorem kp_no (k:Int):kpB k false false=false:=by unfold kpB;(repeat' split) <;> rfl
def insZ (l:List Int) (x:Int):List Int:=l.filter (fun y=>decide (y<x))++x :: l.filter (fun y=>decide (x<y))
abbrev Asc (l:List Int):Prop:=l.Pairwise (· < ·)
theorem ins_mem {l:List Int} {x y:Int}:y∈insZ l x↔y=x∨y∈l:=by
 unfold insZ
 rw [List.mem_append,List.mem_cons,List.mem_filter,List.mem_filter,decide_eq_true_iff,decide_eq_true_iff]
 constructor
 ·rintro (h | h | h)
  ·exact .inr h.1
  ·exact .inl h
  ·exact .inr h.1
 ·rintro (h | h)
  ·exact .inr (.inl h)
  ·rcases Int.lt_trichotomy y x with z | z | z
   ·exact .inl ⟨h,z⟩
   ·exact .inr (.inl z)
   ·exact .inr (.inr ⟨h,z⟩)
theorem ins_asc {l:List Int} (h:Asc l) (x:Int):Asc (insZ l x):=by
 refine List.pairwise_append.2 ⟨h.filter _,List.pairwise_cons.2 ⟨fun y hy=>?_,h.filter _⟩,fun a ha b hb=>?_⟩
 ·exact of_decide_eq_true (List.mem_filter.1 hy).2
 ·have a1:a<x:=of_decide_eq_true (List.mem_filter.1 ha).2
  rcases List.mem_cons.1 hb with rfl | hb
  ·exact a1
  ·have:x<b:=of_decide_eq_true (List.mem_filter.1 hb).2;omega
theorem ins_len (x:Int):∀ l:List Int,(insZ l x).length≤l.length+1
  | []=>Nat.le_refl _
  | a :: l=>by
    have:=ins_len x l
    unfold insZ at this ⊢
    rw [List.length_append,List.length_cons] at this ⊢;rw [List.filter_cons,List.filter_cons]
    by_cases z:a<x
    · rw [decide_eq_true z,decide_eq_false (by omega:¬ x<a)];simp at this ⊢;omega
    · by_cases y:x<a
      · rw [decide_eq_false z,decide_eq_true y];simp at this ⊢;omega
      · rw [decide_eq_false z,decide_eq_false y];simp at this ⊢;omega
def enK (L:List Sp):Nat→List Int
 | 0=>[]
 | k+1=>insZ (insZ (enK L k) (L.getD k (0,0)).1) (L.getD k (0,0)).2
def enL (L:List Sp):List Int:=enK L L.length
theorem enK_asc (L:List Sp):∀ k,Asc (enK L k)
 | 0=>List.Pairwise.nil
 | k+1=>ins_asc (ins_asc (enK_asc L k) _) _
theorem enK_len (L:List Sp):∀ k,(enK L k).length≤2 * k
  | 0=>Nat.le_refl _
  | k+1=>by
    have a:=enK_len L k;have b:=ins_len (L.getD k (0,0)).1 (enK L k);have c:=ins_len (L.getD k (0,0)).2 (insZ (enK L k) (L.getD k (0,0)).1)
    show (insZ (insZ (enK L k) (L.getD k (0,0)).1) (L.getD k (0,0)).2).length≤_
    omega
theorem enK_mem (L:List Sp) (y:Int):∀ k,y∈enK L k↔∃ j,j<k∧(y=(L.getD j (0,0)).1∨y=(L.getD j (0,0)).2)
  | 0=>⟨fun h=>(by cases h),fun ⟨j,h,_⟩=>absurd h (Nat.not_lt_zero _)⟩
  | k+1=>by
    show y∈insZ (insZ (enK L k) (L.getD k (0,0)).1) (L.getD k (0,0)).2↔_
    rw [ins_mem,ins_mem,enK_mem L y k]
    constructor
    · rintro (h | h | ⟨j,hj,h⟩)
      · exact ⟨k,by omega,.inr h⟩
      · exact ⟨k,by omega,.inl h⟩
      · exact ⟨j,by omega,h⟩
    · rintro ⟨j,hj,h⟩
      rcases Nat.lt_or_ge j k with z | z
      · exact .inr (.inr ⟨j,z,h⟩)
      · obtain rfl:j=k:=by omega
        rcases h with h | h
        · exact .inr (.inl h)
        · exact .inl h
theorem enL_mem {L:List Sp} {y:Int}:y∈enL L↔∃ p,p∈L∧(y=p.1∨y=p.2):=by
 unfold enL
 rw [enK_mem]
 constructor
 ·rintro ⟨j,hj,h⟩;refine ⟨L.getD j (0,0),?_,h⟩;rw [List.getD_eq_getElem?_getD,List.getElem?_eq_getElem hj];exact List.getElem_mem hj
 ·rintro ⟨p,hp,h⟩;obtain ⟨j,hj,rfl⟩:=List.getElem_of_mem hp;exact ⟨j,hj,by rw [List.getD_eq_getElem?_getD,List.getElem?_eq_getElem hj];exact h⟩
theorem asc_at {e:List Int} (h:Asc e) {i j:Nat} (hij:i<j) (hj:j<e.length):e.getD i 0<e.getD j 0:=by
 rw [List.getD_eq_getElem?_getD,List.getD_eq_getElem?_getD,List.getElem?_eq_getElem hj,List.getElem?_eq_getElem (by omega)];exact List.pairwise_iff_getElem.1 h i j (by omega) hj hij
theorem asc_le {e:List Int} (h:Asc e) {i j:Nat} (hij:i≤j) (hj:j<e.length):e.getD i 0≤e.getD j 0:=by
 rcases Nat.lt_or_ge i j with z | z
 ·have:=asc_at h z hj;omega
 ·obtain rfl:i=j:=by omega
  exact Int.le_refl _
theorem asc_inv {e:List Int} (h:Asc e) {i j:Nat} (hi:i<e.length) (hj:j<e.length) (l:e.getD i 0<e.getD j 0):i<j:=by
 rcases Nat.lt_or_ge i j with z | z
 ·exact z
 ·have:=asc_le h z hi;omega
theorem mem_at {e:List Int} {y:Int} (h:y∈e):∃ i,i<e.length∧e.getD i 0=y:=by
 obtain ⟨i,hi,rfl⟩:=List.getElem_of_mem h;exact ⟨i,hi,by rw [List.getD_eq_getElem?_getD,List.getElem?_eq_getElem hi];rfl⟩
theorem locate {e:List Int} {x:Int} {i:Nat}:∀ d,i+d<e.length→e.getD i 0≤x→x<e.getD (i+d) 0→∃ j,j+1<e.length∧e.getD j 0≤x∧x<e.getD (j+1) 0
  | 0,_,a,b=>by rw [Nat.add_zero] at b;omega
  | d+1,h,a,b=>by
    by_cases z:x<e.getD (i+d) 0
    · exact locate d (by omega) a z
    · exact ⟨i+d,by omega,by omega,b⟩
def addL (l:List Sp) (s:Sp):List Sp:=if 0<l.length∧(l.getD (l.length - 1) (0,0)).2=s.1 then l.dropLast++[((l.getD (l.length - 1) (0,0)).1,s.2)] else l++[s]
theorem add_nil (s:Sp):addL [] s=[s]:=rfl
theorem add_snoc (R:List Sp) (q s:Sp):addL (R++[q]) s=if q.2=s.1 then R++[(q.1,s.2)] else R++[q]++[s]:=by
 unfold addL
 have e:(R++[q]).getD ((R++[q]).length - 1) (0,0)=q:=by
  rw [List.length_append,List.length_singleton,Nat.add_sub_cancel]
  simp [List.getD_eq_getElem?_getD]
 rw [e]
 by_cases z:q.2=s.1
 ·rw [if_pos ⟨by simp,z⟩,if_pos z,List.dropLast_concat]
 ·rw [if_neg (fun h=>z h.2),if_neg z]
theorem add_len (l:List Sp) (s:Sp):(addL l s).length≤l.length+1:=by
 unfold addL
 split
 ·rw [List.length_append,List.length_dropLast,List.length_singleton];omega
 ·rw [List.length_append,List.length_singleton];exact Nat.le_refl _
theorem cn_snoc:∀ {R:List Sp} {s:Sp},Cn R→(∀ q,q∈R→q.2<s.1)→s.1<s.2→Cn (R++[s])
  | [],s,_,_,h=>⟨h,fun q hq=>(by cases hq),trivial⟩
  | p :: R,s,c,b,h=>⟨c.1,fun q hq=>by
      rcases List.mem_append.1 hq with hq | hq
      · exact c.2.1 q hq
      · rw [List.mem_singleton.1 hq];exact b p List.mem_cons_self,cn_snoc c.2.2 (fun q hq=>b q (List.mem_cons_of_mem _ hq)) h⟩
theorem cn_last:∀ {R:List Sp} {q:Sp},Cn (R++[q])→Cn R∧(∀ r,r∈R→r.2<q.1)∧q.1<q.2
  | [],q,c=>⟨trivial,fun r hr=>(by cases hr),c.1⟩
  | p :: R,q,c=>by
    obtain ⟨a,b,d⟩:=cn_last (R:=R) c.2.2;exact ⟨⟨c.1,fun r hr=>c.2.1 r (List.mem_append_left _ hr),a⟩,fun r hr=>by
      rcases List.mem_cons.1 hr with rfl | hr
      · exact c.2.1 q (List.mem_append_right _ List.mem_cons_self)
      · exact b r hr,d⟩
theorem snoc_cases (l:List Sp):l=[]∨∃ R q,l=R++[q]:=by
 rcases List.eq_nil_or_concat l with h | ⟨R,q,h⟩
 ·exact .inl h
 ·exact .inr ⟨R,q,by rw [h,List.concat_eq_append]⟩
theorem add_ok {R:List Sp} {s:Sp} (c:Cn R) (b:∀ q,q∈R→q.2≤s.1) (h:s.1<s.2) :
  Cn (addL R s)∧(∀ x,inB (addL R s) x=(inB R x || (decide (s.1≤x)&&decide (x<s.2))))∧(∀ q,q∈addL R s→(∃ r,r∈R∧r.1=q.1)∨q.1=s.1)∧∀ q,q∈addL R s→q.2≤s.2:=by
 rcases snoc_cases R with rfl | ⟨R,q,rfl⟩
 ·rw [add_nil];refine ⟨⟨h,fun q hq=>(by cases hq),trivial⟩,fun x=>by rw [inB_cons,inB_nil,Bool.or_false,Bool.false_or],fun q hq=>.inr (by rw [List.mem_singleton.1 hq]),fun q hq=>by rw [List.mem_singleton.1 hq];exact Int.le_refl _⟩
 ·obtain ⟨c1,c2,c3⟩:=cn_last c;have bq:=b q (List.mem_append_right _ List.mem_cons_self);rw [add_snoc]
  by_cases z:q.2=s.1
  ·rw [if_pos z];refine ⟨cn_snoc c1 c2 (by show q.1<s.2;omega),fun x=>?_,fun r hr=>?_,fun r hr=>?_⟩
   ·rw [inB_app,inB_app,inB_cons,inB_nil,Bool.or_false,inB_cons,inB_nil,Bool.or_false,Bool.or_assoc]
    congr 1
    show (decide (q.1≤x)&&decide (x<s.2))=_
    rw [Bool.eq_iff_iff];simp only [Bool.or_eq_true,Bool.and_eq_true,decide_eq_true_iff];omega
   ·rcases List.mem_append.1 hr with hr | hr
    ·exact .inl ⟨r,List.mem_append_left _ hr,rfl⟩
    ·rw [List.mem_singleton.1 hr];exact .inl ⟨q,List.mem_append_right _ List.mem_cons_self,rfl⟩
   ·rcases List.mem_append.1 hr with hr | hr
    ·have:=c2 r hr;omega
    ·rw [List.mem_singleton.1 hr];exact Int.le_refl _
  ·rw [if_neg z];refine ⟨cn_snoc c (fun r hr=>?_) h,fun x=>?_,fun r hr=>?_,fun r hr=>?_⟩
   ·rcases List.mem_append.1 hr with hr | hr
    ·have:=c2 r hr;omega
    ·rw [List.mem_singleton.1 hr];omega
   ·rw [inB_app _ [s],inB_cons,inB_nil,Bool.or_false]
   ·rcases List.mem_append.1 hr with hr | hr
    ·exact .inl ⟨r,hr,rfl⟩
    ·exact .inr (by rw [List.mem_singleton.1 hr])
   ·rcases List.mem_append.1 hr with hr | hr
    ·have:=b r hr;omega
    ·rw [List.mem_singleton.1 hr];exact Int.le_refl _
def cbK (k:Int) (A B:List Sp) (e:List Int):Nat→List Sp
 | 0=>[]
 | i+1=>if kpB k (inB A (e.getD i 0)) (inB B (e.getD i 0)) then addL (cbK k A B e i) (e.getD i 0,e.getD (i+1) 0) else cbK k A B e i
def cbL (k:Int) (A B:List Sp):List Sp:=cbK k A B (enL (A++B)) ((enL (A++B)).length - 1)
theorem cbK_len (k:Int) (A B:List Sp) (e:List Int):∀ i,(cbK k A B e i).length≤i
  | 0=>Nat.le_refl _
  | i+1=>by
    have:=cbK_len k A B e i
    show (if _ then addL (cbK k A B e i) _ else cbK k A B e i).length≤_
    split
    · have:=add_len (cbK k A B e i) (e.getD i 0,e.getD (i+1) 0);omega
    · omega
theorem cbK_inv (k:Int) (A B:List Sp) {e:List Int} (h:Asc e):∀ i,i=0∨i<e.length→Cn (cbK k A B e i)∧(∀ q,q∈cbK k A B e i→(∃ j,j<e.length∧q.1=e.getD j 0)∧q.2≤e.getD i 0) ∧
      ∀ x,inB (cbK k A B e i) x=true↔∃ j,j<i∧e.getD j 0≤x∧x<e.getD (j+1) 0∧kpB k (inB A (e.getD j 0)) (inB B (e.getD j 0))=true
  | 0,_=>⟨trivial,fun q hq=>(by cases hq),fun x=>⟨fun h=>(by cases h),fun ⟨j,hj,_⟩=>absurd hj (Nat.not_lt_zero _)⟩⟩
  | i+1,hi=>by
    have hi':i+1<e.length:=by omega
    obtain ⟨c,b,m⟩:=cbK_inv k A B h i (.inr (by omega));have lt:e.getD i 0<e.getD (i+1) 0:=asc_at h (Nat.lt_succ_self i) hi';have d:cbK k A B e (i+1)=if kpB k (inB A (e.getD i 0)) (inB B (e.getD i 0)) then addL (cbK k A B e i) (e.getD i 0,e.getD (i+1) 0) else cbK k A B e i:=rfl;rw [d]
    cases v:kpB k (inB A (e.getD i 0)) (inB B (e.getD i 0))
    · rw [if_neg (by simp)];refine ⟨c,fun q hq=>⟨(b q hq).1,by have:=(b q hq).2;omega⟩,fun x=>(m x).trans ?_⟩
      constructor
      · rintro ⟨j,hj,r⟩;exact ⟨j,by omega,r⟩
      · rintro ⟨j,hj,r1,r2,r3⟩
        rcases Nat.lt_or_ge j i with z | z
        · exact ⟨j,z,r1,r2,r3⟩
        · obtain rfl:j=i:=by omega
          rw [v] at r3;cases r3
    · rw [if_pos rfl];obtain ⟨a1,a2,a3,a4⟩:=add_ok (s:=(e.getD i 0,e.getD (i+1) 0)) c (fun q hq=>(b q hq).2) lt;refine ⟨a1,fun q hq=>⟨?_,a4 q hq⟩,fun x=>?_⟩
      · rcases a3 q hq with ⟨r,hr,er⟩ | er
        · obtain ⟨j,hj,ej⟩:=(b r hr).1;exact ⟨j,hj,by rw [← er,ej]⟩
        · exact ⟨i,by omega,er⟩
      · rw [a2,Bool.or_eq_true,m,Bool.and_eq_true,decide_eq_true_iff,decide_eq_true_iff]
        constructor
        · rintro (⟨j,hj,r⟩ | ⟨r1,r2⟩)
          · exact ⟨j,by omega,r⟩
          · exact ⟨i,by omega,r1,r2,v⟩
        · rintro ⟨j,hj,r1,r2,r3⟩
          rcases Nat.lt_or_ge j i with z | z
          · exact .inl ⟨j,z,r1,r2,r3⟩
          · obtain rfl:j=i:=by omega
            exact .inr ⟨r1,r2⟩
theorem in_const {e:List Int} (h:Asc e) {L:List Sp} (m:∀ p,p∈L→p.1∈e∧p.2∈e) {j:Nat} (hj:j+1<e.length) {x:Int} (x0:e.getD j 0≤x) (x1:x<e.getD (j+1) 0):inB L x=inB L (e.getD j 0):=by
 rw [Bool.eq_iff_iff,inB_iff,inB_iff]
 constructor
 ·rintro ⟨p,hp,a,b⟩;refine ⟨p,hp,?_,by omega⟩;obtain ⟨i,hi,ei⟩:=mem_at (m p hp).1
  rcases Nat.lt_or_ge j i with z | z
  ·have:=asc_le h (show j+1≤i by omega) hi;omega
  ·have:=asc_le h z (by omega);omega
 ·rintro ⟨p,hp,a,b⟩;refine ⟨p,hp,by omega,?_⟩;obtain ⟨i,hi,ei⟩:=mem_at (m p hp).2;have:=asc_inv h (show j<e.length by omega) hi (by omega);have:=asc_le h (show j+1≤i by omega) hi;omega
theorem cb_spec (k:Int) (A B:List Sp):Cn (cbL k A B)∧(∀ x,inB (cbL k A B) x=kpB k (inB A x) (inB B x))∧(∀ q,q∈cbL k A B→q.1∈enL (A++B)∧∃ y,y∈enL (A++B)∧q.2≤y)∧(cbL k A B).length≤2 * (A.length+B.length):=by
 have asc:Asc (enL (A++B)):=enK_asc _ _;have len:(enL (A++B)).length≤2 * (A.length+B.length):=by
  have:=enK_len (A++B) (A++B).length;rw [List.length_append] at this
  unfold enL;rw [List.length_append];exact this
 have mA:∀ p,p∈A→p.1∈enL (A++B)∧p.2∈enL (A++B):=fun p hp=>⟨enL_mem.2 ⟨p,List.mem_append_left _ hp,.inl rfl⟩,enL_mem.2 ⟨p,List.mem_append_left _ hp,.inr rfl⟩⟩;have mB:∀ p,p∈B→p.1∈enL (A++B)∧p.2∈enL (A++B):=fun p hp=>⟨enL_mem.2 ⟨p,List.mem_append_right _ hp,.inl rfl⟩,enL_mem.2 ⟨p,List.mem_append_right _ hp,.inr rfl⟩⟩;have ln:=cbK_len k A B (enL (A++B)) ((enL (A++B)).length - 1);have inv:=cbK_inv k A B asc ((enL (A++B)).length - 1) (by omega)
 unfold cbL
 generalize enL (A++B)=e at *;obtain ⟨c,b,m⟩:=inv;refine ⟨c,fun x=>?_,fun q hq=>?_,by omega⟩
 ·rw [Bool.eq_iff_iff,m]
  constructor
  ·rintro ⟨j,hj,r1,r2,r3⟩;rwa [in_const asc mA (by omega) r1 r2,in_const asc mB (by omega) r1 r2]
  ·intro r;have some:∃ p,(p∈A∨p∈B)∧p.1≤x∧x<p.2:=by
    cases vA:inB A x
    ·cases vB:inB B x
     ·rw [vA,vB,kp_no] at r;cases r
     ·obtain ⟨p,hp,z⟩:=inB_iff.1 vB;exact ⟨p,.inr hp,z⟩
    ·obtain ⟨p,hp,z⟩:=inB_iff.1 vA;exact ⟨p,.inl hp,z⟩
   obtain ⟨p,hp,z1,z2⟩:=some;have me:p.1∈e∧p.2∈e:=hp.elim (mA p) (mB p);obtain ⟨i,hi,ei⟩:=mem_at me.1;obtain ⟨t,ht,et⟩:=mem_at me.2;have it:=asc_inv asc hi ht (by omega);obtain ⟨j,hj,j0,j1⟩:=locate (e:=e) (x:=x) (i:=i) (t - i) (by omega) (by omega) (by rw [show i+(t - i)=t by omega];omega);refine ⟨j,by omega,j0,j1,?_⟩;rwa [← in_const asc mA hj j0 j1,← in_const asc mB hj j0 j1]
 ·obtain ⟨⟨j,hj,ej⟩,r⟩:=b q hq;have at':∀ i,i<e.length→e.getD i 0∈e:=fun i hi=>by
   rw [List.getD_eq_getElem?_getD,List.getElem?_eq_getElem hi];exact List.getElem_mem hi
  exact ⟨by rw [ej];exact at' j hj,_,at' _ (by omega),r⟩
theorem cb_line {k:Int} {A B:List Sp} (hA:spsB A=true) (hB:spsB B=true):Ln (cbL k A B):=by
 have ends:∀ y,y∈enL (A++B)→-4398046511104≤y∧y≤4398046511104:=by
  intro y hy;obtain ⟨p,hp,h⟩:=enL_mem.1 hy;have q:spB p=true:=(List.mem_append.1 hp).elim (fun h=>List.all_eq_true.1 hA p h) (fun h=>List.all_eq_true.1 hB p h);have:=spB_iff.1 q;omega
 intro q hq;obtain ⟨a,y,hy,b⟩:=(cb_spec k A B).2.2.1 q hq;have:=ends _ a;have:=ends _ hy;omega
def ruFull (l:List Sp):List Sp × Int:=if 2000<l.length then ([],5) else (l,0)
def ruOf (L:List Sp):List Sp × Int:=if spsB L then ruFull (cbL 1 L []) else ([],1)
def ruAp (k:Int) (A B:List Sp):List Sp × Int:=if vaB A&&vaB B then ruFull (cbL k A B) else ([],1)
theorem va_sps {L:List Sp} (h:vaB L=true):spsB L=true:=by
 unfold vaB at h;rw [Bool.and_eq_true,Bool.and_eq_true] at h;exact h.1.2
theorem full_ok {l:List Sp} (h:(ruFull l).2=0):l.length≤2000∧ruFull l=(l,0):=by
 unfold ruFull at h ⊢
 by_cases z:2000<l.length
 ·rw [if_pos z] at h;cases h
 ·rw [if_neg z];exact ⟨by omega,rfl⟩
theorem ap_arg {k:Int} {A B:List Sp} (h:(vaB A&&vaB B)=false):ruAp k A B=([],1):=by unfold ruAp;rw [h];rfl
theorem of_ok {L:List Sp} (h:(ruOf L).2=0):spsB L=true∧vaB (ruOf L).1=true∧∀ x,inB (ruOf L).1 x=inB L x:=by
 unfold ruOf at h ⊢
 cases v:spsB L
 ·rw [v] at h;cases h
 ·rw [v,if_pos rfl] at h;rw [if_pos rfl];obtain ⟨l,e⟩:=full_ok h;obtain ⟨c,m,-,-⟩:=cb_spec 1 L [];rw [e];refine ⟨rfl,vaB_iff.2 ⟨l,cb_line v rfl,c⟩,fun x=>?_⟩
  show inB (cbL 1 L []) x=_
  rw [m];show (inB L x || inB [] x)=_;rw [inB_nil,Bool.or_false]
structure Blt (f:Int→Bool) (a e:Int) (R:List Sp):Prop where
 cn:Cn R
 mem:∀ x,inB R x=(decide (a≤x)&&decide (x<e)&&f x)
 low:∀ q,q∈R→q.2≤e
theorem Blt.skip {f:Int→Bool} {a e e':Int} {R:List Sp} (h:Blt f a e R) (le:e≤e') (no:∀ x,a≤x→e≤x→x<e'→f x=false):Blt f a e' R :=
 ⟨h.cn,fun x=>by
  rw [h.mem]
  by_cases y:a≤x
  ·by_cases z:x<e
   ·rw [decide_eq_true z,decide_eq_true (show x<e' by omega)]
   ·rw [decide_eq_false z,Bool.and_false,Bool.false_and]
    by_cases t:x<e'
    ·rw [no x y (by omega) t,Bool.and_false]
    ·rw [decide_eq_false t,Bool.and_false,Bool.false_and]
  ·rw [decide_eq_false y];rfl,fun q hq=>by have:=h.low q hq;omega⟩
theorem va_cn {A:List Sp} (h:vaB A=true):Cn A:=(vaB_iff.1 h).2.2
theorem va_ln {A:List Sp} (h:vaB A=true):Ln A:=(vaB_iff.1 h).2.1
end Go.Proofs.YtmamlgaogpkagaaGreat
