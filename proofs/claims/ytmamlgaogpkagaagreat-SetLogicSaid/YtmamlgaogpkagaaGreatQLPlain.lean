/- LPlain LIvM RnM RnN RnC RnP PeM PeC PeR PeS PeT PeU PeV RnL. -/
import Derived.WalkKit
namespace Go.Proofs.YtmamlgaogpkagaaGreat
open Go.RowKit
set_option linter.unusedVariables false
set_option linter.unusedSimpArgs false
theorem fdm_unique {a b q r:Int} (hb:b≠0) (h:q * b+r=a) (hp:0<b→0≤r∧r<b) (hn:b<0→b<r∧r≤0):a.fdiv b=q∧a.fmod b=r:=by
 have e:=Int.mul_fdiv_add_fmod a b;have hr:a.fmod b=r:=by
  have d:b ∣ a.fmod b - r:=⟨q - a.fdiv b,by rw [Int.mul_sub,Int.mul_comm b q];omega⟩;have z:a.fmod b - r=0:=by
   apply Int.eq_zero_of_dvd_of_natAbs_lt_natAbs d
   by_cases p:0<b
   ·have:=Int.fmod_nonneg_of_pos a p;have:=Int.fmod_lt_of_pos a p;have:=hp p;omega
   ·have p':b<0:=by omega
    have t:=Int.fmod_nonneg_of_pos (-a) (show 0 < -b by omega);have u:=Int.fmod_lt_of_pos (-a) (show 0 < -b by omega);rw [Int.neg_fmod_neg] at t u;have:=hn p';omega
  omega
 refine ⟨?_,hr⟩;have:b * a.fdiv b=b * q:=by rw [Int.mul_comm b q];omega
 exact Int.eq_of_mul_eq_mul_left hb this
theorem tq_bd {a b:Int} (h0:-9223372036854775808≤a) (h1:a≤9223372036854775807) (hx:¬ (a=-9223372036854775808∧b=-1)) (hb:b≠0) :
    -9223372036854775808≤a.tdiv b∧a.tdiv b≤9223372036854775807:=by
  have e:(a.tdiv b).natAbs=a.natAbs / b.natAbs:=Int.natAbs_tdiv a b;have l:a.natAbs / b.natAbs≤a.natAbs:=Nat.div_le_self _ _
  by_cases h:a=-9223372036854775808
  · by_cases hb1:b=1
    · subst hb1;simp;omega
    · have h2:2≤b.natAbs:=by omega
      have:a.natAbs / b.natAbs≤a.natAbs / 2:=Nat.div_le_div_left h2 (by omega);omega
  · omega
theorem tr_bd {a b:Int} (hb:b≠0):(a.tmod b).natAbs<b.natAbs∧(0≤a→0≤a.tmod b)∧(a≤0→a.tmod b≤0):=by
 refine ⟨?_,fun h=>Int.tmod_nonneg b h,fun h=>?_⟩
 ·rw [Int.natAbs_tmod];exact Nat.mod_lt _ (by omega)
 ·have:=Int.tmod_nonneg b (show 0≤-a by omega);rw [Int.neg_tmod] at this;omega
theorem tq_half {a b:Int} (h0:-9223372036854775808≤a) (h1:a≤9223372036854775807) (hr:a.tmod b≠0) :
    -4611686018427387904≤a.tdiv b∧a.tdiv b≤4611686018427387904:=by
  have e:(a.tdiv b).natAbs=a.natAbs / b.natAbs:=Int.natAbs_tdiv a b;have e2:=Int.natAbs_tmod a b;have h2:2≤b.natAbs∨b.natAbs=0:=by
    by_cases h:b.natAbs=1
    · rw [h,Nat.mod_one] at e2;omega
    · omega
  rcases h2 with h2 | h2
  · have:a.natAbs / b.natAbs≤a.natAbs / 2:=Nat.div_le_div_left h2 (by omega);omega
  · rw [h2,Nat.div_zero] at e;omega
theorem fdm_exact {a b:Int} (hb:b≠0) (h:a.tmod b=0):a.fdiv b=a.tdiv b∧a.fmod b=0:=by
 have e:=Int.tdiv_mul_add_tmod a b;exact fdm_unique hb (by omega) (fun _=>by omega) (fun _=>by omega)
theorem fdm_same {a b:Int} (hb:b≠0) (h:0<a.tmod b∧0<b∨a.tmod b<0∧b<0):a.fdiv b=a.tdiv b∧a.fmod b=a.tmod b:=by
 have e:=Int.tdiv_mul_add_tmod a b;have t:=(tr_bd (a:=a) hb).1;exact fdm_unique hb (by omega) (fun _=>by omega) (fun _=>by omega)
theorem fdm_other {a b:Int} (hb:b≠0) (h:0<a.tmod b∧b<0∨a.tmod b<0∧0<b):a.fdiv b=a.tdiv b - 1∧a.fmod b=a.tmod b+b:=by
 have e:=Int.tdiv_mul_add_tmod a b;have t:=(tr_bd (a:=a) hb).1;exact fdm_unique hb (by rw [Int.sub_mul];omega) (fun _=>by omega) (fun _=>by omega)
def dQ (a b:Int):Int:=if b=0∨(a=-9223372036854775808∧b=-1) then 0 else a.fdiv b
def dR (a b:Int):Int:=if b=0∨(a=-9223372036854775808∧b=-1) then 0 else a.fmod b
def dE (a b:Int):Int:=if b=0 then 10 else if a=-9223372036854775808∧b=-1 then 9 else 0
theorem dQ_pos {a b:Int} (h:0<b):dQ a b=a / b:=by
 unfold dQ;rw [if_neg (by omega),Int.fdiv_eq_ediv_of_nonneg _ (by omega)]
theorem dR_pos {a b:Int} (h:0<b):dR a b=a % b:=by
 unfold dR;rw [if_neg (by omega),Int.fmod_eq_emod_of_nonneg _ (by omega)]
def fits (n:Int):Bool:=decide (-9223372036854775808≤n∧n≤9223372036854775807)
def xV (n:Int):Int:=if fits n then n else 0
def xE (n:Int):Int:=if fits n then 0 else 9
theorem fits_iff {n:Int}:fits n=true↔-9223372036854775808≤n∧n≤9223372036854775807:=by unfold fits;simp
theorem xV_in {n:Int} (h:-9223372036854775808≤n∧n≤9223372036854775807):xV n=n:=by unfold xV;rw [if_pos (fits_iff.2 h)]
theorem xE_in {n:Int} (h:-9223372036854775808≤n∧n≤9223372036854775807):xE n=0:=by unfold xE;rw [if_pos (fits_iff.2 h)]
theorem xV_out {n:Int} (h:¬ (-9223372036854775808≤n∧n≤9223372036854775807)):xV n=0:=by unfold xV;rw [if_neg (mt fits_iff.1 h)]
theorem xE_out {n:Int} (h:¬ (-9223372036854775808≤n∧n≤9223372036854775807)):xE n=9:=by unfold xE;rw [if_neg (mt fits_iff.1 h)]
def mg (a:Int):Int:=if a<0 then -a else a
theorem mg_cases (a:Int):a<0∧mg a=-a∨0≤a∧mg a=a:=by unfold mg;split <;> omega
theorem mg_bd {a:Int} (h0:-9223372036854775808≤a) (h1:a≤9223372036854775807):0≤mg a∧mg a≤9223372036854775808:=by have:=mg_cases a;omega
theorem mg_mul {a b:Int}:(a<0∧¬ b<0∨¬ a<0∧b<0)∧a * b=-(mg a * mg b)∨(a<0∧b<0∨¬ a<0∧¬ b<0)∧a * b=mg a * mg b:=by
 rcases mg_cases a with ⟨h,e⟩ | ⟨h,e⟩ <;> rcases mg_cases b with ⟨k,f⟩ | ⟨k,f⟩ <;> rw [e,f] <;> simp [Int.neg_mul,Int.mul_neg] <;> omega
theorem mg_mul_nonneg {a b:Int} (h0:-9223372036854775808≤a) (h1:a≤9223372036854775807) (h2:-9223372036854775808≤b) (h3:b≤9223372036854775807):0≤mg a * mg b :=
 Int.mul_nonneg (mg_bd h0 h1).1 (mg_bd h2 h3).1
theorem gcd_step {x y:Int} (hx:0≤x) (hy:0≤y):Int.gcd y (x % y)=Int.gcd x y:=by
 obtain ⟨n,rfl⟩:=Int.eq_ofNat_of_zero_le hx;obtain ⟨m,rfl⟩:=Int.eq_ofNat_of_zero_le hy;rw [← Int.natCast_emod]
 show Nat.gcd m (n % m)=Nat.gcd n m
 rw [Nat.gcd_comm,Nat.gcd_comm n m,Nat.gcd_rec m n]
theorem gcd_mg (a b:Int):Int.gcd (mg a) (mg b)=Int.gcd a b:=by
 rcases mg_cases a with ⟨h,e⟩ | ⟨h,e⟩ <;> rcases mg_cases b with ⟨k,f⟩ | ⟨k,f⟩ <;> rw [e,f] <;> simp [Int.gcd]
theorem gcd_zero_right {x:Int} (hx:0≤x):(Int.gcd x 0:Int)=x:=by simp [Int.gcd];omega
def gR (a b:Int):Int:=if (Int.gcd a b:Int)≤9223372036854775807 then Int.gcd a b else 0
def invLoop:Nat→Int→Int→Int→Int→Int
  | 0,_,_,x,_=>x
  | n+1,r,s,x,y=>if s=0 then x else invLoop n s (r % s) y (x - r / s * y)
def inv (a m:Int):Int:=invLoop (m.toNat+1) a m 1 0 % m
def ivB (a b:Int):Bool:=decide (-4398046511104≤a∧b≤4398046511104∧a<b)
abbrev Sp:=Int × Int
def nvB (x:Int):Bool:=decide (-4398046511104≤x)&&decide (x≤4398046511104)
def spB (p:Sp):Bool:=nvB p.1&&nvB p.2&&decide (p.1<p.2)
def spsB (L:List Sp):Bool:=L.all spB
def gpB:List Sp→Bool
  | p :: q :: r=>decide (p.2<q.1)&&gpB (q :: r)
  | _=>true
def vaB (L:List Sp):Bool:=decide (L.length≤2000)&&spsB L&&gpB L
theorem nvB_iff {x:Int}:nvB x=true↔-4398046511104≤x∧x≤4398046511104:=by unfold nvB;simp
theorem spB_iff {p:Sp}:spB p=true↔-4398046511104≤p.1∧p.2≤4398046511104∧p.1<p.2:=by
 unfold spB
 rw [Bool.and_eq_true,Bool.and_eq_true,nvB_iff,nvB_iff,decide_eq_true_iff];omega
theorem spsB_at {L:List Sp}:spsB L=true↔∀ i,i<L.length→spB (L.getD i (0,0))=true:=by
 unfold spsB
 rw [List.all_eq_true]
 constructor
 ·intro h i hi;rw [List.getD_eq_getElem?_getD,List.getElem?_eq_getElem hi];exact h _ (List.getElem_mem hi)
 ·intro h p hp;obtain ⟨i,hi,rfl⟩:=List.getElem_of_mem hp;have:=h i hi;rwa [List.getD_eq_getElem?_getD,List.getElem?_eq_getElem hi] at this
theorem gpB_at:∀ {L:List Sp},gpB L=true↔∀ i,i+1<L.length→(L.getD i (0,0)).2<(L.getD (i+1) (0,0)).1
  | []=>by simp [gpB]
  | [p]=>by simp [gpB]
  | p :: q :: r=>by
    show (decide (p.2<q.1)&&gpB (q :: r))=true↔_
    rw [Bool.and_eq_true,decide_eq_true_iff,gpB_at (L:=q :: r)]
    constructor
    · rintro ⟨h0,h⟩ i hi
      cases i with
      | zero=>simpa using h0
      | succ i=>have:=h i (by simp at hi ⊢;omega);simpa using this
    · intro h;refine ⟨by simpa using h 0 (by simp),fun i hi=>?_⟩;have:=h (i+1) (by simp at hi ⊢;omega)
      simpa using this
def inB (L:List Sp) (x:Int):Bool:=L.any fun p=>decide (p.1≤x)&&decide (x<p.2)
theorem inB_nil (x:Int):inB [] x=false:=rfl
theorem inB_cons (p:Sp) (L:List Sp) (x:Int):inB (p :: L) x=(decide (p.1≤x)&&decide (x<p.2) || inB L x):=by simp [inB]
theorem inB_app (A B:List Sp) (x:Int):inB (A++B) x=(inB A x || inB B x):=by simp [inB]
theorem inB_iff {L:List Sp} {x:Int}:inB L x=true↔∃ p,p∈L∧p.1≤x∧x<p.2:=by
 unfold inB;simp
def Cn:List Sp→Prop
  | []=>True
  | p :: L=>p.1<p.2∧(∀ q,q∈L→p.2<q.1)∧Cn L
def Ln (L:List Sp):Prop:=∀ p,p∈L→-4398046511104≤p.1∧p.2≤4398046511104
theorem Cn.lt:∀ {L:List Sp},Cn L→∀ p,p∈L→p.1<p.2
  | p :: L,h,q,hq=>by
    rcases List.mem_cons.1 hq with rfl | hq
    · exact h.1
    · exact Cn.lt h.2.2 q hq
theorem cn_of:∀ {L:List Sp},(∀ p,p∈L→p.1<p.2)→gpB L=true→Cn L
  | [],_,_=>trivial
  | [p],h,_=>⟨h p List.mem_cons_self,fun q hq=>by simp at hq,trivial⟩
  | p :: q :: r,h,g=>by
    have g':(decide (p.2<q.1)&&gpB (q :: r))=true:=g;rw [Bool.and_eq_true,decide_eq_true_iff] at g';have c:=cn_of (L:=q :: r) (fun x hx=>h x (List.mem_cons_of_mem _ hx)) g'.2;refine ⟨h p List.mem_cons_self,fun x hx=>?_,c⟩
    rcases List.mem_cons.1 hx with rfl | hx
    · exact g'.1
    · have:=c.2.1 x hx;have:=c.1;omega
theorem gp_of_cn:∀ {L:List Sp},Cn L→gpB L=true
  | [],_=>rfl
  | [p],_=>rfl
  | p :: q :: r,h=>by
    show (decide (p.2<q.1)&&gpB (q :: r))=true
    rw [Bool.and_eq_true,decide_eq_true_iff];exact ⟨h.2.1 q List.mem_cons_self,gp_of_cn h.2.2⟩
theorem vaB_iff {L:List Sp}:vaB L=true↔L.length≤2000∧Ln L∧Cn L:=by
 unfold vaB
 rw [Bool.and_eq_true,Bool.and_eq_true,decide_eq_true_iff]
 constructor
 ·rintro ⟨⟨h1,h2⟩,h3⟩;have h2':∀ p,p∈L→spB p=true:=List.all_eq_true.1 h2;exact ⟨h1,fun p hp=>by have:=spB_iff.1 (h2' p hp);omega,cn_of (fun p hp=>(spB_iff.1 (h2' p hp)).2.2) h3⟩
 ·rintro ⟨h1,h2,h3⟩;refine ⟨⟨h1,List.all_eq_true.2 fun p hp=>?_⟩,gp_of_cn h3⟩;rw [spB_iff];exact ⟨(h2 p hp).1,(h2 p hp).2,h3.lt p hp⟩
theorem sps_of {L:List Sp}:spsB L=true↔Ln L∧∀ p,p∈L→p.1<p.2:=by
 unfold spsB
 rw [List.all_eq_true]
 constructor
 ·intro h;exact ⟨fun p hp=>by have:=spB_iff.1 (h p hp);omega,fun p hp=>(spB_iff.1 (h p hp)).2.2⟩
 ·rintro ⟨h1,h2⟩ p hp;rw [spB_iff];exact ⟨(h1 p hp).1,(h1 p hp).2,h2 p hp⟩
theorem cn_before:∀ {L:List Sp} {x:Int},(∀ q,q∈L→x<q.1)→inB L x=false
  | L,x,h=>by
    rw [← Bool.not_eq_true,inB_iff];rintro ⟨p,hp,a,b⟩;have:=h p hp;omega
theorem cn_head {p:Sp} {L:List Sp} (h:Cn (p :: L)) (x:Int):inB (p :: L) x=if x<p.2 then decide (p.1≤x) else inB L x:=by
 rw [inB_cons]
 by_cases z:x<p.2
 ·rw [if_pos z,decide_eq_true z,Bool.and_true,cn_before (L:=L) (fun q hq=>by have:=h.2.1 q hq;omega),Bool.or_false]
 ·rw [if_neg z,decide_eq_false z,Bool.and_false,Bool.false_or]
theorem cn_ext:∀ {A B:List Sp},Cn A→Cn B→(∀ x,inB A x=inB B x)→A=B
  | [],[],_,_,_=>rfl
  | [],q :: B,_,hB,h=>by
    have:=h q.1;rw [inB_nil,cn_head hB,if_pos hB.1,decide_eq_true (Int.le_refl _)] at this
    cases this
  | p :: A,[],hA,_,h=>by
    have:=h p.1;rw [inB_nil,cn_head hA,if_pos hA.1,decide_eq_true (Int.le_refl _)] at this
    cases this
  | p :: A,q :: B,hA,hB,h=>by
    have le1:∀ {p q:Sp} {A B:List Sp},Cn (p :: A)→Cn (q :: B)→(∀ x,inB (p :: A) x=inB (q :: B) x)→¬ p.1<q.1:=by
      intro p q A B hA hB h z;have:=h p.1;rw [cn_head hA,if_pos hA.1,decide_eq_true (Int.le_refl _),cn_before (L:=q :: B) (fun r hr=>by
        rcases List.mem_cons.1 hr with rfl | hr
        · exact z
        · have:=hB.2.1 r hr;have:=hB.1;omega)] at this
      cases this
    have e1:p.1=q.1:=by
      have a:=le1 hA hB h;have b:=le1 hB hA (fun x=>(h x).symm);omega
    have le2:∀ {p q:Sp} {A B:List Sp},Cn (p :: A)→Cn (q :: B)→p.1=q.1→(∀ x,inB (p :: A) x=inB (q :: B) x)→¬ p.2<q.2:=by
      intro p q A B hA hB e h z;have:=h p.2;rw [cn_head hA,if_neg (Int.lt_irrefl _),cn_head hB,if_pos z,decide_eq_true (by have:=hA.1;omega),cn_before (L:=A) hA.2.1] at this
      cases this
    have e2:p.2=q.2:=by
      have a:=le2 hA hB e1 h;have b:=le2 hB hA e1.symm (fun x=>(h x).symm);omega
    have e:p=q:=Prod.ext e1 e2;subst e;rw [cn_ext hA.2.2 hB.2.2 (fun x=>?_)];have:=h x;rw [cn_head hA,cn_head hB] at this
    by_cases z:x<p.2
    · rw [cn_before (L:=A) (fun r hr=>by have:=hA.2.1 r hr;omega),cn_before (L:=B) (fun r hr=>by have:=hB.2.1 r hr;omega)]
    · rwa [if_neg z,if_neg z] at this
def shL (L:List Sp) (n:Int):List Sp:=L.map fun p=>(p.1+n,p.2+n)
theorem sh_in (L:List Sp) (n x:Int):inB (shL L n) (x+n)=inB L x:=by
 unfold inB shL
 rw [List.any_map]
 congr 1
 funext p
 show (decide (p.1+n≤x+n)&&decide (x+n<p.2+n))=_
 rw [Bool.eq_iff_iff];simp only [Bool.and_eq_true,decide_eq_true_iff];omega
theorem sh_cn:∀ {L:List Sp} {n:Int},Cn L→Cn (shL L n)
  | [],_,_=>trivial
  | p :: L,n,h=>⟨by show p.1+n<p.2+n;have:=h.1;omega,fun q hq=>by
      obtain ⟨r,hr,rfl⟩:=List.mem_map.1 hq;have:=h.2.1 r hr
      show p.2+n<r.1+n;omega,sh_cn h.2.2⟩
theorem sh_len (L:List Sp) (n:Int):(shL L n).length=L.length:=by simp [shL]
def kpB (k:Int) (a b:Bool):Bool:=if k=1 then a || b else if k=2 then a&&b else if k=3 then a&&!b else a != b
theorem kp_no (k:Int):kpB k false false=false:=by unfold kpB;(repeat' split) <;> rfl
def insZ (l:List Int) (x:Int):List Int:=l.filter (fun y=>decide (y<x))++x :: l.filter (fun y=>decide (x<y))
abbrev Asc (l:List Int):Prop:=l.Pairwise (· < ·)
theorem ins_mem {l:List Int} {x y:Int}:y∈insZ l x↔y=x∨y∈l:=by
 unfold insZ
 rw [List.mem_append,List.mem_cons,List.mem_filter,List.mem_filter,decide_eq_true_iff,decide_eq_true_iff]
 constructor
 ·rintro (h | h | h)
  ·exact .inr h.1
  ·exact .inl h
  ·exact .inr h.1
 ·rintro (h | h)
  ·exact .inr (.inl h)
  ·rcases Int.lt_trichotomy y x with z | z | z
   ·exact .inl ⟨h,z⟩
   ·exact .inr (.inl z)
   ·exact .inr (.inr ⟨h,z⟩)
theorem ins_asc {l:List Int} (h:Asc l) (x:Int):Asc (insZ l x):=by
 refine List.pairwise_append.2 ⟨h.filter _,List.pairwise_cons.2 ⟨fun y hy=>?_,h.filter _⟩,fun a ha b hb=>?_⟩
 ·exact of_decide_eq_true (List.mem_filter.1 hy).2
 ·have a1:a<x:=of_decide_eq_true (List.mem_filter.1 ha).2
  rcases List.mem_cons.1 hb with rfl | hb
  ·exact a1
  ·have:x<b:=of_decide_eq_true (List.mem_filter.1 hb).2;omega
theorem ins_len (x:Int):∀ l:List Int,(insZ l x).length≤l.length+1
  | []=>Nat.le_refl _
  | a :: l=>by
    have:=ins_len x l
    unfold insZ at this ⊢
    rw [List.length_append,List.length_cons] at this ⊢;rw [List.filter_cons,List.filter_cons]
    by_cases z:a<x
    · rw [decide_eq_true z,decide_eq_false (by omega:¬ x<a)];simp at this ⊢;omega
    · by_cases y:x<a
      · rw [decide_eq_false z,decide_eq_true y];simp at this ⊢;omega
      · rw [decide_eq_false z,decide_eq_false y];simp at this ⊢;omega
def enK (L:List Sp):Nat→List Int
  | 0=>[]
  | k+1=>insZ (insZ (enK L k) (L.getD k (0,0)).1) (L.getD k (0,0)).2
def enL (L:List Sp):List Int:=enK L L.length
theorem enK_asc (L:List Sp):∀ k,Asc (enK L k)
  | 0=>List.Pairwise.nil
  | k+1=>ins_asc (ins_asc (enK_asc L k) _) _
theorem enK_len (L:List Sp):∀ k,(enK L k).length≤2 * k
  | 0=>Nat.le_refl _
  | k+1=>by
    have a:=enK_len L k;have b:=ins_len (L.getD k (0,0)).1 (enK L k);have c:=ins_len (L.getD k (0,0)).2 (insZ (enK L k) (L.getD k (0,0)).1)
    show (insZ (insZ (enK L k) (L.getD k (0,0)).1) (L.getD k (0,0)).2).length≤_
    omega
theorem enK_mem (L:List Sp) (y:Int):∀ k,y∈enK L k↔∃ j,j<k∧(y=(L.getD j (0,0)).1∨y=(L.getD j (0,0)).2)
  | 0=>⟨fun h=>(by cases h),fun ⟨j,h,_⟩=>absurd h (Nat.not_lt_zero _)⟩
  | k+1=>by
    show y∈insZ (insZ (enK L k) (L.getD k (0,0)).1) (L.getD k (0,0)).2↔_
    rw [ins_mem,ins_mem,enK_mem L y k]
    constructor
    · rintro (h | h | ⟨j,hj,h⟩)
      · exact ⟨k,by omega,.inr h⟩
      · exact ⟨k,by omega,.inl h⟩
      · exact ⟨j,by omega,h⟩
    · rintro ⟨j,hj,h⟩
      rcases Nat.lt_or_ge j k with z | z
      · exact .inr (.inr ⟨j,z,h⟩)
      · obtain rfl:j=k:=by omega
        rcases h with h | h
        · exact .inr (.inl h)
        · exact .inl h
theorem enL_mem {L:List Sp} {y:Int}:y∈enL L↔∃ p,p∈L∧(y=p.1∨y=p.2):=by
 unfold enL
 rw [enK_mem]
 constructor
 ·rintro ⟨j,hj,h⟩;refine ⟨L.getD j (0,0),?_,h⟩;rw [List.getD_eq_getElem?_getD,List.getElem?_eq_getElem hj];exact List.getElem_mem hj
 ·rintro ⟨p,hp,h⟩;obtain ⟨j,hj,rfl⟩:=List.getElem_of_mem hp;exact ⟨j,hj,by rw [List.getD_eq_getElem?_getD,List.getElem?_eq_getElem hj];exact h⟩
theorem asc_at {e:List Int} (h:Asc e) {i j:Nat} (hij:i<j) (hj:j<e.length):e.getD i 0<e.getD j 0:=by
 rw [List.getD_eq_getElem?_getD,List.getD_eq_getElem?_getD,List.getElem?_eq_getElem hj,List.getElem?_eq_getElem (by omega)];exact List.pairwise_iff_getElem.1 h i j (by omega) hj hij
theorem asc_le {e:List Int} (h:Asc e) {i j:Nat} (hij:i≤j) (hj:j<e.length):e.getD i 0≤e.getD j 0:=by
 rcases Nat.lt_or_ge i j with z | z
 ·have:=asc_at h z hj;omega
 ·obtain rfl:i=j:=by omega
  exact Int.le_refl _
theorem asc_inv {e:List Int} (h:Asc e) {i j:Nat} (hi:i<e.length) (hj:j<e.length) (l:e.getD i 0<e.getD j 0):i<j:=by
 rcases Nat.lt_or_ge i j with z | z
 ·exact z
 ·have:=asc_le h z hi;omega
theorem mem_at {e:List Int} {y:Int} (h:y∈e):∃ i,i<e.length∧e.getD i 0=y:=by
 obtain ⟨i,hi,rfl⟩:=List.getElem_of_mem h;exact ⟨i,hi,by rw [List.getD_eq_getElem?_getD,List.getElem?_eq_getElem hi];rfl⟩
theorem locate {e:List Int} {x:Int} {i:Nat}:∀ d,i+d<e.length→e.getD i 0≤x→x<e.getD (i+d) 0→∃ j,j+1<e.length∧e.getD j 0≤x∧x<e.getD (j+1) 0
  | 0,_,a,b=>by rw [Nat.add_zero] at b;omega
  | d+1,h,a,b=>by
    by_cases z:x<e.getD (i+d) 0
    · exact locate d (by omega) a z
    · exact ⟨i+d,by omega,by omega,b⟩
def addL (l:List Sp) (s:Sp):List Sp:=if 0<l.length∧(l.getD (l.length - 1) (0,0)).2=s.1 then l.dropLast++[((l.getD (l.length - 1) (0,0)).1,s.2)] else l++[s]
theorem add_nil (s:Sp):addL [] s=[s]:=rfl
theorem add_snoc (R:List Sp) (q s:Sp):addL (R++[q]) s=if q.2=s.1 then R++[(q.1,s.2)] else R++[q]++[s]:=by
 unfold addL
 have e:(R++[q]).getD ((R++[q]).length - 1) (0,0)=q:=by
  rw [List.length_append,List.length_singleton,Nat.add_sub_cancel]
  simp [List.getD_eq_getElem?_getD]
 rw [e]
 by_cases z:q.2=s.1
 ·rw [if_pos ⟨by simp,z⟩,if_pos z,List.dropLast_concat]
 ·rw [if_neg (fun h=>z h.2),if_neg z]
theorem add_len (l:List Sp) (s:Sp):(addL l s).length≤l.length+1:=by
 unfold addL
 split
 ·rw [List.length_append,List.length_dropLast,List.length_singleton];omega
 ·rw [List.length_append,List.length_singleton];exact Nat.le_refl _
theorem cn_snoc:∀ {R:List Sp} {s:Sp},Cn R→(∀ q,q∈R→q.2<s.1)→s.1<s.2→Cn (R++[s])
  | [],s,_,_,h=>⟨h,fun q hq=>(by cases hq),trivial⟩
  | p :: R,s,c,b,h=>⟨c.1,fun q hq=>by
      rcases List.mem_append.1 hq with hq | hq
      · exact c.2.1 q hq
      · rw [List.mem_singleton.1 hq];exact b p List.mem_cons_self,cn_snoc c.2.2 (fun q hq=>b q (List.mem_cons_of_mem _ hq)) h⟩
theorem cn_last:∀ {R:List Sp} {q:Sp},Cn (R++[q])→Cn R∧(∀ r,r∈R→r.2<q.1)∧q.1<q.2
  | [],q,c=>⟨trivial,fun r hr=>(by cases hr),c.1⟩
  | p :: R,q,c=>by
    obtain ⟨a,b,d⟩:=cn_last (R:=R) c.2.2;exact ⟨⟨c.1,fun r hr=>c.2.1 r (List.mem_append_left _ hr),a⟩,fun r hr=>by
      rcases List.mem_cons.1 hr with rfl | hr
      · exact c.2.1 q (List.mem_append_right _ List.mem_cons_self)
      · exact b r hr,d⟩
theorem snoc_cases (l:List Sp):l=[]∨∃ R q,l=R++[q]:=by
 rcases List.eq_nil_or_concat l with h | ⟨R,q,h⟩
 ·exact .inl h
 ·exact .inr ⟨R,q,by rw [h,List.concat_eq_append]⟩
theorem add_ok {R:List Sp} {s:Sp} (c:Cn R) (b:∀ q,q∈R→q.2≤s.1) (h:s.1<s.2) :
    Cn (addL R s)∧(∀ x,inB (addL R s) x=(inB R x || (decide (s.1≤x)&&decide (x<s.2))))∧(∀ q,q∈addL R s→(∃ r,r∈R∧r.1=q.1)∨q.1=s.1)∧∀ q,q∈addL R s→q.2≤s.2:=by
  rcases snoc_cases R with rfl | ⟨R,q,rfl⟩
  · rw [add_nil];refine ⟨⟨h,fun q hq=>(by cases hq),trivial⟩,fun x=>by rw [inB_cons,inB_nil,Bool.or_false,Bool.false_or],fun q hq=>.inr (by rw [List.mem_singleton.1 hq]),fun q hq=>by rw [List.mem_singleton.1 hq];exact Int.le_refl _⟩
  · obtain ⟨c1,c2,c3⟩:=cn_last c;have bq:=b q (List.mem_append_right _ List.mem_cons_self);rw [add_snoc]
    by_cases z:q.2=s.1
    · rw [if_pos z];refine ⟨cn_snoc c1 c2 (by show q.1<s.2;omega),fun x=>?_,fun r hr=>?_,fun r hr=>?_⟩
      · rw [inB_app,inB_app,inB_cons,inB_nil,Bool.or_false,inB_cons,inB_nil,Bool.or_false,Bool.or_assoc]
        congr 1
        show (decide (q.1≤x)&&decide (x<s.2))=_
        rw [Bool.eq_iff_iff];simp only [Bool.or_eq_true,Bool.and_eq_true,decide_eq_true_iff];omega
      · rcases List.mem_append.1 hr with hr | hr
        · exact .inl ⟨r,List.mem_append_left _ hr,rfl⟩
        · rw [List.mem_singleton.1 hr];exact .inl ⟨q,List.mem_append_right _ List.mem_cons_self,rfl⟩
      · rcases List.mem_append.1 hr with hr | hr
        · have:=c2 r hr;omega
        · rw [List.mem_singleton.1 hr];exact Int.le_refl _
    · rw [if_neg z];refine ⟨cn_snoc c (fun r hr=>?_) h,fun x=>?_,fun r hr=>?_,fun r hr=>?_⟩
      · rcases List.mem_append.1 hr with hr | hr
        · have:=c2 r hr;omega
        · rw [List.mem_singleton.1 hr];omega
      · rw [inB_app _ [s],inB_cons,inB_nil,Bool.or_false]
      · rcases List.mem_append.1 hr with hr | hr
        · exact .inl ⟨r,hr,rfl⟩
        · exact .inr (by rw [List.mem_singleton.1 hr])
      · rcases List.mem_append.1 hr with hr | hr
        · have:=b r hr;omega
        · rw [List.mem_singleton.1 hr];exact Int.le_refl _
def cbK (k:Int) (A B:List Sp) (e:List Int):Nat→List Sp
  | 0=>[]
  | i+1=>if kpB k (inB A (e.getD i 0)) (inB B (e.getD i 0)) then addL (cbK k A B e i) (e.getD i 0,e.getD (i+1) 0) else cbK k A B e i
def cbL (k:Int) (A B:List Sp):List Sp:=cbK k A B (enL (A++B)) ((enL (A++B)).length - 1)
theorem cbK_len (k:Int) (A B:List Sp) (e:List Int):∀ i,(cbK k A B e i).length≤i
  | 0=>Nat.le_refl _
  | i+1=>by
    have:=cbK_len k A B e i
    show (if _ then addL (cbK k A B e i) _ else cbK k A B e i).length≤_
    split
    · have:=add_len (cbK k A B e i) (e.getD i 0,e.getD (i+1) 0);omega
    · omega
theorem cbK_inv (k:Int) (A B:List Sp) {e:List Int} (h:Asc e):∀ i,i=0∨i<e.length→Cn (cbK k A B e i)∧(∀ q,q∈cbK k A B e i→(∃ j,j<e.length∧q.1=e.getD j 0)∧q.2≤e.getD i 0) ∧
      ∀ x,inB (cbK k A B e i) x=true↔∃ j,j<i∧e.getD j 0≤x∧x<e.getD (j+1) 0∧kpB k (inB A (e.getD j 0)) (inB B (e.getD j 0))=true
  | 0,_=>⟨trivial,fun q hq=>(by cases hq),fun x=>⟨fun h=>(by cases h),fun ⟨j,hj,_⟩=>absurd hj (Nat.not_lt_zero _)⟩⟩
  | i+1,hi=>by
    have hi':i+1<e.length:=by omega
    obtain ⟨c,b,m⟩:=cbK_inv k A B h i (.inr (by omega));have lt:e.getD i 0<e.getD (i+1) 0:=asc_at h (Nat.lt_succ_self i) hi';have d:cbK k A B e (i+1)=if kpB k (inB A (e.getD i 0)) (inB B (e.getD i 0)) then addL (cbK k A B e i) (e.getD i 0,e.getD (i+1) 0) else cbK k A B e i:=rfl;rw [d]
    cases v:kpB k (inB A (e.getD i 0)) (inB B (e.getD i 0))
    · rw [if_neg (by simp)];refine ⟨c,fun q hq=>⟨(b q hq).1,by have:=(b q hq).2;omega⟩,fun x=>(m x).trans ?_⟩
      constructor
      · rintro ⟨j,hj,r⟩;exact ⟨j,by omega,r⟩
      · rintro ⟨j,hj,r1,r2,r3⟩
        rcases Nat.lt_or_ge j i with z | z
        · exact ⟨j,z,r1,r2,r3⟩
        · obtain rfl:j=i:=by omega
          rw [v] at r3;cases r3
    · rw [if_pos rfl];obtain ⟨a1,a2,a3,a4⟩:=add_ok (s:=(e.getD i 0,e.getD (i+1) 0)) c (fun q hq=>(b q hq).2) lt;refine ⟨a1,fun q hq=>⟨?_,a4 q hq⟩,fun x=>?_⟩
      · rcases a3 q hq with ⟨r,hr,er⟩ | er
        · obtain ⟨j,hj,ej⟩:=(b r hr).1;exact ⟨j,hj,by rw [← er,ej]⟩
        · exact ⟨i,by omega,er⟩
      · rw [a2,Bool.or_eq_true,m,Bool.and_eq_true,decide_eq_true_iff,decide_eq_true_iff]
        constructor
        · rintro (⟨j,hj,r⟩ | ⟨r1,r2⟩)
          · exact ⟨j,by omega,r⟩
          · exact ⟨i,by omega,r1,r2,v⟩
        · rintro ⟨j,hj,r1,r2,r3⟩
          rcases Nat.lt_or_ge j i with z | z
          · exact .inl ⟨j,z,r1,r2,r3⟩
          · obtain rfl:j=i:=by omega
            exact .inr ⟨r1,r2⟩
theorem in_const {e:List Int} (h:Asc e) {L:List Sp} (m:∀ p,p∈L→p.1∈e∧p.2∈e) {j:Nat} (hj:j+1<e.length) {x:Int} (x0:e.getD j 0≤x) (x1:x<e.getD (j+1) 0):inB L x=inB L (e.getD j 0):=by
 rw [Bool.eq_iff_iff,inB_iff,inB_iff]
 constructor
 ·rintro ⟨p,hp,a,b⟩;refine ⟨p,hp,?_,by omega⟩;obtain ⟨i,hi,ei⟩:=mem_at (m p hp).1
  rcases Nat.lt_or_ge j i with z | z
  ·have:=asc_le h (show j+1≤i by omega) hi;omega
  ·have:=asc_le h z (by omega);omega
 ·rintro ⟨p,hp,a,b⟩;refine ⟨p,hp,by omega,?_⟩;obtain ⟨i,hi,ei⟩:=mem_at (m p hp).2;have:=asc_inv h (show j<e.length by omega) hi (by omega);have:=asc_le h (show j+1≤i by omega) hi;omega
theorem cb_spec (k:Int) (A B:List Sp):Cn (cbL k A B)∧(∀ x,inB (cbL k A B) x=kpB k (inB A x) (inB B x))∧(∀ q,q∈cbL k A B→q.1∈enL (A++B)∧∃ y,y∈enL (A++B)∧q.2≤y)∧(cbL k A B).length≤2 * (A.length+B.length):=by
 have asc:Asc (enL (A++B)):=enK_asc _ _;have len:(enL (A++B)).length≤2 * (A.length+B.length):=by
  have:=enK_len (A++B) (A++B).length;rw [List.length_append] at this
  unfold enL;rw [List.length_append];exact this
 have mA:∀ p,p∈A→p.1∈enL (A++B)∧p.2∈enL (A++B):=fun p hp=>⟨enL_mem.2 ⟨p,List.mem_append_left _ hp,.inl rfl⟩,enL_mem.2 ⟨p,List.mem_append_left _ hp,.inr rfl⟩⟩;have mB:∀ p,p∈B→p.1∈enL (A++B)∧p.2∈enL (A++B):=fun p hp=>⟨enL_mem.2 ⟨p,List.mem_append_right _ hp,.inl rfl⟩,enL_mem.2 ⟨p,List.mem_append_right _ hp,.inr rfl⟩⟩;have ln:=cbK_len k A B (enL (A++B)) ((enL (A++B)).length - 1);have inv:=cbK_inv k A B asc ((enL (A++B)).length - 1) (by omega)
 unfold cbL
 generalize enL (A++B)=e at *;obtain ⟨c,b,m⟩:=inv;refine ⟨c,fun x=>?_,fun q hq=>?_,by omega⟩
 ·rw [Bool.eq_iff_iff,m]
  constructor
  ·rintro ⟨j,hj,r1,r2,r3⟩;rwa [in_const asc mA (by omega) r1 r2,in_const asc mB (by omega) r1 r2]
  ·intro r;have some:∃ p,(p∈A∨p∈B)∧p.1≤x∧x<p.2:=by
    cases vA:inB A x
    ·cases vB:inB B x
     ·rw [vA,vB,kp_no] at r;cases r
     ·obtain ⟨p,hp,z⟩:=inB_iff.1 vB;exact ⟨p,.inr hp,z⟩
    ·obtain ⟨p,hp,z⟩:=inB_iff.1 vA;exact ⟨p,.inl hp,z⟩
   obtain ⟨p,hp,z1,z2⟩:=some;have me:p.1∈e∧p.2∈e:=hp.elim (mA p) (mB p);obtain ⟨i,hi,ei⟩:=mem_at me.1;obtain ⟨t,ht,et⟩:=mem_at me.2;have it:=asc_inv asc hi ht (by omega);obtain ⟨j,hj,j0,j1⟩:=locate (e:=e) (x:=x) (i:=i) (t - i) (by omega) (by omega) (by rw [show i+(t - i)=t by omega];omega);refine ⟨j,by omega,j0,j1,?_⟩;rwa [← in_const asc mA hj j0 j1,← in_const asc mB hj j0 j1]
 ·obtain ⟨⟨j,hj,ej⟩,r⟩:=b q hq;have at':∀ i,i<e.length→e.getD i 0∈e:=fun i hi=>by
   rw [List.getD_eq_getElem?_getD,List.getElem?_eq_getElem hi];exact List.getElem_mem hi
  exact ⟨by rw [ej];exact at' j hj,_,at' _ (by omega),r⟩
theorem cb_line {k:Int} {A B:List Sp} (hA:spsB A=true) (hB:spsB B=true):Ln (cbL k A B):=by
 have ends:∀ y,y∈enL (A++B)→-4398046511104≤y∧y≤4398046511104:=by
  intro y hy;obtain ⟨p,hp,h⟩:=enL_mem.1 hy;have q:spB p=true:=(List.mem_append.1 hp).elim (fun h=>List.all_eq_true.1 hA p h) (fun h=>List.all_eq_true.1 hB p h);have:=spB_iff.1 q;omega
 intro q hq;obtain ⟨a,y,hy,b⟩:=(cb_spec k A B).2.2.1 q hq;have:=ends _ a;have:=ends _ hy;omega
def ruFull (l:List Sp):List Sp × Int:=if 2000<l.length then ([],5) else (l,0)
def ruOf (L:List Sp):List Sp × Int:=if spsB L then ruFull (cbL 1 L []) else ([],1)
def ruAp (k:Int) (A B:List Sp):List Sp × Int:=if vaB A&&vaB B then ruFull (cbL k A B) else ([],1)
theorem va_sps {L:List Sp} (h:vaB L=true):spsB L=true:=by
 unfold vaB at h;rw [Bool.and_eq_true,Bool.and_eq_true] at h;exact h.1.2
theorem full_ok {l:List Sp} (h:(ruFull l).2=0):l.length≤2000∧ruFull l=(l,0):=by
 unfold ruFull at h ⊢
 by_cases z:2000<l.length
 ·rw [if_pos z] at h;cases h
 ·rw [if_neg z];exact ⟨by omega,rfl⟩
theorem ap_arg {k:Int} {A B:List Sp} (h:(vaB A&&vaB B)=false):ruAp k A B=([],1):=by unfold ruAp;rw [h];rfl
theorem of_ok {L:List Sp} (h:(ruOf L).2=0):spsB L=true∧vaB (ruOf L).1=true∧∀ x,inB (ruOf L).1 x=inB L x:=by
 unfold ruOf at h ⊢
 cases v:spsB L
 ·rw [v] at h;cases h
 ·rw [v,if_pos rfl] at h;rw [if_pos rfl];obtain ⟨l,e⟩:=full_ok h;obtain ⟨c,m,-,-⟩:=cb_spec 1 L [];rw [e];refine ⟨rfl,vaB_iff.2 ⟨l,cb_line v rfl,c⟩,fun x=>?_⟩
  show inB (cbL 1 L []) x=_
  rw [m];show (inB L x || inB [] x)=_;rw [inB_nil,Bool.or_false]
theorem getD_zero (p:Sp) (L:List Sp):(p :: L).getD 0 (0,0)=p:=rfl
theorem getD_succ (p:Sp) (L:List Sp) (j:Nat):(p :: L).getD (j+1) (0,0)=L.getD j (0,0):=rfl
theorem getD_mem {L:List Sp} {j:Nat} (h:j<L.length):L.getD j (0,0)∈L:=by
 rw [List.getD_eq_getElem?_getD,List.getElem?_eq_getElem h];exact List.getElem_mem h
theorem mem_getD {L:List Sp} {p:Sp} (h:p∈L):∃ j,j<L.length∧L.getD j (0,0)=p:=by
 obtain ⟨j,hj,rfl⟩:=List.getElem_of_mem h;exact ⟨j,hj,by rw [List.getD_eq_getElem?_getD,List.getElem?_eq_getElem hj];rfl⟩
def fdN:List Sp→Int→Nat
  | [],_=>0
  | p :: L,x=>if p.2≤x then fdN L x+1 else 0
theorem fd_le:∀ (L:List Sp) (x:Int),fdN L x≤L.length
  | [],_=>Nat.le_refl _
  | p :: L,x=>by
    have:=fd_le L x;rw [fdN,List.length_cons]
    split <;> omega
theorem fd_iff:∀ {L:List Sp},Cn L→∀ {x:Int} {j:Nat},j<L.length→((L.getD j (0,0)).2≤x↔j<fdN L x)
  | [],_,_,_,h=>absurd h (Nat.not_lt_zero _)
  | p :: L,c,x,0,_=>by
    rw [getD_zero,fdN]
    split
    · exact ⟨fun _=>Nat.succ_pos _,fun _=>by assumption⟩
    · exact ⟨fun h=>by omega,fun h=>absurd h (Nat.lt_irrefl _)⟩
  | p :: L,c,x,j+1,h=>by
    have hj:j<L.length:=by simpa using h
    have ih:=fd_iff c.2.2 (x:=x) hj;rw [getD_succ,fdN];have m:=getD_mem hj;have a:=c.2.1 _ m;have b:=c.2.2.lt _ m
    split
    · rw [ih];omega
    · exact ⟨fun h=>by omega,fun h=>absurd h (Nat.not_lt_zero _)⟩
theorem fd_eq {L:List Sp} (c:Cn L) {x:Int} {i:Nat} (hi:i≤L.length) (a:∀ j,j<i→(L.getD j (0,0)).2≤x) (b:∀ j,i≤j→j<L.length→¬ (L.getD j (0,0)).2≤x):i=fdN L x:=by
 have l:=fd_le L x
 rcases Nat.lt_trichotomy i (fdN L x) with z | z | z
 ·exact absurd ((fd_iff c (x:=x) (by omega)).2 z) (b i (Nat.le_refl _) (by omega))
 ·exact z
 ·exact absurd ((fd_iff c (x:=x) (by omega)).1 (a _ z)) (Nat.lt_irrefl _)
def fdH (L:List Sp) (x:Int):Bool:=decide (fdN L x<L.length)&&decide ((L.getD (fdN L x) (0,0)).1≤x)
theorem fd_in:∀ {L:List Sp},Cn L→∀ x,fdH L x=inB L x
  | [],_,_=>rfl
  | p :: L,c,x=>by
    have ih:=fd_in c.2.2 x;rw [cn_head c,fdH,fdN]
    by_cases z:p.2≤x
    · rw [if_pos z,if_neg (by omega),← ih,fdH,getD_succ,List.length_cons]
      congr 1
      exact decide_eq_decide.2 (by omega)
    · rw [if_neg z,if_pos (by omega),getD_zero,decide_eq_true (by simp),Bool.true_and]
def mgS (R:List Sp) (s:Sp):List Sp :=
 if 0<R.length∧s.1≤(R.getD (R.length - 1) (0,0)).2 then R.dropLast++[((R.getD (R.length - 1) (0,0)).1,if (R.getD (R.length - 1) (0,0)).2<s.2 then s.2 else (R.getD (R.length - 1) (0,0)).2)] else R++[s]
theorem last_snoc (R:List Sp) (q:Sp):(R++[q]).getD ((R++[q]).length - 1) (0,0)=q:=by
 rw [List.getD_eq_getElem?_getD];simp
theorem mg_nil (s:Sp):mgS [] s=[s]:=rfl
theorem mg_snoc (R:List Sp) (q s:Sp):mgS (R++[q]) s=if s.1≤q.2 then R++[(q.1,if q.2<s.2 then s.2 else q.2)] else R++[q]++[s]:=by
 unfold mgS
 rw [last_snoc];have h:0<(R++[q]).length:=by simp
 by_cases z:s.1≤q.2
 ·rw [if_pos ⟨h,z⟩,if_pos z,List.dropLast_concat]
 ·rw [if_neg (fun y=>z y.2),if_neg z]
theorem inB_one (s:Sp) (x:Int):inB [s] x=(decide (s.1≤x)&&decide (x<s.2)):=by simp [inB]
theorem mg_ok {R:List Sp} {s:Sp} (c:Cn R) (b:∀ q,q∈R→q.1≤s.1) (h:s.1<s.2) :
    Cn (mgS R s)∧(∀ x,inB (mgS R s) x=(inB R x || (decide (s.1≤x)&&decide (x<s.2))))∧∀ q,q∈mgS R s→q.1≤s.1:=by
  rcases snoc_cases R with rfl | ⟨R,q,rfl⟩
  · rw [mg_nil];exact ⟨⟨h,fun q hq=>(by cases hq),trivial⟩,fun x=>by rw [inB_one];rfl,fun q hq=>by rw [List.mem_singleton.1 hq];exact Int.le_refl _⟩
  · obtain ⟨c1,c2,c3⟩:=cn_last c;have bq:=b q (by simp);rw [mg_snoc]
    by_cases z:s.1≤q.2
    · rw [if_pos z];refine ⟨cn_snoc c1 c2 (by show q.1<ite _ _ _;split <;> omega),fun x=>?_,fun r hr=>?_⟩
      · rw [inB_app,inB_app,inB_one,inB_one,Bool.or_assoc]
        congr 1
        rw [Bool.eq_iff_iff]
        simp only [Bool.and_eq_true,Bool.or_eq_true,decide_eq_true_iff]
        split <;> omega
      · rcases List.mem_append.1 hr with hr | hr
        · exact b r (List.mem_append_left _ hr)
        · rw [List.mem_singleton.1 hr];exact bq
    · rw [if_neg z];refine ⟨cn_snoc c (fun r hr=>?_) h,fun x=>by rw [inB_app,inB_one],fun r hr=>?_⟩
      · rcases List.mem_append.1 hr with hr | hr
        · have:=c2 r hr;omega
        · rw [List.mem_singleton.1 hr];omega
      · rcases List.mem_append.1 hr with hr | hr
        · exact b r hr
        · rw [List.mem_singleton.1 hr];exact Int.le_refl _
def mgK (L:List Sp):Nat→List Sp
  | 0=>[]
  | k+1=>mgS (mgK L k) (L.getD k (0,0))
theorem mgK_inv {L:List Sp} (s:∀ i j,i<j→j<L.length→(L.getD i (0,0)).1≤(L.getD j (0,0)).1) (v:∀ p,p∈L→p.1<p.2):∀ k,k≤L.length →
    Cn (mgK L k)∧(∀ x,inB (mgK L k) x=true↔∃ j,j<k∧(L.getD j (0,0)).1≤x∧x<(L.getD j (0,0)).2)∧∀ q,q∈mgK L k→∃ j,j<k∧q.1≤(L.getD j (0,0)).1
  | 0,_=>⟨trivial,fun x=>⟨fun h=>(by cases h),fun ⟨j,hj,_⟩=>absurd hj (Nat.not_lt_zero _)⟩,fun q hq=>(by cases hq)⟩
  | k+1,hk=>by
    obtain ⟨c,e,b⟩:=mgK_inv s v k (by omega);have b':∀ q,q∈mgK L k→q.1≤(L.getD k (0,0)).1:=fun q hq=>by
      obtain ⟨j,hj,a⟩:=b q hq;have:=s j k hj (by omega);omega
    obtain ⟨c',e',b''⟩:=mg_ok c b' (v _ (getD_mem (by omega:k<L.length)));rw [mgK];refine ⟨c',fun x=>?_,fun q hq=>⟨k,Nat.lt_succ_self _,b'' q hq⟩⟩;rw [e' x,Bool.or_eq_true,e x,Bool.and_eq_true,decide_eq_true_iff,decide_eq_true_iff]
    constructor
    · rintro (⟨j,hj,a⟩ | a)
      · exact ⟨j,by omega,a⟩
      · exact ⟨k,by omega,a⟩
    · rintro ⟨j,hj,a⟩
      rcases Nat.lt_or_ge j k with y | y
      · exact .inl ⟨j,y,a⟩
      · obtain rfl:j=k:=by omega
        exact .inr a
theorem mg_of {L L':List Sp} (m:∀ p,p∈L'↔p∈L) (v:∀ p,p∈L→p.1<p.2) (s:∀ i j,i<j→j<L'.length→(L'.getD i (0,0)).1≤(L'.getD j (0,0)).1):mgK L' L'.length=cbL 1 L []:=by
 obtain ⟨c,e,-⟩:=mgK_inv s (fun p hp=>v p ((m p).1 hp)) L'.length (Nat.le_refl _);obtain ⟨c2,e2,-⟩:=cb_spec 1 L [];refine cn_ext c c2 fun x=>?_;have k1:∀ a,kpB 1 a false=a:=fun a=>by cases a <;> rfl
 rw [e2,inB_nil,k1,Bool.eq_iff_iff,e,inB_iff]
 constructor
 ·rintro ⟨j,hj,a⟩;exact ⟨_,(m _).1 (getD_mem hj),a⟩
 ·rintro ⟨p,hp,a⟩;obtain ⟨j,hj,rfl⟩:=mem_getD ((m p).2 hp);exact ⟨j,hj,a⟩
def edL (A:List Sp) (i:Nat):Int:=if 2 * A.length≤i then 4398046511105 else if i % 2=0 then (A.getD (i / 2) (0,0)).1 else (A.getD (i / 2) (0,0)).2
theorem ed_off {A:List Sp} {i:Nat} (h:2 * A.length≤i):edL A i=4398046511105:=by rw [edL,if_pos h]
theorem ed_even {A:List Sp} {m:Nat} (h:m<A.length):edL A (2 * m)=(A.getD m (0,0)).1:=by
 rw [edL,if_neg (by omega),if_pos (by omega),show 2 * m / 2=m by omega]
theorem ed_odd {A:List Sp} {m:Nat} (h:m<A.length):edL A (2 * m+1)=(A.getD m (0,0)).2:=by
 rw [edL,if_neg (by omega),if_neg (by omega),show (2 * m+1) / 2=m by omega]
theorem ed_lt {A:List Sp} (c:Cn A) (l:Ln A) {i:Nat} (h:i<2 * A.length):edL A i<edL A (i+1):=by
 obtain ⟨m,z⟩:∃ m,i=2 * m∨i=2 * m+1:=⟨i / 2,by omega⟩
 rcases z with rfl | rfl
 ·rw [ed_even (by omega),ed_odd (by omega)];exact c.lt _ (getD_mem (by omega))
 ·rw [ed_odd (by omega)]
  by_cases y:m+1<A.length
  ·rw [show 2 * m+1+1=2 * (m+1) by omega,ed_even y];exact gpB_at.1 (gp_of_cn c) m y
  ·rw [ed_off (by omega)];have:=l _ (getD_mem (by omega:m<A.length));omega
theorem ed_mono {A:List Sp} (c:Cn A) (l:Ln A) {i:Nat}:∀ d,i+d+1≤2 * A.length→edL A i<edL A (i+d+1)
  | 0,h=>ed_lt c l (by omega)
  | d+1,h=>by
    have a:=ed_mono c l (i:=i) d (by omega);have b:=ed_lt c l (i:=i+d+1) (by omega);rw [show i+(d+1)+1=i+d+1+1 by omega];omega
theorem ed_less {A:List Sp} (c:Cn A) (l:Ln A) {i j:Nat} (h:i<j) (hj:j≤2 * A.length):edL A i<edL A j:=by
 have:=ed_mono c l (i:=i) (j - i - 1) (by omega);rwa [show i+(j - i - 1)+1=j by omega] at this
theorem ed_top {A:List Sp} (c:Cn A) (l:Ln A) {i:Nat} (h:i<2 * A.length):edL A i<4398046511105:=by
 have:=ed_less c l h (Nat.le_refl _);rwa [ed_off (Nat.le_refl _)] at this
theorem ed_in {A:List Sp} (c:Cn A) (l:Ln A) {i:Nat} (hi:i≤2 * A.length) {y:Int} (a:∀ m,m<i→edL A m≤y) (b:y<edL A i):inB A y=decide (i % 2=1):=by
 rw [Bool.eq_iff_iff,inB_iff,decide_eq_true_iff]
 constructor
 ·rintro ⟨p,hp,p0,p1⟩;obtain ⟨j,hj,rfl⟩:=mem_getD hp;rw [← ed_even hj] at p0;rw [← ed_odd hj] at p1
  rcases Nat.lt_or_ge (2 * j+1) i with y' | y'
  ·have:=a _ y';omega
  rcases Nat.lt_or_ge i (2 * j+1) with z | z
  ·rcases Nat.lt_or_ge i (2 * j) with t | t
   ·have:=ed_less c l t (by omega);omega
   ·obtain rfl:i=2 * j:=by omega
    omega
  ·omega
 ·intro o;obtain ⟨m,rfl⟩:∃ m,i=2 * m+1:=⟨i / 2,by omega⟩;have hm:m<A.length:=by omega
  refine ⟨A.getD m (0,0),getD_mem hm,?_,?_⟩
  ·rw [← ed_even hm];exact a _ (by omega)
  ·rw [← ed_odd hm];exact b
structure SwI (k:Int) (A B:List Sp) (i j:Nat) (fr:Int) (kp:Bool) (R:List Sp) (N:Int):Prop where
 i1:i≤2 * A.length
 j1:j≤2 * B.length
 kv:kp=kpB k (decide (i % 2=1)) (decide (j % 2=1))
 n1:N=if edL B j<edL A i then edL B j else edL A i
 a1:∀ m,m<i→edL A m<N
 b1:∀ m,m<j→edL B m<N
 cn:Cn R
 op:kp=true→fr<N∧∀ q,q∈R→q.2<fr
 cl:∀ q,q∈R→q.2<N
 sp:∀ y,y<N→(inB R y || (kp&&decide (fr≤y)))=kpB k (inB A y) (inB B y)
 ln:R.length≤i+j
theorem sw_start {k:Int} {A B:List Sp} (hA:Cn A) (lA:Ln A) (hB:Cn B) (lB:Ln B):SwI k A B 0 0 0 false [] (if edL B 0<edL A 0 then edL B 0 else edL A 0):=by
 refine ⟨Nat.zero_le _,Nat.zero_le _,by rw [show decide (0 % 2=1)=false from rfl,kp_no],rfl,fun m h=>absurd h (Nat.not_lt_zero _),fun m h=>absurd h (Nat.not_lt_zero _),trivial,fun h=>(by cases h),fun q h=>(by cases h),fun y hy=>?_,Nat.le_refl _⟩;have a:inB A y=false:=by
  rw [ed_in hA lA (Nat.zero_le _) (fun m h=>absurd h (Nat.not_lt_zero _)) (by split at hy <;> omega)];rfl
 have b:inB B y=false:=by
  rw [ed_in hB lB (Nat.zero_le _) (fun m h=>absurd h (Nat.not_lt_zero _)) (by split at hy <;> omega)];rfl
 rw [a,b,kp_no];rfl
theorem in_high {R:List Sp} {y:Int} (h:∀ q,q∈R→q.2≤y):inB R y=false:=by
 rw [← Bool.not_eq_true,inB_iff];rintro ⟨p,hp,-,a⟩;have:=h p hp;omega
theorem sw_step {k:Int} {A B:List Sp} (hA:Cn A) (lA:Ln A) (hB:Cn B) (lB:Ln B) {i j:Nat} {fr:Int} {kp:Bool} {R:List Sp} {N:Int} (S:SwI k A B i j fr kp R N) (h:i<2 * A.length∨j<2 * B.length)
    {i' j':Nat} (hi:i'=if edL A i=N then i+1 else i) (hj:j'=if edL B j=N then j+1 else j) {kp':Bool} (hk:kp'=kpB k (decide (i' % 2=1)) (decide (j' % 2=1))) :
    SwI k A B i' j' (if kp'&&!kp then N else fr) kp' (if kp&&!kp' then R++[(fr,N)] else R) (if edL B j'<edL A i' then edL B j' else edL A i')∧i+j<i'+j':=by
  obtain ⟨i1,j1,kv,n1,a1,b1,cn,op,cl,sp,ln⟩:=S;have top:N<4398046511105:=by
    rw [n1]
    rcases h with h | h
    · have:=ed_top hA lA h;split <;> omega
    · have:=ed_top hB lB h;split <;> omega
  have ga:N≤edL A i:=by rw [n1];split <;> omega
  have gb:N≤edL B j:=by rw [n1];split <;> omega
  have ea:edL A i=N→i<2 * A.length:=fun e=>by
    rcases Nat.lt_or_ge i (2 * A.length) with z | z
    · exact z
    · rw [ed_off z] at e;omega
  have eb:edL B j=N→j<2 * B.length:=fun e=>by
    rcases Nat.lt_or_ge j (2 * B.length) with z | z
    · exact z
    · rw [ed_off z] at e;omega
  have i1':i'≤2 * A.length:=by
    rw [hi];split
    · have:=ea (by assumption);omega
    · exact i1
  have j1':j'≤2 * B.length:=by
    rw [hj];split
    · have:=eb (by assumption);omega
    · exact j1
  have a2:∀ m,m<i'→edL A m≤N:=fun m hm=>by
    rcases Nat.lt_or_ge m i with z | z
    · have:=a1 m z;omega
    · rw [hi] at hm
      split at hm
      · obtain rfl:m=i:=by omega
        omega
      · omega
  have b2:∀ m,m<j'→edL B m≤N:=fun m hm=>by
    rcases Nat.lt_or_ge m j with z | z
    · have:=b1 m z;omega
    · rw [hj] at hm
      split at hm
      · obtain rfl:m=j:=by omega
        omega
      · omega
  have a3:N<edL A i':=by
    rw [hi];split
    · have:=ed_lt hA lA (ea (by assumption));omega
    · omega
  have b3:N<edL B j':=by
    rw [hj];split
    · have:=ed_lt hB lB (eb (by assumption));omega
    · omega
  have more:i+j<i'+j':=by
    have:edL A i=N∨edL B j=N:=by
      rw [n1];split
      · exact .inr rfl
      · exact .inl rfl
    rw [hi,hj]
    rcases this with e | e
    · rw [if_pos e];split <;> omega
    · rw [if_pos e];split <;> omega
  obtain ⟨M,hM⟩:∃ M,(if edL B j'<edL A i' then edL B j' else edL A i')=M:=⟨_,rfl⟩;have nm:N<M:=by rw [← hM];split <;> omega
  have ma:M≤edL A i':=by rw [← hM];split <;> omega
  have mb:M≤edL B j':=by rw [← hM];split <;> omega
  have mid:∀ y,N≤y→y<M→kpB k (inB A y) (inB B y)=kp':=fun y y0 y1=>by
    rw [ed_in hA lA i1' (fun m hm=>by have:=a2 m hm;omega) (by omega),ed_in hB lB j1' (fun m hm=>by have:=b2 m hm;omega) (by omega),hk]
  rw [hM];have R0:∀ y,N≤y→inB R y=false:=fun y hy=>in_high (fun q hq=>by have:=cl q hq;omega);refine ⟨⟨i1',j1',hk,hM.symm,fun m hm=>by have:=a2 m hm;omega,fun m hm=>by have:=b2 m hm;omega,?_,?_,?_,?_,?_⟩,more⟩
  · cases kp <;> cases kp' <;> simp only [Bool.and_false,Bool.and_true,Bool.not_true,Bool.not_false,Bool.false_eq_true,if_false,if_true]
    · exact cn
    · exact cn
    · obtain ⟨f1,f2⟩:=op rfl;exact cn_snoc cn f2 f1
    · exact cn
  · intro e;subst e
    cases kp <;> simp only [Bool.and_false,Bool.and_true,Bool.not_true,Bool.not_false,Bool.false_eq_true,if_false,if_true]
    · exact ⟨nm,cl⟩
    · obtain ⟨f1,f2⟩:=op rfl;exact ⟨by omega,f2⟩
  · intro q hq
    cases kp <;> cases kp' <;> simp only [Bool.and_false,Bool.and_true,Bool.not_true,Bool.not_false,Bool.false_eq_true,if_false,if_true] at hq
    · have:=cl q hq;omega
    · have:=cl q hq;omega
    · rcases List.mem_append.1 hq with hq | hq
      · have:=cl q hq;omega
      · rw [List.mem_singleton.1 hq];exact nm
    · have:=cl q hq;omega
  · intro y hy
    rcases Int.lt_or_le y N with z | z
    · rw [← sp y z]
      cases kp <;> cases kp' <;> simp only [Bool.and_false,Bool.and_true,Bool.not_true,Bool.not_false,Bool.false_eq_true,if_false,if_true,Bool.false_and,Bool.true_and,Bool.or_false]
      · rw [decide_eq_false (by omega),Bool.or_false]
      · rw [inB_app,inB_one,decide_eq_true z,Bool.and_true]
    · rw [mid y z hy]
      cases kp <;> cases kp' <;> simp only [Bool.and_false,Bool.and_true,Bool.not_true,Bool.not_false,Bool.false_eq_true,if_false,if_true,Bool.false_and,Bool.true_and,Bool.or_false]
      · exact R0 y z
      · rw [decide_eq_true z,Bool.or_true]
      · rw [inB_app,inB_one,R0 y z,decide_eq_false (by omega:¬ y<N),Bool.and_false];rfl
      · obtain ⟨f1,f2⟩:=op rfl;rw [decide_eq_true (by omega:fr≤y),Bool.or_true]
  · split
    · rw [List.length_append,List.length_singleton];omega
    · omega
theorem sw_end {k:Int} {A B:List Sp} (lA:Ln A) (lB:Ln B) {i j:Nat} {fr:Int} {kp:Bool} {R:List Sp} {N:Int} (S:SwI k A B i j fr kp R N) (hi:2 * A.length≤i) (hj:2 * B.length≤j):R=cbL k A B:=by
 obtain ⟨i1,j1,kv,n1,a1,b1,cn,op,cl,sp,ln⟩:=S;obtain ⟨c2,e2,-⟩:=cb_spec k A B;have hN:N=4398046511105:=by rw [n1,ed_off hi,ed_off hj];rfl
 have hk:kp=false:=by
  rw [kv,decide_eq_false (by omega),decide_eq_false (by omega),kp_no]
 refine cn_ext cn c2 fun x=>?_;rw [e2]
 rcases Int.lt_or_le x N with z | z
 ·rw [← sp x z,hk];simp
 ·rw [in_high (fun q hq=>by have:=cl q hq;omega),in_high (fun q hq=>by have:=lA q hq;omega),in_high (fun q hq=>by have:=lB q hq;omega),kp_no]
def hsP (P:Int) (L:List Sp) (x:Int):Bool:=inB L (x % P)
def InP (P:Int) (L:List Sp):Prop:=∀ q,q∈L→0≤q.1∧q.2≤P
theorem in_out {P:Int} {L:List Sp} (h:InP P L) {x:Int} (i:inB L x=true):0≤x∧x<P:=by
 obtain ⟨p,hp,a,b⟩:=inB_iff.1 i;have:=h p hp;omega
theorem hs_in {P:Int} {L:List Sp} {x:Int} (h0:0≤x) (h1:x<P):hsP P L x=inB L x:=by
 unfold hsP;rw [Int.emod_eq_of_lt h0 h1]
def Per (f:Int→Bool) (q:Int):Prop:=∀ x,f (x+q)=f x
theorem Per.zero (f:Int→Bool):Per f 0:=fun x=>by rw [Int.add_zero]
theorem Per.neg {f:Int→Bool} {q:Int} (h:Per f q):Per f (-q):=fun x=>by
 have:=h (x+-q);rw [show x+-q+q=x by omega] at this;exact this.symm
theorem Per.add {f:Int→Bool} {q r:Int} (h:Per f q) (k:Per f r):Per f (q+r):=fun x=>by
 rw [← Int.add_assoc,k,h]
theorem Per.mulNat {f:Int→Bool} {q:Int} (h:Per f q):∀ n:Nat,Per f (q * n)
  | 0=>by simpa using Per.zero f
  | n+1=>by
    have:=(Per.mulNat h n).add h;rwa [show q * ((n+1:Nat):Int)=q * n+q by rw [Int.natCast_succ,Int.mul_add,Int.mul_one]]
theorem Per.mul {f:Int→Bool} {q:Int} (h:Per f q) (n:Int):Per f (q * n):=by
 rcases Int.le_total 0 n with z | z
 ·obtain ⟨m,rfl⟩:=Int.eq_ofNat_of_zero_le z;exact h.mulNat m
 ·obtain ⟨m,e⟩:=Int.eq_ofNat_of_zero_le (show 0≤-n by omega);have:=(h.mulNat m).neg;rwa [show q * n=-(q * (m:Int)) by rw [← e,Int.mul_neg,Int.neg_neg]]
theorem Per.mod {f:Int→Bool} {q:Int} (h:Per f q) (x:Int):f (x % q)=f x:=by
 have:=(h.mul (x / q)) (x % q);rw [show x % q+q * (x / q)=x by have:=Int.emod_add_mul_ediv x q;omega] at this;exact this.symm
theorem Per.emod {f:Int→Bool} {q r:Int} (h:Per f q) (k:Per f r):Per f (q % r):=by
 have:=h.add ((k.mul (q / r)).neg);rwa [show q+-(r * (q / r))=q % r by have:=Int.emod_add_mul_ediv q r;omega] at this
theorem per_gcd {f:Int→Bool}:∀ (n:Nat) {a b:Int},0≤a→0≤b→b.toNat≤n→Per f a→Per f b→∃ g,0≤g∧g ∣ a∧g ∣ b∧Per f g
  | 0,a,b,a0,b0,h,ha,hb=>by
    obtain rfl:b=0:=by omega
    exact ⟨a,a0,Int.dvd_refl a,Int.dvd_zero a,ha⟩
  | n+1,a,b,a0,b0,h,ha,hb=>by
    by_cases z:b=0
    · subst z;exact ⟨a,a0,Int.dvd_refl a,Int.dvd_zero a,ha⟩
    · have m0:=Int.emod_nonneg a z;have m1:=Int.emod_lt_of_pos a (show 0<b by omega);obtain ⟨g,g0,g1,g2,g3⟩:=per_gcd n (a:=b) (b:=a % b) b0 m0 (by omega) hb (ha.emod hb);refine ⟨g,g0,?_,g1,g3⟩;have e:a % b+b * (a / b)=a:=Int.emod_add_mul_ediv a b;rw [← e];exact Int.dvd_add g2 (Int.dvd_trans g1 (Int.dvd_mul_right b _))
structure Lst (f:Int→Bool) (P d:Int):Prop where
 pos:0<d
 dvd:d ∣ P
 per:Per f d
 least:∀ e,0<e→e ∣ P→Per f e→d≤e
theorem Lst.dvd_of {f:Int→Bool} {P d e:Int} (h:Lst f P d) (e0:0<e) (he:Per f e):d ∣ e:=by
 obtain ⟨g,g0,g1,g2,g3⟩:=per_gcd (f:=f) (e.toNat) (a:=d) (b:=e) (Int.le_of_lt h.pos) (Int.le_of_lt e0) (Nat.le_refl _) h.per he;have gp:0<g:=by
  rcases Int.lt_or_eq_of_le g0 with z | z
  ·exact z
  ·subst z;have:=Int.zero_dvd.1 g1;have:=h.pos;omega
 have a:=h.least g gp (Int.dvd_trans g1 h.dvd) g3;have b:=Int.le_of_dvd h.pos g1;obtain rfl:g=d:=by omega
 exact g2
theorem Lst.unique {f:Int→Bool} {P Q d e:Int} (h:Lst f P d) (k:Lst f Q e):d=e:=by
 have a:=Int.le_of_dvd k.pos (h.dvd_of k.pos k.per);have b:=Int.le_of_dvd h.pos (k.dvd_of h.pos h.per);omega
theorem hs_per {P:Int} {L:List Sp}:Per (hsP P L) P:=fun x=>by
 unfold hsP;rw [Int.add_emod_right]
def caN (f:Int→Bool) (a:Int):Nat→List Sp
  | 0=>[]
  | n+1=>if f (a+n) then addL (caN f a n) (a+n,a+n+1) else caN f a n
def caL (f:Int→Bool) (a b:Int):List Sp:=caN f a (b - a).toNat
theorem caN_ok (f:Int→Bool) (a:Int):∀ n:Nat,Cn (caN f a n)∧(∀ x,inB (caN f a n) x=(decide (a≤x)&&decide (x<a+n)&&f x))∧∀ q,q∈caN f a n→q.2≤a+n
  | 0=>⟨trivial,fun x=>by
      show false=_
      by_cases z:a≤x
      · rw [decide_eq_false (show ¬ x<a+((0:Nat):Int) by omega),Bool.and_false,Bool.false_and]
      · rw [decide_eq_false z,Bool.false_and,Bool.false_and],fun q hq=>by cases hq⟩
  | n+1=>by
    obtain ⟨c,m,b⟩:=caN_ok f a n;rw [caN]
    by_cases z:f (a+n)=true
    · rw [if_pos z];obtain ⟨c',m',-,b'⟩:=add_ok (s:=(a+n,a+n+1)) c (fun q hq=>b q hq) (by show a+(n:Int)<a+n+1;omega);refine ⟨c',fun x=>?_,fun q hq=>by have:=b' q hq;show q.2≤_;have e:((a+n,a+n+1):Sp).2=a+n+1:=rfl;omega⟩;rw [m',m]
      show (_ || (decide (a+n≤x)&&decide (x<a+n+1)))=_
      by_cases y:x=a+n
      · subst y;rw [z,decide_eq_true (Int.le_refl _),decide_eq_true (show a+(n:Int)<a+n+1 by omega),decide_eq_true (show a≤a+(n:Int) by omega),decide_eq_true (show a+(n:Int)<a+((n+1:Nat):Int) by omega)]
        simp
      · have e1:(decide (a+n≤x)&&decide (x<a+n+1))=false:=by
          rw [← Bool.not_eq_true,Bool.and_eq_true,decide_eq_true_iff,decide_eq_true_iff];omega
        rw [e1,Bool.or_false,decide_eq_decide.2 (show x<a+(n:Int)↔x<a+((n+1:Nat):Int) by omega)]
    · rw [if_neg z];refine ⟨c,fun x=>?_,fun q hq=>by have:=b q hq;omega⟩;rw [m]
      by_cases y:x=a+n
      · subst y;rw [show f (a+n)=false by simpa using z,Bool.and_false,Bool.and_false]
      · rw [decide_eq_decide.2 (show x<a+(n:Int)↔x<a+((n+1:Nat):Int) by omega)]
theorem ca_cn (f:Int→Bool) (a b:Int):Cn (caL f a b):=(caN_ok f a _).1
theorem ca_in (f:Int→Bool) (a b x:Int):inB (caL f a b) x=(decide (a≤x)&&decide (x<b)&&f x):=by
 unfold caL
 rw [(caN_ok f a _).2.1]
 by_cases z:a≤x
 ·rw [decide_eq_decide.2 (show x<a+((b - a).toNat:Int)↔x<b by omega)]
 ·rw [decide_eq_false z,Bool.false_and,Bool.false_and,Bool.false_and,Bool.false_and]
theorem ca_ends (f:Int→Bool) (a b:Int):∀ q,q∈caL f a b→a≤q.1∧q.2≤b:=fun q hq=>by
 have lt:=(ca_cn f a b).lt q hq;have h0:inB (caL f a b) q.1=true:=inB_iff.2 ⟨q,hq,Int.le_refl _,lt⟩;have h1:inB (caL f a b) (q.2 - 1)=true:=inB_iff.2 ⟨q,hq,by omega,by omega⟩;rw [ca_in,Bool.and_eq_true,Bool.and_eq_true,decide_eq_true_iff,decide_eq_true_iff] at h0 h1;omega
theorem ca_eq {f:Int→Bool} {a b:Int} {L:List Sp} (c:Cn L) (h:∀ x,inB L x=(decide (a≤x)&&decide (x<b)&&f x)):L=caL f a b :=
 cn_ext c (ca_cn f a b) fun x=>by rw [h,ca_in]
theorem ca_congr {f g:Int→Bool} {a b:Int} (h:∀ x,a≤x→x<b→f x=g x):caL f a b=caL g a b :=
 ca_eq (ca_cn f a b) fun x=>by
  rw [ca_in]
  by_cases z:a≤x∧x<b
  ·rw [h x z.1 z.2]
  ·by_cases y:a≤x
   ·rw [decide_eq_false (show ¬ x<b by omega),Bool.and_false,Bool.false_and,Bool.false_and]
   ·rw [decide_eq_false y];rfl
theorem ca_inp (f:Int→Bool) (d:Int):InP d (caL f 0 d):=ca_ends f 0 d
theorem ca_hs {f:Int→Bool} {d:Int} (d0:0<d) (per:Per f d) (x:Int):hsP d (caL f 0 d) x=f x:=by
 have m0:=Int.emod_nonneg x (show d≠0 by omega);have m1:=Int.emod_lt_of_pos x d0
 show inB _ (x % d)=_
 rw [ca_in,decide_eq_true m0,decide_eq_true m1,Bool.true_and,Bool.true_and];exact per.mod x
theorem ca_self {P:Int} {L:List Sp} (c:Cn L) (i:InP P L):L=caL (hsP P L) 0 P :=
 ca_eq c fun x=>by
  by_cases z:0≤x∧x<P
  ·rw [hs_in z.1 z.2,decide_eq_true z.1,decide_eq_true z.2];rfl
  ·have e:inB L x=false:=by rw [← Bool.not_eq_true];intro q;exact z (in_out i q)
   rw [e]
   by_cases y:0≤x
   ·rw [decide_eq_false (show ¬ x<P by omega),Bool.and_false,Bool.false_and]
   ·rw [decide_eq_false y];rfl
theorem lst_ex {f:Int→Bool} {m:Int} (m0:0<m) (per:Per f m):∃ d,Lst f m d:=by
  have go:∀ n:Nat,(∃ e:Int,0<e∧e≤n∧e ∣ m∧Per f e)→∃ d,Lst f m d:=by
    intro n
    induction n with
    | zero=>rintro ⟨e,a,b,-⟩;omega
    | succ n ih =>
      rintro ⟨e,a,b,c,d⟩
      by_cases z:∃ e:Int,0<e∧e≤n∧e ∣ m∧Per f e
      · exact ih z
      · refine ⟨e,a,c,d,fun e' a' c' d'=>?_⟩
        rcases Int.lt_or_le e' e with y | y
        · exact absurd ⟨e',a',by omega,c',d'⟩ z
        · exact y
  exact go m.toNat ⟨m,m0,by omega,Int.dvd_refl m,per⟩
open Classical in
noncomputable def leF (m:Int) (f:Int→Bool):Int:=if h:∃ d,Lst f m d then h.choose else m
theorem le_lst {f:Int→Bool} {m:Int} (m0:0<m) (per:Per f m):Lst f m (leF m f):=by
 have h:=lst_ex m0 per
 unfold leF
 rw [dif_pos h];exact h.choose_spec
theorem le_eq {f:Int→Bool} {m d:Int} (h:Lst f m d):leF m f=d:=by
 have e:∃ d,Lst f m d:=⟨d,h⟩
 unfold leF
 rw [dif_pos e];exact e.choose_spec.unique h
noncomputable def fmP (m:Int) (f:Int→Bool):Int × List Sp:=(leF m f,caL f 0 (leF m f))
theorem fm_hs {f:Int→Bool} {m:Int} (m0:0<m) (per:Per f m) (x:Int):hsP (fmP m f).1 (fmP m f).2 x=f x :=
 ca_hs (le_lst m0 per).pos (le_lst m0 per).per x
theorem fm_any {f:Int→Bool} {m n:Int} (m0:0<m) (n0:0<n) (pm:Per f m) (pn:Per f n):fmP m f=fmP n f:=by
 have e:leF m f=leF n f:=(le_lst m0 pm).unique (le_lst n0 pn)
 unfold fmP;rw [e]
theorem fm_self {P:Int} {L:List Sp} (c:Cn L) (i:InP P L) (h:Lst (hsP P L) P P):fmP P (hsP P L)=(P,L):=by
 unfold fmP;rw [le_eq h,← ca_self c i]
theorem fm_lst {f:Int→Bool} {m:Int} (m0:0<m) (per:Per f m):Lst (hsP (fmP m f).1 (fmP m f).2) (fmP m f).1 (fmP m f).1:=by
 have e:hsP (fmP m f).1 (fmP m f).2=f:=funext (fm_hs m0 per);have l:=le_lst m0 per;rw [e];exact ⟨l.pos,Int.dvd_refl _,l.per,fun d d0 dd dp=>l.least d d0 (Int.dvd_trans dd l.dvd) dp⟩
theorem cb_ca {P:Int} {A B:List Sp} (P0:0<P) (a:InP P A) (b:InP P B) (k:Int):cbL k A B=caL (fun x=>kpB k (hsP P A x) (hsP P B x)) 0 P:=by
 obtain ⟨cc,cm,-⟩:=cb_spec k A B;refine ca_eq cc fun x=>?_;rw [cm]
 by_cases y:0≤x∧x<P
 ·rw [decide_eq_true y.1,decide_eq_true y.2,hs_in y.1 y.2,hs_in y.1 y.2];rfl
 ·have o:∀ {L:List Sp},InP P L→inB L x=false:=fun {L} i=>by rw [← Bool.not_eq_true];intro q;exact y (in_out i q)
  rw [o a,o b,kp_no]
  by_cases t:0≤x
  ·rw [decide_eq_false (show ¬ x<P by omega),Bool.and_false,Bool.false_and]
  ·rw [decide_eq_false t];rfl
structure Blt (f:Int→Bool) (a e:Int) (R:List Sp):Prop where
 cn:Cn R
 mem:∀ x,inB R x=(decide (a≤x)&&decide (x<e)&&f x)
 low:∀ q,q∈R→q.2≤e
theorem Blt.eq {f:Int→Bool} {a e:Int} {R:List Sp} (h:Blt f a e R):R=caL f a e:=ca_eq h.cn h.mem
theorem Blt.skip {f:Int→Bool} {a e e':Int} {R:List Sp} (h:Blt f a e R) (le:e≤e') (no:∀ x,a≤x→e≤x→x<e'→f x=false):Blt f a e' R :=
 ⟨h.cn,fun x=>by
  rw [h.mem]
  by_cases y:a≤x
  ·by_cases z:x<e
   ·rw [decide_eq_true z,decide_eq_true (show x<e' by omega)]
   ·rw [decide_eq_false z,Bool.and_false,Bool.false_and]
    by_cases t:x<e'
    ·rw [no x y (by omega) t,Bool.and_false]
    ·rw [decide_eq_false t,Bool.and_false,Bool.false_and]
  ·rw [decide_eq_false y];rfl,fun q hq=>by have:=h.low q hq;omega⟩
theorem Blt.add {f:Int→Bool} {a e:Int} {R:List Sp} (h:Blt f a e R) (s:Sp) (ae:a≤e) (l:e≤s.1) (lt:s.1<s.2) (no:∀ x,e≤x→x<s.1→f x=false) (yes:∀ x,s.1≤x→x<s.2→f x=true):Blt f a s.2 (addL R s):=by
 have h1:=h.skip l (fun x _ x0 x1=>no x x0 x1);obtain ⟨c,m,-,b⟩:=add_ok (s:=s) h1.cn (fun q hq=>h1.low q hq) lt;refine ⟨c,fun x=>?_,b⟩;rw [m,h1.mem]
 by_cases y:s.1≤x
 ·rw [decide_eq_true y,decide_eq_false (show ¬ x<s.1 by omega),Bool.and_false,Bool.false_and,Bool.false_or,Bool.true_and,decide_eq_true (show a≤x by omega),Bool.true_and]
  by_cases z:x<s.2
  ·rw [decide_eq_true z,yes x y z];rfl
  ·rw [decide_eq_false z];rfl
 ·rw [decide_eq_false y,Bool.false_and,Bool.or_false,decide_eq_true (show x<s.1 by omega),decide_eq_true (show x<s.2 by omega)]
theorem gD {L:List Sp} {k:Nat} (h:k<L.length):L.getD k (0,0)=L[k]:=by rw [List.getD_eq_getElem?_getD,List.getElem?_eq_getElem h];rfl
theorem cn_app:∀ {A B:List Sp},Cn A→Cn B→(∀ p,p∈A→∀ q,q∈B→p.2<q.1)→Cn (A++B)
  | [],_,_,b,_=>b
  | p :: A,B,a,b,h=>by
    refine ⟨a.1,fun q hq=>?_,cn_app a.2.2 b fun r hr=>h r (List.mem_cons_of_mem _ hr)⟩
    rcases List.mem_append.1 hq with z | z
    · exact a.2.1 q z
    · exact h p (List.mem_cons_self ..) q z
theorem cn_take:∀ {A:List Sp} (n:Nat),Cn A→Cn (A.take n)
  | [],n,_=>by rw [List.take_nil];trivial
  | _ :: _,0,_=>trivial
  | p :: A,n+1,a=>⟨a.1,fun q hq=>a.2.1 q (List.mem_of_mem_take hq),cn_take n a.2.2⟩
theorem cn_drop:∀ {A:List Sp} (n:Nat),Cn A→Cn (A.drop n)
  | [],n,_=>by rw [List.drop_nil];trivial
  | _ :: _,0,a=>a
  | _ :: _,n+1,a=>cn_drop n a.2.2
theorem cn_gt:∀ {L:List Sp} {j k:Nat},Cn L→j<k→k<L.length→(L.getD j (0,0)).2<(L.getD k (0,0)).1
  | [],j,k,_,_,h=>absurd h (Nat.not_lt_zero _)
  | p :: L,0,k+1,c,_,h=>c.2.1 _ (getD_mem (L:=L) (by simpa using h))
  | p :: L,j+1,k+1,c,l,h=>cn_gt (L:=L) (j:=j) (k:=k) c.2.2 (by omega) (by simpa using h)
theorem ca_split {f:Int→Bool} {a b c:Int} (ab:a≤b) (bc:b≤c) (no:f (b - 1)=false):caL f a c=caL f a b++caL f b c:=by
 refine (ca_eq (cn_app (ca_cn f a b) (ca_cn f b c) fun p hp q hq=>?_) fun x=>?_).symm
 ·have e:=ca_ends f a b p hp;have e':=ca_ends f b c q hq;have lt:=(ca_cn f a b).lt p hp
  rcases Int.lt_or_eq_of_le e.2 with z | z
  ·omega
  ·have i:inB (caL f a b) (b - 1)=true:=inB_iff.2 ⟨p,hp,by omega,by omega⟩;rw [ca_in,no,Bool.and_false] at i;cases i
 ·rw [inB_app,ca_in,ca_in]
  cases f x
  ·simp
  ·by_cases y:x<b
   ·rw [decide_eq_true y,decide_eq_false (show ¬ b≤x by omega),decide_eq_true (show x<c by omega)];simp
   ·rw [decide_eq_false y,decide_eq_true (show b≤x by omega),decide_eq_true (show a≤x by omega)];simp
theorem sh_in' (L:List Sp) (n x:Int):inB (shL L n) x=inB L (x - n):=by
 have:=sh_in L n (x - n);rwa [show x - n+n=x by omega] at this
theorem sh_app (A B:List Sp) (n:Int):shL (A++B) n=shL A n++shL B n:=by simp [shL]
theorem ca_shift {f:Int→Bool} {n:Int} (per:Per f n) (a b:Int):caL f (a+n) (b+n)=shL (caL f a b) n:=by
 refine (ca_eq (sh_cn (ca_cn f a b)) fun x=>?_).symm;rw [sh_in',ca_in,decide_eq_decide.2 (show a≤x - n↔a+n≤x by omega),decide_eq_decide.2 (show x - n<b↔x<b+n by omega)];have:=per (x - n);rw [show x - n+n=x by omega] at this;rw [this]
def rpA (A:List Sp) (d:Int):Nat→List Sp
  | 0=>[]
  | t+1=>A++shL (rpA A d t) d
theorem rp_len (A:List Sp) (d:Int):∀ t,(rpA A d t).length=t * A.length
  | 0=>by simp [rpA]
  | t+1=>by rw [rpA,List.length_append,sh_len,rp_len A d t,Nat.succ_mul];omega
theorem rp_pre (A:List Sp) (d:Int):∀ t,∃ S,rpA A d (t+1)=rpA A d t++S
  | 0=>⟨_,(List.nil_append _).symm⟩
  | t+1=>by
    obtain ⟨S,e⟩:=rp_pre A d t;refine ⟨shL S d,?_⟩;rw [rpA,e,sh_app,← List.append_assoc,← e];rfl
theorem sh_getD (L:List Sp) (n:Int) {k:Nat} (hk:k<L.length):(shL L n).getD k (0,0)=((L.getD k (0,0)).1+n,(L.getD k (0,0)).2+n):=by
 rw [gD (by rw [sh_len];exact hk),gD hk]
 simp [shL]
theorem app_left (A B:List Sp) {k:Nat} (h:k<A.length):(A++B).getD k (0,0)=A.getD k (0,0):=by
 rw [gD (by rw [List.length_append];omega),gD h,List.getElem_append_left h]
theorem app_right (A B:List Sp) (k:Nat):(A++B).getD (A.length+k) (0,0)=B.getD k (0,0):=by
 rw [List.getD_eq_getElem?_getD,List.getD_eq_getElem?_getD,List.getElem?_append_right (by omega),Nat.add_sub_cancel_left]
theorem rp_shift (A:List Sp) (d:Int) (t i:Nat) (h:i<t * A.length):(rpA A d (t+1)).getD (i+A.length) (0,0)=(((rpA A d (t+1)).getD i (0,0)).1+d,((rpA A d (t+1)).getD i (0,0)).2+d):=by
 obtain ⟨S,e⟩:=rp_pre A d t;have hl:=rp_len A d t;have p:(rpA A d (t+1)).getD i (0,0)=(rpA A d t).getD i (0,0):=by rw [e,app_left _ _ (by omega)]
 rw [p,rpA,Nat.add_comm i,app_right,sh_getD _ _ (by omega)]
theorem rp_in {A:List Sp} {o d:Int} (d0:0<d) (h:∀ q,q∈A→o≤q.1∧q.2≤o+d):∀ (t:Nat) (x:Int),inB (rpA A d t) x=(decide (o≤x)&&decide (x<o+t * d)&&inB A (o+(x - o) % d))
  | 0,x=>by
    show false=_
    by_cases z:o≤x
    · rw [decide_eq_false (show ¬ x<o+((0:Nat):Int) * d by rw [show ((0:Nat):Int) * d=0 by simp];omega),Bool.and_false,Bool.false_and]
    · rw [decide_eq_false z];rfl
  | t+1,x=>by
    rw [rpA,inB_app,sh_in',rp_in d0 h t];have out:∀ y,¬ (o≤y∧y<o+d)→inB A y=false:=fun y hy=>by
      rw [← Bool.not_eq_true];intro i;obtain ⟨q,hq,a,b⟩:=inB_iff.1 i;have:=h q hq;omega
    have e:((t+1:Nat):Int) * d=t * d+d:=by rw [Int.natCast_succ,Int.add_mul,Int.one_mul]
    rw [e];have tn:(0:Int)≤t * d:=Int.mul_nonneg (by omega) (by omega);generalize (t:Int) * d=T at tn ⊢;have em:(x - d - o) % d=(x - o) % d:=by rw [show x - d - o=x - o - d by omega,Int.sub_emod_right]
    rw [em]
    by_cases z:o≤x
    · by_cases y:x<o+d
      · rw [decide_eq_true z,decide_eq_false (show ¬ o≤x - d by omega),decide_eq_true (show x<o+(T+d) by omega),Int.emod_eq_of_lt (show 0≤x - o by omega) (by omega),show o+(x - o)=x by omega]
        simp
      · rw [out x (by omega),decide_eq_true z,decide_eq_true (show o≤x - d by omega),decide_eq_decide.2 (show x - d<o+T↔x<o+(T+d) by omega),Bool.false_or,show o+(x - o) % d=o+(x - o) % d from rfl]
    · rw [out x (by omega),decide_eq_false z,decide_eq_false (show ¬ o≤x - d by omega)];simp
structure Crc (P:Int) (f:Int→Bool) (L:List Sp):Prop where
 P0:0<P
 cn:Cn L
 ne:0<L.length
 lo:∀ q,q∈L→0≤q.1∧q.1<P
 hi:∀ q,q∈L→(L.getD 0 (0,0)).1≤q.1∧q.2<(L.getD 0 (0,0)).1+P
 mem:∀ x,f x=inB L ((L.getD 0 (0,0)).1+(x - (L.getD 0 (0,0)).1) % P)
section
variable {P:Int} {f:Int→Bool} {L:List Sp}
theorem Crc.o0 (h:Crc P f L):0≤(L.getD 0 (0,0)).1∧(L.getD 0 (0,0)).1<P:=h.lo _ (getD_mem h.ne)
theorem Crc.per (h:Crc P f L):Per f P:=fun x=>by
  rw [h.mem,h.mem,show x+P - (L.getD 0 (0,0)).1=x - (L.getD 0 (0,0)).1+P by omega,Int.add_emod_right]
theorem Crc.gap (h:Crc P f L):f ((L.getD 0 (0,0)).1 - 1)=false:=by
  have P0:=h.P0;rw [h.mem,show (L.getD 0 (0,0)).1 - 1 - (L.getD 0 (0,0)).1=-1 by omega];have e:(-1:Int) % P=P - 1:=by
    have:=Int.add_emod_right (-1) P;rw [← this,Int.emod_eq_of_lt (by omega) (by omega)];omega
  rw [e,← Bool.not_eq_true];intro i;obtain ⟨q,hq,a,b⟩:=inB_iff.1 i;have:=h.hi q hq;omega
theorem Crc.self (h:Crc P f L):L=caL f (L.getD 0 (0,0)).1 ((L.getD 0 (0,0)).1+P):=by
  refine ca_eq h.cn fun x=>?_;generalize ho:(L.getD 0 (0,0)).1=o;have H:=h.hi;rw [ho] at H;have M:=h.mem;rw [ho] at M
  by_cases z:o≤x∧x<o+P
  · rw [decide_eq_true z.1,decide_eq_true z.2,M,Int.emod_eq_of_lt (by omega) (by omega),show o+(x - o)=x by omega];rfl
  · have e:inB L x=false:=by
      rw [← Bool.not_eq_true];intro i;obtain ⟨q,hq,a,b⟩:=inB_iff.1 i;have:=H q hq;omega
    rw [e]
    by_cases y:o≤x
    · rw [decide_eq_false (show ¬ x<o+P by omega),Bool.and_false,Bool.false_and]
    · rw [decide_eq_false y];rfl
theorem Crc.parts (h:Crc P f L) {d:Int} {t:Nat} (d0:0<d) (e:P=t * d) (per:Per f d):L=rpA (caL f (L.getD 0 (0,0)).1 ((L.getD 0 (0,0)).1+d)) d t:=by
  have g:=h.gap;have s:=h.self;generalize (L.getD 0 (0,0)).1=o at g s ⊢;rw [e] at s;rw [s];clear s e;have go:∀ t:Nat,caL f o (o+t * d)=rpA (caL f o (o+d)) d t:=by
    intro t
    induction t with
    | zero=>rw [show o+((0:Nat):Int) * d=o by simp];unfold caL;rw [Int.sub_self];rfl
    | succ t ih =>
      have en:((t+1:Nat):Int) * d=t * d+d:=by rw [Int.natCast_succ,Int.add_mul,Int.one_mul]
      have tn:(0:Int)≤t * d:=Int.mul_nonneg (by omega) (by omega);have gd:f (o+d - 1)=false:=by
        have:=per (o - 1);rw [show o - 1+d=o+d - 1 by omega,g] at this;exact this
      rw [en,ca_split (b:=o+d) (by omega) (by omega) gd,rpA,show o+((t:Int) * d+d)=(o+t * d)+d by omega,ca_shift per,ih]
  exact go t
def ShO (L:List Sp) (c:Nat) (d:Int):Prop:=∀ i,i+c<L.length→L.getD (i+c) (0,0)=((L.getD i (0,0)).1+d,(L.getD i (0,0)).2+d)
theorem Crc.count (h:Crc P f L) {d:Int} {t:Nat} (d0:0<d) (e:P=t * d) (per:Per f d):L.length=t * (caL f (L.getD 0 (0,0)).1 ((L.getD 0 (0,0)).1+d)).length:=by
  have:=congrArg List.length (h.parts d0 e per);rwa [rp_len] at this
theorem Crc.shift (h:Crc P f L) {d:Int} {t:Nat} (d0:0<d) (e:P=t * d) (per:Per f d):ShO L (caL f (L.getD 0 (0,0)).1 ((L.getD 0 (0,0)).1+d)).length d:=by
  intro i hi;have n:=h.count d0 e per;have p:=h.parts d0 e per;generalize caL f (L.getD 0 (0,0)).1 ((L.getD 0 (0,0)).1+d)=A at n p hi ⊢
  cases t with
  | zero=>rw [Nat.zero_mul] at n;omega
  | succ t =>
    rw [Nat.succ_mul] at n;rw [p];exact rp_shift A d t i (by omega)
theorem list_ext {A B:List Sp} (hl:A.length=B.length) (h:∀ i,i<A.length→A.getD i (0,0)=B.getD i (0,0)):A=B:=by
  refine List.ext_getElem hl fun i h1 h2=>?_;have:=h i h1;rwa [gD h1,gD h2] at this
theorem take_getD (L:List Sp) {n i:Nat} (h:i<n):(L.take n).getD i (0,0)=L.getD i (0,0):=by
  rw [List.getD_eq_getElem?_getD,List.getD_eq_getElem?_getD,List.getElem?_take,if_pos h]
theorem drop_getD (L:List Sp) (n i:Nat):(L.drop n).getD i (0,0)=L.getD (n+i) (0,0):=by
  rw [List.getD_eq_getElem?_getD,List.getD_eq_getElem?_getD,List.getElem?_drop]
theorem sho_parts:∀ (t c:Nat) (L:List Sp) (d:Int),L.length=t * c→ShO L c d→L=rpA (L.take c) d t
  | 0,c,L,d,n,s=>by rw [Nat.zero_mul] at n;exact List.eq_nil_of_length_eq_zero n
  | t+1,c,L,d,n,s=>by
    rw [Nat.succ_mul] at n;have e:L.drop c=shL (L.take (t * c)) d:=by
      refine list_ext (by rw [List.length_drop,sh_len,List.length_take];omega) fun i hi=>?_;rw [List.length_drop] at hi;rw [drop_getD,sh_getD _ _ (by rw [List.length_take];omega),take_getD _ (by omega),Nat.add_comm c,s i (by omega)]
    have ih:=sho_parts t c (L.take (t * c)) d (by rw [List.length_take];omega) fun i hi=>by
      rw [List.length_take] at hi;rw [take_getD _ (by omega),take_getD _ (by omega),s i (by omega)]
    cases t with
    | zero =>
      rw [Nat.zero_mul] at n e;have e':L.take c=L:=List.take_of_length_le (by omega);rw [e'];show L=L++[];rw [List.append_nil]
    | succ t =>
      rw [List.take_take,Nat.min_eq_left (by rw [Nat.succ_mul];omega)] at ih;rw [rpA,← ih,← e,List.take_append_drop]
theorem sho_per (h:Crc P f L) {d:Int} {t c:Nat} (d0:0<d) (t2:2≤t) (e:P=t * d) (n:L.length=t * c) (s:ShO L c d):Per f d:=by
  have p:=sho_parts t c L d n s;have c0:0<c:=by
    rcases Nat.eq_zero_or_pos c with z | z
    · subst z;rw [Nat.mul_zero] at n;have:=h.ne;omega
    · exact z
  have n2:c+c≤L.length:=by rw [n];have:=Nat.mul_le_mul_right c t2;omega
  have s0:=s 0 (by omega);rw [Nat.zero_add] at s0;have H:=h.hi;have M:=h.mem;have c':=h.cn;generalize ho:(L.getD 0 (0,0)).1=o at *;have b:∀ q,q∈L.take c→o≤q.1∧q.2≤o+d:=fun q hq=>by
    refine ⟨(H q (List.mem_of_mem_take hq)).1,?_⟩;obtain ⟨j,hj,rfl⟩:=mem_getD hq;rw [List.length_take] at hj;rw [take_getD _ (by omega)];have g:(L.getD (c - 1) (0,0)).2<(L.getD c (0,0)).1:=by
      have:=gpB_at.1 (gp_of_cn c') (c - 1) (by omega);rwa [show c - 1+1=c by omega] at this
    have g2:(L.getD j (0,0)).2≤(L.getD (c - 1) (0,0)).2:=by
      rcases Nat.lt_or_ge j (c - 1) with z | z
      · have:=cn_gt c' z (show c - 1<L.length by omega);have:=c'.lt _ (getD_mem (show c - 1<L.length by omega));omega
      · rw [show j=c - 1 by omega];exact Int.le_refl _
    rw [s0] at g;have g:(L.getD (c - 1) (0,0)).2<o+d:=g;omega
  have r:∀ x,f x=inB (L.take c) (o+(x - o) % d):=fun x=>by
    have m0:=Int.emod_nonneg (x - o) (show P≠0 by have:=h.P0;omega);have m1:=Int.emod_lt_of_pos (x - o) h.P0;rw [M,p,rp_in d0 b,← p,decide_eq_true (show o≤o+(x - o) % P by omega),decide_eq_true (show o+(x - o) % P<o+t * d by rw [← e];omega),show o+(x - o) % P - o=(x - o) % P by omega];rw [Int.emod_emod_of_dvd _ (show d ∣ P from ⟨t,by rw [e,Int.mul_comm]⟩)];rfl
  intro x;rw [r,r,show x+d - o=x - o+d by omega,Int.add_emod_right]
end
structure Cir (P:Int) (f:Int→Bool) (L:List Sp):Prop where
 P0:0<P
 cn:Cn L
 lo:∀ q,q∈L→0≤q.1∧q.1<P∧q.2≤2 * P
 mem:∀ x,f x=(inB L (x % P) || inB L (x % P+P))
theorem cir_in {P:Int} {L:List Sp} (P0:0<P) (c:Cn L) (i:InP P L):Cir P (hsP P L) L :=
 ⟨P0,c,fun q hq=>by have:=i q hq;have:=c.lt q hq;omega,fun x=>by
  have m0:=Int.emod_nonneg x (show P≠0 by omega);have e:inB L (x % P+P)=false:=by
   rw [← Bool.not_eq_true];intro q;have:=in_out i q;omega
  rw [e,Bool.or_false];rfl⟩
theorem cir_step {P:Int} {f:Int→Bool} {p q:Sp} {R:List Sp} (h:Cir P f (p :: (R++[q]))) (t:p.1+P≤q.2):Cir P f (R++[(q.1,if q.2<p.2+P then p.2+P else q.2)]):=by
 obtain ⟨P0,cn,lo,mem⟩:=h;obtain ⟨cR,bR,ltq⟩:=cn_last cn.2.2;have lp:=lo p (List.mem_cons_self ..);have lq:=lo q (List.mem_cons_of_mem _ (List.mem_append_right _ (List.mem_singleton.2 rfl)));have ltp:=cn.1;have pq:=cn.2.1 q (List.mem_append_right _ (List.mem_singleton.2 rfl));generalize hy:(if q.2<p.2+P then p.2+P else q.2)=y;have hy':y=p.2+P∧q.2<p.2+P∨y=q.2∧p.2+P≤q.2:=by
  rw [← hy];split
  ·left;exact ⟨rfl,by assumption⟩
  ·right;exact ⟨rfl,by omega⟩
 refine ⟨P0,cn_snoc cR bR (by show q.1<y;omega),fun r hr=>?_,fun x=>?_⟩
 ·rcases List.mem_append.1 hr with z | z
  ·exact lo r (List.mem_cons_of_mem _ (List.mem_append_left _ z))
  ·rw [List.mem_singleton.1 z];refine ⟨lq.1,lq.2.1,?_⟩
   show y≤_
   omega
 ·rw [mem];have m0:=Int.emod_nonneg x (show P≠0 by omega);have m1:=Int.emod_lt_of_pos x P0;generalize x % P=r at m0 m1;rw [inB_cons,inB_cons,inB_app,inB_app,inB_app,inB_app,inB_one,inB_one,inB_one,inB_one];rw [show (decide (p.1≤r+P)&&decide (r+P<p.2))=false by rw [decide_eq_false (show ¬ r+P<p.2 by omega),Bool.and_false]]
  show _=(inB R r || (decide (q.1≤r)&&decide (r<y)) || (inB R (r+P) || (decide (q.1≤r+P)&&decide (r+P<y))))
  rw [decide_eq_decide.2 (show r<q.2↔r<y by omega),decide_eq_true (show q.1≤r+P by omega),Bool.true_and,Bool.true_and,Bool.false_or];generalize inB R r=b1;generalize inB R (r+P)=b2;generalize (decide (q.1≤r)&&decide (r<y))=b3
  by_cases z:p.1≤r∧r<p.2
  ·rw [decide_eq_true z.1,decide_eq_true z.2,decide_eq_true (show r+P<y by omega)]
   cases b1 <;> cases b2 <;> cases b3 <;> rfl
  ·have e:(decide (p.1≤r)&&decide (r<p.2))=false:=by
    rw [← Bool.not_eq_true,Bool.and_eq_true,decide_eq_true_iff,decide_eq_true_iff];exact z
   rw [e,Bool.false_or,decide_eq_decide.2 (show r+P<q.2↔r+P<y by omega)]
def CrV (P:Int) (f:Int→Bool) (Q:Int) (L:List Sp):Prop:=(Q=1∧L=[]∧∀ x,f x=false)∨(Q=1∧L=[(0,1)]∧∀ x,f x=true)∨(Q=P∧Crc P f L)
theorem cir_nil {P:Int} {f:Int→Bool} (h:Cir P f []):∀ x,f x=false:=fun x=>by rw [h.mem];rfl
theorem cir_all {P:Int} {f:Int→Bool} {L:List Sp} (h:Cir P f L) (ne:0<L.length) (t:P≤(L.getD 0 (0,0)).2 - (L.getD 0 (0,0)).1):∀ x,f x=true:=fun x=>by
 have m0:=Int.emod_nonneg x (show P≠0 by have:=h.P0;omega);have m1:=Int.emod_lt_of_pos x h.P0;have hm:=getD_mem ne;have l:=h.lo _ hm;rw [h.mem,Bool.or_eq_true]
 by_cases z:(L.getD 0 (0,0)).1≤x % P
 ·exact Or.inl (inB_iff.2 ⟨_,hm,z,by omega⟩)
 ·exact Or.inr (inB_iff.2 ⟨_,hm,by omega,by omega⟩)
theorem cir_crc {P:Int} {f:Int→Bool} {L:List Sp} (h:Cir P f L) (ne:0<L.length) (t:(L.getD 0 (0,0)).2 - (L.getD 0 (0,0)).1<P) (e:L.length=1∨(L.getD (L.length - 1) (0,0)).2<(L.getD 0 (0,0)).1+P):Crc P f L:=by
 have P0:=h.P0;have hi:∀ q,q∈L→(L.getD 0 (0,0)).1≤q.1∧q.2<(L.getD 0 (0,0)).1+P:=fun q hq=>by
  obtain ⟨j,hj,rfl⟩:=mem_getD hq;have l0:=h.cn.lt _ (getD_mem ne);have lj:=h.cn.lt _ (getD_mem hj)
  constructor
  ·rcases Nat.eq_zero_or_pos j with z | z
   ·rw [z];exact Int.le_refl _
   ·have:=cn_gt h.cn z hj;omega
  ·rcases e with e | e
   ·rw [show j=0 by omega];omega
   ·rcases Nat.lt_or_ge j (L.length - 1) with z | z
    ·have a:=cn_gt h.cn z (by omega);have b:=h.cn.lt _ (getD_mem (show L.length - 1<L.length by omega));omega
    ·rw [show j=L.length - 1 by omega];exact e
 refine ⟨P0,h.cn,ne,fun q hq=>⟨(h.lo q hq).1,(h.lo q hq).2.1⟩,hi,fun x=>?_⟩;have o0:=h.lo _ (getD_mem ne);rw [h.mem];generalize (L.getD 0 (0,0)).1=o at hi o0;have out:∀ y,¬ (o≤y∧y<o+P)→inB L y=false:=fun y hy=>by
  rw [← Bool.not_eq_true];intro i;obtain ⟨q,hq,a,b⟩:=inB_iff.1 i;have:=hi q hq;omega
 have m0:=Int.emod_nonneg x (show P≠0 by omega);have m1:=Int.emod_lt_of_pos x P0;have em:(x - o) % P=(x % P - o) % P:=by rw [Int.emod_sub_emod]
 rw [em];generalize x % P=r at m0 m1
 by_cases z:o≤r
 ·rw [out (r+P) (by omega),Bool.or_false,Int.emod_eq_of_lt (by omega) (by omega),show o+(r - o)=r by omega]
 ·rw [out r (by omega),Bool.false_or];have:(r - o) % P=r - o+P:=by rw [← Int.add_emod_right,Int.emod_eq_of_lt (by omega) (by omega)]
  rw [this,show o+(r - o+P)=r+P by omega]
theorem CrV.same {P:Int} {f:Int→Bool} {Q:Int} {L:List Sp} (h:CrV P f Q L) (P0:0<P):0<Q:=by
 rcases h with ⟨rfl,-⟩ | ⟨rfl,-⟩ | ⟨rfl,c⟩
 ·omega
 ·omega
 ·exact P0
theorem lst_const {P:Int} {f:Int→Bool} {b:Bool} (h:∀ x,f x=b):Lst f P 1:=⟨by omega,Int.one_dvd P,fun x=>by rw [h,h],fun e a _ _=>by omega⟩
theorem dvd_nat {P e:Int} (P0:0<P) (e0:0<e) (d:e ∣ P):∃ s:Nat,P=s * e∧0<s:=by
 obtain ⟨k,rfl⟩:=d;have k0:0<k:=by
  rcases Int.lt_or_le 0 k with z | z
  ·exact z
  ·have:=Int.mul_nonneg (show 0≤e by omega) (show 0≤-k by omega);rw [Int.mul_neg] at this;omega
 exact ⟨k.toNat,by rw [Int.toNat_of_nonneg (by omega),Int.mul_comm],by omega⟩
theorem crc_found {P:Int} {f:Int→Bool} {L:List Sp} (h:Crc P f L) {e:Int} {s:Nat} (e0:0<e) (hs:P=s * e) (s0:0<s) (per:Per f e):s≤L.length∧L.length % s=0∧P % (s:Int)=0∧ShO L (L.length / s) (P / s):=by
 have n:=h.count e0 hs per;have sh:=h.shift e0 hs per;have ne:=h.ne;generalize (caL f (L.getD 0 (0,0)).1 ((L.getD 0 (0,0)).1+e)).length=c at n sh;have c0:0<c:=by
  rcases Nat.eq_zero_or_pos c with z | z
  ·subst z;rw [Nat.mul_zero] at n;omega
  ·exact z
 refine ⟨by rw [n];exact Nat.le_mul_of_pos_right _ c0,by rw [n];exact Nat.mul_mod_right _ _,by rw [hs];exact Int.mul_emod_right _ _,?_⟩;have e1:L.length / s=c:=by rw [n];exact Nat.mul_div_cancel_left _ s0
 have e2:P / (s:Int)=e:=by rw [hs];exact Int.mul_ediv_cancel_left _ (show (s:Int)≠0 by omega)
 rw [e1,e2];exact sh
def TrY (P:Int) (L:List Sp) (s:Nat):Prop:=L.length % s=0∧P % (s:Int)=0∧ShO L (L.length / s) (P / s)
theorem least_hit {P:Int} {f:Int→Bool} {L:List Sp} (h:Crc P f L) {t:Nat} (t2:2≤t) (y:TrY P L t) (no:∀ s,t<s→s≤L.length→¬ TrY P L s):Lst f P (P / t):=by
 obtain ⟨a,b,c⟩:=y;have P0:=h.P0;have e1:P=t * (P / t):=by have:=Int.emod_add_mul_ediv P t;omega
 have e2:L.length=t * (L.length / t):=by have:=Nat.mod_add_div L.length t;omega
 have d0:0<P / t:=by
  rcases Int.lt_or_le 0 (P / t) with z | z
  ·exact z
  ·have:=Int.mul_nonneg (show (0:Int)≤t by omega) (show 0≤-(P / t) by omega);rw [Int.mul_neg] at this;omega
 refine ⟨d0,⟨t,by rw [Int.mul_comm];exact e1⟩,sho_per h d0 t2 e1 e2 c,fun e e0 dv per=>?_⟩;obtain ⟨s,hs,s0⟩:=dvd_nat P0 e0 dv;obtain ⟨f1,f2,f3,f4⟩:=crc_found h e0 hs s0 per
 rcases Int.lt_or_le e (P / t) with z | z
 ·exfalso
  refine no s ?_ f1 ⟨f2,f3,f4⟩
  rcases Nat.lt_or_ge t s with y | y
  ·exact y
  ·have a1:(s:Int) * e≤t * e:=Int.mul_le_mul_of_nonneg_right (by omega) (by omega);have a2:(t:Int) * e<t * (P / t):=Int.mul_lt_mul_of_pos_left z (by omega);omega
 ·exact z
theorem least_end {P:Int} {f:Int→Bool} {L:List Sp} (h:Crc P f L) (no:∀ s,1<s→s≤L.length→¬ TrY P L s):Lst f P P:=by
 refine ⟨h.P0,Int.dvd_refl P,h.per,fun e e0 dv per=>?_⟩;obtain ⟨s,hs,s0⟩:=dvd_nat h.P0 e0 dv;obtain ⟨f1,f2,f3,f4⟩:=crc_found h e0 hs s0 per
 rcases Nat.lt_or_ge 1 s with z | z
 ·exact absurd ⟨f2,f3,f4⟩ (no s z f1)
 ·obtain rfl:s=1:=by omega
  omega
theorem crc_front {P:Int} {f:Int→Bool} {L:List Sp} (h:Crc P f L) {y:Int} (y0:0≤y) (y1:y<(L.getD 0 (0,0)).1) (t:f y=true):f (y - 1)=true:=by
 have P0:=h.P0;have o:=h.o0;have e:∀ z,-1≤z→z<(L.getD 0 (0,0)).1→f z=inB L (z+P):=fun z z0 z1=>by
  rw [h.mem];have:(z - (L.getD 0 (0,0)).1) % P=z - (L.getD 0 (0,0)).1+P:=by
   rw [← Int.add_emod_right,Int.emod_eq_of_lt (by omega) (by omega)]
  rw [this]
  congr 1;omega
 rw [e y (by omega) y1] at t;rw [e (y - 1) (by omega) (by omega)];obtain ⟨q,hq,a,b⟩:=inB_iff.1 t;have:=h.lo q hq;exact inB_iff.2 ⟨q,hq,by omega,by omega⟩
theorem crc_low {P d:Int} {f:Int→Bool} {L:List Sp} (h:Crc P f L) (d0:0<d) (dP:d≤P) (per:Per f d):∀ q,q∈caL f (L.getD 0 (0,0)).1 ((L.getD 0 (0,0)).1+d)→(L.getD 0 (0,0)).1≤q.1∧q.1<d∧q.2<(L.getD 0 (0,0)).1+d:=fun q hq=>by
 have g:=h.gap;have fr:=fun y=>@crc_front P f L h y;have cn:=ca_cn f (L.getD 0 (0,0)).1 ((L.getD 0 (0,0)).1+d);have e:=ca_ends f _ _ q hq;have oz:=h.o0;have mm:=ca_in f (L.getD 0 (0,0)).1 ((L.getD 0 (0,0)).1+d);generalize (L.getD 0 (0,0)).1=o at *;have lt:=cn.lt q hq;have gd:f (o+d - 1)=false:=by
  have:=per (o - 1);rw [show o - 1+d=o+d - 1 by omega,g] at this;exact this
 have hi:q.2<o+d:=by
  rcases Int.lt_or_eq_of_le e.2 with z | z
  ·exact z
  ·have i:inB (caL f o (o+d)) (o+d - 1)=true:=inB_iff.2 ⟨q,hq,by omega,by omega⟩;rw [mm,gd,Bool.and_false] at i;cases i
 refine ⟨e.1,?_,hi⟩
 rcases Int.lt_or_le q.1 d with z | z
 ·exact z
 ·exfalso
  have f1:f q.1=true:=by
   have i:inB (caL f o (o+d)) q.1=true:=inB_iff.2 ⟨q,hq,by omega,by omega⟩;rw [mm,Bool.and_eq_true] at i;exact i.2
  have f0:f (q.1 - 1)=false:=by
   rcases Int.lt_or_eq_of_le e.1 with y | y
   ·have i:inB (caL f o (o+d)) (q.1 - 1)=false:=by
     rw [← Bool.not_eq_true];intro i;obtain ⟨r,hr,a,b⟩:=inB_iff.1 i;obtain ⟨j,hj,ej⟩:=mem_getD hr;obtain ⟨k,hk,ek⟩:=mem_getD hq
     rcases Nat.lt_or_ge j k with u | u
     ·have:=cn_gt cn u hk;rw [ej,ek] at this;omega
     ·rcases Nat.eq_or_lt_of_le u with v | v
      ·rw [← v,ek] at ej;subst ej;omega
      ·have:=cn_gt cn v hj;rw [ej,ek] at this;omega
    rw [mm,decide_eq_true (show o≤q.1 - 1 by omega),decide_eq_true (show q.1 - 1<o+d by omega)] at i;exact i
   ·rw [← y];exact g
  have s1:=per (q.1 - d);rw [show q.1 - d+d=q.1 by omega,f1] at s1;have s0:=per (q.1 - d - 1);rw [show q.1 - d - 1+d=q.1 - 1 by omega,f0] at s0;have:=fr (q.1 - d) (by omega) (by omega) s1.symm;rw [← s0] at this;cases this
theorem frm_ok {P d:Int} {f:Int→Bool} {L:List Sp} (h:Crc P f L) (d0:0<d) (dP:d≤P) (per:Per f d) {R:List Sp} {q:Sp} (e:caL f (L.getD 0 (0,0)).1 ((L.getD 0 (0,0)).1+d)=R++[q]) :
    caL f 0 d=if d<q.2 then (0,q.2 - d) :: (R++[(q.1,d)]) else R++[q]:=by
  have lw:=crc_low h d0 dP per;have oz:=h.o0;have mm:=ca_in f (L.getD 0 (0,0)).1 ((L.getD 0 (0,0)).1+d);have cn:=ca_cn f (L.getD 0 (0,0)).1 ((L.getD 0 (0,0)).1+d);rw [e] at lw mm cn;generalize (L.getD 0 (0,0)).1=o at *;obtain ⟨cR,bR,ltq⟩:=cn_last cn;have lq:=lw q (List.mem_append_right _ (List.mem_singleton.2 rfl));have lr:∀ r,r∈R→o≤r.1∧r.2<q.1:=fun r hr=>⟨(lw r (List.mem_append_left _ hr)).1,bR r hr⟩;have fx:∀ x,0≤x→x<d→f x=if x<o then decide (x+d<q.2) else inB (R++[q]) x:=fun x x0 x1=>by
    split
    · rename_i z
      have m:=mm (x+d);rw [decide_eq_true (show o≤x+d by omega),decide_eq_true (show x+d<o+d by omega),per x,Bool.and_self,Bool.true_and] at m;rw [← m,inB_app,inB_one,in_high (fun r hr=>by have:=lr r hr;omega),decide_eq_true (show q.1≤x+d by omega),Bool.true_and,Bool.false_or]
    · rename_i z
      have m:=mm x;rw [decide_eq_true (show o≤x by omega),decide_eq_true (show x<o+d by omega),Bool.and_self,Bool.true_and] at m;exact m.symm
  symm
  split
  · rename_i z
    refine ca_eq ⟨by show (0:Int)<q.2 - d;omega,fun r hr=>?_,cn_snoc cR bR (by show q.1<d;omega)⟩ fun x=>?_
    · rcases List.mem_append.1 hr with y | y
      · have:=lr r y;show q.2 - d<r.1;omega
      · rw [List.mem_singleton.1 y];show q.2 - d<q.1;omega
    · rw [inB_cons,inB_app,inB_one]
      show (decide (0≤x)&&decide (x<q.2 - d) || (inB R x || decide (q.1≤x)&&decide (x<d)))=_
      by_cases x0:0≤x
      · by_cases x1:x<d
        · rw [fx x x0 x1,decide_eq_true x0,decide_eq_true x1,Bool.true_and,Bool.true_and,Bool.true_and,Bool.and_true]
          split
          · rename_i y
            have:inB R x=false:=by
              rw [← Bool.not_eq_true];intro i;obtain ⟨r,hr,a,b⟩:=inB_iff.1 i;have:=lr r hr;omega
            rw [this,decide_eq_false (show ¬ q.1≤x by omega),Bool.or_false,Bool.or_false,decide_eq_decide.2 (show x<q.2 - d↔x+d<q.2 by omega)]
          · rename_i y
            rw [inB_app,inB_one,decide_eq_false (show ¬ x<q.2 - d by omega),Bool.false_or,decide_eq_true (show x<q.2 by omega),Bool.and_true]
        · rw [decide_eq_false x1,decide_eq_false (show ¬ x<q.2 - d by omega),in_high (fun r hr=>by have:=lr r hr;omega)];simp
      · have:inB R x=false:=by
          rw [← Bool.not_eq_true];intro i;obtain ⟨r,hr,a,b⟩:=inB_iff.1 i;have:=lr r hr;omega
        rw [decide_eq_false x0,this,decide_eq_false (show ¬ q.1≤x by omega)];rfl
  · rename_i z
    refine ca_eq cn fun x=>?_
    by_cases x0:0≤x
    · by_cases x1:x<d
      · rw [fx x x0 x1,decide_eq_true x0,decide_eq_true x1,Bool.true_and,Bool.true_and]
        split
        · rename_i y
          rw [decide_eq_false (show ¬ x+d<q.2 by omega),inB_app,inB_one,decide_eq_false (show ¬ q.1≤x by omega),Bool.false_and,Bool.or_false,← Bool.not_eq_true];intro i;obtain ⟨r,hr,a,b⟩:=inB_iff.1 i;have:=lr r hr;omega
        · rfl
      · rw [decide_eq_false x1,inB_app,inB_one,in_high (fun r hr=>by have:=lr r hr;omega),decide_eq_false (show ¬ x<q.2 by omega)];simp
    · have:inB R x=false:=by
        rw [← Bool.not_eq_true];intro i;obtain ⟨r,hr,a,b⟩:=inB_iff.1 i;have:=lr r hr;omega
      rw [decide_eq_false x0,inB_app,inB_one,this,decide_eq_false (show ¬ q.1≤x by omega)];rfl
theorem frm_len {P d:Int} {f:Int→Bool} {L:List Sp} (h:Crc P f L) (d0:0<d) (dv:d ∣ P) (per:Per f d) :
    ∃ c:Nat,0<c∧c≤L.length∧(L.length:Int) * d / P=c∧L.take c=caL f (L.getD 0 (0,0)).1 ((L.getD 0 (0,0)).1+d):=by
  obtain ⟨t,ht,t0⟩:=dvd_nat h.P0 d0 dv;have n:=h.count d0 ht per;have p:=h.parts d0 ht per;have ne:=h.ne;generalize caL f (L.getD 0 (0,0)).1 ((L.getD 0 (0,0)).1+d)=A at n p ⊢;have c0:0<A.length:=by
    rcases Nat.eq_zero_or_pos A.length with z | z
    · rw [z,Nat.mul_zero] at n;omega
    · exact z
  refine ⟨A.length,c0,by rw [n];exact Nat.le_mul_of_pos_left _ t0,?_,?_⟩
  · rw [n,ht,Int.natCast_mul,Int.mul_assoc,Int.mul_comm (A.length:Int) d,← Int.mul_assoc];exact Int.mul_ediv_cancel_left _ (by have:=Int.mul_pos (show (0:Int)<t by omega) d0;omega)
  · obtain ⟨t,rfl⟩:∃ u,t=u+1:=⟨t - 1,by omega⟩;rw [p,rpA,List.take_left]
theorem ca_none (f:Int→Bool) {a b:Int} (h:b≤a):caL f a b=[]:=by
 unfold caL;rw [show (b - a).toNat=0 by omega];rfl
theorem len_step (f:Int→Bool) {a c:Int} (h:a≤c):(caL f a (c+1)).length=(caL f a c).length+(if f c=true∧¬ (a<c∧f (c - 1)=true) then 1 else 0):=by
 have e:caL f a (c+1)=if f c then addL (caL f a c) (c,c+1) else caL f a c:=by
  unfold caL
  rw [show (c+1 - a).toNat=(c - a).toNat+1 by omega,caN,show a+((c - a).toNat:Int)=c by omega]
 rw [e]
 by_cases z:f c=true
 ·rw [if_pos z];have mm:=ca_in f a c;have cn:=ca_cn f a c;have en:=ca_ends f a c
  rcases snoc_cases (caL f a c) with y | ⟨R,q,y⟩
  ·rw [y] at mm ⊢;have:¬ (a<c∧f (c - 1)=true):=fun ⟨u,v⟩=>by
    have:=mm (c - 1);rw [v,decide_eq_true (show a≤c - 1 by omega),decide_eq_true (show c - 1<c by omega)] at this;cases this
   rw [if_pos ⟨z,this⟩];rfl
  ·rw [y] at mm cn en ⊢;obtain ⟨cR,bR,ltq⟩:=cn_last cn;have eq:=en q (List.mem_append_right _ (List.mem_singleton.2 rfl));rw [add_snoc]
   by_cases t:q.2=c
   ·have i:inB (R++[q]) (c - 1)=true:=inB_iff.2 ⟨q,List.mem_append_right _ (List.mem_singleton.2 rfl),by omega,by omega⟩;rw [mm,Bool.and_eq_true,Bool.and_eq_true,decide_eq_true_iff,decide_eq_true_iff] at i;rw [if_pos t,if_neg (fun n=>n.2 ⟨by omega,i.2⟩)]
    simp
   ·have:¬ (a<c∧f (c - 1)=true):=fun ⟨u,v⟩=>by
     have i:=mm (c - 1);rw [v,decide_eq_true (show a≤c - 1 by omega),decide_eq_true (show c - 1<c by omega)] at i;obtain ⟨r,hr,r0,r1⟩:=inB_iff.1 i;have er:=en r hr
     rcases List.mem_append.1 hr with w | w
     ·have:=bR r w;omega
     ·rw [List.mem_singleton.1 w] at er r1;omega
    rw [if_neg t,if_pos ⟨z,this⟩];simp
 ·rw [if_neg z,if_neg (fun n=>z n.1)];rfl
theorem len_split (f:Int→Bool) {a b:Int} (ab:a≤b):∀ n:Nat,(caL f a (b+n)).length≤(caL f a b).length+(caL f b (b+n)).length
  | 0=>by rw [show b+((0:Nat):Int)=b by omega];omega
  | n+1=>by
    have ih:=len_split f ab n;rw [show b+((n+1:Nat):Int)=b+n+1 by omega,len_step f (show a≤b+n by omega),len_step f (show b≤b+n by omega)]
    by_cases z:f (b+n)=true
    · by_cases y:b<b+n
      · by_cases x:f (b+n - 1)=true
        · rw [if_neg (fun q=>q.2 ⟨by omega,x⟩),if_neg (fun q=>q.2 ⟨by omega,x⟩)];omega
        · rw [if_pos ⟨z,fun q=>x q.2⟩,if_pos ⟨z,fun q=>x q.2⟩];omega
      · rw [if_pos (c:=f (b+n)=true∧¬ (b<b+n∧f (b+n - 1)=true)) ⟨z,fun q=>y q.1⟩]
        split <;> omega
    · rw [if_neg (fun q=>z q.1),if_neg (fun q=>z q.1)];omega
theorem len_mono (f:Int→Bool) {a c:Int} (h:a≤c):∀ n:Nat,(caL f a c).length≤(caL f a (c+n)).length
  | 0=>by rw [show c+((0:Nat):Int)=c by omega];omega
  | n+1=>by
    have ih:=len_mono f h n;rw [show c+((n+1:Nat):Int)=c+n+1 by omega,len_step f (show a≤c+n by omega)];omega
theorem len_mono' (f:Int→Bool) {a c d:Int} (h:c≤d):(caL f a c).length≤(caL f a d).length:=by
 by_cases z:a≤c
 ·have:=len_mono f z (d - c).toNat;rwa [show c+((d - c).toNat:Int)=d by omega] at this
 ·rw [ca_none f (show c≤a by omega)];exact Nat.zero_le _
theorem len_comb {k:Int} (k1:1≤k) (k3:k≤3) (f g:Int→Bool) (a:Int):∀ n:Nat,(caL (fun x=>kpB k (f x) (g x)) a (a+n)).length+(if k=3∧0<n∧g (a+n - 1)=true then 1 else 0)≤(caL f a (a+n)).length+(caL g a (a+n)).length
  | 0=>by rw [show a+((0:Nat):Int)=a by omega,ca_none _ (Int.le_refl a)];simp
  | n+1=>by
    have ih:=len_comb k1 k3 f g a n;rw [show a+((n+1:Nat):Int)=a+n+1 by omega,len_step _ (show a≤a+n by omega),len_step f (show a≤a+n by omega),len_step g (show a≤a+n by omega),show a+(n:Int)+1 - 1=a+n by omega];have kk:k=1∨k=2∨k=3:=by omega
    generalize a+(n:Int) - 1=y at ih ⊢;have an:(a<a+n)↔0<n:=by omega
    generalize (caL (fun x=>kpB k (f x) (g x)) a (a+n)).length=K at ih ⊢;generalize (caL f a (a+n)).length=F at ih ⊢;generalize (caL g a (a+n)).length=G at ih ⊢
    simp only [an]
    generalize a+(n:Int)=x at ih ⊢
    by_cases n0:0<n
    · rcases kk with rfl | rfl | rfl <;> cases f x <;> cases g x <;> cases f y <;> cases hg:g y <;> simp [kpB,n0,hg] at ih ⊢ <;> omega
    · rcases kk with rfl | rfl | rfl <;> cases f x <;> cases g x <;> simp [kpB,n0] at ih ⊢ <;> omega
theorem len_cb {k:Int} (k1:1≤k) (k3:k≤3) {P:Int} {A B:List Sp} (P0:0<P) (cA:Cn A) (cB:Cn B) (a:InP P A) (b:InP P B):(cbL k A B).length≤A.length+B.length:=by
 have h:=len_comb k1 k3 (hsP P A) (hsP P B) 0 P.toNat;rw [show (0:Int)+(P.toNat:Int)=P by omega] at h;rw [cb_ca P0 a b k,ca_self cA a,ca_self cB b,← ca_self cA a,← ca_self cB b];have e1:=congrArg List.length (ca_self cA a);have e2:=congrArg List.length (ca_self cB b);omega
theorem per_len {f:Int→Bool} {P:Int} (P0:0<P) (per:Per f P):∀ k:Nat,(caL f 0 (k * P)).length≤k * (caL f 0 P).length
  | 0=>by rw [ca_none _ (show ((0:Nat):Int) * P≤0 by simp)];simp
  | k+1=>by
    have ih:=per_len P0 per k;have kn:(0:Int)≤k * P:=Int.mul_nonneg (by omega) (by omega);have e:((k+1:Nat):Int) * P=k * P+P:=by rw [Int.natCast_succ,Int.add_mul,Int.one_mul]
    have s:=len_split f kn P.toNat;rw [show (k:Int) * P+(P.toNat:Int)=k * P+P by omega] at s;have pk:Per f ((k:Int) * P):=by have:=per.mul (k:Int);rwa [Int.mul_comm] at this
    have sh:=ca_shift pk 0 P;rw [show (0:Int)+k * P=k * P by omega,show P+(k:Int) * P=k * P+P by omega] at sh;rw [sh,sh_len] at s;rw [e,Nat.succ_mul];omega
def clZ (b e:Int):Int:=if b<e then b else e
theorem win_step {f:Int→Bool} {a b e u v:Int} (eu:e<u) (uv:u<v) (no:∀ x,e≤x→x<u→f x=false) (yes:∀ x,u≤x→x<v→f x=true) :
    caL f a (clZ b v)=if (if a<u then u else a)<(if v<b then v else b) then caL f a (clZ b e)++[((if a<u then u else a),(if v<b then v else b))] else caL f a (clZ b e):=by
  generalize hs:(if a<u then u else a)=s;generalize ht:(if v<b then v else b)=t;have hs':s=u∧a<u∨s=a∧u≤a:=by rw [← hs];split <;> omega
  have ht':t=v∧v<b∨t=b∧b≤v:=by rw [← ht];split <;> omega
  have ce:clZ b e=b∧b<e∨clZ b e=e∧e≤b:=by unfold clZ;split <;> omega
  have cv:clZ b v=b∧b<v∨clZ b v=v∧v≤b:=by unfold clZ;split <;> omega
  generalize clZ b e=E at ce ⊢;generalize clZ b v=V at cv ⊢
  symm
  split
  · rename_i st
    refine ca_eq (cn_snoc (ca_cn f a E) (fun q hq=>by have:=ca_ends f a E q hq;show q.2<s;omega) st) fun x=>?_;rw [inB_app,ca_in,inB_one]
    show (decide (a≤x)&&decide (x<E)&&f x || (decide (s≤x)&&decide (x<t)))=_
    by_cases x1:x<u
    · by_cases x0:e≤x
      · rw [no x x0 x1,decide_eq_false (show ¬ s≤x by omega)];simp
      · have dd:decide (x<E)=decide (x<V):=decide_eq_decide.2 (by omega);rw [decide_eq_false (show ¬ s≤x by omega),dd];simp
    · by_cases x2:x<v
      · rw [yes x (by omega) x2,decide_eq_false (show ¬ x<E by omega)];rw [Bool.eq_iff_iff];simp;omega
      · rw [decide_eq_false (show ¬ x<E by omega),decide_eq_false (show ¬ x<t by omega),decide_eq_false (show ¬ x<V by omega)];simp
  · rename_i st
    refine ca_eq (ca_cn f a E) fun x=>?_;rw [ca_in]
    by_cases x1:x<u
    · by_cases x0:e≤x
      · rw [no x x0 x1,Bool.and_false,Bool.and_false]
      · have dd:decide (x<E)=decide (x<V):=decide_eq_decide.2 (by omega);rw [dd]
    · by_cases x2:x<v
      · rw [yes x (by omega) x2];rw [Bool.eq_iff_iff];simp;omega
      · rw [decide_eq_false (show ¬ x<E by omega),decide_eq_false (show ¬ x<V by omega)]
theorem ca_skip {f:Int→Bool} {a e b:Int} (eb:e≤b) (no:∀ x,e≤x→x<b→f x=false):caL f a e=caL f a b:=by
 refine ca_eq (ca_cn f a e) fun x=>?_;rw [ca_in]
 by_cases x1:x<e
 ·rw [decide_eq_true x1,decide_eq_true (show x<b by omega)]
 ·by_cases x2:x<b
  ·rw [no x (by omega) x2,Bool.and_false,Bool.and_false]
  ·rw [decide_eq_false x1,decide_eq_false x2]
section
variable {P:Int} {f:Int→Bool} {L:List Sp}
theorem Crc.at (h:Crc P f L) {x s k:Int} (hs:s=P * k) (x0:s+(L.getD 0 (0,0)).1≤x) (x1:x<s+(L.getD 0 (0,0)).1+P):f x=inB L (x - s):=by
 have:=(h.per.mul k) (x - s);rw [← hs,show x - s+s=x by omega] at this;rw [this,h.mem,Int.emod_eq_of_lt (by omega) (by omega)]
 congr 1;omega
theorem Crc.yes (h:Crc P f L) {x s k:Int} (hs:s=P * k) {i:Nat} (hi:i<L.length) (x0:s+(L.getD i (0,0)).1≤x) (x1:x<s+(L.getD i (0,0)).2):f x=true:=by
 have:=h.hi _ (getD_mem hi);rw [h.at hs (by omega) (by omega)];exact inB_iff.2 ⟨_,getD_mem hi,by omega,by omega⟩
theorem cn_lo {L:List Sp} (c:Cn L) {i j:Nat} (h:i≤j) (hj:j<L.length):(L.getD i (0,0)).1≤(L.getD j (0,0)).1∧(L.getD i (0,0)).2≤(L.getD j (0,0)).2:=by
 rcases Nat.eq_or_lt_of_le h with z | z
 ·rw [z];omega
 ·have a:=cn_gt c z hj;have b:=c.lt _ (getD_mem (show i<L.length by omega));have d:=c.lt _ (getD_mem hj);omega
theorem Crc.no (h:Crc P f L) {x s k:Int} (hs:s=P * k) {i:Nat} (hi:i+1<L.length) (x0:s+(L.getD i (0,0)).2≤x) (x1:x<s+(L.getD (i+1) (0,0)).1):f x=false:=by
 have a:=h.hi _ (getD_mem (show i<L.length by omega));have a':=h.cn.lt _ (getD_mem (show i<L.length by omega));have b:=h.hi _ (getD_mem hi);have b':=h.cn.lt _ (getD_mem hi);rw [h.at hs (by omega) (by omega),← Bool.not_eq_true];intro t;obtain ⟨q,hq,q0,q1⟩:=inB_iff.1 t;obtain ⟨j,hj,rfl⟩:=mem_getD hq
 rcases Nat.lt_or_ge i j with z | z
 ·have:=cn_lo h.cn (show i+1≤j from z) hj;omega
 ·have:=cn_lo h.cn z (by omega);omega
theorem Crc.last (h:Crc P f L) {x s k:Int} (hs:s=P * k) (x0:s+(L.getD (L.length - 1) (0,0)).2≤x) (x1:x<s+P+(L.getD 0 (0,0)).1):f x=false:=by
 have ne:=h.ne;have a:=h.hi _ (getD_mem (show L.length - 1<L.length by omega));have a':=h.cn.lt _ (getD_mem (show L.length - 1<L.length by omega));rw [h.at hs (by omega) (by omega),← Bool.not_eq_true];intro t;obtain ⟨q,hq,q0,q1⟩:=inB_iff.1 t;obtain ⟨j,hj,rfl⟩:=mem_getD hq;have:=cn_lo h.cn (show j≤L.length - 1 by omega) (by omega);omega
end
theorem va_cn {A:List Sp} (h:vaB A=true):Cn A:=(vaB_iff.1 h).2.2
theorem va_ln {A:List Sp} (h:vaB A=true):Ln A:=(vaB_iff.1 h).2.1
end Go.Proofs.YtmamlgaogpkagaaGreat
