/- RnP PeM PeC PeL. -/
import Derived.Test.YtmamlgaogpkagaaGreatZLPlain
namespace Go.Proofs.YtmamlgaogpkagaaGreat
open Go.RowKit
set_option linter.unusedVariables false
set_option linter.unusedSimpArgs false
theorem getD_zero (p:Sp) (L:List Sp):(p :: L).getD 0 (0,0)=p:=rfl
theorem getD_succ (p:Sp) (L:List Sp) (j:Nat):(p :: L).getD (j+1) (0,0)=L.getD j (0,0):=rfl
theorem getD_mem {L:List Sp} {j:Nat} (h:j<L.length):L.getD j (0,0)∈L:=by
 rw [List.getD_eq_getElem?_getD,List.getElem?_eq_getElem h];exact List.getElem_mem h
theorem mem_getD {L:List Sp} {p:Sp} (h:p∈L):∃ j,j<L.length∧L.getD j (0,0)=p:=by
 obtain ⟨j,hj,rfl⟩:=List.getElem_of_mem h;exact ⟨j,hj,by rw [List.getD_eq_getElem?_getD,List.getElem?_eq_getElem hj];rfl⟩
def fdN:List Sp→Int→Nat
 | [],_=>0
 | p :: L,x=>if p.2≤x then fdN L x+1 else 0
theorem fd_le:∀ (L:List Sp) (x:Int),fdN L x≤L.length
  | [],_=>Nat.le_refl _
  | p :: L,x=>by
    have:=fd_le L x;rw [fdN,List.length_cons]
    split <;> omega
theorem fd_iff:∀ {L:List Sp},Cn L→∀ {x:Int} {j:Nat},j<L.length→((L.getD j (0,0)).2≤x↔j<fdN L x)
  | [],_,_,_,h=>absurd h (Nat.not_lt_zero _)
  | p :: L,c,x,0,_=>by
    rw [getD_zero,fdN]
    split
    · exact ⟨fun _=>Nat.succ_pos _,fun _=>by assumption⟩
    · exact ⟨fun h=>by omega,fun h=>absurd h (Nat.lt_irrefl _)⟩
  | p :: L,c,x,j+1,h=>by
    have hj:j<L.length:=by simpa using h
    have ih:=fd_iff c.2.2 (x:=x) hj;rw [getD_succ,fdN];have m:=getD_mem hj;have a:=c.2.1 _ m;have b:=c.2.2.lt _ m
    split
    · rw [ih];omega
    · exact ⟨fun h=>by omega,fun h=>absurd h (Nat.not_lt_zero _)⟩
theorem fd_eq {L:List Sp} (c:Cn L) {x:Int} {i:Nat} (hi:i≤L.length) (a:∀ j,j<i→(L.getD j (0,0)).2≤x) (b:∀ j,i≤j→j<L.length→¬ (L.getD j (0,0)).2≤x):i=fdN L x:=by
 have l:=fd_le L x
 rcases Nat.lt_trichotomy i (fdN L x) with z | z | z
 ·exact absurd ((fd_iff c (x:=x) (by omega)).2 z) (b i (Nat.le_refl _) (by omega))
 ·exact z
 ·exact absurd ((fd_iff c (x:=x) (by omega)).1 (a _ z)) (Nat.lt_irrefl _)
def fdH (L:List Sp) (x:Int):Bool:=decide (fdN L x<L.length)&&decide ((L.getD (fdN L x) (0,0)).1≤x)
theorem fd_in:∀ {L:List Sp},Cn L→∀ x,fdH L x=inB L x
  | [],_,_=>rfl
  | p :: L,c,x=>by
    have ih:=fd_in c.2.2 x;rw [cn_head c,fdH,fdN]
    by_cases z:p.2≤x
    · rw [if_pos z,if_neg (by omega),← ih,fdH,getD_succ,List.length_cons]
      congr 1
      exact decide_eq_decide.2 (by omega)
    · rw [if_neg z,if_pos (by omega),getD_zero,decide_eq_true (by simp),Bool.true_and]
def mgS (R:List Sp) (s:Sp):List Sp :=
 if 0<R.length∧s.1≤(R.getD (R.length - 1) (0,0)).2 then R.dropLast++[((R.getD (R.length - 1) (0,0)).1,if (R.getD (R.length - 1) (0,0)).2<s.2 then s.2 else (R.getD (R.length - 1) (0,0)).2)] else R++[s]
theorem last_snoc (R:List Sp) (q:Sp):(R++[q]).getD ((R++[q]).length - 1) (0,0)=q:=by
 rw [List.getD_eq_getElem?_getD];simp
theorem mg_nil (s:Sp):mgS [] s=[s]:=rfl
theorem mg_snoc (R:List Sp) (q s:Sp):mgS (R++[q]) s=if s.1≤q.2 then R++[(q.1,if q.2<s.2 then s.2 else q.2)] else R++[q]++[s]:=by
 unfold mgS
 rw [last_snoc];have h:0<(R++[q]).length:=by simp
 by_cases z:s.1≤q.2
 ·rw [if_pos ⟨h,z⟩,if_pos z,List.dropLast_concat]
 ·rw [if_neg (fun y=>z y.2),if_neg z]
theorem inB_one (s:Sp) (x:Int):inB [s] x=(decide (s.1≤x)&&decide (x<s.2)):=by simp [inB]
theorem mg_ok {R:List Sp} {s:Sp} (c:Cn R) (b:∀ q,q∈R→q.1≤s.1) (h:s.1<s.2) :
  Cn (mgS R s)∧(∀ x,inB (mgS R s) x=(inB R x || (decide (s.1≤x)&&decide (x<s.2))))∧∀ q,q∈mgS R s→q.1≤s.1:=by
 rcases snoc_cases R with rfl | ⟨R,q,rfl⟩
 ·rw [mg_nil];exact ⟨⟨h,fun q hq=>(by cases hq),trivial⟩,fun x=>by rw [inB_one];rfl,fun q hq=>by rw [List.mem_singleton.1 hq];exact Int.le_refl _⟩
 ·obtain ⟨c1,c2,c3⟩:=cn_last c;have bq:=b q (by simp);rw [mg_snoc]
  by_cases z:s.1≤q.2
  ·rw [if_pos z];refine ⟨cn_snoc c1 c2 (by show q.1<ite _ _ _;split <;> omega),fun x=>?_,fun r hr=>?_⟩
   ·rw [inB_app,inB_app,inB_one,inB_one,Bool.or_assoc]
    congr 1
    rw [Bool.eq_iff_iff]
    simp only [Bool.and_eq_true,Bool.or_eq_true,decide_eq_true_iff]
    split <;> omega
   ·rcases List.mem_append.1 hr with hr | hr
    ·exact b r (List.mem_append_left _ hr)
    ·rw [List.mem_singleton.1 hr];exact bq
  ·rw [if_neg z];refine ⟨cn_snoc c (fun r hr=>?_) h,fun x=>by rw [inB_app,inB_one],fun r hr=>?_⟩
   ·rcases List.mem_append.1 hr with hr | hr
    ·have:=c2 r hr;omega
    ·rw [List.mem_singleton.1 hr];omega
   ·rcases List.mem_append.1 hr with hr | hr
    ·exact b r hr
    ·rw [List.mem_singleton.1 hr];exact Int.le_refl _
def mgK (L:List Sp):Nat→List Sp
 | 0=>[]
 | k+1=>mgS (mgK L k) (L.getD k (0,0))
theorem mgK_inv {L:List Sp} (s:∀ i j,i<j→j<L.length→(L.getD i (0,0)).1≤(L.getD j (0,0)).1) (v:∀ p,p∈L→p.1<p.2):∀ k,k≤L.length →
    Cn (mgK L k)∧(∀ x,inB (mgK L k) x=true↔∃ j,j<k∧(L.getD j (0,0)).1≤x∧x<(L.getD j (0,0)).2)∧∀ q,q∈mgK L k→∃ j,j<k∧q.1≤(L.getD j (0,0)).1
  | 0,_=>⟨trivial,fun x=>⟨fun h=>(by cases h),fun ⟨j,hj,_⟩=>absurd hj (Nat.not_lt_zero _)⟩,fun q hq=>(by cases hq)⟩
  | k+1,hk=>by
    obtain ⟨c,e,b⟩:=mgK_inv s v k (by omega);have b':∀ q,q∈mgK L k→q.1≤(L.getD k (0,0)).1:=fun q hq=>by
      obtain ⟨j,hj,a⟩:=b q hq;have:=s j k hj (by omega);omega
    obtain ⟨c',e',b''⟩:=mg_ok c b' (v _ (getD_mem (by omega:k<L.length)));rw [mgK];refine ⟨c',fun x=>?_,fun q hq=>⟨k,Nat.lt_succ_self _,b'' q hq⟩⟩;rw [e' x,Bool.or_eq_true,e x,Bool.and_eq_true,decide_eq_true_iff,decide_eq_true_iff]
    constructor
    · rintro (⟨j,hj,a⟩ | a)
      · exact ⟨j,by omega,a⟩
      · exact ⟨k,by omega,a⟩
    · rintro ⟨j,hj,a⟩
      rcases Nat.lt_or_ge j k with y | y
      · exact .inl ⟨j,y,a⟩
      · obtain rfl:j=k:=by omega
        exact .inr a
theorem mg_of {L L':List Sp} (m:∀ p,p∈L'↔p∈L) (v:∀ p,p∈L→p.1<p.2) (s:∀ i j,i<j→j<L'.length→(L'.getD i (0,0)).1≤(L'.getD j (0,0)).1):mgK L' L'.length=cbL 1 L []:=by
 obtain ⟨c,e,-⟩:=mgK_inv s (fun p hp=>v p ((m p).1 hp)) L'.length (Nat.le_refl _);obtain ⟨c2,e2,-⟩:=cb_spec 1 L [];refine cn_ext c c2 fun x=>?_;have k1:∀ a,kpB 1 a false=a:=fun a=>by cases a <;> rfl
 rw [e2,inB_nil,k1,Bool.eq_iff_iff,e,inB_iff]
 constructor
 ·rintro ⟨j,hj,a⟩;exact ⟨_,(m _).1 (getD_mem hj),a⟩
 ·rintro ⟨p,hp,a⟩;obtain ⟨j,hj,rfl⟩:=mem_getD ((m p).2 hp);exact ⟨j,hj,a⟩
def edL (A:List Sp) (i:Nat):Int:=if 2 * A.length≤i then 4398046511105 else if i % 2=0 then (A.getD (i / 2) (0,0)).1 else (A.getD (i / 2) (0,0)).2
theorem ed_off {A:List Sp} {i:Nat} (h:2 * A.length≤i):edL A i=4398046511105:=by rw [edL,if_pos h]
theorem ed_even {A:List Sp} {m:Nat} (h:m<A.length):edL A (2 * m)=(A.getD m (0,0)).1:=by
 rw [edL,if_neg (by omega),if_pos (by omega),show 2 * m / 2=m by omega]
theorem ed_odd {A:List Sp} {m:Nat} (h:m<A.length):edL A (2 * m+1)=(A.getD m (0,0)).2:=by
 rw [edL,if_neg (by omega),if_neg (by omega),show (2 * m+1) / 2=m by omega]
theorem ed_lt {A:List Sp} (c:Cn A) (l:Ln A) {i:Nat} (h:i<2 * A.length):edL A i<edL A (i+1):=by
 obtain ⟨m,z⟩:∃ m,i=2 * m∨i=2 * m+1:=⟨i / 2,by omega⟩
 rcases z with rfl | rfl
 ·rw [ed_even (by omega),ed_odd (by omega)];exact c.lt _ (getD_mem (by omega))
 ·rw [ed_odd (by omega)]
  by_cases y:m+1<A.length
  ·rw [show 2 * m+1+1=2 * (m+1) by omega,ed_even y];exact gpB_at.1 (gp_of_cn c) m y
  ·rw [ed_off (by omega)];have:=l _ (getD_mem (by omega:m<A.length));omega
theorem ed_mono {A:List Sp} (c:Cn A) (l:Ln A) {i:Nat}:∀ d,i+d+1≤2 * A.length→edL A i<edL A (i+d+1)
  | 0,h=>ed_lt c l (by omega)
  | d+1,h=>by
    have a:=ed_mono c l (i:=i) d (by omega);have b:=ed_lt c l (i:=i+d+1) (by omega);rw [show i+(d+1)+1=i+d+1+1 by omega];omega
theorem ed_less {A:List Sp} (c:Cn A) (l:Ln A) {i j:Nat} (h:i<j) (hj:j≤2 * A.length):edL A i<edL A j:=by
 have:=ed_mono c l (i:=i) (j - i - 1) (by omega);rwa [show i+(j - i - 1)+1=j by omega] at this
theorem ed_top {A:List Sp} (c:Cn A) (l:Ln A) {i:Nat} (h:i<2 * A.length):edL A i<4398046511105:=by
 have:=ed_less c l h (Nat.le_refl _);rwa [ed_off (Nat.le_refl _)] at this
theorem ed_in {A:List Sp} (c:Cn A) (l:Ln A) {i:Nat} (hi:i≤2 * A.length) {y:Int} (a:∀ m,m<i→edL A m≤y) (b:y<edL A i):inB A y=decide (i % 2=1):=by
 rw [Bool.eq_iff_iff,inB_iff,decide_eq_true_iff]
 constructor
 ·rintro ⟨p,hp,p0,p1⟩;obtain ⟨j,hj,rfl⟩:=mem_getD hp;rw [← ed_even hj] at p0;rw [← ed_odd hj] at p1
  rcases Nat.lt_or_ge (2 * j+1) i with y' | y'
  ·have:=a _ y';omega
  rcases Nat.lt_or_ge i (2 * j+1) with z | z
  ·rcases Nat.lt_or_ge i (2 * j) with t | t
   ·have:=ed_less c l t (by omega);omega
   ·obtain rfl:i=2 * j:=by omega
    omega
  ·omega
 ·intro o;obtain ⟨m,rfl⟩:∃ m,i=2 * m+1:=⟨i / 2,by omega⟩;have hm:m<A.length:=by omega
  refine ⟨A.getD m (0,0),getD_mem hm,?_,?_⟩
  ·rw [← ed_even hm];exact a _ (by omega)
  ·rw [← ed_odd hm];exact b
structure SwI (k:Int) (A B:List Sp) (i j:Nat) (fr:Int) (kp:Bool) (R:List Sp) (N:Int):Prop where
 i1:i≤2 * A.length
 j1:j≤2 * B.length
 kv:kp=kpB k (decide (i % 2=1)) (decide (j % 2=1))
 n1:N=if edL B j<edL A i then edL B j else edL A i
 a1:∀ m,m<i→edL A m<N
 b1:∀ m,m<j→edL B m<N
 cn:Cn R
 op:kp=true→fr<N∧∀ q,q∈R→q.2<fr
 cl:∀ q,q∈R→q.2<N
 sp:∀ y,y<N→(inB R y || (kp&&decide (fr≤y)))=kpB k (inB A y) (inB B y)
 ln:R.length≤i+j
theorem sw_start {k:Int} {A B:List Sp} (hA:Cn A) (lA:Ln A) (hB:Cn B) (lB:Ln B):SwI k A B 0 0 0 false [] (if edL B 0<edL A 0 then edL B 0 else edL A 0):=by
 refine ⟨Nat.zero_le _,Nat.zero_le _,by rw [show decide (0 % 2=1)=false from rfl,kp_no],rfl,fun m h=>absurd h (Nat.not_lt_zero _),fun m h=>absurd h (Nat.not_lt_zero _),trivial,fun h=>(by cases h),fun q h=>(by cases h),fun y hy=>?_,Nat.le_refl _⟩;have a:inB A y=false:=by
  rw [ed_in hA lA (Nat.zero_le _) (fun m h=>absurd h (Nat.not_lt_zero _)) (by split at hy <;> omega)];rfl
 have b:inB B y=false:=by
  rw [ed_in hB lB (Nat.zero_le _) (fun m h=>absurd h (Nat.not_lt_zero _)) (by split at hy <;> omega)];rfl
 rw [a,b,kp_no];rfl
theorem in_high {R:List Sp} {y:Int} (h:∀ q,q∈R→q.2≤y):inB R y=false:=by
 rw [← Bool.not_eq_true,inB_iff];rintro ⟨p,hp,-,a⟩;have:=h p hp;omega
theorem sw_step {k:Int} {A B:List Sp} (hA:Cn A) (lA:Ln A) (hB:Cn B) (lB:Ln B) {i j:Nat} {fr:Int} {kp:Bool} {R:List Sp} {N:Int} (S:SwI k A B i j fr kp R N) (h:i<2 * A.length∨j<2 * B.length)
  {i' j':Nat} (hi:i'=if edL A i=N then i+1 else i) (hj:j'=if edL B j=N then j+1 else j) {kp':Bool} (hk:kp'=kpB k (decide (i' % 2=1)) (decide (j' % 2=1))) :
  SwI k A B i' j' (if kp'&&!kp then N else fr) kp' (if kp&&!kp' then R++[(fr,N)] else R) (if edL B j'<edL A i' then edL B j' else edL A i')∧i+j<i'+j':=by
 obtain ⟨i1,j1,kv,n1,a1,b1,cn,op,cl,sp,ln⟩:=S;have top:N<4398046511105:=by
  rw [n1]
  rcases h with h | h
  ·have:=ed_top hA lA h;split <;> omega
  ·have:=ed_top hB lB h;split <;> omega
 have ga:N≤edL A i:=by rw [n1];split <;> omega
 have gb:N≤edL B j:=by rw [n1];split <;> omega
 have ea:edL A i=N→i<2 * A.length:=fun e=>by
  rcases Nat.lt_or_ge i (2 * A.length) with z | z
  ·exact z
  ·rw [ed_off z] at e;omega
 have eb:edL B j=N→j<2 * B.length:=fun e=>by
  rcases Nat.lt_or_ge j (2 * B.length) with z | z
  ·exact z
  ·rw [ed_off z] at e;omega
 have i1':i'≤2 * A.length:=by
  rw [hi];split
  ·have:=ea (by assumption);omega
  ·exact i1
 have j1':j'≤2 * B.length:=by
  rw [hj];split
  ·have:=eb (by assumption);omega
  ·exact j1
 have a2:∀ m,m<i'→edL A m≤N:=fun m hm=>by
  rcases Nat.lt_or_ge m i with z | z
  ·have:=a1 m z;omega
  ·rw [hi] at hm
   split at hm
   ·obtain rfl:m=i:=by omega
    omega
   ·omega
 have b2:∀ m,m<j'→edL B m≤N:=fun m hm=>by
  rcases Nat.lt_or_ge m j with z | z
  ·have:=b1 m z;omega
  ·rw [hj] at hm
   split at hm
   ·obtain rfl:m=j:=by omega
    omega
   ·omega
 have a3:N<edL A i':=by
  rw [hi];split
  ·have:=ed_lt hA lA (ea (by assumption));omega
  ·omega
 have b3:N<edL B j':=by
  rw [hj];split
  ·have:=ed_lt hB lB (eb (by assumption));omega
  ·omega
 have more:i+j<i'+j':=by
  have:edL A i=N∨edL B j=N:=by
   rw [n1];split
   ·exact .inr rfl
   ·exact .inl rfl
  rw [hi,hj]
  rcases this with e | e
  ·rw [if_pos e];split <;> omega
  ·rw [if_pos e];split <;> omega
 obtain ⟨M,hM⟩:∃ M,(if edL B j'<edL A i' then edL B j' else edL A i')=M:=⟨_,rfl⟩;have nm:N<M:=by rw [← hM];split <;> omega
 have ma:M≤edL A i':=by rw [← hM];split <;> omega
 have mb:M≤edL B j':=by rw [← hM];split <;> omega
 have mid:∀ y,N≤y→y<M→kpB k (inB A y) (inB B y)=kp':=fun y y0 y1=>by
  rw [ed_in hA lA i1' (fun m hm=>by have:=a2 m hm;omega) (by omega),ed_in hB lB j1' (fun m hm=>by have:=b2 m hm;omega) (by omega),hk]
 rw [hM];have R0:∀ y,N≤y→inB R y=false:=fun y hy=>in_high (fun q hq=>by have:=cl q hq;omega);refine ⟨⟨i1',j1',hk,hM.symm,fun m hm=>by have:=a2 m hm;omega,fun m hm=>by have:=b2 m hm;omega,?_,?_,?_,?_,?_⟩,more⟩
 ·cases kp <;> cases kp' <;> simp only [Bool.and_false,Bool.and_true,Bool.not_true,Bool.not_false,Bool.false_eq_true,if_false,if_true]
  ·exact cn
  ·exact cn
  ·obtain ⟨f1,f2⟩:=op rfl;exact cn_snoc cn f2 f1
  ·exact cn
 ·intro e;subst e
  cases kp <;> simp only [Bool.and_false,Bool.and_true,Bool.not_true,Bool.not_false,Bool.false_eq_true,if_false,if_true]
  ·exact ⟨nm,cl⟩
  ·obtain ⟨f1,f2⟩:=op rfl;exact ⟨by omega,f2⟩
 ·intro q hq
  cases kp <;> cases kp' <;> simp only [Bool.and_false,Bool.and_true,Bool.not_true,Bool.not_false,Bool.false_eq_true,if_false,if_true] at hq
  ·have:=cl q hq;omega
  ·have:=cl q hq;omega
  ·rcases List.mem_append.1 hq with hq | hq
   ·have:=cl q hq;omega
   ·rw [List.mem_singleton.1 hq];exact nm
  ·have:=cl q hq;omega
 ·intro y hy
  rcases Int.lt_or_le y N with z | z
  ·rw [← sp y z]
   cases kp <;> cases kp' <;> simp only [Bool.and_false,Bool.and_true,Bool.not_true,Bool.not_false,Bool.false_eq_true,if_false,if_true,Bool.false_and,Bool.true_and,Bool.or_false]
   ·rw [decide_eq_false (by omega),Bool.or_false]
   ·rw [inB_app,inB_one,decide_eq_true z,Bool.and_true]
  ·rw [mid y z hy]
   cases kp <;> cases kp' <;> simp only [Bool.and_false,Bool.and_true,Bool.not_true,Bool.not_false,Bool.false_eq_true,if_false,if_true,Bool.false_and,Bool.true_and,Bool.or_false]
   ·exact R0 y z
   ·rw [decide_eq_true z,Bool.or_true]
   ·rw [inB_app,inB_one,R0 y z,decide_eq_false (by omega:¬ y<N),Bool.and_false];rfl
   ·obtain ⟨f1,f2⟩:=op rfl;rw [decide_eq_true (by omega:fr≤y),Bool.or_true]
 ·split
  ·rw [List.length_append,List.length_singleton];omega
  ·omega
theorem sw_end {k:Int} {A B:List Sp} (lA:Ln A) (lB:Ln B) {i j:Nat} {fr:Int} {kp:Bool} {R:List Sp} {N:Int} (S:SwI k A B i j fr kp R N) (hi:2 * A.length≤i) (hj:2 * B.length≤j):R=cbL k A B:=by
 obtain ⟨i1,j1,kv,n1,a1,b1,cn,op,cl,sp,ln⟩:=S;obtain ⟨c2,e2,-⟩:=cb_spec k A B;have hN:N=4398046511105:=by rw [n1,ed_off hi,ed_off hj];rfl
 have hk:kp=false:=by
  rw [kv,decide_eq_false (by omega),decide_eq_false (by omega),kp_no]
 refine cn_ext cn c2 fun x=>?_;rw [e2]
 rcases Int.lt_or_le x N with z | z
 ·rw [← sp x z,hk];simp
 ·rw [in_high (fun q hq=>by have:=cl q hq;omega),in_high (fun q hq=>by have:=lA q hq;omega),in_high (fun q hq=>by have:=lB q hq;omega),kp_no]
def hsP (P:Int) (L:List Sp) (x:Int):Bool:=inB L (x % P)
def InP (P:Int) (L:List Sp):Prop:=∀ q,q∈L→0≤q.1∧q.2≤P
theorem in_out {P:Int} {L:List Sp} (h:InP P L) {x:Int} (i:inB L x=true):0≤x∧x<P:=by
 obtain ⟨p,hp,a,b⟩:=inB_iff.1 i;have:=h p hp;omega
theorem hs_in {P:Int} {L:List Sp} {x:Int} (h0:0≤x) (h1:x<P):hsP P L x=inB L x:=by
 unfold hsP;rw [Int.emod_eq_of_lt h0 h1]
def Per (f:Int→Bool) (q:Int):Prop:=∀ x,f (x+q)=f x
theorem Per.zero (f:Int→Bool):Per f 0:=fun x=>by rw [Int.add_zero]
theorem Per.neg {f:Int→Bool} {q:Int} (h:Per f q):Per f (-q):=fun x=>by
 have:=h (x+-q);rw [show x+-q+q=x by omega] at this;exact this.symm
theorem Per.add {f:Int→Bool} {q r:Int} (h:Per f q) (k:Per f r):Per f (q+r):=fun x=>by
 rw [← Int.add_assoc,k,h]
theorem Per.mulNat {f:Int→Bool} {q:Int} (h:Per f q):∀ n:Nat,Per f (q * n)
  | 0=>by simpa using Per.zero f
  | n+1=>by
    have:=(Per.mulNat h n).add h;rwa [show q * ((n+1:Nat):Int)=q * n+q by rw [Int.natCast_succ,Int.mul_add,Int.mul_one]]
theorem Per.mul {f:Int→Bool} {q:Int} (h:Per f q) (n:Int):Per f (q * n):=by
 rcases Int.le_total 0 n with z | z
 ·obtain ⟨m,rfl⟩:=Int.eq_ofNat_of_zero_le z;exact h.mulNat m
 ·obtain ⟨m,e⟩:=Int.eq_ofNat_of_zero_le (show 0≤-n by omega);have:=(h.mulNat m).neg;rwa [show q * n=-(q * (m:Int)) by rw [← e,Int.mul_neg,Int.neg_neg]]
theorem Per.mod {f:Int→Bool} {q:Int} (h:Per f q) (x:Int):f (x % q)=f x:=by
 have:=(h.mul (x / q)) (x % q);rw [show x % q+q * (x / q)=x by have:=Int.emod_add_mul_ediv x q;omega] at this;exact this.symm
theorem Per.emod {f:Int→Bool} {q r:Int} (h:Per f q) (k:Per f r):Per f (q % r):=by
 have:=h.add ((k.mul (q / r)).neg);rwa [show q+-(r * (q / r))=q % r by have:=Int.emod_add_mul_ediv q r;omega] at this
theorem per_gcd {f:Int→Bool}:∀ (n:Nat) {a b:Int},0≤a→0≤b→b.toNat≤n→Per f a→Per f b→∃ g,0≤g∧g ∣ a∧g ∣ b∧Per f g
  | 0,a,b,a0,b0,h,ha,hb=>by
    obtain rfl:b=0:=by omega
    exact ⟨a,a0,Int.dvd_refl a,Int.dvd_zero a,ha⟩
  | n+1,a,b,a0,b0,h,ha,hb=>by
    by_cases z:b=0
    · subst z;exact ⟨a,a0,Int.dvd_refl a,Int.dvd_zero a,ha⟩
    · have m0:=Int.emod_nonneg a z;have m1:=Int.emod_lt_of_pos a (show 0<b by omega);obtain ⟨g,g0,g1,g2,g3⟩:=per_gcd n (a:=b) (b:=a % b) b0 m0 (by omega) hb (ha.emod hb);refine ⟨g,g0,?_,g1,g3⟩;have e:a % b+b * (a / b)=a:=Int.emod_add_mul_ediv a b;rw [← e];exact Int.dvd_add g2 (Int.dvd_trans g1 (Int.dvd_mul_right b _))
structure Lst (f:Int→Bool) (P d:Int):Prop where
 pos:0<d
 dvd:d ∣ P
 per:Per f d
 least:∀ e,0<e→e ∣ P→Per f e→d≤e
theorem Lst.dvd_of {f:Int→Bool} {P d e:Int} (h:Lst f P d) (e0:0<e) (he:Per f e):d ∣ e:=by
 obtain ⟨g,g0,g1,g2,g3⟩:=per_gcd (f:=f) (e.toNat) (a:=d) (b:=e) (Int.le_of_lt h.pos) (Int.le_of_lt e0) (Nat.le_refl _) h.per he;have gp:0<g:=by
  rcases Int.lt_or_eq_of_le g0 with z | z
  ·exact z
  ·subst z;have:=Int.zero_dvd.1 g1;have:=h.pos;omega
 have a:=h.least g gp (Int.dvd_trans g1 h.dvd) g3;have b:=Int.le_of_dvd h.pos g1;obtain rfl:g=d:=by omega
 exact g2
theorem Lst.unique {f:Int→Bool} {P Q d e:Int} (h:Lst f P d) (k:Lst f Q e):d=e:=by
 have a:=Int.le_of_dvd k.pos (h.dvd_of k.pos k.per);have b:=Int.le_of_dvd h.pos (k.dvd_of h.pos h.per);omega
theorem hs_per {P:Int} {L:List Sp}:Per (hsP P L) P:=fun x=>by
 unfold hsP;rw [Int.add_emod_right]
def cuL (d:Int) (L:List Sp):List Sp:=(L.filter fun q=>decide (q.1<d)).map fun q=>(q.1,if q.2<d then q.2 else d)
theorem cu_in (d:Int) (L:List Sp) (x:Int):inB (cuL d L) x=(decide (x<d)&&inB L x):=by
 rw [Bool.eq_iff_iff,inB_iff,Bool.and_eq_true,decide_eq_true_iff,inB_iff]
 constructor
 ·rintro ⟨p,hp,a,b⟩;obtain ⟨q,hq,rfl⟩:=List.mem_map.1 hp;obtain ⟨hq,lt⟩:=List.mem_filter.1 hq;replace b:x<if q.2<d then q.2 else d:=b
  split at b
  ·exact ⟨by omega,q,hq,a,b⟩
  ·exact ⟨b,q,hq,a,by omega⟩
 ·rintro ⟨l,q,hq,a,b⟩;refine ⟨_,List.mem_map.2 ⟨q,List.mem_filter.2 ⟨hq,decide_eq_true (by omega)⟩,rfl⟩,a,?_⟩
  show x<if q.2<d then q.2 else d
  split <;> omega
theorem cu_cn:∀ {L:List Sp} (d:Int),Cn L→Cn (cuL d L)
  | [],_,_=>trivial
  | p :: L,d,h=>by
    have ih:=cu_cn (L:=L) d h.2.2
    unfold cuL at ih ⊢
    rw [List.filter_cons]
    by_cases z:p.1<d
    · rw [if_pos (decide_eq_true z),List.map_cons];refine ⟨by show p.1<if p.2<d then p.2 else d;have:=h.1;split <;> omega,fun q hq=>?_,ih⟩;obtain ⟨r,hr,rfl⟩:=List.mem_map.1 hq;obtain ⟨hr,lt⟩:=List.mem_filter.1 hr;have:=h.2.1 r hr;have lt:=of_decide_eq_true lt
      show (if p.2<d then p.2 else d)<r.1
      split <;> omega
    · rw [if_neg (by simpa using z)];exact ih
theorem cu_len (d:Int) (L:List Sp):(cuL d L).length≤L.length:=by
 unfold cuL;rw [List.length_map];exact List.length_filter_le _ _
def caN (f:Int→Bool) (a:Int):Nat→List Sp
 | 0=>[]
 | n+1=>if f (a+n) then addL (caN f a n) (a+n,a+n+1) else caN f a n
def caL (f:Int→Bool) (a b:Int):List Sp:=caN f a (b - a).toNat
theorem caN_ok (f:Int→Bool) (a:Int):∀ n:Nat,Cn (caN f a n)∧(∀ x,inB (caN f a n) x=(decide (a≤x)&&decide (x<a+n)&&f x))∧∀ q,q∈caN f a n→q.2≤a+n
  | 0=>⟨trivial,fun x=>by
      show false=_
      by_cases z:a≤x
      · rw [decide_eq_false (show ¬ x<a+((0:Nat):Int) by omega),Bool.and_false,Bool.false_and]
      · rw [decide_eq_false z,Bool.false_and,Bool.false_and],fun q hq=>by cases hq⟩
  | n+1=>by
    obtain ⟨c,m,b⟩:=caN_ok f a n;rw [caN]
    by_cases z:f (a+n)=true
    · rw [if_pos z];obtain ⟨c',m',-,b'⟩:=add_ok (s:=(a+n,a+n+1)) c (fun q hq=>b q hq) (by show a+(n:Int)<a+n+1;omega);refine ⟨c',fun x=>?_,fun q hq=>by have:=b' q hq;show q.2≤_;have e:((a+n,a+n+1):Sp).2=a+n+1:=rfl;omega⟩;rw [m',m]
      show (_ || (decide (a+n≤x)&&decide (x<a+n+1)))=_
      by_cases y:x=a+n
      · subst y;rw [z,decide_eq_true (Int.le_refl _),decide_eq_true (show a+(n:Int)<a+n+1 by omega),decide_eq_true (show a≤a+(n:Int) by omega),decide_eq_true (show a+(n:Int)<a+((n+1:Nat):Int) by omega)]
        simp
      · have e1:(decide (a+n≤x)&&decide (x<a+n+1))=false:=by
          rw [← Bool.not_eq_true,Bool.and_eq_true,decide_eq_true_iff,decide_eq_true_iff];omega
        rw [e1,Bool.or_false,decide_eq_decide.2 (show x<a+(n:Int)↔x<a+((n+1:Nat):Int) by omega)]
    · rw [if_neg z];refine ⟨c,fun x=>?_,fun q hq=>by have:=b q hq;omega⟩;rw [m]
      by_cases y:x=a+n
      · subst y;rw [show f (a+n)=false by simpa using z,Bool.and_false,Bool.and_false]
      · rw [decide_eq_decide.2 (show x<a+(n:Int)↔x<a+((n+1:Nat):Int) by omega)]
theorem ca_cn (f:Int→Bool) (a b:Int):Cn (caL f a b):=(caN_ok f a _).1
theorem ca_in (f:Int→Bool) (a b x:Int):inB (caL f a b) x=(decide (a≤x)&&decide (x<b)&&f x):=by
 unfold caL
 rw [(caN_ok f a _).2.1]
 by_cases z:a≤x
 ·rw [decide_eq_decide.2 (show x<a+((b - a).toNat:Int)↔x<b by omega)]
 ·rw [decide_eq_false z,Bool.false_and,Bool.false_and,Bool.false_and,Bool.false_and]
theorem ca_ends (f:Int→Bool) (a b:Int):∀ q,q∈caL f a b→a≤q.1∧q.2≤b:=fun q hq=>by
 have lt:=(ca_cn f a b).lt q hq;have h0:inB (caL f a b) q.1=true:=inB_iff.2 ⟨q,hq,Int.le_refl _,lt⟩;have h1:inB (caL f a b) (q.2 - 1)=true:=inB_iff.2 ⟨q,hq,by omega,by omega⟩;rw [ca_in,Bool.and_eq_true,Bool.and_eq_true,decide_eq_true_iff,decide_eq_true_iff] at h0 h1;omega
theorem ca_eq {f:Int→Bool} {a b:Int} {L:List Sp} (c:Cn L) (h:∀ x,inB L x=(decide (a≤x)&&decide (x<b)&&f x)):L=caL f a b :=
 cn_ext c (ca_cn f a b) fun x=>by rw [h,ca_in]
theorem ca_congr {f g:Int→Bool} {a b:Int} (h:∀ x,a≤x→x<b→f x=g x):caL f a b=caL g a b :=
 ca_eq (ca_cn f a b) fun x=>by
  rw [ca_in]
  by_cases z:a≤x∧x<b
  ·rw [h x z.1 z.2]
  ·by_cases y:a≤x
   ·rw [decide_eq_false (show ¬ x<b by omega),Bool.and_false,Bool.false_and,Bool.false_and]
   ·rw [decide_eq_false y];rfl
theorem ca_inp (f:Int→Bool) (d:Int):InP d (caL f 0 d):=ca_ends f 0 d
theorem ca_hs {f:Int→Bool} {d:Int} (d0:0<d) (per:Per f d) (x:Int):hsP d (caL f 0 d) x=f x:=by
 have m0:=Int.emod_nonneg x (show d≠0 by omega);have m1:=Int.emod_lt_of_pos x d0
 show inB _ (x % d)=_
 rw [ca_in,decide_eq_true m0,decide_eq_true m1,Bool.true_and,Bool.true_and];exact per.mod x
theorem ca_self {P:Int} {L:List Sp} (c:Cn L) (i:InP P L):L=caL (hsP P L) 0 P :=
 ca_eq c fun x=>by
  by_cases z:0≤x∧x<P
  ·rw [hs_in z.1 z.2,decide_eq_true z.1,decide_eq_true z.2];rfl
  ·have e:inB L x=false:=by rw [← Bool.not_eq_true];intro q;exact z (in_out i q)
   rw [e]
   by_cases y:0≤x
   ·rw [decide_eq_false (show ¬ x<P by omega),Bool.and_false,Bool.false_and]
   ·rw [decide_eq_false y];rfl
theorem lst_ex {f:Int→Bool} {m:Int} (m0:0<m) (per:Per f m):∃ d,Lst f m d:=by
  have go:∀ n:Nat,(∃ e:Int,0<e∧e≤n∧e ∣ m∧Per f e)→∃ d,Lst f m d:=by
    intro n
    induction n with
    | zero=>rintro ⟨e,a,b,-⟩;omega
    | succ n ih =>
      rintro ⟨e,a,b,c,d⟩
      by_cases z:∃ e:Int,0<e∧e≤n∧e ∣ m∧Per f e
      · exact ih z
      · refine ⟨e,a,c,d,fun e' a' c' d'=>?_⟩
        rcases Int.lt_or_le e' e with y | y
        · exact absurd ⟨e',a',by omega,c',d'⟩ z
        · exact y
  exact go m.toNat ⟨m,m0,by omega,Int.dvd_refl m,per⟩
open Classical in
noncomputable def leF (m:Int) (f:Int→Bool):Int:=if h:∃ d,Lst f m d then h.choose else m
theorem le_lst {f:Int→Bool} {m:Int} (m0:0<m) (per:Per f m):Lst f m (leF m f):=by
 have h:=lst_ex m0 per
 unfold leF
 rw [dif_pos h];exact h.choose_spec
theorem le_eq {f:Int→Bool} {m d:Int} (h:Lst f m d):leF m f=d:=by
 have e:∃ d,Lst f m d:=⟨d,h⟩
 unfold leF
 rw [dif_pos e];exact e.choose_spec.unique h
noncomputable def fmP (m:Int) (f:Int→Bool):Int × List Sp:=(leF m f,caL f 0 (leF m f))
theorem fm_hs {f:Int→Bool} {m:Int} (m0:0<m) (per:Per f m) (x:Int):hsP (fmP m f).1 (fmP m f).2 x=f x :=
 ca_hs (le_lst m0 per).pos (le_lst m0 per).per x
theorem fm_any {f:Int→Bool} {m n:Int} (m0:0<m) (n0:0<n) (pm:Per f m) (pn:Per f n):fmP m f=fmP n f:=by
 have e:leF m f=leF n f:=(le_lst m0 pm).unique (le_lst n0 pn)
 unfold fmP;rw [e]
theorem fm_self {P:Int} {L:List Sp} (c:Cn L) (i:InP P L) (h:Lst (hsP P L) P P):fmP P (hsP P L)=(P,L):=by
 unfold fmP;rw [le_eq h,← ca_self c i]
theorem fm_lst {f:Int→Bool} {m:Int} (m0:0<m) (per:Per f m):Lst (hsP (fmP m f).1 (fmP m f).2) (fmP m f).1 (fmP m f).1:=by
 have e:hsP (fmP m f).1 (fmP m f).2=f:=funext (fm_hs m0 per);have l:=le_lst m0 per;rw [e];exact ⟨l.pos,Int.dvd_refl _,l.per,fun d d0 dd dp=>l.least d d0 (Int.dvd_trans dd l.dvd) dp⟩
def flL:List Sp→List Int
 | []=>[]
 | p :: L=>p.1 :: p.2 :: flL L
theorem fl_app (A B:List Sp):flL (A++B)=flL A++flL B:=by
 induction A with
 | nil=>rfl
 | cons p A ih=>show p.1 :: p.2 :: flL (A++B)=_;rw [ih];rfl
theorem fl_len (A:List Sp):(flL A).length=2 * A.length:=by
 induction A with
 | nil=>rfl
 | cons p A ih=>show (flL A).length+1+1=_;rw [ih,List.length_cons];omega
theorem fl_mem {A:List Sp} {y:Int}:y∈flL A↔∃ p,p∈A∧(y=p.1∨y=p.2):=by
  induction A with
  | nil=>exact ⟨fun h=>(by cases h),fun ⟨p,h,_⟩=>(by cases h)⟩
  | cons p A ih =>
    show y∈p.1 :: p.2 :: flL A↔_
    rw [List.mem_cons,List.mem_cons,ih]
    constructor
    · rintro (h | h | ⟨q,hq,h⟩)
      · exact ⟨p,List.mem_cons_self,.inl h⟩
      · exact ⟨p,List.mem_cons_self,.inr h⟩
      · exact ⟨q,List.mem_cons_of_mem _ hq,h⟩
    · rintro ⟨q,hq,h⟩
      rcases List.mem_cons.1 hq with rfl | hq
      · rcases h with h | h
        · exact .inl h
        · exact .inr (.inl h)
      · exact .inr (.inr ⟨q,hq,h⟩)
abbrev Wsc (l:List Int):Prop:=l.Pairwise (·≤·)
theorem fl_asc:∀ {A:List Sp},Cn A→Wsc (flL A)
  | [],_=>List.Pairwise.nil
  | p :: A,c=>by
    have ih:=fl_asc c.2.2;have lt:=c.1;refine List.pairwise_cons.2 ⟨fun y hy=>?_,List.pairwise_cons.2 ⟨fun y hy=>?_,ih⟩⟩
    · rcases List.mem_cons.1 hy with rfl | hy
      · omega
      · obtain ⟨q,hq,h⟩:=fl_mem.1 hy;have:=c.2.1 q hq;have:=c.2.2.lt q hq
        rcases h with rfl | rfl <;> omega
    · obtain ⟨q,hq,h⟩:=fl_mem.1 hy;have:=c.2.1 q hq;have:=c.2.2.lt q hq
      rcases h with rfl | rfl <;> omega
def mgZ:List Int→List Int→List Int
 | [],y=>y
 | a :: x,[]=>a :: x
 | a :: x,b :: y=>if a≤b then a :: mgZ x (b :: y) else b :: mgZ (a :: x) y
termination_by x y=>x.length+y.length
theorem mg_right (x:List Int):mgZ x []=x:=by cases x <;> simp [mgZ]
theorem mgz_mem:∀ (x y:List Int) (t:Int),t∈mgZ x y↔t∈x∨t∈y
  | [],y,t=>by rw [mgZ];simp
  | a :: x,[],t=>by rw [mgZ];simp
  | a :: x,b :: y,t=>by
    rw [mgZ]
    split
    · rw [List.mem_cons,mgz_mem x (b :: y) t,List.mem_cons (l:=x),or_assoc]
    · rw [List.mem_cons,mgz_mem (a :: x) y t,List.mem_cons (a:=t) (b:=b)]
      constructor
      · rintro (h | h | h)
        · exact .inr (.inl h)
        · exact .inl h
        · exact .inr (.inr h)
      · rintro (h | h | h)
        · exact .inr (.inl h)
        · exact .inl h
        · exact .inr (.inr h)
termination_by x y=>x.length+y.length
theorem mgz_asc:∀ (x y:List Int),Wsc x→Wsc y→Wsc (mgZ x y)
  | [],y,_,h=>by rw [mgZ];exact h
  | a :: x,[],h,_=>by rw [mgZ];exact h
  | a :: x,b :: y,h,k=>by
    rw [mgZ];obtain ⟨h1,h2⟩:=List.pairwise_cons.1 h;obtain ⟨k1,k2⟩:=List.pairwise_cons.1 k
    by_cases z:a≤b
    · rw [if_pos z];refine List.pairwise_cons.2 ⟨fun t ht=>?_,mgz_asc x (b :: y) h2 k⟩
      rcases (mgz_mem _ _ _).1 ht with q | q
      · exact h1 t q
      · rcases List.mem_cons.1 q with rfl | q
        · exact z
        · have:=k1 t q;omega
    · rw [if_neg z];refine List.pairwise_cons.2 ⟨fun t ht=>?_,mgz_asc (a :: x) y h k2⟩
      rcases (mgz_mem _ _ _).1 ht with q | q
      · rcases List.mem_cons.1 q with rfl | q
        · omega
        · have:=h1 t q;omega
      · exact k1 t q
termination_by x y=>x.length+y.length
theorem mgz_len:∀ (x y:List Int),(mgZ x y).length=x.length+y.length
  | [],y=>by rw [mgZ];simp
  | a :: x,[]=>by rw [mgZ];simp
  | a :: x,b :: y=>by
    rw [mgZ]
    split
    · rw [List.length_cons,mgz_len x (b :: y),List.length_cons,List.length_cons];omega
    · rw [List.length_cons,mgz_len (a :: x) y,List.length_cons,List.length_cons];omega
termination_by x y=>x.length+y.length
theorem dropZ {l:List Int} {k:Nat} (h:k<l.length):l.drop k=l.getD k 0 :: l.drop (k+1):=by
 rw [List.drop_eq_getElem_cons h,List.getD_eq_getElem?_getD,List.getElem?_eq_getElem h];rfl
theorem mgz_left {x y:List Int} {i k:Nat} (hi:i<x.length) (h:y.length≤k∨x.getD i 0≤y.getD k 0):mgZ (x.drop i) (y.drop k)=x.getD i 0 :: mgZ (x.drop (i+1)) (y.drop k):=by
 rw [dropZ hi]
 rcases Nat.lt_or_ge k y.length with z | z
 ·rw [dropZ z,mgZ,if_pos (h.resolve_left (by omega)),← dropZ z]
 ·rw [List.drop_of_length_le z,mg_right,mg_right]
theorem mgz_right' {x y:List Int} {i k:Nat} (hk:k<y.length) (h:x.length≤i∨y.getD k 0<x.getD i 0):mgZ (x.drop i) (y.drop k)=y.getD k 0 :: mgZ (x.drop i) (y.drop (k+1)):=by
 rw [dropZ hk]
 rcases Nat.lt_or_ge i x.length with z | z
 ·rw [dropZ z,mgZ,if_neg (by have:=h.resolve_left (by omega);omega),← dropZ z]
 ·rw [List.drop_of_length_le z,mgZ,mgZ]
def cuts (A B:List Sp):List Int:=mgZ (flL A) (flL B)
theorem wsc_at {l:List Int} (h:Wsc l) {i j:Nat} (hij:i≤j) (hj:j<l.length):l.getD i 0≤l.getD j 0:=by
 rcases Nat.lt_or_eq_of_le hij with z | rfl
 ·rw [List.getD_eq_getElem?_getD,List.getD_eq_getElem?_getD,List.getElem?_eq_getElem hj,List.getElem?_eq_getElem (by omega)];exact List.pairwise_iff_getElem.1 h i j (by omega) hj z
 ·exact Int.le_refl _
theorem cuts_len (A B:List Sp):(cuts A B).length=2 * (A.length+B.length):=by unfold cuts;rw [mgz_len,fl_len,fl_len];omega
theorem cut_const {E:List Int} (s:Wsc E) {L:List Sp} (m:∀ p,p∈L→p.1∈E∧p.2∈E) {c:Nat} (hc:c+1<E.length) {t:Int} (t0:E.getD c 0≤t) (t1:t<E.getD (c+1) 0):inB L t=inB L (E.getD c 0):=by
 have side:∀ y,y∈E→y≤E.getD c 0∨E.getD (c+1) 0≤y:=fun y hy=>by
  obtain ⟨j,hj,rfl⟩:=mem_at hy
  rcases Nat.lt_or_ge c j with z | z
  ·exact .inr (wsc_at s (by omega) hj)
  ·exact .inl (wsc_at s z (by omega))
 rw [Bool.eq_iff_iff,inB_iff,inB_iff]
 constructor
 ·rintro ⟨p,hp,a,b⟩;obtain ⟨m1,m2⟩:=m p hp;refine ⟨p,hp,?_,by omega⟩
  rcases side _ m1 with q | q <;> omega
 ·rintro ⟨p,hp,a,b⟩;obtain ⟨m1,m2⟩:=m p hp;refine ⟨p,hp,by omega,?_⟩
  rcases side _ m2 with q | q <;> omega
structure Cmb (k:Int) (A B:List Sp) (e:Int) (R:List Sp):Prop where
 cn:Cn R
 mem:∀ t,inB R t=(decide (t<e)&&kpB k (inB A t) (inB B t))
 low:∀ q,q∈R→q.2≤e
theorem cmb_start {k:Int} {A B:List Sp} (a:Cn A) (b:Cn B):Cmb k A B ((cuts A B).getD 0 0) []:=by
 refine ⟨trivial,fun t=>?_,fun q hq=>by cases hq⟩
 show false=_
 by_cases z:t<(cuts A B).getD 0 0
 ·have lowL:∀ {L:List Sp},(∀ p,p∈L→p.1∈cuts A B)→inB L t=false:=fun {L} m=>by
   rw [← Bool.not_eq_true,inB_iff];rintro ⟨p,hp,p0,p1⟩;obtain ⟨j,hj,e⟩:=mem_at (m p hp);have:=wsc_at (mgz_asc _ _ (fl_asc a) (fl_asc b)) (Nat.zero_le j) hj
   unfold cuts at *
   omega
  rw [lowL (fun p hp=>(mgz_mem _ _ _).2 (.inl (fl_mem.2 ⟨p,hp,.inl rfl⟩))),lowL (fun p hp=>(mgz_mem _ _ _).2 (.inr (fl_mem.2 ⟨p,hp,.inl rfl⟩))),kp_no,Bool.and_false]
 ·rw [decide_eq_false z];rfl
theorem cmb_step {k:Int} {A B:List Sp} (a:Cn A) (b:Cn B) {c:Nat} {R:List Sp} (hc:c+1<(cuts A B).length) (S:Cmb k A B ((cuts A B).getD c 0) R) (lt:(cuts A B).getD c 0<(cuts A B).getD (c+1) 0) :
  (kpB k (inB A ((cuts A B).getD c 0)) (inB B ((cuts A B).getD c 0))=false→Cmb k A B ((cuts A B).getD (c+1) 0) R) ∧
  (kpB k (inB A ((cuts A B).getD c 0)) (inB B ((cuts A B).getD c 0))=true→Cmb k A B ((cuts A B).getD (c+1) 0) (addL R ((cuts A B).getD c 0,(cuts A B).getD (c+1) 0))):=by
 have asc:Wsc (cuts A B):=mgz_asc _ _ (fl_asc a) (fl_asc b);have mA:∀ p,p∈A→p.1∈cuts A B∧p.2∈cuts A B:=fun p hp=>⟨(mgz_mem _ _ _).2 (.inl (fl_mem.2 ⟨p,hp,.inl rfl⟩)),(mgz_mem _ _ _).2 (.inl (fl_mem.2 ⟨p,hp,.inr rfl⟩))⟩;have mB:∀ p,p∈B→p.1∈cuts A B∧p.2∈cuts A B:=fun p hp=>⟨(mgz_mem _ _ _).2 (.inr (fl_mem.2 ⟨p,hp,.inl rfl⟩)),(mgz_mem _ _ _).2 (.inr (fl_mem.2 ⟨p,hp,.inr rfl⟩))⟩;have cst:∀ t,(cuts A B).getD c 0≤t→t<(cuts A B).getD (c+1) 0→kpB k (inB A t) (inB B t)=kpB k (inB A ((cuts A B).getD c 0)) (inB B ((cuts A B).getD c 0)):=fun t t0 t1=>by
  rw [cut_const asc mA hc t0 t1,cut_const asc mB hc t0 t1]
 generalize (cuts A B).getD c 0=e at *;generalize (cuts A B).getD (c+1) 0=e' at *
 constructor
 ·intro no;refine ⟨S.cn,fun t=>?_,fun q hq=>by have:=S.low q hq;omega⟩;rw [S.mem]
  by_cases z:t<e
  ·rw [decide_eq_true z,decide_eq_true (show t<e' by omega)]
  ·rw [decide_eq_false z,Bool.false_and]
   by_cases y:t<e'
   ·rw [cst t (by omega) y,no,Bool.and_false]
   ·rw [decide_eq_false y,Bool.false_and]
 ·intro yes;obtain ⟨cn,m,-,l⟩:=add_ok (s:=(e,e')) S.cn (fun q hq=>S.low q hq) lt;refine ⟨cn,fun t=>?_,l⟩;rw [m,S.mem]
  show ((decide (t<e)&&_) || (decide (e≤t)&&decide (t<e')))=_
  by_cases z:t<e
  ·rw [decide_eq_true z,decide_eq_true (show t<e' by omega),decide_eq_false (show ¬ e≤t by omega),Bool.false_and,Bool.or_false]
  ·rw [decide_eq_false z,Bool.false_and,Bool.false_or,decide_eq_true (show e≤t by omega),Bool.true_and]
   by_cases y:t<e'
   ·rw [cst t (by omega) y,yes,Bool.and_true]
   ·rw [decide_eq_false y,Bool.false_and]
theorem cmb_end {k:Int} {A B:List Sp} (a:Cn A) (b:Cn B) {c:Nat} {R:List Sp} (hc:c+1=(cuts A B).length∨(cuts A B).length=0) (S:Cmb k A B ((cuts A B).getD c 0) R):R=cbL k A B:=by
 obtain ⟨cc,cm,-⟩:=cb_spec k A B;refine cn_ext S.cn cc fun t=>?_;rw [S.mem,cm]
 by_cases z:t<(cuts A B).getD c 0
 ·rw [decide_eq_true z,Bool.true_and]
 ·rw [decide_eq_false z,Bool.false_and];have asc:Wsc (cuts A B):=mgz_asc _ _ (fl_asc a) (fl_asc b);have hi:∀ {L:List Sp},(∀ p,p∈L→p.2∈cuts A B)→inB L t=false:=fun {L} m=>in_high fun q hq=>by
   obtain ⟨j,hj,e⟩:=mem_at (m q hq);have h1:=wsc_at asc (show j≤(cuts A B).length - 1 by omega) (by omega);have h2:c=(cuts A B).length - 1:=by omega
   rw [h2] at z;omega
  rw [hi (fun p hp=>(mgz_mem _ _ _).2 (.inl (fl_mem.2 ⟨p,hp,.inr rfl⟩))),hi (fun p hp=>(mgz_mem _ _ _).2 (.inr (fl_mem.2 ⟨p,hp,.inr rfl⟩))),kp_no]
end Go.Proofs.YtmamlgaogpkagaaGreat
