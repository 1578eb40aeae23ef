/- LIvMa RnNa PeRb PeVb PeVc. -/
import Derived.Test.YtmamlgaogpkagaaGreatQLPlain
import Derived.WalkKit
namespace Go.Proofs.YtmamlgaogpkagaaGreat
open Go.RowKit
set_option linter.unusedVariables false
set_option linter.unusedSimpArgs false
theorem ivB_iff {a b:Int}:ivB a b=true↔-4398046511104≤a∧b≤4398046511104∧a<b:=by unfold ivB;exact decide_eq_true_iff
theorem ivB_no {a b:Int}:ivB a b=false↔¬ (-4398046511104≤a∧b≤4398046511104∧a<b):=by unfold ivB;exact decide_eq_false_iff_not
def mvE (a b n:Int):Int:=if ivB a b then (if ivB (a+n) (b+n) then 0 else 2) else 1
def mvF (a b n:Int):Int:=if mvE a b n=0 then a+n else 0
def mvT (a b n:Int):Int:=if mvE a b n=0 then b+n else 0
def moV (L:List Sp) (n:Int):List Sp × Int :=
 if vaB L then (if decide (8796093022208<n) || decide (n < -8796093022208) then ([],2) else if spsB (shL L n) then (shL L n,0) else ([],2)) else ([],1)
theorem mo_yes {L:List Sp} {n:Int} (v:vaB L=true) (h0:-8796093022208≤n) (h1:n≤8796093022208) (s:spsB (shL L n)=true):moV L n=(shL L n,0):=by
 unfold moV
 rw [v,if_pos rfl,decide_eq_false (by omega),decide_eq_false (by omega),s];rfl
theorem per_shift {f:Int→Bool} {q:Int} (h:Per f q) (n:Int):Per (fun x=>f (x - n)) q:=fun x=>by
 show f (x+q - n)=f (x - n)
 rw [show x+q - n=x - n+q by omega];exact h _
theorem cn_start {L:List Sp} (c:Cn L) {q:Sp} (hq:q∈L):inB L (q.1 - 1)=false:=by
 rw [← Bool.not_eq_true];intro i;obtain ⟨r,hr,a,b⟩:=inB_iff.1 i;obtain ⟨j,hj,rfl⟩:=mem_getD hr;obtain ⟨k,hk,rfl⟩:=mem_getD hq
 rcases Nat.lt_or_ge j k with u | u
 ·have:=cn_gt c u hk;omega
 ·have:=cn_lo c u hj;omega
def ofB (P:Int) (l:List Sp) (x:Int):Bool:=l.any fun p=>decide ((x - p.1) % P<p.2 - p.1)
def mvS (P:Int) (p:Sp):Sp:=(p.1 % P,p.1 % P+(if P<p.2 - p.1 then P else p.2 - p.1))
def mvO (P:Int) (l:List Sp):List Sp:=l.map (mvS P)
theorem mv_fits {P:Int} {p:Sp} (P0:0<P) (h:p.1<p.2):0≤(mvS P p).1∧(mvS P p).1<P∧(mvS P p).1<(mvS P p).2∧(mvS P p).2≤(mvS P p).1+P:=by
 have m0:=Int.emod_nonneg p.1 (show P≠0 by omega);have m1:=Int.emod_lt_of_pos p.1 P0
 unfold mvS
 refine ⟨m0,m1,?_,?_⟩
 ·show _<p.1 % P+_
  split <;> omega
 ·show p.1 % P+_≤p.1 % P+P
  split <;> omega
theorem mv_has {P:Int} {p:Sp} (P0:0<P) (h:p.1<p.2) (x:Int):decide ((x - p.1) % P<p.2 - p.1)=((decide ((mvS P p).1≤x % P)&&decide (x % P<(mvS P p).2)) || (decide ((mvS P p).1≤x % P+P)&&decide (x % P+P<(mvS P p).2))):=by
 have f:=mv_fits P0 h;have e2:(mvS P p).2=(mvS P p).1+P∧P<p.2 - p.1∨(mvS P p).2=(mvS P p).1+(p.2 - p.1)∧p.2 - p.1≤P:=by
  unfold mvS
  by_cases z:P<p.2 - p.1
  ·rw [if_pos z];exact Or.inl ⟨rfl,z⟩
  ·rw [if_neg z];exact Or.inr ⟨rfl,by omega⟩
 have e1:(mvS P p).1=p.1 % P:=rfl;have em:(x - p.1) % P=(x % P - p.1 % P) % P:=by rw [Int.emod_sub_emod,Int.sub_emod_emod]
 have m0:=Int.emod_nonneg x (show P≠0 by omega);have m1:=Int.emod_lt_of_pos x P0;rw [em,← e1];generalize mvS P p=q at *;generalize x % P=r at *;have ed:r - q.1<0∧(r - q.1) % P=r - q.1+P∨0≤r - q.1∧(r - q.1) % P=r - q.1:=by
  by_cases z:0≤r - q.1
  ·exact Or.inr ⟨z,Int.emod_eq_of_lt z (by omega)⟩
  ·refine Or.inl ⟨by omega,?_⟩;rw [← Int.add_emod_right,Int.emod_eq_of_lt (by omega) (by omega)]
 generalize (r - q.1) % P=t at ed;rw [Bool.eq_iff_iff]
 simp only [Bool.or_eq_true,Bool.and_eq_true,decide_eq_true_eq]
 omega
theorem of_mv {P:Int} {l:List Sp} (P0:0<P) (h:∀ p,p∈l→p.1<p.2) (x:Int):ofB P l x=(inB (mvO P l) (x % P) || inB (mvO P l) (x % P+P)):=by
  induction l with
  | nil=>rfl
  | cons p l ih =>
    have e:ofB P (p :: l) x=(decide ((x - p.1) % P<p.2 - p.1) || ofB P l x):=rfl;have e':mvO P (p :: l)=mvS P p :: mvO P l:=rfl;rw [e,e',inB_cons,inB_cons,ih fun q hq=>h q (List.mem_cons_of_mem _ hq),mv_has P0 (h p (List.mem_cons_self ..))];generalize (decide ((mvS P p).1≤x % P)&&decide (x % P<(mvS P p).2))=b1;generalize (decide ((mvS P p).1≤x % P+P)&&decide (x % P+P<(mvS P p).2))=b2
    cases b1 <;> cases b2 <;> simp
theorem mv_mem {P:Int} {l:List Sp} (P0:0<P) (h:∀ p,p∈l→p.1<p.2):∀ q,q∈mvO P l→0≤q.1∧q.1<P∧q.1<q.2∧q.2≤q.1+P:=fun q hq=>by
 obtain ⟨p,hp,rfl⟩:=List.mem_map.1 hq;exact mv_fits P0 (h p hp)
theorem of_cir {P:Int} {l:List Sp} (P0:0<P) (h:∀ p,p∈l→p.1<p.2):Cir P (ofB P l) (cbL 1 (mvO P l) []):=by
 obtain ⟨cn,mem,-,-⟩:=cb_spec 1 (mvO P l) [];have mv:=mv_mem P0 h;have m':∀ x,inB (cbL 1 (mvO P l) []) x=inB (mvO P l) x:=fun x=>by rw [mem];unfold kpB;rw [if_pos rfl];show (_ || false)=_;rw [Bool.or_false]
 refine ⟨P0,cn,fun q hq=>?_,fun x=>by rw [m',m'];exact of_mv P0 h x⟩;have lt:=cn.lt q hq;have s:=cn_start cn hq;have i0:inB (cbL 1 (mvO P l) []) q.1=true:=inB_iff.2 ⟨q,hq,by omega,by omega⟩;have i1:inB (cbL 1 (mvO P l) []) (q.2 - 1)=true:=inB_iff.2 ⟨q,hq,by omega,by omega⟩;rw [m'] at s i0 i1;obtain ⟨p,hp,a,b⟩:=inB_iff.1 i0;obtain ⟨r,hr,c,d⟩:=inB_iff.1 i1;have mp:=mv p hp;have mr:=mv r hr;have e:p.1=q.1:=by
  rcases Int.lt_or_eq_of_le a with z | z
  ·have:inB (mvO P l) (q.1 - 1)=true:=inB_iff.2 ⟨p,hp,by omega,by omega⟩;rw [this] at s;cases s
  ·exact z
 omega
theorem joined_len:∀ {A:List Sp} {H:Int},(∀ q,q∈A→0≤q.1∧q.1<q.2∧q.2≤H)→0≤H→(caL (inB A) 0 H).length≤A.length
  | [],H,_,_=>by
    rw [← ca_skip (f:=inB []) (a:=0) (e:=0) (b:=H) (by assumption) (fun _ _ _=>rfl),ca_none _ (Int.le_refl 0)]
    simp
  | p :: A,H,h,H0=>by
    have ih:=joined_len (fun q hq=>h q (List.mem_cons_of_mem _ hq)) H0;have c:=len_comb (k:=1) (by omega) (by omega) (inB [p]) (inB A) 0 H.toNat;rw [show (0:Int)+(H.toNat:Int)=H by omega] at c;have e:caL (fun x=>kpB 1 (inB [p] x) (inB A x)) 0 H=caL (inB (p :: A)) 0 H:=ca_congr fun x _ _=>by
      show (if (1:Int)=1 then _ else _)=_
      rw [if_pos rfl,inB_one,inB_cons]
    rw [e] at c;have hp:=h p (List.mem_cons_self ..);have o:[p]=caL (inB [p]) 0 H:=ca_eq ⟨hp.2.1,fun q hq=>absurd hq (List.not_mem_nil),trivial⟩ fun x=>by
      rw [inB_one,Bool.eq_iff_iff];simp only [Bool.and_eq_true,decide_eq_true_eq];omega
    rw [← o] at c
    show _≤A.length+1
    have:([p]:List Sp).length=1:=rfl;omega
theorem ofl_len {P:Int} {l:List Sp} (P0:0<P) (h:∀ p,p∈l→p.1<p.2):(cbL 1 (mvO P l) []).length≤l.length:=by
 obtain ⟨cn,mem,-,-⟩:=cb_spec 1 (mvO P l) [];have mv:=mv_mem P0 h;have e:cbL 1 (mvO P l) []=caL (inB (mvO P l)) 0 (2 * P):=ca_eq cn fun x=>by
  rw [mem];unfold kpB;rw [if_pos rfl]
  show (_ || false)=_
  rw [Bool.or_false,Bool.eq_iff_iff]
  simp only [Bool.and_eq_true,decide_eq_true_eq]
  constructor
  ·intro i;obtain ⟨p,hp,a,b⟩:=inB_iff.1 i;have:=mv p hp;exact ⟨⟨by omega,by omega⟩,i⟩
  ·exact fun i=>i.2
 have j:=joined_len (A:=mvO P l) (H:=2 * P) (fun q hq=>by have:=mv q hq;omega) (by omega);have:(mvO P l).length=l.length:=by simp [mvO]
 rw [e];omega
theorem of_in {P:Int} {L:List Sp} (P0:0<P) (c:Cn L) (i:InP P L) (x:Int):ofB P L x=hsP P L x:=by
 rw [of_mv P0 (fun p hp=>c.lt p hp)];have e:mvO P L=L:=by
  unfold mvO
  rw [List.map_congr_left (g:=id) fun p hp=>?_,List.map_id];have:=i p hp;have:=c.lt p hp
  unfold mvS
  rw [Int.emod_eq_of_lt (by omega) (by omega),if_neg (by omega)]
  show (p.1,p.1+(p.2 - p.1))=p
  rw [show p.1+(p.2 - p.1)=p.2 by omega]
 rw [e];have m0:=Int.emod_nonneg x (show P≠0 by omega);have:inB L (x % P+P)=false:=by
  rw [← Bool.not_eq_true];intro q;have:=in_out i q;omega
 rw [this,Bool.or_false];rfl
theorem of_moved (P:Int) (L:List Sp) (m x:Int):ofB P (shL L m) x=ofB P L (x - m):=by
 unfold ofB shL
 rw [List.any_map]
 congr 1
 funext p
 show decide ((x - (p.1+m)) % P<p.2+m - (p.1+m))=_
 rw [show x - (p.1+m)=x - m - p.1 by omega,show p.2+m - (p.1+m)=p.2 - p.1 by omega]
theorem hs_mod (P:Int) (L:List Sp) (x n:Int):hsP P L (x - n % P)=hsP P L (x - n):=by
 unfold hsP;rw [Int.sub_emod_emod]
theorem lst_shift {f:Int→Bool} {P d:Int} (h:Lst f P d) (n:Int):Lst (fun x=>f (x - n)) P d :=
 ⟨h.pos,h.dvd,per_shift h.per n,fun e a b c=>h.least e a b fun x=>by
  have:f (x+n+e - n)=f (x+n - n):=c (x+n);rwa [show x+n+e - n=x+e by omega,show x+n - n=x by omega] at this⟩
end Go.Proofs.YtmamlgaogpkagaaGreat
