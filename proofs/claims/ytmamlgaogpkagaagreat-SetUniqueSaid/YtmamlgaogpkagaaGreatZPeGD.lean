/- PeGD TsP TsQ TsF TsS. -/
import Derived.Test.YtmamlgaogpkagaaGreatZLPlain
import Derived.Test.YtmamlgaogpkagaaGreatZLGen
import Derived.Test.YtmamlgaogpkagaaGreatZLSl
import Derived.Test.YtmamlgaogpkagaaGreatZRnP
import Derived.Test.YtmamlgaogpkagaaGreatZPeR
import Derived.Test.YtmamlgaogpkagaaGreatZPeF
import Derived.Test.YtmamlgaogpkagaaGreatZPeKE
import Derived.Test.YtmamlgaogpkagaaGreatZPeLm
import Derived.Test.YtmamlgaogpkagaaGreatZPeKI
import Derived.Test.YtmamlgaogpkagaaGreatZPeKJ
import Derived.Test.YtmamlgaogpkagaaGreatZPeKJ3
import Derived.Test.YtmamlgaogpkagaaGreatZPeKK
import Derived.StillTailTactics
import Derived.Deep.RegionWith
namespace Go.Proofs.YtmamlgaogpkagaaGreat
open Go.RowKit
set_option linter.unusedVariables false
set_option linter.unusedSimpArgs false
set_option maxRecDepth 100000 in
set_option maxHeartbeats 2000000 in
theorem rppair (va vb:Value) (P Q:Int) (A B:List Sp) (lA:A.length≤2000) (lB:B.length≤2000) (P1:1≤P) (P2:P≤12622780800) (Q1:1≤Q) (Q2:Q≤12622780800) {ba bb:Nat} (w:World) (a:PairS ba w va A) (b:PairS bb w vb B) :
  Calls Tryz.prog 110 #[.agg #[.int .i64 P,va],.agg #[.int .i64 Q,vb]] w fun e w'=>e=.returned (.tuple #[.int .i64 (prR P Q A.length B.length).1,.int .i64 (prR P Q A.length B.length).2])∧Below w.heap.size w w':=by
 obtain ⟨oa,ca,rfl⟩:=prs_shape a;obtain ⟨ob,cb,rfl⟩:=prs_shape b;obtain ⟨n,hn⟩:∃ n,A.length=n:=⟨_,rfl⟩;obtain ⟨m,hm⟩:∃ m,B.length=m:=⟨_,rfl⟩;have HL:=zh (fun W=>reflcm_all P Q (by omega) (by omega) (by omega) (by omega) W);have PF:lE P Q=0→0<lR P Q:=fun h=>(pr_facts P1 P2 Q1 h).2.2;have RF:Hid (prR P Q n m=if lE P Q=0∧lR P Q≤12622780800 then (if 2000<lR P Q / P * n+lR P Q / Q * m then (0,5) else (lR P Q,0)) else (0,9)):=rfl;rw [hn,hm];rw [hn] at lA;rw [hm] at lB;generalize prR P Q n m=PR at *;generalize lR P Q=M at *;generalize lE P Q=E at *;have s1:=size_two w (.cells #[.int .i64 P,.slice oa n ca] 24);have A1:=zh (grow (grow (here w) (.cells #[.int .i64 P,.slice oa n ca] 24)) (.cells #[.int .i64 Q,.slice ob m cb] 24));have TA:=zh (Two.fst (here ((w.alloc (.cells #[.int .i64 P,.slice oa n ca] 24)).alloc (.cells #[.int .i64 Q,.slice ob m cb] 24))));have TB:=zh (Two.snd (here ((w.alloc (.cells #[.int .i64 P,.slice oa n ca] 24)).alloc (.cells #[.int .i64 Q,.slice ob m cb] 24))));clear a b s1 hn hm;obtain ⟨t0,t1,tl⟩:=TA.out;obtain ⟨u0,u1,ul⟩:=TB.out
 go_enter Tryz.func110,Tryz.ntmps110
 go_wp2_with fail
 refine (HL.out _).mono ?_;rintro e w5 ⟨rfl,d,hw5⟩;have A4:Hid (Below w.heap.size w w5):=by show Below _ _ _;rw [hw5];exact below_drewN A1.out d
 replace TA:=zh (TA.out.drewN d);replace TB:=zh (TB.out.drewN d);rw [← hw5] at TA TB;clear hw5 t0 t1 tl u0 u1 ul A1 HL;obtain ⟨t0,t1,tl⟩:=TA.out;obtain ⟨u0,u1,ul⟩:=TB.out
 by_cases e0:E=0
 ·have ke:(E != 0)=false:=by rw [e0];rfl
  by_cases mb:M≤12622780800
  ·have km:decide (12622780800<M)=false:=zdf (by omega);rw [if_pos ⟨e0,mb⟩] at RF;have M0:=PF e0;clear PF e0;have P0:¬ (P=0):=by omega
   have Q0:¬ (Q=0):=by omega
   obtain ⟨X,eX⟩:∃ X,M / P=X:=⟨_,rfl⟩;obtain ⟨Y,eY⟩:∃ Y,M / Q=Y:=⟨_,rfl⟩;have hX:M.tdiv P=X:=by rw [← eX,Int.tdiv_eq_ediv_of_nonneg (by omega)]
   have hY:M.tdiv Q=Y:=by rw [← eY,Int.tdiv_eq_ediv_of_nonneg (by omega)]
   have X0:0≤X:=by rw [← eX];exact Int.ediv_nonneg (by omega) (by omega)
   have Y0:0≤Y:=by rw [← eY];exact Int.ediv_nonneg (by omega) (by omega)
   have X1:X≤M:=by rw [← eX];exact Int.ediv_le_self _ (by omega)
   have Y1:Y≤M:=by rw [← eY];exact Int.ediv_le_self _ (by omega)
   rw [eX,eY] at RF;have xn0:0≤X * (n:Int):=Int.mul_nonneg X0 (by omega);have ym0:0≤Y * (m:Int):=Int.mul_nonneg Y0 (by omega);have xn1:X * (n:Int)≤25245561600000:=by
    have:=Int.mul_le_mul (show X≤12622780800 by omega) (show (n:Int)≤2000 by omega) (by omega) (by omega);omega
   have ym1:Y * (m:Int)≤25245561600000:=by
    have:=Int.mul_le_mul (show Y≤12622780800 by omega) (show (m:Int)≤2000 by omega) (by omega) (by omega);omega
   obtain ⟨XN,hXN⟩:∃ z,X * (n:Int)=z:=⟨_,rfl⟩;obtain ⟨YM,hYM⟩:∃ z,Y * (m:Int)=z:=⟨_,rfl⟩;rw [hXN] at xn0 xn1 RF;rw [hYM] at ym0 ym1 RF
   by_cases fu:2000<XN+YM
   ·have kf:decide (2000<XN+YM)=true:=zdt fu;rw [if_pos fu] at RF;clear fu;go_wp2
    go_quiet (fail)
    have A9:=zh (below_drewN A4.out nq);go_wp2
    go_ret2
    rw [RF.out];exact ⟨rfl,A9.out⟩
   ·have kf:decide (2000<XN+YM)=false:=zdf fu;rw [if_neg fu] at RF;clear fu;go_wp2
    go_quiet (fail)
    have A9:=zh (below_drewN A4.out nq);go_wp2
    go_ret2
    rw [RF.out];exact ⟨rfl,A9.out⟩
  ·have km:decide (12622780800<M)=true:=zdt (by omega);rw [if_neg (fun z=>mb z.2)] at RF;clear PF e0 mb;go_wp2
   go_ret2
   rw [RF.out];exact ⟨rfl,A4.out⟩
 ·have ke:(E != 0)=true:=by rw [bne_iff_ne];exact e0
  rw [if_neg (fun z=>e0 z.1)] at RF;clear PF e0;go_wp2
  go_ret2
  rw [RF.out];exact ⟨rfl,A4.out⟩
def ddB (P:Int) (A:List Sp) (Q:Int) (B:List Sp) (x:Int):Bool:=hsP P A x != hsP Q B x
theorem dd_iff {P Q:Int} {A B:List Sp} {x:Int}:ddB P A Q B x=true↔hsP P A x≠hsP Q B x:=by
 unfold ddB;rw [bne_iff_ne]
def bI (D:List Sp) (m r base:Int):Nat→Int
 | 0=>base - m+(D.getD (D.length - 1) (0,0)).2
 | i+1=>if (D.getD i (0,0)).1<r then base+(if r<(D.getD i (0,0)).2 then r else (D.getD i (0,0)).2) else bI D m r base i
def aI (D:List Sp) (m r base:Int):Nat→Int
 | 0=>base+m+(D.getD 0 (0,0)).1
 | i+1=>if r<(D.getD (D.length - 1 - i) (0,0)).2 then base+(if (D.getD (D.length - 1 - i) (0,0)).1<r then r else (D.getD (D.length - 1 - i) (0,0)).1) else aI D m r base i
structure Dd (f:Int→Bool) (m:Int) (D:List Sp):Prop where
 m0:0<m
 per:Per f m
 cn:Cn D
 ip:InP m D
 has:∀ x,0≤x→x<m→f x=inB D x
 ne:0<D.length
theorem dd_at {f:Int→Bool} {m:Int} {D:List Sp} (d:Dd f m D) {base:Int} (hb:m ∣ base) {x:Int} (x0:base≤x) (x1:x<base+m):f x=inB D (x - base):=by
 obtain ⟨k,rfl⟩:=hb;rw [← d.has (x - m * k) (by omega) (by omega)];have:=d.per.mul (-k) x;rw [← this,Int.mul_neg];congr 1
theorem bI_cases (D:List Sp) (m r base:Int):∀ i,((∀ j,j<i→¬ (D.getD j (0,0)).1<r)∧bI D m r base i=base - m+(D.getD (D.length - 1) (0,0)).2)∨∃ j,j<i∧(D.getD j (0,0)).1<r∧bI D m r base i=base+(if r<(D.getD j (0,0)).2 then r else (D.getD j (0,0)).2)∧∀ k,j<k→k<i→¬ (D.getD k (0,0)).1<r
  | 0=>.inl ⟨fun j h=>absurd h (Nat.not_lt_zero j),rfl⟩
  | i+1=>by
    by_cases z:(D.getD i (0,0)).1<r
    · exact .inr ⟨i,Nat.lt_succ_self i,z,by rw [bI,if_pos z],fun k h1 h2=>by omega⟩
    · have e:bI D m r base (i+1)=bI D m r base i:=by rw [bI,if_neg z]
      rw [e]
      rcases bI_cases D m r base i with ⟨a,b⟩ | ⟨j,a,b,c,d⟩
      · exact .inl ⟨fun j h=>by by_cases y:j=i;rw [y];exact z;exact a j (by omega),b⟩
      · exact .inr ⟨j,by omega,b,c,fun k h1 h2=>by by_cases y:k=i;rw [y];exact z;exact d k h1 (by omega)⟩
theorem bI_ok {f:Int→Bool} {m:Int} {D:List Sp} (d:Dd f m D) {r base:Int} (hb:m ∣ base) (r0:0≤r) (r1:r<m):bI D m r base D.length≤base+r∧f (bI D m r base D.length - 1)=true∧∀ y,bI D m r base D.length≤y→y<base+r→f y=false:=by
 have m0:=d.m0;have bd:∀ j,j<D.length→0≤(D.getD j (0,0)).1∧(D.getD j (0,0)).1<(D.getD j (0,0)).2∧(D.getD j (0,0)).2≤m:=fun j hj=>⟨(d.ip _ (getD_mem hj)).1,d.cn.lt _ (getD_mem hj),(d.ip _ (getD_mem hj)).2⟩;have hb':m ∣ base - m:=by obtain ⟨k,rfl⟩:=hb;exact ⟨k - 1,by rw [Int.mul_sub,Int.mul_one]⟩
 rcases bI_cases D m r base D.length with ⟨a,b⟩ | ⟨j,a,b,c,e⟩
 ·rw [b];have l:=bd (D.length - 1) (by have:=d.ne;omega);refine ⟨by omega,?_,fun y y0 y1=>?_⟩
  ·rw [dd_at d hb' (by omega) (by omega)];exact inB_iff.2 ⟨_,getD_mem (show D.length - 1<D.length by have:=d.ne;omega),by omega,by omega⟩
  ·rw [← Bool.not_eq_true];intro h
   by_cases z:y<base
   ·rw [dd_at d hb' (by omega) (by omega)] at h;obtain ⟨q,hq,h1,h2⟩:=inB_iff.1 h;obtain ⟨j,hj,rfl⟩:=mem_getD hq;have:=(cn_lo d.cn (show j≤D.length - 1 by omega) (by omega)).2;omega
   ·rw [dd_at d hb (by omega) (by omega)] at h;obtain ⟨q,hq,h1,h2⟩:=inB_iff.1 h;obtain ⟨j,hj,rfl⟩:=mem_getD hq;have:=a j hj;omega
 ·rw [c];have l:=bd j a;obtain ⟨v,hv⟩:∃ v,(if r<(D.getD j (0,0)).2 then r else (D.getD j (0,0)).2)=v:=⟨_,rfl⟩;have hv':(r<(D.getD j (0,0)).2∧v=r)∨((D.getD j (0,0)).2≤r∧v=(D.getD j (0,0)).2):=by rw [← hv];split <;> omega
  rw [hv];refine ⟨by omega,?_,fun y y0 y1=>?_⟩
  ·rw [dd_at d hb (by omega) (by omega)];exact inB_iff.2 ⟨_,getD_mem a,by omega,by omega⟩
  ·rw [← Bool.not_eq_true];intro h;rw [dd_at d hb (by omega) (by omega)] at h;obtain ⟨q,hq,h1,h2⟩:=inB_iff.1 h;obtain ⟨k,hk,rfl⟩:=mem_getD hq
   by_cases z:k≤j
   ·have:=(cn_lo d.cn z a).2;omega
   ·have:=e k (by omega) hk;omega
theorem aI_cases (D:List Sp) (m r base:Int):∀ i,i≤D.length→((∀ j,D.length - i≤j→j<D.length→¬ r<(D.getD j (0,0)).2)∧aI D m r base i=base+m+(D.getD 0 (0,0)).1)∨∃ j,D.length - i≤j∧j<D.length∧r<(D.getD j (0,0)).2∧aI D m r base i=base+(if (D.getD j (0,0)).1<r then r else (D.getD j (0,0)).1)∧∀ k,D.length - i≤k→k<j→¬ r<(D.getD k (0,0)).2
  | 0,_=>.inl ⟨fun j h h'=>by omega,rfl⟩
  | i+1,hi=>by
    by_cases z:r<(D.getD (D.length - 1 - i) (0,0)).2
    · exact .inr ⟨D.length - 1 - i,by omega,by omega,z,by rw [aI,if_pos z],fun k h1 h2=>by omega⟩
    · have e:aI D m r base (i+1)=aI D m r base i:=by rw [aI,if_neg z]
      rw [e]
      rcases aI_cases D m r base i (by omega) with ⟨a,b⟩ | ⟨j,a0,a,b,c,d⟩
      · exact .inl ⟨fun j h h'=>by by_cases y:j=D.length - 1 - i;rw [y];exact z;exact a j (by omega) h',b⟩
      · exact .inr ⟨j,by omega,a,b,c,fun k h1 h2=>by by_cases y:k=D.length - 1 - i;rw [y];exact z;exact d k (by omega) h2⟩
theorem aI_ok {f:Int→Bool} {m:Int} {D:List Sp} (d:Dd f m D) {r base:Int} (hb:m ∣ base) (r0:0≤r) (r1:r<m):base+r≤aI D m r base D.length∧f (aI D m r base D.length)=true∧∀ y,base+r≤y→y<aI D m r base D.length→f y=false:=by
 have m0:=d.m0;have bd:∀ j,j<D.length→0≤(D.getD j (0,0)).1∧(D.getD j (0,0)).1<(D.getD j (0,0)).2∧(D.getD j (0,0)).2≤m:=fun j hj=>⟨(d.ip _ (getD_mem hj)).1,d.cn.lt _ (getD_mem hj),(d.ip _ (getD_mem hj)).2⟩;have hb':m ∣ base+m:=by obtain ⟨k,rfl⟩:=hb;exact ⟨k+1,by rw [Int.mul_add,Int.mul_one]⟩
 rcases aI_cases D m r base D.length (Nat.le_refl _) with ⟨a,b⟩ | ⟨j,a0,a,b,c,e⟩
 ·rw [b];have l:=bd 0 d.ne;refine ⟨by omega,?_,fun y y0 y1=>?_⟩
  ·rw [dd_at d hb' (by omega) (by omega)];exact inB_iff.2 ⟨_,getD_mem d.ne,by omega,by omega⟩
  ·rw [← Bool.not_eq_true];intro h
   by_cases z:y<base+m
   ·rw [dd_at d hb (by omega) (by omega)] at h;obtain ⟨q,hq,h1,h2⟩:=inB_iff.1 h;obtain ⟨j,hj,rfl⟩:=mem_getD hq;have:=a j (by omega) hj;omega
   ·rw [dd_at d hb' (by omega) (by omega)] at h;obtain ⟨q,hq,h1,h2⟩:=inB_iff.1 h;obtain ⟨j,hj,rfl⟩:=mem_getD hq;have:=(cn_lo d.cn (Nat.zero_le j) hj).1;omega
 ·rw [c];have l:=bd j a;obtain ⟨v,hv⟩:∃ v,(if (D.getD j (0,0)).1<r then r else (D.getD j (0,0)).1)=v:=⟨_,rfl⟩;have hv':((D.getD j (0,0)).1<r∧v=r)∨(r≤(D.getD j (0,0)).1∧v=(D.getD j (0,0)).1):=by rw [← hv];split <;> omega
  rw [hv];refine ⟨by omega,?_,fun y y0 y1=>?_⟩
  ·rw [dd_at d hb (by omega) (by omega)];exact inB_iff.2 ⟨_,getD_mem a,by omega,by omega⟩
  ·rw [← Bool.not_eq_true];intro h;rw [dd_at d hb (by omega) (by omega)] at h;obtain ⟨q,hq,h1,h2⟩:=inB_iff.1 h;obtain ⟨k,hk,rfl⟩:=mem_getD hq
   by_cases z:k<j
   ·have:=e k (by omega) z;omega
   ·have:=(cn_lo d.cn (show j≤k by omega) hk).1;omega
theorem dd_ok {P Q m:Int} {A B:List Sp} (p:PV P A) (q:PV Q B) (m0:0<m) (pm:P ∣ m) (qm:Q ∣ m) (ne:¬ (P=Q∧A=B)):Dd (ddB P A Q B) m (caL (ddB P A Q B) 0 m):=by
 have per:Per (ddB P A Q B) m:=fun x=>by
  unfold ddB
  rw [per_dvd hs_per pm,per_dvd hs_per qm]
 refine ⟨m0,per,ca_cn _ _ _,ca_inp _ _,fun x x0 x1=>?_,?_⟩
 ·rw [ca_in,zdt x0,zdt x1];rfl
 ·have d:∃ x,hsP P A x≠hsP Q B x:=by
   refine Classical.byContradiction fun c=>ne (pv_ext p q (funext fun x=>Classical.byContradiction fun h=>c ⟨x,h⟩))
  obtain ⟨x,hx⟩:=d;have hm:=per.mod x;have t:inB (caL (ddB P A Q B) 0 m) (x % m)=true:=by
   rw [ca_in,zdt (Int.emod_nonneg x (by omega)),zdt (Int.emod_lt_of_pos x m0),hm,dd_iff.2 hx];rfl
  rcases Nat.eq_zero_or_pos (caL (ddB P A Q B) 0 m).length with z | z
  ·rw [List.length_eq_zero_iff.1 z] at t;cases t
  ·exact z
structure Giv (P:Int) (A:List Sp) (Q:Int) (B:List Sp) (lo hi:Int) (l:List Sp):Prop where
 p:PV P A
 q:PV Q B
 le:lo≤hi
 lo0:-4398046511104≤lo
 hi0:hi≤4398046511104
 va:vaB l=true
 low:∀ s,s∈l→lo≤s.1∧s.2≤hi
abbrev gvF (P:Int) (A:List Sp) (Q:Int) (B:List Sp) (lo hi:Int) (l:List Sp):Int→Bool:=pcS (hsP P A) (inB l) (hsP Q B) lo hi
theorem gv_mid {P Q lo hi:Int} {A B l:List Sp} {x:Int} (a:lo≤x) (b:x<hi):gvF P A Q B lo hi l x=inB l x:=by
 show pcS _ _ _ _ _ _=_;unfold pcS;rw [if_neg (by omega),if_pos b]
theorem gv_low {P Q lo hi:Int} {A B l:List Sp} {x:Int} (a:x<lo):gvF P A Q B lo hi l x=hsP P A x:=by
 show pcS _ _ _ _ _ _=_;unfold pcS;rw [if_pos a]
theorem gv_high {P Q lo hi:Int} {A B l:List Sp} {x:Int} (le:lo≤hi) (a:hi≤x):gvF P A Q B lo hi l x=hsP Q B x:=by
 show pcS _ _ _ _ _ _=_;unfold pcS;rw [if_neg (by omega),if_neg (by omega)]
theorem end_b {P Q lo hi:Int} {A B l:List Sp} (g:Giv P A Q B lo hi l) {b:Int} (h:LsR (inB l) (hsP Q B) lo hi true b):EdB (gvF P A Q B lo hi l) (hsP Q B) b:=by
 obtain ⟨h1,h2,h3,h4⟩:=h.yes rfl;have le:=g.le;refine ⟨fun x hx=>?_,?_⟩
 ·by_cases z:x<hi
  ·rw [gv_mid (by omega) z];exact h4 x hx z
  ·exact gv_high le (by omega)
 ·rw [gv_mid (by omega) (by omega)];exact h3
theorem end_a {P Q lo hi:Int} {A B l:List Sp} (g:Giv P A Q B lo hi l) {a:Int} (h:FiR (inB l) (hsP P A) lo hi true a):EdA (gvF P A Q B lo hi l) (hsP P A) a:=by
 obtain ⟨h1,h2,h3,h4⟩:=h.yes rfl;refine ⟨fun x hx=>?_,?_⟩
 ·by_cases z:x<lo
  ·exact gv_low z
  ·rw [gv_mid (by omega) (by omega)];exact h4 x (by omega) hx
 ·rw [gv_mid h1 h2];exact h3
theorem end_b' {P Q lo hi:Int} {A B l:List Sp} (g:Giv P A Q B lo hi l) {o:Int} (h:LsR (inB l) (hsP Q B) lo hi false o) {b:Int} (h1:b≤lo) (h2:ddB P A Q B (b - 1)=true) (h3:∀ y,b≤y→y<lo→ddB P A Q B y=false):EdB (gvF P A Q B lo hi l) (hsP Q B) b:=by
 have le:=g.le;refine ⟨fun x hx=>?_,?_⟩
 ·by_cases z:x<lo
  ·rw [gv_low z];have:=h3 x hx z;exact Classical.byContradiction fun c=>by rw [dd_iff.2 c] at this;cases this
  ·by_cases y:x<hi
   ·rw [gv_mid (by omega) y];exact h.no rfl x (by omega) y
   ·exact gv_high le (by omega)
 ·rw [gv_low (by omega)];exact dd_iff.1 h2
theorem end_a' {P Q lo hi:Int} {A B l:List Sp} (g:Giv P A Q B lo hi l) {o:Int} (h:FiR (inB l) (hsP P A) lo hi false o) {a:Int} (h1:hi≤a) (h2:ddB P A Q B a=true) (h3:∀ y,hi≤y→y<a→ddB P A Q B y=false):EdA (gvF P A Q B lo hi l) (hsP P A) a:=by
 have le:=g.le;refine ⟨fun x hx=>?_,?_⟩
 ·by_cases z:x<lo
  ·exact gv_low z
  ·by_cases y:x<hi
   ·rw [gv_mid (by omega) y];exact h.no rfl x (by omega) y
   ·rw [gv_high le (by omega)];have:=h3 x (by omega) hx;exact Classical.byContradiction fun c=>by rw [dd_iff.2 (fun e=>c e.symm)] at this;cases this
 ·rw [gv_high le h1];exact fun e=>dd_iff.1 h2 e.symm
theorem gv_pure {P lo hi:Int} {A l:List Sp} (g:Giv P A P A lo hi l) {o:Int} (h:FiR (inB l) (hsP P A) lo hi false o):gvF P A P A lo hi l=hsP P A:=funext fun x=>by
 by_cases z:x<lo
 ·exact gv_low z
 ·by_cases y:x<hi
  ·rw [gv_mid (by omega) y];exact h.no rfl x (by omega) y
  ·exact gv_high g.le (by omega)
theorem gv_both {P lo hi:Int} {A l:List Sp} (g:Giv P A P A lo hi l) {a b:Int} {o:Bool} (h:FiR (inB l) (hsP P A) lo hi true a) (k:LsR (inB l) (hsP P A) lo hi o b):o=true:=by
 cases o
 ·obtain ⟨h1,h2,h3,-⟩:=h.yes rfl;exact absurd (k.no rfl a h1 h2) h3
 ·rfl
theorem fr_ends {P Q lo hi a b:Int} {A B l:List Sp} (g:Giv P A Q B lo hi l) (e:pqE P A Q B=0) (ha:EdA (gvF P A Q B lo hi l) (hsP P A) a) (hb:EdB (gvF P A Q B lo hi l) (hsP Q B) b) (ab:a<b→lo≤a∧b≤hi) :
  frT P A Q B (gvF P A Q B lo hi l)=if nvB (if a≤b then a else b)&&nvB b then (⟨P,A,Q,B,(if a≤b then a else b),b,(if a≤b then clL l a b else [])⟩,0) else (tsZ,9):=by
 have np:¬ (P=Q∧A=B∧gvF P A Q B lo hi l=hsP P A):=fun c=>ha.no (by rw [c.2.2]);have lt:loT (gvF P A Q B lo hi l) (hsP P A) (hsP Q B)=if a≤b then a else b:=by unfold loT;rw [edA_eq ha,edB_eq hb]
 have L:caL (gvF P A Q B lo hi l) (if a≤b then a else b) b=if a≤b then clL l a b else []:=by
  by_cases z:a≤b
  ·rw [if_pos z,if_pos z]
   by_cases y:a<b
   ·obtain ⟨y1,y2⟩:=ab y;rw [cl_ca (vaB_iff.1 g.va).2.2];exact ca_congr fun x x0 x1=>gv_mid (by omega) (by omega)
   ·rw [show a=b by omega,ca_none _ (Int.le_refl b),cl_ca (vaB_iff.1 g.va).2.2,ca_none _ (Int.le_refl b)]
  ·rw [if_neg z,if_neg z,ca_none _ (Int.le_refl b)]
 unfold frT
 rw [if_neg (by rw [e];exact fun c=>c rfl),if_neg np,lt,edB_eq hb,L]
theorem fr_pure {P:Int} {A:List Sp} {f:Int→Bool} (h:f=hsP P A):frT P A P A f=(⟨P,A,P,A,0,0,[]⟩,0):=by
 have e:pqE P A P A=0:=by unfold pqE;rw [if_pos ⟨rfl,rfl⟩]
 unfold frT
 rw [if_neg (by rw [e];exact fun c=>c rfl),if_pos ⟨rfl,rfl,h⟩]
theorem fr_pair {P Q:Int} {A B:List Sp} {f:Int→Bool} (e:pqE P A Q B≠0):frT P A Q B f=(tsZ,pqE P A Q B):=by
 unfold frT;rw [if_pos e]
def givB (P:Int) (A:List Sp) (Q:Int) (B:List Sp) (lo hi:Int) (l:List Sp):Prop:=lo≤hi∧nvB lo=true∧nvB hi=true∧pvB P A=true∧pvB Q B=true∧vaB l=true∧(l.length=0∨(lo≤(l.getD 0 (0,0)).1∧(l.getD (l.length - 1) (0,0)).2≤hi))
theorem giv_iff {P Q lo hi:Int} {A B l:List Sp}:givB P A Q B lo hi l↔Giv P A Q B lo hi l:=by
 constructor
 ·rintro ⟨h1,h2,h3,h4,h5,h6,h7⟩;refine ⟨pv_iff.1 h4,pv_iff.1 h5,h1,(nv_bd h2).1,(nv_bd h3).2,h6,fun s hs=>?_⟩;have c:=(vaB_iff.1 h6).2.2;obtain ⟨j,hj,rfl⟩:=mem_getD hs
  rcases h7 with z | ⟨z1,z2⟩
  ·omega
  ·have a:=(cn_lo c (Nat.zero_le j) hj).1;have b:=(cn_lo c (show j≤l.length - 1 by omega) (by omega)).2;omega
 ·rintro ⟨h1,h2,h3,h4,h5,h6,h7⟩;have n1:nvB lo=true:=by unfold nvB;rw [zdt h4,zdt (show lo≤4398046511104 by omega)];rfl
  have n2:nvB hi=true:=by unfold nvB;rw [zdt h5,zdt (show -4398046511104≤hi by omega)];rfl
  refine ⟨h3,n1,n2,pv_iff.2 h1,pv_iff.2 h2,h6,?_⟩
  rcases Nat.eq_zero_or_pos l.length with z | z
  ·exact .inl z
  ·exact .inr ⟨(h7 _ (getD_mem z)).1,(h7 _ (getD_mem (show l.length - 1<l.length by omega))).2⟩
open Classical in
noncomputable def toR (P:Int) (A:List Sp) (Q:Int) (B:List Sp) (lo hi:Int) (l:List Sp):TS × Int:=if givB P A Q B lo hi l then frT P A Q B (gvF P A Q B lo hi l) else (tsZ,1)
noncomputable def ofT (s:TS):TS × Int:=toR s.P s.A s.Q s.B s.a s.b s.L
open Classical in
noncomputable def vsB (s:TS):Bool:=decide (ofT s=(s,0))
open Classical in
theorem vs_iff {s:TS}:vsB s=true↔ofT s=(s,0):=by unfold vsB;rw [decide_eq_true_iff]
structure VS (s:TS):Prop where
 g:Giv s.P s.A s.Q s.B s.a s.b s.L
 fr:frT s.P s.A s.Q s.B (hsT s)=(s,0)
theorem vs_ok {s:TS}:vsB s=true↔VS s:=by
 rw [vs_iff]
 unfold ofT toR
 constructor
 ·intro h
  by_cases c:givB s.P s.A s.Q s.B s.a s.b s.L
  ·rw [if_pos c] at h;exact ⟨giv_iff.1 c,h⟩
  ·rw [if_neg c] at h;have h2:=congrArg Prod.snd h;cases h2
 ·rintro ⟨g,fr⟩;rw [if_pos (giv_iff.2 g)];exact fr
theorem VS.pq {s:TS} (h:VS s):pqE s.P s.A s.Q s.B=0:=by
 have f:=h.fr
 unfold frT at f
 by_cases e:pqE s.P s.A s.Q s.B=0
 ·exact e
 ·rw [if_pos e] at f;exact absurd (congrArg Prod.snd f) e
theorem dd_list {P Q m:Int} {A B:List Sp}:cbL 3 (cbL 1 (caL (hsP P A) 0 m) (caL (hsP Q B) 0 m)) (cbL 2 (caL (hsP P A) 0 m) (caL (hsP Q B) 0 m))=caL (ddB P A Q B) 0 m:=by
 refine ca_eq (cb_spec 3 _ _).1 fun x=>?_;rw [(cb_spec 3 _ _).2.1,(cb_spec 1 _ _).2.1,(cb_spec 2 _ _).2.1,ca_in,ca_in]
 unfold ddB
 generalize (decide (0≤x)&&decide (x<m))=d;generalize hsP P A x=p;generalize hsP Q B x=q
 cases d <;> cases p <;> cases q <;> rfl
def pqM (P:Int) (A:List Sp) (Q:Int) (B:List Sp):Int:=if P=Q∧A=B then P else (prR P Q A.length B.length).1
set_option maxRecDepth 100000 in
set_option maxHeartbeats 4000000 in
theorem rtdiffer (va vb:Value) (P Q:Int) (A B:List Sp) (pv:PV P A) (qv:PV Q B) (m:Int) (m0:0<m) (m1:m≤12622780800) (dP:P ∣ m) (dQ:Q ∣ m) (la:(caL (hsP P A) 0 m).length≤2000) (lb:(caL (hsP Q B) 0 m).length≤2000) {ba bb:Nat} (w:World) (a:PairS ba w va A) (b:PairS bb w vb B) :
  Calls Tryz.prog 121 #[.agg #[.int .i64 P,va],.agg #[.int .i64 Q,vb],.int .i64 m] w fun e w'=>(∃ v',e=.returned v'∧PairS w.heap.size w' v' (caL (ddB P A Q B) 0 m))∧Below w.heap.size w w':=by
 obtain ⟨oa,ca,rfl⟩:=prs_shape a;obtain ⟨ob,cb,rfl⟩:=prs_shape b;have A1:=zh (grow (grow (here w) (.cells #[.int .i64 P,.slice oa A.length ca] 24)) (.cells #[.int .i64 Q,.slice ob B.length cb] 24));have TA:=zh (Two.fst (here ((w.alloc (.cells #[.int .i64 P,.slice oa A.length ca] 24)).alloc (.cells #[.int .i64 Q,.slice ob B.length cb] 24))));have TB:=zh (Two.snd (here ((w.alloc (.cells #[.int .i64 P,.slice oa A.length ca] 24)).alloc (.cells #[.int .i64 Q,.slice ob B.length cb] 24))));have PA1:=zh (a.keep A1.out);have PB1:=zh (b.keep A1.out);clear a b;have DL:=zh (dd_list (P:=P) (Q:=Q) (m:=m) (A:=A) (B:=B));have cX:=ca_cn (hsP P A) 0 m;have cY:=ca_cn (hsP Q B) 0 m;have SPA0:Hid (∀ W,PairS ba W (.slice oa A.length ca) A→Calls Tryz.prog 112 #[.agg #[.int .i64 P,.slice oa A.length ca],.int .i64 m] W fun e w'=>(∃ v',e=.returned v'∧PairS 0 w' v' (caL (hsP P A) 0 m))∧Below W.heap.size W w'):=fun W h=>rpspread _ P A pv m m0 m1 dP la W h;have SPB0:Hid (∀ W,PairS bb W (.slice ob B.length cb) B→Calls Tryz.prog 112 #[.agg #[.int .i64 Q,.slice ob B.length cb],.int .i64 m] W fun e w'=>(∃ v',e=.returned v'∧PairS 0 w' v' (caL (hsP Q B) 0 m))∧Below W.heap.size W w'):=fun W h=>rpspread _ Q B qv m m0 m1 dQ lb W h;generalize caL (hsP P A) 0 m=X at *;generalize caL (hsP Q B) 0 m=Y at *;have L1:Hid (∀ W v u,PairS 0 W v X→PairS 0 W u Y→Calls Tryz.prog 83 #[v,u,.int .i64 0] W fun e w'=>(∃ v',e=.returned v'∧PairS W.heap.size w' v' (cbL 1 X Y))∧Below W.heap.size W w'):=fun W v u h k=>by have r:=rplists v u X Y (by omega) (by omega) cX cY 0 (by omega) (by omega) W h k;exact r
 have L2:Hid (∀ W v u,PairS 0 W v X→PairS 0 W u Y→Calls Tryz.prog 83 #[v,u,.int .i64 1] W fun e w'=>(∃ v',e=.returned v'∧PairS W.heap.size w' v' (cbL 2 X Y))∧Below W.heap.size W w'):=fun W v u h k=>by have r:=rplists v u X Y (by omega) (by omega) cX cY 1 (by omega) (by omega) W h k;exact r
 have l1:=(cb_spec 1 X Y).2.2.2;have l2:=(cb_spec 2 X Y).2.2.2;have c1:=(cb_spec 1 X Y).1;have c2:=(cb_spec 2 X Y).1;have L3:Hid (∀ W v u b1 b2,PairS b1 W v (cbL 1 X Y)→PairS b2 W u (cbL 2 X Y)→Calls Tryz.prog 83 #[v,u,.int .i64 2] W fun e w'=>(∃ v',e=.returned v'∧PairS W.heap.size w' v' (cbL 3 (cbL 1 X Y) (cbL 2 X Y)))∧Below W.heap.size W w'):=fun W v u b1 b2 h k=>by have r:=rplists v u (cbL 1 X Y) (cbL 2 X Y) (by omega) (by omega) c1 c2 2 (by omega) (by omega) W h k;exact r
 clear l1 l2 c1 c2 cX cY la lb;obtain ⟨ta,tb,tl⟩:=TA.out;obtain ⟨ua,ub,ul⟩:=TB.out
 go_enter Tryz.func121,Tryz.ntmps121
 go_wp2
 generalize ((w.alloc (.cells #[.int .i64 P,.slice oa A.length ca] 24)).alloc (.cells #[.int .i64 Q,.slice ob B.length cb] 24))=w1 at *;have SPA:=zh (fun W (x:Below w1.heap.size w1 W)=>SPA0.out W (PA1.out.keep x));have SPB:=zh (fun W (x:Below w1.heap.size w1 W)=>SPB0.out W (PB1.out.keep x));clear SPA0 SPB0
 go_region_with (first
 | (go_at_call 112;(with_reducible refine (SPA.out _ (Below.drew (here _))).mono ?_);rintro e w4 ⟨⟨v4,rfl,P4⟩,hb⟩;have hB4:=zh (down (Below.drew (here w1)) hb);have ta:=(TA.out.keep hB4.out).c0;have tb:=(TA.out.keep hB4.out).c1;have tl:=(TA.out.keep hB4.out).lt;have ua:=(TB.out.keep hB4.out).c0;have ub:=(TB.out.keep hB4.out).c1;have ul:=(TB.out.keep hB4.out).lt;replace P4:=zh P4;clear hb)
 | (go_at_call 112;(with_reducible refine (SPB.out _ hB4.out).mono ?_);rintro e w5 ⟨⟨v5,rfl,P5⟩,hb⟩;have hB5:=zd hB4 hb;(replace P4:=zh (PairS.keep P4.out hb));have ta:=(TA.out.keep hB5.out).c0;have tb:=(TA.out.keep hB5.out).c1;have tl:=(TA.out.keep hB5.out).lt;have ua:=(TB.out.keep hB5.out).c0;have ub:=(TB.out.keep hB5.out).c1;have ul:=(TB.out.keep hB5.out).lt;replace P5:=zh P5;clear hb))
 all_goals
  have A5:=zh (down A1.out hB5.out);clear ta tb tl ua ub ul;go_wp2_with fail
  refine (L1.out _ _ _ P4.out P5.out).mono ?_;rintro e w6 ⟨⟨v6,rfl,P6⟩,hb⟩;have A6:=zd A5 hb;have P4':=zh (PairS.keep P4.out hb);have P5':=zh (PairS.keep P5.out hb);replace P6:=zh P6;clear hb;go_wp2_with fail
  refine (L2.out _ _ _ P4'.out P5'.out).mono ?_;rintro e w7 ⟨⟨v7,rfl,P7⟩,hb⟩;have A7:=zd A6 hb;have P6':=zh (PairS.keep P6.out hb);replace P7:=zh P7;clear hb;go_wp2_with fail
  refine (L3.out _ _ _ _ _ P6'.out P7.out).mono ?_;rintro e w8 ⟨⟨v8,rfl,P8⟩,hb⟩;have A8:=zd A7 hb;have P9:Hid (PairS w.heap.size w8 v8 (caL (ddB P A Q B) 0 m)):=by show PairS _ _ _ _;rw [← DL.out];exact Sl.weak P8 A7.out.size
  clear hb P8;go_wp2
  go_ret
  exact ⟨⟨_,rfl,P9.out⟩,A8.out⟩
set_option maxRecDepth 100000 in
set_option maxHeartbeats 2000000 in
theorem rtpair (va vb:Value) (P Q:Int) (A B:List Sp) (pv:PV P A) (qv:PV Q B) {ba bb:Nat} (w:World) (a:PairS ba w va A) (b:PairS bb w vb B) :
  Calls Tryz.prog 82 #[.agg #[.int .i64 P,va],.agg #[.int .i64 Q,vb]] w fun e w'=>e=.returned (.tuple #[.int .i64 (pqM P A Q B),.int .i64 (pqE P A Q B)])∧Below w.heap.size w w':=by
 obtain ⟨oa,ca,rfl⟩:=prs_shape a;obtain ⟨ob,cb,rfl⟩:=prs_shape b;have A1:=zh (grow (grow (here w) (.cells #[.int .i64 P,.slice oa A.length ca] 24)) (.cells #[.int .i64 Q,.slice ob B.length cb] 24));have TA:=zh (Two.fst (here ((w.alloc (.cells #[.int .i64 P,.slice oa A.length ca] 24)).alloc (.cells #[.int .i64 Q,.slice ob B.length cb] 24))));have TB:=zh (Two.snd (here ((w.alloc (.cells #[.int .i64 P,.slice oa A.length ca] 24)).alloc (.cells #[.int .i64 Q,.slice ob B.length cb] 24))));have PA1:=zh (a.keep A1.out);have PB1:=zh (b.keep A1.out);clear a b;have lA:=pv.len;have lB:=qv.len;have p0:=pv.p0;have p1:=pv.p1;have q0:=qv.p0;have q1:=qv.p1;have EQ:=zh (fun W (h:PairS ba W (.slice oa A.length ca) A) (k:PairS bb W (.slice ob B.length cb) B)=>rpequal _ _ P Q A B (le_mx (by omega)) (le_mx (by omega)) W h k);have PR:=zh (fun W (h:PairS ba W (.slice oa A.length ca) A) (k:PairS bb W (.slice ob B.length cb) B)=>rppair _ _ P Q A B lA lB p0 p1 q0 q1 W h k)
 unfold pqM pqE
 obtain ⟨ta,tb,tl⟩:=TA.out;obtain ⟨ua,ub,ul⟩:=TB.out
 by_cases e:P=Q∧A=B
 ·rw [zdt e.1,zdt e.2] at EQ;rw [if_pos e,if_pos e];clear e PR
  go_enter Tryz.func82,Tryz.ntmps82
  go_wp2_with fail
  clear ta tb tl ua ub ul;generalize ((w.alloc (.cells #[.int .i64 P,.slice oa A.length ca] 24)).alloc (.cells #[.int .i64 Q,.slice ob B.length cb] 24))=w1 at *;refine (EQ.out _ PA1.out PB1.out).mono ?_;rintro e w2 ⟨rfl,hb⟩;have A2:=zd A1 hb;obtain ⟨ta,tb,tl⟩:=TA.out.keep hb;clear hb;go_wp2
  go_ret2
  exact ⟨rfl,A2.out⟩
 ·have e':(decide (P=Q)&&decide (A=B))=false:=by
   rw [← Bool.not_eq_true,Bool.and_eq_true,decide_eq_true_iff,decide_eq_true_iff];exact e
  rw [e'] at EQ;rw [if_neg e,if_neg e];clear e e';generalize (prR P Q A.length B.length).1=M at *;generalize (prR P Q A.length B.length).2=E at *
  go_enter Tryz.func82,Tryz.ntmps82
  go_wp2_with fail
  clear ta tb tl ua ub ul;generalize ((w.alloc (.cells #[.int .i64 P,.slice oa A.length ca] 24)).alloc (.cells #[.int .i64 Q,.slice ob B.length cb] 24))=w1 at *;refine (EQ.out _ PA1.out PB1.out).mono ?_;rintro e w2 ⟨rfl,hb⟩;have A2:=zd A1 hb;have PA2:=zh (PA1.out.keep hb);have PB2:=zh (PB1.out.keep hb);obtain ⟨ta,tb,tl⟩:=TA.out.keep hb;obtain ⟨ua,ub,ul⟩:=TB.out.keep hb;clear hb;go_wp2_with fail
  clear ta tb tl ua ub ul;refine (PR.out _ PA2.out PB2.out).mono ?_;rintro e w3 ⟨rfl,hb⟩;have A3:=zd A2 hb;clear hb;go_wp2
  go_ret2
  exact ⟨rfl,A3.out⟩
theorem VS.ends {s:TS} (h:VS s) (np:¬ (s.P=s.Q∧s.A=s.B∧hsT s=hsP s.P s.A)):s.a=loT (hsT s) (hsP s.P s.A) (hsP s.Q s.B)∧s.b=edB (hsT s) (hsP s.Q s.B)∧s.L=caL (hsT s) s.a s.b∧(∃ a,EdA (hsT s) (hsP s.P s.A) a)∧∃ b,EdB (hsT s) (hsP s.Q s.B) b:=by
 have f:=h.fr;have ex:=ends_ex h.g.p h.g.q (pc_mid _ _ _ h.g.le) np
 unfold frT at f
 rw [if_neg (by rw [h.pq];exact fun c=>c rfl),if_neg np] at f
 by_cases c:(nvB (loT (hsT s) (hsP s.P s.A) (hsP s.Q s.B))&&nvB (edB (hsT s) (hsP s.Q s.B)))=true
 ·rw [if_pos c] at f;have f':=congrArg Prod.fst f;have e1:loT (hsT s) (hsP s.P s.A) (hsP s.Q s.B)=s.a:=congrArg TS.a f';have e2:edB (hsT s) (hsP s.Q s.B)=s.b:=congrArg TS.b f';have e3:caL (hsT s) (loT (hsT s) (hsP s.P s.A) (hsP s.Q s.B)) (edB (hsT s) (hsP s.Q s.B))=s.L:=congrArg TS.L f';rw [e1,e2] at e3;exact ⟨e1.symm,e2.symm,e3.symm,ex⟩
 ·rw [if_neg c] at f;exact absurd (show (9:Int)=0 from congrArg Prod.snd f) (by decide)
theorem VS.pure {s:TS} (h:VS s) (p:s.P=s.Q∧s.A=s.B∧hsT s=hsP s.P s.A):s=⟨s.P,s.A,s.P,s.A,0,0,[]⟩:=by
 have f:=h.fr
 unfold frT at f
 rw [if_neg (by rw [h.pq];exact fun c=>c rfl),if_pos p] at f;have f':=(congrArg Prod.fst f).symm;have f':s=⟨s.P,s.A,s.Q,s.B,0,0,[]⟩:=f';rw [← p.1,← p.2.1] at f';exact f'
end Go.Proofs.YtmamlgaogpkagaaGreat
