/- PeGD PeGG PeGH. -/
import Derived.Test.YtmamlgaogpkagaaGreatQLPlain
import Derived.Test.YtmamlgaogpkagaaGreatQLGen
import Derived.Test.YtmamlgaogpkagaaGreatQLSl
import Derived.Test.YtmamlgaogpkagaaGreatQRnT
import Derived.Test.YtmamlgaogpkagaaGreatQRnV
import Derived.Test.YtmamlgaogpkagaaGreatQPeB
import Derived.Test.YtmamlgaogpkagaaGreatQRnKF
import Derived.Test.YtmamlgaogpkagaaGreatQPeKD
import Derived.Test.YtmamlgaogpkagaaGreatQPeLm
import Derived.Test.YtmamlgaogpkagaaGreatQPeLma
import Derived.Test.YtmamlgaogpkagaaGreatQPeKI
import Derived.Test.YtmamlgaogpkagaaGreatQPeKJ
namespace Go.Proofs.YtmamlgaogpkagaaGreat
open Go.RowKit
set_option linter.unusedVariables false
set_option linter.unusedSimpArgs false
set_option maxRecDepth 100000 in
set_option maxHeartbeats 2000000 in
theorem rppair (va vb:Value) (P Q:Int) (A B:List Sp) (lA:A.length≤2000) (lB:B.length≤2000) (P1:1≤P) (P2:P≤12622780800) (Q1:1≤Q) (Q2:Q≤12622780800) {ba bb:Nat} (w:World) (a:PairS ba w va A) (b:PairS bb w vb B) :
    Calls Tryz.prog 110 #[.agg #[.int .i64 P,va],.agg #[.int .i64 Q,vb]] w fun e w'=>e=.returned (.tuple #[.int .i64 (prR P Q A.length B.length).1,.int .i64 (prR P Q A.length B.length).2])∧Below w.heap.size w w':=by
  obtain ⟨oa,ca,rfl⟩:=prs_shape a;obtain ⟨ob,cb,rfl⟩:=prs_shape b;obtain ⟨n,hn⟩:∃ n,A.length=n:=⟨_,rfl⟩;obtain ⟨m,hm⟩:∃ m,B.length=m:=⟨_,rfl⟩;have HL:=zh (fun W=>reflcm_all P Q (by omega) (by omega) (by omega) (by omega) W);have PF:lE P Q=0→0<lR P Q:=fun h=>(pr_facts P1 P2 Q1 h).2.2;have RF:Hid (prR P Q n m=if lE P Q=0∧lR P Q≤12622780800 then (if 2000<lR P Q / P * n+lR P Q / Q * m then (0,5) else (lR P Q,0)) else (0,9)):=rfl;rw [hn,hm];rw [hn] at lA;rw [hm] at lB;generalize prR P Q n m=PR at *;generalize lR P Q=M at *;generalize lE P Q=E at *;have s1:=size_two w (.cells #[.int .i64 P,.slice oa n ca] 24);have A1:=zh (grow (grow (here w) (.cells #[.int .i64 P,.slice oa n ca] 24)) (.cells #[.int .i64 Q,.slice ob m cb] 24));have TA:=zh (Two.fst (here ((w.alloc (.cells #[.int .i64 P,.slice oa n ca] 24)).alloc (.cells #[.int .i64 Q,.slice ob m cb] 24))));have TB:=zh (Two.snd (here ((w.alloc (.cells #[.int .i64 P,.slice oa n ca] 24)).alloc (.cells #[.int .i64 Q,.slice ob m cb] 24))));clear a b s1 hn hm;obtain ⟨t0,t1,tl⟩:=TA.out;obtain ⟨u0,u1,ul⟩:=TB.out
  go_enter Tryz.func110,Tryz.ntmps110
  go_wp2_with fail
  refine (HL.out _).mono ?_;rintro e w5 ⟨rfl,d,hw5⟩;have A4:Hid (Below w.heap.size w w5):=by show Below _ _ _;rw [hw5];exact below_drewN A1.out d
  replace TA:=zh (TA.out.drewN d);replace TB:=zh (TB.out.drewN d);rw [← hw5] at TA TB;clear hw5 t0 t1 tl u0 u1 ul A1 HL;obtain ⟨t0,t1,tl⟩:=TA.out;obtain ⟨u0,u1,ul⟩:=TB.out
  by_cases e0:E=0
  · have ke:(E != 0)=false:=by rw [e0];rfl
    by_cases mb:M≤12622780800
    · have km:decide (12622780800<M)=false:=zdf (by omega);rw [if_pos ⟨e0,mb⟩] at RF;have M0:=PF e0;clear PF e0;have P0:¬ (P=0):=by omega
      have Q0:¬ (Q=0):=by omega
      obtain ⟨X,eX⟩:∃ X,M / P=X:=⟨_,rfl⟩;obtain ⟨Y,eY⟩:∃ Y,M / Q=Y:=⟨_,rfl⟩;have hX:M.tdiv P=X:=by rw [← eX,Int.tdiv_eq_ediv_of_nonneg (by omega)]
      have hY:M.tdiv Q=Y:=by rw [← eY,Int.tdiv_eq_ediv_of_nonneg (by omega)]
      have X0:0≤X:=by rw [← eX];exact Int.ediv_nonneg (by omega) (by omega)
      have Y0:0≤Y:=by rw [← eY];exact Int.ediv_nonneg (by omega) (by omega)
      have X1:X≤M:=by rw [← eX];exact Int.ediv_le_self _ (by omega)
      have Y1:Y≤M:=by rw [← eY];exact Int.ediv_le_self _ (by omega)
      rw [eX,eY] at RF;have xn0:0≤X * (n:Int):=Int.mul_nonneg X0 (by omega);have ym0:0≤Y * (m:Int):=Int.mul_nonneg Y0 (by omega);have xn1:X * (n:Int)≤25245561600000:=by
        have:=Int.mul_le_mul (show X≤12622780800 by omega) (show (n:Int)≤2000 by omega) (by omega) (by omega);omega
      have ym1:Y * (m:Int)≤25245561600000:=by
        have:=Int.mul_le_mul (show Y≤12622780800 by omega) (show (m:Int)≤2000 by omega) (by omega) (by omega);omega
      obtain ⟨XN,hXN⟩:∃ z,X * (n:Int)=z:=⟨_,rfl⟩;obtain ⟨YM,hYM⟩:∃ z,Y * (m:Int)=z:=⟨_,rfl⟩;rw [hXN] at xn0 xn1 RF;rw [hYM] at ym0 ym1 RF
      by_cases fu:2000<XN+YM
      · have kf:decide (2000<XN+YM)=true:=zdt fu;rw [if_pos fu] at RF;clear fu;go_wp2
        go_quiet (fail)
        have A9:=zh (below_drewN A4.out nq);go_wp2
        go_ret2
        rw [RF.out];exact ⟨rfl,A9.out⟩
      · have kf:decide (2000<XN+YM)=false:=zdf fu;rw [if_neg fu] at RF;clear fu;go_wp2
        go_quiet (fail)
        have A9:=zh (below_drewN A4.out nq);go_wp2
        go_ret2
        rw [RF.out];exact ⟨rfl,A9.out⟩
    · have km:decide (12622780800<M)=true:=zdt (by omega);rw [if_neg (fun z=>mb z.2)] at RF;clear PF e0 mb;go_wp2
      go_ret2
      rw [RF.out];exact ⟨rfl,A4.out⟩
  · have ke:(E != 0)=true:=by rw [bne_iff_ne];exact e0
    rw [if_neg (fun z=>e0 z.1)] at RF;clear PF e0;go_wp2
    go_ret2
    rw [RF.out];exact ⟨rfl,A4.out⟩
theorem ca_add {f:Int→Bool} {a e u v:Int} (au:a≤u) (eu:e≤u) (uv:u<v) (no:∀ x,e≤x→x<u→f x=false) (yes:∀ x,u≤x→x<v→f x=true):caL f a v=addL (caL f a e) (u,v):=by
 obtain ⟨c,m,-,-⟩:=add_ok (s:=(u,v)) (ca_cn f a e) (fun q hq=>by have:=(ca_ends f a e q hq).2;show q.2≤u;omega) uv;refine (ca_eq c fun x=>?_).symm;rw [m,ca_in]
 show ((decide (a≤x)&&decide (x<e)&&f x) || (decide (u≤x)&&decide (x<v)))=_
 by_cases x0:x<e
 ·rw [zdt x0,zdf (show ¬ u≤x by omega),zdt (show x<v by omega),Bool.false_and,Bool.or_false]
 ·by_cases x1:x<u
  ·rw [no x (by omega) x1,Bool.and_false,Bool.and_false,zdf (show ¬ u≤x by omega)];rfl
  ·by_cases x2:x<v
   ·rw [yes x (by omega) x2,zdf x0,zdt x2,zdt (show u≤x by omega),zdt (show a≤x by omega)];rfl
   ·rw [zdf x0,zdf x2];simp
def eN (A:List Sp):Nat→Int
  | 0=>0
  | i+1=>(A.getD i (0,0)).2
structure Sps (P:Int) (A:List Sp) (at':Int):Prop where
 bd:∀ i,i<A.length→0≤eN A i∧eN A i≤(A.getD i (0,0)).1∧(A.getD i (0,0)).1<(A.getD i (0,0)).2∧(A.getD i (0,0)).2≤P
 no:∀ i,i<A.length→∀ x,at'+eN A i≤x→x<at'+(A.getD i (0,0)).1→hsP P A x=false
 yes:∀ i,i<A.length→∀ x,at'+(A.getD i (0,0)).1≤x→x<at'+(A.getD i (0,0)).2→hsP P A x=true
 last:∀ x,at'+eN A A.length≤x→x<at'+P→hsP P A x=false
 lp:0≤eN A A.length∧eN A A.length≤P
theorem sps {P:Int} {A:List Sp} (pv:PV P A) {at':Int} (d:P ∣ at'):Sps P A at':=by
  have P0:0<P:=by have:=pv.p0;omega
  have bd:∀ i,i<A.length→0≤(A.getD i (0,0)).1∧(A.getD i (0,0)).1<(A.getD i (0,0)).2∧(A.getD i (0,0)).2≤P:=fun i hi=>pe_at pv.cn pv.ip hi;have e0:∀ i,i≤A.length→0≤eN A i∧eN A i≤P:=fun i hi=>by
    cases i with
    | zero=>exact ⟨Int.le_refl _,by show (0:Int)≤P;omega⟩
    | succ i=>have:=bd i hi;exact ⟨by show 0≤(A.getD i (0,0)).2;omega,this.2.2⟩
  have up:∀ i,i<A.length→eN A i≤(A.getD i (0,0)).1:=fun i hi=>by
    cases i with
    | zero=>exact (bd 0 hi).1
    | succ i=>have:=cn_gt pv.cn (show i<i+1 by omega) (show i+1<A.length from hi);show (A.getD i (0,0)).2≤(A.getD (i+1) (0,0)).1;omega
  have mo:∀ i,i≤A.length→∀ j,j<i→(A.getD j (0,0)).2≤eN A i:=fun i hi j hj=>by
    cases i with
    | zero=>omega
    | succ i=>exact (cn_lo pv.cn (show j≤i by omega) hi).2
  have hh:∀ x,at'≤x→x<at'+P→hsP P A x=inB A (x - at'):=fun x x0 x1=>by
    obtain ⟨k,rfl⟩:=d
    show inB A (x % P)=_
    congr 1
    rw [show x=(x - P * k)+P * k by omega,Int.add_mul_emod_self_left,Int.emod_eq_of_lt (by omega) (by omega)];omega
  refine ⟨fun i hi=>⟨(e0 i (by omega)).1,up i hi,(bd i hi).2⟩,fun i hi x x0 x1=>?_,fun i hi x x0 x1=>?_,fun x x0 x1=>?_,e0 _ (Nat.le_refl _)⟩
  · have b:=bd i hi;have e:=e0 i (by omega);rw [hh x (by omega) (by omega),scan_mid pv.cn hi (fun j hj=>by have:=mo i (by omega) j hj;omega) (by omega)];exact zdf (by omega)
  · have b:=bd i hi;rw [hh x (by omega) (by omega)];exact inB_iff.2 ⟨_,getD_mem hi,by omega,by omega⟩
  · have e:=e0 _ (Nat.le_refl A.length);rw [hh x (by omega) x1];exact scan_end fun j hj=>by have:=mo _ (Nat.le_refl _) j hj;omega
theorem sp_add {P:Int} {A:List Sp} {t:Int} (s:Sps P A t) (t0:0≤t) {i:Nat} (hi:i<A.length):caL (hsP P A) 0 (t+eN A (i+1))=addL (caL (hsP P A) 0 (t+eN A i)) ((A.getD i (0,0)).1+t,(A.getD i (0,0)).2+t):=by
 have b:=s.bd i hi;rw [Int.add_comm (A.getD i (0,0)).1,Int.add_comm (A.getD i (0,0)).2]
 show caL _ 0 (t+(A.getD i (0,0)).2)=_
 exact ca_add (by omega) (by omega) (by omega) (s.no i hi) (s.yes i hi)
theorem sp_last {P:Int} {A:List Sp} {t:Int} (s:Sps P A t):caL (hsP P A) 0 (t+eN A A.length)=caL (hsP P A) 0 (t+P) :=
 ca_skip (by have:=s.lp;omega) s.last
theorem sp_none {P m:Int}:caL (hsP P []) 0 m=[]:=(ca_eq (show Cn [] from trivial) fun x=>by rw [inB_nil];show _=(_&&inB [] _);rw [inB_nil,Bool.and_false]).symm
theorem sp_one {A:List Sp} {m:Int} (pv:PV 1 A) (ne:0<A.length) (m0:0<m):caL (hsP 1 A) 0 m=[(0,m)]:=by
 have all:∀ x,hsP 1 A x=true:=fun x=>by
  have s:=sps pv (at':=x) ⟨x,by omega⟩;have b:=s.bd 0 ne;have e:eN A 0=0:=rfl;exact s.yes 0 ne x (by omega) (by omega)
 rw [ca_add (Int.le_refl 0) (Int.le_refl 0) m0 (fun x x0 x1=>by omega) (fun x _ _=>all x),ca_none _ (Int.le_refl 0)];rfl
theorem sp_len {f:Int→Bool} {m e:Int} {l:Nat} (h:(caL f 0 m).length≤l) (em:e≤m):(caL f 0 e).length≤l:=Nat.le_trans (len_mono' f em) h
theorem dvd_room {P m t:Int} (d:P ∣ m) (e:P ∣ t) (lt:t<m):t+P≤m:=by
 obtain ⟨a,rfl⟩:=d;obtain ⟨b,rfl⟩:=e
 by_cases z:0≤P
 ·by_cases y:a≤b
  ·have:=Int.mul_le_mul_of_nonneg_left y z;omega
  ·have:=Int.mul_le_mul_of_nonneg_left (show b+1≤a by omega) z;rw [Int.mul_add,Int.mul_one] at this;exact this
 ·by_cases y:P * b+P≤P * a
  ·exact y
  ·exfalso;omega
set_option maxRecDepth 100000 in
set_option maxHeartbeats 2000000 in
theorem rpspread (va:Value) (P:Int) (A:List Sp) (pv:PV P A) (m:Int) (m0:0<m) (m1:m≤12622780800) (d:P ∣ m) (l:(caL (hsP P A) 0 m).length≤2000) {ba:Nat} (w:World) (a:PairS ba w va A) :
    Calls Tryz.prog 112 #[.agg #[.int .i64 P,va],.int .i64 m] w fun e w'=>(∃ v',e=.returned v'∧PairS 0 w' v' (caL (hsP P A) 0 m))∧Below w.heap.size w w':=by
  obtain ⟨i0,hi,hz0,hz1,hz2⟩:=info_parts infoS;have A1:=zh (grow (here w) (.cells #[.int .i64 P,va] 24));have TA:=zh (Two.new (t:=24) (x:=.int .i64 P) (y:=va) (here (w.alloc (.cells #[.int .i64 P,va] 24))));have a2:=zh (a.keep A1.out);obtain ⟨oa,ca,rfl⟩:=prs_shape a;obtain ⟨t0,t1,tl⟩:=TA.out;have p0:=pv.p0;have p1:=pv.p1;have alen:=pv.len;obtain ⟨n,hn⟩:∃ n,A.length=n:=⟨_,rfl⟩;rw [hn] at a2 alen TA t0 t1 tl A1 ⊢;clear a
  by_cases n0:n=0
  · obtain rfl:A=[]:=List.length_eq_zero_iff.1 (by omega);obtain rfl:n=0:=n0;rw [sp_none];clear pv l hn alen
    go_enter Tryz.func112,Tryz.ntmps112
    go_wp2
    go_ret
    exact ⟨⟨_,rfl,Sl.none _ _⟩,A1.out⟩
  · have k0:((n:Int)==0)=false:=by rw [beq_eq_false_iff_ne];omega
    by_cases q1:P=1
    · subst q1;rw [sp_one pv (by omega) m0];clear pv l d n0 alen;have FI:=prs_lit1 (w.alloc (.cells #[.int .i64 1,.slice oa n ca] 24)) 0 m;rw [show (w.alloc (.cells #[.int .i64 1,.slice oa n ca] 24)).heap.size=w.heap.size+1 by simp] at FI;replace FI:=zh FI;have A2:=zh (grow A1.out (.cells #[.int .i64 0,.int .i64 m] 40))
      go_enter Tryz.func112,Tryz.ntmps112
      go_wp2
      go_ret
      exact ⟨⟨_,rfl,FI.out⟩,A2.out⟩
    · have k1:(P==1)=false:=by rw [beq_eq_false_iff_ne];exact q1
      have pv:=zh pv;have d:=zh d;have l:=zh l
      go_enter Tryz.func112,Tryz.ntmps112
      go_wp2
      generalize (w.alloc (.cells #[.int .i64 P,.slice oa n ca] 24))=w1 at *;have TA1:=TA.out;have PA1:=a2.out;have L0:=zh (here w1);have I0:Hid (w1.ownsRow w1.heap.size 40 2 (.slice none 0 0) ([]:List Sp).length (pairs [])):=World.ownsRow_nil _ _ _ _;have S0:Hid (caL (hsP P A) 0 0=[]):=ca_none _ (Int.le_refl 0);clear TA1 PA1
      go_loopw [5,6] (fun v t wr=>∃ (at':Int) (v':Value) (RR:List Sp),v'=v∧0≤at'∧at'<m+P∧t=.int .i64 at'∧Hid (P ∣ at'∧at'≤m∧RR=caL (hsP P A) 0 at')∧Hid (wr.ownsRow w1.heap.size 40 2 v RR.length (pairs RR))∧Hid (Below w1.heap.size w1 wr)) (fun _ t _=>(m - intOf t).toNat)
      case atStart=>exact ⟨0,_,[],rfl,Int.le_refl _,by omega,rfl,⟨Int.dvd_zero P,by omega,S0.out.symm⟩,I0,L0⟩
      case round =>
        obtain ⟨t,v',RR,rfl,t0,t1,rfl,ST,O1,B1⟩:=hrel;clear I0 L0 S0;have TA2:=zh (TA.out.keep B1.out);obtain ⟨ta,tb,tl⟩:=TA2.out
        by_cases z:t<m
        · have kz:=zdt z;have SS:=zh (sps pv.out ST.out.1);have tm:=dvd_room d.out ST.out.1 z;have I1:Hid (RR=caL (hsP P A) 0 (t+eN A 0)):=by show _=_;rw [show t+eN A 0=t by show t+0=t;omega];exact ST.out.2.2
          have B1':=B1;have O1':=O1;clear TA2 O1 B1;go_wp2
          go_loopw [5,7] (fun v i wr=>∃ (k:Nat) (v':Value) (RR:List Sp),v'=v∧k≤n∧RR.length≤2000∧i=.int .i64 k∧Hid (RR=caL (hsP P A) 0 (t+eN A k))∧Hid (wr.ownsRow w1.heap.size 40 2 v RR.length (pairs RR))∧Hid (Below w1.heap.size w1 wr)) (fun _ i _=>n - (intOf i).toNat)
          case atStart=>exact ⟨0,_,RR,rfl,Nat.zero_le _,by rw [ST.out.2.2];exact sp_len l.out (by omega),rfl,I1,O1',B1'⟩
          case round =>
            obtain ⟨i,v',R,rfl,hi',rl,rfl,SI,OI,BI⟩:=hrel;clear O1' B1' I1 ta tb tl;have TA3:=zh (TA.out.keep BI.out);have PA3:=zh (a2.out.keep BI.out);obtain ⟨ta,tb,tl⟩:=TA3.out
            by_cases y:i<n
            · have ky:decide ((i:Int)<(n:Int))=true:=zdt (by omega);have bd:=SS.out.bd i (by omega);have e0:=SS.out.bd i (by omega);have SA:=sp_add SS.out t0 (show i<A.length by omega);obtain ⟨b,off,rfl,bl,cs⟩:=prs_here PA3.out (show i<A.length by omega);obtain ⟨c0,c1⟩:=cs i (by omega);rw [← SI.out] at SA;obtain ⟨i1,hi1⟩:∃ i1,i+1=i1:=⟨_,rfl⟩;have SL:(caL (hsP P A) 0 (t+eN A (i+1))).length≤2000:=sp_len l.out (by show t+(A.getD i (0,0)).2≤m;omega);rw [hi1] at SA SL;rw [SA] at SL;generalize A.getD i (0,0)=q at *;obtain ⟨qx,qy⟩:=q;replace c0:wr.cell? ⟨b,off+i * 2,none⟩=some (.int .i64 qx):=c0;replace c1:wr.cell? ⟨b,off+i * 2+1,none⟩=some (.int .i64 qy):=c1;have b0:0≤qx:=by have:=e0.1;have:=e0.2.1;show 0≤(qx,qy).1;omega
              have b1:qx<qy:=e0.2.2.1;have b2:qy≤P:=e0.2.2.2;obtain ⟨f,hf⟩:∃ f,qx+t=f:=⟨_,rfl⟩;obtain ⟨g,hg⟩:∃ g,qy+t=g:=⟨_,rfl⟩;replace SA:caL (hsP P A) 0 (t+eN A i1)=addL R (qx+t,qy+t):=SA;replace SL:(addL R (qx+t,qy+t)).length≤2000:=SL;rw [hf,hg] at SA SL;have STL:=SL;have STE:=zh SA.symm;replace STE:Hid (addL R (f,g)=caL (hsP P A) 0 (t+eN A i1)):=STE;have xb:-1<f∧f<25245561600∧-1<g∧g<25245561600:=by omega
              clear SA SL bd e0 cs TA3;go_wp2
              go_region
              refine at_world (G:=fun W'=>Exit.then _ _ Exit.normal _ W') (fun W'=>Below wr.heap.size wr W'∧Two W' wr.heap.size (.int .i64 f) (.int .i64 g)∧W'.ownsRow w1.heap.size 40 2 v' R.length (pairs R)) ⟨(grow (here wr) _).drew,Two.new (Below.drew (here _)),OI.out.alloc _⟩ ?_;rintro w5 ⟨W5,X5,O5⟩;have A5:=zd BI W5;obtain ⟨x0,x1,xl⟩:=X5;replace O5:=zh O5;have X5:=zh (show Two w5 wr.heap.size (.int .i64 f) (.int .i64 g) from ⟨x0,x1,xl⟩);clear W5 BI OI SI c0 c1 bl ta tb tl PA3
              rcases snoc_cases R with rfl | ⟨R',q,rfl⟩
              · replace O5:Hid (w5.ownsRow w1.heap.size 40 2 v' 0 []):=O5;obtain ⟨ao,cp,rfl⟩:=(Sl.owns O5.out).shape;go_wp2
                go_quiet (fail)
                obtain ⟨w6,hw6⟩:∃ w6:World,w5.drewN nq=w6:=⟨_,rfl⟩;rw [hw6];have A6:=zh (show Below w1.heap.size w1 w6 by rw [← hw6];exact below_drewN A5.out _);clear x0 x1 xl;obtain ⟨x0,x1,xl⟩:Two w6 wr.heap.size (.int .i64 f) (.int .i64 g):=by rw [← hw6];exact Two.drewN X5.out _
                have O6:Hid (w6.ownsRow w1.heap.size 40 2 (.slice ao 0 cp) 0 []):=by show World.ownsRow _ _ _ _ _ _ _;rw [← hw6];exact O5.out
                clear hw6 O5 A5 X5;go_wp2_with (at_builtin;refine wpList_append_own _ rfl _ _ 22 rfl w1.heap.size 40 i0 (.agg #[.int .i64 0,.int .i64 0]) 2 16 Tryz.underlying22 hi hz0 hz1 hz2 rfl (by decide) (.slice ao 0 cp) 0 [] rfl (O6.out.alloc _) ⟨w6.heap.size,0,none⟩ 1 1 [.int .i64 f,.int .i64 g] rfl rfl (fun j u hj=>by rw [Addr.add_lit,Nat.zero_add,World.cell?_alloc_new];simpa using hj) (fun u hu=>by simp at hu;rcases hu with rfl | rfl <;> rfl) (by unfold maxLen;omega) (by omega) (by have:=A6.out.size;simp;omega) ?_)
                intro v7 w7 hown hgrow _;have A7:Hid (Below w1.heap.size w1 w7):=(A6.out.alloc A6.out.size _).grown hgrow (by have:=A6.out.size;simp;omega) (own_ge O6.out);have O7:Hid (w7.ownsRow w1.heap.size 40 2 v7 (addL [] (f,g)).length (pairs (addL [] (f,g)))):=by
                  show World.ownsRow _ _ _ _ _ _ _;exact hown
                clear hown hgrow O6 A6;go_wp2
                go_roundw
                case rel=>exact ⟨i1,_,_,rfl,by omega,STL,by first | rfl | go_num,STE,O7,A7⟩
                case measure=>simp [intOf];omega
              · have len:(R'++[q]).length=R'.length+1:=by simp
                obtain ⟨gb,cp,rfl⟩:∃ gb cp,v'=.slice (some ⟨gb,0,none⟩) (R'.length+1) cp:=by
                  rcases O5.out.2 with ⟨-,h0⟩ | ⟨gb,cp,cur,e,-⟩
                  · simp at h0
                  · exact ⟨gb,cp,by rw [e];simp⟩
                rw [len] at O5 rl;have sn:=add_snoc R' q (f,g);obtain ⟨m0',hm0⟩:∃ m0,R'.length=m0:=⟨_,rfl⟩;have ps:=pairs_set R' q g;have CE:∀ w':World,w'.ownsRow w1.heap.size 40 2 (.slice (some ⟨gb,0,none⟩) (R'.length+1) cp) (R'.length+1) (pairs (R'++[q]))→w'.cell? ⟨gb,R'.length * 2+1,none⟩=some (.int .i64 q.2):=fun w' h=>by
                  have:=(pairs_get (R'++[q]) R'.length (by simp)).2;rw [h.cellAt _ (by omega),Nat.mul_comm,this];simp
                rw [hm0] at O5 ps rl CE ⊢;replace CE:=zh CE;have c2:=CE.out w5 O5.out;have gl5:=O5.out.lt gb rfl;obtain ⟨KK,hKK⟩:∃ KK:Nat,m0'+1=KK:=⟨_,rfl⟩;rw [hKK] at O5 rl CE ⊢;have kz3:decide (0<(KK:Int))=true:=zdt (by omega);have kz4:decide (0<KK)=true:=zdt (by omega);have kk1:(KK:Int) - 1=m0':=by omega
                have km:((m0':Nat):Int)<(KK:Int):=by omega
                have f5:=O5.out.frozenAt (m0' * 2+1)
                by_cases zq:q.2=f
                · have kq:(q.2==f)=true:=beq_iff_eq.2 zq;go_wp2
                  go_quiet (fail)
                  obtain ⟨w6,hw6⟩:∃ w6:World,w5.drewN nq=w6:=⟨_,rfl⟩;rw [hw6];have A6:=zh (show Below w1.heap.size w1 w6 by rw [← hw6];exact below_drewN A5.out _);clear x0 x1 xl;obtain ⟨x0,x1,xl⟩:Two w6 wr.heap.size (.int .i64 f) (.int .i64 g):=by rw [← hw6];exact Two.drewN X5.out _
                  have O6:Hid (w6.ownsRow w1.heap.size 40 2 (.slice (some ⟨gb,0,none⟩) KK cp) KK (pairs (R'++[q]))):=by show World.ownsRow _ _ _ _ _ _ _;rw [← hw6];exact O5.out
                  clear hw6 O5 A5 X5 c2 gl5 f5;have c2:=CE.out w6 O6.out;have gl:=O6.out.lt gb rfl;have f6:=O6.out.frozenAt (m0' * 2+1);have STO:=zh (World.ownsRow.stored O6.out (m0' * 2+1) (.int .i64 g));rw [ps] at STO;have O7:Hid ((w6.setCell ⟨gb,m0' * 2+1,none⟩ (.int .i64 g)).ownsRow w1.heap.size 40 2 (.slice (some ⟨gb,0,none⟩) KK cp) (addL (R'++[q]) (f,g)).length (pairs (addL (R'++[q]) (f,g)))):=by
                    show World.ownsRow _ _ _ _ _ _ _;rw [add_snoc,if_pos zq,show (R'++[(q.1,g)]).length=KK by simp;omega];exact STO.out.1
                  have A7:=zh (A6.out.setCell (p:=⟨gb,m0' * 2+1,none⟩) gl.1 (.int .i64 g));clear ps STO;go_wp2
                  go_roundw
                  case rel=>exact ⟨i1,_,_,rfl,by omega,STL,by first | rfl | go_num,STE,O7,A7⟩
                  case measure=>simp [intOf];omega
                · have kq:(q.2==f)=false:=by rw [beq_eq_false_iff_ne];exact zq
                  go_wp2
                  go_quiet (fail)
                  obtain ⟨w6,hw6⟩:∃ w6:World,w5.drewN nq=w6:=⟨_,rfl⟩;rw [hw6];have A6:=zh (show Below w1.heap.size w1 w6 by rw [← hw6];exact below_drewN A5.out _);clear x0 x1 xl;obtain ⟨x0,x1,xl⟩:Two w6 wr.heap.size (.int .i64 f) (.int .i64 g):=by rw [← hw6];exact Two.drewN X5.out _
                  have O6:Hid (w6.ownsRow w1.heap.size 40 2 (.slice (some ⟨gb,0,none⟩) KK cp) KK (pairs (R'++[q]))):=by show World.ownsRow _ _ _ _ _ _ _;rw [← hw6];exact O5.out
                  clear hw6 O5 A5 X5 c2 gl5 f5 ps CE;go_wp2_with (at_builtin;refine wpList_append_own _ rfl _ _ 22 rfl w1.heap.size 40 i0 (.agg #[.int .i64 0,.int .i64 0]) 2 16 Tryz.underlying22 hi hz0 hz1 hz2 rfl (by decide) (.slice (some ⟨gb,0,none⟩) KK cp) KK (pairs (R'++[q])) rfl (O6.out.alloc _) ⟨w6.heap.size,0,none⟩ 1 1 [.int .i64 f,.int .i64 g] rfl rfl (fun j u hj=>by rw [Addr.add_lit,Nat.zero_add,World.cell?_alloc_new];simpa using hj) (fun u hu=>by simp at hu;rcases hu with rfl | rfl <;> rfl) (by unfold maxLen;omega) (by omega) (by have:=A6.out.size;simp;omega) ?_)
                  intro v7 w7 hown hgrow _;have A7:Hid (Below w1.heap.size w1 w7):=(A6.out.alloc A6.out.size _).grown hgrow (by have:=A6.out.size;simp;omega) (own_ge O6.out);have O7:Hid (w7.ownsRow w1.heap.size 40 2 v7 (addL (R'++[q]) (f,g)).length (pairs (addL (R'++[q]) (f,g)))):=by
                    show World.ownsRow _ _ _ _ _ _ _;rw [add_snoc,if_neg zq,pairs_append,show (R'++[q]++[(f,g)]).length=KK+1 by simp;omega];exact hown
                  clear hown hgrow O6 A6;go_wp2
                  go_roundw
                  case rel=>exact ⟨i1,_,_,rfl,by omega,STL,by first | rfl | go_num,STE,O7,A7⟩
                  case measure=>simp [intOf];omega
            · have ky:decide ((i:Int)<(n:Int))=false:=zdf (by omega);obtain rfl:i=n:=by omega
              have ST2:Hid (P ∣ t+P∧t+P≤m∧R=caL (hsP P A) 0 (t+P)):=⟨by obtain ⟨j,hj⟩:=ST.out.1;exact ⟨j+1,by rw [hj,Int.mul_add,Int.mul_one]⟩,tm,by rw [← sp_last SS.out,hn];exact SI.out⟩;clear ST SI PA3 TA3;go_wp2
              go_roundw
              case rel=>exact ⟨t+P,_,R,rfl,by omega,by omega,by first | rfl | go_num,ST2,OI,BI⟩
              case measure=>simp [intOf];omega
        · have kz:=zdf z;have e:t=m:=by have:=ST.out.2.1;omega
          have PF:Hid (PairS 0 wr v' (caL (hsP P A) 0 m)):=by show PairS _ _ _ _;rw [← e,← ST.out.2.2];exact Sl.owns (own_weak O1.out (Nat.zero_le _))
          have A9:=zh (down A1.out B1.out);clear ST O1 B1 TA2;go_wp2
          go_ret
          exact ⟨⟨_,rfl,PF.out⟩,A9.out⟩
end Go.Proofs.YtmamlgaogpkagaaGreat
