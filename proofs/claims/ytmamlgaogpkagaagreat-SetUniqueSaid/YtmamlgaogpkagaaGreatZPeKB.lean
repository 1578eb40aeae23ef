/- PeKB PeKC. -/
import Derived.Test.YtmamlgaogpkagaaGreatZLPlain
import Derived.Test.YtmamlgaogpkagaaGreatZLGen
import Derived.Test.YtmamlgaogpkagaaGreatZLSl
import Derived.Test.YtmamlgaogpkagaaGreatZRnP
import Derived.Test.YtmamlgaogpkagaaGreatZPeT
import Derived.Test.YtmamlgaogpkagaaGreatZRnKD
import Derived.Test.YtmamlgaogpkagaaGreatZRnKF
import Derived.Deep.RegionWith
namespace Go.Proofs.YtmamlgaogpkagaaGreat
open Go.RowKit
set_option linter.unusedVariables false
set_option linter.unusedSimpArgs false
set_option maxRecDepth 100000 in
set_option maxHeartbeats 1000000 in
theorem upcircle (v:Value) (P:Int) (L:List Sp) (f:Int→Bool) (H:Cir P f L) (hn:L.length≤1000000) (P1:P≤12622780800) {base:Nat} (w:World) (h:PairS base w v L) :
  Calls Tryz.prog 166 #[.int .i64 P,v] w fun e w'=>(∃ Q v' M,e=.returned (.tuple #[.int .i64 Q,v'])∧OwnS w.heap.size w' v' M∧CrV P f Q M∧M.length≤L.length+1)∧Below w.heap.size w w':=by
 have HC:=zh (ruclone v L L.length rfl hn w h);have P0:=H.P0;replace H:=zh H;clear h
 go_enter Tryz.func166,Tryz.ntmps166
 go_wp2_with fail
 refine HC.out.mono ?_;rintro e w1 ⟨v1,rfl,O1,A1⟩;have S1:=zh (owns_of rfl O1);replace A1:=zh A1;clear O1 HC;go_wp2
 go_loopw [1,6] (fun u p wr=>∃ (M:List Sp) (o:Option Addr) (m c:Nat) (p':Value),M.length=m∧m≤L.length∧u=.slice o m c∧p'=p∧Hid (Cir P f M)∧Hid (OwnS w.heap.size wr (.slice o m c) M)∧Hid (Below w.heap.size w wr)) (fun u _ _=>match u with | .slice _ n _=>n | _=>0)
 case atStart =>
  obtain ⟨o,c,e,l,k⟩:=S1.out.sh;refine ⟨L,o,L.length,c,_,rfl,Nat.le_refl _,e,rfl,H,?_,A1⟩
  show OwnS _ _ _ _
  rw [← e];exact S1.out
 case round =>
  obtain ⟨M,o,m,c,p',hm,hl,rfl,rfl,HM,HO,HA⟩:=hrel;clear S1 A1 H
  rcases Nat.lt_or_ge 1 m with z1 | z1
  ·have kz1:decide (1<(m:Int))=true:=zdt (by omega);obtain ⟨p,M',rfl⟩:∃ p M',M=p :: M':=by
    cases M with
    | nil=>simp at hm;omega
    | cons p M'=>exact ⟨p,M',rfl⟩
   obtain ⟨R,q,rfl⟩:∃ R q,M'=R++[q]:=by
    rcases snoc_cases M' with e | e
    ·subst e;simp at hm;omega
    ·exact e
   obtain ⟨r,hr⟩:∃ r,R.length=r:=⟨_,rfl⟩;have lm:(p :: (R++[q])).length=r+2:=by simp [hr]
   obtain ⟨K,hK⟩:∃ K,r+1=K:=⟨_,rfl⟩;have hm2:m=K+1:=by omega
   obtain ⟨b,off,rfl,cl,bB,bl,cs,fz⟩:=HO.out.at (show 0<m by omega);obtain ⟨c0,c1⟩:=cs 0 (by omega);obtain ⟨d0,d1⟩:=cs K (by omega);have eq:(p :: (R++[q])).getD K (0,0)=q:=by
    rw [← hK,← hr];have:=app_right R [q] 0;rw [Nat.add_zero] at this;exact this
   rw [eq] at d0 d1;rw [Nat.zero_mul,Nat.add_zero] at c0 c1;replace c0:wr.cell? ⟨b,off,none⟩=some (.int .i64 p.1):=c0;replace c1:wr.cell? ⟨b,off+1,none⟩=some (.int .i64 p.2):=c1;have lp:=HM.out.lo p (List.mem_cons_self ..);have lq:=HM.out.lo q (List.mem_cons_of_mem _ (List.mem_append_right _ (List.mem_singleton.2 rfl)));have ltp:=HM.out.cn.1;have qp:=HM.out.cn.2.1 q (List.mem_append_right _ (List.mem_singleton.2 rfl));have k1:(m:Int) - 1=K:=by omega
   have k2:decide (0≤(K:Int))=true:=zdt (by omega);have k3:decide (0≤K)=true:=zdt (by omega);have km:(K:Int)<(m:Int):=by omega
   have km':K<m:=by omega
   have zn:0<m:=by omega
   by_cases t:p.1+P≤q.2
   ·have kt:decide (p.1+P≤q.2)=true:=zdt t;have HN:Hid (Cir P f (R++[(q.1,if q.2<p.2+P then p.2+P else q.2)])):=cir_step HM.out t;obtain ⟨y,hy⟩:∃ y,(if q.2<p.2+P then p.2+P else q.2)=y:=⟨_,rfl⟩;have hy2:max q.2 (p.2+P)=y:=by rw [← hy];split <;> omega
    rw [hy] at HN;have ca:1<c:=by omega
    have OW:∀ n,Hid (OwnS w.heap.size ((wr.drewN n).setCell ⟨b,off+K * 2+1,none⟩ (.int .i64 y)) (.slice (some ⟨b,off+2,none⟩) (m - 1) (c - 1)) (R++[(q.1,y)])):=fun n=>by
     have:=(HO.out.keep (below_drewN (here wr) n)).last (R:=p :: R) (q:=q) y;rw [show (p :: R).length=K by simp;omega] at this;have:=OwnS.tail (M:=R++[(q.1,y)]) (p:=p) this
     show OwnS _ _ _ _
     have e2:(R++[(q.1,y)]).length=m - 1:=by simp;omega
     rw [e2] at this;exact this
    have AW:∀ n,Hid (Below w.heap.size w ((wr.drewN n).setCell ⟨b,off+K * 2+1,none⟩ (.int .i64 y))):=fun n=>(below_drewN HA.out n).setCell (p:=⟨b,off+K * 2+1,none⟩) bB _;have f1:=fz (off+K * 2+1);obtain ⟨px,py⟩:=p;obtain ⟨qx,qy⟩:=q;have le2:Hid (∀ t:Sp,(R++[t]).length=m - 1):=by show ∀ t,_=_;intro t;simp;omega
    have ml:m - 1≤L.length:=by omega
    clear HO HA HM cs fz eq hm hr lm hK hm2 qp hy;replace c0:wr.cell? ⟨b,off,none⟩=some (.int .i64 px):=c0;replace c1:wr.cell? ⟨b,off+1,none⟩=some (.int .i64 py):=c1;replace d0:wr.cell? ⟨b,off+K * 2,none⟩=some (.int .i64 qx):=d0;replace d1:wr.cell? ⟨b,off+K * 2+1,none⟩=some (.int .i64 qy):=d1;replace kt:decide (px+P≤qy)=true:=kt;replace hy2:max qy (py+P)=y:=hy2;replace lp:0≤px∧px<P∧py≤2 * P:=lp;replace lq:0≤qx∧qx<P∧qy≤2 * P:=lq;replace ltp:px<py:=ltp;go_wp2
    go_quiet (fail)
    go_wp2
    go_region
    have O7:=OW (nq+1);have A7:=AW (nq+1);generalize (wr.drewN (nq+1)).setCell ⟨b,off+K * 2+1,none⟩ (.int .i64 y)=w7 at *;clear OW AW c0 c1 d0 d1 f1 kt t lp lq ltp hy2 bl;have lx:=le2.out (qx,y);replace le2:=zh lx;clear lx;go_wp2
    go_roundw
    case rel=>exact ⟨R++[(qx,y)],_,m - 1,_,_,le2.out,ml,rfl,rfl,HN,O7,A7⟩
    case measure=>simp;omega
   ·have kt:decide (p.1+P≤q.2)=false:=zdf t;have EX:(p :: (R++[q])).length=1∨((p :: (R++[q])).getD ((p :: (R++[q])).length - 1) (0,0)).2<((p :: (R++[q])).getD 0 (0,0)).1+P:=by
     rw [lm,show r+2 - 1=K by omega,eq]
     right;show q.2<p.1+P;omega
    have lm2:0<(p :: (R++[q])).length:=by omega
    clear cs eq hr lm hK hm2 qp;generalize p :: (R++[q])=M at *;obtain ⟨px,py⟩:=p;obtain ⟨qx,qy⟩:=q;replace c0:wr.cell? ⟨b,off,none⟩=some (.int .i64 px):=c0;replace c1:wr.cell? ⟨b,off+1,none⟩=some (.int .i64 py):=c1;replace d0:wr.cell? ⟨b,off+K * 2,none⟩=some (.int .i64 qx):=d0;replace d1:wr.cell? ⟨b,off+K * 2+1,none⟩=some (.int .i64 qy):=d1;replace kt:decide (px+P≤qy)=false:=kt;replace lp:0≤px∧px<P∧py≤2 * P:=lp;replace lq:0≤qx∧qx<P∧qy≤2 * P:=lq;replace ltp:px<py:=ltp;replace hm:=zh hm;replace EX:=zh EX;go_wp2
    go_quiet (fail)
    clear c0 c1 fz d0 d1 kt t lp lq ltp;obtain ⟨o,ho⟩:∃ o,some (⟨b,off,none⟩:Addr)=o:=⟨_,rfl⟩;rw [ho] at HO ⊢;clear ho;have mp:0<m:=by omega
    obtain ⟨w3,hw3⟩:∃ w3,wr.drewN nq=w3:=⟨_,rfl⟩;replace HO:=zh (HO.out.keep (below_drewN (here wr) nq));rw [hw3] at HO;replace HA:Hid (Below w.heap.size w w3):=by show Below _ _ _;rw [← hw3];exact below_drewN HA.out nq
    rw [hw3];clear hw3;obtain ⟨b,off,rfl,cl,bB,bl,cs,-⟩:=HO.out.at (mp);have m0:0<M.length:=by rw [hm.out];exact mp
    obtain ⟨c0,c1⟩:=cs 0 m0;rw [Nat.zero_mul,Nat.add_zero] at c0 c1;have lo:=HM.out.lo _ (getD_mem m0);have lt:=HM.out.cn.lt _ (getD_mem m0);have t1:P≤(M.getD 0 (0,0)).2 - (M.getD 0 (0,0)).1→Hid (∀ x,f x=true):=fun t=>cir_all HM.out m0 t;have t2:(M.getD 0 (0,0)).2 - (M.getD 0 (0,0)).1<P→Hid (Crc P f M):=fun t=>cir_crc HM.out m0 t EX.out;have ml:Hid (M.length≤L.length+1):=by show _≤_;rw [hm.out];omega
    clear cs EX hm;generalize M.getD 0 (0,0)=p at *;obtain ⟨x,y⟩:=p;replace lo:0≤x∧x<P∧y≤2 * P:=lo;replace lt:x<y:=lt;replace t1:P≤y - x→Hid (∀ x,f x=true):=t1;replace t2:y - x<P→Hid (Crc P f M):=t2;replace c0:w3.cell? ⟨b,off,none⟩=some (.int .i64 x):=c0;replace c1:w3.cell? ⟨b,off+1,none⟩=some (.int .i64 y):=c1;have HL:=zh (rilen x y (spB_iff.2 ⟨by show _≤x;omega,by show y≤_;omega,lt⟩) w3);have zm:((m:Int)==0)=false:=by rw [beq_eq_false_iff_ne];omega
    by_cases z:P≤y - x
    ·have kz:decide (P≤y - x)=true:=zdt z;have T:=t1 z;clear t1 t2 HM HO;go_wp2_with fail
     refine HL.out.mono ?_;rintro e w5 ⟨rfl,hb⟩;have A5:=zd HA hb;clear hb HA HL c0 c1;go_wp2
     go_ret2
     refine ⟨⟨_,_,[(0,1)],rfl,?_,.inr (.inl ⟨rfl,rfl,T.out⟩),?_⟩,grow A5.out _⟩
     ·refine ⟨_,1,rfl,Nat.le_refl _,fun _=>⟨w5.heap.size,0,rfl,A5.out.size,by simp,fun j hj=>?_,fun j=>World.frozen?_alloc_new _ _ _ _⟩⟩;obtain rfl:j=0:=by simp at hj;omega
      exact ⟨by rw [World.cell?_alloc_new];rfl,by rw [World.cell?_alloc_new];rfl⟩
     ·show 1≤L.length+1;omega
    ·have kz:decide (P≤y - x)=false:=zdf z;have T:=t2 (by omega);clear t1 t2 HM;go_wp2_with fail
     refine HL.out.mono ?_;rintro e w5 ⟨rfl,hb⟩;have A5:=zd HA hb;have O5:=zh (HO.out.keep hb);clear hb HA HL c0 c1 HO;go_wp2
     go_ret2
     exact ⟨⟨_,_,M,rfl,O5.out,.inr (.inr ⟨rfl,T.out⟩),ml.out⟩,A5.out⟩
  ·have kz1:decide (1<(m:Int))=false:=zdf (by omega)
   rcases Nat.eq_zero_or_pos m with zm0 | zm0
   ·subst zm0;obtain rfl:M=[]:=List.eq_nil_of_length_eq_zero hm;have T:=zh (cir_nil HM.out);clear HM HO hm;go_wp2
    go_quiet (fail)
    have A5:=zh (below_drewN HA.out nq);go_wp2
    go_ret2
    exact ⟨⟨_,_,[],rfl,OwnS.nil _ _,.inl ⟨rfl,rfl,T.out⟩,by simp⟩,A5.out⟩
   ·have EX:Hid (M.length=1∨(M.getD (M.length - 1) (0,0)).2<(M.getD 0 (0,0)).1+P):=.inl (by omega);replace hm:=zh hm;clear z1;go_wp2
    go_quiet (fail)
    have mp:0<m:=by omega
    obtain ⟨w3,hw3⟩:∃ w3,wr.drewN nq=w3:=⟨_,rfl⟩;replace HO:=zh (HO.out.keep (below_drewN (here wr) nq));rw [hw3] at HO;replace HA:Hid (Below w.heap.size w w3):=by show Below _ _ _;rw [← hw3];exact below_drewN HA.out nq
    rw [hw3];clear hw3;obtain ⟨b,off,rfl,cl,bB,bl,cs,-⟩:=HO.out.at (mp);have m0:0<M.length:=by rw [hm.out];exact mp
    obtain ⟨c0,c1⟩:=cs 0 m0;rw [Nat.zero_mul,Nat.add_zero] at c0 c1;have lo:=HM.out.lo _ (getD_mem m0);have lt:=HM.out.cn.lt _ (getD_mem m0);have t1:P≤(M.getD 0 (0,0)).2 - (M.getD 0 (0,0)).1→Hid (∀ x,f x=true):=fun t=>cir_all HM.out m0 t;have t2:(M.getD 0 (0,0)).2 - (M.getD 0 (0,0)).1<P→Hid (Crc P f M):=fun t=>cir_crc HM.out m0 t EX.out;have ml:Hid (M.length≤L.length+1):=by show _≤_;rw [hm.out];omega
    clear cs EX hm;generalize M.getD 0 (0,0)=p at *;obtain ⟨x,y⟩:=p;replace lo:0≤x∧x<P∧y≤2 * P:=lo;replace lt:x<y:=lt;replace t1:P≤y - x→Hid (∀ x,f x=true):=t1;replace t2:y - x<P→Hid (Crc P f M):=t2;replace c0:w3.cell? ⟨b,off,none⟩=some (.int .i64 x):=c0;replace c1:w3.cell? ⟨b,off+1,none⟩=some (.int .i64 y):=c1;have HL:=zh (rilen x y (spB_iff.2 ⟨by show _≤x;omega,by show y≤_;omega,lt⟩) w3);have zm:((m:Int)==0)=false:=by rw [beq_eq_false_iff_ne];omega
    by_cases z:P≤y - x
    ·have kz:decide (P≤y - x)=true:=zdt z;have T:=t1 z;clear t1 t2 HM HO;go_wp2_with fail
     refine HL.out.mono ?_;rintro e w5 ⟨rfl,hb⟩;have A5:=zd HA hb;clear hb HA HL c0 c1;go_wp2
     go_ret2
     refine ⟨⟨_,_,[(0,1)],rfl,?_,.inr (.inl ⟨rfl,rfl,T.out⟩),?_⟩,grow A5.out _⟩
     ·refine ⟨_,1,rfl,Nat.le_refl _,fun _=>⟨w5.heap.size,0,rfl,A5.out.size,by simp,fun j hj=>?_,fun j=>World.frozen?_alloc_new _ _ _ _⟩⟩;obtain rfl:j=0:=by simp at hj;omega
      exact ⟨by rw [World.cell?_alloc_new];rfl,by rw [World.cell?_alloc_new];rfl⟩
     ·show 1≤L.length+1;omega
    ·have kz:decide (P≤y - x)=false:=zdf z;have T:=t2 (by omega);clear t1 t2 HM;go_wp2_with fail
     refine HL.out.mono ?_;rintro e w5 ⟨rfl,hb⟩;have A5:=zd HA hb;have O5:=zh (HO.out.keep hb);clear hb HA HL c0 c1 HO;go_wp2
     go_ret2
     exact ⟨⟨_,_,M,rfl,O5.out,.inr (.inr ⟨rfl,T.out⟩),ml.out⟩,A5.out⟩
theorem CrV.len {P:Int} {f:Int→Bool} {Q:Int} {L:List Sp} (h:CrV P f Q L):(Q=1∧L.length≤1∧∃ b,∀ x,f x=b)∨(Q=P∧Crc P f L):=by
 rcases h with ⟨a,b,c⟩ | ⟨a,b,c⟩ | ⟨a,b⟩
 ·exact .inl ⟨a,by rw [b];exact Nat.zero_le _,_,c⟩
 ·exact .inl ⟨a,by rw [b];exact Nat.le_refl _,_,c⟩
 ·exact .inr ⟨a,b⟩
theorem CrV.bound {P:Int} {f:Int→Bool} {Q:Int} {L:List Sp} (h:CrV P f Q L):∀ q,q∈L→0≤q.1∧q.1<Q∧0≤q.2∧q.2≤2 * Q:=by
 rcases h with ⟨a,b,c⟩ | ⟨a,b,c⟩ | ⟨a,b⟩
 ·subst b;intro q hq;cases hq
 ·subst b;subst a;intro q hq;rw [List.mem_singleton.1 hq];exact ⟨Int.le_refl _,by show (0:Int)<1;omega,by show (0:Int)≤1;omega,by show (1:Int)≤2 * 1;omega⟩
 ·subst a;intro q hq;have l:=b.lo q hq;have hi:=b.hi q hq;have o:=b.o0;have c:=b.cn.lt q hq;omega
theorem CrV.ends {P:Int} {f:Int→Bool} {Q:Int} {L:List Sp} (h:CrV P f Q L) (no:∀ s,1<s→s≤L.length→¬ TrY Q L s):Q=leF P f:=by
 rcases h.len with ⟨a,b,c,d⟩ | ⟨a,b⟩
 ·rw [a,le_eq (lst_const d)]
 ·subst a;rw [le_eq (least_end b no)]
theorem CrV.hit {P:Int} {f:Int→Bool} {Q:Int} {L:List Sp} (h:CrV P f Q L) {t:Nat} (t2:2≤t) (tl:t≤L.length) (y:TrY Q L t) (no:∀ s,t<s→s≤L.length→¬ TrY Q L s):Q / t=leF P f:=by
 rcases h.len with ⟨a,b,c,d⟩ | ⟨a,b⟩
 ·omega
 ·subst a;rw [le_eq (least_hit b t2 y no)]
set_option maxRecDepth 100000 in
set_option maxHeartbeats 1000000 in
theorem upleast (v:Value) (P Q:Int) (M:List Sp) (f:Int→Bool) (H:CrV P f Q M) (hn:M.length≤1000000) (Q0:0<Q) (Q1:Q≤12622780800) {base:Nat} (w:World) (h:OwnS base w v M) :
  Calls Tryz.prog 165 #[.int .i64 Q,v] w fun e w'=>e=.returned (.int .i64 (leF P f))∧Below w.heap.size w w':=by
 obtain ⟨o,c,rfl,cap,-⟩:=h.sh;have PL:=zh h;have A0:Hid (Below w.heap.size w w):=here w;have bd:Hid (∀ j,j<M.length→0≤(M.getD j (0,0)).1∧(M.getD j (0,0)).1<Q∧0≤(M.getD j (0,0)).2∧(M.getD j (0,0)).2≤2 * Q):=fun j hj=>H.bound _ (getD_mem hj);have hit:Hid (∀ t:Nat,2≤t→t≤M.length→TrY Q M t→(∀ s,t<s→s≤M.length→¬ TrY Q M s)→Q / t=leF P f):=fun t a b c d=>H.hit a b c d;have ends:Hid ((∀ s,1<s→s≤M.length→¬ TrY Q M s)→Q=leF P f):=fun d=>H.ends d;clear h H;obtain ⟨n,hl⟩:∃ n,M.length=n:=⟨_,rfl⟩;have TY:Hid (∀ t,TrY Q M t↔n % t=0∧Q % (t:Int)=0∧ShO M (n / t) (Q / t)):=fun t=>by unfold TrY;rw [hl]
 have SH:Hid (∀ c d,ShO M c d↔∀ i,i+c<n→M.getD (i+c) (0,0)=((M.getD i (0,0)).1+d,(M.getD i (0,0)).2+d)):=fun c d=>by unfold ShO;rw [hl]
 rw [hl] at hn bd hit ends PL cap ⊢;generalize leF P f=D at *
 go_enter Tryz.func165,Tryz.ntmps165
 go_wp2
 go_step3
 go_wp2
 go_step3
 go_wp2
 go_loopw [5] (fun i wr=>∃ t:Nat,t≤n∧i=.int .i64 t∧Hid (∀ s,t<s→s≤n→¬ TrY Q M s)∧Hid (Below w.heap.size w wr)) (fun i _=>(intOf i).toNat)
 case atStart=>exact ⟨n,Nat.le_refl _,rfl,fun s a b=>by omega,A0⟩
 case round =>
  obtain ⟨t,ht,rfl,HU,HA⟩:=hrel;clear A0
  by_cases z:1<t
  ·have kz:decide (1<(t:Int))=true:=zdt (by omega);have nz:¬ ((t:Int)=0):=by omega
   obtain ⟨r1,e1⟩:∃ r,(n:Int).tmod (t:Int)=r:=⟨_,rfl⟩;obtain ⟨r2,e2⟩:∃ r,Q.tmod (t:Int)=r:=⟨_,rfl⟩;have f1:r1=((n % t:Nat):Int):=by rw [← e1,Int.tmod_eq_emod_of_nonneg (by omega)];rfl
   have f2:r2=Q % (t:Int):=by rw [← e2,Int.tmod_eq_emod_of_nonneg (by omega)]
   by_cases b:n % t=0∧Q % (t:Int)=0
   ·have s1:(r1 != 0)=false:=by rw [f1,b.1];rfl
    have s2:(r2 != 0)=false:=by rw [f2,b.2];rfl
    obtain ⟨d,e3⟩:∃ d,Q.tdiv (t:Int)=d:=⟨_,rfl⟩;obtain ⟨c1,e4⟩:∃ c1:Nat,n / t=c1:=⟨_,rfl⟩;have e5:(n:Int).tdiv (t:Int)=(c1:Int):=by rw [← e4,Int.tdiv_eq_ediv_of_nonneg (by omega)];rfl
    have f3:d=Q / (t:Int):=by rw [← e3,Int.tdiv_eq_ediv_of_nonneg (by omega)]
    have d0:0≤d:=by rw [f3];exact Int.ediv_nonneg (by omega) (by omega)
    have d1:d≤Q:=by rw [f3];exact Int.ediv_le_self _ (by omega)
    have n0:n=t * c1:=by rw [← e4];have:=Nat.mod_add_div n t;omega
    have cn:2 * c1≤n:=by rw [n0];exact Nat.mul_le_mul_right c1 (by omega)
    have c0:1≤c1:=by
     rcases Nat.eq_zero_or_pos c1 with y | y
     ·rw [y,Nat.mul_zero] at n0;omega
     ·exact y
    have YES:Hid ((∀ i,i+c1<n→M.getD (i+c1) (0,0)=((M.getD i (0,0)).1+d,(M.getD i (0,0)).2+d))→d=D):=fun y=>by
     rw [f3];refine hit.out t z ht ((TY.out t).2 ⟨b.1,b.2,(SH.out _ _).2 ?_⟩) HU.out;rw [e4,← f3];exact y
    have NO:Hid (∀ i,i+c1<n→M.getD (i+c1) (0,0)≠((M.getD i (0,0)).1+d,(M.getD i (0,0)).2+d)→∀ s,t - 1<s→s≤n→¬ TrY Q M s):=fun i hi ne s a y q=>by
     rcases Nat.eq_or_lt_of_le (show t≤s by omega) with u | u
     ·subst u;have:=((TY.out t).1 q).2.2;rw [e4,← f3] at this;exact ne ((SH.out _ _).1 this i hi)
     ·exact HU.out s u y q
    have HP:=zh (PL.out.keep HA.out);obtain ⟨b0,off,rfl,-,-,bl,-⟩:=HP.out.at (show 0<n by omega);have k1:c1≤n:=by omega
    have k2:¬ (c1=c):=by omega
    clear hit ends TY SH HU n0 e4 f1 f2 f3 b HP bl;obtain ⟨m,hm⟩:∃ m,n - c1=m:=⟨_,rfl⟩;have rk:(n:Int) - (c1:Int)=(m:Int):=by omega
    have hmn:m+c1=n:=by omega
    replace hmn:=zh hmn;have hm1:Hid (m≤n):=by show _≤_;omega
    go_wp2
    go_loopw [36] (fun i wx=>∃ k:Nat,k≤m∧i=.int .i64 k∧Hid (∀ j,j<k→M.getD (j+c1) (0,0)=((M.getD j (0,0)).1+d,(M.getD j (0,0)).2+d))∧Hid (Below w.heap.size w wx)) (fun i _=>m - (intOf i).toNat)
    case atStart=>exact ⟨0,Nat.zero_le _,rfl,fun j hj=>absurd hj (Nat.not_lt_zero _),HA⟩
    case round =>
     clear HA;obtain ⟨k,hk,rfl,HV,HA⟩:=hrel
     by_cases y:k<m
     ·have ky:decide ((k:Int)<(m:Int))=true:=zdt (by omega);have HP:=zh (PL.out.keep HA.out);obtain ⟨b1,off1,eb,-,-,bl,cs,-⟩:=HP.out.at (show 0<n by omega)
      injection eb with eb;injection eb with eb1 eb2
      subst eb1;subst eb2;have hmn':=hmn.out;obtain ⟨c0a,c1a⟩:=cs k (by omega);obtain ⟨c0b,c1b⟩:=cs (k+c1) (by omega);rw [show off+(k+c1) * 2=off+c1 * 2+k * 2 by omega] at c0b c1b;have b2:=bd.out k (by omega);have b3:=bd.out (k+c1) (by omega);have ON:M.getD (k+c1) (0,0)=((M.getD k (0,0)).1+d,(M.getD k (0,0)).2+d)→Hid (∀ j,j<k+1→M.getD (j+c1) (0,0)=((M.getD j (0,0)).1+d,(M.getD j (0,0)).2+d)):=fun e j hj=>by
       rcases Nat.lt_or_ge j k with u | u
       ·exact HV.out j u
       ·obtain rfl:j=k:=by omega
        exact e
      have NN:M.getD (k+c1) (0,0)≠((M.getD k (0,0)).1+d,(M.getD k (0,0)).2+d)→Hid (∀ s,t - 1<s→s≤n→¬ TrY Q M s):=fun ne=>NO.out k (by omega) ne;clear cs NO YES HV HP hmn';generalize M.getD k (0,0)=p at *;generalize M.getD (k+c1) (0,0)=q at *;obtain ⟨px,py⟩:=p;obtain ⟨qx,qy⟩:=q;replace c0a:wr.cell? ⟨b0,off+k * 2,none⟩=some (.int .i64 px):=c0a;replace c1a:wr.cell? ⟨b0,off+k * 2+1,none⟩=some (.int .i64 py):=c1a;replace c0b:wr.cell? ⟨b0,off+c1 * 2+k * 2,none⟩=some (.int .i64 qx):=c0b;replace c1b:wr.cell? ⟨b0,off+c1 * 2+k * 2+1,none⟩=some (.int .i64 qy):=c1b;replace b2:0≤px∧px<Q∧0≤py∧py≤2 * Q:=b2;replace b3:0≤qx∧qx<Q∧0≤qy∧qy≤2 * Q:=b3;have L1:=(here wr).alloc (Nat.le_refl _) (.cells #[.int .i64 qx,.int .i64 qy] 40);have o0:(wr.alloc (.cells #[.int .i64 qx,.int .i64 qy] 40)).cell? ⟨b0,off+k * 2,none⟩=some (.int .i64 px):=by rw [L1.cell (p:=⟨b0,off+k * 2,none⟩) bl];exact c0a
      have o1:(wr.alloc (.cells #[.int .i64 qx,.int .i64 qy] 40)).cell? ⟨b0,off+k * 2+1,none⟩=some (.int .i64 py):=by rw [L1.cell (p:=⟨b0,off+k * 2+1,none⟩) bl];exact c1a
      obtain ⟨x0,x1,xl⟩:=Two.new (here (wr.alloc (.cells #[.int .i64 qx,.int .i64 qy] 40)));replace HA:=zh (grow HA.out (.cells #[.int .i64 qx,.int .i64 qy] 40));clear L1;have k3:k<n:=by have:=hm1.out;omega
      by_cases u:px+d=qx
      ·have t1:(px+d != qx)=false:=by rw [u];exact bne_self_eq_false' qx
       by_cases v:py+d=qy
       ·have t2:(py+d != qy)=false:=by rw [v];exact bne_self_eq_false' qy
        have HV2:=ON (by rw [u,v]);clear NN ON u v;go_wp2
        go_quiet (fail)
        go_wp2
        go_roundw
        case rel=>exact ⟨k+1,by omega,by go_num,HV2,below_drewN HA.out nq⟩
        case measure=>simp [intOf];omega
       ·have t2:(py+d != qy)=true:=by rw [bne_iff_ne];exact v
        have NU:=NN (fun e=>v (by injection e with e1 e2;exact e2.symm));clear NN ON u v;go_wp2
        go_quiet (fail)
        go_wp2
        exact ⟨⟨t - 1,by omega,by congr 1;omega,NU,below_drewN HA.out nq⟩,by simp [intOf];omega⟩
      ·have t1:(px+d != qx)=true:=by rw [bne_iff_ne];exact u
       have NU:=NN (fun e=>u (by injection e with e1 e2;exact e1.symm));clear NN ON u;go_wp2
       go_quiet (fail)
       go_wp2
       exact ⟨⟨t - 1,by omega,by congr 1;omega,NU,below_drewN HA.out nq⟩,by simp [intOf];omega⟩
     ·have ky:decide ((k:Int)<(m:Int))=false:=zdf (by omega);obtain rfl:k=m:=by omega
      have r:Hid (d=D):=YES.out (fun i hi=>HV.out i (by have:=hmn.out;omega));clear YES NO HV PL;go_wp2
      (try rw [Exit.noGoto_ret])
      go_ret
      exact ⟨by rw [r.out];rfl,HA.out⟩
   ·have NU:Hid (∀ s,t - 1<s→s≤n→¬ TrY Q M s):=fun s a y q=>by
     rcases Nat.eq_or_lt_of_le (show t≤s by omega) with u | u
     ·subst u;exact b ⟨((TY.out t).1 q).1,((TY.out t).1 q).2.1⟩
     ·exact HU.out s u y q
    have rr:r1≠0∨r1=0∧r2≠0:=by
     rw [f1,f2]
     rcases Nat.eq_zero_or_pos (n % t) with u | u
     ·right;exact ⟨by omega,fun y=>b ⟨u,y⟩⟩
     ·left;omega
    clear hit ends TY SH HU f1 f2 b
    rcases rr with u | ⟨u,v⟩
    ·have s1:(r1 != 0)=true:=by rw [bne_iff_ne];exact u
     clear u;go_wp2
     exact ⟨⟨t - 1,by omega,by congr 1;omega,NU,HA⟩,by simp [intOf];omega⟩
    ·have s1:(r1 != 0)=false:=by rw [u];rfl
     have s2:(r2 != 0)=true:=by rw [bne_iff_ne];exact v
     clear u v;go_wp2
     exact ⟨⟨t - 1,by omega,by congr 1;omega,NU,HA⟩,by simp [intOf];omega⟩
  ·have kz:decide (1<(t:Int))=false:=zdf (by omega);have r:Hid (Q=D):=ends.out fun s a b=>HU.out s (by omega) b;clear hit ends TY SH HU PL bd;go_wp2
   (try rw [Exit.noGoto_ret])
   go_ret
   exact ⟨by rw [r.out];rfl,HA.out⟩
end Go.Proofs.YtmamlgaogpkagaaGreat
