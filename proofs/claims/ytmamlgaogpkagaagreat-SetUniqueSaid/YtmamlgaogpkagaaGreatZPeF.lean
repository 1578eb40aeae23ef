/- PeF. -/
import Derived.Test.YtmamlgaogpkagaaGreatZLPlain
import Derived.Test.YtmamlgaogpkagaaGreatZLGen
import Derived.Test.YtmamlgaogpkagaaGreatZLSl
import Derived.Test.YtmamlgaogpkagaaGreatZLOwn
import Derived.Test.YtmamlgaogpkagaaGreatZRnP
import Derived.Test.YtmamlgaogpkagaaGreatZPeA
import Derived.Test.YtmamlgaogpkagaaGreatZRnT
import Derived.Test.YtmamlgaogpkagaaGreatZRnV
import Derived.Test.YtmamlgaogpkagaaGreatZPeB
namespace Go.Proofs.YtmamlgaogpkagaaGreat
open Go.RowKit
set_option linter.unusedVariables false
set_option linter.unusedSimpArgs false
theorem scan_end {A:List Sp} {x:Int} (h:∀ j,j<A.length→(A.getD j (0,0)).2≤x):inB A x=false:=in_high fun q hq=>by
 obtain ⟨j,hj,rfl⟩:=List.getElem_of_mem hq;have:=h j hj;rw [List.getD_eq_getElem?_getD,List.getElem?_eq_getElem hj] at this;exact this
theorem scan_mid {A:List Sp} (c:Cn A) {x:Int} {i:Nat} (hi:i<A.length) (h:∀ j,j<i→(A.getD j (0,0)).2≤x) (lt:x<(A.getD i (0,0)).2):inB A x=decide ((A.getD i (0,0)).1≤x):=by
  have gd:∀ j (hj:j<A.length),A.getD j (0,0)=A[j]:=fun j hj=>by rw [List.getD_eq_getElem?_getD,List.getElem?_eq_getElem hj];rfl
  rw [Bool.eq_iff_iff,inB_iff,decide_eq_true_eq]
  constructor
  · rintro ⟨p,hp,a,b⟩;obtain ⟨j,hj,rfl⟩:=List.getElem_of_mem hp
    rcases Nat.lt_trichotomy j i with z | rfl | z
    · have:=h j z;rw [gd j hj] at this;omega
    · rw [gd j hj];exact a
    · have:∀ {L:List Sp},Cn L→∀ {i j:Nat},i<j→j<L.length→(L.getD i (0,0)).2≤(L.getD j (0,0)).1:=by
        intro L c
        induction L with
        | nil=>intro i j _ hj;simp at hj
        | cons p L ih =>
          intro i j z hj;obtain ⟨j,rfl⟩:∃ j',j=j'+1:=⟨j - 1,by omega⟩;have hj':j<L.length:=by simpa using hj
          cases i with
          | zero =>
            show p.2≤(L.getD j (0,0)).1
            have m:L.getD j (0,0)∈L:=by rw [List.getD_eq_getElem?_getD,List.getElem?_eq_getElem hj'];exact List.getElem_mem hj'
            have:=c.2.1 _ m;omega
          | succ i=>exact ih c.2.2 (by omega) hj'
      have:=this c z hj;rw [gd j hj] at this;omega
  · intro a;refine ⟨A.getD i (0,0),by rw [gd i hi];exact List.getElem_mem hi,a,lt⟩
theorem addL_len (R:List Sp) (s:Sp):(addL R s).length≤R.length+1:=by
 unfold addL;split <;> simp <;> omega
set_option maxRecDepth 100000 in
set_option maxHeartbeats 2000000 in
theorem rplists (va vb:Value) (A B:List Sp) (hA:A.length≤100000) (hB:B.length≤100000) (cA:Cn A) (cB:Cn B) (K:Int) (K0:0≤K) (K1:K≤2) {ba bb:Nat} (w:World) (a:PairS ba w va A) (b:PairS bb w vb B) :
  Calls Tryz.prog 83 #[va,vb,.int .i64 K] w fun e w'=>(∃ v',e=.returned v'∧PairS w.heap.size w' v' (cbL (K+1) A B))∧Below w.heap.size w w':=by
 obtain ⟨i0,hi,hz0,hz1,hz2⟩:=info_parts infoS;obtain ⟨oa,ca,rfl⟩:=prs_shape a;obtain ⟨ob,cb,rfl⟩:=prs_shape b;have PA:=zh a;have PB:=zh b;have HE:=zh (rpends (.slice oa A.length ca) (.slice ob B.length cb) A B hA hB w a b);have HR:=zh (fun x y w=>rule_rk K x y K0 K1 w);clear a b;have ST:=zh (fun (c:Nat) (R:List Sp) (hc:c+1<(cuts A B).length) (S:Cmb (K+1) A B ((cuts A B).getD c 0) R) lt=>cmb_step cA cB hc S lt);have EN:=zh (fun (c:Nat) (R:List Sp) hc (S:Cmb (K+1) A B ((cuts A B).getD c 0) R)=>cmb_end cA cB hc S);have S0:=zh (cmb_start (k:=K+1) cA cB);have EM:Hid (∀ c:Nat,c+1<(cuts A B).length→(cuts A B).getD c 0≤(cuts A B).getD (c+1) 0):=fun c hc=>wsc_at (mgz_asc _ _ (fl_asc cA) (fl_asc cB):Wsc (cuts A B)) (Nat.le_succ c) hc;have LE:=cuts_len A B;generalize cuts A B=E at *
 go_enter Tryz.func83,Tryz.ntmps83
 go_wp2_with (go_at_call 133;refine HE.out.mono ?_;rintro e W ⟨⟨ve,rfl,PE⟩,A1⟩)
 obtain ⟨n,hn⟩:∃ n,A.length=n:=⟨_,rfl⟩;obtain ⟨m,hm⟩:∃ m,B.length=m:=⟨_,rfl⟩;obtain ⟨N,hN⟩:∃ N,E.length=N:=⟨_,rfl⟩;rw [hN] at LE ST EN EM;obtain ⟨oe,ce,rfl⟩:=peh_shape PE;rw [hn,hm] at LE;rw [hN] at PE ⊢;rw [hn] at PA hA ⊢;rw [hm] at PB hB ⊢;have PA1:=zh (PA.out.keep A1);have PB1:=zh (PB.out.keep A1);have PE1:=zh PE;clear PA PB PE HE;obtain ⟨w1,hw1⟩:∃ w1,W=w1:=⟨_,rfl⟩;subst hw1;generalize W=w1 at *;have I0:Hid (w1.ownsRow w1.heap.size 40 2 (.slice none 0 0) ([]:List Sp).length (pairs [])):=World.ownsRow_nil _ _ _ _;have L0:Hid (Below w1.heap.size w1 w1):=here w1;replace A1:=zh A1;have LE2:N≤400000:=by omega
 clear LE;have J0:Hid (∀ j,j<0→(A.getD j (0,0)).2≤E.getD 0 0):=fun j hj=>absurd hj (Nat.not_lt_zero _);have J1:Hid (∀ j,j<0→(B.getD j (0,0)).2≤E.getD 0 0):=fun j hj=>absurd hj (Nat.not_lt_zero _)
 go_loopw [8,9,10,11] (fun v i' k' c' wr=>∃ (c i k:Nat) (v':Value) (R:List Sp),v'=v∧(c=0∨c+1≤N)∧i≤n∧k≤m∧i'=.int .i64 i∧k'=.int .i64 k∧c'=.int .i64 c∧R.length≤c∧Hid (∀ j,j<i→(A.getD j (0,0)).2≤E.getD c 0)∧Hid (∀ j,j<k→(B.getD j (0,0)).2≤E.getD c 0)∧Hid (Cmb (K+1) A B (E.getD c 0) R)∧Hid (wr.ownsRow w1.heap.size 40 2 v R.length (pairs R))∧Hid (Below w1.heap.size w1 wr)) (fun _ _ _ c' _=>N - (intOf c').toNat)
 case atStart=>exact ⟨0,0,0,_,[],rfl,.inl rfl,Nat.zero_le _,Nat.zero_le _,rfl,rfl,rfl,Nat.le_refl _,J0,J1,S0,I0,L0⟩
 case round =>
  obtain ⟨c,i,k,v',R,rfl,hc,hi',hk,rfl,rfl,rfl,rl,HI,HK,HC,HO,HA⟩:=hrel;clear I0 L0 J0 J1 S0;have PA2:=zh (PA1.out.keep HA.out);have PB2:=zh (PB1.out.keep HA.out);have PE2:=zh (PE1.out.keep HA.out)
  by_cases z:c+1<N
  ·have kz:decide ((c:Int)+1<(N:Int))=true:=zdt (by omega);obtain ⟨be,fe,rfl,ble,cse⟩:=peh_here PE2.out (show c<E.length by omega);have c0:=cse c (by omega);have c1:=cse (c+1) (by omega);have st:=ST.out c R z HC.out;have em:=EM.out c z;clear cse ST EM EN;obtain ⟨f,hf⟩:∃ f,E.getD c 0=f:=⟨_,rfl⟩;obtain ⟨t,ht⟩:∃ t,E.getD (c+1) 0=t:=⟨_,rfl⟩;rw [hf] at c0 HI HK HC;rw [hf,ht] at st em;rw [ht] at c1;replace st:=zh st;replace c1:wr.cell? ⟨be,fe+(c+1),none⟩=some (.int .i64 t):=c1;go_wp2
   go_quiet (fail)
   obtain ⟨w5,hw5⟩:∃ w5:World,wr.drewN nq=w5:=⟨_,rfl⟩;rw [hw5];have A5:=zh (show Below w1.heap.size w1 w5 by rw [← hw5];exact below_drewN HA.out _);have O5:Hid (w5.ownsRow w1.heap.size 40 2 v' R.length (pairs R)):=by show World.ownsRow _ _ _ _ _ _ _;rw [← hw5];exact HO.out
   have PA5:=zh (show PairS ba w5 (.slice oa n ca) A by rw [← hw5];exact PA2.out.keep (below_drewN (here wr) nq));have PB5:=zh (show PairS bb w5 (.slice ob m cb) B by rw [← hw5];exact PB2.out.keep (below_drewN (here wr) nq));clear hw5 HA HO PA2 PB2 PE2 c0 c1 ble
   by_cases ft:f=t
   ·subst ft;have HI2:Hid (∀ j,j<i→(A.getD j (0,0)).2≤E.getD (c+1) 0):=by rw [ht];exact HI
    have HK2:Hid (∀ j,j<k→(B.getD j (0,0)).2≤E.getD (c+1) 0):=by rw [ht];exact HK
    have HC2:Hid (Cmb (K+1) A B (E.getD (c+1) 0) R):=by rw [ht];exact HC
    clear HI HK HC st;go_wp2
    go_roundw
    case rel=>exact ⟨c+1,i,k,_,R,rfl,by omega,by omega,by omega,by first | rfl | go_num,by first | rfl | go_num,by first | rfl | go_num,by omega,HI2,HK2,HC2,O5,A5⟩
    case measure=>simp [intOf];omega
   ·have kf:(f==t)=false:=by rw [beq_eq_false_iff_ne];exact ft
    have lt:f<t:=by omega
    have HK5:=HK;clear HC HK;go_wp2
    go_loopw [9] (fun i' wr'=>∃ i2:Nat,i2≤n∧i'=.int .i64 i2∧wr'=w5∧Hid (∀ j,j<i2→(A.getD j (0,0)).2≤f)) (fun i' _=>n - (intOf i').toNat)
    case atStart=>exact ⟨i,hi',rfl,rfl,HI⟩
    case round =>
     obtain ⟨i2,hi2,rfl,hw2,HJ⟩:=hrel;have hw3:=hw2.symm;clear hw2 HI;subst hw3
     by_cases y1:i2<n
     ·have ky1:decide ((i2:Int)<(n:Int))=true:=zdt (by omega);obtain ⟨bA,fA,rfl,blA,csA⟩:=prs_here PA5.out (show i2<A.length by omega);obtain ⟨d0,d1⟩:=csA i2 (by omega);clear csA
      by_cases y2:(A.getD i2 (0,0)).2≤f
      ·have ky2:=zdt y2;have HJ2:Hid (∀ j,j<i2+1→(A.getD j (0,0)).2≤f):=fun j hj=>by
        rcases Nat.lt_or_ge j i2 with y | y
        ·exact HJ.out j y
        ·obtain rfl:j=i2:=by omega
         exact y2
       generalize (A.getD i2 (0,0)).2=gy at *;go_wp2
       go_roundw
       case rel=>exact ⟨i2+1,by omega,by go_num,by first | rfl | trivial,HJ2⟩
       case measure=>simp [intOf];omega
      ·have ky2:=zdf y2;have XA:Hid (inB A f=decide ((A.getD i2 (0,0)).1≤f)):=scan_mid cA (by omega) HJ.out (by omega);obtain ⟨ax,hax⟩:∃ ax,(A.getD i2 (0,0)).1=ax:=⟨_,rfl⟩;rw [hax] at XA d0;have CA:Hid (∀ w',PairS ba w' (.slice (some ⟨bA,fA,none⟩) n ca) A→w'.cell? ⟨bA,fA+i2 * 2,none⟩=some (.int .i64 ax)):=fun w' q=>by
        obtain ⟨b',off',e,-,cs⟩:=prs_here q (show i2<A.length by omega)
        injection e with e;injection e with e1 e2
        subst e1;subst e2;rw [(cs i2 (by omega)).1,hax]
       clear hax;generalize (A.getD i2 (0,0)).2=gy at *;go_wp2
       go_loopw [10] (fun i' wr'=>∃ k2:Nat,k2≤m∧i'=.int .i64 k2∧wr'=w5∧Hid (∀ j,j<k2→(B.getD j (0,0)).2≤f)) (fun i' _=>m - (intOf i').toNat)
       case atStart=>exact ⟨k,hk,rfl,rfl,HK5⟩
       case round =>
        obtain ⟨k2,hk2,rfl,hw2,HL⟩:=hrel;have hw3:=hw2.symm;clear hw2 HK5;subst hw3
        by_cases z1:k2<m
        ·have kz1:decide ((k2:Int)<(m:Int))=true:=zdt (by omega);obtain ⟨bB,fB,rfl,blB,csB⟩:=prs_here PB5.out (show k2<B.length by omega);obtain ⟨d0,d1⟩:=csB k2 (by omega);clear csB
         by_cases z2:(B.getD k2 (0,0)).2≤f
         ·have kz2:=zdt z2;have HL2:Hid (∀ j,j<k2+1→(B.getD j (0,0)).2≤f):=fun j hj=>by
           rcases Nat.lt_or_ge j k2 with y | y
           ·exact HL.out j y
           ·obtain rfl:j=k2:=by omega
            exact z2
          generalize (B.getD k2 (0,0)).2=gy at *;go_wp2
          go_roundw
          case rel=>exact ⟨k2+1,by omega,by go_num,by first | rfl | trivial,HL2⟩
          case measure=>simp [intOf];omega
         ·have kz2:=zdf z2;have XB:Hid (inB B f=decide ((B.getD k2 (0,0)).1≤f)):=scan_mid cB (by omega) HL.out (by omega);obtain ⟨bx,hbx⟩:∃ bx,(B.getD k2 (0,0)).1=bx:=⟨_,rfl⟩;rw [hbx] at XB d0;have CB:Hid (∀ w',PairS bb w' (.slice (some ⟨bB,fB,none⟩) m cb) B→w'.cell? ⟨bB,fB+k2 * 2,none⟩=some (.int .i64 bx)):=fun w' q=>by
           obtain ⟨b',off',e,-,cs⟩:=prs_here q (show k2<B.length by omega)
           injection e with e;injection e with e1 e2
           subst e1;subst e2;rw [(cs k2 (by omega)).1,hbx]
          clear hbx;generalize (B.getD k2 (0,0)).2=gy at *;go_wp2
          have HS:=zh (fun w=>(HR.out (decide (ax≤f)) (decide (bx≤f)) w).mono (fun e w' h=>(⟨h.1,by rw [← h.2];exact here w⟩:e=_∧Below w.heap.size w w')));obtain ⟨rB,hrB⟩:∃ rB,kpB (K+1) (decide (ax≤f)) (decide (bx≤f))=rB:=⟨_,rfl⟩;rw [hrB] at HS;have SB:Hid ((rB=false→Cmb (K+1) A B t R)∧(rB=true→Cmb (K+1) A B t (addL R (f,t)))):=by
           have:=st.out lt;rw [XA.out,XB.out,hrB] at this;exact this
          clear hrB XA XB st HR;have p0:∀ x':Kept w5,x'.wd.cell? ⟨bA,fA+i2 * 2,none⟩=some (.int .i64 ax):=fun x'=>CA.out _ (PA5.out.keep x'.ok);have p1:∀ x':Kept w5,x'.wd.cell? ⟨bB,fB+k2 * 2,none⟩=some (.int .i64 bx):=fun x'=>CB.out _ (PB5.out.keep x'.ok);have HI2:Hid (∀ j,j<i2→(A.getD j (0,0)).2≤E.getD (c+1) 0):=fun j hj=>by rw [ht];have:=HJ.out j hj;omega
          have HK2:Hid (∀ j,j<k2→(B.getD j (0,0)).2≤E.getD (c+1) 0):=fun j hj=>by rw [ht];have:=HL.out j hj;omega
          replace SB:Hid ((rB=false→Cmb (K+1) A B (E.getD (c+1) 0) R)∧(rB=true→Cmb (K+1) A B (E.getD (c+1) 0) (addL R (f,t)))):=by rw [ht];exact SB
          clear HJ HL;go_wp2
          refine wp_region_kept (by kernel_rfl) (by kernel_rfl) ?_
          repeat (go_big_quiet_step ((go_at_call 134;exact kept_call _ (HS.out _))))
          refine wpQuiet_nil ?_;intro w6 hx;obtain ⟨⟨x3,hb3⟩,hw⟩:=hx;replace hw:w6=x3:=hw;subst x3;have A6:=zd A5 hb3;have O6:Hid (w6.ownsRow w1.heap.size 40 2 v' R.length (pairs R)):=by show World.ownsRow _ _ _ _ _ _ _;exact owns_below O5.out hb3
          clear p0;clear p1;clear hb3 A5 O5 PA5 PB5 HS
          cases rB
          ·have HC2:=zh (SB.out.1 rfl);clear SB;go_wp2
           go_roundw
           case rel=>exact ⟨c+1,i2,k2,_,R,rfl,by omega,by omega,by omega,by first | rfl | go_num,by first | rfl | go_num,by first | rfl | go_num,by omega,HI2,HK2,HC2,O6,A6⟩
           case measure=>simp [intOf];omega
          ·have HC2:=zh (SB.out.2 rfl);have rl2:=addL_len R (f,t);clear SB
           rcases snoc_cases R with rfl | ⟨R',q,rfl⟩
           ·replace O6:Hid (w6.ownsRow w1.heap.size 40 2 v' 0 []):=O6;obtain ⟨ao,cp,rfl⟩:=(Sl.owns O6.out).shape;go_wp2_with (at_builtin;refine wpList_append_own _ rfl _ _ 22 rfl w1.heap.size 40 i0 (.agg #[.int .i64 0,.int .i64 0]) 2 16 Tryz.underlying22 hi hz0 hz1 hz2 rfl (by decide) (.slice ao 0 cp) 0 [] rfl (O6.out.alloc _) ⟨w6.heap.size,0,none⟩ 1 1 [.int .i64 f,.int .i64 t] rfl rfl (fun j u hj=>by rw [Addr.add_lit,Nat.zero_add,World.cell?_alloc_new];simpa using hj) (fun u hu=>by simp at hu;rcases hu with rfl | rfl <;> rfl) (by unfold maxLen;omega) (by omega) (by have:=A6.out.size;simp;omega) ?_)
            intro v7 w7 hown hgrow _;have A7:Hid (Below w1.heap.size w1 w7):=(A6.out.alloc A6.out.size _).grown hgrow (by have:=A6.out.size;simp;omega) (own_ge O6.out);have O7:Hid (w7.ownsRow w1.heap.size 40 2 v7 (addL [] (f,t)).length (pairs (addL [] (f,t)))):=by
             show World.ownsRow _ _ _ _ _ _ _;exact hown
            clear hown hgrow O6 A6;go_wp2
            go_roundw
            case rel=>exact ⟨c+1,i2,k2,_,(addL [] (f,t)),rfl,by omega,by omega,by omega,by first | rfl | go_num,by first | rfl | go_num,by first | rfl | go_num,by omega,HI2,HK2,HC2,O7,A7⟩
            case measure=>simp [intOf];omega
           ·have len:(R'++[q]).length=R'.length+1:=by simp
            obtain ⟨g,cp,rfl⟩:∃ g cp,v'=.slice (some ⟨g,0,none⟩) (R'.length+1) cp:=by
             rcases O6.out.2 with ⟨-,h0⟩ | ⟨g,cp,cur,e,-⟩
             ·simp at h0
             ·exact ⟨g,cp,by rw [e];simp⟩
            rw [len] at O6 rl;have gl:=O6.out.lt g rfl;have c1:w6.cell? ⟨g,R'.length * 2+1,none⟩=some (.int .i64 q.2):=by
             have:=(pairs_get (R'++[q]) R'.length (by simp)).2;rw [O6.out.cellAt _ (by omega),Nat.mul_comm,this];simp
            have f1:=O6.out.frozenAt (R'.length * 2+1);have STO:=zh (World.ownsRow.stored O6.out (R'.length * 2+1) (.int .i64 t));have sn:=add_snoc R' q (f,t);obtain ⟨m0,hm0⟩:∃ m0,R'.length=m0:=⟨_,rfl⟩;have ps:=pairs_set R' q t;rw [hm0] at c1 f1 O6 STO ps rl ⊢;rw [ps] at STO;obtain ⟨KK,hKK⟩:∃ KK:Nat,m0+1=KK:=⟨_,rfl⟩;rw [hKK] at O6 STO rl ⊢;have kz3:decide (0<(KK:Int))=true:=zdt (by omega);have kz4:decide (0<KK)=true:=zdt (by omega);have kk1:(KK:Int) - 1=m0:=by omega
            have km:((m0:Nat):Int)<(KK:Int):=by omega
            clear ps
            by_cases zq:q.2=f
            ·have kq:(q.2==f)=true:=beq_iff_eq.2 zq;have O7:Hid ((w6.setCell ⟨g,m0 * 2+1,none⟩ (.int .i64 t)).ownsRow w1.heap.size 40 2 (.slice (some ⟨g,0,none⟩) KK cp) (addL (R'++[q]) (f,t)).length (pairs (addL (R'++[q]) (f,t)))):=by
              show World.ownsRow _ _ _ _ _ _ _;rw [add_snoc,if_pos zq,show (R'++[(q.1,t)]).length=KK by simp;omega];exact STO.out.1
             have A7:=zh (A6.out.setCell (p:=⟨g,m0 * 2+1,none⟩) gl.1 (.int .i64 t));go_wp2
             go_roundw
             case rel=>exact ⟨c+1,i2,k2,_,(addL (R'++[q]) (f,t)),rfl,by omega,by omega,by omega,by first | rfl | go_num,by first | rfl | go_num,by first | rfl | go_num,by omega,HI2,HK2,HC2,O7,A7⟩
             case measure=>simp [intOf];omega
            ·have kq:(q.2==f)=false:=by rw [beq_eq_false_iff_ne];exact zq
             go_wp2_with (at_builtin;refine wpList_append_own _ rfl _ _ 22 rfl w1.heap.size 40 i0 (.agg #[.int .i64 0,.int .i64 0]) 2 16 Tryz.underlying22 hi hz0 hz1 hz2 rfl (by decide) (.slice (some ⟨g,0,none⟩) KK cp) KK (pairs (R'++[q])) rfl (O6.out.alloc _) ⟨w6.heap.size,0,none⟩ 1 1 [.int .i64 f,.int .i64 t] rfl rfl (fun j u hj=>by rw [Addr.add_lit,Nat.zero_add,World.cell?_alloc_new];simpa using hj) (fun u hu=>by simp at hu;rcases hu with rfl | rfl <;> rfl) (by unfold maxLen;omega) (by omega) (by have:=A6.out.size;simp;omega) ?_)
             intro v7 w7 hown hgrow _;have A7:Hid (Below w1.heap.size w1 w7):=(A6.out.alloc A6.out.size _).grown hgrow (by have:=A6.out.size;simp;omega) (own_ge O6.out);have O7:Hid (w7.ownsRow w1.heap.size 40 2 v7 (addL (R'++[q]) (f,t)).length (pairs (addL (R'++[q]) (f,t)))):=by
              show World.ownsRow _ _ _ _ _ _ _;rw [add_snoc,if_neg zq,pairs_append,show (R'++[q]++[(f,t)]).length=KK+1 by simp;omega];exact hown
             clear hown hgrow O6 A6;go_wp2
             go_roundw
             case rel=>exact ⟨c+1,i2,k2,_,(addL (R'++[q]) (f,t)),rfl,by omega,by omega,by omega,by first | rfl | go_num,by first | rfl | go_num,by first | rfl | go_num,by omega,HI2,HK2,HC2,O7,A7⟩
             case measure=>simp [intOf];omega
        ·have kz1:decide ((k2:Int)<(m:Int))=false:=zdf (by omega);have XB:Hid (inB B f=false):=scan_end (fun j hj=>HL.out j (by omega));go_wp2
         have HS:=zh (fun w=>(HR.out (decide (ax≤f)) (false) w).mono (fun e w' h=>(⟨h.1,by rw [← h.2];exact here w⟩:e=_∧Below w.heap.size w w')));obtain ⟨rB,hrB⟩:∃ rB,kpB (K+1) (decide (ax≤f)) (false)=rB:=⟨_,rfl⟩;rw [hrB] at HS;have SB:Hid ((rB=false→Cmb (K+1) A B t R)∧(rB=true→Cmb (K+1) A B t (addL R (f,t)))):=by
          have:=st.out lt;rw [XA.out,XB.out,hrB] at this;exact this
         clear hrB XA XB st HR;have p0:∀ x':Kept w5,x'.wd.cell? ⟨bA,fA+i2 * 2,none⟩=some (.int .i64 ax):=fun x'=>CA.out _ (PA5.out.keep x'.ok);have HI2:Hid (∀ j,j<i2→(A.getD j (0,0)).2≤E.getD (c+1) 0):=fun j hj=>by rw [ht];have:=HJ.out j hj;omega
         have HK2:Hid (∀ j,j<k2→(B.getD j (0,0)).2≤E.getD (c+1) 0):=fun j hj=>by rw [ht];have:=HL.out j hj;omega
         replace SB:Hid ((rB=false→Cmb (K+1) A B (E.getD (c+1) 0) R)∧(rB=true→Cmb (K+1) A B (E.getD (c+1) 0) (addL R (f,t)))):=by rw [ht];exact SB
         clear HJ HL;go_wp2
         refine wp_region_kept (by kernel_rfl) (by kernel_rfl) ?_
         repeat (go_big_quiet_step ((go_at_call 134;exact kept_call _ (HS.out _))))
         refine wpQuiet_nil ?_;intro w6 hx;obtain ⟨⟨x3,hb3⟩,hw⟩:=hx;replace hw:w6=x3:=hw;subst x3;have A6:=zd A5 hb3;have O6:Hid (w6.ownsRow w1.heap.size 40 2 v' R.length (pairs R)):=by show World.ownsRow _ _ _ _ _ _ _;exact owns_below O5.out hb3
         clear p0;clear hb3 A5 O5 PA5 PB5 HS
         cases rB
         ·have HC2:=zh (SB.out.1 rfl);clear SB;go_wp2
          go_roundw
          case rel=>exact ⟨c+1,i2,k2,_,R,rfl,by omega,by omega,by omega,by first | rfl | go_num,by first | rfl | go_num,by first | rfl | go_num,by omega,HI2,HK2,HC2,O6,A6⟩
          case measure=>simp [intOf];omega
         ·have HC2:=zh (SB.out.2 rfl);have rl2:=addL_len R (f,t);clear SB
          rcases snoc_cases R with rfl | ⟨R',q,rfl⟩
          ·replace O6:Hid (w6.ownsRow w1.heap.size 40 2 v' 0 []):=O6;obtain ⟨ao,cp,rfl⟩:=(Sl.owns O6.out).shape;go_wp2_with (at_builtin;refine wpList_append_own _ rfl _ _ 22 rfl w1.heap.size 40 i0 (.agg #[.int .i64 0,.int .i64 0]) 2 16 Tryz.underlying22 hi hz0 hz1 hz2 rfl (by decide) (.slice ao 0 cp) 0 [] rfl (O6.out.alloc _) ⟨w6.heap.size,0,none⟩ 1 1 [.int .i64 f,.int .i64 t] rfl rfl (fun j u hj=>by rw [Addr.add_lit,Nat.zero_add,World.cell?_alloc_new];simpa using hj) (fun u hu=>by simp at hu;rcases hu with rfl | rfl <;> rfl) (by unfold maxLen;omega) (by omega) (by have:=A6.out.size;simp;omega) ?_)
           intro v7 w7 hown hgrow _;have A7:Hid (Below w1.heap.size w1 w7):=(A6.out.alloc A6.out.size _).grown hgrow (by have:=A6.out.size;simp;omega) (own_ge O6.out);have O7:Hid (w7.ownsRow w1.heap.size 40 2 v7 (addL [] (f,t)).length (pairs (addL [] (f,t)))):=by
            show World.ownsRow _ _ _ _ _ _ _;exact hown
           clear hown hgrow O6 A6;go_wp2
           go_roundw
           case rel=>exact ⟨c+1,i2,k2,_,(addL [] (f,t)),rfl,by omega,by omega,by omega,by first | rfl | go_num,by first | rfl | go_num,by first | rfl | go_num,by omega,HI2,HK2,HC2,O7,A7⟩
           case measure=>simp [intOf];omega
          ·have len:(R'++[q]).length=R'.length+1:=by simp
           obtain ⟨g,cp,rfl⟩:∃ g cp,v'=.slice (some ⟨g,0,none⟩) (R'.length+1) cp:=by
            rcases O6.out.2 with ⟨-,h0⟩ | ⟨g,cp,cur,e,-⟩
            ·simp at h0
            ·exact ⟨g,cp,by rw [e];simp⟩
           rw [len] at O6 rl;have gl:=O6.out.lt g rfl;have c1:w6.cell? ⟨g,R'.length * 2+1,none⟩=some (.int .i64 q.2):=by
            have:=(pairs_get (R'++[q]) R'.length (by simp)).2;rw [O6.out.cellAt _ (by omega),Nat.mul_comm,this];simp
           have f1:=O6.out.frozenAt (R'.length * 2+1);have STO:=zh (World.ownsRow.stored O6.out (R'.length * 2+1) (.int .i64 t));have sn:=add_snoc R' q (f,t);obtain ⟨m0,hm0⟩:∃ m0,R'.length=m0:=⟨_,rfl⟩;have ps:=pairs_set R' q t;rw [hm0] at c1 f1 O6 STO ps rl ⊢;rw [ps] at STO;obtain ⟨KK,hKK⟩:∃ KK:Nat,m0+1=KK:=⟨_,rfl⟩;rw [hKK] at O6 STO rl ⊢;have kz3:decide (0<(KK:Int))=true:=zdt (by omega);have kz4:decide (0<KK)=true:=zdt (by omega);have kk1:(KK:Int) - 1=m0:=by omega
           have km:((m0:Nat):Int)<(KK:Int):=by omega
           clear ps
           by_cases zq:q.2=f
           ·have kq:(q.2==f)=true:=beq_iff_eq.2 zq;have O7:Hid ((w6.setCell ⟨g,m0 * 2+1,none⟩ (.int .i64 t)).ownsRow w1.heap.size 40 2 (.slice (some ⟨g,0,none⟩) KK cp) (addL (R'++[q]) (f,t)).length (pairs (addL (R'++[q]) (f,t)))):=by
             show World.ownsRow _ _ _ _ _ _ _;rw [add_snoc,if_pos zq,show (R'++[(q.1,t)]).length=KK by simp;omega];exact STO.out.1
            have A7:=zh (A6.out.setCell (p:=⟨g,m0 * 2+1,none⟩) gl.1 (.int .i64 t));go_wp2
            go_roundw
            case rel=>exact ⟨c+1,i2,k2,_,(addL (R'++[q]) (f,t)),rfl,by omega,by omega,by omega,by first | rfl | go_num,by first | rfl | go_num,by first | rfl | go_num,by omega,HI2,HK2,HC2,O7,A7⟩
            case measure=>simp [intOf];omega
           ·have kq:(q.2==f)=false:=by rw [beq_eq_false_iff_ne];exact zq
            go_wp2_with (at_builtin;refine wpList_append_own _ rfl _ _ 22 rfl w1.heap.size 40 i0 (.agg #[.int .i64 0,.int .i64 0]) 2 16 Tryz.underlying22 hi hz0 hz1 hz2 rfl (by decide) (.slice (some ⟨g,0,none⟩) KK cp) KK (pairs (R'++[q])) rfl (O6.out.alloc _) ⟨w6.heap.size,0,none⟩ 1 1 [.int .i64 f,.int .i64 t] rfl rfl (fun j u hj=>by rw [Addr.add_lit,Nat.zero_add,World.cell?_alloc_new];simpa using hj) (fun u hu=>by simp at hu;rcases hu with rfl | rfl <;> rfl) (by unfold maxLen;omega) (by omega) (by have:=A6.out.size;simp;omega) ?_)
            intro v7 w7 hown hgrow _;have A7:Hid (Below w1.heap.size w1 w7):=(A6.out.alloc A6.out.size _).grown hgrow (by have:=A6.out.size;simp;omega) (own_ge O6.out);have O7:Hid (w7.ownsRow w1.heap.size 40 2 v7 (addL (R'++[q]) (f,t)).length (pairs (addL (R'++[q]) (f,t)))):=by
             show World.ownsRow _ _ _ _ _ _ _;rw [add_snoc,if_neg zq,pairs_append,show (R'++[q]++[(f,t)]).length=KK+1 by simp;omega];exact hown
            clear hown hgrow O6 A6;go_wp2
            go_roundw
            case rel=>exact ⟨c+1,i2,k2,_,(addL (R'++[q]) (f,t)),rfl,by omega,by omega,by omega,by first | rfl | go_num,by first | rfl | go_num,by first | rfl | go_num,by omega,HI2,HK2,HC2,O7,A7⟩
            case measure=>simp [intOf];omega
     ·have ky1:decide ((i2:Int)<(n:Int))=false:=zdf (by omega);have XA:Hid (inB A f=false):=scan_end (fun j hj=>HJ.out j (by omega));go_wp2
      go_loopw [10] (fun i' wr'=>∃ k2:Nat,k2≤m∧i'=.int .i64 k2∧wr'=w5∧Hid (∀ j,j<k2→(B.getD j (0,0)).2≤f)) (fun i' _=>m - (intOf i').toNat)
      case atStart=>exact ⟨k,hk,rfl,rfl,HK5⟩
      case round =>
       obtain ⟨k2,hk2,rfl,hw2,HL⟩:=hrel;have hw3:=hw2.symm;clear hw2 HK5;subst hw3
       by_cases z1:k2<m
       ·have kz1:decide ((k2:Int)<(m:Int))=true:=zdt (by omega);obtain ⟨bB,fB,rfl,blB,csB⟩:=prs_here PB5.out (show k2<B.length by omega);obtain ⟨d0,d1⟩:=csB k2 (by omega);clear csB
        by_cases z2:(B.getD k2 (0,0)).2≤f
        ·have kz2:=zdt z2;have HL2:Hid (∀ j,j<k2+1→(B.getD j (0,0)).2≤f):=fun j hj=>by
          rcases Nat.lt_or_ge j k2 with y | y
          ·exact HL.out j y
          ·obtain rfl:j=k2:=by omega
           exact z2
         generalize (B.getD k2 (0,0)).2=gy at *;go_wp2
         go_roundw
         case rel=>exact ⟨k2+1,by omega,by go_num,by first | rfl | trivial,HL2⟩
         case measure=>simp [intOf];omega
        ·have kz2:=zdf z2;have XB:Hid (inB B f=decide ((B.getD k2 (0,0)).1≤f)):=scan_mid cB (by omega) HL.out (by omega);obtain ⟨bx,hbx⟩:∃ bx,(B.getD k2 (0,0)).1=bx:=⟨_,rfl⟩;rw [hbx] at XB d0;have CB:Hid (∀ w',PairS bb w' (.slice (some ⟨bB,fB,none⟩) m cb) B→w'.cell? ⟨bB,fB+k2 * 2,none⟩=some (.int .i64 bx)):=fun w' q=>by
          obtain ⟨b',off',e,-,cs⟩:=prs_here q (show k2<B.length by omega)
          injection e with e;injection e with e1 e2
          subst e1;subst e2;rw [(cs k2 (by omega)).1,hbx]
         clear hbx;generalize (B.getD k2 (0,0)).2=gy at *;go_wp2
         have HS:=zh (fun w=>(HR.out (false) (decide (bx≤f)) w).mono (fun e w' h=>(⟨h.1,by rw [← h.2];exact here w⟩:e=_∧Below w.heap.size w w')));obtain ⟨rB,hrB⟩:∃ rB,kpB (K+1) (false) (decide (bx≤f))=rB:=⟨_,rfl⟩;rw [hrB] at HS;have SB:Hid ((rB=false→Cmb (K+1) A B t R)∧(rB=true→Cmb (K+1) A B t (addL R (f,t)))):=by
          have:=st.out lt;rw [XA.out,XB.out,hrB] at this;exact this
         clear hrB XA XB st HR;have p1:∀ x':Kept w5,x'.wd.cell? ⟨bB,fB+k2 * 2,none⟩=some (.int .i64 bx):=fun x'=>CB.out _ (PB5.out.keep x'.ok);have HI2:Hid (∀ j,j<i2→(A.getD j (0,0)).2≤E.getD (c+1) 0):=fun j hj=>by rw [ht];have:=HJ.out j hj;omega
         have HK2:Hid (∀ j,j<k2→(B.getD j (0,0)).2≤E.getD (c+1) 0):=fun j hj=>by rw [ht];have:=HL.out j hj;omega
         replace SB:Hid ((rB=false→Cmb (K+1) A B (E.getD (c+1) 0) R)∧(rB=true→Cmb (K+1) A B (E.getD (c+1) 0) (addL R (f,t)))):=by rw [ht];exact SB
         clear HJ HL;go_wp2
         refine wp_region_kept (by kernel_rfl) (by kernel_rfl) ?_
         repeat (go_big_quiet_step ((go_at_call 134;exact kept_call _ (HS.out _))))
         refine wpQuiet_nil ?_;intro w6 hx;obtain ⟨⟨x3,hb3⟩,hw⟩:=hx;replace hw:w6=x3:=hw;subst x3;have A6:=zd A5 hb3;have O6:Hid (w6.ownsRow w1.heap.size 40 2 v' R.length (pairs R)):=by show World.ownsRow _ _ _ _ _ _ _;exact owns_below O5.out hb3
         clear p1;clear hb3 A5 O5 PA5 PB5 HS
         cases rB
         ·have HC2:=zh (SB.out.1 rfl);clear SB;go_wp2
          go_roundw
          case rel=>exact ⟨c+1,i2,k2,_,R,rfl,by omega,by omega,by omega,by first | rfl | go_num,by first | rfl | go_num,by first | rfl | go_num,by omega,HI2,HK2,HC2,O6,A6⟩
          case measure=>simp [intOf];omega
         ·have HC2:=zh (SB.out.2 rfl);have rl2:=addL_len R (f,t);clear SB
          rcases snoc_cases R with rfl | ⟨R',q,rfl⟩
          ·replace O6:Hid (w6.ownsRow w1.heap.size 40 2 v' 0 []):=O6;obtain ⟨ao,cp,rfl⟩:=(Sl.owns O6.out).shape;go_wp2_with (at_builtin;refine wpList_append_own _ rfl _ _ 22 rfl w1.heap.size 40 i0 (.agg #[.int .i64 0,.int .i64 0]) 2 16 Tryz.underlying22 hi hz0 hz1 hz2 rfl (by decide) (.slice ao 0 cp) 0 [] rfl (O6.out.alloc _) ⟨w6.heap.size,0,none⟩ 1 1 [.int .i64 f,.int .i64 t] rfl rfl (fun j u hj=>by rw [Addr.add_lit,Nat.zero_add,World.cell?_alloc_new];simpa using hj) (fun u hu=>by simp at hu;rcases hu with rfl | rfl <;> rfl) (by unfold maxLen;omega) (by omega) (by have:=A6.out.size;simp;omega) ?_)
           intro v7 w7 hown hgrow _;have A7:Hid (Below w1.heap.size w1 w7):=(A6.out.alloc A6.out.size _).grown hgrow (by have:=A6.out.size;simp;omega) (own_ge O6.out);have O7:Hid (w7.ownsRow w1.heap.size 40 2 v7 (addL [] (f,t)).length (pairs (addL [] (f,t)))):=by
            show World.ownsRow _ _ _ _ _ _ _;exact hown
           clear hown hgrow O6 A6;go_wp2
           go_roundw
           case rel=>exact ⟨c+1,i2,k2,_,(addL [] (f,t)),rfl,by omega,by omega,by omega,by first | rfl | go_num,by first | rfl | go_num,by first | rfl | go_num,by omega,HI2,HK2,HC2,O7,A7⟩
           case measure=>simp [intOf];omega
          ·have len:(R'++[q]).length=R'.length+1:=by simp
           obtain ⟨g,cp,rfl⟩:∃ g cp,v'=.slice (some ⟨g,0,none⟩) (R'.length+1) cp:=by
            rcases O6.out.2 with ⟨-,h0⟩ | ⟨g,cp,cur,e,-⟩
            ·simp at h0
            ·exact ⟨g,cp,by rw [e];simp⟩
           rw [len] at O6 rl;have gl:=O6.out.lt g rfl;have c1:w6.cell? ⟨g,R'.length * 2+1,none⟩=some (.int .i64 q.2):=by
            have:=(pairs_get (R'++[q]) R'.length (by simp)).2;rw [O6.out.cellAt _ (by omega),Nat.mul_comm,this];simp
           have f1:=O6.out.frozenAt (R'.length * 2+1);have STO:=zh (World.ownsRow.stored O6.out (R'.length * 2+1) (.int .i64 t));have sn:=add_snoc R' q (f,t);obtain ⟨m0,hm0⟩:∃ m0,R'.length=m0:=⟨_,rfl⟩;have ps:=pairs_set R' q t;rw [hm0] at c1 f1 O6 STO ps rl ⊢;rw [ps] at STO;obtain ⟨KK,hKK⟩:∃ KK:Nat,m0+1=KK:=⟨_,rfl⟩;rw [hKK] at O6 STO rl ⊢;have kz3:decide (0<(KK:Int))=true:=zdt (by omega);have kz4:decide (0<KK)=true:=zdt (by omega);have kk1:(KK:Int) - 1=m0:=by omega
           have km:((m0:Nat):Int)<(KK:Int):=by omega
           clear ps
           by_cases zq:q.2=f
           ·have kq:(q.2==f)=true:=beq_iff_eq.2 zq;have O7:Hid ((w6.setCell ⟨g,m0 * 2+1,none⟩ (.int .i64 t)).ownsRow w1.heap.size 40 2 (.slice (some ⟨g,0,none⟩) KK cp) (addL (R'++[q]) (f,t)).length (pairs (addL (R'++[q]) (f,t)))):=by
             show World.ownsRow _ _ _ _ _ _ _;rw [add_snoc,if_pos zq,show (R'++[(q.1,t)]).length=KK by simp;omega];exact STO.out.1
            have A7:=zh (A6.out.setCell (p:=⟨g,m0 * 2+1,none⟩) gl.1 (.int .i64 t));go_wp2
            go_roundw
            case rel=>exact ⟨c+1,i2,k2,_,(addL (R'++[q]) (f,t)),rfl,by omega,by omega,by omega,by first | rfl | go_num,by first | rfl | go_num,by first | rfl | go_num,by omega,HI2,HK2,HC2,O7,A7⟩
            case measure=>simp [intOf];omega
           ·have kq:(q.2==f)=false:=by rw [beq_eq_false_iff_ne];exact zq
            go_wp2_with (at_builtin;refine wpList_append_own _ rfl _ _ 22 rfl w1.heap.size 40 i0 (.agg #[.int .i64 0,.int .i64 0]) 2 16 Tryz.underlying22 hi hz0 hz1 hz2 rfl (by decide) (.slice (some ⟨g,0,none⟩) KK cp) KK (pairs (R'++[q])) rfl (O6.out.alloc _) ⟨w6.heap.size,0,none⟩ 1 1 [.int .i64 f,.int .i64 t] rfl rfl (fun j u hj=>by rw [Addr.add_lit,Nat.zero_add,World.cell?_alloc_new];simpa using hj) (fun u hu=>by simp at hu;rcases hu with rfl | rfl <;> rfl) (by unfold maxLen;omega) (by omega) (by have:=A6.out.size;simp;omega) ?_)
            intro v7 w7 hown hgrow _;have A7:Hid (Below w1.heap.size w1 w7):=(A6.out.alloc A6.out.size _).grown hgrow (by have:=A6.out.size;simp;omega) (own_ge O6.out);have O7:Hid (w7.ownsRow w1.heap.size 40 2 v7 (addL (R'++[q]) (f,t)).length (pairs (addL (R'++[q]) (f,t)))):=by
             show World.ownsRow _ _ _ _ _ _ _;rw [add_snoc,if_neg zq,pairs_append,show (R'++[q]++[(f,t)]).length=KK+1 by simp;omega];exact hown
            clear hown hgrow O6 A6;go_wp2
            go_roundw
            case rel=>exact ⟨c+1,i2,k2,_,(addL (R'++[q]) (f,t)),rfl,by omega,by omega,by omega,by first | rfl | go_num,by first | rfl | go_num,by first | rfl | go_num,by omega,HI2,HK2,HC2,O7,A7⟩
            case measure=>simp [intOf];omega
       ·have kz1:decide ((k2:Int)<(m:Int))=false:=zdf (by omega);have XB:Hid (inB B f=false):=scan_end (fun j hj=>HL.out j (by omega));go_wp2
        have HS:=zh (fun w=>(HR.out (false) (false) w).mono (fun e w' h=>(⟨h.1,by rw [← h.2];exact here w⟩:e=_∧Below w.heap.size w w')));obtain ⟨rB,hrB⟩:∃ rB,kpB (K+1) (false) (false)=rB:=⟨_,rfl⟩;rw [hrB] at HS;have SB:Hid ((rB=false→Cmb (K+1) A B t R)∧(rB=true→Cmb (K+1) A B t (addL R (f,t)))):=by
         have:=st.out lt;rw [XA.out,XB.out,hrB] at this;exact this
        clear hrB XA XB st HR;have HI2:Hid (∀ j,j<i2→(A.getD j (0,0)).2≤E.getD (c+1) 0):=fun j hj=>by rw [ht];have:=HJ.out j hj;omega
        have HK2:Hid (∀ j,j<k2→(B.getD j (0,0)).2≤E.getD (c+1) 0):=fun j hj=>by rw [ht];have:=HL.out j hj;omega
        replace SB:Hid ((rB=false→Cmb (K+1) A B (E.getD (c+1) 0) R)∧(rB=true→Cmb (K+1) A B (E.getD (c+1) 0) (addL R (f,t)))):=by rw [ht];exact SB
        clear HJ HL;go_wp2
        refine wp_region_kept (by kernel_rfl) (by kernel_rfl) ?_
        repeat (go_big_quiet_step ((go_at_call 134;exact kept_call _ (HS.out _))))
        refine wpQuiet_nil ?_;intro w6 hx;obtain ⟨⟨x3,hb3⟩,hw⟩:=hx;replace hw:w6=x3:=hw;subst x3;have A6:=zd A5 hb3;have O6:Hid (w6.ownsRow w1.heap.size 40 2 v' R.length (pairs R)):=by show World.ownsRow _ _ _ _ _ _ _;exact owns_below O5.out hb3
        clear hb3 A5 O5 PA5 PB5 HS
        cases rB
        ·have HC2:=zh (SB.out.1 rfl);clear SB;go_wp2
         go_roundw
         case rel=>exact ⟨c+1,i2,k2,_,R,rfl,by omega,by omega,by omega,by first | rfl | go_num,by first | rfl | go_num,by first | rfl | go_num,by omega,HI2,HK2,HC2,O6,A6⟩
         case measure=>simp [intOf];omega
        ·have HC2:=zh (SB.out.2 rfl);have rl2:=addL_len R (f,t);clear SB
         rcases snoc_cases R with rfl | ⟨R',q,rfl⟩
         ·replace O6:Hid (w6.ownsRow w1.heap.size 40 2 v' 0 []):=O6;obtain ⟨ao,cp,rfl⟩:=(Sl.owns O6.out).shape;go_wp2_with (at_builtin;refine wpList_append_own _ rfl _ _ 22 rfl w1.heap.size 40 i0 (.agg #[.int .i64 0,.int .i64 0]) 2 16 Tryz.underlying22 hi hz0 hz1 hz2 rfl (by decide) (.slice ao 0 cp) 0 [] rfl (O6.out.alloc _) ⟨w6.heap.size,0,none⟩ 1 1 [.int .i64 f,.int .i64 t] rfl rfl (fun j u hj=>by rw [Addr.add_lit,Nat.zero_add,World.cell?_alloc_new];simpa using hj) (fun u hu=>by simp at hu;rcases hu with rfl | rfl <;> rfl) (by unfold maxLen;omega) (by omega) (by have:=A6.out.size;simp;omega) ?_)
          intro v7 w7 hown hgrow _;have A7:Hid (Below w1.heap.size w1 w7):=(A6.out.alloc A6.out.size _).grown hgrow (by have:=A6.out.size;simp;omega) (own_ge O6.out);have O7:Hid (w7.ownsRow w1.heap.size 40 2 v7 (addL [] (f,t)).length (pairs (addL [] (f,t)))):=by
           show World.ownsRow _ _ _ _ _ _ _;exact hown
          clear hown hgrow O6 A6;go_wp2
          go_roundw
          case rel=>exact ⟨c+1,i2,k2,_,(addL [] (f,t)),rfl,by omega,by omega,by omega,by first | rfl | go_num,by first | rfl | go_num,by first | rfl | go_num,by omega,HI2,HK2,HC2,O7,A7⟩
          case measure=>simp [intOf];omega
         ·have len:(R'++[q]).length=R'.length+1:=by simp
          obtain ⟨g,cp,rfl⟩:∃ g cp,v'=.slice (some ⟨g,0,none⟩) (R'.length+1) cp:=by
           rcases O6.out.2 with ⟨-,h0⟩ | ⟨g,cp,cur,e,-⟩
           ·simp at h0
           ·exact ⟨g,cp,by rw [e];simp⟩
          rw [len] at O6 rl;have gl:=O6.out.lt g rfl;have c1:w6.cell? ⟨g,R'.length * 2+1,none⟩=some (.int .i64 q.2):=by
           have:=(pairs_get (R'++[q]) R'.length (by simp)).2;rw [O6.out.cellAt _ (by omega),Nat.mul_comm,this];simp
          have f1:=O6.out.frozenAt (R'.length * 2+1);have STO:=zh (World.ownsRow.stored O6.out (R'.length * 2+1) (.int .i64 t));have sn:=add_snoc R' q (f,t);obtain ⟨m0,hm0⟩:∃ m0,R'.length=m0:=⟨_,rfl⟩;have ps:=pairs_set R' q t;rw [hm0] at c1 f1 O6 STO ps rl ⊢;rw [ps] at STO;obtain ⟨KK,hKK⟩:∃ KK:Nat,m0+1=KK:=⟨_,rfl⟩;rw [hKK] at O6 STO rl ⊢;have kz3:decide (0<(KK:Int))=true:=zdt (by omega);have kz4:decide (0<KK)=true:=zdt (by omega);have kk1:(KK:Int) - 1=m0:=by omega
          have km:((m0:Nat):Int)<(KK:Int):=by omega
          clear ps
          by_cases zq:q.2=f
          ·have kq:(q.2==f)=true:=beq_iff_eq.2 zq;have O7:Hid ((w6.setCell ⟨g,m0 * 2+1,none⟩ (.int .i64 t)).ownsRow w1.heap.size 40 2 (.slice (some ⟨g,0,none⟩) KK cp) (addL (R'++[q]) (f,t)).length (pairs (addL (R'++[q]) (f,t)))):=by
            show World.ownsRow _ _ _ _ _ _ _;rw [add_snoc,if_pos zq,show (R'++[(q.1,t)]).length=KK by simp;omega];exact STO.out.1
           have A7:=zh (A6.out.setCell (p:=⟨g,m0 * 2+1,none⟩) gl.1 (.int .i64 t));go_wp2
           go_roundw
           case rel=>exact ⟨c+1,i2,k2,_,(addL (R'++[q]) (f,t)),rfl,by omega,by omega,by omega,by first | rfl | go_num,by first | rfl | go_num,by first | rfl | go_num,by omega,HI2,HK2,HC2,O7,A7⟩
           case measure=>simp [intOf];omega
          ·have kq:(q.2==f)=false:=by rw [beq_eq_false_iff_ne];exact zq
           go_wp2_with (at_builtin;refine wpList_append_own _ rfl _ _ 22 rfl w1.heap.size 40 i0 (.agg #[.int .i64 0,.int .i64 0]) 2 16 Tryz.underlying22 hi hz0 hz1 hz2 rfl (by decide) (.slice (some ⟨g,0,none⟩) KK cp) KK (pairs (R'++[q])) rfl (O6.out.alloc _) ⟨w6.heap.size,0,none⟩ 1 1 [.int .i64 f,.int .i64 t] rfl rfl (fun j u hj=>by rw [Addr.add_lit,Nat.zero_add,World.cell?_alloc_new];simpa using hj) (fun u hu=>by simp at hu;rcases hu with rfl | rfl <;> rfl) (by unfold maxLen;omega) (by omega) (by have:=A6.out.size;simp;omega) ?_)
           intro v7 w7 hown hgrow _;have A7:Hid (Below w1.heap.size w1 w7):=(A6.out.alloc A6.out.size _).grown hgrow (by have:=A6.out.size;simp;omega) (own_ge O6.out);have O7:Hid (w7.ownsRow w1.heap.size 40 2 v7 (addL (R'++[q]) (f,t)).length (pairs (addL (R'++[q]) (f,t)))):=by
            show World.ownsRow _ _ _ _ _ _ _;rw [add_snoc,if_neg zq,pairs_append,show (R'++[q]++[(f,t)]).length=KK+1 by simp;omega];exact hown
           clear hown hgrow O6 A6;go_wp2
           go_roundw
           case rel=>exact ⟨c+1,i2,k2,_,(addL (R'++[q]) (f,t)),rfl,by omega,by omega,by omega,by first | rfl | go_num,by first | rfl | go_num,by first | rfl | go_num,by omega,HI2,HK2,HC2,O7,A7⟩
           case measure=>simp [intOf];omega
  ·have kz:decide ((c:Int)+1<(N:Int))=false:=zdf (by omega);have RE:Hid (R=cbL (K+1) A B):=EN.out c R (by omega) HC.out;have P9:Hid (PairS w.heap.size wr v' (cbL (K+1) A B)):=by rw [← RE.out];exact Sl.owns (own_weak HO.out A1.out.size)
   have A9:=zh (down A1.out HA.out);clear RE HO HA HC ST EN EM HI HK;go_wp2
   go_ret
   exact ⟨⟨_,rfl,P9.out⟩,A9.out⟩
end Go.Proofs.YtmamlgaogpkagaaGreat
