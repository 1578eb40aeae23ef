/- PeKD. -/
import Derived.Test.YtmamlgaogpkagaaGreatZLPlain
import Derived.Test.YtmamlgaogpkagaaGreatZLGen
import Derived.Test.YtmamlgaogpkagaaGreatZLSl
import Derived.Test.YtmamlgaogpkagaaGreatZLOwn
import Derived.Test.YtmamlgaogpkagaaGreatZRnP
import Derived.Test.YtmamlgaogpkagaaGreatZPeR
import Derived.Test.YtmamlgaogpkagaaGreatZRnT
import Derived.Test.YtmamlgaogpkagaaGreatZRnV
import Derived.Test.YtmamlgaogpkagaaGreatZPeT
import Derived.Test.YtmamlgaogpkagaaGreatZRnKF
import Derived.Test.YtmamlgaogpkagaaGreatZPeKB
import Derived.Deep.AppendLies
import Derived.Deep.RegionLaw
namespace Go.Proofs.YtmamlgaogpkagaaGreat
open Go.RowKit
set_option linter.unusedVariables false
set_option linter.unusedSimpArgs false
noncomputable def pfR (P:Int) (f:Int→Bool):(Int × List Sp) × Int:=if 2000<(fmP P f).2.length then ((0,[]),5) else (fmP P f,0)
theorem ca_tight {f:Int→Bool} {a b:Int} (h:∀ x,a≤x→x<b→f x=true) (ab:a<b):caL f a b=[(a,b)]:=by
 symm
 refine ca_eq ⟨ab,fun q hq=>(by cases hq),trivial⟩ fun x=>?_;rw [inB_one]
 by_cases z:a≤x∧x<b
 ·rw [h x z.1 z.2,zdt z.1,zdt z.2];rfl
 ·rw [Bool.eq_iff_iff];simp only [Bool.and_eq_true,decide_eq_true_eq];omega
theorem frm_all {P:Int} {f:Int→Bool} {Q:Int} {M:List Sp} (h:CrV P f Q M) :
  0<leF P f∧leF P f≤Q∧((M=[]∧caL f 0 (leF P f)=[])∨∃ (c:Nat) (R:List Sp) (q:Sp),0<c∧c≤M.length∧((M.length:Int) * leF P f).tdiv Q=c∧M.take c=R++[q]∧R.length+1=c∧0≤q.2∧q.2≤2 * Q∧caL f 0 (leF P f)=if leF P f<q.2 then (0,q.2 - leF P f) :: (R++[(q.1,leF P f)]) else R++[q]):=by
 rcases h with ⟨a,b,c⟩ | ⟨a,b,c⟩ | ⟨a,b⟩
 ·rw [le_eq (lst_const c)];refine ⟨by omega,by omega,.inl ⟨b,?_⟩⟩;rw [← ca_skip (f:=f) (a:=0) (e:=0) (b:=1) (by omega) (fun x _ _=>c x),ca_none _ (Int.le_refl 0)]
 ·rw [le_eq (lst_const c)];refine ⟨by omega,by omega,.inr ⟨1,[],(0,1),by omega,by rw [b];exact Nat.le_refl _,by rw [a,b];rfl,by rw [b];rfl,rfl,by show (0:Int)≤1;omega,by show (1:Int)≤2 * Q;omega,?_⟩⟩;rw [if_neg (by show ¬ (1:Int)<1;omega),ca_tight (fun x _ _=>c x) (by omega)];rfl
 ·subst a;have L:=le_lst b.P0 b.per;generalize leF Q f=d at L;have dP:=Int.le_of_dvd b.P0 L.dvd;have dp:=L.pos;have bp:=b.P0;obtain ⟨c,c0,c1,c2,c3⟩:=frm_len b L.pos L.dvd L.per
  rcases snoc_cases (M.take c) with e | ⟨R,q,e⟩
  ·have:=congrArg List.length e;rw [List.length_take] at this
   simp at this;rcases this with e | e
   ·omega
   ·rw [e] at c1;simp at c1;omega
  ·have ln:=congrArg List.length e;rw [List.length_take,List.length_append] at ln;have ln:min c M.length=R.length+1:=ln;have mq:q∈M:=List.mem_of_mem_take (i:=c) (by rw [e];simp);have bq:=b.lo q mq;have hq:=b.hi q mq;have o:=b.o0;have lt:=b.cn.lt q mq;refine ⟨L.pos,dP,.inr ⟨c,R,q,c0,c1,?_,e,by omega,by omega,by omega,?_⟩⟩
   ·rw [Int.tdiv_eq_ediv_of_nonneg (Int.mul_nonneg (by omega) (by have:=L.pos;omega))];exact c2
   ·exact frm_ok b L.pos dP L.per (by rw [← c3];exact e)
theorem OwnS.end' {B:Nat} {w:World} {b off m c K:Nat} {R:List Sp} {x y:Int} (h:OwnS B w (.slice (some ⟨b,off,none⟩) m c) (R++[(x,y)])) (hK:R.length=K):w.cell? ⟨b,off+K * 2,none⟩=some (.int .i64 x)∧w.cell? ⟨b,off+K * 2+1,none⟩=some (.int .i64 y)∧w.frozen? ⟨b,off+K * 2+1,none⟩=false∧b<w.heap.size∧B≤b:=by
 obtain ⟨o,c',e,l,k⟩:=h.sh;have ln:(R++[(x,y)]).length=K+1:=by simp [hK]
 obtain ⟨b',off',e1,e2,e3,e4,e5⟩:=k (by omega)
 injection e with x1 x2 x3
 rw [← x1] at e1
 injection e1 with e1
 injection e1 with y1 y2
 subst y1;subst y2;have q:=e4 K (by omega);have eq:(R++[(x,y)]).getD K (0,0)=(x,y):=by
  rw [← hK];have:=app_right R [(x,y)] 0;rw [Nat.add_zero] at this;exact this
 rw [eq] at q;exact ⟨q.1,q.2,e5 _,e3,e2⟩
set_option maxRecDepth 100000 in
set_option maxHeartbeats 1000000 in
theorem upform (v:Value) (P:Int) (L:List Sp) (f:Int→Bool) (H:Cir P f L) (hn:L.length≤100000) (P1:P≤12622780800) {base:Nat} (w:World) (h:PairS base w v L) :
  Calls Tryz.prog 171 #[.int .i64 P,v] w fun e w'=>(∃ v',e=.returned (.tuple #[.agg #[.int .i64 (pfR P f).1.1,v'],.int .i64 (pfR P f).2])∧PairS w.heap.size w' v' (pfR P f).1.2)∧Below w.heap.size w w':=by
 obtain ⟨i0,hi,hz0,hz1,hz2⟩:=info_parts infoS;have T4:=zh (Tuo.new w (.int .i64 0) (.slice none 0 0) 24);have A0:=zh (grow (here w) (.cells #[.int .i64 0,.slice none 0 0] 24));have b4:w.heap.size<(w.alloc (.cells #[.int .i64 0,.slice none 0 0] 24)).heap.size:=by simp
 have PL:=zh (h.keep A0.out);clear h;have HC:=zh (upcircle v P L f H (by omega) P1 (w.alloc (.cells #[.int .i64 0,.slice none 0 0] 24)) PL.out);clear PL
 go_enter Tryz.func171,Tryz.ntmps171
 go_wp2_with fail
 refine HC.out.mono ?_;rintro e w1 ⟨⟨Q,v1,M,rfl,O1,C1,ml⟩,B1⟩;clear HC;generalize w.alloc (.cells #[.int .i64 0,.slice none 0 0] 24)=W0 at *;have Q0:=C1.same H.P0;have Q1:Q≤12622780800:=by rcases C1.len with ⟨a,-⟩ | ⟨a,-⟩ <;> omega
 have HL:=zh (upleast v1 P Q M f C1 (by omega) Q0 Q1 w1 O1);have FA:=zh (frm_all C1);have FM:Hid (pfR P f=if 2000<(caL f 0 (leF P f)).length then ((0,[]),5) else ((leF P f,caL f 0 (leF P f)),0)):=rfl;generalize leF P f=D at *;clear H C1;go_wp2_with fail
 refine HL.out.mono ?_;rintro e w2 ⟨rfl,B2⟩;have O2:=zh (O1.keep B2);have B2:=zh (down B1 B2);clear O1 B1 HL;have T2:=zh (T4.out.keep B2.out);have s2:=B2.out.size;have b6:w2.heap.size<(w2.alloc (.cells #[.int .i64 D,.slice none 0 0] 24)).heap.size:=by simp
 have T6:=zh (Tuo.new w2 (.int .i64 D) (.slice none 0 0) 24);have O3:=zh (O2.out.keep (grow (here w2) (.cells #[.int .i64 D,.slice none 0 0] 24)));have B3:=zh (grow B2.out (.cells #[.int .i64 D,.slice none 0 0] 24));have T3:=zh (T2.out.keep (grow (here w2) (.cells #[.int .i64 D,.slice none 0 0] 24)));have O2k:=O2;clear T2 O2 B2 T4;replace FA:=FA.out;obtain ⟨D0,DQ,FA⟩:=FA;obtain ⟨o,c,rfl,cp,-⟩:=O3.out.sh;obtain ⟨n,hn'⟩:∃ n,M.length=n:=⟨_,rfl⟩;rw [hn'] at O3 O2k cp ml ⊢;have t60:=T6.out.t.c0;have t61:=T6.out.t.c1
 rcases FA with ⟨rfl,e⟩ | ⟨c1,R,q,c10,c11,c12,tk,lR,q0,q1,FE⟩
 ·obtain rfl:n=0:=hn'.symm;have d0:(0:Int) * D=0:=Int.zero_mul D;have d1:(0:Int).tdiv Q=0:=Int.zero_tdiv Q;have Q2:¬ (Q=0):=by omega
  have k2:decide (0≤(-1:Int))=false:=rfl;rw [e] at FM;replace FM:Hid (pfR P f=((D,[]),0)):=FM;clear e O3 O2k ml hn' hn;go_wp2
  have B35:=fun n=>below_drewN (here (w2.alloc (.cells #[.int .i64 D,.slice none 0 0] 24))) n;replace B3:=fun n=>zh (below_drewN B3.out n);replace T6:=fun n=>zh (T6.out.keep (B35 n));replace T3:=fun n=>zh (T3.out.keep (B35 n));clear B35
  go_quiet (fail)
  replace B3:=B3 nq;replace T6:=T6 nq;replace T3:=T3 nq;clear b6 t60 t61;generalize (w2.alloc (.cells #[.int .i64 D,.slice none 0 0] 24)).drewN nq=w5 at *;have R5:Hid (w5.ownsRow w5.heap.size 40 2 (.slice none 0 0) 0 (pairs [])):=World.ownsRow_nil _ _ _ _;have e60:=T6.out.t.c0;have e61:=T6.out.t.c1;have C3:Hid (0+0≤maxLen):=by show _≤_;unfold maxLen;omega
  have C4:Hid ((0+0) * 16≤140737488355328):=by show _≤_;omega
  have C5:Hid (w5.heap.size≤w5.heap.size):=Nat.le_refl _;have b7:=T6.out.t.lt;have b7':=T3.out.t.lt;go_wp2_with (at_builtin;refine app_any _ rfl _ _ 22 rfl w5.heap.size 40 i0 (.agg #[.int .i64 0,.int .i64 0]) 2 16 Tryz.underlying22 hi hz0 hz1 hz2 rfl (by decide) (.slice none 0 0) 0 (pairs []) rfl R5.out o 0 c [] rfl rfl (fun _=>rfl) (fun ad _ j u hj=>by simp at hj) (fun u hu=>by simp at hu) C3.out C4.out C5.out ?_)
  intro v9 w10 hown hgrow;have A10:Below w5.heap.size w5 w10:=(Below.refl _ w5).grown hgrow (Nat.le_refl _) (own_ge R5.out);have B10:=B3.out.trans (A10.mono B3.out.size);have T6a:=T6.out.keep A10;have T3a:=T3.out.keep A10;obtain ⟨o9,c9,rfl⟩:=(Sl.owns hown).shape;have B11:=zh (B10.setCell (p:=⟨w2.heap.size,1,none⟩) s2 (.slice o9 0 c9));have T6b:=zh (T6a.put1 (.slice o9 0 c9));have T3b:=zh (T3a.far (p:=⟨w2.heap.size,1,none⟩) (by show w2.heap.size≠w.heap.size;omega) (.slice o9 0 c9));have g60:=T6a.t.c0;have g61:=T6a.t.c1;have g6f:=T6a.f1;clear T6 T3 B3 hown hgrow A10 B10 T6a T3a R5 e60 e61 C3 C4 C5;obtain ⟨w11,h11⟩:∃ w11,w10.setCell ⟨w2.heap.size,1,none⟩ (.slice o9 0 c9)=w11:=⟨_,rfl⟩;rw [h11] at B11 T6b T3b;have h60:=T6b.out.t.c0;have h61:=T6b.out.t.c1;obtain ⟨⟨i0',i1',i2'⟩,if0,if1⟩:=T3b.out;have FI:Hid (Two ((w11.setCell ⟨w.heap.size,0,none⟩ (.int .i64 D)).setCell ⟨w.heap.size,1,none⟩ (.slice o9 0 c9)) w.heap.size (.int .i64 D) (.slice o9 0 c9)∧Below w.heap.size w ((w11.setCell ⟨w.heap.size,0,none⟩ (.int .i64 D)).setCell ⟨w.heap.size,1,none⟩ (.slice o9 0 c9))) :=
   ⟨T3b.out.put _ _,((A0.out.trans (B11.out.mono A0.out.size)).setCell (p:=⟨w.heap.size,0,none⟩) (Nat.le_refl _) _).setCell (p:=⟨w.heap.size,1,none⟩) (Nat.le_refl _) _⟩
  clear B11 T6b T3b;have kb:decide (2000<(0:Int))=false:=rfl;go_wp2
  have q0:=FI.out.1.c0;have q1':=FI.out.1.c1;generalize (w11.setCell ⟨w.heap.size,0,none⟩ (.int .i64 D)).setCell ⟨w.heap.size,1,none⟩ (.slice o9 0 c9)=w13 at *;refine bodyPost_ret (v:=.tuple #[.agg #[.int .i64 D,.slice o9 0 c9],.int .i64 0]) (by simp [results,Tryz.results171,go_sem,q0,q1']) rfl ?_;rw [FM.out];exact ⟨⟨_,rfl,.inl ⟨rfl,_,_,rfl⟩⟩,FI.out.2⟩
 ·rw [hn'] at c11 c12;have nd:0≤(n:Int) * D:=Int.mul_nonneg (by omega) (by omega);have nd2:(n:Int) * D≤12622780800000000:=by
   have:=Int.mul_le_mul (show (n:Int)≤1000000 by omega) (show D≤12622780800 by omega) (by omega) (by omega);omega
  have Q2:¬ (Q=0):=by omega
  obtain ⟨K,hK⟩:∃ K,R.length=K:=⟨_,rfl⟩;have k1:(c1:Int) - 1=K:=by omega
  have k2:decide (0≤(K:Int))=true:=zdt (by omega);have k3:decide (0≤K)=true:=zdt (by omega);have km:(K:Int)<(c1:Int):=by omega
  have cc:c1≤c:=by omega
  have O24:=OwnS.take O2k.out (i:=c1) (by omega);have O4:=OwnS.take O3.out (i:=c1) (by omega);rw [tk] at O4 O24;obtain ⟨b,off,rfl,-⟩:=O4.at c10;obtain ⟨qx,qy⟩:=q;replace hK:=zh hK;obtain ⟨d0,d1,-,bl,bB⟩:=OwnS.end' O4 hK.out;obtain ⟨-,-,-,bl2,-⟩:=OwnS.end' O24 hK.out;replace O4:=zh O4;replace FE:=zh FE;replace q0:0≤qy:=q0;replace q1:qy≤2 * Q:=q1;have nb:n≤100001:=by omega
  clear tk hn' O3 lR ml hn O24 O2k
  by_cases wr:D<qy
  ·have kw:decide (D<qy)=true:=zdt wr;rw [if_pos wr] at FE;go_wp2
   have B35:=fun n=>below_drewN (here (w2.alloc (.cells #[.int .i64 D,.slice none 0 0] 24))) n;replace B3:=fun n=>zh (below_drewN B3.out n);replace O4:=fun n=>zh (O4.out.keep (B35 n));replace T6:=fun n=>zh (T6.out.keep (B35 n));replace T3:=fun n=>zh (T3.out.keep (B35 n));have b7:∀ n,w2.heap.size<((w2.alloc (.cells #[.int .i64 D,.slice none 0 0] 24)).drewN n).heap.size:=fun n=>by show w2.heap.size<(w2.alloc _).heap.size;simp
   have bl7:∀ n,b<((w2.alloc (.cells #[.int .i64 D,.slice none 0 0] 24)).drewN n).heap.size:=fun n=>bl;clear B35
   go_quiet (fail)
   replace B3:=B3 nq;replace O4:=O4 nq;replace T6:=T6 nq;replace T3:=T3 nq;replace b7:=b7 nq;replace bl7:=bl7 nq;clear bl b6 t60 t61 d0 d1;generalize (w2.alloc (.cells #[.int .i64 D,.slice none 0 0] 24)).drewN nq=w5 at *;obtain ⟨d0,d1,-,-,-⟩:=OwnS.end' O4.out hK.out;obtain ⟨⟨t60,t61,-⟩,f60,f61⟩:=T6.out;obtain ⟨S,hS⟩:∃ S,qy - D=S:=⟨_,rfl⟩;have S0:0<S:=by omega
   have S1:S≤25245561600:=by omega
   have S2:IntKind.i64.wrap S=S:=by rw [IntKind.wrap_i64];omega
   have FE':Hid (caL f 0 D=(0,S) :: (R++[(qx,D)])):=by show _=_;rw [FE.out,hS]
   clear FE;obtain ⟨s0,s1,-⟩:=Two.new (here (w5.alloc (.cells #[.int .i64 0,.int .i64 S] 40)));have X0:Hid (w5.ownsRow w5.heap.size 40 2 (.slice none 0 0) 0 (pairs [])):=World.ownsRow_nil _ _ _ _;have X1:=X0.out.alloc (.cells #[.int .i64 0,.int .i64 S] 40);have X2:∀ (j:Nat) (u:Value),[Value.int .i64 0,.int .i64 S][j]?=some u→(w5.alloc (.cells #[.int .i64 0,.int .i64 S] 40)).cell? ((⟨w5.heap.size,0,none⟩:Addr).add j)=some u:=fun j u hj=>by rw [Addr.add_lit,Nat.zero_add,World.cell?_alloc_new];simpa using hj
   have X3:∀ u∈[Value.int .i64 0,.int .i64 S],u.oneCell'=true:=fun u hu=>by simp at hu;rcases hu with rfl | rfl <;> rfl
   have X4:w5.heap.size≤(w5.alloc (.cells #[.int .i64 0,.int .i64 S] 40)).heap.size:=by simp
   replace X1:=zh X1;replace X2:=zh X2;replace X3:=zh X3;replace X4:=zh X4;have X6:Hid ((0+1) * 16≤140737488355328):=by show _≤_;omega
   have X5:Hid (0+1≤maxLen):=by show _≤_;unfold maxLen;omega
   go_wp2
   go_region_law (refine step_append_lies _ rfl _ _ 22 rfl w5.heap.size 40 i0 (.agg #[.int .i64 0,.int .i64 0]) 2 16 Tryz.underlying22 hi hz0 hz1 hz2 rfl (by decide) (.slice none 0 0) 0 (pairs []) rfl X1.out ⟨w5.heap.size,0,none⟩ 1 1 [.int .i64 0,.int .i64 S] rfl rfl X2.out X3.out (Nat.succ_pos 0) X5.out X6.out X4.out _ rfl ?_;intro g7 cap7 w7 hown hgrow _ _;have A7:Below w5.heap.size w5 w7:=(grow (here w5) _).drew.grown hgrow (by simp) (by intro k hk;simp [Value.ownBlock] at hk);have T7:=T6.out.keep A7;have f7:=T7.f1;have c7:=T7.t.c1)
   all_goals
    clear X0 X1 X2 X3 X4 X5 X6 s0 s1 d0 d1 t60 t61 f60 f61 c7 f7;have bg:w5.heap.size≤g7:=own_ge hown g7 rfl;have B7:=B3.out.trans (A7.mono (by have:=B3.out.size;omega));have O7:=O4.out.keep A7;have T37:=T3.out.keep A7;have B8:=zh (B7.setCell (p:=⟨w2.heap.size,1,none⟩) s2 (.slice (some ⟨g7,0,none⟩) 1 cap7));have T68:=zh (T7.put1 (.slice (some ⟨g7,0,none⟩) 1 cap7));have O8:=zh (O7.far (p:=⟨w2.heap.size,1,none⟩) (by show w2.heap.size≠b;omega) (.slice (some ⟨g7,0,none⟩) 1 cap7));have T38:=zh (T37.far (p:=⟨w2.heap.size,1,none⟩) (by show w2.heap.size≠w.heap.size;omega) (.slice (some ⟨g7,0,none⟩) 1 cap7));have R8:=zh (ownsRow_setCell_below hown (a:=⟨w2.heap.size,1,none⟩) b7 (.slice (some ⟨g7,0,none⟩) 1 cap7));have s8:w5.heap.size≤(w7.setCell ⟨w2.heap.size,1,none⟩ (.slice (some ⟨g7,0,none⟩) 1 cap7)).heap.size:=by rw [size_set];exact A7.size
    clear hown hgrow B3 B7 O7 T37 O4 T3 T6 A7 T7;generalize w7.setCell ⟨w2.heap.size,1,none⟩ (.slice (some ⟨g7,0,none⟩) 1 cap7)=w8 at *;obtain ⟨d0,d1,fz,-,-⟩:=OwnS.end' O8.out hK.out;obtain ⟨⟨t60,t61,-⟩,f60,f61⟩:=T68.out;have O9:=O8.out.last D;rw [hK.out] at O9;have FEZ:Hid (caL f 0 D=[(0,S)]++(R++[(qx,D)])):=FE';have LY:Hid ((R++[(qx,D)]).length=c1):=by show _=_;rw [List.length_append,hK.out];show K+1=c1;omega
    replace O9:=zh O9;have BZ0:=zh (B8.out.setCell (p:=⟨b,off+K * 2+1,none⟩) bB (.int .i64 D));have TZ6:=zh (T68.out.far (p:=⟨b,off+K * 2+1,none⟩) (by show b≠w2.heap.size;omega) (.int .i64 D));have TZ3:=zh (T38.out.far (p:=⟨b,off+K * 2+1,none⟩) (by show b≠w.heap.size;omega) (.int .i64 D));have RZ:=zh (ownsRow_setCell_below R8.out (a:=⟨b,off+K * 2+1,none⟩) bl7 (.int .i64 D));have sz:w5.heap.size≤(w8.setCell ⟨b,off+K * 2+1,none⟩ (.int .i64 D)).heap.size:=by rw [size_set];exact s8
    clear O8 B8 T68 T38 R8 s8 FE';obtain ⟨wz,hwz⟩:∃ wz,w8.setCell ⟨b,off+K * 2+1,none⟩ (.int .i64 D)=wz:=⟨_,rfl⟩;rw [hwz] at O9 BZ0 TZ6 TZ3 RZ sz;replace RZ:Hid (wz.ownsRow w5.heap.size 40 2 (.slice (some ⟨g7,0,none⟩) 1 cap7) 1 (pairs [(0,S)])):=RZ;have LX:Hid (([(0,S)]:List Sp).length=1):=rfl;generalize ([(0,S)]:List Sp)=X at *;generalize R++[(qx,D)]=Y at *;have PY:Hid ((pairs Y).length=c1 * 2):=by show _=_;rw [pairs_length,LY.out]
    have PO:Hid (∀ u∈pairs Y,u.oneCell'=true):=pairs_one Y;obtain ⟨ad,ead,adl,-,-,nw⟩:=O9.out.news (show 0<c1 by omega)
    injection ead with ead
    subst ead;replace nw:=zh nw;have C3:Hid (1+c1≤maxLen):=by show _≤_;unfold maxLen;omega
    have C4:Hid ((1+c1) * 16≤140737488355328):=by show _≤_;omega
    have e60:=TZ6.out.t.c0;have e61:=TZ6.out.t.c1;have eb6:w2.heap.size<wz.heap.size:=by omega
    replace sz:=zh sz;go_wp2_with (at_builtin;refine wpList_append_own _ rfl _ _ 22 rfl w5.heap.size 40 i0 (.agg #[.int .i64 0,.int .i64 0]) 2 16 Tryz.underlying22 hi hz0 hz1 hz2 rfl (by decide) (.slice (some ⟨g7,0,none⟩) 1 cap7) 1 (pairs X) rfl RZ.out ⟨b,off,none⟩ c1 c (pairs Y) rfl PY.out nw.out PO.out C3.out C4.out sz.out ?_)
    intro v9 w10 hown hgrow _;have s5:W0.heap.size≤w5.heap.size:=by omega
    have A10:Below w5.heap.size wz w10:=(Below.refl _ wz).grown hgrow sz.out (own_ge RZ.out);have B10:=BZ0.out.trans (A10.mono s5);have T6a:=TZ6.out.under A10 b7;have T3a:=TZ3.out.under A10 (show w.heap.size<w5.heap.size by omega);obtain ⟨o9,c9,rfl⟩:=(Sl.owns hown).shape;obtain ⟨N,hN⟩:∃ N,1+c1=N:=⟨_,rfl⟩;obtain ⟨Z,hZ⟩:∃ Z,X++Y=Z:=⟨_,rfl⟩;rw [hN,← pairs_append,hZ] at hown;rw [hZ] at FEZ;have LZ:Hid (Z.length=N):=by show _=_;rw [← hZ,List.length_append,LX.out,LY.out];omega
    have N1:N≤1000000:=by omega
    have B11:=zh (B10.setCell (p:=⟨w2.heap.size,1,none⟩) s2 (.slice o9 N c9));have T6b:=zh (T6a.put1 (.slice o9 N c9));have T3b:=zh (T3a.far (p:=⟨w2.heap.size,1,none⟩) (by show w2.heap.size≠w.heap.size;omega) (.slice o9 N c9));have R11:=zh (ownsRow_setCell_below hown (a:=⟨w2.heap.size,1,none⟩) b7 (.slice o9 N c9));obtain ⟨w11,h11⟩:∃ w11,w10.setCell ⟨w2.heap.size,1,none⟩ (.slice o9 N c9)=w11:=⟨_,rfl⟩;rw [h11] at B11 T6b T3b R11;rw [hN];have g60:=T6a.t.c0;have g61:=T6a.t.c1;have g6f:=T6a.f1;have h60:=T6b.out.t.c0;have h61:=T6b.out.t.c1;obtain ⟨⟨i0',i1',i2'⟩,if0,if1⟩:=T3b.out;have FIN:∀ (u v:Value),Hid (Two ((w11.setCell ⟨w.heap.size,0,none⟩ u).setCell ⟨w.heap.size,1,none⟩ v) w.heap.size u v∧Below w.heap.size w ((w11.setCell ⟨w.heap.size,0,none⟩ u).setCell ⟨w.heap.size,1,none⟩ v)∧PairS w.heap.size ((w11.setCell ⟨w.heap.size,0,none⟩ u).setCell ⟨w.heap.size,1,none⟩ v) (.slice o9 N c9) Z):=fun u v=>by
     refine ⟨T3b.out.put u v,?_,?_⟩
     ·exact ((A0.out.trans (B11.out.mono A0.out.size)).setCell (p:=⟨w.heap.size,0,none⟩) (Nat.le_refl _) u).setCell (p:=⟨w.heap.size,1,none⟩) (Nat.le_refl _) v
     ·have:=Sl.owns (own_weak (ownsRow_setCell_below (ownsRow_setCell_below R11.out (a:=⟨w.heap.size,0,none⟩) (by show w.heap.size<w5.heap.size;omega) u) (a:=⟨w.heap.size,1,none⟩) (by show w.heap.size<w5.heap.size;omega) v) (show w.heap.size≤w5.heap.size by omega))
      show Sl _ _ _ _ _
      rw [LZ.out];exact this
    clear hN hown hgrow A10 B10 T6a T3a BZ0 TZ6 TZ3 RZ e60 e61 eb6 sz nw PY PO C3 C4 adl O9 LX LY hZ T6b T3b R11 B11;clear hwz d0 d1 fz f60 f61 t60 t61;rw [FEZ.out,LZ.out] at FM
    by_cases big:2000<N
    ·have kb:decide (2000<(N:Int))=true:=zdt (by omega);rw [if_pos big] at FM;have FI:=FIN (.int .i64 0) (.slice none 0 0);clear FIN big;go_wp2
     have q0:=FI.out.1.c0;have q1':=FI.out.1.c1;generalize (w11.setCell ⟨w.heap.size,0,none⟩ (.int .i64 0)).setCell ⟨w.heap.size,1,none⟩ (.slice none 0 0)=w13 at *;refine bodyPost_ret (v:=.tuple #[.agg #[.int .i64 0,.slice none 0 0],.int .i64 5]) (by simp [results,Tryz.results171,go_sem,q0,q1']) rfl ?_;rw [FM.out];exact ⟨⟨_,rfl,Sl.none _ _⟩,FI.out.2.1⟩
    ·have kb:decide (2000<(N:Int))=false:=zdf (by omega);rw [if_neg big] at FM;have FI:=FIN (.int .i64 D) (.slice o9 N c9);clear FIN big;go_wp2
     have q0:=FI.out.1.c0;have q1':=FI.out.1.c1;generalize (w11.setCell ⟨w.heap.size,0,none⟩ (.int .i64 D)).setCell ⟨w.heap.size,1,none⟩ (.slice o9 N c9)=w13 at *;refine bodyPost_ret (v:=.tuple #[.agg #[.int .i64 D,.slice o9 N c9],.int .i64 0]) (by simp [results,Tryz.results171,go_sem,q0,q1']) rfl ?_;rw [FM.out];exact ⟨⟨_,rfl,FI.out.2.2⟩,FI.out.2.1⟩
  ·have kw:decide (D<qy)=false:=zdf wr;rw [if_neg wr] at FE;go_wp2
   have B35:=fun n=>below_drewN (here (w2.alloc (.cells #[.int .i64 D,.slice none 0 0] 24))) n;replace B3:=fun n=>zh (below_drewN B3.out n);replace O4:=fun n=>zh (O4.out.keep (B35 n));replace T6:=fun n=>zh (T6.out.keep (B35 n));replace T3:=fun n=>zh (T3.out.keep (B35 n));have b7:∀ n,w2.heap.size<((w2.alloc (.cells #[.int .i64 D,.slice none 0 0] 24)).drewN n).heap.size:=fun n=>by show w2.heap.size<(w2.alloc _).heap.size;simp
   have bl7:∀ n,b<((w2.alloc (.cells #[.int .i64 D,.slice none 0 0] 24)).drewN n).heap.size:=fun n=>bl;clear B35
   go_quiet (fail)
   replace B3:=B3 nq;replace O4:=O4 nq;replace T6:=T6 nq;replace T3:=T3 nq;replace b7:=b7 nq;replace bl7:=bl7 nq;clear bl b6 t60 t61 d0 d1;generalize (w2.alloc (.cells #[.int .i64 D,.slice none 0 0] 24)).drewN nq=w5 at *;have O9:=O4;have BZ0:=B3;have TZ6:=T6;have TZ3:=T3;have RZ:Hid (w5.ownsRow w5.heap.size 40 2 (.slice none 0 0) 0 (pairs [])):=World.ownsRow_nil _ _ _ _;have LX:Hid (([]:List Sp).length=0):=rfl;have FEZ:Hid (caL f 0 D=[]++(R++[(qx,qy)])):=FE;have LY:Hid ((R++[(qx,qy)]).length=c1):=by show _=_;rw [List.length_append,hK.out];show K+1=c1;omega
   have sz:w5.heap.size≤w5.heap.size:=Nat.le_refl _;clear O4 B3 T6 T3 FE;generalize R++[(qx,qy)]=Y at *;have PY:Hid ((pairs Y).length=c1 * 2):=by show _=_;rw [pairs_length,LY.out]
   have PO:Hid (∀ u∈pairs Y,u.oneCell'=true):=pairs_one Y;obtain ⟨ad,ead,adl,-,-,nw⟩:=O9.out.news (show 0<c1 by omega)
   injection ead with ead
   subst ead;replace nw:=zh nw;have C3:Hid (0+c1≤maxLen):=by show _≤_;unfold maxLen;omega
   have C4:Hid ((0+c1) * 16≤140737488355328):=by show _≤_;omega
   have e60:=TZ6.out.t.c0;have e61:=TZ6.out.t.c1;have eb6:w2.heap.size<w5.heap.size:=by omega
   replace sz:=zh sz;go_wp2_with (at_builtin;refine wpList_append_own _ rfl _ _ 22 rfl w5.heap.size 40 i0 (.agg #[.int .i64 0,.int .i64 0]) 2 16 Tryz.underlying22 hi hz0 hz1 hz2 rfl (by decide) (.slice none 0 0) 0 (pairs ([]:List Sp)) rfl RZ.out ⟨b,off,none⟩ c1 c (pairs Y) rfl PY.out nw.out PO.out C3.out C4.out sz.out ?_)
   intro v9 w10 hown hgrow _;have s5:W0.heap.size≤w5.heap.size:=by omega
   have A10:Below w5.heap.size w5 w10:=(Below.refl _ w5).grown hgrow sz.out (own_ge RZ.out);have B10:=BZ0.out.trans (A10.mono s5);have T6a:=TZ6.out.under A10 b7;have T3a:=TZ3.out.under A10 (show w.heap.size<w5.heap.size by omega);obtain ⟨o9,c9,rfl⟩:=(Sl.owns hown).shape;obtain ⟨N,hN⟩:∃ N,c1=N:=⟨_,rfl⟩;obtain ⟨Z,hZ⟩:∃ Z,([]:List Sp)++Y=Z:=⟨_,rfl⟩;rw [hN,← pairs_append,hZ] at hown;rw [hZ] at FEZ;have LZ:Hid (Z.length=N):=by show _=_;rw [← hZ,List.length_append,LX.out,LY.out];omega
   have N1:N≤1000000:=by omega
   have B11:=zh (B10.setCell (p:=⟨w2.heap.size,1,none⟩) s2 (.slice o9 N c9));have T6b:=zh (T6a.put1 (.slice o9 N c9));have T3b:=zh (T3a.far (p:=⟨w2.heap.size,1,none⟩) (by show w2.heap.size≠w.heap.size;omega) (.slice o9 N c9));have R11:=zh (ownsRow_setCell_below hown (a:=⟨w2.heap.size,1,none⟩) b7 (.slice o9 N c9));obtain ⟨w11,h11⟩:∃ w11,w10.setCell ⟨w2.heap.size,1,none⟩ (.slice o9 N c9)=w11:=⟨_,rfl⟩;rw [h11] at B11 T6b T3b R11;rw [hN];have g60:=T6a.t.c0;have g61:=T6a.t.c1;have g6f:=T6a.f1;have h60:=T6b.out.t.c0;have h61:=T6b.out.t.c1;obtain ⟨⟨i0',i1',i2'⟩,if0,if1⟩:=T3b.out;have FIN:∀ (u v:Value),Hid (Two ((w11.setCell ⟨w.heap.size,0,none⟩ u).setCell ⟨w.heap.size,1,none⟩ v) w.heap.size u v∧Below w.heap.size w ((w11.setCell ⟨w.heap.size,0,none⟩ u).setCell ⟨w.heap.size,1,none⟩ v)∧PairS w.heap.size ((w11.setCell ⟨w.heap.size,0,none⟩ u).setCell ⟨w.heap.size,1,none⟩ v) (.slice o9 N c9) Z):=fun u v=>by
    refine ⟨T3b.out.put u v,?_,?_⟩
    ·exact ((A0.out.trans (B11.out.mono A0.out.size)).setCell (p:=⟨w.heap.size,0,none⟩) (Nat.le_refl _) u).setCell (p:=⟨w.heap.size,1,none⟩) (Nat.le_refl _) v
    ·have:=Sl.owns (own_weak (ownsRow_setCell_below (ownsRow_setCell_below R11.out (a:=⟨w.heap.size,0,none⟩) (by show w.heap.size<w5.heap.size;omega) u) (a:=⟨w.heap.size,1,none⟩) (by show w.heap.size<w5.heap.size;omega) v) (show w.heap.size≤w5.heap.size by omega))
     show Sl _ _ _ _ _
     rw [LZ.out];exact this
   clear hN hown hgrow A10 B10 T6a T3a BZ0 TZ6 TZ3 RZ e60 e61 eb6 sz nw PY PO C3 C4 adl O9 LX LY hZ T6b T3b R11 B11;rw [FEZ.out,LZ.out] at FM
   by_cases big:2000<N
   ·have kb:decide (2000<(N:Int))=true:=zdt (by omega);rw [if_pos big] at FM;have FI:=FIN (.int .i64 0) (.slice none 0 0);clear FIN big;go_wp2
    have q0:=FI.out.1.c0;have q1':=FI.out.1.c1;generalize (w11.setCell ⟨w.heap.size,0,none⟩ (.int .i64 0)).setCell ⟨w.heap.size,1,none⟩ (.slice none 0 0)=w13 at *;refine bodyPost_ret (v:=.tuple #[.agg #[.int .i64 0,.slice none 0 0],.int .i64 5]) (by simp [results,Tryz.results171,go_sem,q0,q1']) rfl ?_;rw [FM.out];exact ⟨⟨_,rfl,Sl.none _ _⟩,FI.out.2.1⟩
   ·have kb:decide (2000<(N:Int))=false:=zdf (by omega);rw [if_neg big] at FM;have FI:=FIN (.int .i64 D) (.slice o9 N c9);clear FIN big;go_wp2
    have q0:=FI.out.1.c0;have q1':=FI.out.1.c1;generalize (w11.setCell ⟨w.heap.size,0,none⟩ (.int .i64 D)).setCell ⟨w.heap.size,1,none⟩ (.slice o9 N c9)=w13 at *;refine bodyPost_ret (v:=.tuple #[.agg #[.int .i64 D,.slice o9 N c9],.int .i64 0]) (by simp [results,Tryz.results171,go_sem,q0,q1']) rfl ?_;rw [FM.out];exact ⟨⟨_,rfl,FI.out.2.2⟩,FI.out.2.1⟩
end Go.Proofs.YtmamlgaogpkagaaGreat
