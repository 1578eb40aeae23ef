/- PeKD PeKE PeKF PeKH. -/
import Derived.Test.YtmamlgaogpkagaaGreatQLPlain
import Derived.Test.YtmamlgaogpkagaaGreatQLGen
import Derived.Test.YtmamlgaogpkagaaGreatQLSl
import Derived.Test.YtmamlgaogpkagaaGreatQRnT
import Derived.Test.YtmamlgaogpkagaaGreatQRnV
import Derived.Test.YtmamlgaogpkagaaGreatQRnKA
import Derived.Test.YtmamlgaogpkagaaGreatQRnKD
import Derived.Test.YtmamlgaogpkagaaGreatQRnKF
import Derived.Deep.AppendLies
import Derived.Deep.RegionLaw
namespace Go.Proofs.YtmamlgaogpkagaaGreat
open Go.RowKit
set_option linter.unusedVariables false
set_option linter.unusedSimpArgs false
noncomputable def pfR (P:Int) (f:Int→Bool):(Int × List Sp) × Int:=if 2000<(fmP P f).2.length then ((0,[]),5) else (fmP P f,0)
theorem ca_tight {f:Int→Bool} {a b:Int} (h:∀ x,a≤x→x<b→f x=true) (ab:a<b):caL f a b=[(a,b)]:=by
 symm
 refine ca_eq ⟨ab,fun q hq=>(by cases hq),trivial⟩ fun x=>?_;rw [inB_one]
 by_cases z:a≤x∧x<b
 ·rw [h x z.1 z.2,zdt z.1,zdt z.2];rfl
 ·rw [Bool.eq_iff_iff];simp only [Bool.and_eq_true,decide_eq_true_eq];omega
theorem frm_all {P:Int} {f:Int→Bool} {Q:Int} {M:List Sp} (h:CrV P f Q M) :
    0<leF P f∧leF P f≤Q∧((M=[]∧caL f 0 (leF P f)=[])∨∃ (c:Nat) (R:List Sp) (q:Sp),0<c∧c≤M.length∧((M.length:Int) * leF P f).tdiv Q=c∧M.take c=R++[q]∧R.length+1=c∧0≤q.2∧q.2≤2 * Q∧caL f 0 (leF P f)=if leF P f<q.2 then (0,q.2 - leF P f) :: (R++[(q.1,leF P f)]) else R++[q]):=by
  rcases h with ⟨a,b,c⟩ | ⟨a,b,c⟩ | ⟨a,b⟩
  · rw [le_eq (lst_const c)];refine ⟨by omega,by omega,.inl ⟨b,?_⟩⟩;rw [← ca_skip (f:=f) (a:=0) (e:=0) (b:=1) (by omega) (fun x _ _=>c x),ca_none _ (Int.le_refl 0)]
  · rw [le_eq (lst_const c)];refine ⟨by omega,by omega,.inr ⟨1,[],(0,1),by omega,by rw [b];exact Nat.le_refl _,by rw [a,b];rfl,by rw [b];rfl,rfl,by show (0:Int)≤1;omega,by show (1:Int)≤2 * Q;omega,?_⟩⟩;rw [if_neg (by show ¬ (1:Int)<1;omega),ca_tight (fun x _ _=>c x) (by omega)];rfl
  · subst a;have L:=le_lst b.P0 b.per;generalize leF Q f=d at L;have dP:=Int.le_of_dvd b.P0 L.dvd;have dp:=L.pos;have bp:=b.P0;obtain ⟨c,c0,c1,c2,c3⟩:=frm_len b L.pos L.dvd L.per
    rcases snoc_cases (M.take c) with e | ⟨R,q,e⟩
    · have:=congrArg List.length e;rw [List.length_take] at this
      simp at this;rcases this with e | e
      · omega
      · rw [e] at c1;simp at c1;omega
    · have ln:=congrArg List.length e;rw [List.length_take,List.length_append] at ln;have ln:min c M.length=R.length+1:=ln;have mq:q∈M:=List.mem_of_mem_take (i:=c) (by rw [e];simp);have bq:=b.lo q mq;have hq:=b.hi q mq;have o:=b.o0;have lt:=b.cn.lt q mq;refine ⟨L.pos,dP,.inr ⟨c,R,q,c0,c1,?_,e,by omega,by omega,by omega,?_⟩⟩
      · rw [Int.tdiv_eq_ediv_of_nonneg (Int.mul_nonneg (by omega) (by have:=L.pos;omega))];exact c2
      · exact frm_ok b L.pos dP L.per (by rw [← c3];exact e)
theorem OwnS.end' {B:Nat} {w:World} {b off m c K:Nat} {R:List Sp} {x y:Int} (h:OwnS B w (.slice (some ⟨b,off,none⟩) m c) (R++[(x,y)])) (hK:R.length=K):w.cell? ⟨b,off+K * 2,none⟩=some (.int .i64 x)∧w.cell? ⟨b,off+K * 2+1,none⟩=some (.int .i64 y)∧w.frozen? ⟨b,off+K * 2+1,none⟩=false∧b<w.heap.size∧B≤b:=by
 obtain ⟨o,c',e,l,k⟩:=h.sh;have ln:(R++[(x,y)]).length=K+1:=by simp [hK]
 obtain ⟨b',off',e1,e2,e3,e4,e5⟩:=k (by omega)
 injection e with x1 x2 x3
 rw [← x1] at e1
 injection e1 with e1
 injection e1 with y1 y2
 subst y1;subst y2;have q:=e4 K (by omega);have eq:(R++[(x,y)]).getD K (0,0)=(x,y):=by
  rw [← hK];have:=app_right R [(x,y)] 0;rw [Nat.add_zero] at this;exact this
 rw [eq] at q;exact ⟨q.1,q.2,e5 _,e3,e2⟩
set_option maxRecDepth 100000 in
set_option maxHeartbeats 1000000 in
theorem upform (v:Value) (P:Int) (L:List Sp) (f:Int→Bool) (H:Cir P f L) (hn:L.length≤100000) (P1:P≤12622780800) {base:Nat} (w:World) (h:PairS base w v L) :
    Calls Tryz.prog 171 #[.int .i64 P,v] w fun e w'=>(∃ v',e=.returned (.tuple #[.agg #[.int .i64 (pfR P f).1.1,v'],.int .i64 (pfR P f).2])∧PairS w.heap.size w' v' (pfR P f).1.2)∧Below w.heap.size w w':=by
  obtain ⟨i0,hi,hz0,hz1,hz2⟩:=info_parts infoS;have T4:=zh (Tuo.new w (.int .i64 0) (.slice none 0 0) 24);have A0:=zh (grow (here w) (.cells #[.int .i64 0,.slice none 0 0] 24));have b4:w.heap.size<(w.alloc (.cells #[.int .i64 0,.slice none 0 0] 24)).heap.size:=by simp
  have PL:=zh (h.keep A0.out);clear h;have HC:=zh (upcircle v P L f H (by omega) P1 (w.alloc (.cells #[.int .i64 0,.slice none 0 0] 24)) PL.out);clear PL
  go_enter Tryz.func171,Tryz.ntmps171
  go_wp2_with fail
  refine HC.out.mono ?_;rintro e w1 ⟨⟨Q,v1,M,rfl,O1,C1,ml⟩,B1⟩;clear HC;generalize w.alloc (.cells #[.int .i64 0,.slice none 0 0] 24)=W0 at *;have Q0:=C1.same H.P0;have Q1:Q≤12622780800:=by rcases C1.len with ⟨a,-⟩ | ⟨a,-⟩ <;> omega
  have HL:=zh (upleast v1 P Q M f C1 (by omega) Q0 Q1 w1 O1);have FA:=zh (frm_all C1);have FM:Hid (pfR P f=if 2000<(caL f 0 (leF P f)).length then ((0,[]),5) else ((leF P f,caL f 0 (leF P f)),0)):=rfl;generalize leF P f=D at *;clear H C1;go_wp2_with fail
  refine HL.out.mono ?_;rintro e w2 ⟨rfl,B2⟩;have O2:=zh (O1.keep B2);have B2:=zh (down B1 B2);clear O1 B1 HL;have T2:=zh (T4.out.keep B2.out);have s2:=B2.out.size;have b6:w2.heap.size<(w2.alloc (.cells #[.int .i64 D,.slice none 0 0] 24)).heap.size:=by simp
  have T6:=zh (Tuo.new w2 (.int .i64 D) (.slice none 0 0) 24);have O3:=zh (O2.out.keep (grow (here w2) (.cells #[.int .i64 D,.slice none 0 0] 24)));have B3:=zh (grow B2.out (.cells #[.int .i64 D,.slice none 0 0] 24));have T3:=zh (T2.out.keep (grow (here w2) (.cells #[.int .i64 D,.slice none 0 0] 24)));have O2k:=O2;clear T2 O2 B2 T4;replace FA:=FA.out;obtain ⟨D0,DQ,FA⟩:=FA;obtain ⟨o,c,rfl,cp,-⟩:=O3.out.sh;obtain ⟨n,hn'⟩:∃ n,M.length=n:=⟨_,rfl⟩;rw [hn'] at O3 O2k cp ml ⊢;have t60:=T6.out.t.c0;have t61:=T6.out.t.c1
  rcases FA with ⟨rfl,e⟩ | ⟨c1,R,q,c10,c11,c12,tk,lR,q0,q1,FE⟩
  · obtain rfl:n=0:=hn'.symm;have d0:(0:Int) * D=0:=Int.zero_mul D;have d1:(0:Int).tdiv Q=0:=Int.zero_tdiv Q;have Q2:¬ (Q=0):=by omega
    have k2:decide (0≤(-1:Int))=false:=rfl;rw [e] at FM;replace FM:Hid (pfR P f=((D,[]),0)):=FM;clear e O3 O2k ml hn' hn;go_wp2
    have B35:=fun n=>below_drewN (here (w2.alloc (.cells #[.int .i64 D,.slice none 0 0] 24))) n;replace B3:=fun n=>zh (below_drewN B3.out n);replace T6:=fun n=>zh (T6.out.keep (B35 n));replace T3:=fun n=>zh (T3.out.keep (B35 n));clear B35
    go_quiet (fail)
    replace B3:=B3 nq;replace T6:=T6 nq;replace T3:=T3 nq;clear b6 t60 t61;generalize (w2.alloc (.cells #[.int .i64 D,.slice none 0 0] 24)).drewN nq=w5 at *;have R5:Hid (w5.ownsRow w5.heap.size 40 2 (.slice none 0 0) 0 (pairs [])):=World.ownsRow_nil _ _ _ _;have e60:=T6.out.t.c0;have e61:=T6.out.t.c1;have C3:Hid (0+0≤maxLen):=by show _≤_;unfold maxLen;omega
    have C4:Hid ((0+0) * 16≤140737488355328):=by show _≤_;omega
    have C5:Hid (w5.heap.size≤w5.heap.size):=Nat.le_refl _;have b7:=T6.out.t.lt;have b7':=T3.out.t.lt;go_wp2_with (at_builtin;refine app_any _ rfl _ _ 22 rfl w5.heap.size 40 i0 (.agg #[.int .i64 0,.int .i64 0]) 2 16 Tryz.underlying22 hi hz0 hz1 hz2 rfl (by decide) (.slice none 0 0) 0 (pairs []) rfl R5.out o 0 c [] rfl rfl (fun _=>rfl) (fun ad _ j u hj=>by simp at hj) (fun u hu=>by simp at hu) C3.out C4.out C5.out ?_)
    intro v9 w10 hown hgrow;have A10:Below w5.heap.size w5 w10:=(Below.refl _ w5).grown hgrow (Nat.le_refl _) (own_ge R5.out);have B10:=B3.out.trans (A10.mono B3.out.size);have T6a:=T6.out.keep A10;have T3a:=T3.out.keep A10;obtain ⟨o9,c9,rfl⟩:=(Sl.owns hown).shape;have B11:=zh (B10.setCell (p:=⟨w2.heap.size,1,none⟩) s2 (.slice o9 0 c9));have T6b:=zh (T6a.put1 (.slice o9 0 c9));have T3b:=zh (T3a.far (p:=⟨w2.heap.size,1,none⟩) (by show w2.heap.size≠w.heap.size;omega) (.slice o9 0 c9));have g60:=T6a.t.c0;have g61:=T6a.t.c1;have g6f:=T6a.f1;clear T6 T3 B3 hown hgrow A10 B10 T6a T3a R5 e60 e61 C3 C4 C5;obtain ⟨w11,h11⟩:∃ w11,w10.setCell ⟨w2.heap.size,1,none⟩ (.slice o9 0 c9)=w11:=⟨_,rfl⟩;rw [h11] at B11 T6b T3b;have h60:=T6b.out.t.c0;have h61:=T6b.out.t.c1;obtain ⟨⟨i0',i1',i2'⟩,if0,if1⟩:=T3b.out;have FI:Hid (Two ((w11.setCell ⟨w.heap.size,0,none⟩ (.int .i64 D)).setCell ⟨w.heap.size,1,none⟩ (.slice o9 0 c9)) w.heap.size (.int .i64 D) (.slice o9 0 c9)∧Below w.heap.size w ((w11.setCell ⟨w.heap.size,0,none⟩ (.int .i64 D)).setCell ⟨w.heap.size,1,none⟩ (.slice o9 0 c9))) :=
      ⟨T3b.out.put _ _,((A0.out.trans (B11.out.mono A0.out.size)).setCell (p:=⟨w.heap.size,0,none⟩) (Nat.le_refl _) _).setCell (p:=⟨w.heap.size,1,none⟩) (Nat.le_refl _) _⟩
    clear B11 T6b T3b;have kb:decide (2000<(0:Int))=false:=rfl;go_wp2
    have q0:=FI.out.1.c0;have q1':=FI.out.1.c1;generalize (w11.setCell ⟨w.heap.size,0,none⟩ (.int .i64 D)).setCell ⟨w.heap.size,1,none⟩ (.slice o9 0 c9)=w13 at *;refine bodyPost_ret (v:=.tuple #[.agg #[.int .i64 D,.slice o9 0 c9],.int .i64 0]) (by simp [results,Tryz.results171,go_sem,q0,q1']) rfl ?_;rw [FM.out];exact ⟨⟨_,rfl,.inl ⟨rfl,_,_,rfl⟩⟩,FI.out.2⟩
  · rw [hn'] at c11 c12;have nd:0≤(n:Int) * D:=Int.mul_nonneg (by omega) (by omega);have nd2:(n:Int) * D≤12622780800000000:=by
      have:=Int.mul_le_mul (show (n:Int)≤1000000 by omega) (show D≤12622780800 by omega) (by omega) (by omega);omega
    have Q2:¬ (Q=0):=by omega
    obtain ⟨K,hK⟩:∃ K,R.length=K:=⟨_,rfl⟩;have k1:(c1:Int) - 1=K:=by omega
    have k2:decide (0≤(K:Int))=true:=zdt (by omega);have k3:decide (0≤K)=true:=zdt (by omega);have km:(K:Int)<(c1:Int):=by omega
    have cc:c1≤c:=by omega
    have O24:=OwnS.take O2k.out (i:=c1) (by omega);have O4:=OwnS.take O3.out (i:=c1) (by omega);rw [tk] at O4 O24;obtain ⟨b,off,rfl,-⟩:=O4.at c10;obtain ⟨qx,qy⟩:=q;replace hK:=zh hK;obtain ⟨d0,d1,-,bl,bB⟩:=OwnS.end' O4 hK.out;obtain ⟨-,-,-,bl2,-⟩:=OwnS.end' O24 hK.out;replace O4:=zh O4;replace FE:=zh FE;replace q0:0≤qy:=q0;replace q1:qy≤2 * Q:=q1;have nb:n≤100001:=by omega
    clear tk hn' O3 lR ml hn O24 O2k
    by_cases wr:D<qy
    · have kw:decide (D<qy)=true:=zdt wr;rw [if_pos wr] at FE;go_wp2
      have B35:=fun n=>below_drewN (here (w2.alloc (.cells #[.int .i64 D,.slice none 0 0] 24))) n;replace B3:=fun n=>zh (below_drewN B3.out n);replace O4:=fun n=>zh (O4.out.keep (B35 n));replace T6:=fun n=>zh (T6.out.keep (B35 n));replace T3:=fun n=>zh (T3.out.keep (B35 n));have b7:∀ n,w2.heap.size<((w2.alloc (.cells #[.int .i64 D,.slice none 0 0] 24)).drewN n).heap.size:=fun n=>by show w2.heap.size<(w2.alloc _).heap.size;simp
      have bl7:∀ n,b<((w2.alloc (.cells #[.int .i64 D,.slice none 0 0] 24)).drewN n).heap.size:=fun n=>bl;clear B35
      go_quiet (fail)
      replace B3:=B3 nq;replace O4:=O4 nq;replace T6:=T6 nq;replace T3:=T3 nq;replace b7:=b7 nq;replace bl7:=bl7 nq;clear bl b6 t60 t61 d0 d1;generalize (w2.alloc (.cells #[.int .i64 D,.slice none 0 0] 24)).drewN nq=w5 at *;obtain ⟨d0,d1,-,-,-⟩:=OwnS.end' O4.out hK.out;obtain ⟨⟨t60,t61,-⟩,f60,f61⟩:=T6.out;obtain ⟨S,hS⟩:∃ S,qy - D=S:=⟨_,rfl⟩;have S0:0<S:=by omega
      have S1:S≤25245561600:=by omega
      have S2:IntKind.i64.wrap S=S:=by rw [IntKind.wrap_i64];omega
      have FE':Hid (caL f 0 D=(0,S) :: (R++[(qx,D)])):=by show _=_;rw [FE.out,hS]
      clear FE;obtain ⟨s0,s1,-⟩:=Two.new (here (w5.alloc (.cells #[.int .i64 0,.int .i64 S] 40)));have X0:Hid (w5.ownsRow w5.heap.size 40 2 (.slice none 0 0) 0 (pairs [])):=World.ownsRow_nil _ _ _ _;have X1:=X0.out.alloc (.cells #[.int .i64 0,.int .i64 S] 40);have X2:∀ (j:Nat) (u:Value),[Value.int .i64 0,.int .i64 S][j]?=some u→(w5.alloc (.cells #[.int .i64 0,.int .i64 S] 40)).cell? ((⟨w5.heap.size,0,none⟩:Addr).add j)=some u:=fun j u hj=>by rw [Addr.add_lit,Nat.zero_add,World.cell?_alloc_new];simpa using hj
      have X3:∀ u∈[Value.int .i64 0,.int .i64 S],u.oneCell'=true:=fun u hu=>by simp at hu;rcases hu with rfl | rfl <;> rfl
      have X4:w5.heap.size≤(w5.alloc (.cells #[.int .i64 0,.int .i64 S] 40)).heap.size:=by simp
      replace X1:=zh X1;replace X2:=zh X2;replace X3:=zh X3;replace X4:=zh X4;have X6:Hid ((0+1) * 16≤140737488355328):=by show _≤_;omega
      have X5:Hid (0+1≤maxLen):=by show _≤_;unfold maxLen;omega
      go_wp2
      go_region_law (refine step_append_lies _ rfl _ _ 22 rfl w5.heap.size 40 i0 (.agg #[.int .i64 0,.int .i64 0]) 2 16 Tryz.underlying22 hi hz0 hz1 hz2 rfl (by decide) (.slice none 0 0) 0 (pairs []) rfl X1.out ⟨w5.heap.size,0,none⟩ 1 1 [.int .i64 0,.int .i64 S] rfl rfl X2.out X3.out (Nat.succ_pos 0) X5.out X6.out X4.out _ rfl ?_;intro g7 cap7 w7 hown hgrow _ _;have A7:Below w5.heap.size w5 w7:=(grow (here w5) _).drew.grown hgrow (by simp) (by intro k hk;simp [Value.ownBlock] at hk);have T7:=T6.out.keep A7;have f7:=T7.f1;have c7:=T7.t.c1)
      all_goals
        clear X0 X1 X2 X3 X4 X5 X6 s0 s1 d0 d1 t60 t61 f60 f61 c7 f7;have bg:w5.heap.size≤g7:=own_ge hown g7 rfl;have B7:=B3.out.trans (A7.mono (by have:=B3.out.size;omega));have O7:=O4.out.keep A7;have T37:=T3.out.keep A7;have B8:=zh (B7.setCell (p:=⟨w2.heap.size,1,none⟩) s2 (.slice (some ⟨g7,0,none⟩) 1 cap7));have T68:=zh (T7.put1 (.slice (some ⟨g7,0,none⟩) 1 cap7));have O8:=zh (O7.far (p:=⟨w2.heap.size,1,none⟩) (by show w2.heap.size≠b;omega) (.slice (some ⟨g7,0,none⟩) 1 cap7));have T38:=zh (T37.far (p:=⟨w2.heap.size,1,none⟩) (by show w2.heap.size≠w.heap.size;omega) (.slice (some ⟨g7,0,none⟩) 1 cap7));have R8:=zh (ownsRow_setCell_below hown (a:=⟨w2.heap.size,1,none⟩) b7 (.slice (some ⟨g7,0,none⟩) 1 cap7));have s8:w5.heap.size≤(w7.setCell ⟨w2.heap.size,1,none⟩ (.slice (some ⟨g7,0,none⟩) 1 cap7)).heap.size:=by rw [size_set];exact A7.size
        clear hown hgrow B3 B7 O7 T37 O4 T3 T6 A7 T7;generalize w7.setCell ⟨w2.heap.size,1,none⟩ (.slice (some ⟨g7,0,none⟩) 1 cap7)=w8 at *;obtain ⟨d0,d1,fz,-,-⟩:=OwnS.end' O8.out hK.out;obtain ⟨⟨t60,t61,-⟩,f60,f61⟩:=T68.out;have O9:=O8.out.last D;rw [hK.out] at O9;have FEZ:Hid (caL f 0 D=[(0,S)]++(R++[(qx,D)])):=FE';have LY:Hid ((R++[(qx,D)]).length=c1):=by show _=_;rw [List.length_append,hK.out];show K+1=c1;omega
        replace O9:=zh O9;have BZ0:=zh (B8.out.setCell (p:=⟨b,off+K * 2+1,none⟩) bB (.int .i64 D));have TZ6:=zh (T68.out.far (p:=⟨b,off+K * 2+1,none⟩) (by show b≠w2.heap.size;omega) (.int .i64 D));have TZ3:=zh (T38.out.far (p:=⟨b,off+K * 2+1,none⟩) (by show b≠w.heap.size;omega) (.int .i64 D));have RZ:=zh (ownsRow_setCell_below R8.out (a:=⟨b,off+K * 2+1,none⟩) bl7 (.int .i64 D));have sz:w5.heap.size≤(w8.setCell ⟨b,off+K * 2+1,none⟩ (.int .i64 D)).heap.size:=by rw [size_set];exact s8
        clear O8 B8 T68 T38 R8 s8 FE';obtain ⟨wz,hwz⟩:∃ wz,w8.setCell ⟨b,off+K * 2+1,none⟩ (.int .i64 D)=wz:=⟨_,rfl⟩;rw [hwz] at O9 BZ0 TZ6 TZ3 RZ sz;replace RZ:Hid (wz.ownsRow w5.heap.size 40 2 (.slice (some ⟨g7,0,none⟩) 1 cap7) 1 (pairs [(0,S)])):=RZ;have LX:Hid (([(0,S)]:List Sp).length=1):=rfl;generalize ([(0,S)]:List Sp)=X at *;generalize R++[(qx,D)]=Y at *;have PY:Hid ((pairs Y).length=c1 * 2):=by show _=_;rw [pairs_length,LY.out]
        have PO:Hid (∀ u∈pairs Y,u.oneCell'=true):=pairs_one Y;obtain ⟨ad,ead,adl,-,-,nw⟩:=O9.out.news (show 0<c1 by omega)
        injection ead with ead
        subst ead;replace nw:=zh nw;have C3:Hid (1+c1≤maxLen):=by show _≤_;unfold maxLen;omega
        have C4:Hid ((1+c1) * 16≤140737488355328):=by show _≤_;omega
        have e60:=TZ6.out.t.c0;have e61:=TZ6.out.t.c1;have eb6:w2.heap.size<wz.heap.size:=by omega
        replace sz:=zh sz;go_wp2_with (at_builtin;refine wpList_append_own _ rfl _ _ 22 rfl w5.heap.size 40 i0 (.agg #[.int .i64 0,.int .i64 0]) 2 16 Tryz.underlying22 hi hz0 hz1 hz2 rfl (by decide) (.slice (some ⟨g7,0,none⟩) 1 cap7) 1 (pairs X) rfl RZ.out ⟨b,off,none⟩ c1 c (pairs Y) rfl PY.out nw.out PO.out C3.out C4.out sz.out ?_)
        intro v9 w10 hown hgrow _;have s5:W0.heap.size≤w5.heap.size:=by omega
        have A10:Below w5.heap.size wz w10:=(Below.refl _ wz).grown hgrow sz.out (own_ge RZ.out);have B10:=BZ0.out.trans (A10.mono s5);have T6a:=TZ6.out.under A10 b7;have T3a:=TZ3.out.under A10 (show w.heap.size<w5.heap.size by omega);obtain ⟨o9,c9,rfl⟩:=(Sl.owns hown).shape;obtain ⟨N,hN⟩:∃ N,1+c1=N:=⟨_,rfl⟩;obtain ⟨Z,hZ⟩:∃ Z,X++Y=Z:=⟨_,rfl⟩;rw [hN,← pairs_append,hZ] at hown;rw [hZ] at FEZ;have LZ:Hid (Z.length=N):=by show _=_;rw [← hZ,List.length_append,LX.out,LY.out];omega
        have N1:N≤1000000:=by omega
        have B11:=zh (B10.setCell (p:=⟨w2.heap.size,1,none⟩) s2 (.slice o9 N c9));have T6b:=zh (T6a.put1 (.slice o9 N c9));have T3b:=zh (T3a.far (p:=⟨w2.heap.size,1,none⟩) (by show w2.heap.size≠w.heap.size;omega) (.slice o9 N c9));have R11:=zh (ownsRow_setCell_below hown (a:=⟨w2.heap.size,1,none⟩) b7 (.slice o9 N c9));obtain ⟨w11,h11⟩:∃ w11,w10.setCell ⟨w2.heap.size,1,none⟩ (.slice o9 N c9)=w11:=⟨_,rfl⟩;rw [h11] at B11 T6b T3b R11;rw [hN];have g60:=T6a.t.c0;have g61:=T6a.t.c1;have g6f:=T6a.f1;have h60:=T6b.out.t.c0;have h61:=T6b.out.t.c1;obtain ⟨⟨i0',i1',i2'⟩,if0,if1⟩:=T3b.out;have FIN:∀ (u v:Value),Hid (Two ((w11.setCell ⟨w.heap.size,0,none⟩ u).setCell ⟨w.heap.size,1,none⟩ v) w.heap.size u v∧Below w.heap.size w ((w11.setCell ⟨w.heap.size,0,none⟩ u).setCell ⟨w.heap.size,1,none⟩ v)∧PairS w.heap.size ((w11.setCell ⟨w.heap.size,0,none⟩ u).setCell ⟨w.heap.size,1,none⟩ v) (.slice o9 N c9) Z):=fun u v=>by
          refine ⟨T3b.out.put u v,?_,?_⟩
          · exact ((A0.out.trans (B11.out.mono A0.out.size)).setCell (p:=⟨w.heap.size,0,none⟩) (Nat.le_refl _) u).setCell (p:=⟨w.heap.size,1,none⟩) (Nat.le_refl _) v
          · have:=Sl.owns (own_weak (ownsRow_setCell_below (ownsRow_setCell_below R11.out (a:=⟨w.heap.size,0,none⟩) (by show w.heap.size<w5.heap.size;omega) u) (a:=⟨w.heap.size,1,none⟩) (by show w.heap.size<w5.heap.size;omega) v) (show w.heap.size≤w5.heap.size by omega))
            show Sl _ _ _ _ _
            rw [LZ.out];exact this
        clear hN hown hgrow A10 B10 T6a T3a BZ0 TZ6 TZ3 RZ e60 e61 eb6 sz nw PY PO C3 C4 adl O9 LX LY hZ T6b T3b R11 B11;clear hwz d0 d1 fz f60 f61 t60 t61;rw [FEZ.out,LZ.out] at FM
        by_cases big:2000<N
        · have kb:decide (2000<(N:Int))=true:=zdt (by omega);rw [if_pos big] at FM;have FI:=FIN (.int .i64 0) (.slice none 0 0);clear FIN big;go_wp2
          have q0:=FI.out.1.c0;have q1':=FI.out.1.c1;generalize (w11.setCell ⟨w.heap.size,0,none⟩ (.int .i64 0)).setCell ⟨w.heap.size,1,none⟩ (.slice none 0 0)=w13 at *;refine bodyPost_ret (v:=.tuple #[.agg #[.int .i64 0,.slice none 0 0],.int .i64 5]) (by simp [results,Tryz.results171,go_sem,q0,q1']) rfl ?_;rw [FM.out];exact ⟨⟨_,rfl,Sl.none _ _⟩,FI.out.2.1⟩
        · have kb:decide (2000<(N:Int))=false:=zdf (by omega);rw [if_neg big] at FM;have FI:=FIN (.int .i64 D) (.slice o9 N c9);clear FIN big;go_wp2
          have q0:=FI.out.1.c0;have q1':=FI.out.1.c1;generalize (w11.setCell ⟨w.heap.size,0,none⟩ (.int .i64 D)).setCell ⟨w.heap.size,1,none⟩ (.slice o9 N c9)=w13 at *;refine bodyPost_ret (v:=.tuple #[.agg #[.int .i64 D,.slice o9 N c9],.int .i64 0]) (by simp [results,Tryz.results171,go_sem,q0,q1']) rfl ?_;rw [FM.out];exact ⟨⟨_,rfl,FI.out.2.2⟩,FI.out.2.1⟩
    · have kw:decide (D<qy)=false:=zdf wr;rw [if_neg wr] at FE;go_wp2
      have B35:=fun n=>below_drewN (here (w2.alloc (.cells #[.int .i64 D,.slice none 0 0] 24))) n;replace B3:=fun n=>zh (below_drewN B3.out n);replace O4:=fun n=>zh (O4.out.keep (B35 n));replace T6:=fun n=>zh (T6.out.keep (B35 n));replace T3:=fun n=>zh (T3.out.keep (B35 n));have b7:∀ n,w2.heap.size<((w2.alloc (.cells #[.int .i64 D,.slice none 0 0] 24)).drewN n).heap.size:=fun n=>by show w2.heap.size<(w2.alloc _).heap.size;simp
      have bl7:∀ n,b<((w2.alloc (.cells #[.int .i64 D,.slice none 0 0] 24)).drewN n).heap.size:=fun n=>bl;clear B35
      go_quiet (fail)
      replace B3:=B3 nq;replace O4:=O4 nq;replace T6:=T6 nq;replace T3:=T3 nq;replace b7:=b7 nq;replace bl7:=bl7 nq;clear bl b6 t60 t61 d0 d1;generalize (w2.alloc (.cells #[.int .i64 D,.slice none 0 0] 24)).drewN nq=w5 at *;have O9:=O4;have BZ0:=B3;have TZ6:=T6;have TZ3:=T3;have RZ:Hid (w5.ownsRow w5.heap.size 40 2 (.slice none 0 0) 0 (pairs [])):=World.ownsRow_nil _ _ _ _;have LX:Hid (([]:List Sp).length=0):=rfl;have FEZ:Hid (caL f 0 D=[]++(R++[(qx,qy)])):=FE;have LY:Hid ((R++[(qx,qy)]).length=c1):=by show _=_;rw [List.length_append,hK.out];show K+1=c1;omega
      have sz:w5.heap.size≤w5.heap.size:=Nat.le_refl _;clear O4 B3 T6 T3 FE;generalize R++[(qx,qy)]=Y at *;have PY:Hid ((pairs Y).length=c1 * 2):=by show _=_;rw [pairs_length,LY.out]
      have PO:Hid (∀ u∈pairs Y,u.oneCell'=true):=pairs_one Y;obtain ⟨ad,ead,adl,-,-,nw⟩:=O9.out.news (show 0<c1 by omega)
      injection ead with ead
      subst ead;replace nw:=zh nw;have C3:Hid (0+c1≤maxLen):=by show _≤_;unfold maxLen;omega
      have C4:Hid ((0+c1) * 16≤140737488355328):=by show _≤_;omega
      have e60:=TZ6.out.t.c0;have e61:=TZ6.out.t.c1;have eb6:w2.heap.size<w5.heap.size:=by omega
      replace sz:=zh sz;go_wp2_with (at_builtin;refine wpList_append_own _ rfl _ _ 22 rfl w5.heap.size 40 i0 (.agg #[.int .i64 0,.int .i64 0]) 2 16 Tryz.underlying22 hi hz0 hz1 hz2 rfl (by decide) (.slice none 0 0) 0 (pairs ([]:List Sp)) rfl RZ.out ⟨b,off,none⟩ c1 c (pairs Y) rfl PY.out nw.out PO.out C3.out C4.out sz.out ?_)
      intro v9 w10 hown hgrow _;have s5:W0.heap.size≤w5.heap.size:=by omega
      have A10:Below w5.heap.size w5 w10:=(Below.refl _ w5).grown hgrow sz.out (own_ge RZ.out);have B10:=BZ0.out.trans (A10.mono s5);have T6a:=TZ6.out.under A10 b7;have T3a:=TZ3.out.under A10 (show w.heap.size<w5.heap.size by omega);obtain ⟨o9,c9,rfl⟩:=(Sl.owns hown).shape;obtain ⟨N,hN⟩:∃ N,c1=N:=⟨_,rfl⟩;obtain ⟨Z,hZ⟩:∃ Z,([]:List Sp)++Y=Z:=⟨_,rfl⟩;rw [hN,← pairs_append,hZ] at hown;rw [hZ] at FEZ;have LZ:Hid (Z.length=N):=by show _=_;rw [← hZ,List.length_append,LX.out,LY.out];omega
      have N1:N≤1000000:=by omega
      have B11:=zh (B10.setCell (p:=⟨w2.heap.size,1,none⟩) s2 (.slice o9 N c9));have T6b:=zh (T6a.put1 (.slice o9 N c9));have T3b:=zh (T3a.far (p:=⟨w2.heap.size,1,none⟩) (by show w2.heap.size≠w.heap.size;omega) (.slice o9 N c9));have R11:=zh (ownsRow_setCell_below hown (a:=⟨w2.heap.size,1,none⟩) b7 (.slice o9 N c9));obtain ⟨w11,h11⟩:∃ w11,w10.setCell ⟨w2.heap.size,1,none⟩ (.slice o9 N c9)=w11:=⟨_,rfl⟩;rw [h11] at B11 T6b T3b R11;rw [hN];have g60:=T6a.t.c0;have g61:=T6a.t.c1;have g6f:=T6a.f1;have h60:=T6b.out.t.c0;have h61:=T6b.out.t.c1;obtain ⟨⟨i0',i1',i2'⟩,if0,if1⟩:=T3b.out;have FIN:∀ (u v:Value),Hid (Two ((w11.setCell ⟨w.heap.size,0,none⟩ u).setCell ⟨w.heap.size,1,none⟩ v) w.heap.size u v∧Below w.heap.size w ((w11.setCell ⟨w.heap.size,0,none⟩ u).setCell ⟨w.heap.size,1,none⟩ v)∧PairS w.heap.size ((w11.setCell ⟨w.heap.size,0,none⟩ u).setCell ⟨w.heap.size,1,none⟩ v) (.slice o9 N c9) Z):=fun u v=>by
        refine ⟨T3b.out.put u v,?_,?_⟩
        · exact ((A0.out.trans (B11.out.mono A0.out.size)).setCell (p:=⟨w.heap.size,0,none⟩) (Nat.le_refl _) u).setCell (p:=⟨w.heap.size,1,none⟩) (Nat.le_refl _) v
        · have:=Sl.owns (own_weak (ownsRow_setCell_below (ownsRow_setCell_below R11.out (a:=⟨w.heap.size,0,none⟩) (by show w.heap.size<w5.heap.size;omega) u) (a:=⟨w.heap.size,1,none⟩) (by show w.heap.size<w5.heap.size;omega) v) (show w.heap.size≤w5.heap.size by omega))
          show Sl _ _ _ _ _
          rw [LZ.out];exact this
      clear hN hown hgrow A10 B10 T6a T3a BZ0 TZ6 TZ3 RZ e60 e61 eb6 sz nw PY PO C3 C4 adl O9 LX LY hZ T6b T3b R11 B11;rw [FEZ.out,LZ.out] at FM
      by_cases big:2000<N
      · have kb:decide (2000<(N:Int))=true:=zdt (by omega);rw [if_pos big] at FM;have FI:=FIN (.int .i64 0) (.slice none 0 0);clear FIN big;go_wp2
        have q0:=FI.out.1.c0;have q1':=FI.out.1.c1;generalize (w11.setCell ⟨w.heap.size,0,none⟩ (.int .i64 0)).setCell ⟨w.heap.size,1,none⟩ (.slice none 0 0)=w13 at *;refine bodyPost_ret (v:=.tuple #[.agg #[.int .i64 0,.slice none 0 0],.int .i64 5]) (by simp [results,Tryz.results171,go_sem,q0,q1']) rfl ?_;rw [FM.out];exact ⟨⟨_,rfl,Sl.none _ _⟩,FI.out.2.1⟩
      · have kb:decide (2000<(N:Int))=false:=zdf (by omega);rw [if_neg big] at FM;have FI:=FIN (.int .i64 D) (.slice o9 N c9);clear FIN big;go_wp2
        have q0:=FI.out.1.c0;have q1':=FI.out.1.c1;generalize (w11.setCell ⟨w.heap.size,0,none⟩ (.int .i64 D)).setCell ⟨w.heap.size,1,none⟩ (.slice o9 N c9)=w13 at *;refine bodyPost_ret (v:=.tuple #[.agg #[.int .i64 D,.slice o9 N c9],.int .i64 0]) (by simp [results,Tryz.results171,go_sem,q0,q1']) rfl ?_;rw [FM.out];exact ⟨⟨_,rfl,FI.out.2.2⟩,FI.out.2.1⟩
def ipB (P:Int) (L:List Sp):Bool:=L.all fun q=>decide (0≤q.1)&&decide (q.2≤P)
theorem ip_iff {P:Int} {L:List Sp}:ipB P L=true↔InP P L:=by
 unfold ipB InP
 simp [List.all_eq_true]
noncomputable def pvB (P:Int) (L:List Sp):Bool:=decide (1≤P)&&decide (P≤12622780800)&&vaB L&&ipB P L&&decide (leF P (hsP P L)=P)
structure PV (P:Int) (L:List Sp):Prop where
 p0:1≤P
 p1:P≤12622780800
 va:vaB L=true
 ip:InP P L
 ls:Lst (hsP P L) P P
theorem pv_iff {P:Int} {L:List Sp}:pvB P L=true↔PV P L:=by
 unfold pvB
 simp only [Bool.and_eq_true,decide_eq_true_eq,ip_iff]
 constructor
 ·rintro ⟨⟨⟨⟨a,b⟩,c⟩,d⟩,e⟩;refine ⟨a,b,c,d,?_⟩;have:=le_lst (f:=hsP P L) (show 0<P by omega) hs_per;rwa [e] at this
 ·rintro ⟨a,b,c,d,e⟩;exact ⟨⟨⟨⟨a,b⟩,c⟩,d⟩,le_eq e⟩
theorem PV.len {P:Int} {L:List Sp} (h:PV P L):L.length≤2000:=(vaB_iff.1 h.va).1
theorem PV.ln {P:Int} {L:List Sp} (h:PV P L):Ln L:=(vaB_iff.1 h.va).2.1
theorem PV.cn {P:Int} {L:List Sp} (h:PV P L):Cn L:=(vaB_iff.1 h.va).2.2
theorem PV.fm {P:Int} {L:List Sp} (h:PV P L):fmP P (hsP P L)=(P,L):=fm_self h.cn h.ip h.ls
theorem ip_ends {P:Int} {L:List Sp} (c:Cn L) (n:0<L.length):InP P L↔0≤(L.getD 0 (0,0)).1∧(L.getD (L.length - 1) (0,0)).2≤P:=by
 constructor
 ·intro h;exact ⟨(h _ (getD_mem n)).1,(h _ (getD_mem (by omega))).2⟩
 ·rintro ⟨a,b⟩ q hq;obtain ⟨j,hj,rfl⟩:=mem_getD hq;have l0:=cn_lo c (Nat.zero_le j) hj;have l1:=cn_lo c (show j≤L.length - 1 by omega) (by omega);omega
set_option maxRecDepth 100000 in
set_option maxHeartbeats 3000000 in
theorem upvalid (va:Value) (P:Int) (L:List Sp) (hL:L.length≤maxLen) (hP:I64 P) {ba:Nat} (w:World) (h:PairS ba w va L) :
    Calls Tryz.prog 131 #[.agg #[.int .i64 P,va]] w fun e w'=>e=.returned (.bool (pvB P L))∧Below w.heap.size w w':=by
  have mx:L.length≤9223372036854775807:=by unfold maxLen at hL;omega
  have T1:=Two.new (here (w.alloc (.cells #[.int .i64 P,va] 24)));have A1:=zh (grow (here w) (.cells #[.int .i64 P,va] 24));have HP:=zh (h.keep A1.out);have HI:=zh (fun W=>upisper P W);have HV:=zh (ruvalid va L hL _ HP.out);replace T1:=zh T1;obtain ⟨o,c,rfl⟩:=prs_shape h;have t0:=T1.out.c0;have t1:=T1.out.c1;have tl:=T1.out.lt;have bad:(decide (1≤P)&&decide (P≤12622780800))=false∨vaB L=false∨ipB P L=false→Hid (pvB P L=false):=fun x=>by
    show _=_
    unfold pvB
    rcases x with x | x | x
    · rw [x];rfl
    · rw [x];simp
    · rw [x];simp
  clear h
  cases i:(decide (1≤P)&&decide (P≤12622780800))
  · have r:=bad (.inl i);rw [i] at HI;clear HV bad i hP
    go_enter Tryz.func131,Tryz.ntmps131
    go_wp2_with fail
    refine (HI.out _).mono ?_;rintro e w2 ⟨rfl,rfl⟩;go_wp2
    go_ret
    exact ⟨by rw [r.out];rfl,A1.out⟩
  · rw [i] at HI;rw [Bool.and_eq_true,decide_eq_true_iff,decide_eq_true_iff] at i;obtain ⟨P0',P1⟩:=i;have P0:0<P:=by omega
    cases u:vaB L
    · have r:=bad (.inr (.inl u));rw [u] at HV;clear bad u hP
      go_enter Tryz.func131,Tryz.ntmps131
      go_wp2_with fail
      refine (HI.out _).mono ?_;rintro e w2 ⟨rfl,rfl⟩;go_wp2_with fail
      refine HV.out.mono ?_;rintro e w3 ⟨rfl,hb⟩;have A3:=zd A1 hb;clear hb A1 HP HI HV;go_wp2
      go_ret
      exact ⟨by rw [r.out];rfl,A3.out⟩
    · rw [u] at HV;obtain ⟨ln,-,cn⟩:=vaB_iff.1 u;have cc:=zh cn;obtain ⟨n,hl⟩:∃ n,L.length=n:=⟨_,rfl⟩;have YES:InP P L→Hid (pvB P L=decide (leF P (hsP P L)=P)):=fun x=>by
        show _=_
        unfold pvB
        rw [u,ip_iff.2 x,zdt P0',zdt P1];simp
      have CIf:InP P L→Hid (Cir P (hsP P L) L):=fun x=>cir_in P0 cn x;have IE:=fun x=>@ip_ends P L cn x;have VA:=fun k (hk:k<L.length)=>va_at u hk;rw [hl] at HV HP ln IE VA A1 T1 t0 t1 tl ⊢
      go_enter Tryz.func131,Tryz.ntmps131
      go_wp2_with fail
      refine (HI.out _).mono ?_;rintro e w2 ⟨rfl,rfl⟩;go_wp2_with fail
      refine HV.out.mono ?_;rintro e w2 ⟨rfl,hb⟩;have A2:=zd A1 hb;have T2:=zh (T1.out.keep hb);replace HP:=zh (HP.out.keep hb);clear hb A1 HI HV T1 u cn;have t0:=T2.out.c0;have t1:=T2.out.c1;have tl:=T2.out.lt
      rcases Nat.eq_zero_or_pos n with z | z
      · have e0:L=[]:=List.eq_nil_of_length_eq_zero (by omega);have kz:decide (0<(n:Int))=false:=zdf (by omega);have kz2:decide (0<n)=false:=zdf (by omega);replace hl:=zh hl;replace z:=zh z;have ipx:InP P L:=by rw [e0];intro q hq;cases hq
        have CI:=CIf ipx;have r:=YES ipx;clear CIf YES IE VA bad e0 ipx;go_wp2
        go_quiet (fail)
        replace A2:=zh (below_drewN A2.out nq);replace HP:=zh (HP.out.keep (below_drewN (here w2) nq));replace T2:=zh (T2.out.keep (below_drewN (here w2) nq));clear t0 t1 tl;generalize w2.drewN nq=w2 at *;have t0:=T2.out.c0;have t1:=T2.out.c1;have tl:=T2.out.lt;have HC:Hid (∀ W,PairS ba W (.slice o n c) L→Calls Tryz.prog 166 #[.int .i64 P,.slice o n c] W fun e w'=>(∃ Q v' M,e=.returned (.tuple #[.int .i64 Q,v'])∧OwnS W.heap.size w' v' M∧CrV P (hsP P L) Q M∧M.length≤n+1)∧Below W.heap.size W w'):=fun W h=>(upcircle _ P L _ CI.out (by rw [hl.out];omega) P1 W h).mono (by rintro e w ⟨⟨Q,v,M,a,b,c,d⟩,hb⟩;exact ⟨⟨Q,v,M,a,b,c,by rw [hl.out] at d;exact d⟩,hb⟩);have HL:Hid (∀ Q (M:List Sp) v,CrV P (hsP P L) Q M→M.length≤100000→∀ B W,OwnS B W v M→Calls Tryz.prog 165 #[.int .i64 Q,v] W fun e w'=>e=.returned (.int .i64 (leF P (hsP P L)))∧Below W.heap.size W w'):=fun Q M v C ml B W h=>upleast v P Q M _ C (by omega) (CrV.same C P0) (by rcases C.len with ⟨a,-⟩ | ⟨a,-⟩ <;> omega) W h;generalize leF P (hsP P L)=D at *;go_wp2
        go_region_with (first | (go_at_call 166;(with_reducible refine (HC.out _ (by first | exact HP.out.keep (Below.drew (here _)) | exact HP.out)).mono ?_);rintro e w5 ⟨⟨Q,v5,M,rfl,O5,C5,m5⟩,hb⟩;have hB:=zh (down (Below.drew (here w2)) hb);have hT:=(T2.out.keep hB.out).c0;replace O5:=zh O5;replace C5:=zh C5;clear hb) | (go_at_call 165;(with_reducible refine (HL.out _ M _ C5.out (by omega) _ _ O5.out).mono ?_);rintro e w6 ⟨rfl,hb⟩;have hB6:=zd hB hb;have hT6:=(T2.out.keep hB6.out).c0;clear hb))
        all_goals go_wp2
        all_goals go_ret
        all_goals exact ⟨by rw [r.out];rfl,down A2.out hB6.out⟩
      · have kz:decide (0<(n:Int))=true:=zdt (by omega);have kz2:decide (0<n)=true:=zdt z;obtain ⟨K,hK⟩:∃ K,n - 1=K:=⟨_,rfl⟩;have k1:(n:Int) - 1=K:=by omega
        have k2:decide (0≤(K:Int))=true:=zdt (by omega);have k3:decide (0≤K)=true:=zdt (by omega);have km:(K:Int)<(n:Int):=by omega
        have km':K<n:=by omega
        have zi:(0:Int)<(n:Int):=by omega
        obtain ⟨b,off,rfl,bl,cs⟩:=prs_here HP.out (show 0<L.length by omega);obtain ⟨c0,-⟩:=cs 0 (by omega);obtain ⟨-,d1⟩:=cs K (by omega);rw [Nat.zero_mul,Nat.add_zero] at c0;have IE:=IE z;rw [hK] at IE;have v0:=VA 0 z;have v1:=VA K km';obtain ⟨x,hx⟩:∃ x,(L.getD 0 (0,0)).1=x:=⟨_,rfl⟩;obtain ⟨y,hy⟩:∃ y,(L.getD K (0,0)).2=y:=⟨_,rfl⟩;rw [hx] at c0 IE;rw [hy] at d1 IE;replace hl:=zh hl;clear cs hx hy VA hK
        by_cases e0:x<0
        · have ke:decide (x<0)=true:=zdt e0;have r:=bad (.inr (.inr (by rw [← Bool.not_eq_true,ip_iff];intro q;have:=(IE.1 q).1;omega)));clear IE bad YES CIf e0;go_wp2
          go_quiet (fail)
          go_wp2
          go_ret
          exact ⟨by rw [r.out];rfl,below_drewN A2.out nq⟩
        · have ke:decide (x<0)=false:=zdf e0
          by_cases e1:P<y
          · have kf:decide (P<y)=true:=zdt e1;have r:=bad (.inr (.inr (by rw [← Bool.not_eq_true,ip_iff];intro q;have:=(IE.1 q).2;omega)));clear IE bad YES CIf e0 e1;go_wp2
            go_quiet (fail)
            go_wp2
            go_ret
            exact ⟨by rw [r.out];rfl,below_drewN A2.out nq⟩
          · have kf:decide (P<y)=false:=zdf e1;have ipx:InP P L:=IE.2 ⟨by omega,by omega⟩;have CI:=CIf ipx;have r:=YES ipx;clear CIf YES IE bad ipx e0 e1;go_wp2
            go_quiet (fail)
            clear c0 d1 ke kf bl v0 v1 k1 k2 k3 km km' zi kz kz2;obtain ⟨o,ho⟩:∃ o,some (⟨b,off,none⟩:Addr)=o:=⟨_,rfl⟩;rw [ho] at HP T2 ⊢;clear ho;replace A2:=zh (below_drewN A2.out nq);replace HP:=zh (HP.out.keep (below_drewN (here w2) nq));replace T2:=zh (T2.out.keep (below_drewN (here w2) nq));clear t0 t1 tl;generalize w2.drewN nq=w2 at *;have t0:=T2.out.c0;have t1:=T2.out.c1;have tl:=T2.out.lt;have HC:Hid (∀ W,PairS ba W (.slice o n c) L→Calls Tryz.prog 166 #[.int .i64 P,.slice o n c] W fun e w'=>(∃ Q v' M,e=.returned (.tuple #[.int .i64 Q,v'])∧OwnS W.heap.size w' v' M∧CrV P (hsP P L) Q M∧M.length≤n+1)∧Below W.heap.size W w'):=fun W h=>(upcircle _ P L _ CI.out (by rw [hl.out];omega) P1 W h).mono (by rintro e w ⟨⟨Q,v,M,a,b,c,d⟩,hb⟩;exact ⟨⟨Q,v,M,a,b,c,by rw [hl.out] at d;exact d⟩,hb⟩);have HL:Hid (∀ Q (M:List Sp) v,CrV P (hsP P L) Q M→M.length≤100000→∀ B W,OwnS B W v M→Calls Tryz.prog 165 #[.int .i64 Q,v] W fun e w'=>e=.returned (.int .i64 (leF P (hsP P L)))∧Below W.heap.size W w'):=fun Q M v C ml B W h=>upleast v P Q M _ C (by omega) (CrV.same C P0) (by rcases C.len with ⟨a,-⟩ | ⟨a,-⟩ <;> omega) W h;generalize leF P (hsP P L)=D at *;go_wp2
            go_region_with (first | (go_at_call 166;(with_reducible refine (HC.out _ (by first | exact HP.out.keep (Below.drew (here _)) | exact HP.out)).mono ?_);rintro e w5 ⟨⟨Q,v5,M,rfl,O5,C5,m5⟩,hb⟩;have hB:=zh (down (Below.drew (here w2)) hb);have hT:=(T2.out.keep hB.out).c0;replace O5:=zh O5;replace C5:=zh C5;clear hb) | (go_at_call 165;(with_reducible refine (HL.out _ M _ C5.out (by omega) _ _ O5.out).mono ?_);rintro e w6 ⟨rfl,hb⟩;have hB6:=zd hB hb;have hT6:=(T2.out.keep hB6.out).c0;clear hb))
            all_goals go_wp2
            all_goals go_ret
            all_goals exact ⟨by rw [r.out];rfl,down A2.out hB6.out⟩
theorem cmodP (a b:Int) (ha:I64 a) (b0:0<b) (b1:b≤12622780800) (w:World) :
    Calls Tryz.prog 136 #[.int .i64 a,.int .i64 b] w fun e w'=>e=.returned (.int .i64 (a % b))∧∃ n,w'=w.drewN n:=by
  have h:=mod_all a b ha.1 ha.2 (by omega) (by omega) w;rw [dR_pos b0] at h;exact h
theorem cfloorP (a b:Int) (ha:I64 a) (b0:0<b) (b1:b≤12622780800) (w:World) :
    Calls Tryz.prog 196 #[.int .i64 a,.int .i64 b] w fun e w'=>e=.returned (.int .i64 (a / b))∧∃ n,w'=w.drewN n:=by
  have h:=floor_all a b ha.1 ha.2 (by omega) (by omega) w;rw [dQ_pos b0] at h;exact h
theorem pv_big {P:Int} {L:List Sp} (h:pvB P L=true):0<P∧P≤12622780800∧L.length≤2000:=by
 have p:=pv_iff.1 h;exact ⟨by have:=p.p0;omega,p.p1,p.len⟩
set_option maxRecDepth 100000 in
set_option maxHeartbeats 1000000 in
theorem upequal (va vb:Value) (P Q:Int) (A B:List Sp) (hA:A.length≤maxLen) (hP:I64 P) (hQ:I64 Q) {ba bb:Nat} (w:World) (a:PairS ba w va A) (b:PairS bb w vb B) :
    Calls Tryz.prog 114 #[.agg #[.int .i64 P,va],.agg #[.int .i64 Q,vb]] w fun e w'=>e=.returned (.bool (pvB P A&&decide (P=Q)&&(A==B)))∧Below w.heap.size w w':=by
  have s1:=size_two w (.cells #[.int .i64 P,va] 24);have A1:=zh (grow (grow (here w) (.cells #[.int .i64 P,va] 24)) (.cells #[.int .i64 Q,vb] 24));have TA:=zh (Two.fst (here ((w.alloc (.cells #[.int .i64 P,va] 24)).alloc (.cells #[.int .i64 Q,vb] 24))));have TB:=zh (Two.snd (here ((w.alloc (.cells #[.int .i64 P,va] 24)).alloc (.cells #[.int .i64 Q,vb] 24))));have a2:=zh (a.keep A1.out);have b2:=zh (b.keep A1.out);have HV:=zh (upvalid va P A hA hP _ a2.out);clear a b;obtain ⟨t0,t1,tl⟩:=TA.out;obtain ⟨u0,u1,ul⟩:=TB.out
  cases p:pvB P A
  · rw [p] at HV;rw [Bool.false_and,Bool.false_and];clear p s1
    go_enter Tryz.func114,Tryz.ntmps114
    go_wp2_with fail
    refine HV.out.mono ?_;rintro e w3 ⟨rfl,hb⟩;have A3:=zd A1 hb;clear hb A1 HV a2 b2;go_wp2
    go_ret
    exact ⟨rfl,A3.out⟩
  · rw [p] at HV;rw [Bool.true_and];have lA:=(pv_big p).2.2
    by_cases q:P=Q
    · have kq:(P==Q)=true:=by rw [beq_iff_eq];exact q
      rw [zdt q,Bool.true_and];have EQ:=zh (fun w3 (x:PairS ba w3 va A) (y:PairS bb w3 vb B)=>eq_pairs A B va vb (by omega) w3 x y);generalize (A==B)=R at *;clear p s1 q
      go_enter Tryz.func114,Tryz.ntmps114
      go_wp2_with fail
      refine HV.out.mono ?_;rintro e w3 ⟨rfl,hb⟩;have A3:=zd A1 hb;replace TA:=zh (TA.out.keep hb);replace TB:=zh (TB.out.keep hb);replace a2:=zh (a2.out.keep hb);replace b2:=zh (b2.out.keep hb);clear hb A1 HV t0 t1 tl u0 u1 ul;obtain ⟨t0,t1,tl⟩:=TA.out;obtain ⟨u0,u1,ul⟩:=TB.out;go_wp2_with fail
      refine (EQ.out _ a2.out b2.out).mono ?_;rintro e w4 ⟨rfl,n,rfl⟩;have A4:=zh (below_drewN A3.out n);clear A3 EQ a2 b2;go_wp2
      go_ret
      exact ⟨rfl,A4.out⟩
    · have kq:(P==Q)=false:=by rw [beq_eq_false_iff_ne];exact q
      rw [zdf q,Bool.false_and];clear p s1 q
      go_enter Tryz.func114,Tryz.ntmps114
      go_wp2_with fail
      refine HV.out.mono ?_;rintro e w3 ⟨rfl,hb⟩;have A3:=zd A1 hb;replace TA:=zh (TA.out.keep hb);replace TB:=zh (TB.out.keep hb);clear hb A1 HV t0 t1 tl u0 u1 ul a2 b2;obtain ⟨t0,t1,tl⟩:=TA.out;obtain ⟨u0,u1,ul⟩:=TB.out;go_wp2
      go_ret
      exact ⟨rfl,A3.out⟩
def pwE (P:Int) (M:List Sp) (s:Int) (i:Nat):Int:=if i=0 then s+(M.getD (M.length - 1) (0,0)).2 - P else s+(M.getD (i - 1) (0,0)).2
theorem lst_step {P:Int} {f:Int→Bool} {M:List Sp} (h:Crc P f M) {x y s k:Int} (hs:s=P * k) {i:Nat} (hi:i<M.length) :
    caL f x (clZ y (pwE P M s (i+1)))=if (if x<s+(M.getD i (0,0)).1 then s+(M.getD i (0,0)).1 else x)<(if s+(M.getD i (0,0)).2<y then s+(M.getD i (0,0)).2 else y) then caL f x (clZ y (pwE P M s i))++[((if x<s+(M.getD i (0,0)).1 then s+(M.getD i (0,0)).1 else x),(if s+(M.getD i (0,0)).2<y then s+(M.getD i (0,0)).2 else y))] else caL f x (clZ y (pwE P M s i)):=by
  have e:pwE P M s (i+1)=s+(M.getD i (0,0)).2:=by unfold pwE;rw [if_neg (by omega),Nat.add_sub_cancel]
  rw [e];have lt:=h.cn.lt _ (getD_mem hi);have ne:=h.ne;refine win_step (u:=s+(M.getD i (0,0)).1) (v:=s+(M.getD i (0,0)).2) (e:=pwE P M s i) ?_ (by omega) (fun z z0 z1=>?_) (fun z z0 z1=>h.yes hs hi z0 z1)
  · unfold pwE
    split
    · rename_i q;subst q
      have:=h.hi _ (getD_mem (show M.length - 1<M.length by omega));omega
    · rename_i q
      have:=cn_gt h.cn (show i - 1<i by omega) hi;omega
  · unfold pwE at z0
    split at z0
    · rename_i q;subst q
      exact h.last (s:=s - P) (k:=k - 1) (by rw [hs,Int.mul_sub,Int.mul_one]) (by omega) (by omega)
    · rename_i q
      have hi':i - 1+1<M.length:=by omega
      have e:i - 1+1=i:=by omega
      exact h.no hs (i:=i - 1) hi' z0 (by rw [e];exact z1)
theorem lst_next (P:Int) (M:List Sp) (ne:0<M.length) (s:Int):pwE P M s M.length=pwE P M (s+P) 0:=by
 unfold pwE
 rw [if_neg (by omega),if_pos rfl];omega
theorem lst_start {P:Int} {f:Int→Bool} {M:List Sp} (h:Crc P f M) {x y:Int}:caL f x (clZ y (pwE P M ((x / P - 1) * P) 0))=[]:=by
 refine ca_none f ?_;have ne:=h.ne;have P0:=h.P0;have a:=h.hi _ (getD_mem (show M.length - 1<M.length by omega));have o:=h.o0;have d:=Int.emod_add_mul_ediv x P;have m0:=Int.emod_nonneg x (show P≠0 by omega);have e:(x / P - 1) * P=P * (x / P) - P:=by rw [Int.sub_mul,Int.one_mul,Int.mul_comm]
 have:pwE P M ((x / P - 1) * P) 0≤x:=by unfold pwE;rw [if_pos rfl,e];omega
 unfold clZ
 split <;> omega
theorem lst_end {P:Int} {f:Int→Bool} {M:List Sp} (h:Crc P f M) {x y s k:Int} (hs:s=P * k) (ys:y≤s):caL f x (clZ y (pwE P M s 0))=caL f x y:=by
 unfold clZ
 split
 ·rfl
 ·rename_i q
  refine ca_skip (by omega) fun z z0 z1=>?_;have ne:=h.ne;have o:=h.o0
  unfold pwE at z0
  rw [if_pos rfl] at z0;exact h.last (s:=s - P) (k:=k - 1) (by rw [hs,Int.mul_sub,Int.mul_one]) (by omega) (by omega)
theorem lst_long {f:Int→Bool} {x y e:Int}:(caL f x (clZ y e)).length≤(caL f x y).length:=by
 refine len_mono' f ?_
 unfold clZ;split <;> omega
def LsD (f:Int→Bool) (x y:Int) (R:List Sp):Prop:=R=caL f x y∨(2000<R.length∧2000<(caL f x y).length)
set_option maxRecDepth 100000 in
set_option maxHeartbeats 2000000 in
theorem uplisted (va:Value) (P:Int) (A:List Sp) (pv:PV P A) (x y:Int) (sp:spB (x,y)=true) {ba:Nat} (w:World) (a:PairS ba w va A) :
    Calls Tryz.prog 174 #[.agg #[.int .i64 P,va],.agg #[.int .i64 x,.int .i64 y]] w fun e w'=>(∃ v' R,e=.returned v'∧PairS w.heap.size w' v' R∧R.length≤100000∧LsD (hsP P A) x y R)∧Below w.heap.size w w':=by
  obtain ⟨i0,hi,hz0,hz1,hz2⟩:=info_parts infoS;obtain ⟨x0,y1,xy⟩:=spB_iff.1 sp;replace x0:-4398046511104≤x:=x0;replace y1:y≤4398046511104:=y1;replace xy:x<y:=xy;have P0:0<P:=by have:=pv.p0;omega
  have P1:=pv.p1;have lA:=pv.len;have s1:=size_two w (.cells #[.int .i64 P,va] 24);have A1:=zh (grow (grow (here w) (.cells #[.int .i64 P,va] 24)) (.cells #[.int .i64 x,.int .i64 y] 40));have TA:=zh (Two.fst (here ((w.alloc (.cells #[.int .i64 P,va] 24)).alloc (.cells #[.int .i64 x,.int .i64 y] 40))));have TB:=zh (Two.snd (here ((w.alloc (.cells #[.int .i64 P,va] 24)).alloc (.cells #[.int .i64 x,.int .i64 y] 40))));have a2:=zh (a.keep A1.out);have HC:=zh (upcircle va P A _ (cir_in P0 pv.cn pv.ip) (by omega) P1 _ a2.out);have HF:=zh (fun Q (Q0:0<Q) (Q1:Q≤12622780800) W=>cfloorP x Q (by unfold I64;omega) Q0 Q1 W);clear a pv sp;generalize hsP P A=f at *;obtain ⟨t0,t1,tl⟩:=TA.out;obtain ⟨u0,u1,ul⟩:=TB.out
  go_enter Tryz.func174,Tryz.ntmps174
  go_wp2_with fail
  refine HC.out.mono ?_;rintro e w3 ⟨⟨Q,v3,M,rfl,O3,C3,ml⟩,hb⟩;have A3:=zd A1 hb;replace TB:=zh (TB.out.keep hb);clear hb A1 HC a2 TA t0 t1 tl u0 u1 ul s1;obtain ⟨u0,u1,ul⟩:=TB.out;obtain ⟨o3,c3,rfl,cp3,-⟩:=O3.sh;obtain ⟨n,hn⟩:∃ n,M.length=n:=⟨_,rfl⟩;have nb:n≤2001:=by omega
  rw [hn] at O3 cp3 ⊢
  rcases C3 with ⟨rfl,rfl,fa⟩ | ⟨rfl,rfl,fa⟩ | ⟨rfl,C⟩
  · obtain rfl:n=0:=hn.symm;have r:Hid (LsD f x y []):=.inl (by rw [← ca_skip (f:=f) (a:=x) (e:=x) (b:=y) (by omega) (fun z _ _=>fa z),ca_none f (Int.le_refl x)]);clear O3 ml hn fa;go_wp2
    go_ret
    exact ⟨⟨_,[],rfl,Sl.none _ _,by simp,r.out⟩,A3.out⟩
  · obtain rfl:n=1:=hn.symm;have r:Hid (LsD f x y [(x,y)]):=.inl (by rw [ca_tight (fun z _ _=>fa z) xy]);obtain ⟨b,off,rfl,cl,bB,bl,cs,-⟩:=O3.at (by omega);obtain ⟨c0,c1⟩:=cs 0 (by simp);rw [Nat.zero_mul,Nat.add_zero] at c0 c1;replace c0:w3.cell? ⟨b,off,none⟩=some (.int .i64 0):=c0;replace c1:w3.cell? ⟨b,off+1,none⟩=some (.int .i64 1):=c1;have HL:=zh (fun W=>rilen 0 1 (by decide) W);clear O3 ml hn fa cs;go_wp2_with fail
    refine (HL.out _).mono ?_;rintro e w4 ⟨rfl,hb⟩;have A4:=zd A3 hb;replace TB:=zh (TB.out.keep hb);clear hb A3 u0 u1 ul c0 c1;obtain ⟨u0,u1,ul⟩:=TB.out;go_wp2
    go_ret
    refine ⟨⟨_,[(x,y)],rfl,.inr ⟨w4.heap.size,0,1,rfl,A4.out.size,?_⟩,by simp,r.out⟩,grow A4.out _⟩;exact lies_pairs (by simp) (fun j hj=>by
      obtain rfl:j=0:=by simp at hj;omega
      exact ⟨by rw [World.cell?_alloc_new];rfl,by rw [World.cell?_alloc_new];rfl⟩)
  · have ne:=C.ne;obtain ⟨b,off,rfl,cl,bB,bl,cs,-⟩:=O3.at (by omega);obtain ⟨c0,c1⟩:=cs 0 ne;rw [Nat.zero_mul,Nat.add_zero] at c0 c1;have lo:=C.lo _ (getD_mem ne);have hi0:=C.hi _ (getD_mem ne);have lt:=C.cn.lt _ (getD_mem ne);have BD:Hid (∀ i,i<n→0≤(M.getD i (0,0)).1∧(M.getD i (0,0)).1<Q∧0≤(M.getD i (0,0)).2∧(M.getD i (0,0)).2≤2 * Q):=fun i hi=>by
      have hm:i<M.length:=by omega
      have a:=C.lo _ (getD_mem hm);have b:=C.hi _ (getD_mem hm);have c:=C.cn.lt _ (getD_mem hm);omega
    have STEP:Hid (∀ (s k:Int) (i:Nat),s=Q * k→i<n→caL f x (clZ y (pwE Q M s (i+1)))=if (if x<s+(M.getD i (0,0)).1 then s+(M.getD i (0,0)).1 else x)<(if s+(M.getD i (0,0)).2<y then s+(M.getD i (0,0)).2 else y) then caL f x (clZ y (pwE Q M s i))++[((if x<s+(M.getD i (0,0)).1 then s+(M.getD i (0,0)).1 else x),(if s+(M.getD i (0,0)).2<y then s+(M.getD i (0,0)).2 else y))] else caL f x (clZ y (pwE Q M s i))):=fun s k i hs hi=>lst_step C hs (by omega);have NEXT:Hid (∀ s,pwE Q M s n=pwE Q M (s+Q) 0):=fun s=>by rw [← hn];exact lst_next Q M ne s
    have START:Hid (caL f x (clZ y (pwE Q M ((x / Q - 1) * Q) 0))=[]):=lst_start C;have END:Hid (∀ s k,s=Q * k→y≤s→caL f x (clZ y (pwE Q M s 0))=caL f x y):=fun s k hs ys=>lst_end C hs ys;have d:=Int.emod_add_mul_ediv x Q;have m0:=Int.emod_nonneg x (show Q≠0 by omega);have m1:=Int.emod_lt_of_pos x P0;have hst:(x / Q - 1) * Q=Q * (x / Q - 1):=Int.mul_comm _ _;have hst2:Q * (x / Q - 1)=Q * (x / Q) - Q:=by rw [Int.mul_sub,Int.mul_one]
    have fl0:-4398046511105≤x / Q:=by
      have:=Int.ediv_le_ediv P0 (show -4398046511104≤x by omega);have h2:-4398046511104≤-4398046511104 / Q:=by
        rcases Int.lt_or_le (-4398046511104 / Q) (-4398046511104) with z | z
        · have q1:=Int.emod_add_mul_ediv (-4398046511104) Q;have q2:=Int.emod_lt_of_pos (-4398046511104) P0;have q3:Q * (-4398046511104 / Q)≤Q * (-4398046511105):=Int.mul_le_mul_of_nonneg_left (by omega) (by omega);have q4:Q * (-4398046511105)≤-4398046511105 - Q+1:=by
            have:0≤(Q - 1) * 4398046511104:=Int.mul_nonneg (by omega) (by omega);omega
          omega
        · exact z
      omega
    have fl1:x / Q≤4398046511104:=by
      rcases Int.lt_or_le x 0 with z | z
      · have:x / Q<0:=Int.ediv_neg_of_neg_of_pos z P0;omega
      · have:=Int.ediv_le_self Q z;omega
    have g:=HF.out Q P0 P1;replace g:=zh g;have HL:=zh (fun W=>rilen (M.getD 0 (0,0)).1 (M.getD 0 (0,0)).2 (spB_iff.2 ⟨by omega,by omega,lt⟩) W);have neq:((M.getD 0 (0,0)).2 - (M.getD 0 (0,0)).1==Q)=false:=by rw [beq_eq_false_iff_ne];omega
    replace hn:=zh hn;have n0:0<n:=by rw [← hn.out];exact ne
    have zn:((n:Int)==0)=false:=by rw [beq_eq_false_iff_ne];omega
    have zi:(0:Int)<(n:Int):=by omega
    replace O3:=zh O3;clear C cs HF ml ne hi0 lo lt;generalize (M.getD 0 (0,0)).1=p0 at *;generalize (M.getD 0 (0,0)).2=p1 at *;go_wp2_with fail
    refine (HL.out _).mono ?_;rintro e w4 ⟨rfl,hb⟩;have A4:=zd A3 hb;replace TB:=zh (TB.out.keep hb);replace O3:=zh (O3.out.keep hb);clear hb A3 u0 u1 ul c0 c1 bl bB HL;obtain ⟨u0,u1,ul⟩:=TB.out;go_wp2_with fail
    refine (g.out _).mono ?_;rintro e w5 ⟨rfl,q,hw5⟩;replace A4:Hid (Below w.heap.size w w5):=by show Below _ _ _;rw [hw5];exact below_drewN A4.out q
    replace TB:Hid (Two w5 (w.heap.size+1) (.int .i64 x) (.int .i64 y)):=by show Two _ _ _ _;rw [hw5];exact TB.out.drewN q
    replace O3:=zh (O3.out.keep (below_drewN (here w4) q));rw [← hw5] at O3;clear hw5 u0 u1 ul;obtain ⟨u0,u1,ul⟩:=TB.out;have st0:(x / Q - 1) * Q≤x:=by omega
    have st1:x - 2 * Q≤(x / Q - 1) * Q:=by omega
    have I5:Hid (w5.ownsRow w5.heap.size 40 2 (.slice none 0 0) 0 (pairs (caL f x (clZ y (pwE Q M ((x / Q - 1) * Q) 0))))∧(caL f x (clZ y (pwE Q M ((x / Q - 1) * Q) 0))).length=0):=by
      show _∧_
      rw [START.out];exact ⟨World.ownsRow_nil _ _ _ _,rfl⟩
    have L5:Hid (Below w5.heap.size w5 w5):=here w5;have A3k:Hid (∀ {W},Below w5.heap.size w5 W→Below w5.heap.size w5 W):=fun h=>h;have TB5:=TB;have stk:Hid ((x / Q - 1) * Q=Q * (x / Q - 1)):=hst;have s5:=A4.out.size;clear hst hst2 d m0 m1 START g;generalize x / Q=F at *;obtain ⟨G,hG⟩:∃ G,F - 1=G:=⟨_,rfl⟩;rw [hG] at st0 st1 stk I5;obtain ⟨st,hS⟩:∃ st,G * Q=st:=⟨_,rfl⟩;rw [hS] at st0 st1 stk I5;go_wp2
    go_loopw [7,8] (fun s i wr=>∃ (t k:Int) (r:Nat) (s':Value),s'=s∧i=.int .i64 t∧st≤t∧t≤4410669291904∧r≤4001∧Hid (t=Q * k)∧Hid (wr.ownsRow w5.heap.size 40 2 s r (pairs (caL f x (clZ y (pwE Q M t 0))))∧(caL f x (clZ y (pwE Q M t 0))).length=r)∧Hid (Below w5.heap.size w5 wr)) (fun _ i _=>(y - intOf i).toNat)
    case atStart=>exact ⟨st,G,0,_,rfl,rfl,Int.le_refl _,by omega,by omega,stk,I5,L5⟩
    case round =>
      obtain ⟨t,k,r,s',rfl,rfl,t0,t1,r0,HK,HO,HL⟩:=hrel;clear I5 L5 stk hS hG neq zn zi u0 u1 ul;replace TB:=zh (TB.out.keep HL.out);obtain ⟨u0,u1,ul⟩:=TB.out;obtain ⟨os,cs',rfl⟩:=(Sl.owns HO.out.1).shape
      by_cases ty:t<y
      · have kt:decide (t<y)=true:=zdt ty
        by_cases rb:r≤2000
        · have kr:decide ((r:Int)≤2000)=true:=zdt (by omega);have kr2:decide (r≤2000)=true:=zdt rb;obtain ⟨sv,hsv⟩:∃ sv,Value.slice os r cs'=sv:=⟨_,rfl⟩;rw [hsv] at HO;replace hsv:=zh hsv;go_wp2
          rw [hsv.out]
          go_loopw [7,55] (fun s i wx=>∃ (j r2:Nat) (s':Value),s'=s∧j≤n∧i=.int .i64 j∧r2≤r+j∧Hid (wx.ownsRow w5.heap.size 40 2 s r2 (pairs (caL f x (clZ y (pwE Q M t j))))∧(caL f x (clZ y (pwE Q M t j))).length=r2)∧Hid (Below w5.heap.size w5 wx)) (fun _ i _=>n - (intOf i).toNat)
          case atStart=>exact ⟨0,r,_,rfl,Nat.zero_le _,rfl,Nat.le_refl _,HO,HL⟩
          case round =>
            clear HO HL TB u0 u1 ul;obtain ⟨j,r2,s',rfl,hj,rfl,r20,HO,HL⟩:=hrel
            by_cases z:j<n
            · have kz:decide ((j:Int)<(n:Int))=true:=zdt (by omega);have HP:=zh (O3.out.prs.keep (A3k.out HL.out));obtain ⟨b1,off1,e1,bl,cs⟩:=prs_here HP.out (show j<M.length by rw [hn.out];exact z)
              injection e1 with e1;injection e1 with e1 e2
              subst e1;subst e2;obtain ⟨c0,c1⟩:=cs j (by rw [hn.out];exact z);have bd:=BD.out j z;have stp:=STEP.out t k j HK.out z;obtain ⟨j1,hj1⟩:∃ j1,j+1=j1:=⟨_,rfl⟩;rw [hj1] at stp;clear cs HP;generalize M.getD j (0,0)=p at *;obtain ⟨gx,gy⟩:=p;replace c0:wr.cell? ⟨b,off+j * 2,none⟩=some (.int .i64 gx):=c0;replace c1:wr.cell? ⟨b,off+j * 2+1,none⟩=some (.int .i64 gy):=c1;replace bd:0≤gx∧gx<Q∧0≤gy∧gy≤2 * Q:=bd;obtain ⟨ux,hux⟩:∃ ux,t+gx=ux:=⟨_,rfl⟩;obtain ⟨vy,hvy⟩:∃ vy,t+gy=vy:=⟨_,rfl⟩;obtain ⟨U,hU⟩:∃ U,(if x<ux then ux else x)=U:=⟨_,rfl⟩;obtain ⟨V,hV⟩:∃ V,(if vy<y then vy else y)=V:=⟨_,rfl⟩;have hU2:max x ux=U:=by rw [← hU];split <;> omega
              have hV2:min y vy=V:=by rw [← hV];split <;> omega
              replace stp:caL f x (clZ y (pwE Q M t j1))=if (if x<t+gx then t+gx else x)<(if t+gy<y then t+gy else y) then caL f x (clZ y (pwE Q M t j))++[((if x<t+gx then t+gx else x),(if t+gy<y then t+gy else y))] else caL f x (clZ y (pwE Q M t j)):=stp;rw [hux,hvy,hU,hV] at stp;have bU:-4398046511104≤U∧U≤4500000000000:=by rw [← hU];split <;> omega
              have bV:-4500000000000≤V∧V≤4398046511104:=by rw [← hV];split <;> omega
              generalize caL f x (clZ y (pwE Q M t j))=RR at *;replace TB:=zh ((TB5.out.keep HL.out).old (.cells #[.int .i64 gx,.int .i64 gy] 40));obtain ⟨u0,u1,ul⟩:=TB.out;obtain ⟨x0',x1',xl⟩:=Two.new (here (wr.alloc (.cells #[.int .i64 gx,.int .i64 gy] 40)));have L6:=zh (grow HL.out (.cells #[.int .i64 gx,.int .i64 gy] 40));have O6:=zh (HO.out.1.alloc (.cells #[.int .i64 gx,.int .i64 gy] 40));have ln:=HO.out.2;go_wp2
              go_region
              obtain ⟨w6,hw6⟩:∃ w6:World,(wr.alloc (.cells #[.int .i64 gx,.int .i64 gy] 40)).drew=w6:=⟨_,rfl⟩;rw [hw6];replace L6:Hid (Below w5.heap.size w5 w6):=by show Below _ _ _;rw [← hw6];exact L6.out.drew
              replace O6:Hid (w6.ownsRow w5.heap.size 40 2 s' r2 (pairs RR)):=by show World.ownsRow _ _ _ _ _ _ _;rw [← hw6];exact O6.out
              replace ln:=zh ln;clear hw6 x0' x1' xl u0 u1 ul TB HO HL c0 c1 bl hU hV hU2 hV2 hux hvy bd
              by_cases uv:U<V
              · have kuv:decide (U<V)=true:=zdt uv;rw [if_pos uv] at stp;replace stp:=zh stp;have X1:=zh (O6.out.alloc (.cells #[.int .i64 U,.int .i64 V] 40));have X2:Hid (∀ (j:Nat) (u:Value),[Value.int .i64 U,.int .i64 V][j]?=some u→(w6.alloc (.cells #[.int .i64 U,.int .i64 V] 40)).cell? ((⟨w6.heap.size,0,none⟩:Addr).add j)=some u):=fun j u hj=>by rw [Addr.add_lit,Nat.zero_add,World.cell?_alloc_new];simpa using hj
                have X3:Hid (∀ u∈[Value.int .i64 U,.int .i64 V],u.oneCell'=true):=fun u hu=>by simp at hu;rcases hu with rfl | rfl <;> rfl
                have X5:Hid (r2+1≤maxLen):=by show _≤_;unfold maxLen;omega
                have X6:Hid ((r2+1) * 16≤140737488355328):=by show _≤_;omega
                have X4:Hid (w5.heap.size≤(w6.alloc (.cells #[.int .i64 U,.int .i64 V] 40)).heap.size):=by show _≤_;have:=L6.out.size;simp;omega
                have grow6:=zh (grow L6.out (.cells #[.int .i64 U,.int .i64 V] 40));clear L6 O6 uv;go_wp2_with (at_builtin;refine wpList_append_own _ rfl _ _ 22 rfl w5.heap.size 40 i0 (.agg #[.int .i64 0,.int .i64 0]) 2 16 Tryz.underlying22 hi hz0 hz1 hz2 rfl (by decide) s' r2 (pairs RR) rfl X1.out ⟨w6.heap.size,0,none⟩ 1 1 [.int .i64 U,.int .i64 V] rfl rfl X2.out X3.out X5.out X6.out X4.out ?_)
                intro v7 w7 hown hgrow _;have A7:Hid (Below w5.heap.size w5 w7):=grow6.out.grown hgrow X4.out (own_ge X1.out);have O7:Hid (w7.ownsRow w5.heap.size 40 2 v7 (r2+1) (pairs (caL f x (clZ y (pwE Q M t j1))))∧(caL f x (clZ y (pwE Q M t j1))).length=r2+1):=by
                  show _∧_
                  rw [stp.out];exact ⟨by rw [pairs_append];exact hown,by rw [List.length_append,ln.out];rfl⟩
                clear hown hgrow X1 X2 X3 X4 X5 X6 grow6 stp ln;go_wp2
                go_roundw
                case rel=>exact ⟨j1,r2+1,_,rfl,by omega,by first | rfl | (congr 1;omega) | go_num,by omega,O7,A7⟩
                case measure=>simp [intOf];omega
              · have kuv:decide (U<V)=false:=zdf uv;rw [if_neg uv] at stp;have O7:Hid (w6.ownsRow w5.heap.size 40 2 s' r2 (pairs (caL f x (clZ y (pwE Q M t j1))))∧(caL f x (clZ y (pwE Q M t j1))).length=r2):=by
                  show _∧_
                  rw [stp];exact ⟨O6.out,ln.out⟩
                clear O6 stp ln uv;go_wp2
                go_roundw
                case rel=>exact ⟨j1,r2,_,rfl,by omega,by first | rfl | (congr 1;omega) | go_num,by omega,O7,L6⟩
                case measure=>simp [intOf];omega
            · have kz:decide ((j:Int)<(n:Int))=false:=zdf (by omega);obtain rfl:j=n:=by omega
              rw [NEXT.out] at HO;have HK2:Hid (t+Q=Q * (k+1)):=by show _=_;rw [HK.out,Int.mul_add,Int.mul_one]
              go_wp2
              go_roundw
              case rel=>exact ⟨t+Q,k+1,r2,_,rfl,rfl,by omega,by omega,by omega,HK2,HO,HL⟩
              case measure=>simp [intOf];omega
        · have kr:decide ((r:Int)≤2000)=false:=zdf (by omega);have kr2:decide (r≤2000)=false:=zdf rb;have rr:Hid (LsD f x y (caL f x (clZ y (pwE Q M t 0)))):=.inr ⟨by rw [HO.out.2];omega,by have:=lst_long (f:=f) (x:=x) (y:=y) (e:=pwE Q M t 0);have e:=HO.out.2;omega⟩;have PR:Hid (PairS w.heap.size wr (.slice os r cs') (caL f x (clZ y (pwE Q M t 0)))):=by show Sl _ _ _ _ _;rw [HO.out.2];exact Sl.owns (own_weak HO.out.1 s5)
          have A9:=zh (A4.out.trans (HL.out.mono s5));have ln:=HO.out.2;go_wp2
          go_ret
          have lb:Hid ((caL f x (clZ y (pwE Q M t 0))).length≤100000):=by show _≤_;omega
          first | exact ⟨⟨_,_,rfl,PR.out,lb.out,rr.out⟩,A9.out⟩ | exact ⟨⟨_,rfl,_,PR.out,lb.out,rr.out⟩,A9.out⟩
      · have kt:decide (t<y)=false:=zdf ty;have e:=END.out t k HK.out (by omega);have rr:Hid (LsD f x y (caL f x (clZ y (pwE Q M t 0)))):=.inl e;have PR:Hid (PairS w.heap.size wr (.slice os r cs') (caL f x (clZ y (pwE Q M t 0)))):=by show Sl _ _ _ _ _;rw [HO.out.2];exact Sl.owns (own_weak HO.out.1 s5)
        have A9:=zh (A4.out.trans (HL.out.mono s5));have lb:Hid ((caL f x (clZ y (pwE Q M t 0))).length≤100000):=by show _≤_;rw [HO.out.2];omega
        clear e HO;go_wp2
        go_ret
        first | exact ⟨⟨_,_,rfl,PR.out,lb.out,rr.out⟩,A9.out⟩ | exact ⟨⟨_,rfl,_,PR.out,lb.out,rr.out⟩,A9.out⟩
end Go.Proofs.YtmamlgaogpkagaaGreat
