/- PeKL PeKMa PeKN TsSb TsJa TsUd TsCd. -/
import Derived.Test.YtmamlgaogpkagaaGreatQLPlain
import Derived.Test.YtmamlgaogpkagaaGreatQLIvMa
import Derived.Test.YtmamlgaogpkagaaGreatQLGen
import Derived.Test.YtmamlgaogpkagaaGreatQLSl
import Derived.Test.YtmamlgaogpkagaaGreatQRnV
import Derived.Test.YtmamlgaogpkagaaGreatQRnKA
import Derived.Test.YtmamlgaogpkagaaGreatQRnKD
import Derived.Test.YtmamlgaogpkagaaGreatQRnKF
import Derived.Test.YtmamlgaogpkagaaGreatQPeKAa
import Derived.Test.YtmamlgaogpkagaaGreatQPeKD
import Derived.Test.YtmamlgaogpkagaaGreatQRnKHd
import Derived.Test.YtmamlgaogpkagaaGreatQPeKJ
import Derived.Test.YtmamlgaogpkagaaGreatQPeKKb
import Derived.Test.YtmamlgaogpkagaaGreatQTsGa
import Derived.Deep.RegionHeld3
namespace Go.Proofs.YtmamlgaogpkagaaGreat
open Go.RowKit
set_option linter.unusedVariables false
set_option linter.unusedSimpArgs false
noncomputable def ofR (P:Int) (L:List Sp):(Int × List Sp) × Int:=if decide (1≤P)&&decide (P≤12622780800)&&spsB L then (if 2000<L.length then ((0,[]),5) else pfR P (ofB P L)) else ((0,[]),1)
set_option maxRecDepth 100000 in
set_option maxHeartbeats 2000000 in
theorem upclosure (x y:Int) (w:World) :
    Calls Tryz.prog 168 #[.agg #[.int .i64 x,.int .i64 y]] w fun e w'=>e=.returned (.bool (!spB (x,y)))∧Below w.heap.size w w':=by
  have HI:=zh (riv x y);generalize spB (x,y)=b at *
  go_enter Tryz.func168,Tryz.ntmps168
  go_wp2_with (go_at_call 75;refine (HI.out _).mono ?_;rintro e w1 ⟨rfl,hb⟩;replace hb:=zh hb)
  go_ret
  exact ⟨rfl,down (grow (here w) _) hb.out⟩
set_option maxRecDepth 100000 in
set_option maxHeartbeats 2000000 in
theorem upindex (v:Value) (A:List Sp) (hA:A.length≤maxLen) {ba:Nat} (w:World) (a:PairS ba w v A) :
    Calls Tryz.prog 193 #[v,.func (.func 168) #[] #[]] w fun e w'=>(∃ i:Int,e=.returned (.int .i64 i)∧decide (0≤i)=!spsB A)∧Below w.heap.size w w':=by
  unfold maxLen at hA
  obtain ⟨o,c,rfl⟩:=prs_shape a;have PL:=zh a;have A0:Hid (Below w.heap.size w w):=here w;have no:Hid (∀ j,j<A.length→spB (A.getD j (0,0))=false→spsB A=false):=fun j hj e=>by
    rw [← Bool.not_eq_true];intro q;rw [spsB_at.1 q j hj] at e;cases e
  have yes:Hid ((∀ j,j<A.length→spB (A.getD j (0,0))=true)→spsB A=true):=fun h=>spsB_at.2 h;clear a;obtain ⟨n,hl⟩:∃ n,A.length=n:=⟨_,rfl⟩;rw [hl] at hA no yes PL ⊢;generalize spsB A=SB at *
  go_enter Tryz.func193,Tryz.ntmps193
  go_wp2
  go_loopw [8] (fun i wr=>∃ k:Nat,k≤n∧i=.int .i64 k∧Hid (∀ j,j<k→spB (A.getD j (0,0))=true)∧Hid (Below w.heap.size w wr)) (fun i _=>n - (intOf i).toNat)
  case atStart=>exact ⟨0,Nat.zero_le _,rfl,fun j hj=>absurd hj (Nat.not_lt_zero _),A0⟩
  case round =>
    obtain ⟨k,hk,rfl,HU,HA⟩:=hrel;have HP:=zh (PL.out.keep HA.out);clear A0
    by_cases z:k<n
    · have kz:decide ((k:Int)<(n:Int))=true:=zdt (by omega);obtain ⟨b,off,rfl,bl,cs⟩:=prs_here HP.out (show k<A.length by omega);obtain ⟨c0,c1⟩:=cs k (by omega);have HS:=zh (fun w=>upclosure (A.getD k (0,0)).1 (A.getD k (0,0)).2 w);have ev:((A.getD k (0,0)).1,(A.getD k (0,0)).2)=A.getD k (0,0):=rfl;rw [ev] at HS;clear cs ev yes;obtain ⟨u,hu⟩:∃ u,spB (A.getD k (0,0))=u:=⟨_,rfl⟩;rw [hu] at HS;have r0:=no.out k z;have HU2:u=true→Hid (∀ j,j<k+1→spB (A.getD j (0,0))=true):=fun e j hj=>by
        rcases Nat.lt_or_ge j k with y | y
        · exact HU.out j y
        · obtain rfl:j=k:=by omega
          rw [hu,e]
      rw [hu] at r0;clear hu no HU;generalize A.getD k (0,0)=q at *;obtain ⟨x,y⟩:=q;replace HS:Hid (∀ w,Calls Tryz.prog 168 #[.agg #[.int .i64 x,.int .i64 y]] w fun e w'=>e=.returned (.bool (!u))∧Below w.heap.size w w'):=HS;replace c0:wr.cell? ⟨b,off+k * 2,none⟩=some (.int .i64 x):=c0;replace c1:wr.cell? ⟨b,off+k * 2+1,none⟩=some (.int .i64 y):=c1
      cases u
      · have r2:=zh (r0 rfl);clear r0 HU2;replace HS:Hid (∀ w,Calls Tryz.prog 168 #[.agg #[.int .i64 x,.int .i64 y]] w fun e w'=>e=.returned (.bool true)∧Below w.heap.size w w'):=HS;go_wp2_with (go_at_call 168;refine (HS.out _).mono ?_;rintro e w1 ⟨rfl,hb⟩;have A1:=zd HA hb;clear hb)
        go_ret
        refine ⟨⟨_,rfl,?_⟩,A1.out⟩;rw [r2.out];exact zdt (by omega)
      · have HU3:=HU2 rfl;clear r0 HU2;replace HS:Hid (∀ w,Calls Tryz.prog 168 #[.agg #[.int .i64 x,.int .i64 y]] w fun e w'=>e=.returned (.bool false)∧Below w.heap.size w w'):=HS;go_wp2_with (go_at_call 168;refine (HS.out _).mono ?_;rintro e w1 ⟨rfl,hb⟩;have A1:=zd HA hb;clear hb)
        go_roundw
        case rel=>exact ⟨k+1,by omega,by go_num,HU3,A1⟩
        case measure=>simp [intOf];omega
    · have kz:decide ((k:Int)<(n:Int))=false:=zdf (by omega);obtain rfl:k=n:=by omega
      have r2:=zh (yes.out HU.out);clear yes no HU z;go_wp2
      go_ret
      exact ⟨⟨_,rfl,by rw [r2.out];rfl⟩,HA.out⟩
set_option maxRecDepth 100000 in
set_option maxHeartbeats 2000000 in
theorem upcontains (v:Value) (A:List Sp) (hA:A.length≤maxLen) {ba:Nat} (w:World) (a:PairS ba w v A) :
    Calls Tryz.prog 169 #[v,.func (.func 168) #[] #[]] w fun e w'=>e=.returned (.bool (!spsB A))∧Below w.heap.size w w':=by
  have HI:=zh (upindex v A hA w a);generalize spsB A=b at *;clear a hA
  go_enter Tryz.func169,Tryz.ntmps169
  go_wp2_with fail
  refine HI.out.mono ?_;rintro e w1 ⟨⟨i,rfl,hi⟩,hb⟩;replace hb:=zh hb;obtain ⟨t,ht⟩:∃ t,(!b)=t:=⟨_,rfl⟩;rw [ht] at hi;replace ht:=zh ht;go_wp2
  go_ret
  exact ⟨by rw [ht.out];rfl,hb.out⟩
theorem made_pairs (n:Nat):(madeCells #[Value.int .i64 0,.int .i64 0] (n * 2)).toList=pairs (List.replicate n (0,0)):=by
 apply List.ext_getElem?
 intro j
 unfold madeCells
 have pl:(pairs (List.replicate n (0,0))).length=n * 2:=by rw [pairs_length,List.length_replicate]
 by_cases z:j<n * 2
 ·have r:(pairs (List.replicate n (0,0)))[j]?=some (.int .i64 0):=by
   have hi:j / 2<(List.replicate n ((0:Int),(0:Int))).length:=by rw [List.length_replicate];omega
   have g:=pairs_get (List.replicate n (0,0)) (j / 2) hi;have e:(List.replicate n ((0:Int),(0:Int))).getD (j / 2) (0,0)=(0,0):=by rw [gD hi,List.getElem_replicate]
   rw [e] at g
   rcases Nat.mod_two_eq_zero_or_one j with q | q
   ·rw [show j=2 * (j / 2) by omega];exact g.1
   ·rw [show j=2 * (j / 2)+1 by omega];exact g.2
  rw [r]
  rcases Nat.mod_two_eq_zero_or_one j with q | q <;> simp [z,q]
 ·rw [List.getElem?_eq_none (by simp;omega),List.getElem?_eq_none (by omega)]
theorem of_facts {P:Int} {L:List Sp} (P0:0<P) (P1:P≤12622780800) (s:spsB L=true) (l:L.length≤2000):ruOf (mvO P L)=(cbL 1 (mvO P L) [],0)∧Cir P (ofB P L) (cbL 1 (mvO P L) [])∧(cbL 1 (mvO P L) []).length≤2000∧(mvO P L).length=L.length:=by
 have v:∀ p,p∈L→p.1<p.2:=(sps_of.1 s).2;have ml:=ofl_len P0 v;have mm:=mv_mem P0 v;have sp:spsB (mvO P L)=true:=sps_of.2 ⟨fun p hp=>by have:=mm p hp;omega,fun p hp=>(mm p hp).2.2.1⟩;refine ⟨?_,of_cir P0 v,by omega,by simp [mvO]⟩
 unfold ruOf ruFull
 rw [sp,if_pos rfl,if_neg (by omega)]
set_option maxRecDepth 100000 in
set_option maxHeartbeats 2000000 in
theorem upof (va:Value) (P:Int) (A:List Sp) (hA:A.length≤maxLen) (hP:I64 P) {ba:Nat} (w:World) (a:PairS ba w va A) :
    Calls Tryz.prog 137 #[.int .i64 P,va] w fun e w'=>(∃ v',e=.returned (.tuple #[.agg #[.int .i64 (ofR P A).1.1,v'],.int .i64 (ofR P A).2])∧PairS w.heap.size w' v' (ofR P A).1.2)∧Below w.heap.size w w':=by
  obtain ⟨i0,hi,hz0,hz1,hz2⟩:=info_parts infoS;have mx:A.length≤9223372036854775807:=by unfold maxLen at hA;omega
  have A1:=zh (grow (here w) (.cells #[.int .i64 0,.slice none 0 0] 24));have TR:=zh (Tuo.new w (.int .i64 0) (.slice none 0 0) 24);have a2:=zh (a.keep A1.out);have HI:=zh (fun W=>upisper P W);have HV:=zh (fun W h=>upcontains va A hA (ba:=ba) W h);clear a
  cases i:(decide (1≤P)&&decide (P≤12622780800))
  · have r:Hid (ofR P A=((0,[]),1)):=by show _=_;unfold ofR;rw [i];rfl
    rw [i] at HI;clear HV i hP
    go_enter Tryz.func137,Tryz.ntmps137
    go_wp2_with fail
    refine (HI.out _).mono ?_;rintro e w2 ⟨rfl,rfl⟩;obtain ⟨⟨ri0,ri1,ri2⟩,rf0,rf1⟩:=TR.out;go_wp2
    generalize (w.alloc (.cells #[.int .i64 0,.slice none 0 0] 24))=w13 at *;refine bodyPost_ret (v:=.tuple #[.agg #[.int .i64 0,.slice none 0 0],.int .i64 1]) (by simp [results,Tryz.results137,go_sem,ri0,ri1]) rfl ?_;rw [r.out];exact ⟨⟨_,rfl,Sl.none _ _⟩,A1.out⟩
  · cases s:spsB A
    · have r:Hid (ofR P A=((0,[]),1)):=by show _=_;unfold ofR;rw [i,s];rfl
      rw [i] at HI;rw [s] at HV;clear i hP s
      go_enter Tryz.func137,Tryz.ntmps137
      go_wp2_with fail
      refine (HI.out _).mono ?_;rintro e w2 ⟨rfl,rfl⟩;have HV2:=zh (HV.out _ a2.out);go_wp2_with fail
      refine HV2.out.mono ?_;rintro e w4 ⟨rfl,hb⟩;have B9:=zd A1 hb;replace TR:=zh (TR.out.keep hb);clear hb A1 a2 HV HV2 HI;have FI:Hid (Two ((w4.setCell ⟨w.heap.size,0,none⟩ (.int .i64 0)).setCell ⟨w.heap.size,1,none⟩ (.slice none 0 0)) (w.heap.size) (.int .i64 0) (.slice none 0 0)∧Below w.heap.size w ((w4.setCell ⟨w.heap.size,0,none⟩ (.int .i64 0)).setCell ⟨w.heap.size,1,none⟩ (.slice none 0 0))∧PairS w.heap.size ((w4.setCell ⟨w.heap.size,0,none⟩ (.int .i64 0)).setCell ⟨w.heap.size,1,none⟩ (.slice none 0 0)) (.slice none 0 0) []) :=
        ⟨TR.out.put _ _,(B9.out.setCell (p:=⟨w.heap.size,0,none⟩) (by show w.heap.size≤w.heap.size;omega) _).setCell (p:=⟨w.heap.size,1,none⟩) (by show w.heap.size≤w.heap.size;omega) _,Sl.none _ _⟩
      obtain ⟨⟨ri0,ri1,ri2⟩,rf0,rf1⟩:=TR.out;go_wp2
      have q0:=FI.out.1.c0;have q1:=FI.out.1.c1;generalize (w4.setCell ⟨w.heap.size,0,none⟩ (.int .i64 0)).setCell ⟨w.heap.size,1,none⟩ (.slice none 0 0)=w13 at *;refine bodyPost_ret (v:=.tuple #[.agg #[.int .i64 0,.slice none 0 0],.int .i64 1]) (by simp [results,Tryz.results137,go_sem,q0,q1]) rfl ?_;rw [r.out];exact ⟨⟨_,rfl,FI.out.2.2⟩,FI.out.2.1⟩
    · have r0:ofR P A=if 2000<A.length then ((0,[]),5) else pfR P (ofB P A):=by unfold ofR;rw [i,s];rfl
      rw [i] at HI;rw [s] at HV;rw [Bool.and_eq_true,decide_eq_true_iff,decide_eq_true_iff] at i;obtain ⟨P0',P1⟩:=i;have P0:0<P:=by omega
      obtain ⟨o,c,rfl⟩:=prs_shape a2.out;obtain ⟨n,hn⟩:∃ n,A.length=n:=⟨_,rfl⟩;rw [hn] at a2 HV mx ⊢
      by_cases big:2000<n
      · have kb:decide (2000<(n:Int))=true:=zdt (by omega);rw [hn,if_pos big] at r0;have r:=zh r0;clear r0 s big hn hA
        go_enter Tryz.func137,Tryz.ntmps137
        go_wp2_with fail
        refine (HI.out _).mono ?_;rintro e w2 ⟨rfl,rfl⟩;have HV2:=zh (HV.out _ a2.out);go_wp2_with fail
        refine HV2.out.mono ?_;rintro e w4 ⟨rfl,hb⟩;have B9:=zd A1 hb;replace TR:=zh (TR.out.keep hb);clear hb A1 a2 HV HV2 HI;have FI:Hid (Two ((w4.setCell ⟨w.heap.size,0,none⟩ (.int .i64 0)).setCell ⟨w.heap.size,1,none⟩ (.slice none 0 0)) (w.heap.size) (.int .i64 0) (.slice none 0 0)∧Below w.heap.size w ((w4.setCell ⟨w.heap.size,0,none⟩ (.int .i64 0)).setCell ⟨w.heap.size,1,none⟩ (.slice none 0 0))∧PairS w.heap.size ((w4.setCell ⟨w.heap.size,0,none⟩ (.int .i64 0)).setCell ⟨w.heap.size,1,none⟩ (.slice none 0 0)) (.slice none 0 0) []) :=
          ⟨TR.out.put _ _,(B9.out.setCell (p:=⟨w.heap.size,0,none⟩) (by show w.heap.size≤w.heap.size;omega) _).setCell (p:=⟨w.heap.size,1,none⟩) (by show w.heap.size≤w.heap.size;omega) _,Sl.none _ _⟩
        obtain ⟨⟨ri0,ri1,ri2⟩,rf0,rf1⟩:=TR.out;go_wp2
        have q0:=FI.out.1.c0;have q1:=FI.out.1.c1;generalize (w4.setCell ⟨w.heap.size,0,none⟩ (.int .i64 0)).setCell ⟨w.heap.size,1,none⟩ (.slice none 0 0)=w13 at *;refine bodyPost_ret (v:=.tuple #[.agg #[.int .i64 0,.slice none 0 0],.int .i64 5]) (by simp [results,Tryz.results137,go_sem,q0,q1]) rfl ?_;rw [r.out];exact ⟨⟨_,rfl,FI.out.2.2⟩,FI.out.2.1⟩
      · have kb:decide (2000<(n:Int))=false:=zdf (by omega);rw [hn,if_neg big] at r0;have r:=zh r0;obtain ⟨OF1,OF2,OF3,OF4⟩:=of_facts P0 P1 s (show A.length≤2000 by omega);have LT:=zh (fun p (hp:p∈A)=>spB_iff.1 (List.all_eq_true.1 s p hp));have MV:Hid (∀ N:List Sp,N.length=n→(∀ j,j<n→N.getD j (0,0)=mvS P (A.getD j (0,0)))→N=mvO P A):=fun N l h=>by
          refine list_ext (by rw [l,OF4,hn]) fun j hj=>?_;rw [h j (by omega)]
          unfold mvO
          have hj':j<A.length:=by omega
          have hj2:j<(A.map (mvS P)).length:=by rw [List.length_map];exact hj'
          rw [gD hj2,gD hj',List.getElem_map]
        have HRO:Hid (∀ W v,∀ {b1:Nat},PairS b1 W v (mvO P A)→Calls Tryz.prog 73 #[v] W fun e w'=>(∃ v',e=.returned (.tuple #[v',.int .i64 0])∧PairS W.heap.size w' v' (cbL 1 (mvO P A) []))∧Below W.heap.size W w'):=fun W v _ h=>by
          have q:=ruof v (mvO P A) (by omega) W h;rw [OF1] at q;exact q
        have HF:Hid (∀ W v,∀ {b1:Nat},PairS b1 W v (cbL 1 (mvO P A) [])→Calls Tryz.prog 171 #[.int .i64 P,v] W fun e w'=>(∃ v',e=.returned (.tuple #[.agg #[.int .i64 (pfR P (ofB P A)).1.1,v'],.int .i64 (pfR P (ofB P A)).2])∧PairS W.heap.size w' v' (pfR P (ofB P A)).1.2)∧Below W.heap.size W w'):=fun W v _ h=>upform v P _ _ OF2 (by omega) P1 W h;replace hn:=zh hn;clear OF1 OF2 OF3 OF4 s r0;generalize pfR P (ofB P A)=RR at *;generalize cbL 1 (mvO P A) []=JL at *
        go_enter Tryz.func137,Tryz.ntmps137
        go_wp2_with fail
        refine (HI.out _).mono ?_;rintro e w2 ⟨rfl,rfl⟩;have HV2:=zh (HV.out _ a2.out);go_wp2_with fail
        refine HV2.out.mono ?_;rintro e w4 ⟨rfl,hb⟩;have A4:=zd A1 hb;replace TR:=zh (TR.out.keep hb);have tr4:=TR.out.t.lt;replace a2:=zh (a2.out.keep hb);clear hb A1 HV HV2 HI;have M2:Hid (i0.bytes * n≤281474976710656):=by show _≤_;rw [hz2];omega
        have M3:Hid (n≤maxLen):=by show _≤_;unfold maxLen;omega
        have M4:Hid (w4.heap.size≤w4.heap.size):=Nat.le_refl _;go_wp2_with (at_make;refine wpList_make_full _ rfl _ _ 22 rfl w4.heap.size 40 i0 (.agg #[.int .i64 0,.int .i64 0]) 2 Tryz.underlying22 hi hz0 hz1 .i64 .i64 (n:Int) (n:Int) n rfl rfl rfl rfl M2.out M3.out M4.out ?_)
        intro w5 hown hgrow;rw [made_pairs] at hown;have A5:Hid (Below w4.heap.size w4 w5):=(Below.refl _ w4).grown hgrow (Nat.le_refl _) (by intro k hk;cases hk);have O5:=zh (owns_of (by rw [List.length_replicate]) hown);have KA:Hid (∀ W,Below w4.heap.size w5 W→PairS ba W (.slice o n c) A):=fun W h=>a2.out.keep (A5.out.trans h);have KT:Hid (∀ W,Below w4.heap.size w5 W→Tuo W w.heap.size (.int .i64 0) (.slice none 0 0)):=fun W h=>TR.out.keep (A5.out.trans h);have KB:Hid (∀ W,Below w4.heap.size w5 W→Below w.heap.size w W):=fun W h=>down A4.out (A5.out.trans h);have s4:=A4.out.size;have st5:=A5.out.size;clear hown hgrow M2 M3 M4 A4 A5 a2 TR;have N0:Hid (∀ j,j<0→(List.replicate n ((0:Int),(0:Int))).getD j (0,0)=mvS P (A.getD j (0,0))):=fun j hj=>absurd hj (Nat.not_lt_zero _);generalize w4.heap.size=g at *;go_wp2
        go_loopw [33] (fun i wr=>∃ (k:Nat) (N:List Sp),k≤n∧i=.int .i64 k∧Hid (N.length=n)∧Hid (∀ j,j<k→N.getD j (0,0)=mvS P (A.getD j (0,0)))∧Hid (OwnS g wr (.slice (some ⟨g,0,none⟩) n n) N)∧Hid (Below g w5 wr)) (fun i _=>n - (intOf i).toNat)
        case atStart=>exact ⟨0,_,Nat.zero_le _,rfl,by show _=_;rw [List.length_replicate],N0,O5,Below.refl _ _⟩
        case round =>
          clear O5 N0;obtain ⟨k,N,hk,rfl,HN,HU,HO,HL⟩:=hrel
          by_cases z:k<n
          · have kz:decide ((k:Int)<(n:Int))=true:=zdt (by omega);have HP:=zh (KA.out wr HL.out);obtain ⟨b,off,rfl,bl,cs⟩:=prs_here HP.out (show k<A.length by rw [hn.out];exact z);obtain ⟨c0,c1⟩:=cs k (by rw [hn.out];exact z);have lt:=LT.out _ (getD_mem (show k<A.length by rw [hn.out];exact z));have ST:∀ j,j<k+1→(N.set k (mvS P (A.getD k (0,0)))).getD j (0,0)=mvS P (A.getD j (0,0)):=fun j hj=>by
              have hN:=HN.out;rw [gD (by rw [List.length_set];omega),List.getElem_set]
              split
              · rename_i e;rw [e]
              · rename_i e
                rw [← gD (by omega)];exact HU.out j (by omega)
            replace ST:=zh ST;have HN2:Hid ((N.set k (mvS P (A.getD k (0,0)))).length=n):=by show _=_;rw [List.length_set];exact HN.out
            have OP:=fun (W:World) (h:OwnS g W (.slice (some ⟨g,0,none⟩) n n) N)=>h.put (show k<N.length by rw [HN.out];exact z) (mvS P (A.getD k (0,0))).1 (mvS P (A.getD k (0,0))).2;clear cs HU HP HN;obtain ⟨p,hp⟩:∃ p,A.getD k (0,0)=p:=⟨_,rfl⟩;rw [hp] at c0 c1 lt ST HN2 OP;clear hp;obtain ⟨x,y⟩:=p;replace lt:-4398046511104≤x∧y≤4398046511104∧x<y:=lt;obtain ⟨lt0,lt1,lt2⟩:=lt;have HM:=zh (fun W=>cmodP x P (by unfold I64;omega) P0 P1 W);have HE:=zh (fun W=>rilen x y (spB_iff.2 ⟨lt0,lt1,lt2⟩) W);have m0:=Int.emod_nonneg x (show P≠0 by omega);have m1:=Int.emod_lt_of_pos x P0;obtain ⟨T,hT⟩:∃ T,(if P<y - x then P else y - x)=T:=⟨_,rfl⟩;have hT2:min (y - x) P=T:=by rw [← hT];split <;> omega
            have T0:0<T∧T≤P:=by rw [← hT];split <;> omega
            have em:mvS P (x,y)=(x % P,x % P+T):=by show (x % P,x % P+(if P<y - x then P else y - x))=_;rw [hT]
            rw [em] at ST HN2 OP;clear em;generalize x % P=F at *;replace c0:wr.cell? ⟨b,off+k * 2,none⟩=some (.int .i64 x):=c0;replace c1:wr.cell? ⟨b,off+k * 2+1,none⟩=some (.int .i64 y):=c1;have X2:=Two.new (here (wr.alloc (.cells #[.int .i64 x,.int .i64 y] 40)));have sw:=HL.out.size;have hb:Below wr.heap.size wr (wr.alloc (.cells #[.int .i64 x,.int .i64 y] 40)):=grow (here wr) _;have L2:=zh (HL.out.trans (hb.mono (show g≤wr.heap.size by omega)));have O2:=zh (HO.out.keep hb);replace X2:=zh X2;obtain ⟨x0,x1,xl⟩:=X2.out;clear HO HL hb;go_wp2_with fail
            refine (HM.out _).mono ?_;rintro e w6 ⟨rfl,d,hw6⟩;replace L2:Hid (Below g w5 w6):=by show Below _ _ _;rw [hw6];exact below_drewN L2.out d
            replace O2:=zh (O2.out.keep (below_drewN (here _) d));replace X2:=zh (X2.out.drewN d);rw [← hw6] at O2 X2;clear hw6 x0 x1 xl c0 c1 bl HM;obtain ⟨x0,x1,xl⟩:=X2.out;go_wp2_with fail
            refine (HE.out _).mono ?_;rintro e w7 ⟨rfl,hb⟩;have sw6:=L2.out.size;replace L2:=zh (L2.out.trans (hb.mono (show g≤w6.heap.size by omega)));replace O2:=zh (O2.out.keep hb);clear hb X2 x0 x1 xl HE;obtain ⟨b1,off1,eo,-,-,bl1,cs1,fz1⟩:=O2.out.at (show 0<n by omega)
            injection eo with eo;injection eo with eo1 eo2
            subst eo1;subst eo2;have O3:=zh (OP w7 O2.out);have L3:=zh ((L2.out.setCell (p:=⟨g,0+k * 2,none⟩) (Nat.le_refl g) (.int .i64 F)).setCell (p:=⟨g,0+k * 2+1,none⟩) (Nat.le_refl g) (.int .i64 (F+T)));obtain ⟨d0,d1⟩:=cs1 k (by have:=HN2.out;rw [List.length_set] at this;omega);rw [Nat.zero_add] at O3 L3 d0 d1;have f0:=fz1 (k * 2);have f1:=fz1 (k * 2+1);have d1':(w7.setCell ⟨g,k * 2,none⟩ (.int .i64 F)).cell? ⟨g,k * 2+1,none⟩=some (.int .i64 (N.getD k (0,0)).2):=by rw [zco (h:=by intro e;injection e with _ e;omega)];exact d1
            clear cs1 fz1 OP O2 L2 hT;go_wp2
            go_roundw
            case rel=>exact ⟨k+1,_,by omega,by go_num,HN2,ST,O3,L3⟩
            case measure=>simp [intOf];omega
          · have kz:decide ((k:Int)<(n:Int))=false:=zdf (by omega);obtain rfl:k=n:=by omega
            have e:=MV.out N HN.out HU.out;subst e;have HR2:=zh (HRO.out wr _ HO.out.prs);have sw:=HL.out.size;have TW:=zh (KT.out wr HL.out);have BW:=zh (KB.out wr HL.out);clear HN HU HO MV HRO KA KT KB LT z HL;go_wp2_with fail
            refine HR2.out.mono ?_;rintro e w8 ⟨⟨v8,rfl,P8⟩,hb⟩;replace TW:=zh (TW.out.keep hb);replace BW:=zd BW hb;have HF2:=zh (HF.out w8 _ P8);clear hb HR2 HF P8;go_wp2_with fail
            refine HF2.out.mono ?_;rintro e w10 ⟨⟨v10,rfl,P10⟩,hb⟩;have B9:=zd BW hb;have tr9:=TW.out.t.lt;have sz9:=BW.out.size;have TR:=zh (TW.out.keep hb);obtain ⟨o10,c10,rfl⟩:=Sl.shape P10;replace P10:=zh P10;clear hb HF2 TW BW;have FI:Hid (Two ((w10.setCell ⟨w.heap.size,0,none⟩ (.int .i64 RR.1.1)).setCell ⟨w.heap.size,1,none⟩ (.slice o10 RR.1.2.length c10)) (w.heap.size) (.int .i64 RR.1.1) (.slice o10 RR.1.2.length c10)∧Below w.heap.size w ((w10.setCell ⟨w.heap.size,0,none⟩ (.int .i64 RR.1.1)).setCell ⟨w.heap.size,1,none⟩ (.slice o10 RR.1.2.length c10))∧PairS w.heap.size ((w10.setCell ⟨w.heap.size,0,none⟩ (.int .i64 RR.1.1)).setCell ⟨w.heap.size,1,none⟩ (.slice o10 RR.1.2.length c10)) (.slice o10 RR.1.2.length c10) RR.1.2) :=
              ⟨TR.out.put _ _,(B9.out.setCell (p:=⟨w.heap.size,0,none⟩) (by show w.heap.size≤w.heap.size;omega) _).setCell (p:=⟨w.heap.size,1,none⟩) (by show w.heap.size≤w.heap.size;omega) _,Sl.weak (Sl.far (Sl.far P10.out tr9 _) tr9 _) sz9⟩
            obtain ⟨⟨ri0,ri1,ri2⟩,rf0,rf1⟩:=TR.out;go_wp2
            have q0:=FI.out.1.c0;have q1:=FI.out.1.c1;generalize (w10.setCell ⟨w.heap.size,0,none⟩ (.int .i64 RR.1.1)).setCell ⟨w.heap.size,1,none⟩ (.slice o10 RR.1.2.length c10)=w13 at *;refine bodyPost_ret (v:=.tuple #[.agg #[.int .i64 RR.1.1,.slice o10 RR.1.2.length c10],.int .i64 RR.2]) (by simp [results,Tryz.results137,go_sem,q0,q1]) rfl ?_;rw [r.out];exact ⟨⟨_,rfl,FI.out.2.2⟩,FI.out.2.1⟩
noncomputable def mvR (P:Int) (A:List Sp) (n:Int):(Int × List Sp) × Int:=if pvB P A then (if nvB n then pfR P (fun x=>hsP P A (x - n)) else ((0,[]),2)) else ((0,[]),1)
theorem mv_facts {P:Int} {A:List Sp} (pv:PV P A) (n:Int):moV A (n % P)=(shL A (n % P),0)∧ofR P (shL A (n % P))=pfR P (fun x=>hsP P A (x - n)):=by
 have P0:0<P:=by have:=pv.p0;omega
 have P1:=pv.p1;have m0:=Int.emod_nonneg n (show P≠0 by omega);have m1:=Int.emod_lt_of_pos n P0;have sp:spsB (shL A (n % P))=true:=sps_of.2 ⟨fun p hp=>by
  obtain ⟨q,hq,rfl⟩:=List.mem_map.1 hp;have:=pv.ip q hq
  show _≤q.1+n % P∧q.2+n % P≤_
  omega,fun p hp=>by
  obtain ⟨q,hq,rfl⟩:=List.mem_map.1 hp;have:=pv.cn.lt q hq
  show q.1+n % P<q.2+n % P
  omega⟩
 refine ⟨mo_yes pv.va (by omega) (by omega) sp,?_⟩
 unfold ofR
 have ln:=pv.len;rw [zdt pv.p0,zdt pv.p1,sp,sh_len,if_neg (show ¬ 2000<A.length by omega)]
 show pfR P (ofB P (shL A (n % P)))=_
 congr 1
 funext x
 rw [of_moved,of_in P0 pv.cn pv.ip,hs_mod]
set_option maxRecDepth 100000 in
set_option maxHeartbeats 2000000 in
theorem upmove (va:Value) (P:Int) (A:List Sp) (hA:A.length≤maxLen) (hP:I64 P) (n:Int) (hn:I64 n) {ba:Nat} (w:World) (a:PairS ba w va A) :
    Calls Tryz.prog 84 #[.agg #[.int .i64 P,va],.int .i64 n] w fun e w'=>(∃ v',e=.returned (.tuple #[.agg #[.int .i64 (mvR P A n).1.1,v'],.int .i64 (mvR P A n).2])∧PairS w.heap.size w' v' (mvR P A n).1.2)∧Below w.heap.size w w':=by
  have s1:=size_two w (.cells #[.int .i64 P,va] 24);have A1:=zh (grow (grow (here w) (.cells #[.int .i64 P,va] 24)) (.cells #[.int .i64 0,.slice none 0 0] 24));have TA:=zh (Two.fst (here ((w.alloc (.cells #[.int .i64 P,va] 24)).alloc (.cells #[.int .i64 0,.slice none 0 0] 24))));have TR:=Tuo.new (w.alloc (.cells #[.int .i64 P,va] 24)) (.int .i64 0) (.slice none 0 0) 24;rw [s1] at TR;replace TR:=zh TR;have a2:=zh (a.keep A1.out);have HV:=zh (upvalid va P A hA hP _ a2.out);have HI:=zh (fun W=>upisline n W);obtain ⟨t0,t1,tl⟩:=TA.out;clear a
  cases p:pvB P A
  · have r:Hid (mvR P A n=((0,[]),1)):=by show _=_;unfold mvR;rw [p];rfl
    rw [p] at HV;clear p s1
    go_enter Tryz.func84,Tryz.ntmps84
    go_wp2_with fail
    refine HV.out.mono ?_;rintro e w4 ⟨rfl,hb⟩;have B9:=zd A1 hb;replace TR:=zh (TR.out.keep hb);clear hb A1 HV a2 TA t0 t1 tl;have FI:Hid (Two ((w4.setCell ⟨w.heap.size+1,0,none⟩ (.int .i64 0)).setCell ⟨w.heap.size+1,1,none⟩ (.slice none 0 0)) (w.heap.size+1) (.int .i64 0) (.slice none 0 0)∧Below w.heap.size w ((w4.setCell ⟨w.heap.size+1,0,none⟩ (.int .i64 0)).setCell ⟨w.heap.size+1,1,none⟩ (.slice none 0 0))∧PairS w.heap.size ((w4.setCell ⟨w.heap.size+1,0,none⟩ (.int .i64 0)).setCell ⟨w.heap.size+1,1,none⟩ (.slice none 0 0)) (.slice none 0 0) []) :=
      ⟨TR.out.put _ _,(B9.out.setCell (p:=⟨w.heap.size+1,0,none⟩) (by show w.heap.size≤w.heap.size+1;omega) _).setCell (p:=⟨w.heap.size+1,1,none⟩) (by show w.heap.size≤w.heap.size+1;omega) _,Sl.none _ _⟩
    obtain ⟨⟨ri0,ri1,ri2⟩,rf0,rf1⟩:=TR.out;go_wp2
    have q0:=FI.out.1.c0;have q1:=FI.out.1.c1;generalize (w4.setCell ⟨w.heap.size+1,0,none⟩ (.int .i64 0)).setCell ⟨w.heap.size+1,1,none⟩ (.slice none 0 0)=w13 at *;refine bodyPost_ret (v:=.tuple #[.agg #[.int .i64 0,.slice none 0 0],.int .i64 1]) (by simp [results,Tryz.results84,go_sem,q0,q1]) rfl ?_;rw [r.out];exact ⟨⟨_,rfl,FI.out.2.2⟩,FI.out.2.1⟩
  · have pv:=pv_iff.1 p;rw [p] at HV
    cases q:nvB n
    · have r:Hid (mvR P A n=((0,[]),2)):=by show _=_;unfold mvR;rw [p,q];rfl
      rw [q] at HI;clear p s1 pv q
      go_enter Tryz.func84,Tryz.ntmps84
      go_wp2_with fail
      refine HV.out.mono ?_;rintro e w4 ⟨rfl,hb⟩;have B9:=zd A1 hb;replace TR:=zh (TR.out.keep hb);clear hb A1 HV a2 TA t0 t1 tl;go_wp2_with fail
      refine (HI.out _).mono ?_;rintro e w4 ⟨rfl,rfl⟩;have FI:Hid (Two ((w4.setCell ⟨w.heap.size+1,0,none⟩ (.int .i64 0)).setCell ⟨w.heap.size+1,1,none⟩ (.slice none 0 0)) (w.heap.size+1) (.int .i64 0) (.slice none 0 0)∧Below w.heap.size w ((w4.setCell ⟨w.heap.size+1,0,none⟩ (.int .i64 0)).setCell ⟨w.heap.size+1,1,none⟩ (.slice none 0 0))∧PairS w.heap.size ((w4.setCell ⟨w.heap.size+1,0,none⟩ (.int .i64 0)).setCell ⟨w.heap.size+1,1,none⟩ (.slice none 0 0)) (.slice none 0 0) []) :=
        ⟨TR.out.put _ _,(B9.out.setCell (p:=⟨w.heap.size+1,0,none⟩) (by show w.heap.size≤w.heap.size+1;omega) _).setCell (p:=⟨w.heap.size+1,1,none⟩) (by show w.heap.size≤w.heap.size+1;omega) _,Sl.none _ _⟩
      obtain ⟨⟨ri0,ri1,ri2⟩,rf0,rf1⟩:=TR.out;go_wp2
      have q0:=FI.out.1.c0;have q1:=FI.out.1.c1;generalize (w4.setCell ⟨w.heap.size+1,0,none⟩ (.int .i64 0)).setCell ⟨w.heap.size+1,1,none⟩ (.slice none 0 0)=w13 at *;refine bodyPost_ret (v:=.tuple #[.agg #[.int .i64 0,.slice none 0 0],.int .i64 2]) (by simp [results,Tryz.results84,go_sem,q0,q1]) rfl ?_;rw [r.out];exact ⟨⟨_,rfl,FI.out.2.2⟩,FI.out.2.1⟩
    · have r:mvR P A n=pfR P (fun x=>hsP P A (x - n)):=by unfold mvR;rw [p,q];rfl
      rw [q] at HI;obtain ⟨M1,M2⟩:=mv_facts pv n;rw [← M2] at r;replace r:=zh r;have P0:0<P:=by have:=pv.p0;omega
      have P1:=pv.p1;have m0:=Int.emod_nonneg n (show P≠0 by omega);have m1:=Int.emod_lt_of_pos n P0;have HM:=zh (fun W=>cmodP n P hn P0 P1 W);have HN:Hid (∀ W,PairS ba W va A→Calls Tryz.prog 86 #[va,.int .i64 (n % P)] W fun e w'=>(∃ v',e=.returned (.tuple #[v',.int .i64 0])∧PairS W.heap.size w' v' (shL A (n % P)))∧Below W.heap.size W w'):=fun W h=>by
        have z:=rumove va A hA (n % P) (by unfold I64;omega) W h;rw [M1] at z;exact z
      have HO:Hid (∀ W v,∀ {b1:Nat},PairS b1 W v (shL A (n % P))→Calls Tryz.prog 137 #[.int .i64 P,v] W fun e w'=>(∃ v',e=.returned (.tuple #[.agg #[.int .i64 (ofR P (shL A (n % P))).1.1,v'],.int .i64 (ofR P (shL A (n % P))).2])∧PairS W.heap.size w' v' (ofR P (shL A (n % P))).1.2)∧Below W.heap.size W w'):=fun W v _ h=>upof v P (shL A (n % P)) (by rw [sh_len];exact hA) hP W h;clear p s1 pv q M1 M2 hA;generalize ofR P (shL A (n % P))=RR at *;generalize shL A (n % P)=SL at *;generalize n % P=m at *
      go_enter Tryz.func84,Tryz.ntmps84
      go_wp2_with fail
      refine HV.out.mono ?_;rintro e w6 ⟨rfl,hb⟩;have A6:=zd A1 hb;replace TA:=zh (TA.out.keep hb);replace TR:=zh (TR.out.keep hb);replace a2:=zh (a2.out.keep hb);clear hb A1 HV t0 t1 tl;obtain ⟨t0,t1,tl⟩:=TA.out;go_wp2_with fail
      refine (HI.out _).mono ?_;rintro e w6 ⟨rfl,rfl⟩;have mk:∀ W',Below w6.heap.size w6 W'→Below w6.heap.size w6 W'∧W'.cell? ⟨w.heap.size,0,none⟩=some (.int .i64 P)∧W'.cell? ⟨w.heap.size,1,none⟩=some va:=fun W' q=>⟨q,(TA.out.keep q).c0,(TA.out.keep q).c1⟩;have s6:=mk w6 (here w6);have PA:Hid (∀ W',Below w6.heap.size w6 W'→PairS ba W' va A):=fun W' q=>a2.out.keep q;clear TA t0 t1 tl a2 HI;go_wp2
      go_region_held3 (fun W'=>Below w6.heap.size w6 W'∧W'.cell? ⟨w.heap.size,0,none⟩=some (.int .i64 P)∧W'.cell? ⟨w.heap.size,1,none⟩=some va) (first | assumption | (exact mk _ (grow (And.left (by assumption)) _)) | (exact mk _ (Below.drew (And.left (by assumption)))) | (exact mk _ (below_drewN (And.left (by assumption)) _)))
        (first
         | (go_at_call 136;(with_reducible refine (HM.out _).mono ?_);rintro e w' ⟨rfl,d,rfl⟩;have hS:=mk _ (below_drewN (And.left (by assumption)) d))
         | (go_at_call 86;(with_reducible refine (HN.out _ (PA.out _ (And.left (by assumption)))).mono ?_);rintro e w' ⟨⟨v8,rfl,P8⟩,hb⟩;obtain ⟨o8,c8,rfl⟩:=Sl.shape P8;have hS:=mk w' (down (And.left (by assumption)) hb)))
      have B7:=zh (down A6.out hS.1);replace TR:=zh (TR.out.keep hS.1);obtain ⟨-,t0,t1⟩:=hS;have sz9:=B7.out.size;have tr9:=TR.out.t.lt;have HO2:=zh (HO.out _ _ P8);clear P8 HM HN HO mk s6 PA A6;go_wp2_with fail
      refine HO2.out.mono ?_;rintro e w10 ⟨⟨v10,rfl,P10⟩,hb⟩;have B9:=zd B7 hb;replace TR:=zh (TR.out.keep hb);obtain ⟨o10,c10,rfl⟩:=Sl.shape P10;replace P10:=zh P10;clear HO2 hb B7 t0 t1;have FI:Hid (Two ((w10.setCell ⟨w.heap.size+1,0,none⟩ (.int .i64 RR.1.1)).setCell ⟨w.heap.size+1,1,none⟩ (.slice o10 RR.1.2.length c10)) (w.heap.size+1) (.int .i64 RR.1.1) (.slice o10 RR.1.2.length c10)∧Below w.heap.size w ((w10.setCell ⟨w.heap.size+1,0,none⟩ (.int .i64 RR.1.1)).setCell ⟨w.heap.size+1,1,none⟩ (.slice o10 RR.1.2.length c10))∧PairS w.heap.size ((w10.setCell ⟨w.heap.size+1,0,none⟩ (.int .i64 RR.1.1)).setCell ⟨w.heap.size+1,1,none⟩ (.slice o10 RR.1.2.length c10)) (.slice o10 RR.1.2.length c10) RR.1.2) :=
        ⟨TR.out.put _ _,(B9.out.setCell (p:=⟨w.heap.size+1,0,none⟩) (by show w.heap.size≤w.heap.size+1;omega) _).setCell (p:=⟨w.heap.size+1,1,none⟩) (by show w.heap.size≤w.heap.size+1;omega) _,Sl.weak (Sl.far (Sl.far P10.out tr9 _) tr9 _) sz9⟩
      obtain ⟨⟨ri0,ri1,ri2⟩,rf0,rf1⟩:=TR.out;go_wp2
      have q0:=FI.out.1.c0;have q1:=FI.out.1.c1;generalize (w10.setCell ⟨w.heap.size+1,0,none⟩ (.int .i64 RR.1.1)).setCell ⟨w.heap.size+1,1,none⟩ (.slice o10 RR.1.2.length c10)=w13 at *;refine bodyPost_ret (v:=.tuple #[.agg #[.int .i64 RR.1.1,.slice o10 RR.1.2.length c10],.int .i64 RR.2]) (by simp [results,Tryz.results84,go_sem,q0,q1]) rfl ?_;rw [r.out];exact ⟨⟨_,rfl,FI.out.2.2⟩,FI.out.2.1⟩
theorem mv_ok {P:Int} {A:List Sp} {n:Int} (h:(mvR P A n).2=0):PV P A∧nvB n=true∧PV (mvR P A n).1.1 (mvR P A n).1.2∧∀ x,hsP (mvR P A n).1.1 (mvR P A n).1.2 x=hsP P A (x - n):=by
 unfold mvR at h ⊢
 by_cases v:pvB P A=true
 ·rw [if_pos v] at h ⊢
  by_cases u:nvB n=true
  ·rw [if_pos u] at h ⊢;have pv:=pv_iff.1 v;have p0:=pv.p0;exact ⟨pv,u,pf_pv (by omega) pv.p1 (per_shift hs_per n) h⟩
  ·rw [if_neg u] at h;cases h
 ·rw [if_neg v] at h;cases h
theorem edA_mv {f g:Int→Bool} {n a:Int} (h:EdA f g a):EdA (fun x=>f (x - n)) (fun x=>g (x - n)) (a+n) :=
 ⟨fun x hx=>h.on _ (by omega),fun c=>h.no (by have:f (a+n - n)=g (a+n - n):=c;rwa [show a+n - n=a by omega] at this)⟩
theorem edB_mv {f g:Int→Bool} {n b:Int} (h:EdB f g b):EdB (fun x=>f (x - n)) (fun x=>g (x - n)) (b+n) :=
 ⟨fun x hx=>h.on _ (by omega),fun c=>h.no (by have:f (b+n - 1 - n)=g (b+n - 1 - n):=c;rwa [show b+n - 1 - n=b - 1 by omega] at this)⟩
theorem mv_form {s:TS} {n:Int} (h:VS s) (e1:(mvR s.P s.A n).2=0) (e2:(mvR s.Q s.B n).2=0) (pq:pqE (mvR s.P s.A n).1.1 (mvR s.P s.A n).1.2 (mvR s.Q s.B n).1.1 (mvR s.Q s.B n).1.2=0) :
    frT (mvR s.P s.A n).1.1 (mvR s.P s.A n).1.2 (mvR s.Q s.B n).1.1 (mvR s.Q s.B n).1.2 (fun x=>hsT s (x - n)) =
      if puB s then (⟨(mvR s.P s.A n).1.1,(mvR s.P s.A n).1.2,(mvR s.P s.A n).1.1,(mvR s.P s.A n).1.2,0,0,[]⟩,0)
      else if nvB (s.a+n)&&nvB (s.b+n) then (⟨(mvR s.P s.A n).1.1,(mvR s.P s.A n).1.2,(mvR s.Q s.B n).1.1,(mvR s.Q s.B n).1.2,s.a+n,s.b+n,shL s.L n⟩,0) else (tsZ,9):=by
  obtain ⟨-,-,pl,fl⟩:=mv_ok e1;obtain ⟨-,-,pr,fr⟩:=mv_ok e2;have fl':hsP (mvR s.P s.A n).1.1 (mvR s.P s.A n).1.2=fun x=>hsP s.P s.A (x - n):=funext fl;have fr':hsP (mvR s.Q s.B n).1.1 (mvR s.Q s.B n).1.2=fun x=>hsP s.Q s.B (x - n):=funext fr
  by_cases p:s.P=s.Q∧s.A=s.B∧hsT s=hsP s.P s.A
  · have e:=h.pure p;obtain ⟨p1,p2,p3⟩:=p;have q:(mvR s.P s.A n).1.1=(mvR s.Q s.B n).1.1∧(mvR s.P s.A n).1.2=(mvR s.Q s.B n).1.2:=by rw [p1,p2];exact ⟨rfl,rfl⟩
    have pu:puB s=true:=pu_iff.2 ⟨by rw [e],by rw [e],p1,p2⟩
    unfold frT
    rw [if_neg (by rw [pq];exact fun c=>c rfl),if_pos ⟨q.1,q.2,by rw [fl',p3]⟩,if_pos pu,← q.1,← q.2]
  · have pu:¬ puB s=true:=fun c=>p (by
      obtain ⟨-,-,c1,c2⟩:=pu_iff.1 c;exact ⟨c1,c2,funext fun x=>(pu_has c x).1⟩)
    obtain ⟨ea,eb,eL,⟨a,ha⟩,b,hb⟩:=h.ends p;have np:¬ ((mvR s.P s.A n).1.1=(mvR s.Q s.B n).1.1∧(mvR s.P s.A n).1.2=(mvR s.Q s.B n).1.2∧(fun x=>hsT s (x - n))=hsP (mvR s.P s.A n).1.1 (mvR s.P s.A n).1.2):=fun ⟨c1,c2,c3⟩=>by
      have k:hsP s.P s.A=hsP s.Q s.B:=funext fun x=>by
        have a:=fl (x+n);have b:=fr (x+n);rw [c1,c2,b,show x+n - n=x by omega] at a;exact a.symm
      obtain ⟨k1,k2⟩:=pv_ext h.g.p h.g.q k;refine p ⟨k1,k2,funext fun x=>?_⟩;have:=congrFun c3 (x+n);rw [fl (x+n),show x+n - n=x by omega] at this;exact this
    have lo:loT (fun x=>hsT s (x - n)) (fun x=>hsP s.P s.A (x - n)) (fun x=>hsP s.Q s.B (x - n))=s.a+n:=by
      rw [ea];unfold loT;rw [edA_eq (edA_mv (n:=n) ha),edB_eq (edB_mv (n:=n) hb),edA_eq ha,edB_eq hb]
      split <;> split <;> omega
    have eB:edB (fun x=>hsT s (x - n)) (fun x=>hsP s.Q s.B (x - n))=s.b+n:=by rw [edB_eq (edB_mv (n:=n) hb),eb,edB_eq hb]
    have L:caL (fun x=>hsT s (x - n)) (s.a+n) (s.b+n)=shL s.L n:=by
      symm
      have cn:Cn s.L:=(vaB_iff.1 h.g.va).2.2;refine ca_eq (sh_cn cn) fun x=>?_;rw [sh_in',eL,ca_in]
      congr 1
      rw [Bool.eq_iff_iff]
      simp only [Bool.and_eq_true,decide_eq_true_eq]
      omega
    unfold frT
    rw [if_neg (by rw [pq];exact fun c=>c rfl),if_neg np,if_neg pu,fl',fr',lo,eB,L]
noncomputable def mtR (s:TS) (n:Int):TS × Int :=
 if vsB s=false then (tsZ,1)
 else if (mvR s.P s.A n).2≠0 then (tsZ,(mvR s.P s.A n).2)
 else if (mvR s.Q s.B n).2≠0 then (tsZ,(mvR s.Q s.B n).2)
 else if pqE (mvR s.P s.A n).1.1 (mvR s.P s.A n).1.2 (mvR s.Q s.B n).1.1 (mvR s.Q s.B n).1.2≠0 then (tsZ,pqE (mvR s.P s.A n).1.1 (mvR s.P s.A n).1.2 (mvR s.Q s.B n).1.1 (mvR s.Q s.B n).1.2)
 else if puB s then (⟨(mvR s.P s.A n).1.1,(mvR s.P s.A n).1.2,(mvR s.P s.A n).1.1,(mvR s.P s.A n).1.2,0,0,[]⟩,0)
 else if nvB (s.a+n)&&nvB (s.b+n) then (⟨(mvR s.P s.A n).1.1,(mvR s.P s.A n).1.2,(mvR s.Q s.B n).1.1,(mvR s.Q s.B n).1.2,s.a+n,s.b+n,shL s.L n⟩,0)
 else (tsZ,9)
theorem mt_err {s:TS} {n:Int} (v:vsB s=true) (e:or3 (mvR s.P s.A n).2 (mvR s.Q s.B n).2 (paE (mvR s.P s.A n).1.1 (mvR s.P s.A n).1.2 (mvR s.Q s.B n).1.1 (mvR s.Q s.B n).1.2)≠0) :
    mtR s n=(tsZ,or3 (mvR s.P s.A n).2 (mvR s.Q s.B n).2 (paE (mvR s.P s.A n).1.1 (mvR s.P s.A n).1.2 (mvR s.Q s.B n).1.1 (mvR s.Q s.B n).1.2)):=by
  unfold mtR
  rw [if_neg (by rw [v];simp)]
  unfold or3 at e ⊢
  by_cases a:(mvR s.P s.A n).2=0
  · rw [if_neg (fun c=>c a),if_pos a];rw [if_pos a] at e
    by_cases b:(mvR s.Q s.B n).2=0
    · rw [if_neg (fun c=>c b),if_pos b];rw [if_pos b] at e;rw [paE_pq (mv_ok a).2.2.1 (mv_ok b).2.2.1] at e ⊢;rw [if_pos e]
    · rw [if_pos b,if_neg b]
  · rw [if_pos a,if_neg a]
theorem mt_go {s:TS} {n:Int} (v:vsB s=true) (e:or3 (mvR s.P s.A n).2 (mvR s.Q s.B n).2 (paE (mvR s.P s.A n).1.1 (mvR s.P s.A n).1.2 (mvR s.Q s.B n).1.1 (mvR s.Q s.B n).1.2)=0) :
    (mvR s.P s.A n).2=0∧(mvR s.Q s.B n).2=0∧pqE (mvR s.P s.A n).1.1 (mvR s.P s.A n).1.2 (mvR s.Q s.B n).1.1 (mvR s.Q s.B n).1.2=0 ∧
    mtR s n=if puB s then (⟨(mvR s.P s.A n).1.1,(mvR s.P s.A n).1.2,(mvR s.P s.A n).1.1,(mvR s.P s.A n).1.2,0,0,[]⟩,0)
      else if nvB (s.a+n)&&nvB (s.b+n) then (⟨(mvR s.P s.A n).1.1,(mvR s.P s.A n).1.2,(mvR s.Q s.B n).1.1,(mvR s.Q s.B n).1.2,s.a+n,s.b+n,shL s.L n⟩,0)
      else (tsZ,9):=by
  obtain ⟨a,b,c⟩:=or3_zero.1 e;rw [paE_pq (mv_ok a).2.2.1 (mv_ok b).2.2.1] at c;refine ⟨a,b,c,?_⟩
  unfold mtR
  rw [if_neg (by rw [v];simp),if_neg (fun h=>h a),if_neg (fun h=>h b),if_neg (fun h=>h c)]
theorem mv_small (P:Int) (A:List Sp) (n:Int):(mvR P A n).1.2.length≤maxLen∧I64 (mvR P A n).1.1:=by
 by_cases e:(mvR P A n).2=0
 ·have p:=(mv_ok e).2.2.1;have l:=p.len;have p0:=p.p0;have p1:=p.p1;exact ⟨le_mx (by omega),by unfold I64;omega⟩
 ·have z:(mvR P A n).1=(0,[]):=by
   unfold mvR at e ⊢
   split
   ·rename_i h1
    rw [if_pos h1] at e
    split
    ·rename_i h2
     rw [if_pos h2] at e
     unfold pfR at e ⊢
     split
     ·rfl
     ·rename_i h3
      rw [if_neg h3] at e;exact absurd rfl e
    ·rfl
   ·rfl
  rw [z];exact ⟨Nat.zero_le _,by unfold I64;omega⟩
theorem mt_vs {s:TS} {n:Int} (h:(mtR s n).2=0):VS s∧VS (mtR s n).1∧∀ x,hsT (mtR s n).1 x=hsT s (x - n):=by
 by_cases v:vsB s=true
 rotate_left
 ·unfold mtR at h;rw [if_pos (by simpa using v)] at h;cases h
 have vs:=vs_ok.1 v
 by_cases z:or3 (mvR s.P s.A n).2 (mvR s.Q s.B n).2 (paE (mvR s.P s.A n).1.1 (mvR s.P s.A n).1.2 (mvR s.Q s.B n).1.1 (mvR s.Q s.B n).1.2)=0
 rotate_left
 ·rw [mt_err v z] at h;exact absurd h z
 obtain ⟨e1,e2,pq,er⟩:=mt_go v z;have nf:=mv_form vs e1 e2 pq;obtain ⟨-,-,pl,fl⟩:=mv_ok e1;obtain ⟨-,-,pr,fr⟩:=mv_ok e2;rw [← nf] at er;rw [er] at h ⊢
 by_cases pu:puB s=true
 ·have p0:=pl.p0;have q0:=pr.p0;have g:Giv (mvR s.P s.A n).1.1 (mvR s.P s.A n).1.2 (mvR s.Q s.B n).1.1 (mvR s.Q s.B n).1.2 0 0 []:=⟨pl,pr,Int.le_refl 0,by decide,by decide,rfl,fun s h=>by cases h⟩;have ge:gvF (mvR s.P s.A n).1.1 (mvR s.P s.A n).1.2 (mvR s.Q s.B n).1.1 (mvR s.Q s.B n).1.2 0 0 []=fun x=>hsT s (x - n) :=
   pc_congr (m':=fun _=>false) (fun x hx=>by rw [fl,(pu_has pu _).1]) (fun x a b=>by omega) (fun x hx=>by rw [fr,(pu_has pu _).2]) (Int.le_refl 0)
  rw [← ge] at h ⊢;obtain ⟨a,b⟩:=fr_vs g h;exact ⟨vs,a,fun x=>by rw [b,ge]⟩
 ·rw [nf,if_neg pu] at h
  by_cases nv:(nvB (s.a+n)&&nvB (s.b+n))=true
  rotate_left
  ·rw [if_neg nv] at h;cases h
  obtain ⟨n1,n2⟩:=Bool.and_eq_true_iff.1 nv;have cn:Cn s.L:=(vaB_iff.1 vs.g.va).2.2;have lo:∀ q,q∈shL s.L n→s.a+n≤q.1∧q.2≤s.b+n:=fun q hq=>by
   unfold shL at hq
   obtain ⟨r,hr,rfl⟩:=List.mem_map.1 hq;have:=vs.g.low r hr
   show s.a+n≤r.1+n∧r.2+n≤s.b+n
   omega
  have l0:=(nvB_iff.1 n1).1;have l1:=(nvB_iff.1 n2).2;have le:=vs.g.le;have g:Giv (mvR s.P s.A n).1.1 (mvR s.P s.A n).1.2 (mvR s.Q s.B n).1.1 (mvR s.Q s.B n).1.2 (s.a+n) (s.b+n) (shL s.L n) :=
   ⟨pl,pr,by omega,l0,l1,vaB_iff.2 ⟨by rw [sh_len];exact (vaB_iff.1 vs.g.va).1,fun q hq=>by have:=lo q hq;omega,sh_cn cn⟩,lo⟩
  have ge:gvF (mvR s.P s.A n).1.1 (mvR s.P s.A n).1.2 (mvR s.Q s.B n).1.1 (mvR s.Q s.B n).1.2 (s.a+n) (s.b+n) (shL s.L n)=fun x=>hsT s (x - n) :=
   pc_congr (m':=fun _=>false) (fun x hx=>by rw [fl,hs_low (by omega)]) (fun x a b=>by rw [sh_in'];exact gv_mid (by omega) (by omega)) (fun x hx=>by rw [fr,hs_high le (by omega)]) (by omega)
  have k:=nf;rw [if_neg pu,if_pos nv] at k;rw [← ge] at k ⊢;obtain ⟨a,b⟩:=fr_vs g (by rw [k]);exact ⟨vs,a,fun x=>by rw [b,ge]⟩
theorem mt_list {s:TS} {n:Int} (h:VS s) (u:nvB n=true) (n1:nvB (s.a+n)=true) (n2:nvB (s.b+n)=true):moV s.L n=(shL s.L n,0):=by
 have a:=(nvB_iff.1 u).1;have b:=(nvB_iff.1 u).2;have c:=(nvB_iff.1 n1).1;have d:=(nvB_iff.1 n2).2
 unfold moV
 rw [if_pos h.g.va,if_neg (by rw [Bool.or_eq_true,decide_eq_true_iff,decide_eq_true_iff];omega),if_pos]
 unfold spsB
 rw [List.all_eq_true];intro q hq
 unfold shL at hq
 obtain ⟨r,hr,rfl⟩:=List.mem_map.1 hq;have:=h.g.low r hr;have:=(vaB_iff.1 h.g.va).2.2.lt r hr;rw [spB_iff]
 show -4398046511104≤r.1+n∧r.2+n≤4398046511104∧r.1+n<r.2+n
 omega
theorem mt_zt (s:TS) (n:Int):(mtR s n).2=0∨(mtR s n).1=tsZ:=by
 unfold mtR
 (repeat' split) <;> first | exact Or.inr rfl | exact Or.inl rfl
end Go.Proofs.YtmamlgaogpkagaaGreat
