/- TsE TsB TsY. -/
import Derived.Test.YtmamlgaogpkagaaGreatZLPlain
import Derived.Test.YtmamlgaogpkagaaGreatZLGen
import Derived.Test.YtmamlgaogpkagaaGreatZLSl
import Derived.Test.YtmamlgaogpkagaaGreatZLOwn
import Derived.Test.YtmamlgaogpkagaaGreatZRnP
import Derived.Test.YtmamlgaogpkagaaGreatZPeR
import Derived.Test.YtmamlgaogpkagaaGreatZRnV
import Derived.Test.YtmamlgaogpkagaaGreatZPeB
import Derived.Test.YtmamlgaogpkagaaGreatZPeKD
import Derived.Test.YtmamlgaogpkagaaGreatZPeKE
import Derived.Test.YtmamlgaogpkagaaGreatZPeLm
import Derived.Test.YtmamlgaogpkagaaGreatZPeKI
import Derived.Test.YtmamlgaogpkagaaGreatZPeKJ
import Derived.Test.YtmamlgaogpkagaaGreatZPeKK
import Derived.Test.YtmamlgaogpkagaaGreatZPeGD
import Derived.Test.YtmamlgaogpkagaaGreatZTsA
import Derived.StillTailTactics
import Derived.Deep.AppendLies
namespace Go.Proofs.YtmamlgaogpkagaaGreat
open Go.RowKit
set_option linter.unusedVariables false
set_option linter.unusedSimpArgs false
set_option maxRecDepth 100000 in
set_option maxHeartbeats 2000000 in
theorem rtline (x:Int) (w:World) :
  Calls Tryz.prog 89 #[.int .i64 x] w fun e w'=>e=.returned (.bool (nvB x))∧w=w':=by
 unfold nvB
 by_cases a:-4398046511104≤x
 ·have ka:=zdt a;rw [ka,Bool.true_and];clear a
  go_enter Tryz.func89,Tryz.ntmps89
  go_wp2
  go_ret
  exact ⟨rfl,rfl⟩
 ·have ka:=zdf a;rw [ka,Bool.false_and];clear a
  go_enter Tryz.func89,Tryz.ntmps89
  go_wp2
  go_ret
  exact ⟨rfl,rfl⟩
theorem clip_step {L:List Sp} {i:Nat} (h:i<L.length) (a b:Int):clL (L.take (i+1)) a b=clL (L.take i) a b++(if (cpS a b (L.getD i (0,0))).1<(cpS a b (L.getD i (0,0))).2 then [cpS a b (L.getD i (0,0))] else []):=by
 rw [tak_snoc L h,cl_snoc]
set_option maxRecDepth 100000 in
set_option maxHeartbeats 4000000 in
theorem rtclip (vl:Value) (l:List Sp) (ll:l.length≤10000) (a b:Int) (ha:I64 a) (hb:I64 b) (lb:∀ q,q∈l→I64 q.1∧I64 q.2) {bl:Nat} (w:World) (pl:PairS bl w vl l) :
  Calls Tryz.prog 91 #[vl,.int .i64 a,.int .i64 b] w fun e w'=>(∃ v',e=.returned v'∧PairS w.heap.size w' v' (clL l a b))∧Below w.heap.size w w':=by
 obtain ⟨i0,hi,hz0,hz1,hz2⟩:=info_parts infoS;obtain ⟨ol,cl,rfl⟩:=prs_shape pl;have PL1:=zh pl;replace lb:=zh lb;clear pl;obtain ⟨n,hn⟩:∃ n,l.length=n:=⟨_,rfl⟩;rw [hn] at PL1 ll ⊢;have L0:=zh (here w);have I0:Hid (w.ownsRow w.heap.size 40 2 (.slice none 0 0) ([]:List Sp).length (pairs [])):=World.ownsRow_nil _ _ _ _;have S0:Hid ([]=clL (l.take 0) a b):=rfl
 go_enter Tryz.func91,Tryz.ntmps91
 go_wp2
 go_loopw [7,8] (fun v t wr=>∃ (k:Nat) (v':Value) (M:List Sp),v'=v∧k≤n∧M.length≤k∧t=.int .i64 k∧Hid (M=clL (l.take k) a b)∧Hid (wr.ownsRow w.heap.size 40 2 v M.length (pairs M))∧Hid (Below w.heap.size w wr)) (fun _ t _=>n - (intOf t).toNat)
 case atStart=>exact ⟨0,_,[],rfl,Nat.zero_le _,by simp,rfl,S0,I0,L0⟩
 case round =>
  obtain ⟨k,v',M,rfl,hk,lM,rfl,SM,OM,AM⟩:=hrel;clear L0 I0 S0
  by_cases y:k<n
  ·have ky:decide ((k:Int)<(n:Int))=true:=zdt (by omega);have PR:=zh (PL1.out.keep AM.out);have SN:=clip_step (show k<l.length by omega) a b;rw [← SM.out] at SN;obtain ⟨q0,q1⟩:=lb.out _ (getD_mem (show k<l.length by omega));obtain ⟨bb,off,rfl,bl',cs⟩:=prs_here PR.out (show k<l.length by omega);obtain ⟨c0,c1⟩:=cs k (by omega);clear cs;obtain ⟨k1,hk1⟩:∃ k1,k+1=k1:=⟨_,rfl⟩;rw [hk1] at SN;generalize l.getD k (0,0)=q at *;obtain ⟨f,g⟩:=q;replace c0:wr.cell? ⟨bb,off+k * 2,none⟩=some (.int .i64 f):=c0;replace c1:wr.cell? ⟨bb,off+k * 2+1,none⟩=some (.int .i64 g):=c1;obtain ⟨F,hF⟩:∃ F,(if f<a then a else f)=F:=⟨_,rfl⟩;obtain ⟨G,hG⟩:∃ G,(if b<g then b else g)=G:=⟨_,rfl⟩;have mF:max f a=F:=by rw [← hF];split <;> omega
   have mG:min g b=G:=by rw [← hG];split <;> omega
   replace SN:clL (l.take k1) a b=M++(if (if f<a then a else f)<(if b<g then b else g) then [((if f<a then a else f),(if b<g then b else g))] else []):=SN;rw [hF,hG] at SN;replace SN:=zh SN;obtain ⟨m,hm⟩:∃ m,M.length=m:=⟨_,rfl⟩;rw [hm] at OM lM;obtain ⟨ao,cp,rfl⟩:=(Sl.owns OM.out).shape;clear q0 q1;go_wp2
   go_region
   refine at_world (G:=fun W'=>Exit.then _ _ Exit.normal _ W') (fun W'=>Below wr.heap.size wr W'∧Two W' wr.heap.size (.int .i64 F) (.int .i64 G)∧W'.ownsRow w.heap.size 40 2 (.slice ao m cp) m (pairs M)) ⟨(grow (here wr) _).drew,Two.new (Below.drew (here _)),OM.out.alloc _⟩ ?_;rintro w5 ⟨W5,X5,O5⟩;have A5:=zd AM W5;obtain ⟨x0,x1,xl⟩:=X5;replace O5:=zh O5;clear W5 AM OM PR c0 c1 bl'
   by_cases z:F<G
   ·have kz:decide (F<G)=true:=zdt z;rw [if_pos z] at SN;have EQ:Hid (M++[(F,G)]=clL (l.take k1) a b):=SN.out.symm;have CM:Hid (m+1≤maxLen):=by show _≤_;unfold maxLen;omega
    have sz:Hid (w.heap.size≤(w5.alloc (.cells #[.int .i64 F,.int .i64 G] 40)).heap.size):=by show _≤_;have:=A5.out.size;simp;omega
    go_wp2_with (at_builtin;refine wpList_append_own _ rfl _ _ 22 rfl w.heap.size 40 i0 (.agg #[.int .i64 0,.int .i64 0]) 2 16 Tryz.underlying22 hi hz0 hz1 hz2 rfl (by decide) (.slice ao m cp) m (pairs M) rfl (O5.out.alloc _) ⟨w5.heap.size,0,none⟩ 1 1 [.int .i64 F,.int .i64 G] rfl rfl (fun j u hj=>by rw [Addr.add_lit,Nat.zero_add,World.cell?_alloc_new];simpa using hj) (fun u hu=>by simp at hu;rcases hu with rfl | rfl <;> rfl) CM.out (by omega) sz.out ?_)
    intro v7 w7 hown hgrow _;have B7:Hid (Below w.heap.size w w7):=(A5.out.alloc A5.out.size (.cells #[.int .i64 F,.int .i64 G] 40)).grown hgrow sz.out (own_ge O5.out);have O7:Hid (w7.ownsRow w.heap.size 40 2 v7 (M++[(F,G)]).length (pairs (M++[(F,G)]))):=by
     show World.ownsRow _ _ _ _ _ _ _
     rw [pairs_append,List.length_append,hm];exact hown
    clear hown hgrow x0 x1 xl O5 A5;go_wp2
    go_roundw
    case rel=>exact ⟨k1,v7,_,rfl,by omega,by rw [List.length_append,hm];simp;omega,by first | rfl | go_num,EQ,O7,B7⟩
    case measure=>simp [intOf];omega
   ·have kz:decide (F<G)=false:=zdf z;rw [if_neg z,List.append_nil] at SN;have EQ:Hid (M=clL (l.take k1) a b):=SN.out.symm;have O7:Hid (w5.ownsRow w.heap.size 40 2 (.slice ao m cp) M.length (pairs M)):=by show World.ownsRow _ _ _ _ _ _ _;rw [hm];exact O5.out
    go_wp2
    go_roundw
    case rel=>exact ⟨k1,_,M,rfl,by omega,by omega,by first | rfl | go_num,EQ,O7,A5⟩
    case measure=>simp [intOf];omega
  ·have ky:decide ((k:Int)<(n:Int))=false:=zdf (by omega);have PF:Hid (PairS w.heap.size wr v' (clL l a b)):=by
    show PairS _ _ _ _
    have e:M=clL l a b:=by rw [SM.out,List.take_of_length_le (by omega)]
    rw [← e];exact Sl.owns OM.out
   go_wp2
   go_ret
   exact ⟨⟨_,rfl,PF.out⟩,AM.out⟩
set_option maxRecDepth 100000 in
set_option maxHeartbeats 4000000 in
theorem rtbefore (va:Value) (P:Int) (A:List Sp) (pv:PV P A) (x:Int) (x0:-10000000000000≤x) (x1:x≤10000000000000) {ba:Nat} (w:World) (a:PairS ba w va A) :
  Calls Tryz.prog 96 #[.agg #[.int .i64 P,va],.int .i64 x] w fun e w'=>(∃ b o,e=.returned (.tuple #[.int .i64 b,.bool o])∧BfS (hsP P A) x o b∧-30000000000000≤b∧b≤30000000000000)∧Below w.heap.size w w':=by
 obtain ⟨oa,ca,rfl⟩:=prs_shape a;have A1:=zh (grow (here w) (.cells #[.int .i64 P,.slice oa A.length ca] 24));have TA:=zh (Two.new (t:=24) (x:=.int .i64 P) (y:=.slice oa A.length ca) (here (w.alloc (.cells #[.int .i64 P,.slice oa A.length ca] 24))));have PA1:=zh (a.keep A1.out);have p0:=pv.p0;have p1:=pv.p1;have CH:=zh (fun W (h:PairS ba W (.slice oa A.length ca) A)=>rtchanges _ P A pv W h);have MO:=zh (fun W=>by have h:=refmod_all x P (by omega) (by omega) (by omega) (by omega) W;rw [dR_pos (show 0<P by omega)] at h;exact h);have BD:Hid (∀ j,j<(chL P A A).length→0≤(chL P A A).getD j 0∧(chL P A A).getD j 0<P):=fun j hj=>⟨(ch_in pv (ints_mem hj)).1,(ch_in pv (ints_mem hj)).2.1⟩;have FN:Hid (∀ o b,BfI P x (chL P A A) (chL P A A).length o b→BfS (hsP P A) x o b):=fun o b h=>h.fin pv;have cl:=Nat.le_trans (ch_len P A A) (Nat.mul_le_mul_left 2 pv.len);clear a;obtain ⟨m,hm⟩:∃ m,x % P=m:=⟨_,rfl⟩;have m0:=Int.emod_nonneg x (show P≠0 by omega);have m1:=Int.emod_lt_of_pos x (show 0<P by omega);rw [hm] at m0 m1 MO;obtain ⟨bs,hbs⟩:∃ bs,x - m=bs:=⟨_,rfl⟩;obtain ⟨ta,tb,tl⟩:=TA.out
 go_enter Tryz.func96,Tryz.ntmps96
 go_wp2_with fail
 clear ta tb tl;generalize (w.alloc (.cells #[.int .i64 P,.slice oa A.length ca] 24))=w1 at *;refine (CH.out _ PA1.out).mono ?_;rintro e w2 ⟨⟨v,rfl,I1⟩,hb⟩;have A2:=zd A1 hb;have T2:=zh (TA.out.keep hb);obtain ⟨oi,ci,rfl⟩:=peh_shape I1;replace I1:=zh I1;clear hb CH PA1 TA A1;obtain ⟨ta,tb,tl⟩:=T2.out;go_wp2_with fail
 refine (MO.out _).mono ?_;rintro e w3' ⟨rfl,q,rfl⟩;obtain ⟨w3,hw3⟩:∃ w3,w2.drewN q=w3:=⟨_,rfl⟩;rw [hw3];have A3:Hid (Below w.heap.size w w3):=by show Below _ _ _;rw [← hw3];exact below_drewN A2.out q
 have T3:Hid (Two w3 w.heap.size (.int .i64 P) (.slice oa A.length ca)):=by show Two _ _ _ _;rw [← hw3];exact Two.drewN T2.out q
 have I3:Hid (IntS w1.heap.size w3 (.slice oi (chL P A A).length ci) (chL P A A)):=by show IntS _ _ _ _;rw [← hw3];exact I1.out.keep (below_drewN (here w2) q)
 clear hw3 A2 T2 I1 ta tb tl MO;have L0:=zh (here w3);have S0:=zh (bf_start P x (chL P A A));obtain ⟨n,hn⟩:∃ n,(chL P A A).length=n:=⟨_,rfl⟩;rw [hn] at BD FN cl I3 ⊢;go_wp2
 go_loopw [8,9,10] (fun u v t wr=>∃ (k:Nat) (b:Int) (o:Bool),u=.int .i64 b∧v=.bool o∧k≤n∧-30000000000000≤b∧b≤30000000000000∧t=.int .i64 k∧Hid (BfI P x (chL P A A) k o b)∧Hid (Below w3.heap.size w3 wr)) (fun _ _ t _=>n - (intOf t).toNat)
 case atStart=>exact ⟨0,0,false,rfl,rfl,Nat.zero_le _,by omega,by omega,rfl,S0,L0⟩
 case round =>
  obtain ⟨k,b,o,rfl,rfl,hk,b0,b1,rfl,SI,AM⟩:=hrel;clear L0 S0;have TR:=zh (T3.out.keep AM.out);obtain ⟨ta,tb,tl⟩:=TR.out
  by_cases y:k<n
  ·have ky:decide ((k:Int)<(n:Int))=true:=zdt (by omega);have IR:=zh (I3.out.keep AM.out);obtain ⟨bi,off,rfl,bl,cs⟩:=peh_here IR.out (show k<(chL P A A).length by omega);have c0:=cs k (by omega);obtain ⟨r0,r1⟩:=BD.out k (by omega);have CD:Hid (caB P x ((chL P A A).getD k 0)=caB P x ((chL P A A).getD k 0)):=rfl;obtain ⟨k1,hk1⟩:∃ k1,k+1=k1:=⟨_,rfl⟩;clear cs;obtain ⟨r,hr⟩:∃ r,(chL P A A).getD k 0=r:=⟨_,rfl⟩;rw [hr] at c0 r0 r1;obtain ⟨d,hd⟩:∃ d,bs+r=d:=⟨_,rfl⟩
   by_cases ge:x≤d
   ·have kg:decide (x≤d)=true:=zdt ge;obtain ⟨c,hc⟩:∃ c,d - P=c:=⟨_,rfl⟩;replace CD:Hid (caB P x ((chL P A A).getD k 0)=c):=by
     show _=_;rw [hr];unfold caB;rw [hm,hbs,hd,if_pos ge];exact hc
    replace hr:=zh hr
    cases o
    ·have N:=zh (SI.out.up (.inl rfl));rw [CD.out,hk1] at N;go_wp2
     go_roundw
     case rel=>exact ⟨k1,c,true,rfl,rfl,by omega,by omega,by omega,by first | rfl | go_num,N,AM⟩
     case measure=>simp [intOf];omega
    ·by_cases z:b<c
     ·have kz:decide (b<c)=true:=zdt z;have N:=zh (SI.out.up (.inr (by rw [CD.out];exact z)));rw [CD.out,hk1] at N;go_wp2
      go_roundw
      case rel=>exact ⟨k1,c,true,rfl,rfl,by omega,by omega,by omega,by first | rfl | go_num,N,AM⟩
      case measure=>simp [intOf];omega
     ·have kz:decide (b<c)=false:=zdf z;have N:=zh (SI.out.stay rfl (by rw [CD.out];omega));rw [hk1] at N;go_wp2
      go_roundw
      case rel=>exact ⟨k1,b,true,rfl,rfl,by omega,by omega,by omega,by first | rfl | go_num,N,AM⟩
      case measure=>simp [intOf];omega
   ·have kg:decide (x≤d)=false:=zdf ge;obtain ⟨c,hc⟩:∃ c,d=c:=⟨_,rfl⟩;replace CD:Hid (caB P x ((chL P A A).getD k 0)=c):=by
     show _=_;rw [hr];unfold caB;rw [hm,hbs,hd,if_neg ge];exact hc
    replace hr:=zh hr;subst hc
    cases o
    ·have N:=zh (SI.out.up (.inl rfl));rw [CD.out,hk1] at N;go_wp2
     go_roundw
     case rel=>exact ⟨k1,d,true,rfl,rfl,by omega,by omega,by omega,by first | rfl | go_num,N,AM⟩
     case measure=>simp [intOf];omega
    ·by_cases z:b<d
     ·have kz:decide (b<d)=true:=zdt z;have N:=zh (SI.out.up (.inr (by rw [CD.out];exact z)));rw [CD.out,hk1] at N;go_wp2
      go_roundw
      case rel=>exact ⟨k1,d,true,rfl,rfl,by omega,by omega,by omega,by first | rfl | go_num,N,AM⟩
      case measure=>simp [intOf];omega
     ·have kz:decide (b<d)=false:=zdf z;have N:=zh (SI.out.stay rfl (by rw [CD.out];omega));rw [hk1] at N;go_wp2
      go_roundw
      case rel=>exact ⟨k1,b,true,rfl,rfl,by omega,by omega,by omega,by first | rfl | go_num,N,AM⟩
      case measure=>simp [intOf];omega
  ·have ky:decide ((k:Int)<(n:Int))=false:=zdf (by omega);obtain rfl:k=n:=by omega
   have A9:=zh (down A3.out AM.out);go_wp2
   go_ret2
   exact ⟨⟨_,_,rfl,FN.out _ _ SI.out,b0,b1⟩,A9.out⟩
set_option maxRecDepth 100000 in
set_option maxHeartbeats 4000000 in
theorem rtafter (va:Value) (P:Int) (A:List Sp) (pv:PV P A) (x:Int) (x0:-10000000000000≤x) (x1:x≤10000000000000) {ba:Nat} (w:World) (a:PairS ba w va A) :
  Calls Tryz.prog 97 #[.agg #[.int .i64 P,va],.int .i64 x] w fun e w'=>(∃ b o,e=.returned (.tuple #[.int .i64 b,.bool o])∧AfS (hsP P A) x o b∧-30000000000000≤b∧b≤30000000000000)∧Below w.heap.size w w':=by
 obtain ⟨oa,ca,rfl⟩:=prs_shape a;have A1:=zh (grow (here w) (.cells #[.int .i64 P,.slice oa A.length ca] 24));have TA:=zh (Two.new (t:=24) (x:=.int .i64 P) (y:=.slice oa A.length ca) (here (w.alloc (.cells #[.int .i64 P,.slice oa A.length ca] 24))));have PA1:=zh (a.keep A1.out);have p0:=pv.p0;have p1:=pv.p1;have CH:=zh (fun W (h:PairS ba W (.slice oa A.length ca) A)=>rtchanges _ P A pv W h);have MO:=zh (fun W=>by have h:=refmod_all x P (by omega) (by omega) (by omega) (by omega) W;rw [dR_pos (show 0<P by omega)] at h;exact h);have BD:Hid (∀ j,j<(chL P A A).length→0≤(chL P A A).getD j 0∧(chL P A A).getD j 0<P):=fun j hj=>⟨(ch_in pv (ints_mem hj)).1,(ch_in pv (ints_mem hj)).2.1⟩;have FN:Hid (∀ o b,AfI P x (chL P A A) (chL P A A).length o b→AfS (hsP P A) x o b):=fun o b h=>h.fin pv;have cl:=Nat.le_trans (ch_len P A A) (Nat.mul_le_mul_left 2 pv.len);clear a;obtain ⟨m,hm⟩:∃ m,x % P=m:=⟨_,rfl⟩;have m0:=Int.emod_nonneg x (show P≠0 by omega);have m1:=Int.emod_lt_of_pos x (show 0<P by omega);rw [hm] at m0 m1 MO;obtain ⟨bs,hbs⟩:∃ bs,x - m=bs:=⟨_,rfl⟩;obtain ⟨ta,tb,tl⟩:=TA.out
 go_enter Tryz.func97,Tryz.ntmps97
 go_wp2_with fail
 clear ta tb tl;generalize (w.alloc (.cells #[.int .i64 P,.slice oa A.length ca] 24))=w1 at *;refine (CH.out _ PA1.out).mono ?_;rintro e w2 ⟨⟨v,rfl,I1⟩,hb⟩;have A2:=zd A1 hb;have T2:=zh (TA.out.keep hb);obtain ⟨oi,ci,rfl⟩:=peh_shape I1;replace I1:=zh I1;clear hb CH PA1 TA A1;obtain ⟨ta,tb,tl⟩:=T2.out;go_wp2_with fail
 refine (MO.out _).mono ?_;rintro e w3' ⟨rfl,q,rfl⟩;obtain ⟨w3,hw3⟩:∃ w3,w2.drewN q=w3:=⟨_,rfl⟩;rw [hw3];have A3:Hid (Below w.heap.size w w3):=by show Below _ _ _;rw [← hw3];exact below_drewN A2.out q
 have T3:Hid (Two w3 w.heap.size (.int .i64 P) (.slice oa A.length ca)):=by show Two _ _ _ _;rw [← hw3];exact Two.drewN T2.out q
 have I3:Hid (IntS w1.heap.size w3 (.slice oi (chL P A A).length ci) (chL P A A)):=by show IntS _ _ _ _;rw [← hw3];exact I1.out.keep (below_drewN (here w2) q)
 clear hw3 A2 T2 I1 ta tb tl MO;have L0:=zh (here w3);have S0:=zh (af_start P x (chL P A A));obtain ⟨n,hn⟩:∃ n,(chL P A A).length=n:=⟨_,rfl⟩;rw [hn] at BD FN cl I3 ⊢;go_wp2
 go_loopw [8,9,10] (fun u v t wr=>∃ (k:Nat) (b:Int) (o:Bool),u=.int .i64 b∧v=.bool o∧k≤n∧-30000000000000≤b∧b≤30000000000000∧t=.int .i64 k∧Hid (AfI P x (chL P A A) k o b)∧Hid (Below w3.heap.size w3 wr)) (fun _ _ t _=>n - (intOf t).toNat)
 case atStart=>exact ⟨0,0,false,rfl,rfl,Nat.zero_le _,by omega,by omega,rfl,S0,L0⟩
 case round =>
  obtain ⟨k,b,o,rfl,rfl,hk,b0,b1,rfl,SI,AM⟩:=hrel;clear L0 S0;have TR:=zh (T3.out.keep AM.out);obtain ⟨ta,tb,tl⟩:=TR.out
  by_cases y:k<n
  ·have ky:decide ((k:Int)<(n:Int))=true:=zdt (by omega);have IR:=zh (I3.out.keep AM.out);obtain ⟨bi,off,rfl,bl,cs⟩:=peh_here IR.out (show k<(chL P A A).length by omega);have c0:=cs k (by omega);obtain ⟨r0,r1⟩:=BD.out k (by omega);have CD:Hid (caA P x ((chL P A A).getD k 0)=caA P x ((chL P A A).getD k 0)):=rfl;obtain ⟨k1,hk1⟩:∃ k1,k+1=k1:=⟨_,rfl⟩;clear cs;obtain ⟨r,hr⟩:∃ r,(chL P A A).getD k 0=r:=⟨_,rfl⟩;rw [hr] at c0 r0 r1;obtain ⟨d,hd⟩:∃ d,bs+r=d:=⟨_,rfl⟩
   by_cases ge:d≤x
   ·have kg:decide (d≤x)=true:=zdt ge;obtain ⟨c,hc⟩:∃ c,d+P=c:=⟨_,rfl⟩;replace CD:Hid (caA P x ((chL P A A).getD k 0)=c):=by
     show _=_;rw [hr];unfold caA;rw [hm,hbs,hd,if_pos ge];exact hc
    replace hr:=zh hr
    cases o
    ·have N:=zh (SI.out.up (.inl rfl));rw [CD.out,hk1] at N;go_wp2
     go_roundw
     case rel=>exact ⟨k1,c,true,rfl,rfl,by omega,by omega,by omega,by first | rfl | go_num,N,AM⟩
     case measure=>simp [intOf];omega
    ·by_cases z:c<b
     ·have kz:decide (c<b)=true:=zdt z;have N:=zh (SI.out.up (.inr (by rw [CD.out];exact z)));rw [CD.out,hk1] at N;go_wp2
      go_roundw
      case rel=>exact ⟨k1,c,true,rfl,rfl,by omega,by omega,by omega,by first | rfl | go_num,N,AM⟩
      case measure=>simp [intOf];omega
     ·have kz:decide (c<b)=false:=zdf z;have N:=zh (SI.out.stay rfl (by rw [CD.out];omega));rw [hk1] at N;go_wp2
      go_roundw
      case rel=>exact ⟨k1,b,true,rfl,rfl,by omega,by omega,by omega,by first | rfl | go_num,N,AM⟩
      case measure=>simp [intOf];omega
   ·have kg:decide (d≤x)=false:=zdf ge;obtain ⟨c,hc⟩:∃ c,d=c:=⟨_,rfl⟩;replace CD:Hid (caA P x ((chL P A A).getD k 0)=c):=by
     show _=_;rw [hr];unfold caA;rw [hm,hbs,hd,if_neg ge];exact hc
    replace hr:=zh hr;subst hc
    cases o
    ·have N:=zh (SI.out.up (.inl rfl));rw [CD.out,hk1] at N;go_wp2
     go_roundw
     case rel=>exact ⟨k1,d,true,rfl,rfl,by omega,by omega,by omega,by first | rfl | go_num,N,AM⟩
     case measure=>simp [intOf];omega
    ·by_cases z:d<b
     ·have kz:decide (d<b)=true:=zdt z;have N:=zh (SI.out.up (.inr (by rw [CD.out];exact z)));rw [CD.out,hk1] at N;go_wp2
      go_roundw
      case rel=>exact ⟨k1,d,true,rfl,rfl,by omega,by omega,by omega,by first | rfl | go_num,N,AM⟩
      case measure=>simp [intOf];omega
     ·have kz:decide (d<b)=false:=zdf z;have N:=zh (SI.out.stay rfl (by rw [CD.out];omega));rw [hk1] at N;go_wp2
      go_roundw
      case rel=>exact ⟨k1,b,true,rfl,rfl,by omega,by omega,by omega,by first | rfl | go_num,N,AM⟩
      case measure=>simp [intOf];omega
  ·have ky:decide ((k:Int)<(n:Int))=false:=zdf (by omega);obtain rfl:k=n:=by omega
   have A9:=zh (down A3.out AM.out);go_wp2
   go_ret2
   exact ⟨⟨_,_,rfl,FN.out _ _ SI.out,b0,b1⟩,A9.out⟩
end Go.Proofs.YtmamlgaogpkagaaGreat
namespace Go.Proofs.YtmamlgaogpkagaaGreat
set_option linter.unusedVariables false
set_option linter.unusedSimpArgs false
theorem pq_co {P Q:Int} {A B:List Sp} (p:PV P A) (q:PV Q B) (ne:¬ (P=Q∧A=B)):(coR 3 P A Q B).2=pqE P A Q B:=by
 unfold coR pqE
 rw [if_pos (by rw [pv_iff.2 p,pv_iff.2 q];rfl),if_neg ne]
 by_cases e:(prR P Q A.length B.length).2=0
 ·rw [if_pos e,e];have c:=co_facts (k:=3) (by decide) (by decide) p q e
  unfold pfR
  rw [if_neg];have l:=le_lst c.m0 (f:=fun x=>kpB 3 (hsP P A x) (hsP Q B x)) (fun x=>by show kpB _ _ _=kpB _ _ _;rw [c.pm x,c.qm x]);have d:=Int.le_of_dvd c.m0 l.dvd;have m:=len_mono' (fun x=>kpB 3 (hsP P A x) (hsP Q B x)) (a:=0) d;rw [← c.ec] at m;have:=c.lc
  show ¬ 2000<(caL _ 0 _).length
  omega
 ·rw [if_neg e]
noncomputable def paE (P:Int) (A:List Sp) (Q:Int) (B:List Sp):Int:=if pvB P A&&pvB Q B then pqE P A Q B else 1
theorem paE_eq (P:Int) (A:List Sp) (Q:Int) (B:List Sp):paE P A Q B=if (pvB P A&&decide (P=Q)&&(A==B))=true then 0 else (coR 3 P A Q B).2:=by
 unfold paE
 by_cases p:pvB P A=true
 ·by_cases q:pvB Q B=true
  ·rw [if_pos (by rw [p,q];rfl)]
   by_cases e:P=Q∧A=B
   ·rw [if_pos (by rw [p,zdt e.1,beq_iff_eq.2 e.2];rfl)]
    unfold pqE;rw [if_pos e]
   ·rw [if_neg (fun h=>e (by simp only [Bool.and_eq_true,decide_eq_true_eq,beq_iff_eq] at h;exact ⟨h.1.2,h.2⟩))];exact (pq_co (pv_iff.1 p) (pv_iff.1 q) e).symm
  ·have q':pvB Q B=false:=by cases z:pvB Q B <;> simp_all
   rw [if_neg (by rw [q',Bool.and_false];simp)];rw [if_neg (fun h=>by simp only [Bool.and_eq_true,decide_eq_true_eq,beq_iff_eq] at h;obtain ⟨⟨h1,h2⟩,h3⟩:=h;rw [← h2,← h3,p] at q';cases q')]
   unfold coR
   rw [if_neg (by rw [q',Bool.and_false];simp)]
 ·have p':pvB P A=false:=by cases z:pvB P A <;> simp_all
  rw [if_neg (by rw [p',Bool.false_and];simp),if_neg (by rw [p',Bool.false_and,Bool.false_and];simp)]
  unfold coR
  rw [if_neg (by rw [p',Bool.false_and];simp)]
theorem pqE_not1 (P:Int) (A:List Sp) (Q:Int) (B:List Sp):pqE P A Q B=0∨pqE P A Q B=5∨pqE P A Q B=9:=by
 unfold pqE prR
 split
 ·exact Or.inl rfl
 ·split
  ·split
   ·exact Or.inr (Or.inl rfl)
   ·exact Or.inl rfl
  ·exact Or.inr (Or.inr rfl)
theorem paE_cases (P:Int) (A:List Sp) (Q:Int) (B:List Sp):paE P A Q B=0∨paE P A Q B=1∨paE P A Q B=5∨paE P A Q B=9:=by
 unfold paE
 split
 ·have:=pqE_not1 P A Q B;omega
 ·omega
theorem paE_1 {P Q:Int} {A B:List Sp}:paE P A Q B≠1↔PV P A∧PV Q B:=by
 unfold paE
 rw [← pv_iff,← pv_iff,← Bool.and_eq_true]
 by_cases c:(pvB P A&&pvB Q B)=true
 ·rw [if_pos c];have:=pqE_not1 P A Q B;exact ⟨fun _=>c,fun _=>by omega⟩
 ·rw [if_neg c];exact ⟨fun h=>absurd rfl h,fun h=>absurd h c⟩
theorem paE_pq {P Q:Int} {A B:List Sp} (p:PV P A) (q:PV Q B):paE P A Q B=pqE P A Q B:=by
 unfold paE;rw [if_pos (by rw [pv_iff.2 p,pv_iff.2 q];rfl)]
def ilB (l:List Sp) (lo hi:Int):Bool:=nvB lo&&nvB hi&&decide (lo≤hi)&&vaB l&&(decide (l.length=0) || (decide (lo≤(l.getD 0 (0,0)).1)&&decide ((l.getD (l.length - 1) (0,0)).2≤hi)))
theorem giv_il {P Q lo hi:Int} {A B l:List Sp}:Giv P A Q B lo hi l↔paE P A Q B≠1∧ilB l lo hi=true:=by
 rw [← giv_iff,paE_1,← pv_iff,← pv_iff]
 unfold givB ilB
 simp only [Bool.and_eq_true,Bool.or_eq_true,decide_eq_true_eq]
 constructor
 ·rintro ⟨a,b,c,d,e,f,g⟩;exact ⟨⟨d,e⟩,⟨⟨⟨b,c⟩,a⟩,f⟩,g⟩
 ·rintro ⟨⟨d,e⟩,⟨⟨⟨b,c⟩,a⟩,f⟩,g⟩;exact ⟨a,b,c,d,e,f,g⟩
theorem to_eq (P:Int) (A:List Sp) (Q:Int) (B:List Sp) (lo hi:Int) (l:List Sp):toR P A Q B lo hi l=if paE P A Q B=1∨ilB l lo hi=false then (tsZ,1) else if paE P A Q B≠0 then (tsZ,paE P A Q B) else frT P A Q B (gvF P A Q B lo hi l):=by
 unfold toR
 by_cases g:Giv P A Q B lo hi l
 ·obtain ⟨g1,g2⟩:=giv_il.1 g;rw [if_pos (giv_iff.2 g),if_neg (by rintro (h | h);exact g1 h;rw [g2] at h;cases h),paE_pq g.p g.q]
  split
  ·exact fr_pair (by assumption)
  ·rfl
 ·rw [if_neg (fun h=>g (giv_iff.1 h)),if_pos]
  by_cases a:paE P A Q B=1
  ·exact Or.inl a
  ·refine Or.inr ?_
   cases b:ilB l lo hi
   ·rfl
   ·exact absurd (giv_il.2 ⟨a,b⟩) g
theorem vs_eq (s:TS):vsB s=(decide (paE s.P s.A s.Q s.B=0)&&ilB s.L s.a s.b&&vdB s):=by
 by_cases g:Giv s.P s.A s.Q s.B s.a s.b s.L
 ·obtain ⟨g1,g2⟩:=giv_il.1 g;rw [g2,Bool.and_true,paE_pq g.p g.q]
  by_cases e:pqE s.P s.A s.Q s.B=0
  ·rw [zdt e,Bool.true_and];exact vd_ok g e
  ·rw [zdf e,Bool.false_and]
   cases v:vsB s
   ·rfl
   ·exact absurd (vs_ok.1 v).pq e
 ·have v:vsB s=false:=by
   cases v:vsB s
   ·rfl
   ·exact absurd (vs_ok.1 v).g g
  rw [v]
  cases c:(decide (paE s.P s.A s.Q s.B=0)&&ilB s.L s.a s.b)
  ·rfl
  ·rw [Bool.and_eq_true,decide_eq_true_eq] at c;exact absurd (giv_il.2 ⟨by omega,c.2⟩) g
end Go.Proofs.YtmamlgaogpkagaaGreat
