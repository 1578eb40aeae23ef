/- PeGA PeGB. -/
import Derived.Test.YtmamlgaogpkagaaGreatZLPlain
import Derived.Test.YtmamlgaogpkagaaGreatZLGen
import Derived.Test.YtmamlgaogpkagaaGreatZLSl
import Derived.Test.YtmamlgaogpkagaaGreatZLOwn
import Derived.Test.YtmamlgaogpkagaaGreatZRnP
import Derived.Test.YtmamlgaogpkagaaGreatZPeR
import Derived.Test.YtmamlgaogpkagaaGreatZRnV
import Derived.Test.YtmamlgaogpkagaaGreatZPeB
import Derived.Test.YtmamlgaogpkagaaGreatZPeF
import Derived.Deep.AppendLies
namespace Go.Proofs.YtmamlgaogpkagaaGreat
open Go.RowKit
set_option linter.unusedVariables false
set_option linter.unusedSimpArgs false
theorem lo_snoc (P m:Int) (A:List Sp) (q:Sp):loL P m (A++[q])=loL P m A++(if P<q.2+m then [((if q.1+m<P then P else q.1+m) - P,q.2+m - P)] else []):=by
 unfold loL
 by_cases h:P<q.2+m
 ·simp [List.filter_append,h]
 ·simp [List.filter_append,h]
theorem hi_snoc (P m:Int) (A:List Sp) (q:Sp):hiL P m (A++[q])=hiL P m A++(if q.1+m<P then [(q.1+m,if P<q.2+m then P else q.2+m)] else []):=by
 unfold hiL
 by_cases h:q.1+m<P
 ·simp [List.filter_append,h]
 ·simp [List.filter_append,h]
theorem lo_len (P m:Int) (A:List Sp):(loL P m A).length≤A.length:=by unfold loL;rw [List.length_map];exact List.length_filter_le _ _
theorem hi_len (P m:Int) (A:List Sp):(hiL P m A).length≤A.length:=by unfold hiL;rw [List.length_map];exact List.length_filter_le _ _
def Apart (u v:Value):Prop:=∀ g,u.ownBlock=some g→v.ownBlock≠some g
theorem apart_kept {w w':World} {B:Nat} {e:TypeId} {size:Nat} {u v:Value} {n:Nat} {xs:List Value} (h:w.ownsRow B e size u n xs) (a:Apart u v) (hg:w.grownBy w' v.ownBlock):w'.ownsRow B e size u n xs:=by
 refine h.kept hg ?_
 cases q:u.ownBlock with
 | none=>exact .inl rfl
 | some g=>exact .inr (by have:=a g q;exact fun z=>this z.symm)
set_option maxRecDepth 100000 in
set_option maxHeartbeats 2000000 in
theorem rprotated (v:Value) (P:Int) (L:List Sp) (n:Int) (hL:L.length≤20000) (cn:Cn L) (ip:InP P L) (P0:0<P) (P1:P≤12622780800) (hn:I64 n) {ba:Nat} (w:World) (h:PairS ba w v L) :
  Calls Tryz.prog 139 #[v,.int .i64 P,.int .i64 n] w fun e w'=>(∃ v',e=.returned v'∧PairS 0 w' v' (roL P n L)∧(v'=v∨PairS w.heap.size w' v' (roL P n L)))∧Below w.heap.size w w':=by
 obtain ⟨i0,hi,hz0,hz1,hz2⟩:=info_parts infoS;have HM:=zh (fun w=>refmod_all n P hn.1 hn.2 (by omega) (by omega) w);rw [dR_pos P0] at HM;have m0:=Int.emod_nonneg n (show P≠0 by omega);have m1:=Int.emod_lt_of_pos n P0;have rv:roL P n L=if n % P=0 then L else cbL 1 (loL P (n % P) L) (hiL P (n % P) L):=rfl;rw [rv];clear rv;generalize n % P=m at *;obtain ⟨o,c,rfl⟩:=prs_shape h;have PL:=zh h;clear h;have AT:=zh (fun k hk=>pe_at cn ip (k:=k) hk);have HL:Hid (∀ W v1 v2,∀ {b1 b2:Nat},PairS b1 W v1 (loL P m L)→PairS b2 W v2 (hiL P m L)→Calls Tryz.prog 83 #[v1,v2,.int .i64 0] W fun e w'=>(∃ v',e=.returned v'∧PairS W.heap.size w' v' (cbL 1 (loL P m L) (hiL P m L)))∧Below W.heap.size W w'):=fun W v1 v2 _ _ h1 h2=>rplists v1 v2 _ _ (by have:=lo_len P m L;omega) (by have:=hi_len P m L;omega) (lo_cn P m cn) (hi_cn P m cn) 0 (by omega) (by omega) W h1 h2;clear cn ip;obtain ⟨N,hl⟩:∃ N,L.length=N:=⟨_,rfl⟩;rw [hl] at hL PL AT ⊢
 by_cases z:m=0
 ·have kz:(m==0)=true:=beq_iff_eq.2 z;rw [if_pos z];clear z HL AT
  go_enter Tryz.func139,Tryz.ntmps139
  go_wp2_with fail
  refine (HM.out _).mono ?_;rintro e W0 ⟨rfl,d,hW⟩;have A0:Hid (Below w.heap.size w W0):=by show Below _ _ _;rw [hW];exact below_drewN (here w) d
  have P0':Hid (PairS 0 W0 (.slice o N c) L):=by show PairS _ _ _ _;exact (PL.out.keep A0.out).weak (Nat.zero_le _)
  clear hW;go_wp2
  go_ret
  exact ⟨⟨_,rfl,P0'.out,.inl (by rfl)⟩,A0.out⟩
 ·have kz:(m==0)=false:=by rw [beq_eq_false_iff_ne];exact z
  rw [if_neg z];clear z
  go_enter Tryz.func139,Tryz.ntmps139
  go_wp2_with fail
  refine (HM.out _).mono ?_;rintro e W0 ⟨rfl,d,hW⟩;have A0:Hid (Below w.heap.size w W0):=by show Below _ _ _;rw [hW];exact below_drewN (here w) d
  replace PL:Hid (PairS ba W0 (.slice o N c) L):=by show PairS _ _ _ _;exact (PL.out.keep A0.out)
  clear hW HM;have I1:Hid (W0.ownsRow W0.heap.size 40 2 (.slice none 0 0) (loL P m (L.take 0)).length (pairs (loL P m (L.take 0)))):=World.ownsRow_nil _ _ _ _;have I2:Hid (W0.ownsRow W0.heap.size 40 2 (.slice none 0 0) (hiL P m (L.take 0)).length (pairs (hiL P m (L.take 0)))):=World.ownsRow_nil _ _ _ _;have I3:Hid (Apart (.slice none 0 0) (.slice none 0 0)):=fun g hg=>by cases hg
  have I4:Hid (Below W0.heap.size W0 W0):=here W0;go_wp2
  go_loopw [8,9,10] (fun u1 u2 i wr=>∃ (k:Nat) (v1 v2:Value),v1=u1∧v2=u2∧k≤N∧i=.int .i64 k∧Hid (wr.ownsRow W0.heap.size 40 2 u1 (loL P m (L.take k)).length (pairs (loL P m (L.take k))))∧Hid (wr.ownsRow W0.heap.size 40 2 u2 (hiL P m (L.take k)).length (pairs (hiL P m (L.take k))))∧Hid (Apart u1 u2)∧Hid (Below W0.heap.size W0 wr)) (fun _ _ i _=>N - (intOf i).toNat)
  case atStart=>exact ⟨0,_,_,rfl,rfl,Nat.zero_le _,rfl,I1,I2,I3,I4⟩
  case round =>
   obtain ⟨k,v1,v2,rfl,rfl,hk,rfl,O1,O2,AP,A6⟩:=hrel;clear I1 I2 I3 I4;have HP:=zh (PL.out.keep A6.out)
   by_cases z:k<N
   ·have kz1:decide ((k:Int)<(N:Int))=true:=zdt (by omega);obtain ⟨b,off,rfl,bl,cs⟩:=prs_here HP.out (show k<L.length by omega);obtain ⟨c0,c1⟩:=cs k (by omega);obtain ⟨k1,hk1⟩:∃ k1,k+1=k1:=⟨_,rfl⟩;have e1:=lo_snoc P m (L.take k) (L.getD k (0,0));have e2:=hi_snoc P m (L.take k) (L.getD k (0,0));rw [← tak_snoc L (show k<L.length by omega),hk1] at e1 e2;have at0:=AT.out k (by omega);have l1:=lo_len P m (L.take k);have l2:=hi_len P m (L.take k);have lt0:(L.take k).length≤k:=by rw [List.length_take];omega
    clear cs;generalize L.getD k (0,0)=p at *;obtain ⟨gx,gy⟩:=p;replace c0:wr.cell? ⟨b,off+k * 2,none⟩=some (.int .i64 gx):=c0;replace c1:wr.cell? ⟨b,off+k * 2+1,none⟩=some (.int .i64 gy):=c1;replace at0:0≤gx∧gx<gy∧gy≤P:=at0;obtain ⟨x,hx⟩:∃ x,gx+m=x:=⟨_,rfl⟩;obtain ⟨y,hy⟩:∃ y,gy+m=y:=⟨_,rfl⟩;replace e1:loL P m (L.take k1)=loL P m (L.take k)++(if P<gy+m then [((if gx+m<P then P else gx+m) - P,gy+m - P)] else []):=e1;replace e2:hiL P m (L.take k1)=hiL P m (L.take k)++(if gx+m<P then [(gx+m,if P<gy+m then P else gy+m)] else []):=e2;rw [hx,hy] at e1 e2;have xb:0≤x∧x<2 * P∧x<y∧y≤2 * P:=by omega
    obtain ⟨rl,hrl⟩:∃ r,loL P m (L.take k)=r:=⟨_,rfl⟩;obtain ⟨rh,hrh⟩:∃ r,hiL P m (L.take k)=r:=⟨_,rfl⟩;rw [hrl] at e1 O1 l1;rw [hrh] at e2 O2 l2;obtain ⟨n1,hn1⟩:∃ n1,rl.length=n1:=⟨_,rfl⟩;obtain ⟨n2,hn2⟩:∃ n2,rh.length=n2:=⟨_,rfl⟩;rw [hn1] at O1 l1;rw [hn2] at O2 l2;replace hn1:=zh hn1;replace hn2:=zh hn2;clear hrl hrh;go_wp2
    go_quiet (fail)
    obtain ⟨w6,hw6⟩:∃ w6,wr.drewN nq=w6:=⟨_,rfl⟩;replace O1:Hid (w6.ownsRow W0.heap.size 40 2 v1 n1 (pairs rl)):=by show World.ownsRow _ _ _ _ _ _ _;rw [← hw6];exact O1.out
    replace O2:Hid (w6.ownsRow W0.heap.size 40 2 v2 n2 (pairs rh)):=by show World.ownsRow _ _ _ _ _ _ _;rw [← hw6];exact O2.out
    replace A6:Hid (Below W0.heap.size W0 w6):=by show Below _ _ _;rw [← hw6];exact below_drewN A6.out nq
    rw [hw6];clear hw6 c0 c1 bl HP hx hy;have LEN1:∀ (x y:Int),(rl++[(x,y)]).length=n1+1:=fun x y=>by rw [List.length_append,hn1.out];rfl
    have LEN2:∀ (x y:Int),(rh++[(x,y)]).length=n2+1:=fun x y=>by rw [List.length_append,hn2.out];rfl
    have cN:n1≤20000∧n2≤20000:=by omega
    have apSym:∀ u v,Apart u v→Apart v u:=fun u v h g hg q=>h g q hg;clear l1 l2 lt0
    by_cases xl:x<P
    ·have kx:=zdt xl;obtain ⟨t,ht⟩:∃ t,(if P<y then P else y)=t:=⟨_,rfl⟩;have ht2:min y P=t:=by rw [← ht];split <;> omega
     have tb:0≤t∧t≤P:=by rw [← ht];split <;> omega
     rw [if_pos xl,ht] at e2;rw [if_pos xl,Int.sub_self] at e1;have hmx:(if x<P then P else x)=P:=if_pos xl;have hmx2:max x P=P:=by omega
     have pp:P - P=0:=Int.sub_self P;replace e2:=zh e2
     by_cases yl:P<y
     ·have ky:=zdt yl;obtain ⟨ya,hya⟩:∃ ya,y - P=ya:=⟨_,rfl⟩;have yab:0≤ya∧ya≤20000000000:=by omega
      rw [if_pos yl,hya] at e1;replace e1:=zh e1;clear xl yl;have Z1:=zh (O2.out.alloc (.cells #[.int .i64 x,.int .i64 t] 40));have Z2:Hid (∀ (j:Nat) (u:Value),[Value.int .i64 x,.int .i64 t][j]?=some u→(w6.alloc (.cells #[.int .i64 x,.int .i64 t] 40)).cell? ((⟨w6.heap.size,0,none⟩:Addr).add j)=some u):=fun j u hj=>by rw [Addr.add_lit,Nat.zero_add,World.cell?_alloc_new];simpa using hj
      have Z3:Hid (∀ u∈[Value.int .i64 x,.int .i64 t],u.oneCell'=true):=fun u hu=>by simp at hu;rcases hu with rfl | rfl <;> rfl
      have Z5:Hid (n2+1≤maxLen):=by show _≤_;unfold maxLen;omega
      have Z6:Hid ((n2+1) * 16≤140737488355328):=by show _≤_;omega
      have Z4:Hid (W0.heap.size≤(w6.alloc (.cells #[.int .i64 x,.int .i64 t] 40)).heap.size):=by show _≤_;have:=A6.out.size;simp;omega
      have Z7:=zh (O1.out.alloc (.cells #[.int .i64 x,.int .i64 t] 40));have Z8:=zh (grow A6.out (.cells #[.int .i64 x,.int .i64 t] 40));clear O2 O1 A6;go_wp2_with (at_builtin;refine wpList_append_lies _ rfl _ _ 22 rfl W0.heap.size 40 i0 (.agg #[.int .i64 0,.int .i64 0]) 2 16 Tryz.underlying22 hi hz0 hz1 hz2 rfl (by decide) (v2) (n2) (pairs (rh)) rfl Z1.out ⟨w6.heap.size,0,none⟩ 1 1 [.int .i64 x,.int .i64 t] rfl rfl Z2.out Z3.out (Nat.succ_pos 0) Z5.out Z6.out Z4.out _ rfl ?_)
      intro g7 cap7 w7 hown hgrow hor hlt;have A6:Hid (Below W0.heap.size W0 w7):=Z8.out.grown hgrow Z4.out (own_ge Z1.out);have O1:Hid (w7.ownsRow W0.heap.size 40 2 v1 n1 (pairs rl)):=apart_kept Z7.out AP.out hgrow;have O2:Hid (w7.ownsRow W0.heap.size 40 2 (.slice (some ⟨g7,0,none⟩) (n2+1) cap7) (n2+1) (pairs (rh++[(x,t)]))):=by show World.ownsRow _ _ _ _ _ _ _;rw [pairs_append];exact hown
      have FRESH:∀ u n' xs,(w6.alloc (.cells #[.int .i64 x,.int .i64 t] 40)).ownsRow W0.heap.size 40 2 u n' xs→Apart u (v2)→Apart u (.slice (some ⟨g7,0,none⟩) (n2+1) cap7):=fun u n' xs ho ha g hg q=>by
       replace q:g7=g:=by injection q
       subst q
       rcases hor with h | h
       ·exact ha _ hg h
       ·have:=(ho.lt _ hg).2;simp at this;omega
      have NA:=FRESH _ _ _ Z7.out AP.out;clear hown hgrow Z1 Z2 Z3 Z4 Z5 Z6 Z7 Z8 FRESH hor hlt;have AP7:=zh (apSym _ _ NA);clear AP NA;have Z1:=zh (O1.out.alloc (.cells #[.int .i64 0,.int .i64 ya] 40));have Z2:Hid (∀ (j:Nat) (u:Value),[Value.int .i64 0,.int .i64 ya][j]?=some u→(w7.alloc (.cells #[.int .i64 0,.int .i64 ya] 40)).cell? ((⟨w7.heap.size,0,none⟩:Addr).add j)=some u):=fun j u hj=>by rw [Addr.add_lit,Nat.zero_add,World.cell?_alloc_new];simpa using hj
      have Z3:Hid (∀ u∈[Value.int .i64 0,.int .i64 ya],u.oneCell'=true):=fun u hu=>by simp at hu;rcases hu with rfl | rfl <;> rfl
      have Z5:Hid (n1+1≤maxLen):=by show _≤_;unfold maxLen;omega
      have Z6:Hid ((n1+1) * 16≤140737488355328):=by show _≤_;omega
      have Z4:Hid (W0.heap.size≤(w7.alloc (.cells #[.int .i64 0,.int .i64 ya] 40)).heap.size):=by show _≤_;have:=A6.out.size;simp;omega
      have Z7:=zh (O2.out.alloc (.cells #[.int .i64 0,.int .i64 ya] 40));have Z8:=zh (grow A6.out (.cells #[.int .i64 0,.int .i64 ya] 40));clear O1 O2 A6;go_wp2_with (at_builtin;refine wpList_append_lies _ rfl _ _ 22 rfl W0.heap.size 40 i0 (.agg #[.int .i64 0,.int .i64 0]) 2 16 Tryz.underlying22 hi hz0 hz1 hz2 rfl (by decide) (v1) (n1) (pairs (rl)) rfl Z1.out ⟨w7.heap.size,0,none⟩ 1 1 [.int .i64 0,.int .i64 ya] rfl rfl Z2.out Z3.out (Nat.succ_pos 0) Z5.out Z6.out Z4.out _ rfl ?_)
      intro g8 cap8 w8 hown hgrow hor hlt;have A6:Hid (Below W0.heap.size W0 w8):=Z8.out.grown hgrow Z4.out (own_ge Z1.out);have O2:Hid (w8.ownsRow W0.heap.size 40 2 (.slice (some ⟨g7,0,none⟩) (n2+1) cap7) (n2+1) (pairs (rh++[(x,t)]))):=apart_kept Z7.out AP7.out hgrow;have O1:Hid (w8.ownsRow W0.heap.size 40 2 (.slice (some ⟨g8,0,none⟩) (n1+1) cap8) (n1+1) (pairs (rl++[(0,ya)]))):=by show World.ownsRow _ _ _ _ _ _ _;rw [pairs_append];exact hown
      have FRESH:∀ u n' xs,(w7.alloc (.cells #[.int .i64 0,.int .i64 ya] 40)).ownsRow W0.heap.size 40 2 u n' xs→Apart u (v1)→Apart u (.slice (some ⟨g8,0,none⟩) (n1+1) cap8):=fun u n' xs ho ha g hg q=>by
       replace q:g8=g:=by injection q
       subst q
       rcases hor with h | h
       ·exact ha _ hg h
       ·have:=(ho.lt _ hg).2;simp at this;omega
      have NA:=FRESH _ _ _ Z7.out AP7.out;clear hown hgrow Z1 Z2 Z3 Z4 Z5 Z6 Z7 Z8 FRESH hor hlt;have AP8:=zh (apSym _ _ NA);clear AP7 NA;have W1:Hid (w8.ownsRow W0.heap.size 40 2 (.slice (some ⟨g8,0,none⟩) (n1+1) cap8) (loL P m (L.take k1)).length (pairs (loL P m (L.take k1)))):=by show World.ownsRow _ _ _ _ _ _ _;rw [e1.out,LEN1];exact O1.out
      have W2:Hid (w8.ownsRow W0.heap.size 40 2 (.slice (some ⟨g7,0,none⟩) (n2+1) cap7) (hiL P m (L.take k1)).length (pairs (hiL P m (L.take k1)))):=by show World.ownsRow _ _ _ _ _ _ _;rw [e2.out,LEN2];exact O2.out
      have W3:Hid (Apart (.slice (some ⟨g8,0,none⟩) (n1+1) cap8) (.slice (some ⟨g7,0,none⟩) (n2+1) cap7)):=AP8.out;clear O1 O2 e1 e2 LEN1 LEN2;go_wp2
      go_roundw
      case rel=>exact ⟨k1,_,_,rfl,rfl,by omega,by first | rfl | (congr 1;omega) | go_num,W1,W2,W3,A6⟩
      case measure=>simp [intOf];omega
     ·have ky:=zdf yl;rw [if_neg yl,List.append_nil] at e1;replace e1:=zh e1;clear xl yl;have Z1:=zh (O2.out.alloc (.cells #[.int .i64 x,.int .i64 t] 40));have Z2:Hid (∀ (j:Nat) (u:Value),[Value.int .i64 x,.int .i64 t][j]?=some u→(w6.alloc (.cells #[.int .i64 x,.int .i64 t] 40)).cell? ((⟨w6.heap.size,0,none⟩:Addr).add j)=some u):=fun j u hj=>by rw [Addr.add_lit,Nat.zero_add,World.cell?_alloc_new];simpa using hj
      have Z3:Hid (∀ u∈[Value.int .i64 x,.int .i64 t],u.oneCell'=true):=fun u hu=>by simp at hu;rcases hu with rfl | rfl <;> rfl
      have Z5:Hid (n2+1≤maxLen):=by show _≤_;unfold maxLen;omega
      have Z6:Hid ((n2+1) * 16≤140737488355328):=by show _≤_;omega
      have Z4:Hid (W0.heap.size≤(w6.alloc (.cells #[.int .i64 x,.int .i64 t] 40)).heap.size):=by show _≤_;have:=A6.out.size;simp;omega
      have Z7:=zh (O1.out.alloc (.cells #[.int .i64 x,.int .i64 t] 40));have Z8:=zh (grow A6.out (.cells #[.int .i64 x,.int .i64 t] 40));clear O2 O1 A6;go_wp2_with (at_builtin;refine wpList_append_lies _ rfl _ _ 22 rfl W0.heap.size 40 i0 (.agg #[.int .i64 0,.int .i64 0]) 2 16 Tryz.underlying22 hi hz0 hz1 hz2 rfl (by decide) (v2) (n2) (pairs (rh)) rfl Z1.out ⟨w6.heap.size,0,none⟩ 1 1 [.int .i64 x,.int .i64 t] rfl rfl Z2.out Z3.out (Nat.succ_pos 0) Z5.out Z6.out Z4.out _ rfl ?_)
      intro g7 cap7 w7 hown hgrow hor hlt;have A6:Hid (Below W0.heap.size W0 w7):=Z8.out.grown hgrow Z4.out (own_ge Z1.out);have O1:Hid (w7.ownsRow W0.heap.size 40 2 v1 n1 (pairs rl)):=apart_kept Z7.out AP.out hgrow;have O2:Hid (w7.ownsRow W0.heap.size 40 2 (.slice (some ⟨g7,0,none⟩) (n2+1) cap7) (n2+1) (pairs (rh++[(x,t)]))):=by show World.ownsRow _ _ _ _ _ _ _;rw [pairs_append];exact hown
      have FRESH:∀ u n' xs,(w6.alloc (.cells #[.int .i64 x,.int .i64 t] 40)).ownsRow W0.heap.size 40 2 u n' xs→Apart u (v2)→Apart u (.slice (some ⟨g7,0,none⟩) (n2+1) cap7):=fun u n' xs ho ha g hg q=>by
       replace q:g7=g:=by injection q
       subst q
       rcases hor with h | h
       ·exact ha _ hg h
       ·have:=(ho.lt _ hg).2;simp at this;omega
      have NA:=FRESH _ _ _ Z7.out AP.out;clear hown hgrow Z1 Z2 Z3 Z4 Z5 Z6 Z7 Z8 FRESH hor hlt;have AP7:=zh NA;clear AP NA;have W1:Hid (w7.ownsRow W0.heap.size 40 2 (v1) (loL P m (L.take k1)).length (pairs (loL P m (L.take k1)))):=by show World.ownsRow _ _ _ _ _ _ _;rw [e1.out,hn1.out];exact O1.out
      have W2:Hid (w7.ownsRow W0.heap.size 40 2 (.slice (some ⟨g7,0,none⟩) (n2+1) cap7) (hiL P m (L.take k1)).length (pairs (hiL P m (L.take k1)))):=by show World.ownsRow _ _ _ _ _ _ _;rw [e2.out,LEN2];exact O2.out
      have W3:Hid (Apart (v1) (.slice (some ⟨g7,0,none⟩) (n2+1) cap7)):=AP7.out;clear O1 O2 e1 e2 LEN1 LEN2;go_wp2
      go_roundw
      case rel=>exact ⟨k1,_,_,rfl,rfl,by omega,by first | rfl | (congr 1;omega) | go_num,W1,W2,W3,A6⟩
      case measure=>simp [intOf];omega
    ·have kx:=zdf xl;have yl:P<y:=by omega
     have ky:=zdt yl;have hmx:(if x<P then P else x)=x:=if_neg xl;have hmx2:max x P=x:=by omega
     obtain ⟨xa,hxa⟩:∃ xa,x - P=xa:=⟨_,rfl⟩;obtain ⟨ya,hya⟩:∃ ya,y - P=ya:=⟨_,rfl⟩;have yab:0≤xa∧xa≤20000000000∧0≤ya∧ya≤20000000000:=by omega
     rw [if_pos yl,if_neg xl,hya,hxa] at e1;rw [if_neg xl,List.append_nil] at e2;replace e1:=zh e1;replace e2:=zh e2;have AP6:=zh (apSym _ _ AP.out);clear xl yl AP;have Z1:=zh (O1.out.alloc (.cells #[.int .i64 xa,.int .i64 ya] 40));have Z2:Hid (∀ (j:Nat) (u:Value),[Value.int .i64 xa,.int .i64 ya][j]?=some u→(w6.alloc (.cells #[.int .i64 xa,.int .i64 ya] 40)).cell? ((⟨w6.heap.size,0,none⟩:Addr).add j)=some u):=fun j u hj=>by rw [Addr.add_lit,Nat.zero_add,World.cell?_alloc_new];simpa using hj
     have Z3:Hid (∀ u∈[Value.int .i64 xa,.int .i64 ya],u.oneCell'=true):=fun u hu=>by simp at hu;rcases hu with rfl | rfl <;> rfl
     have Z5:Hid (n1+1≤maxLen):=by show _≤_;unfold maxLen;omega
     have Z6:Hid ((n1+1) * 16≤140737488355328):=by show _≤_;omega
     have Z4:Hid (W0.heap.size≤(w6.alloc (.cells #[.int .i64 xa,.int .i64 ya] 40)).heap.size):=by show _≤_;have:=A6.out.size;simp;omega
     have Z7:=zh (O2.out.alloc (.cells #[.int .i64 xa,.int .i64 ya] 40));have Z8:=zh (grow A6.out (.cells #[.int .i64 xa,.int .i64 ya] 40));clear O1 O2 A6;go_wp2_with (at_builtin;refine wpList_append_lies _ rfl _ _ 22 rfl W0.heap.size 40 i0 (.agg #[.int .i64 0,.int .i64 0]) 2 16 Tryz.underlying22 hi hz0 hz1 hz2 rfl (by decide) (v1) (n1) (pairs (rl)) rfl Z1.out ⟨w6.heap.size,0,none⟩ 1 1 [.int .i64 xa,.int .i64 ya] rfl rfl Z2.out Z3.out (Nat.succ_pos 0) Z5.out Z6.out Z4.out _ rfl ?_)
     intro g7 cap7 w7 hown hgrow hor hlt;have A6:Hid (Below W0.heap.size W0 w7):=Z8.out.grown hgrow Z4.out (own_ge Z1.out);have O2:Hid (w7.ownsRow W0.heap.size 40 2 v2 n2 (pairs rh)):=apart_kept Z7.out AP6.out hgrow;have O1:Hid (w7.ownsRow W0.heap.size 40 2 (.slice (some ⟨g7,0,none⟩) (n1+1) cap7) (n1+1) (pairs (rl++[(xa,ya)]))):=by show World.ownsRow _ _ _ _ _ _ _;rw [pairs_append];exact hown
     have FRESH:∀ u n' xs,(w6.alloc (.cells #[.int .i64 xa,.int .i64 ya] 40)).ownsRow W0.heap.size 40 2 u n' xs→Apart u (v1)→Apart u (.slice (some ⟨g7,0,none⟩) (n1+1) cap7):=fun u n' xs ho ha g hg q=>by
      replace q:g7=g:=by injection q
      subst q
      rcases hor with h | h
      ·exact ha _ hg h
      ·have:=(ho.lt _ hg).2;simp at this;omega
     have NA:=FRESH _ _ _ Z7.out AP6.out;clear hown hgrow Z1 Z2 Z3 Z4 Z5 Z6 Z7 Z8 FRESH hor hlt;have AP7:=zh (apSym _ _ NA);clear AP6 NA;have W1:Hid (w7.ownsRow W0.heap.size 40 2 (.slice (some ⟨g7,0,none⟩) (n1+1) cap7) (loL P m (L.take k1)).length (pairs (loL P m (L.take k1)))):=by show World.ownsRow _ _ _ _ _ _ _;rw [e1.out,LEN1];exact O1.out
     have W2:Hid (w7.ownsRow W0.heap.size 40 2 (v2) (hiL P m (L.take k1)).length (pairs (hiL P m (L.take k1)))):=by show World.ownsRow _ _ _ _ _ _ _;rw [e2.out,hn2.out];exact O2.out
     have W3:Hid (Apart (.slice (some ⟨g7,0,none⟩) (n1+1) cap7) (v2)):=AP7.out;clear O1 O2 e1 e2 LEN1 LEN2;go_wp2
     go_roundw
     case rel=>exact ⟨k1,_,_,rfl,rfl,by omega,by first | rfl | (congr 1;omega) | go_num,W1,W2,W3,A6⟩
     case measure=>simp [intOf];omega
   ·have kz1:decide ((k:Int)<(N:Int))=false:=zdf (by omega);obtain rfl:k=N:=by omega
    rw [List.take_of_length_le (by omega)] at O1 O2;have HL2:=zh (HL.out wr _ _ (show PairS W0.heap.size wr v1 (loL P m L) from Sl.owns O1.out) (show PairS W0.heap.size wr v2 (hiL P m L) from Sl.owns O2.out));have A7:=zh (down A0.out A6.out);clear O1 O2 HL HP AP A6;go_wp2_with fail
    refine HL2.out.mono ?_;rintro e w9 ⟨⟨v9,rfl,P9⟩,hb⟩;have A9:=zd A7 hb;have P9':=zh (show PairS 0 w9 v9 _ from Sl.weak P9 (Nat.zero_le _));have P9'':=zh (show PairS w.heap.size w9 v9 _ from Sl.weak P9 A7.out.size);clear HL2 A7 hb P9;go_wp2
    go_ret
    exact ⟨⟨_,rfl,P9'.out,.inr P9''.out⟩,A9.out⟩
theorem root_bound {q P:Int} (q1:1≤q) (P1:P≤12622780800) (h:q * q≤P):q≤112351:=by
 rcases Int.lt_or_le 112351 q with z | z
 ·exfalso
  have:=Int.mul_le_mul (show (112352:Int)≤q by omega) (show (112352:Int)≤q by omega) (by omega) (by omega);omega
 ·exact z
theorem root_less {e q P:Int} (e0:0<e) (q0:0<q) (h:P<q * q) (he:e * e≤P):e<q:=by
 rcases Int.lt_or_le e q with z | z
 ·exact z
 ·exfalso
  have:=Int.mul_le_mul z z (by omega) (by omega);omega
theorem ro_len {P:Int} {L:List Sp} (P0:0<P) (c:Cn L) (i:InP P L) (n:Int):(roL P n L).length≤4 * L.length:=by
 unfold roL
 split
 ·omega
 ·have:=(cb_spec 1 (loL P (n % P) L) (hiL P (n % P) L)).2.2.2;have a:=lo_len P (n % P) L;have b:=hi_len P (n % P) L;omega
set_option maxRecDepth 100000 in
set_option maxHeartbeats 2000000 in
theorem rpleast (v:Value) (P:Int) (L:List Sp) (hL:L.length≤20000) (cn:Cn L) (ip:InP P L) (P0:0<P) (P1:P≤12622780800) {ba:Nat} (w:World) (h:PairS ba w v L) :
  Calls Tryz.prog 109 #[.int .i64 P,v] w fun e w'=>(∃ v',e=.returned (.agg #[.int .i64 (leF P (hsP P L)),v'])∧PairS w.heap.size w' v' (caL (hsP P L) 0 (leF P (hsP P L))))∧Below w.heap.size w w':=by
 have TR:=zh (Tuo.new w (.int .i64 0) (.slice none 0 0) 24);have A1:=zh (grow (here w) (.cells #[.int .i64 0,.slice none 0 0] 24));have HR:Hid (∀ (n:Int),I64 n→∀ W,PairS ba W v L→Calls Tryz.prog 139 #[v,.int .i64 P,.int .i64 n] W fun e w'=>(∃ v',e=.returned v'∧PairS 0 w' v' (roL P n L))∧Below W.heap.size W w'):=fun n hn W h=>(rprotated v P L n hL cn ip P0 P1 hn W h).mono (by rintro e w' ⟨⟨v',a,b,-⟩,hb⟩;exact ⟨⟨v',a,b⟩,hb⟩);have HS:Hid (∀ (n:Int) u W,∀ {b1:Nat},PairS b1 W u (roL P n L)→PairS ba W v L→Calls Tryz.prog 126 #[u,v] W fun e w'=>e=.returned (.bool (decide (roL P n L=L)))∧Below W.heap.size W w'):=fun n u W _ h1 h2=>rpsame u v _ L (by unfold maxLen;have:=ro_len P0 cn ip n;omega) (by unfold maxLen;omega) W h1 h2;have HC:Hid (∀ (d:Int) W,PairS ba W v L→Calls Tryz.prog 154 #[.int .i64 d,v] W fun e w'=>(∃ v',e=.returned (.agg #[.int .i64 d,v'])∧PairS W.heap.size w' v' (cuL d L))∧Below W.heap.size W w'):=fun d W h=>(rpcut v d L (by omega) W h).mono (by rintro e w' ⟨⟨v',a,b⟩,hb⟩;exact ⟨⟨v',a,Sl.owns b⟩,hb⟩);have SM:Hid (∀ n,(roL P n L=L)↔Per (hsP P L) n):=fun n=>ro_same P0 cn ip n;have CU:Hid (∀ d,d≤P→cuL d L=caL (hsP P L) 0 d):=fun d hd=>cu_eq cn ip hd;have per:Hid (Per (hsP P L) P):=hs_per;have W0:=zh (h.keep A1.out);clear h cn ip;generalize hsP P L=f at *;have N0:Hid (∀ e,0<e→e<1→e ∣ P→¬ Per f e):=fun e a b=>by omega
 go_enter Tryz.func109,Tryz.ntmps109
 go_wp2
 go_loopw [5] (fun i wr=>∃ q:Int,1≤q∧q≤112352∧i=.int .i64 q∧Hid (∀ e,0<e→e<q→e ∣ P→¬ Per f e)∧Hid (Below w.heap.size w wr)∧Hid (Tuo wr w.heap.size (.int .i64 0) (.slice none 0 0))∧Hid (PairS ba wr v L)) (fun i _=>(112352 - intOf i).toNat)
 case atStart=>exact ⟨1,Int.le_refl _,by omega,rfl,N0,A1,TR,W0⟩
 case round =>
  obtain ⟨q,q1,q2,rfl,NO,BW,TW,WP⟩:=hrel;clear A1 TR W0 N0;obtain ⟨qq,hqq⟩:∃ z,q * q=z:=⟨_,rfl⟩;have qq0:0≤qq:=by rw [← hqq];exact Int.mul_nonneg (by omega) (by omega)
  have qq1:qq≤12622971904:=by
   have:=Int.mul_le_mul q2 q2 (by omega) (by omega);omega
  by_cases z:qq≤P
  ·have kz:decide (qq≤P)=true:=zdt z;have q3:=root_bound q1 P1 (show q * q≤P by omega);have nq0:¬ (q=0):=by omega
   obtain ⟨r1,e1⟩:∃ r,P.tmod q=r:=⟨_,rfl⟩;have f1:r1=P % q:=by rw [← e1,Int.tmod_eq_emod_of_nonneg (by omega)]
   have NEXT:¬ (q ∣ P∧Per f q)→Hid (∀ e,0<e→e<q+1→e ∣ P→¬ Per f e):=fun n e a b c d=>by
    rcases Int.lt_or_eq_of_le (show e≤q by omega) with y | y
    ·exact NO.out e a y c d
    ·subst y;exact n ⟨c,d⟩
   by_cases y:P % q=0
   ·have ke:(r1==0)=true:=by rw [f1,y];rfl
    have dv:q ∣ P:=Int.dvd_of_emod_eq_zero y;have qP:=Int.le_of_dvd P0 dv;have HR2:=zh (HR.out q (by unfold I64;omega) _ WP.out);clear y;go_wp2_with fail
    refine HR2.out.mono ?_;rintro e w3 ⟨⟨u,rfl,PU⟩,hb⟩;replace BW:=zd BW hb;replace TW:=zh (TW.out.keep hb);replace WP:=zh (WP.out.keep hb);have HS2:=zh (HS.out q u w3 PU WP.out);clear HR2 hb PU
    by_cases pr:Per f q
    ·have kp:decide (roL P q L=L)=true:=zdt ((SM.out q).2 pr);rw [kp] at HS2;have le:leF P f=q:=le_eq (le_up (by omega) dv pr NO.out);have cq:=CU.out q qP;replace le:=zh le;replace cq:=zh cq;clear kp NEXT NO SM CU;go_wp2_with fail
     refine HS2.out.mono ?_;rintro e w4 ⟨rfl,hb⟩;replace BW:=zd BW hb;replace TW:=zh (TW.out.keep hb);replace WP:=zh (WP.out.keep hb);clear hb HS2 pr f1 dv;have HC2:=zh (HC.out q _ WP.out);go_wp2_with fail
     refine HC2.out.mono ?_;rintro e w9 ⟨⟨v9,rfl,P9⟩,hb⟩;have B9:=zd BW hb;have tr9:=TW.out.t.lt;have sz9:=BW.out.size;have TR:=zh (TW.out.keep hb);obtain ⟨o9,c9,rfl⟩:=Sl.shape P9;replace P9:=zh P9;clear hb HC2 TW BW WP;have FI:Hid (Two ((w9.setCell ⟨w.heap.size,0,none⟩ (.int .i64 q)).setCell ⟨w.heap.size,1,none⟩ (.slice o9 (cuL q L).length c9)) w.heap.size (.int .i64 q) (.slice o9 (cuL q L).length c9)∧Below w.heap.size w ((w9.setCell ⟨w.heap.size,0,none⟩ (.int .i64 q)).setCell ⟨w.heap.size,1,none⟩ (.slice o9 (cuL q L).length c9))∧PairS w.heap.size ((w9.setCell ⟨w.heap.size,0,none⟩ (.int .i64 q)).setCell ⟨w.heap.size,1,none⟩ (.slice o9 (cuL q L).length c9)) (.slice o9 (cuL q L).length c9) (cuL q L)) :=
      ⟨TR.out.put _ _,(B9.out.setCell (p:=⟨w.heap.size,0,none⟩) (Nat.le_refl _) _).setCell (p:=⟨w.heap.size,1,none⟩) (Nat.le_refl _) _,Sl.weak (Sl.far (Sl.far P9.out tr9 _) tr9 _) sz9⟩
     obtain ⟨⟨ri0,ri1,ri2⟩,rf0,rf1⟩:=TR.out;go_wp2
     have q0':=FI.out.1.c0;have q1':=FI.out.1.c1;generalize (w9.setCell ⟨w.heap.size,0,none⟩ (.int .i64 q)).setCell ⟨w.heap.size,1,none⟩ (.slice o9 (cuL q L).length c9)=w13 at *;refine bodyPost_ret (v:=.agg #[.int .i64 q,.slice o9 (cuL q L).length c9]) (by simp [results,Tryz.results109,go_sem,q0',q1']) rfl ?_;rw [le.out,← cq.out];exact ⟨⟨_,rfl,FI.out.2.2⟩,FI.out.2.1⟩
    ·have kp:decide (roL P q L=L)=false:=zdf (fun e=>pr ((SM.out q).1 e));rw [kp] at HS2;have NX:=NEXT (fun e=>pr e.2);clear kp NEXT NO SM CU pr;go_wp2_with fail
     refine HS2.out.mono ?_;rintro e w4 ⟨rfl,hb⟩;replace BW:=zd BW hb;replace TW:=zh (TW.out.keep hb);replace WP:=zh (WP.out.keep hb);clear hb HS2 f1 dv;go_wp2
     go_roundw
     case rel=>exact ⟨q+1,by omega,by omega,rfl,NX,BW,TW,WP⟩
     case measure=>simp [intOf];omega
   ·have ke:(r1==0)=false:=by rw [beq_eq_false_iff_ne,f1];exact y
    have NX:=NEXT (fun e=>y (Int.emod_eq_zero_of_dvd e.1));clear NEXT NO SM CU y f1;go_wp2
    go_roundw
    case rel=>exact ⟨q+1,by omega,by omega,rfl,NX,BW,TW,WP⟩
    case measure=>simp [intOf];omega
  ·have kz:decide (qq≤P)=false:=zdf z;have NN:Hid (∀ e,0<e→e * e≤P→e ∣ P→¬ Per f e):=fun e a b c=>NO.out e a (root_less a (by omega) (show P<q * q by omega) b) c;have S0:Hid (Sec f P 1 P):=sec_start P0 per.out;clear NO z;go_wp2
   go_loopw [6,7] (fun b i wr=>∃ q d:Int,1≤q∧q≤112352∧i=.int .i64 q∧b=.int .i64 d∧Hid (Sec f P q d)∧Hid (Below w.heap.size w wr)∧Hid (Tuo wr w.heap.size (.int .i64 0) (.slice none 0 0))∧Hid (PairS ba wr v L)) (fun _ i _=>(112352 - intOf i).toNat)
   case atStart=>exact ⟨1,P,Int.le_refl _,by omega,rfl,rfl,S0,BW,TW,WP⟩
   case round =>
    clear BW TW WP S0 qq0 qq1 hqq q1 q2;obtain ⟨q,d,q1,q2,rfl,rfl,SE,BW,TW,WP⟩:=hrel;obtain ⟨qr,hqr⟩:∃ z,q * q=z:=⟨_,rfl⟩;have qr0:0≤qr:=by rw [← hqr];exact Int.mul_nonneg (by omega) (by omega)
    have qr1:qr≤12622971904:=by
     have:=Int.mul_le_mul q2 q2 (by omega) (by omega);omega
    by_cases z:qr≤P
    ·have kz2:decide (qr≤P)=true:=zdt z;have q3:=root_bound q1 P1 (show q * q≤P by omega);have nq0:¬ (q=0):=by omega
     obtain ⟨r1,e1⟩:∃ r,P.tmod q=r:=⟨_,rfl⟩;have f1:r1=P % q:=by rw [← e1,Int.tmod_eq_emod_of_nonneg (by omega)]
     have e1':P % q=r1:=f1.symm
     by_cases y:P % q=0
     ·have ke:(r1==0)=true:=by rw [f1,y];rfl
      have dv:q ∣ P:=Int.dvd_of_emod_eq_zero y;obtain ⟨t,et⟩:∃ t,P.tdiv q=t:=⟨_,rfl⟩;have ep:P / q=t:=by rw [← et,Int.tdiv_eq_ediv_of_nonneg (by omega)]
      have ft:=zh ep.symm;have t0:0≤t:=by rw [ft.out];exact Int.ediv_nonneg (by omega) (by omega)
      have t1:t≤P:=by rw [ft.out];exact Int.ediv_le_self _ (by omega)
      have HR2:=zh (HR.out t (by unfold I64;omega) _ WP.out);have ff1:=zh f1;clear y f1;go_wp2_with fail
      refine HR2.out.mono ?_;rintro e w3 ⟨⟨u,rfl,PU⟩,hb⟩;replace BW:=zd BW hb;replace TW:=zh (TW.out.keep hb);replace WP:=zh (WP.out.keep hb);have HS2:=zh (HS.out t u w3 PU WP.out);clear HR2 hb PU
      by_cases pr:Per f t
      ·have kp:decide (roL P t L=L)=true:=zdt ((SM.out t).2 pr);rw [kp] at HS2;have SE2:Hid (Sec f P (q+1) t):=by show Sec _ _ _ _;rw [ft.out];exact sec_hit P0 SE.out (by omega) dv (by rw [← ft.out];exact pr)
       clear kp SE pr ft;go_wp2_with fail
       refine HS2.out.mono ?_;rintro e w4 ⟨rfl,hb⟩;replace BW:=zd BW hb;replace TW:=zh (TW.out.keep hb);replace WP:=zh (WP.out.keep hb);clear hb HS2 dv;go_wp2
       go_roundw
       case rel=>exact ⟨q+1,t,by omega,by omega,rfl,rfl,SE2,BW,TW,WP⟩
       case measure=>simp [intOf];omega
      ·have kp:decide (roL P t L=L)=false:=zdf (fun e=>pr ((SM.out t).1 e));rw [kp] at HS2;have SE2:Hid (Sec f P (q+1) d):=sec_miss SE.out (fun e=>pr (by rw [ft.out];exact e.2));clear kp SE pr ft;go_wp2_with fail
       refine HS2.out.mono ?_;rintro e w4 ⟨rfl,hb⟩;replace BW:=zd BW hb;replace TW:=zh (TW.out.keep hb);replace WP:=zh (WP.out.keep hb);clear hb HS2 dv;go_wp2
       go_roundw
       case rel=>exact ⟨q+1,d,by omega,by omega,rfl,rfl,SE2,BW,TW,WP⟩
       case measure=>simp [intOf];omega
     ·have ke:(r1==0)=false:=by rw [beq_eq_false_iff_ne,f1];exact y
      have SE2:Hid (Sec f P (q+1) d):=sec_miss SE.out (fun e=>y (Int.emod_eq_zero_of_dvd e.1));clear SE y f1;go_wp2
      go_roundw
      case rel=>exact ⟨q+1,d,by omega,by omega,rfl,rfl,SE2,BW,TW,WP⟩
      case measure=>simp [intOf];omega
    ·have kz2:decide (qr≤P)=false:=zdf z;have ls:=sec_end P0 SE.out (show P<q * q by omega) (by omega) NN.out;have le:=zh (le_eq ls);have cq:=zh (CU.out d (Int.le_of_dvd P0 ls.dvd));clear SE NN SM CU z ls;have HC2:=zh (HC.out d _ WP.out);go_wp2_with fail
     refine HC2.out.mono ?_;rintro e w9 ⟨⟨v9,rfl,P9⟩,hb⟩;have B9:=zd BW hb;have tr9:=TW.out.t.lt;have sz9:=BW.out.size;have TR:=zh (TW.out.keep hb);obtain ⟨o9,c9,rfl⟩:=Sl.shape P9;replace P9:=zh P9;clear hb HC2 TW BW WP;have FI:Hid (Two ((w9.setCell ⟨w.heap.size,0,none⟩ (.int .i64 d)).setCell ⟨w.heap.size,1,none⟩ (.slice o9 (cuL d L).length c9)) w.heap.size (.int .i64 d) (.slice o9 (cuL d L).length c9)∧Below w.heap.size w ((w9.setCell ⟨w.heap.size,0,none⟩ (.int .i64 d)).setCell ⟨w.heap.size,1,none⟩ (.slice o9 (cuL d L).length c9))∧PairS w.heap.size ((w9.setCell ⟨w.heap.size,0,none⟩ (.int .i64 d)).setCell ⟨w.heap.size,1,none⟩ (.slice o9 (cuL d L).length c9)) (.slice o9 (cuL d L).length c9) (cuL d L)) :=
      ⟨TR.out.put _ _,(B9.out.setCell (p:=⟨w.heap.size,0,none⟩) (Nat.le_refl _) _).setCell (p:=⟨w.heap.size,1,none⟩) (Nat.le_refl _) _,Sl.weak (Sl.far (Sl.far P9.out tr9 _) tr9 _) sz9⟩
     obtain ⟨⟨ri0,ri1,ri2⟩,rf0,rf1⟩:=TR.out;go_wp2
     have q0':=FI.out.1.c0;have q1':=FI.out.1.c1;generalize (w9.setCell ⟨w.heap.size,0,none⟩ (.int .i64 d)).setCell ⟨w.heap.size,1,none⟩ (.slice o9 (cuL d L).length c9)=w13 at *;refine bodyPost_ret (v:=.agg #[.int .i64 d,.slice o9 (cuL d L).length c9]) (by simp [results,Tryz.results109,go_sem,q0',q1']) rfl ?_;rw [le.out,← cq.out];exact ⟨⟨_,rfl,FI.out.2.2⟩,FI.out.2.1⟩
end Go.Proofs.YtmamlgaogpkagaaGreat
