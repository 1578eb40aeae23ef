/- PeB PeD PeE. -/
import Derived.Test.YtmamlgaogpkagaaGreatZLPlain
import Derived.Test.YtmamlgaogpkagaaGreatZLGen
import Derived.Test.YtmamlgaogpkagaaGreatZLSl
import Derived.Test.YtmamlgaogpkagaaGreatZLOwn
import Derived.Test.YtmamlgaogpkagaaGreatZRnP
import Derived.Test.YtmamlgaogpkagaaGreatZRnT
import Derived.Test.YtmamlgaogpkagaaGreatZRnV
import Derived.StillTailTactics
import Derived.Deep.AppendLies
import Derived.Deep.RegionLaw
namespace Go.Proofs.YtmamlgaogpkagaaGreat
open Go.RowKit
set_option linter.unusedVariables false
set_option linter.unusedSimpArgs false
theorem tak_snoc (M:List Sp) {k:Nat} (hk:k<M.length):M.take (k+1)=M.take k++[M.getD k (0,0)]:=by
 rw [List.take_add_one,List.getD_eq_getElem?_getD,List.getElem?_eq_getElem hk];rfl
theorem fl_snoc {A:List Sp} {k:Nat} (h:k<A.length):flL (A.take (k+1))=flL (A.take k)++[(A.getD k (0,0)).1,(A.getD k (0,0)).2]:=by
 rw [tak_snoc A h,fl_app];rfl
theorem peh_here {base:Nat} {w:World} {o:Option Addr} {n c:Nat} {L:List Int} (h:IntS base w (.slice o n c) L) {i:Nat} (hi:i<L.length) :
  ∃ b off,o=some ⟨b,off,none⟩∧b<w.heap.size∧∀ j,j<L.length→w.cell? ⟨b,off+j,none⟩=some (.int .i64 (L.getD j 0)):=by
 rcases h with ⟨h0,-⟩ | ⟨b,off,c',e,-,l⟩
 ·omega
 ·injection e with e1 e2 e3
  exact ⟨b,off,e1,l.lt,fun j hj=>ints_at l j hj⟩
theorem peh_shape {base:Nat} {w:World} {v:Value} {L:List Int} (h:IntS base w v L):∃ o c,v=.slice o L.length c:=by
 rcases h with ⟨h0,a,c,rfl⟩ | ⟨b,off,c,rfl,-⟩
 ·exact ⟨a,c,by rw [h0]⟩
 ·exact ⟨_,_,rfl⟩
theorem ints_app (a b:List Int):ints (a++b)=ints a++ints b:=by simp [ints]
set_option maxRecDepth 100000 in
set_option maxHeartbeats 2000000 in
theorem rpends (va vb:Value) (A B:List Sp) (hA:A.length≤100000) (hB:B.length≤100000) {ba bb:Nat} (w:World) (a:PairS ba w va A) (b:PairS bb w vb B) :
  Calls Tryz.prog 133 #[va,vb] w fun e w'=>(∃ v',e=.returned v'∧IntS w.heap.size w' v' (cuts A B))∧Below w.heap.size w w':=by
 obtain ⟨i0,hi,hz0,hz1,hz2⟩:=info_parts infoI;obtain ⟨oa,ca,rfl⟩:=prs_shape a;obtain ⟨ob,cb,rfl⟩:=prs_shape b;have PA:=zh a;have PB:=zh b;have I0:Hid (w.ownsRow w.heap.size 3 1 (.slice none 0 0) (2 * 0) (ints (flL (A.take 0)))):=World.ownsRow_nil _ _ _ _;have L0:Hid (Below w.heap.size w w):=here w;clear a b;obtain ⟨n,hn⟩:∃ n,A.length=n:=⟨_,rfl⟩;obtain ⟨m,hm⟩:∃ m,B.length=m:=⟨_,rfl⟩;rw [hn] at hA PA ⊢;rw [hm] at hB PB ⊢
 go_enter Tryz.func133,Tryz.ntmps133
 go_wp2
 go_loopw [5,8] (fun v i wr=>∃ (k:Nat) (v':Value),v'=v∧k≤n∧i=.int .i64 k∧Hid (wr.ownsRow w.heap.size 3 1 v (2 * k) (ints (flL (A.take k))))∧Hid (Below w.heap.size w wr)) (fun _ i _=>n - (intOf i).toNat)
 case atStart=>exact ⟨0,_,rfl,Nat.zero_le _,rfl,I0,L0⟩
 case round =>
  obtain ⟨k,v',rfl,hk,rfl,HO,HA⟩:=hrel;clear I0 L0;have HP:=zh (PA.out.keep HA.out)
  by_cases z:k<n
  ·have kz:decide ((k:Int)<(n:Int))=true:=zdt (by omega);obtain ⟨k1,hk1⟩:∃ k1,k+1=k1:=⟨_,rfl⟩;obtain ⟨b,off,rfl,bl,cs⟩:=prs_here HP.out (show k<A.length by omega);obtain ⟨c0,c1⟩:=cs k (by omega);have sn:Hid (flL (A.take k1)=flL (A.take k)++[(A.getD k (0,0)).1,(A.getD k (0,0)).2]):=by show _=_;rw [← hk1];exact fl_snoc (by omega)
   clear cs;generalize A.getD k (0,0)=q at *;obtain ⟨x,y⟩:=q;replace c0:wr.cell? ⟨b,off+k * 2,none⟩=some (.int .i64 x):=c0;replace c1:wr.cell? ⟨b,off+k * 2+1,none⟩=some (.int .i64 y):=c1;have X1:=HO.out.alloc (.cells #[.int .i64 x,.int .i64 y] 3);have X2:∀ (j:Nat) (u:Value),[Value.int .i64 x,.int .i64 y][j]?=some u→(wr.alloc (.cells #[.int .i64 x,.int .i64 y] 3)).cell? ((⟨wr.heap.size,0,none⟩:Addr).add j)=some u:=fun j u hj=>by rw [Addr.add_lit,Nat.zero_add,World.cell?_alloc_new];simpa using hj
   have X3:∀ u∈[Value.int .i64 x,.int .i64 y],u.oneCell'=true:=fun u hu=>by simp at hu;rcases hu with rfl | rfl <;> rfl
   have X4:w.heap.size≤(wr.alloc (.cells #[.int .i64 x,.int .i64 y] 3)).heap.size:=by have:=HA.out.size;simp;omega
   have X5:2 * k+2≤maxLen:=by unfold maxLen;omega
   replace X1:=zh X1;replace X2:=zh X2;replace X3:=zh X3;replace X4:=zh X4;replace X5:=zh X5;go_wp2
   go_region_law (refine step_append_lies _ rfl _ _ 129 rfl w.heap.size 3 i0 (.int .i64 0) 1 8 Tryz.underlying129 hi hz0 hz1 hz2 rfl (by decide) v' (2 * k) (ints (flL (A.take k))) rfl X1.out ⟨wr.heap.size,0,none⟩ 2 2 [.int .i64 x,.int .i64 y] rfl rfl X2.out X3.out (by omega) X5.out (by omega) X4.out _ rfl ?_;intro g7 cap7 w7 hown hgrow _ _)
   all_goals
    have A7:Hid (Below w.heap.size w w7):=(grow HA.out _).drew.grown hgrow (by have:=HA.out.size;simp;omega) (own_ge HO.out);have O7:Hid (w7.ownsRow w.heap.size 3 1 (.slice (some ⟨g7,0,none⟩) (2 * k+2) cap7) (2 * k1) (ints (flL (A.take k1)))):=by show World.ownsRow _ _ _ _ _ _ _;rw [show 2 * k1=2 * k+2 by omega,sn.out,ints_app];exact hown
    clear hown hgrow HO HA HP sn c0 c1 bl X1 X2 X3 X4 X5;go_wp2
    go_roundw
    case rel=>exact ⟨k1,_,rfl,by omega,by first | rfl | (congr 1;omega) | go_num,O7,A7⟩
    case measure=>simp [intOf];omega
  ·have kz:decide ((k:Int)<(n:Int))=false:=zdf (by omega);obtain rfl:n=k:=by omega
   have tk:A.take n=A:=List.take_of_length_le (by omega);rw [tk] at HO;clear tk z HP kz;obtain ⟨vx,hvx⟩:∃ vx,v'=vx:=⟨_,rfl⟩;rw [hvx] at HO ⊢;obtain ⟨w2,hw2⟩:∃ w2,wr=w2:=⟨_,rfl⟩;rw [hw2] at HO HA ⊢;clear hvx hw2;have XS:Hid (IntS w.heap.size w2 vx (flL A)):=by show Sl _ _ _ _ _;rw [fl_len,hn];exact Sl.owns HO.out
   have A2:=HA;have PB2:=zh (PB.out.keep HA.out);have I1:Hid (w2.ownsRow w2.heap.size 3 1 (.slice none 0 0) (2 * 0) (ints (flL (B.take 0)))):=World.ownsRow_nil _ _ _ _;have L1:Hid (Below w2.heap.size w2 w2):=here w2;have kz0:decide ((n:Int)<(n:Int))=false:=zdf (by omega);clear HO HA PA;go_wp2
   go_loopw [6,9] (fun v i wr=>∃ (k:Nat) (v':Value),v'=v∧k≤m∧i=.int .i64 k∧Hid (wr.ownsRow w2.heap.size 3 1 v (2 * k) (ints (flL (B.take k))))∧Hid (Below w2.heap.size w2 wr)) (fun _ i _=>m - (intOf i).toNat)
   case atStart=>exact ⟨0,_,rfl,Nat.zero_le _,rfl,I1,L1⟩
   case round =>
    obtain ⟨k,v',rfl,hk,rfl,HO,HA⟩:=hrel;clear I1 L1;have HP:=zh (PB2.out.keep HA.out)
    by_cases z:k<m
    ·have kz:decide ((k:Int)<(m:Int))=true:=zdt (by omega);obtain ⟨k1,hk1⟩:∃ k1,k+1=k1:=⟨_,rfl⟩;obtain ⟨b,off,rfl,bl,cs⟩:=prs_here HP.out (show k<B.length by omega);obtain ⟨c0,c1⟩:=cs k (by omega);have sn:Hid (flL (B.take k1)=flL (B.take k)++[(B.getD k (0,0)).1,(B.getD k (0,0)).2]):=by show _=_;rw [← hk1];exact fl_snoc (by omega)
     clear cs;generalize B.getD k (0,0)=q at *;obtain ⟨x,y⟩:=q;replace c0:wr.cell? ⟨b,off+k * 2,none⟩=some (.int .i64 x):=c0;replace c1:wr.cell? ⟨b,off+k * 2+1,none⟩=some (.int .i64 y):=c1;have X1:=HO.out.alloc (.cells #[.int .i64 x,.int .i64 y] 3);have X2:∀ (j:Nat) (u:Value),[Value.int .i64 x,.int .i64 y][j]?=some u→(wr.alloc (.cells #[.int .i64 x,.int .i64 y] 3)).cell? ((⟨wr.heap.size,0,none⟩:Addr).add j)=some u:=fun j u hj=>by rw [Addr.add_lit,Nat.zero_add,World.cell?_alloc_new];simpa using hj
     have X3:∀ u∈[Value.int .i64 x,.int .i64 y],u.oneCell'=true:=fun u hu=>by simp at hu;rcases hu with rfl | rfl <;> rfl
     have X4:w2.heap.size≤(wr.alloc (.cells #[.int .i64 x,.int .i64 y] 3)).heap.size:=by have:=HA.out.size;simp;omega
     have X5:2 * k+2≤maxLen:=by unfold maxLen;omega
     replace X1:=zh X1;replace X2:=zh X2;replace X3:=zh X3;replace X4:=zh X4;replace X5:=zh X5;go_wp2
     go_region_law (refine step_append_lies _ rfl _ _ 129 rfl w2.heap.size 3 i0 (.int .i64 0) 1 8 Tryz.underlying129 hi hz0 hz1 hz2 rfl (by decide) v' (2 * k) (ints (flL (B.take k))) rfl X1.out ⟨wr.heap.size,0,none⟩ 2 2 [.int .i64 x,.int .i64 y] rfl rfl X2.out X3.out (by omega) X5.out (by omega) X4.out _ rfl ?_;intro g7 cap7 w7 hown hgrow _ _)
     all_goals
      have A7:Hid (Below w2.heap.size w2 w7):=(grow HA.out _).drew.grown hgrow (by have:=HA.out.size;simp;omega) (own_ge HO.out);have O7:Hid (w7.ownsRow w2.heap.size 3 1 (.slice (some ⟨g7,0,none⟩) (2 * k+2) cap7) (2 * k1) (ints (flL (B.take k1)))):=by show World.ownsRow _ _ _ _ _ _ _;rw [show 2 * k1=2 * k+2 by omega,sn.out,ints_app];exact hown
      clear hown hgrow HO HA HP sn c0 c1 bl X1 X2 X3 X4 X5;go_wp2
      go_roundw
      case rel=>exact ⟨k1,_,rfl,by omega,by first | rfl | (congr 1;omega) | go_num,O7,A7⟩
      case measure=>simp [intOf];omega
    ·have kz:decide ((k:Int)<(m:Int))=false:=zdf (by omega);obtain rfl:m=k:=by omega
     have tk:B.take m=B:=List.take_of_length_le (by omega);rw [tk] at HO;clear tk z HP kz;obtain ⟨vy,hvy⟩:∃ vy,v'=vy:=⟨_,rfl⟩;rw [hvy] at HO ⊢;obtain ⟨w3,hw3⟩:∃ w3,wr=w3:=⟨_,rfl⟩;rw [hw3] at HO HA ⊢;clear hvy hw3;have YS:Hid (IntS w2.heap.size w3 vy (flL B)):=by show Sl _ _ _ _ _;rw [fl_len,hm];exact Sl.owns HO.out
     replace XS:=zh (XS.out.keep HA.out);have A3:=zh (down A2.out HA.out);clear HO HA PB PB2 A2;have CU:Hid (cuts A B=mgZ (flL A) (flL B)):=rfl;have lx:(flL A).length≤200000:=by rw [fl_len];omega
     have ly:(flL B).length≤200000:=by rw [fl_len];omega
     generalize flL A=X at *;generalize flL B=Y at *;obtain ⟨ox,cx',rfl⟩:=peh_shape XS.out;obtain ⟨oy,cy',rfl⟩:=peh_shape YS.out;obtain ⟨n1,hn1⟩:∃ n1,X.length=n1:=⟨_,rfl⟩;obtain ⟨n2,hn2⟩:∃ n2,Y.length=n2:=⟨_,rfl⟩;rw [hn1] at XS lx ⊢;rw [hn2] at YS ly ⊢;have I2:Hid (w3.ownsRow w3.heap.size 3 1 (.slice none 0 0) (0+0) (ints [])):=World.ownsRow_nil _ _ _ _;have L2:Hid (Below w3.heap.size w3 w3):=here w3;have M2:Hid (([]:List Int)++mgZ (X.drop 0) (Y.drop 0)=mgZ X Y):=rfl;go_wp2
     go_loopw [7,10,11] (fun v i j wr=>∃ (p q:Nat) (v':Value) (RR:List Int),v'=v∧p≤n1∧q≤n2∧i=.int .i64 p∧j=.int .i64 q∧Hid (RR++mgZ (X.drop p) (Y.drop q)=mgZ X Y)∧Hid (wr.ownsRow w3.heap.size 3 1 v (p+q) (ints RR))∧Hid (Below w3.heap.size w3 wr)) (fun _ i j _=>n1+n2 - ((intOf i).toNat+(intOf j).toNat))
     case atStart=>exact ⟨0,0,_,[],rfl,Nat.zero_le _,Nat.zero_le _,rfl,rfl,M2,I2,L2⟩
     case round =>
      obtain ⟨p,q,v',RR,rfl,hp,hq,rfl,rfl,MG,HO,HA⟩:=hrel;have XP:=zh (XS.out.keep HA.out);have YP:=zh (YS.out.keep HA.out);clear I2 L2 M2
      by_cases z1:p<n1
      ·have k1:decide ((p:Int)<(n1:Int))=true:=zdt (by omega);obtain ⟨bx,fx,rfl,blx,csx⟩:=peh_here XP.out (show p<X.length by omega);have cx:=csx p (by omega);clear csx
       by_cases z2:q<n2
       ·have k2:((q:Int)==(n2:Int))=false:=by rw [beq_eq_false_iff_ne];omega
        obtain ⟨by',fy,rfl,bly,csy⟩:=peh_here YP.out (show q<Y.length by omega);have cy:=csy q (by omega);clear csy
        by_cases le:X.getD p 0≤Y.getD q 0
        ·have k3:=zdt le;have MG2:Hid ((RR++[X.getD p 0])++mgZ (X.drop (p+1)) (Y.drop q)=mgZ X Y):=by
          have st:=mgz_left (x:=X) (y:=Y) (i:=p) (k:=q) (by omega) (.inr le);show _=_;rw [← MG.out,st,List.append_assoc];rfl
         clear le MG;obtain ⟨t,ht⟩:∃ t,X.getD p 0=t:=⟨_,rfl⟩;rw [ht] at cx k3 MG2;generalize Y.getD q 0=u at *;clear ht;go_wp2
         go_quiet (fail)
         obtain ⟨w5,hw5⟩:∃ w5:World,wr.drewN nq=w5:=⟨_,rfl⟩;rw [hw5];have A5:=zh (show Below w3.heap.size w3 w5 by rw [← hw5];exact below_drewN HA.out _);have O5:Hid (w5.ownsRow w3.heap.size 3 1 v' (p+q) (ints RR)):=by show World.ownsRow _ _ _ _ _ _ _;rw [← hw5];exact HO.out
         have c5:w5.cell? ⟨bx,fx+p,none⟩=some (.int .i64 t):=by rw [← hw5];exact cx
         clear hw5 HO HA XP YP cx cy;go_wp2_with (at_builtin;refine wpList_append_own _ rfl _ _ 129 rfl w3.heap.size 3 i0 (.int .i64 0) 1 8 Tryz.underlying129 hi hz0 hz1 hz2 rfl (by decide) v' (p+q) (ints RR) rfl (O5.out.alloc _) ⟨w5.heap.size,0,none⟩ 1 1 [.int .i64 t] rfl rfl ?c1 ?c2 ?c3 ?c4 ?c5 ?_)
         case c1=>intro j u hj;rw [Addr.add_lit,Nat.zero_add,World.cell?_alloc_new];simpa using hj
         case c2=>intro u hu;simp at hu;subst hu;rfl
         case c3=>unfold maxLen;omega
         case c4=>omega
         case c5=>have:=A5.out.size;simp;omega
         intro v7 w7 hown hgrow _;have A7:Hid (Below w3.heap.size w3 w7):=(A5.out.alloc A5.out.size _).grown hgrow (by have:=A5.out.size;simp;omega) (own_ge O5.out);have O7:Hid (w7.ownsRow w3.heap.size 3 1 v7 (p+1+q) (ints (RR++[t]))):=by show World.ownsRow _ _ _ _ _ _ _;rw [show p+1+q=p+q+1 by omega,ints_app];exact hown
         clear hown hgrow A5 O5 c5;go_wp2
         go_roundw
         case rel=>exact ⟨p+1,q,_,RR++[t],rfl,by omega,by omega,by go_num,rfl,MG2,O7,A7⟩
         case measure=>simp [intOf];omega
        ·have k3:=zdf le;have MG2:Hid ((RR++[Y.getD q 0])++mgZ (X.drop p) (Y.drop (q+1))=mgZ X Y):=by
          have st:=mgz_right' (x:=X) (y:=Y) (i:=p) (k:=q) (by omega) (.inr (by omega));show _=_;rw [← MG.out,st,List.append_assoc];rfl
         clear le MG;obtain ⟨t,ht⟩:∃ t,Y.getD q 0=t:=⟨_,rfl⟩;rw [ht] at cy k3 MG2;generalize X.getD p 0=u at *;clear ht;go_wp2
         go_quiet (fail)
         obtain ⟨w5,hw5⟩:∃ w5:World,wr.drewN nq=w5:=⟨_,rfl⟩;rw [hw5];have A5:=zh (show Below w3.heap.size w3 w5 by rw [← hw5];exact below_drewN HA.out _);have O5:Hid (w5.ownsRow w3.heap.size 3 1 v' (p+q) (ints RR)):=by show World.ownsRow _ _ _ _ _ _ _;rw [← hw5];exact HO.out
         have c5:w5.cell? ⟨by',fy+q,none⟩=some (.int .i64 t):=by rw [← hw5];exact cy
         clear hw5 HO HA XP YP cx cy;go_wp2_with (at_builtin;refine wpList_append_own _ rfl _ _ 129 rfl w3.heap.size 3 i0 (.int .i64 0) 1 8 Tryz.underlying129 hi hz0 hz1 hz2 rfl (by decide) v' (p+q) (ints RR) rfl (O5.out.alloc _) ⟨w5.heap.size,0,none⟩ 1 1 [.int .i64 t] rfl rfl ?c1 ?c2 ?c3 ?c4 ?c5 ?_)
         case c1=>intro j u hj;rw [Addr.add_lit,Nat.zero_add,World.cell?_alloc_new];simpa using hj
         case c2=>intro u hu;simp at hu;subst hu;rfl
         case c3=>unfold maxLen;omega
         case c4=>omega
         case c5=>have:=A5.out.size;simp;omega
         intro v7 w7 hown hgrow _;have A7:Hid (Below w3.heap.size w3 w7):=(A5.out.alloc A5.out.size _).grown hgrow (by have:=A5.out.size;simp;omega) (own_ge O5.out);have O7:Hid (w7.ownsRow w3.heap.size 3 1 v7 (p+(q+1)) (ints (RR++[t]))):=by show World.ownsRow _ _ _ _ _ _ _;rw [show p+(q+1)=p+q+1 by omega,ints_app];exact hown
         clear hown hgrow A5 O5 c5;go_wp2
         go_roundw
         case rel=>exact ⟨p,q+1,_,RR++[t],rfl,by omega,by omega,rfl,by go_num,MG2,O7,A7⟩
         case measure=>simp [intOf];omega
       ·have k2:((q:Int)==(n2:Int))=true:=beq_iff_eq.2 (by omega);have MG2:Hid ((RR++[X.getD p 0])++mgZ (X.drop (p+1)) (Y.drop q)=mgZ X Y):=by
         have st:=mgz_left (x:=X) (y:=Y) (i:=p) (k:=q) (by omega) (.inl (by omega));show _=_;rw [← MG.out,st,List.append_assoc];rfl
        clear MG;obtain ⟨t,ht⟩:∃ t,X.getD p 0=t:=⟨_,rfl⟩;rw [ht] at cx MG2;clear ht;go_wp2
        go_quiet (fail)
        obtain ⟨w5,hw5⟩:∃ w5:World,wr.drewN nq=w5:=⟨_,rfl⟩;rw [hw5];have A5:=zh (show Below w3.heap.size w3 w5 by rw [← hw5];exact below_drewN HA.out _);have O5:Hid (w5.ownsRow w3.heap.size 3 1 v' (p+q) (ints RR)):=by show World.ownsRow _ _ _ _ _ _ _;rw [← hw5];exact HO.out
        have c5:w5.cell? ⟨bx,fx+p,none⟩=some (.int .i64 t):=by rw [← hw5];exact cx
        clear hw5 HO HA XP YP cx;go_wp2_with (at_builtin;refine wpList_append_own _ rfl _ _ 129 rfl w3.heap.size 3 i0 (.int .i64 0) 1 8 Tryz.underlying129 hi hz0 hz1 hz2 rfl (by decide) v' (p+q) (ints RR) rfl (O5.out.alloc _) ⟨w5.heap.size,0,none⟩ 1 1 [.int .i64 t] rfl rfl ?c1 ?c2 ?c3 ?c4 ?c5 ?_)
        case c1=>intro j u hj;rw [Addr.add_lit,Nat.zero_add,World.cell?_alloc_new];simpa using hj
        case c2=>intro u hu;simp at hu;subst hu;rfl
        case c3=>unfold maxLen;omega
        case c4=>omega
        case c5=>have:=A5.out.size;simp;omega
        intro v7 w7 hown hgrow _;have A7:Hid (Below w3.heap.size w3 w7):=(A5.out.alloc A5.out.size _).grown hgrow (by have:=A5.out.size;simp;omega) (own_ge O5.out);have O7:Hid (w7.ownsRow w3.heap.size 3 1 v7 (p+1+q) (ints (RR++[t]))):=by show World.ownsRow _ _ _ _ _ _ _;rw [show p+1+q=p+q+1 by omega,ints_app];exact hown
        clear hown hgrow A5 O5 c5;go_wp2
        go_roundw
        case rel=>exact ⟨p+1,q,_,RR++[t],rfl,by omega,by omega,by go_num,rfl,MG2,O7,A7⟩
        case measure=>simp [intOf];omega
      ·have k1:decide ((p:Int)<(n1:Int))=false:=zdf (by omega)
       by_cases z2:q<n2
       ·have k2:((q:Int)==(n2:Int))=false:=by rw [beq_eq_false_iff_ne];omega
        have k4:decide ((q:Int)<(n2:Int))=true:=zdt (by omega);obtain ⟨by',fy,rfl,bly,csy⟩:=peh_here YP.out (show q<Y.length by omega);have cy:=csy q (by omega);clear csy;have MG2:Hid ((RR++[Y.getD q 0])++mgZ (X.drop p) (Y.drop (q+1))=mgZ X Y):=by
         have st:=mgz_right' (x:=X) (y:=Y) (i:=p) (k:=q) (by omega) (.inl (by omega));show _=_;rw [← MG.out,st,List.append_assoc];rfl
        clear MG;obtain ⟨t,ht⟩:∃ t,Y.getD q 0=t:=⟨_,rfl⟩;rw [ht] at cy MG2;clear ht;go_wp2
        go_quiet (fail)
        obtain ⟨w5,hw5⟩:∃ w5:World,wr.drewN nq=w5:=⟨_,rfl⟩;rw [hw5];have A5:=zh (show Below w3.heap.size w3 w5 by rw [← hw5];exact below_drewN HA.out _);have O5:Hid (w5.ownsRow w3.heap.size 3 1 v' (p+q) (ints RR)):=by show World.ownsRow _ _ _ _ _ _ _;rw [← hw5];exact HO.out
        have c5:w5.cell? ⟨by',fy+q,none⟩=some (.int .i64 t):=by rw [← hw5];exact cy
        clear hw5 HO HA XP YP cy;go_wp2_with (at_builtin;refine wpList_append_own _ rfl _ _ 129 rfl w3.heap.size 3 i0 (.int .i64 0) 1 8 Tryz.underlying129 hi hz0 hz1 hz2 rfl (by decide) v' (p+q) (ints RR) rfl (O5.out.alloc _) ⟨w5.heap.size,0,none⟩ 1 1 [.int .i64 t] rfl rfl ?c1 ?c2 ?c3 ?c4 ?c5 ?_)
        case c1=>intro j u hj;rw [Addr.add_lit,Nat.zero_add,World.cell?_alloc_new];simpa using hj
        case c2=>intro u hu;simp at hu;subst hu;rfl
        case c3=>unfold maxLen;omega
        case c4=>omega
        case c5=>have:=A5.out.size;simp;omega
        intro v7 w7 hown hgrow _;have A7:Hid (Below w3.heap.size w3 w7):=(A5.out.alloc A5.out.size _).grown hgrow (by have:=A5.out.size;simp;omega) (own_ge O5.out);have O7:Hid (w7.ownsRow w3.heap.size 3 1 v7 (p+(q+1)) (ints (RR++[t]))):=by show World.ownsRow _ _ _ _ _ _ _;rw [show p+(q+1)=p+q+1 by omega,ints_app];exact hown
        clear hown hgrow A5 O5 c5;go_wp2
        go_roundw
        case rel=>exact ⟨p,q+1,_,RR++[t],rfl,by omega,by omega,rfl,by go_num,MG2,O7,A7⟩
        case measure=>simp [intOf];omega
       ·have k4:decide ((q:Int)<(n2:Int))=false:=zdf (by omega);have RE:RR=cuts A B:=by
         have:=MG.out;rw [List.drop_of_length_le (by omega),List.drop_of_length_le (by omega),mgZ,List.append_nil] at this;rw [CU.out,this]
        have s3:=A3.out.size;have P9:Hid (IntS w.heap.size wr v' (cuts A B)):=by
         rw [RE] at HO
         show Sl _ _ _ _ _
         have:=Sl.owns (own_weak HO.out s3);rw [CU.out,mgz_len,hn1,hn2];rw [CU.out] at this;rw [show n1+n2=p+q by omega];exact this
        have A9:=zh (down A3.out HA.out);clear RE HO HA MG XP YP z1 z2;have e1:=of_decide_eq_false k1;have e4:=of_decide_eq_false k4;go_wp2
        all_goals first
         | (exfalso;have hx:=‹¬n1≤p›;omega)
         | (exfalso;have hx:=‹p<n1∨q<n2›;omega)
         | (go_ret;exact ⟨⟨_,rfl,P9.out⟩,A9.out⟩)
set_option maxRecDepth 100000 in
set_option maxHeartbeats 1000000 in
theorem rpsame (v u:Value) (L M:List Sp) (hn:L.length≤maxLen) (hm:M.length≤maxLen) {base base':Nat} (w:World) (h:PairS base w v L) (h':PairS base' w u M) :
  Calls Tryz.prog 126 #[v,u] w fun e w'=>e=.returned (.bool (decide (L=M)))∧Below w.heap.size w w':=by
 unfold maxLen at hn hm
 obtain ⟨o,c,rfl⟩:=prs_shape h;obtain ⟨o',c',rfl⟩:=prs_shape h';have HP:=zh h;have HQ:=zh h';clear h h';have A0:Hid (Below w.heap.size w w):=here w
 by_cases ln:L.length=M.length
 ·have kl:((L.length:Int) != (M.length:Int))=false:=by rw [bne_eq_false_iff_eq];omega
  have yes:Hid ((∀ j,j<L.length→L.getD j (0,0)=M.getD j (0,0))→decide (L=M)=true):=fun q=>zdt (list_eq_of ln q);have no:Hid (∀ j,j<L.length→¬ L.getD j (0,0)=M.getD j (0,0)→decide (L=M)=false):=fun j hj q=>zdf (fun e=>q (by rw [e]));obtain ⟨n,hl⟩:∃ n,L.length=n:=⟨_,rfl⟩;rw [← ln] at HQ kl ⊢;rw [hl] at hn yes no HP HQ kl ⊢;have hl2:M.length=n:=by omega
  clear ln hm;generalize decide (L=M)=R at *
  go_enter Tryz.func126,Tryz.ntmps126
  go_wp2
  go_loopw [5] (fun i wr=>∃ k:Nat,k≤n∧i=.int .i64 k∧Hid (∀ j,j<k→L.getD j (0,0)=M.getD j (0,0))∧Hid (Below w.heap.size w wr)∧Hid (PairS base wr (.slice o n c) L)∧Hid (PairS base' wr (.slice o' n c') M)) (fun i _=>n - (intOf i).toNat)
  case atStart=>exact ⟨0,Nat.zero_le _,rfl,fun j hj=>absurd hj (Nat.not_lt_zero _),A0,HP,HQ⟩
  case round =>
   obtain ⟨k,hk,rfl,HU,HA,P1,P2⟩:=hrel;clear A0 HP HQ
   by_cases z:k<n
   ·have kz:decide ((k:Int)<(n:Int))=true:=zdt (by omega);obtain ⟨b,off,rfl,bl,cs⟩:=prs_here P1.out (show k<L.length by omega);obtain ⟨c0,c1⟩:=cs k (by omega);obtain ⟨b',off',rfl,bl',cs'⟩:=prs_here P2.out (show k<M.length by omega);obtain ⟨d0,d1⟩:=cs' k (by omega);have on:L.getD k (0,0)=M.getD k (0,0)→Hid (∀ j,j<k+1→L.getD j (0,0)=M.getD j (0,0)):=fun u j hj=>by
     rcases Nat.lt_or_ge j k with y | y
     ·exact HU.out j y
     ·obtain rfl:j=k:=by omega
      exact u
    have off1:=no.out k z;clear cs cs' HU no yes;generalize L.getD k (0,0)=p at *;generalize M.getD k (0,0)=q at *;obtain ⟨x,x'⟩:=p;obtain ⟨y,y'⟩:=q
    by_cases u:x=y
    ·subst u
     by_cases t:x'=y'
     ·subst t;have HU2:=on rfl;clear on off1;go_wp2
      go_quiet (fail)
      have A2:=zh (below_drewN HA.out nq);have P3:=zh (P1.out.keep (below_drewN (here wr) nq));have P4:=zh (P2.out.keep (below_drewN (here wr) nq));clear HA P1 P2 c0 c1 d0 d1 bl bl';go_wp2
      go_roundw
      case rel=>exact ⟨k+1,by omega,by go_num,HU2,A2,P3,P4⟩
      case measure=>simp [intOf];omega
     ·have kt:(x'==y')=false:=by rw [beq_eq_false_iff_ne];exact t
      have r:Hid (R=false):=off1 (fun e=>t (by injection e));clear on off1 t;go_wp2
      go_quiet (fail)
      go_wp2
      go_ret
      exact ⟨by rw [r.out];rfl,below_drewN HA.out _⟩
    ·have ku:(x==y)=false:=by rw [beq_eq_false_iff_ne];exact u
     have r:Hid (R=false):=off1 (fun e=>u (by injection e));clear on off1 u;go_wp2
     go_quiet (fail)
     go_wp2
     go_ret
     exact ⟨by rw [r.out];rfl,below_drewN HA.out _⟩
   ·have kz:decide ((k:Int)<(n:Int))=false:=zdf (by omega);obtain rfl:k=n:=by omega
    have r:Hid (R=true):=yes.out (fun j hj=>HU.out j (by omega));clear yes no HU P1 P2;go_wp2
    go_ret
    exact ⟨by rw [r.out];rfl,HA.out⟩
 ·have kl:((L.length:Int) != (M.length:Int))=true:=by rw [bne_iff_ne];omega
  have r:Hid (decide (L=M)=false):=zdf (fun e=>ln (by rw [e]));generalize decide (L=M)=R at *;clear ln
  go_enter Tryz.func126,Tryz.ntmps126
  go_wp2
  go_ret
  exact ⟨by rw [r.out];rfl,A0.out⟩
set_option maxRecDepth 100000 in
set_option maxHeartbeats 1000000 in
theorem rphas (v:Value) (P:Int) (L:List Sp) (hn:L.length≤maxLen) (P0:0<P) (P1:P≤4398046511104) (x:Int) (hx:I64 x) {base:Nat} (w:World) (h:PairS base w v L) :
  Calls Tryz.prog 69 #[.agg #[.int .i64 P,v],.int .i64 x] w fun e w'=>e=.returned (.bool (hsP P L x))∧Below w.heap.size w w':=by
 unfold maxLen at hn
 obtain ⟨o,c,rfl⟩:=prs_shape h;have HM:=zh (fun w=>refmod_all x P hx.1 hx.2 (by omega) (by omega) w);rw [dR_pos P0] at HM
 unfold hsP
 generalize x % P=r at *;have yes:Hid (∀ j,j<L.length→(L.getD j (0,0)).1≤r→r<(L.getD j (0,0)).2→inB L r=true):=fun j hj a b=>inB_iff.2 ⟨L.getD j (0,0),by
  rw [List.getD_eq_getElem?_getD,List.getElem?_eq_getElem hj];exact List.getElem_mem hj,a,b⟩
 have no:Hid ((∀ j,j<L.length→¬ ((L.getD j (0,0)).1≤r∧r<(L.getD j (0,0)).2))→inB L r=false):=fun q=>by
  rw [← Bool.not_eq_true,inB_iff];rintro ⟨p,hp,a⟩;obtain ⟨j,hj,rfl⟩:=List.getElem_of_mem hp;have:=q j hj;rw [List.getD_eq_getElem?_getD,List.getElem?_eq_getElem hj] at this;exact this a
 have HP:=zh h;obtain ⟨n,hl⟩:∃ n,L.length=n:=⟨_,rfl⟩;rw [hl] at hn yes no HP ⊢;generalize inB L r=R at *;clear h;have T0:Two (w.alloc (.cells #[.int .i64 P,.slice o n c] 24)) w.heap.size (.int .i64 P) (.slice o n c):=Two.new (here _);have A0:=grow (here w) (.cells #[.int .i64 P,.slice o n c] 24);replace HP:=zh (HP.out.keep A0);replace T0:=zh T0;replace A0:=zh A0;have t0:=T0.out.1
 go_enter Tryz.func69,Tryz.ntmps69
 go_wp2_with (go_at_call 122;refine (HM.out _).mono ?_;rintro e W ⟨rfl,q,hW⟩;have A1:Hid (Below w.heap.size w W):=by { rw [hW];exact below_drewN A0.out q };have T1:Two W w.heap.size (.int .i64 P) (.slice o n c):=by { rw [hW];exact Two.drewN T0.out q };have HQ:Hid (PairS base W (.slice o n c) L):=by { rw [hW];exact HP.out.keep (below_drewN (here _) q) };clear hW HP A0 T0 t0;obtain ⟨t0,t1,tl⟩:=T1)
 go_loopw [6] (fun i wr=>∃ k:Nat,k≤n∧i=.int .i64 k∧wr=W∧Hid (∀ j,j<k→¬ ((L.getD j (0,0)).1≤r∧r<(L.getD j (0,0)).2))) (fun i _=>n - (intOf i).toNat)
 case atStart=>exact ⟨0,Nat.zero_le _,rfl,rfl,fun j hj=>absurd hj (Nat.not_lt_zero _)⟩
 case round =>
  obtain ⟨k,hk,rfl,rfl,HU⟩:=hrel
  by_cases z:k<n
  ·have kz:decide ((k:Int)<(n:Int))=true:=zdt (by omega);obtain ⟨b,off,rfl,bl,cs⟩:=prs_here HQ.out (show k<L.length by omega);obtain ⟨c0,c1⟩:=cs k (by omega);obtain ⟨p,hp⟩:∃ p,(L.getD k (0,0)).1=p:=⟨_,rfl⟩;obtain ⟨q,hq⟩:∃ q,(L.getD k (0,0)).2=q:=⟨_,rfl⟩;rw [hp] at c0;rw [hq] at c1;clear cs;have on:¬ (p≤r∧r<q)→Hid (∀ j,j<k+1→¬ ((L.getD j (0,0)).1≤r∧r<(L.getD j (0,0)).2)):=fun u j hj=>by
    rcases Nat.lt_or_ge j k with y | y
    ·exact HU.out j y
    ·obtain rfl:j=k:=by omega
     rw [hp,hq];exact u
   cases u:decide (p≤r)
   ·have HU2:=on (fun q=>by rw [zdt q.1] at u;cases u);clear on yes no HU hp hq HM;go_wp2
    go_roundw
    case rel=>exact ⟨k+1,by omega,by go_num,by first | rfl | trivial,HU2⟩
    case measure=>simp [intOf];omega
   ·cases t:decide (r<q)
    ·have HU2:=on (fun q=>by rw [zdt q.2] at t;cases t);clear on yes no HU hp hq HM;go_wp2
     go_roundw
     case rel=>exact ⟨k+1,by omega,by go_num,by first | rfl | trivial,HU2⟩
     case measure=>simp [intOf];omega
    ·have rr:Hid (R=true):=yes.out k z (by rw [hp];exact of_decide_eq_true u) (by rw [hq];exact of_decide_eq_true t);clear on yes no HU hp hq HM;go_wp2
     go_ret
     exact ⟨by rw [rr.out];rfl,A1.out⟩
  ·have kz:decide ((k:Int)<(n:Int))=false:=zdf (by omega);obtain rfl:k=n:=by omega
   have rr:Hid (R=false):=no.out HU.out;clear yes no HU HQ HM;go_wp2
   go_ret
   exact ⟨by rw [rr.out];rfl,A1.out⟩
theorem take_snoc2 (M:List Sp) {k:Nat} (hk:k<M.length):M.take (k+1)=M.take k++[M.getD k (0,0)]:=by
 rw [List.take_add_one,List.getD_eq_getElem?_getD,List.getElem?_eq_getElem hk];rfl
theorem cu_snoc (d:Int) (A:List Sp) (q:Sp):cuL d (A++[q])=cuL d A++(if q.1<d then [(q.1,if q.2<d then q.2 else d)] else []):=by
 unfold cuL
 by_cases h:q.1<d
 ·simp [List.filter_append,h]
 ·simp [List.filter_append,h]
set_option maxRecDepth 100000 in
set_option maxHeartbeats 1000000 in
theorem rpcut (v:Value) (d:Int) (L:List Sp) (hn:L.length≤1000000) {base:Nat} (w:World) (h:PairS base w v L) :
  Calls Tryz.prog 154 #[.int .i64 d,v] w fun e w'=>(∃ v',e=.returned (.agg #[.int .i64 d,v'])∧w'.ownsRow w.heap.size 40 2 v' (cuL d L).length (pairs (cuL d L)))∧Below w.heap.size w w':=by
 obtain ⟨i0,hi,hz0,hz1,hz2⟩:=info_parts infoS;obtain ⟨o,c,rfl⟩:=prs_shape h;have PL:=zh h;have B0:=zh (grow (here w) (.cells #[.int .i64 0,.slice none 0 0] 24));have T0:=zh (Tuo.new w (.int .i64 0) (.slice none 0 0) 24);have I0:Hid ((w.alloc (.cells #[.int .i64 0,.slice none 0 0] 24)).ownsRow (w.alloc (.cells #[.int .i64 0,.slice none 0 0] 24)).heap.size 40 2 (.slice none 0 0) (cuL d (L.take 0)).length (pairs (cuL d (L.take 0)))):=World.ownsRow_nil _ _ _ _;have L0:Hid (Below (w.alloc (.cells #[.int .i64 0,.slice none 0 0] 24)).heap.size (w.alloc (.cells #[.int .i64 0,.slice none 0 0] 24)) (w.alloc (.cells #[.int .i64 0,.slice none 0 0] 24))):=here _;replace PL:=zh (PL.out.keep B0.out);obtain ⟨n,hl⟩:∃ n,L.length=n:=⟨_,rfl⟩;rw [hl] at hn PL ⊢;clear h
 go_enter Tryz.func154,Tryz.ntmps154
 go_wp2
 generalize hW0:w.alloc (.cells #[.int .i64 0,.slice none 0 0] 24)=W0 at *;clear hW0
 go_loopw [5,6] (fun v i wr=>∃ (k:Nat) (v':Value),v'=v∧k≤n∧i=.int .i64 k∧Hid (wr.ownsRow W0.heap.size 40 2 v (cuL d (L.take k)).length (pairs (cuL d (L.take k))))∧Hid (Below W0.heap.size W0 wr)) (fun _ i _=>n - (intOf i).toNat)
 case atStart=>exact ⟨0,_,rfl,Nat.zero_le _,rfl,I0,L0⟩
 case round =>
  obtain ⟨k,v',rfl,hk,rfl,HO,HA⟩:=hrel;clear I0 L0;have HP:=zh (PL.out.keep HA.out)
  by_cases z:k<n
  ·have kz:decide ((k:Int)<(n:Int))=true:=zdt (by omega);obtain ⟨k1,hk1⟩:∃ k1,k+1=k1:=⟨_,rfl⟩;obtain ⟨b,off,rfl,bl,cs⟩:=prs_here HP.out (show k<L.length by omega);obtain ⟨c0,c1⟩:=cs k (by omega);have sn:Hid (cuL d (L.take k1)=cuL d (L.take k)++(if (L.getD k (0,0)).1<d then [((L.getD k (0,0)).1,if (L.getD k (0,0)).2<d then (L.getD k (0,0)).2 else d)] else [])):=by show _=_;rw [← hk1,take_snoc2 L (by omega),cu_snoc]
   clear cs;generalize L.getD k (0,0)=q at *;obtain ⟨x,y⟩:=q;replace c0:wr.cell? ⟨b,off+k * 2,none⟩=some (.int .i64 x):=c0;replace c1:wr.cell? ⟨b,off+k * 2+1,none⟩=some (.int .i64 y):=c1;replace sn:Hid (cuL d (L.take k1)=cuL d (L.take k)++(if x<d then [(x,if y<d then y else d)] else [])):=sn
   by_cases xd:x<d
   ·have kx:=zdt xd;rw [if_pos xd] at sn;have et:(if y<d then y else d)=(if d<y then d else y):=by split <;> split <;> omega
    rw [et] at sn;clear et;have cl:=cu_len d (L.take k);have cl2:(L.take k).length≤k:=by rw [List.length_take];omega
    generalize cuL d (L.take k)=RR at *;obtain ⟨RR1,hR1⟩:∃ R,cuL d (L.take k1)=R:=⟨_,rfl⟩;rw [hR1] at sn;obtain ⟨m,hm⟩:∃ m,RR.length=m:=⟨_,rfl⟩;rw [hm] at HO;have X1:=HO.out.alloc (.cells #[.int .i64 x,.int .i64 (if d<y then d else y)] 40);have X2:∀ (j:Nat) (u:Value),[Value.int .i64 x,.int .i64 (if d<y then d else y)][j]?=some u→(wr.alloc (.cells #[.int .i64 x,.int .i64 (if d<y then d else y)] 40)).cell? ((⟨wr.heap.size,0,none⟩:Addr).add j)=some u:=fun j u hj=>by rw [Addr.add_lit,Nat.zero_add,World.cell?_alloc_new];simpa using hj
    have X3:∀ u∈[Value.int .i64 x,.int .i64 (if d<y then d else y)],u.oneCell'=true:=fun u hu=>by simp at hu;rcases hu with rfl | rfl <;> rfl
    have X4:W0.heap.size≤(wr.alloc (.cells #[.int .i64 x,.int .i64 (if d<y then d else y)] 40)).heap.size:=by have:=HA.out.size;simp;omega
    have X5:m+1≤maxLen:=by unfold maxLen;omega
    replace X1:=zh X1;replace X2:=zh X2;replace X3:=zh X3;replace X4:=zh X4;replace X5:=zh X5;go_wp2
    go_region_law (refine step_append_lies _ rfl _ _ 22 rfl W0.heap.size 40 i0 (.agg #[.int .i64 0,.int .i64 0]) 2 16 Tryz.underlying22 hi hz0 hz1 hz2 rfl (by decide) v' m (pairs RR) rfl X1.out ⟨wr.heap.size,0,none⟩ 1 1 [.int .i64 x,.int .i64 (if d<y then d else y)] rfl rfl X2.out X3.out (by omega) X5.out (by omega) X4.out _ rfl ?_;intro g7 cap7 w7 hown hgrow _ _)
    all_goals
     have A7:Hid (Below W0.heap.size W0 w7):=(grow HA.out _).drew.grown hgrow (by have:=HA.out.size;simp;omega) (own_ge HO.out);have O7:Hid (w7.ownsRow W0.heap.size 40 2 (.slice (some ⟨g7,0,none⟩) (m+1) cap7) RR1.length (pairs RR1)):=by show World.ownsRow _ _ _ _ _ _ _;rw [sn.out,pairs_append,List.length_append,hm];exact hown
     clear hown hgrow HO HA HP sn c0 c1 bl X1 X2 X3 X4 X5;go_wp2
     go_roundw
     case rel=>exact ⟨k1,_,rfl,by omega,by first | rfl | (congr 1;omega) | go_num,by rw [hR1];exact O7,A7⟩
     case measure=>simp [intOf];omega
   ·have kx:=zdf xd;rw [if_neg xd,List.append_nil] at sn;go_wp2
    go_roundw
    case rel=>exact ⟨k1,_,rfl,by omega,by first | rfl | (congr 1;omega) | go_num,by rw [sn.out];exact HO,HA⟩
    case measure=>simp [intOf];omega
  ·have kz:decide ((k:Int)<(n:Int))=false:=zdf (by omega);obtain rfl:n=k:=by omega
   rw [show L.take n=L from List.take_of_length_le (by omega)] at HO;obtain ⟨o2,c2,e2⟩:=prs_shape (Sl.owns HO.out:PairS _ _ _ _);subst e2;have T1:=T0.out.keep HA.out;have B1:=zh (B0.out.trans (HA.out.mono B0.out.size));have lt0:=T0.out.t.lt;have O1:=zh (zh (fun u v=>own_weak (ownsRow_setCell_below (ownsRow_setCell_below HO.out (a:=⟨w.heap.size,0,none⟩) lt0 u) (a:=⟨w.heap.size,1,none⟩) lt0 v) B0.out.size));clear HP z kz;have U1:=zh (zh (T1.put (.int .i64 d) (.slice o2 (cuL d L).length c2)));obtain ⟨⟨t0,t1,tl⟩,f0,f1⟩:=T1;go_wp2
   have s0:=U1.out.out.c0;have s1:=U1.out.out.c1;have B2:=(B1.out.setCell (p:=⟨w.heap.size,0,none⟩) (Nat.le_refl _) (.int .i64 d)).setCell (p:=⟨w.heap.size,1,none⟩) (Nat.le_refl _) (.slice o2 (cuL d L).length c2);have O2:=O1.out.out (.int .i64 d) (.slice o2 (cuL d L).length c2);clear U1 O1 B1 t0 t1 f0 f1;generalize (wr.setCell ⟨w.heap.size,0,none⟩ (.int .i64 d)).setCell ⟨w.heap.size,1,none⟩ (.slice o2 (cuL d L).length c2)=w9 at *;refine bodyPost_ret (v:=.agg #[.int .i64 d,.slice o2 (cuL d L).length c2]) (by simp [results,Tryz.results154,go_sem,s0,s1]) rfl ?_;exact ⟨⟨_,rfl,O2⟩,B2⟩
theorem pe_at {P:Int} {L:List Sp} (c:Cn L) (i:InP P L) {k:Nat} (hk:k<L.length):0≤(L.getD k (0,0)).1∧(L.getD k (0,0)).1<(L.getD k (0,0)).2∧(L.getD k (0,0)).2≤P:=by
 have m:L.getD k (0,0)∈L:=by rw [List.getD_eq_getElem?_getD,List.getElem?_eq_getElem hk];exact List.getElem_mem hk
 have:=i _ m;exact ⟨this.1,c.lt _ m,this.2⟩
end Go.Proofs.YtmamlgaogpkagaaGreat
