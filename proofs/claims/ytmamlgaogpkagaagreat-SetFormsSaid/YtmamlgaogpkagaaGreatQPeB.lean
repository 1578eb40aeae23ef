/- PeB PeD PeDa PeE PeF PeGA PeGB. -/
import Derived.Test.YtmamlgaogpkagaaGreatQLPlain
import Derived.Test.YtmamlgaogpkagaaGreatQLPlaina
import Derived.Test.YtmamlgaogpkagaaGreatQLGen
import Derived.Test.YtmamlgaogpkagaaGreatQLSl
import Derived.Test.YtmamlgaogpkagaaGreatQLSla
import Derived.Test.YtmamlgaogpkagaaGreatQPeA
import Derived.Test.YtmamlgaogpkagaaGreatQRnT
import Derived.Test.YtmamlgaogpkagaaGreatQRnV
import Derived.StillTailTactics
import Derived.Deep.AppendLies
import Derived.Deep.RegionLaw
namespace Go.Proofs.YtmamlgaogpkagaaGreat
open Go.RowKit
set_option linter.unusedVariables false
set_option linter.unusedSimpArgs false
theorem tak_snoc (M:List Sp) {k:Nat} (hk:k<M.length):M.take (k+1)=M.take k++[M.getD k (0,0)]:=by
 rw [List.take_add_one,List.getD_eq_getElem?_getD,List.getElem?_eq_getElem hk];rfl
theorem fl_snoc {A:List Sp} {k:Nat} (h:k<A.length):flL (A.take (k+1))=flL (A.take k)++[(A.getD k (0,0)).1,(A.getD k (0,0)).2]:=by
 rw [tak_snoc A h,fl_app];rfl
theorem peh_here {base:Nat} {w:World} {o:Option Addr} {n c:Nat} {L:List Int} (h:IntS base w (.slice o n c) L) {i:Nat} (hi:i<L.length) :
    ∃ b off,o=some ⟨b,off,none⟩∧b<w.heap.size∧∀ j,j<L.length→w.cell? ⟨b,off+j,none⟩=some (.int .i64 (L.getD j 0)):=by
  rcases h with ⟨h0,-⟩ | ⟨b,off,c',e,-,l⟩
  · omega
  · injection e with e1 e2 e3
    exact ⟨b,off,e1,l.lt,fun j hj=>ints_at l j hj⟩
theorem peh_shape {base:Nat} {w:World} {v:Value} {L:List Int} (h:IntS base w v L):∃ o c,v=.slice o L.length c:=by
 rcases h with ⟨h0,a,c,rfl⟩ | ⟨b,off,c,rfl,-⟩
 ·exact ⟨a,c,by rw [h0]⟩
 ·exact ⟨_,_,rfl⟩
theorem ints_app (a b:List Int):ints (a++b)=ints a++ints b:=by simp [ints]
set_option maxRecDepth 100000 in
set_option maxHeartbeats 2000000 in
theorem rpends (va vb:Value) (A B:List Sp) (hA:A.length≤100000) (hB:B.length≤100000) {ba bb:Nat} (w:World) (a:PairS ba w va A) (b:PairS bb w vb B) :
    Calls Tryz.prog 133 #[va,vb] w fun e w'=>(∃ v',e=.returned v'∧IntS w.heap.size w' v' (cuts A B))∧Below w.heap.size w w':=by
  obtain ⟨i0,hi,hz0,hz1,hz2⟩:=info_parts infoI;obtain ⟨oa,ca,rfl⟩:=prs_shape a;obtain ⟨ob,cb,rfl⟩:=prs_shape b;have PA:=zh a;have PB:=zh b;have I0:Hid (w.ownsRow w.heap.size 3 1 (.slice none 0 0) (2 * 0) (ints (flL (A.take 0)))):=World.ownsRow_nil _ _ _ _;have L0:Hid (Below w.heap.size w w):=here w;clear a b;obtain ⟨n,hn⟩:∃ n,A.length=n:=⟨_,rfl⟩;obtain ⟨m,hm⟩:∃ m,B.length=m:=⟨_,rfl⟩;rw [hn] at hA PA ⊢;rw [hm] at hB PB ⊢
  go_enter Tryz.func133,Tryz.ntmps133
  go_wp2
  go_loopw [5,8] (fun v i wr=>∃ (k:Nat) (v':Value),v'=v∧k≤n∧i=.int .i64 k∧Hid (wr.ownsRow w.heap.size 3 1 v (2 * k) (ints (flL (A.take k))))∧Hid (Below w.heap.size w wr)) (fun _ i _=>n - (intOf i).toNat)
  case atStart=>exact ⟨0,_,rfl,Nat.zero_le _,rfl,I0,L0⟩
  case round =>
    obtain ⟨k,v',rfl,hk,rfl,HO,HA⟩:=hrel;clear I0 L0;have HP:=zh (PA.out.keep HA.out)
    by_cases z:k<n
    · have kz:decide ((k:Int)<(n:Int))=true:=zdt (by omega);obtain ⟨k1,hk1⟩:∃ k1,k+1=k1:=⟨_,rfl⟩;obtain ⟨b,off,rfl,bl,cs⟩:=prs_here HP.out (show k<A.length by omega);obtain ⟨c0,c1⟩:=cs k (by omega);have sn:Hid (flL (A.take k1)=flL (A.take k)++[(A.getD k (0,0)).1,(A.getD k (0,0)).2]):=by show _=_;rw [← hk1];exact fl_snoc (by omega)
      clear cs;generalize A.getD k (0,0)=q at *;obtain ⟨x,y⟩:=q;replace c0:wr.cell? ⟨b,off+k * 2,none⟩=some (.int .i64 x):=c0;replace c1:wr.cell? ⟨b,off+k * 2+1,none⟩=some (.int .i64 y):=c1;have X1:=HO.out.alloc (.cells #[.int .i64 x,.int .i64 y] 3);have X2:∀ (j:Nat) (u:Value),[Value.int .i64 x,.int .i64 y][j]?=some u→(wr.alloc (.cells #[.int .i64 x,.int .i64 y] 3)).cell? ((⟨wr.heap.size,0,none⟩:Addr).add j)=some u:=fun j u hj=>by rw [Addr.add_lit,Nat.zero_add,World.cell?_alloc_new];simpa using hj
      have X3:∀ u∈[Value.int .i64 x,.int .i64 y],u.oneCell'=true:=fun u hu=>by simp at hu;rcases hu with rfl | rfl <;> rfl
      have X4:w.heap.size≤(wr.alloc (.cells #[.int .i64 x,.int .i64 y] 3)).heap.size:=by have:=HA.out.size;simp;omega
      have X5:2 * k+2≤maxLen:=by unfold maxLen;omega
      replace X1:=zh X1;replace X2:=zh X2;replace X3:=zh X3;replace X4:=zh X4;replace X5:=zh X5;go_wp2
      go_region_law (refine step_append_lies _ rfl _ _ 129 rfl w.heap.size 3 i0 (.int .i64 0) 1 8 Tryz.underlying129 hi hz0 hz1 hz2 rfl (by decide) v' (2 * k) (ints (flL (A.take k))) rfl X1.out ⟨wr.heap.size,0,none⟩ 2 2 [.int .i64 x,.int .i64 y] rfl rfl X2.out X3.out (by omega) X5.out (by omega) X4.out _ rfl ?_;intro g7 cap7 w7 hown hgrow _ _)
      all_goals
        have A7:Hid (Below w.heap.size w w7):=(grow HA.out _).drew.grown hgrow (by have:=HA.out.size;simp;omega) (own_ge HO.out);have O7:Hid (w7.ownsRow w.heap.size 3 1 (.slice (some ⟨g7,0,none⟩) (2 * k+2) cap7) (2 * k1) (ints (flL (A.take k1)))):=by show World.ownsRow _ _ _ _ _ _ _;rw [show 2 * k1=2 * k+2 by omega,sn.out,ints_app];exact hown
        clear hown hgrow HO HA HP sn c0 c1 bl X1 X2 X3 X4 X5;go_wp2
        go_roundw
        case rel=>exact ⟨k1,_,rfl,by omega,by first | rfl | (congr 1;omega) | go_num,O7,A7⟩
        case measure=>simp [intOf];omega
    · have kz:decide ((k:Int)<(n:Int))=false:=zdf (by omega);obtain rfl:n=k:=by omega
      have tk:A.take n=A:=List.take_of_length_le (by omega);rw [tk] at HO;clear tk z HP kz;obtain ⟨vx,hvx⟩:∃ vx,v'=vx:=⟨_,rfl⟩;rw [hvx] at HO ⊢;obtain ⟨w2,hw2⟩:∃ w2,wr=w2:=⟨_,rfl⟩;rw [hw2] at HO HA ⊢;clear hvx hw2;have XS:Hid (IntS w.heap.size w2 vx (flL A)):=by show Sl _ _ _ _ _;rw [fl_len,hn];exact Sl.owns HO.out
      have A2:=HA;have PB2:=zh (PB.out.keep HA.out);have I1:Hid (w2.ownsRow w2.heap.size 3 1 (.slice none 0 0) (2 * 0) (ints (flL (B.take 0)))):=World.ownsRow_nil _ _ _ _;have L1:Hid (Below w2.heap.size w2 w2):=here w2;have kz0:decide ((n:Int)<(n:Int))=false:=zdf (by omega);clear HO HA PA;go_wp2
      go_loopw [6,9] (fun v i wr=>∃ (k:Nat) (v':Value),v'=v∧k≤m∧i=.int .i64 k∧Hid (wr.ownsRow w2.heap.size 3 1 v (2 * k) (ints (flL (B.take k))))∧Hid (Below w2.heap.size w2 wr)) (fun _ i _=>m - (intOf i).toNat)
      case atStart=>exact ⟨0,_,rfl,Nat.zero_le _,rfl,I1,L1⟩
      case round =>
        obtain ⟨k,v',rfl,hk,rfl,HO,HA⟩:=hrel;clear I1 L1;have HP:=zh (PB2.out.keep HA.out)
        by_cases z:k<m
        · have kz:decide ((k:Int)<(m:Int))=true:=zdt (by omega);obtain ⟨k1,hk1⟩:∃ k1,k+1=k1:=⟨_,rfl⟩;obtain ⟨b,off,rfl,bl,cs⟩:=prs_here HP.out (show k<B.length by omega);obtain ⟨c0,c1⟩:=cs k (by omega);have sn:Hid (flL (B.take k1)=flL (B.take k)++[(B.getD k (0,0)).1,(B.getD k (0,0)).2]):=by show _=_;rw [← hk1];exact fl_snoc (by omega)
          clear cs;generalize B.getD k (0,0)=q at *;obtain ⟨x,y⟩:=q;replace c0:wr.cell? ⟨b,off+k * 2,none⟩=some (.int .i64 x):=c0;replace c1:wr.cell? ⟨b,off+k * 2+1,none⟩=some (.int .i64 y):=c1;have X1:=HO.out.alloc (.cells #[.int .i64 x,.int .i64 y] 3);have X2:∀ (j:Nat) (u:Value),[Value.int .i64 x,.int .i64 y][j]?=some u→(wr.alloc (.cells #[.int .i64 x,.int .i64 y] 3)).cell? ((⟨wr.heap.size,0,none⟩:Addr).add j)=some u:=fun j u hj=>by rw [Addr.add_lit,Nat.zero_add,World.cell?_alloc_new];simpa using hj
          have X3:∀ u∈[Value.int .i64 x,.int .i64 y],u.oneCell'=true:=fun u hu=>by simp at hu;rcases hu with rfl | rfl <;> rfl
          have X4:w2.heap.size≤(wr.alloc (.cells #[.int .i64 x,.int .i64 y] 3)).heap.size:=by have:=HA.out.size;simp;omega
          have X5:2 * k+2≤maxLen:=by unfold maxLen;omega
          replace X1:=zh X1;replace X2:=zh X2;replace X3:=zh X3;replace X4:=zh X4;replace X5:=zh X5;go_wp2
          go_region_law (refine step_append_lies _ rfl _ _ 129 rfl w2.heap.size 3 i0 (.int .i64 0) 1 8 Tryz.underlying129 hi hz0 hz1 hz2 rfl (by decide) v' (2 * k) (ints (flL (B.take k))) rfl X1.out ⟨wr.heap.size,0,none⟩ 2 2 [.int .i64 x,.int .i64 y] rfl rfl X2.out X3.out (by omega) X5.out (by omega) X4.out _ rfl ?_;intro g7 cap7 w7 hown hgrow _ _)
          all_goals
            have A7:Hid (Below w2.heap.size w2 w7):=(grow HA.out _).drew.grown hgrow (by have:=HA.out.size;simp;omega) (own_ge HO.out);have O7:Hid (w7.ownsRow w2.heap.size 3 1 (.slice (some ⟨g7,0,none⟩) (2 * k+2) cap7) (2 * k1) (ints (flL (B.take k1)))):=by show World.ownsRow _ _ _ _ _ _ _;rw [show 2 * k1=2 * k+2 by omega,sn.out,ints_app];exact hown
            clear hown hgrow HO HA HP sn c0 c1 bl X1 X2 X3 X4 X5;go_wp2
            go_roundw
            case rel=>exact ⟨k1,_,rfl,by omega,by first | rfl | (congr 1;omega) | go_num,O7,A7⟩
            case measure=>simp [intOf];omega
        · have kz:decide ((k:Int)<(m:Int))=false:=zdf (by omega);obtain rfl:m=k:=by omega
          have tk:B.take m=B:=List.take_of_length_le (by omega);rw [tk] at HO;clear tk z HP kz;obtain ⟨vy,hvy⟩:∃ vy,v'=vy:=⟨_,rfl⟩;rw [hvy] at HO ⊢;obtain ⟨w3,hw3⟩:∃ w3,wr=w3:=⟨_,rfl⟩;rw [hw3] at HO HA ⊢;clear hvy hw3;have YS:Hid (IntS w2.heap.size w3 vy (flL B)):=by show Sl _ _ _ _ _;rw [fl_len,hm];exact Sl.owns HO.out
          replace XS:=zh (XS.out.keep HA.out);have A3:=zh (down A2.out HA.out);clear HO HA PB PB2 A2;have CU:Hid (cuts A B=mgZ (flL A) (flL B)):=rfl;have lx:(flL A).length≤200000:=by rw [fl_len];omega
          have ly:(flL B).length≤200000:=by rw [fl_len];omega
          generalize flL A=X at *;generalize flL B=Y at *;obtain ⟨ox,cx',rfl⟩:=peh_shape XS.out;obtain ⟨oy,cy',rfl⟩:=peh_shape YS.out;obtain ⟨n1,hn1⟩:∃ n1,X.length=n1:=⟨_,rfl⟩;obtain ⟨n2,hn2⟩:∃ n2,Y.length=n2:=⟨_,rfl⟩;rw [hn1] at XS lx ⊢;rw [hn2] at YS ly ⊢;have I2:Hid (w3.ownsRow w3.heap.size 3 1 (.slice none 0 0) (0+0) (ints [])):=World.ownsRow_nil _ _ _ _;have L2:Hid (Below w3.heap.size w3 w3):=here w3;have M2:Hid (([]:List Int)++mgZ (X.drop 0) (Y.drop 0)=mgZ X Y):=rfl;go_wp2
          go_loopw [7,10,11] (fun v i j wr=>∃ (p q:Nat) (v':Value) (RR:List Int),v'=v∧p≤n1∧q≤n2∧i=.int .i64 p∧j=.int .i64 q∧Hid (RR++mgZ (X.drop p) (Y.drop q)=mgZ X Y)∧Hid (wr.ownsRow w3.heap.size 3 1 v (p+q) (ints RR))∧Hid (Below w3.heap.size w3 wr)) (fun _ i j _=>n1+n2 - ((intOf i).toNat+(intOf j).toNat))
          case atStart=>exact ⟨0,0,_,[],rfl,Nat.zero_le _,Nat.zero_le _,rfl,rfl,M2,I2,L2⟩
          case round =>
            obtain ⟨p,q,v',RR,rfl,hp,hq,rfl,rfl,MG,HO,HA⟩:=hrel;have XP:=zh (XS.out.keep HA.out);have YP:=zh (YS.out.keep HA.out);clear I2 L2 M2
            by_cases z1:p<n1
            · have k1:decide ((p:Int)<(n1:Int))=true:=zdt (by omega);obtain ⟨bx,fx,rfl,blx,csx⟩:=peh_here XP.out (show p<X.length by omega);have cx:=csx p (by omega);clear csx
              by_cases z2:q<n2
              · have k2:((q:Int)==(n2:Int))=false:=by rw [beq_eq_false_iff_ne];omega
                obtain ⟨by',fy,rfl,bly,csy⟩:=peh_here YP.out (show q<Y.length by omega);have cy:=csy q (by omega);clear csy
                by_cases le:X.getD p 0≤Y.getD q 0
                · have k3:=zdt le;have MG2:Hid ((RR++[X.getD p 0])++mgZ (X.drop (p+1)) (Y.drop q)=mgZ X Y):=by
                    have st:=mgz_left (x:=X) (y:=Y) (i:=p) (k:=q) (by omega) (.inr le);show _=_;rw [← MG.out,st,List.append_assoc];rfl
                  clear le MG;obtain ⟨t,ht⟩:∃ t,X.getD p 0=t:=⟨_,rfl⟩;rw [ht] at cx k3 MG2;generalize Y.getD q 0=u at *;clear ht;go_wp2
                  go_quiet (fail)
                  obtain ⟨w5,hw5⟩:∃ w5:World,wr.drewN nq=w5:=⟨_,rfl⟩;rw [hw5];have A5:=zh (show Below w3.heap.size w3 w5 by rw [← hw5];exact below_drewN HA.out _);have O5:Hid (w5.ownsRow w3.heap.size 3 1 v' (p+q) (ints RR)):=by show World.ownsRow _ _ _ _ _ _ _;rw [← hw5];exact HO.out
                  have c5:w5.cell? ⟨bx,fx+p,none⟩=some (.int .i64 t):=by rw [← hw5];exact cx
                  clear hw5 HO HA XP YP cx cy;go_wp2_with (at_builtin;refine wpList_append_own _ rfl _ _ 129 rfl w3.heap.size 3 i0 (.int .i64 0) 1 8 Tryz.underlying129 hi hz0 hz1 hz2 rfl (by decide) v' (p+q) (ints RR) rfl (O5.out.alloc _) ⟨w5.heap.size,0,none⟩ 1 1 [.int .i64 t] rfl rfl ?c1 ?c2 ?c3 ?c4 ?c5 ?_)
                  case c1=>intro j u hj;rw [Addr.add_lit,Nat.zero_add,World.cell?_alloc_new];simpa using hj
                  case c2=>intro u hu;simp at hu;subst hu;rfl
                  case c3=>unfold maxLen;omega
                  case c4=>omega
                  case c5=>have:=A5.out.size;simp;omega
                  intro v7 w7 hown hgrow _;have A7:Hid (Below w3.heap.size w3 w7):=(A5.out.alloc A5.out.size _).grown hgrow (by have:=A5.out.size;simp;omega) (own_ge O5.out);have O7:Hid (w7.ownsRow w3.heap.size 3 1 v7 (p+1+q) (ints (RR++[t]))):=by show World.ownsRow _ _ _ _ _ _ _;rw [show p+1+q=p+q+1 by omega,ints_app];exact hown
                  clear hown hgrow A5 O5 c5;go_wp2
                  go_roundw
                  case rel=>exact ⟨p+1,q,_,RR++[t],rfl,by omega,by omega,by go_num,rfl,MG2,O7,A7⟩
                  case measure=>simp [intOf];omega
                · have k3:=zdf le;have MG2:Hid ((RR++[Y.getD q 0])++mgZ (X.drop p) (Y.drop (q+1))=mgZ X Y):=by
                    have st:=mgz_right' (x:=X) (y:=Y) (i:=p) (k:=q) (by omega) (.inr (by omega));show _=_;rw [← MG.out,st,List.append_assoc];rfl
                  clear le MG;obtain ⟨t,ht⟩:∃ t,Y.getD q 0=t:=⟨_,rfl⟩;rw [ht] at cy k3 MG2;generalize X.getD p 0=u at *;clear ht;go_wp2
                  go_quiet (fail)
                  obtain ⟨w5,hw5⟩:∃ w5:World,wr.drewN nq=w5:=⟨_,rfl⟩;rw [hw5];have A5:=zh (show Below w3.heap.size w3 w5 by rw [← hw5];exact below_drewN HA.out _);have O5:Hid (w5.ownsRow w3.heap.size 3 1 v' (p+q) (ints RR)):=by show World.ownsRow _ _ _ _ _ _ _;rw [← hw5];exact HO.out
                  have c5:w5.cell? ⟨by',fy+q,none⟩=some (.int .i64 t):=by rw [← hw5];exact cy
                  clear hw5 HO HA XP YP cx cy;go_wp2_with (at_builtin;refine wpList_append_own _ rfl _ _ 129 rfl w3.heap.size 3 i0 (.int .i64 0) 1 8 Tryz.underlying129 hi hz0 hz1 hz2 rfl (by decide) v' (p+q) (ints RR) rfl (O5.out.alloc _) ⟨w5.heap.size,0,none⟩ 1 1 [.int .i64 t] rfl rfl ?c1 ?c2 ?c3 ?c4 ?c5 ?_)
                  case c1=>intro j u hj;rw [Addr.add_lit,Nat.zero_add,World.cell?_alloc_new];simpa using hj
                  case c2=>intro u hu;simp at hu;subst hu;rfl
                  case c3=>unfold maxLen;omega
                  case c4=>omega
                  case c5=>have:=A5.out.size;simp;omega
                  intro v7 w7 hown hgrow _;have A7:Hid (Below w3.heap.size w3 w7):=(A5.out.alloc A5.out.size _).grown hgrow (by have:=A5.out.size;simp;omega) (own_ge O5.out);have O7:Hid (w7.ownsRow w3.heap.size 3 1 v7 (p+(q+1)) (ints (RR++[t]))):=by show World.ownsRow _ _ _ _ _ _ _;rw [show p+(q+1)=p+q+1 by omega,ints_app];exact hown
                  clear hown hgrow A5 O5 c5;go_wp2
                  go_roundw
                  case rel=>exact ⟨p,q+1,_,RR++[t],rfl,by omega,by omega,rfl,by go_num,MG2,O7,A7⟩
                  case measure=>simp [intOf];omega
              · have k2:((q:Int)==(n2:Int))=true:=beq_iff_eq.2 (by omega);have MG2:Hid ((RR++[X.getD p 0])++mgZ (X.drop (p+1)) (Y.drop q)=mgZ X Y):=by
                  have st:=mgz_left (x:=X) (y:=Y) (i:=p) (k:=q) (by omega) (.inl (by omega));show _=_;rw [← MG.out,st,List.append_assoc];rfl
                clear MG;obtain ⟨t,ht⟩:∃ t,X.getD p 0=t:=⟨_,rfl⟩;rw [ht] at cx MG2;clear ht;go_wp2
                go_quiet (fail)
                obtain ⟨w5,hw5⟩:∃ w5:World,wr.drewN nq=w5:=⟨_,rfl⟩;rw [hw5];have A5:=zh (show Below w3.heap.size w3 w5 by rw [← hw5];exact below_drewN HA.out _);have O5:Hid (w5.ownsRow w3.heap.size 3 1 v' (p+q) (ints RR)):=by show World.ownsRow _ _ _ _ _ _ _;rw [← hw5];exact HO.out
                have c5:w5.cell? ⟨bx,fx+p,none⟩=some (.int .i64 t):=by rw [← hw5];exact cx
                clear hw5 HO HA XP YP cx;go_wp2_with (at_builtin;refine wpList_append_own _ rfl _ _ 129 rfl w3.heap.size 3 i0 (.int .i64 0) 1 8 Tryz.underlying129 hi hz0 hz1 hz2 rfl (by decide) v' (p+q) (ints RR) rfl (O5.out.alloc _) ⟨w5.heap.size,0,none⟩ 1 1 [.int .i64 t] rfl rfl ?c1 ?c2 ?c3 ?c4 ?c5 ?_)
                case c1=>intro j u hj;rw [Addr.add_lit,Nat.zero_add,World.cell?_alloc_new];simpa using hj
                case c2=>intro u hu;simp at hu;subst hu;rfl
                case c3=>unfold maxLen;omega
                case c4=>omega
                case c5=>have:=A5.out.size;simp;omega
                intro v7 w7 hown hgrow _;have A7:Hid (Below w3.heap.size w3 w7):=(A5.out.alloc A5.out.size _).grown hgrow (by have:=A5.out.size;simp;omega) (own_ge O5.out);have O7:Hid (w7.ownsRow w3.heap.size 3 1 v7 (p+1+q) (ints (RR++[t]))):=by show World.ownsRow _ _ _ _ _ _ _;rw [show p+1+q=p+q+1 by omega,ints_app];exact hown
                clear hown hgrow A5 O5 c5;go_wp2
                go_roundw
                case rel=>exact ⟨p+1,q,_,RR++[t],rfl,by omega,by omega,by go_num,rfl,MG2,O7,A7⟩
                case measure=>simp [intOf];omega
            · have k1:decide ((p:Int)<(n1:Int))=false:=zdf (by omega)
              by_cases z2:q<n2
              · have k2:((q:Int)==(n2:Int))=false:=by rw [beq_eq_false_iff_ne];omega
                have k4:decide ((q:Int)<(n2:Int))=true:=zdt (by omega);obtain ⟨by',fy,rfl,bly,csy⟩:=peh_here YP.out (show q<Y.length by omega);have cy:=csy q (by omega);clear csy;have MG2:Hid ((RR++[Y.getD q 0])++mgZ (X.drop p) (Y.drop (q+1))=mgZ X Y):=by
                  have st:=mgz_right' (x:=X) (y:=Y) (i:=p) (k:=q) (by omega) (.inl (by omega));show _=_;rw [← MG.out,st,List.append_assoc];rfl
                clear MG;obtain ⟨t,ht⟩:∃ t,Y.getD q 0=t:=⟨_,rfl⟩;rw [ht] at cy MG2;clear ht;go_wp2
                go_quiet (fail)
                obtain ⟨w5,hw5⟩:∃ w5:World,wr.drewN nq=w5:=⟨_,rfl⟩;rw [hw5];have A5:=zh (show Below w3.heap.size w3 w5 by rw [← hw5];exact below_drewN HA.out _);have O5:Hid (w5.ownsRow w3.heap.size 3 1 v' (p+q) (ints RR)):=by show World.ownsRow _ _ _ _ _ _ _;rw [← hw5];exact HO.out
                have c5:w5.cell? ⟨by',fy+q,none⟩=some (.int .i64 t):=by rw [← hw5];exact cy
                clear hw5 HO HA XP YP cy;go_wp2_with (at_builtin;refine wpList_append_own _ rfl _ _ 129 rfl w3.heap.size 3 i0 (.int .i64 0) 1 8 Tryz.underlying129 hi hz0 hz1 hz2 rfl (by decide) v' (p+q) (ints RR) rfl (O5.out.alloc _) ⟨w5.heap.size,0,none⟩ 1 1 [.int .i64 t] rfl rfl ?c1 ?c2 ?c3 ?c4 ?c5 ?_)
                case c1=>intro j u hj;rw [Addr.add_lit,Nat.zero_add,World.cell?_alloc_new];simpa using hj
                case c2=>intro u hu;simp at hu;subst hu;rfl
                case c3=>unfold maxLen;omega
                case c4=>omega
                case c5=>have:=A5.out.size;simp;omega
                intro v7 w7 hown hgrow _;have A7:Hid (Below w3.heap.size w3 w7):=(A5.out.alloc A5.out.size _).grown hgrow (by have:=A5.out.size;simp;omega) (own_ge O5.out);have O7:Hid (w7.ownsRow w3.heap.size 3 1 v7 (p+(q+1)) (ints (RR++[t]))):=by show World.ownsRow _ _ _ _ _ _ _;rw [show p+(q+1)=p+q+1 by omega,ints_app];exact hown
                clear hown hgrow A5 O5 c5;go_wp2
                go_roundw
                case rel=>exact ⟨p,q+1,_,RR++[t],rfl,by omega,by omega,rfl,by go_num,MG2,O7,A7⟩
                case measure=>simp [intOf];omega
              · have k4:decide ((q:Int)<(n2:Int))=false:=zdf (by omega);have RE:RR=cuts A B:=by
                  have:=MG.out;rw [List.drop_of_length_le (by omega),List.drop_of_length_le (by omega),mgZ,List.append_nil] at this;rw [CU.out,this]
                have s3:=A3.out.size;have P9:Hid (IntS w.heap.size wr v' (cuts A B)):=by
                  rw [RE] at HO
                  show Sl _ _ _ _ _
                  have:=Sl.owns (own_weak HO.out s3);rw [CU.out,mgz_len,hn1,hn2];rw [CU.out] at this;rw [show n1+n2=p+q by omega];exact this
                have A9:=zh (down A3.out HA.out);clear RE HO HA MG XP YP z1 z2;have e1:=of_decide_eq_false k1;have e4:=of_decide_eq_false k4;go_wp2
                all_goals first
                  | (exfalso;have hx:=‹¬n1≤p›;omega)
                  | (exfalso;have hx:=‹p<n1∨q<n2›;omega)
                  | (go_ret;exact ⟨⟨_,rfl,P9.out⟩,A9.out⟩)
set_option maxRecDepth 100000 in
set_option maxHeartbeats 1000000 in
theorem rpsame (v u:Value) (L M:List Sp) (hn:L.length≤maxLen) (hm:M.length≤maxLen) {base base':Nat} (w:World) (h:PairS base w v L) (h':PairS base' w u M) :
    Calls Tryz.prog 126 #[v,u] w fun e w'=>e=.returned (.bool (decide (L=M)))∧Below w.heap.size w w':=by
  unfold maxLen at hn hm
  obtain ⟨o,c,rfl⟩:=prs_shape h;obtain ⟨o',c',rfl⟩:=prs_shape h';have HP:=zh h;have HQ:=zh h';clear h h';have A0:Hid (Below w.heap.size w w):=here w
  by_cases ln:L.length=M.length
  · have kl:((L.length:Int) != (M.length:Int))=false:=by rw [bne_eq_false_iff_eq];omega
    have yes:Hid ((∀ j,j<L.length→L.getD j (0,0)=M.getD j (0,0))→decide (L=M)=true):=fun q=>zdt (list_eq_of ln q);have no:Hid (∀ j,j<L.length→¬ L.getD j (0,0)=M.getD j (0,0)→decide (L=M)=false):=fun j hj q=>zdf (fun e=>q (by rw [e]));obtain ⟨n,hl⟩:∃ n,L.length=n:=⟨_,rfl⟩;rw [← ln] at HQ kl ⊢;rw [hl] at hn yes no HP HQ kl ⊢;have hl2:M.length=n:=by omega
    clear ln hm;generalize decide (L=M)=R at *
    go_enter Tryz.func126,Tryz.ntmps126
    go_wp2
    go_loopw [5] (fun i wr=>∃ k:Nat,k≤n∧i=.int .i64 k∧Hid (∀ j,j<k→L.getD j (0,0)=M.getD j (0,0))∧Hid (Below w.heap.size w wr)∧Hid (PairS base wr (.slice o n c) L)∧Hid (PairS base' wr (.slice o' n c') M)) (fun i _=>n - (intOf i).toNat)
    case atStart=>exact ⟨0,Nat.zero_le _,rfl,fun j hj=>absurd hj (Nat.not_lt_zero _),A0,HP,HQ⟩
    case round =>
      obtain ⟨k,hk,rfl,HU,HA,P1,P2⟩:=hrel;clear A0 HP HQ
      by_cases z:k<n
      · have kz:decide ((k:Int)<(n:Int))=true:=zdt (by omega);obtain ⟨b,off,rfl,bl,cs⟩:=prs_here P1.out (show k<L.length by omega);obtain ⟨c0,c1⟩:=cs k (by omega);obtain ⟨b',off',rfl,bl',cs'⟩:=prs_here P2.out (show k<M.length by omega);obtain ⟨d0,d1⟩:=cs' k (by omega);have on:L.getD k (0,0)=M.getD k (0,0)→Hid (∀ j,j<k+1→L.getD j (0,0)=M.getD j (0,0)):=fun u j hj=>by
          rcases Nat.lt_or_ge j k with y | y
          · exact HU.out j y
          · obtain rfl:j=k:=by omega
            exact u
        have off1:=no.out k z;clear cs cs' HU no yes;generalize L.getD k (0,0)=p at *;generalize M.getD k (0,0)=q at *;obtain ⟨x,x'⟩:=p;obtain ⟨y,y'⟩:=q
        by_cases u:x=y
        · subst u
          by_cases t:x'=y'
          · subst t;have HU2:=on rfl;clear on off1;go_wp2
            go_quiet (fail)
            have A2:=zh (below_drewN HA.out nq);have P3:=zh (P1.out.keep (below_drewN (here wr) nq));have P4:=zh (P2.out.keep (below_drewN (here wr) nq));clear HA P1 P2 c0 c1 d0 d1 bl bl';go_wp2
            go_roundw
            case rel=>exact ⟨k+1,by omega,by go_num,HU2,A2,P3,P4⟩
            case measure=>simp [intOf];omega
          · have kt:(x'==y')=false:=by rw [beq_eq_false_iff_ne];exact t
            have r:Hid (R=false):=off1 (fun e=>t (by injection e));clear on off1 t;go_wp2
            go_quiet (fail)
            go_wp2
            go_ret
            exact ⟨by rw [r.out];rfl,below_drewN HA.out _⟩
        · have ku:(x==y)=false:=by rw [beq_eq_false_iff_ne];exact u
          have r:Hid (R=false):=off1 (fun e=>u (by injection e));clear on off1 u;go_wp2
          go_quiet (fail)
          go_wp2
          go_ret
          exact ⟨by rw [r.out];rfl,below_drewN HA.out _⟩
      · have kz:decide ((k:Int)<(n:Int))=false:=zdf (by omega);obtain rfl:k=n:=by omega
        have r:Hid (R=true):=yes.out (fun j hj=>HU.out j (by omega));clear yes no HU P1 P2;go_wp2
        go_ret
        exact ⟨by rw [r.out];rfl,HA.out⟩
  · have kl:((L.length:Int) != (M.length:Int))=true:=by rw [bne_iff_ne];omega
    have r:Hid (decide (L=M)=false):=zdf (fun e=>ln (by rw [e]));generalize decide (L=M)=R at *;clear ln
    go_enter Tryz.func126,Tryz.ntmps126
    go_wp2
    go_ret
    exact ⟨by rw [r.out];rfl,A0.out⟩
theorem take_snoc2 (M:List Sp) {k:Nat} (hk:k<M.length):M.take (k+1)=M.take k++[M.getD k (0,0)]:=by
 rw [List.take_add_one,List.getD_eq_getElem?_getD,List.getElem?_eq_getElem hk];rfl
theorem cu_snoc (d:Int) (A:List Sp) (q:Sp):cuL d (A++[q])=cuL d A++(if q.1<d then [(q.1,if q.2<d then q.2 else d)] else []):=by
 unfold cuL
 by_cases h:q.1<d
 ·simp [List.filter_append,h]
 ·simp [List.filter_append,h]
set_option maxRecDepth 100000 in
set_option maxHeartbeats 1000000 in
theorem rpcut (v:Value) (d:Int) (L:List Sp) (hn:L.length≤1000000) {base:Nat} (w:World) (h:PairS base w v L) :
    Calls Tryz.prog 154 #[.int .i64 d,v] w fun e w'=>(∃ v',e=.returned (.agg #[.int .i64 d,v'])∧w'.ownsRow w.heap.size 40 2 v' (cuL d L).length (pairs (cuL d L)))∧Below w.heap.size w w':=by
  obtain ⟨i0,hi,hz0,hz1,hz2⟩:=info_parts infoS;obtain ⟨o,c,rfl⟩:=prs_shape h;have PL:=zh h;have B0:=zh (grow (here w) (.cells #[.int .i64 0,.slice none 0 0] 24));have T0:=zh (Tuo.new w (.int .i64 0) (.slice none 0 0) 24);have I0:Hid ((w.alloc (.cells #[.int .i64 0,.slice none 0 0] 24)).ownsRow (w.alloc (.cells #[.int .i64 0,.slice none 0 0] 24)).heap.size 40 2 (.slice none 0 0) (cuL d (L.take 0)).length (pairs (cuL d (L.take 0)))):=World.ownsRow_nil _ _ _ _;have L0:Hid (Below (w.alloc (.cells #[.int .i64 0,.slice none 0 0] 24)).heap.size (w.alloc (.cells #[.int .i64 0,.slice none 0 0] 24)) (w.alloc (.cells #[.int .i64 0,.slice none 0 0] 24))):=here _;replace PL:=zh (PL.out.keep B0.out);obtain ⟨n,hl⟩:∃ n,L.length=n:=⟨_,rfl⟩;rw [hl] at hn PL ⊢;clear h
  go_enter Tryz.func154,Tryz.ntmps154
  go_wp2
  generalize hW0:w.alloc (.cells #[.int .i64 0,.slice none 0 0] 24)=W0 at *;clear hW0
  go_loopw [5,6] (fun v i wr=>∃ (k:Nat) (v':Value),v'=v∧k≤n∧i=.int .i64 k∧Hid (wr.ownsRow W0.heap.size 40 2 v (cuL d (L.take k)).length (pairs (cuL d (L.take k))))∧Hid (Below W0.heap.size W0 wr)) (fun _ i _=>n - (intOf i).toNat)
  case atStart=>exact ⟨0,_,rfl,Nat.zero_le _,rfl,I0,L0⟩
  case round =>
    obtain ⟨k,v',rfl,hk,rfl,HO,HA⟩:=hrel;clear I0 L0;have HP:=zh (PL.out.keep HA.out)
    by_cases z:k<n
    · have kz:decide ((k:Int)<(n:Int))=true:=zdt (by omega);obtain ⟨k1,hk1⟩:∃ k1,k+1=k1:=⟨_,rfl⟩;obtain ⟨b,off,rfl,bl,cs⟩:=prs_here HP.out (show k<L.length by omega);obtain ⟨c0,c1⟩:=cs k (by omega);have sn:Hid (cuL d (L.take k1)=cuL d (L.take k)++(if (L.getD k (0,0)).1<d then [((L.getD k (0,0)).1,if (L.getD k (0,0)).2<d then (L.getD k (0,0)).2 else d)] else [])):=by show _=_;rw [← hk1,take_snoc2 L (by omega),cu_snoc]
      clear cs;generalize L.getD k (0,0)=q at *;obtain ⟨x,y⟩:=q;replace c0:wr.cell? ⟨b,off+k * 2,none⟩=some (.int .i64 x):=c0;replace c1:wr.cell? ⟨b,off+k * 2+1,none⟩=some (.int .i64 y):=c1;replace sn:Hid (cuL d (L.take k1)=cuL d (L.take k)++(if x<d then [(x,if y<d then y else d)] else [])):=sn
      by_cases xd:x<d
      · have kx:=zdt xd;rw [if_pos xd] at sn;have et:(if y<d then y else d)=(if d<y then d else y):=by split <;> split <;> omega
        rw [et] at sn;clear et;have cl:=cu_len d (L.take k);have cl2:(L.take k).length≤k:=by rw [List.length_take];omega
        generalize cuL d (L.take k)=RR at *;obtain ⟨RR1,hR1⟩:∃ R,cuL d (L.take k1)=R:=⟨_,rfl⟩;rw [hR1] at sn;obtain ⟨m,hm⟩:∃ m,RR.length=m:=⟨_,rfl⟩;rw [hm] at HO;have X1:=HO.out.alloc (.cells #[.int .i64 x,.int .i64 (if d<y then d else y)] 40);have X2:∀ (j:Nat) (u:Value),[Value.int .i64 x,.int .i64 (if d<y then d else y)][j]?=some u→(wr.alloc (.cells #[.int .i64 x,.int .i64 (if d<y then d else y)] 40)).cell? ((⟨wr.heap.size,0,none⟩:Addr).add j)=some u:=fun j u hj=>by rw [Addr.add_lit,Nat.zero_add,World.cell?_alloc_new];simpa using hj
        have X3:∀ u∈[Value.int .i64 x,.int .i64 (if d<y then d else y)],u.oneCell'=true:=fun u hu=>by simp at hu;rcases hu with rfl | rfl <;> rfl
        have X4:W0.heap.size≤(wr.alloc (.cells #[.int .i64 x,.int .i64 (if d<y then d else y)] 40)).heap.size:=by have:=HA.out.size;simp;omega
        have X5:m+1≤maxLen:=by unfold maxLen;omega
        replace X1:=zh X1;replace X2:=zh X2;replace X3:=zh X3;replace X4:=zh X4;replace X5:=zh X5;go_wp2
        go_region_law (refine step_append_lies _ rfl _ _ 22 rfl W0.heap.size 40 i0 (.agg #[.int .i64 0,.int .i64 0]) 2 16 Tryz.underlying22 hi hz0 hz1 hz2 rfl (by decide) v' m (pairs RR) rfl X1.out ⟨wr.heap.size,0,none⟩ 1 1 [.int .i64 x,.int .i64 (if d<y then d else y)] rfl rfl X2.out X3.out (by omega) X5.out (by omega) X4.out _ rfl ?_;intro g7 cap7 w7 hown hgrow _ _)
        all_goals
          have A7:Hid (Below W0.heap.size W0 w7):=(grow HA.out _).drew.grown hgrow (by have:=HA.out.size;simp;omega) (own_ge HO.out);have O7:Hid (w7.ownsRow W0.heap.size 40 2 (.slice (some ⟨g7,0,none⟩) (m+1) cap7) RR1.length (pairs RR1)):=by show World.ownsRow _ _ _ _ _ _ _;rw [sn.out,pairs_append,List.length_append,hm];exact hown
          clear hown hgrow HO HA HP sn c0 c1 bl X1 X2 X3 X4 X5;go_wp2
          go_roundw
          case rel=>exact ⟨k1,_,rfl,by omega,by first | rfl | (congr 1;omega) | go_num,by rw [hR1];exact O7,A7⟩
          case measure=>simp [intOf];omega
      · have kx:=zdf xd;rw [if_neg xd,List.append_nil] at sn;go_wp2
        go_roundw
        case rel=>exact ⟨k1,_,rfl,by omega,by first | rfl | (congr 1;omega) | go_num,by rw [sn.out];exact HO,HA⟩
        case measure=>simp [intOf];omega
    · have kz:decide ((k:Int)<(n:Int))=false:=zdf (by omega);obtain rfl:n=k:=by omega
      rw [show L.take n=L from List.take_of_length_le (by omega)] at HO;obtain ⟨o2,c2,e2⟩:=prs_shape (Sl.owns HO.out:PairS _ _ _ _);subst e2;have T1:=T0.out.keep HA.out;have B1:=zh (B0.out.trans (HA.out.mono B0.out.size));have lt0:=T0.out.t.lt;have O1:=zh (zh (fun u v=>own_weak (ownsRow_setCell_below (ownsRow_setCell_below HO.out (a:=⟨w.heap.size,0,none⟩) lt0 u) (a:=⟨w.heap.size,1,none⟩) lt0 v) B0.out.size));clear HP z kz;have U1:=zh (zh (T1.put (.int .i64 d) (.slice o2 (cuL d L).length c2)));obtain ⟨⟨t0,t1,tl⟩,f0,f1⟩:=T1;go_wp2
      have s0:=U1.out.out.c0;have s1:=U1.out.out.c1;have B2:=(B1.out.setCell (p:=⟨w.heap.size,0,none⟩) (Nat.le_refl _) (.int .i64 d)).setCell (p:=⟨w.heap.size,1,none⟩) (Nat.le_refl _) (.slice o2 (cuL d L).length c2);have O2:=O1.out.out (.int .i64 d) (.slice o2 (cuL d L).length c2);clear U1 O1 B1 t0 t1 f0 f1;generalize (wr.setCell ⟨w.heap.size,0,none⟩ (.int .i64 d)).setCell ⟨w.heap.size,1,none⟩ (.slice o2 (cuL d L).length c2)=w9 at *;refine bodyPost_ret (v:=.agg #[.int .i64 d,.slice o2 (cuL d L).length c2]) (by simp [results,Tryz.results154,go_sem,s0,s1]) rfl ?_;exact ⟨⟨_,rfl,O2⟩,B2⟩
set_option maxRecDepth 100000 in
set_option maxHeartbeats 1000000 in
theorem rphas (v:Value) (P:Int) (L:List Sp) (hn:L.length≤maxLen) (P0:0<P) (P1:P≤4398046511104) (x:Int) (hx:I64 x) {base:Nat} (w:World) (h:PairS base w v L) :
    Calls Tryz.prog 69 #[.agg #[.int .i64 P,v],.int .i64 x] w fun e w'=>e=.returned (.bool (hsP P L x))∧Below w.heap.size w w':=by
  unfold maxLen at hn
  obtain ⟨o,c,rfl⟩:=prs_shape h;have HM:=zh (fun w=>refmod_all x P hx.1 hx.2 (by omega) (by omega) w);rw [dR_pos P0] at HM
  unfold hsP
  generalize x % P=r at *;have yes:Hid (∀ j,j<L.length→(L.getD j (0,0)).1≤r→r<(L.getD j (0,0)).2→inB L r=true):=fun j hj a b=>inB_iff.2 ⟨L.getD j (0,0),by
    rw [List.getD_eq_getElem?_getD,List.getElem?_eq_getElem hj];exact List.getElem_mem hj,a,b⟩
  have no:Hid ((∀ j,j<L.length→¬ ((L.getD j (0,0)).1≤r∧r<(L.getD j (0,0)).2))→inB L r=false):=fun q=>by
    rw [← Bool.not_eq_true,inB_iff];rintro ⟨p,hp,a⟩;obtain ⟨j,hj,rfl⟩:=List.getElem_of_mem hp;have:=q j hj;rw [List.getD_eq_getElem?_getD,List.getElem?_eq_getElem hj] at this;exact this a
  have HP:=zh h;obtain ⟨n,hl⟩:∃ n,L.length=n:=⟨_,rfl⟩;rw [hl] at hn yes no HP ⊢;generalize inB L r=R at *;clear h;have T0:Two (w.alloc (.cells #[.int .i64 P,.slice o n c] 24)) w.heap.size (.int .i64 P) (.slice o n c):=Two.new (here _);have A0:=grow (here w) (.cells #[.int .i64 P,.slice o n c] 24);replace HP:=zh (HP.out.keep A0);replace T0:=zh T0;replace A0:=zh A0;have t0:=T0.out.1
  go_enter Tryz.func69,Tryz.ntmps69
  go_wp2_with (go_at_call 122;refine (HM.out _).mono ?_;rintro e W ⟨rfl,q,hW⟩;have A1:Hid (Below w.heap.size w W):=by { rw [hW];exact below_drewN A0.out q };have T1:Two W w.heap.size (.int .i64 P) (.slice o n c):=by { rw [hW];exact Two.drewN T0.out q };have HQ:Hid (PairS base W (.slice o n c) L):=by { rw [hW];exact HP.out.keep (below_drewN (here _) q) };clear hW HP A0 T0 t0;obtain ⟨t0,t1,tl⟩:=T1)
  go_loopw [6] (fun i wr=>∃ k:Nat,k≤n∧i=.int .i64 k∧wr=W∧Hid (∀ j,j<k→¬ ((L.getD j (0,0)).1≤r∧r<(L.getD j (0,0)).2))) (fun i _=>n - (intOf i).toNat)
  case atStart=>exact ⟨0,Nat.zero_le _,rfl,rfl,fun j hj=>absurd hj (Nat.not_lt_zero _)⟩
  case round =>
    obtain ⟨k,hk,rfl,rfl,HU⟩:=hrel
    by_cases z:k<n
    · have kz:decide ((k:Int)<(n:Int))=true:=zdt (by omega);obtain ⟨b,off,rfl,bl,cs⟩:=prs_here HQ.out (show k<L.length by omega);obtain ⟨c0,c1⟩:=cs k (by omega);obtain ⟨p,hp⟩:∃ p,(L.getD k (0,0)).1=p:=⟨_,rfl⟩;obtain ⟨q,hq⟩:∃ q,(L.getD k (0,0)).2=q:=⟨_,rfl⟩;rw [hp] at c0;rw [hq] at c1;clear cs;have on:¬ (p≤r∧r<q)→Hid (∀ j,j<k+1→¬ ((L.getD j (0,0)).1≤r∧r<(L.getD j (0,0)).2)):=fun u j hj=>by
        rcases Nat.lt_or_ge j k with y | y
        · exact HU.out j y
        · obtain rfl:j=k:=by omega
          rw [hp,hq];exact u
      cases u:decide (p≤r)
      · have HU2:=on (fun q=>by rw [zdt q.1] at u;cases u);clear on yes no HU hp hq HM;go_wp2
        go_roundw
        case rel=>exact ⟨k+1,by omega,by go_num,by first | rfl | trivial,HU2⟩
        case measure=>simp [intOf];omega
      · cases t:decide (r<q)
        · have HU2:=on (fun q=>by rw [zdt q.2] at t;cases t);clear on yes no HU hp hq HM;go_wp2
          go_roundw
          case rel=>exact ⟨k+1,by omega,by go_num,by first | rfl | trivial,HU2⟩
          case measure=>simp [intOf];omega
        · have rr:Hid (R=true):=yes.out k z (by rw [hp];exact of_decide_eq_true u) (by rw [hq];exact of_decide_eq_true t);clear on yes no HU hp hq HM;go_wp2
          go_ret
          exact ⟨by rw [rr.out];rfl,A1.out⟩
    · have kz:decide ((k:Int)<(n:Int))=false:=zdf (by omega);obtain rfl:k=n:=by omega
      have rr:Hid (R=false):=no.out HU.out;clear yes no HU HQ HM;go_wp2
      go_ret
      exact ⟨by rw [rr.out];rfl,A1.out⟩
theorem pe_at {P:Int} {L:List Sp} (c:Cn L) (i:InP P L) {k:Nat} (hk:k<L.length):0≤(L.getD k (0,0)).1∧(L.getD k (0,0)).1<(L.getD k (0,0)).2∧(L.getD k (0,0)).2≤P:=by
 have m:L.getD k (0,0)∈L:=by rw [List.getD_eq_getElem?_getD,List.getElem?_eq_getElem hk];exact List.getElem_mem hk
 have:=i _ m;exact ⟨this.1,c.lt _ m,this.2⟩
theorem scan_end {A:List Sp} {x:Int} (h:∀ j,j<A.length→(A.getD j (0,0)).2≤x):inB A x=false:=in_high fun q hq=>by
 obtain ⟨j,hj,rfl⟩:=List.getElem_of_mem hq;have:=h j hj;rw [List.getD_eq_getElem?_getD,List.getElem?_eq_getElem hj] at this;exact this
theorem scan_mid {A:List Sp} (c:Cn A) {x:Int} {i:Nat} (hi:i<A.length) (h:∀ j,j<i→(A.getD j (0,0)).2≤x) (lt:x<(A.getD i (0,0)).2):inB A x=decide ((A.getD i (0,0)).1≤x):=by
  have gd:∀ j (hj:j<A.length),A.getD j (0,0)=A[j]:=fun j hj=>by rw [List.getD_eq_getElem?_getD,List.getElem?_eq_getElem hj];rfl
  rw [Bool.eq_iff_iff,inB_iff,decide_eq_true_eq]
  constructor
  · rintro ⟨p,hp,a,b⟩;obtain ⟨j,hj,rfl⟩:=List.getElem_of_mem hp
    rcases Nat.lt_trichotomy j i with z | rfl | z
    · have:=h j z;rw [gd j hj] at this;omega
    · rw [gd j hj];exact a
    · have:∀ {L:List Sp},Cn L→∀ {i j:Nat},i<j→j<L.length→(L.getD i (0,0)).2≤(L.getD j (0,0)).1:=by
        intro L c
        induction L with
        | nil=>intro i j _ hj;simp at hj
        | cons p L ih =>
          intro i j z hj;obtain ⟨j,rfl⟩:∃ j',j=j'+1:=⟨j - 1,by omega⟩;have hj':j<L.length:=by simpa using hj
          cases i with
          | zero =>
            show p.2≤(L.getD j (0,0)).1
            have m:L.getD j (0,0)∈L:=by rw [List.getD_eq_getElem?_getD,List.getElem?_eq_getElem hj'];exact List.getElem_mem hj'
            have:=c.2.1 _ m;omega
          | succ i=>exact ih c.2.2 (by omega) hj'
      have:=this c z hj;rw [gd j hj] at this;omega
  · intro a;refine ⟨A.getD i (0,0),by rw [gd i hi];exact List.getElem_mem hi,a,lt⟩
theorem addL_len (R:List Sp) (s:Sp):(addL R s).length≤R.length+1:=by
 unfold addL;split <;> simp <;> omega
set_option maxRecDepth 100000 in
set_option maxHeartbeats 2000000 in
theorem rplists (va vb:Value) (A B:List Sp) (hA:A.length≤100000) (hB:B.length≤100000) (cA:Cn A) (cB:Cn B) (K:Int) (K0:0≤K) (K1:K≤2) {ba bb:Nat} (w:World) (a:PairS ba w va A) (b:PairS bb w vb B) :
    Calls Tryz.prog 83 #[va,vb,.int .i64 K] w fun e w'=>(∃ v',e=.returned v'∧PairS w.heap.size w' v' (cbL (K+1) A B))∧Below w.heap.size w w':=by
  obtain ⟨i0,hi,hz0,hz1,hz2⟩:=info_parts infoS;obtain ⟨oa,ca,rfl⟩:=prs_shape a;obtain ⟨ob,cb,rfl⟩:=prs_shape b;have PA:=zh a;have PB:=zh b;have HE:=zh (rpends (.slice oa A.length ca) (.slice ob B.length cb) A B hA hB w a b);have HR:=zh (fun x y w=>rule_rk K x y K0 K1 w);clear a b;have ST:=zh (fun (c:Nat) (R:List Sp) (hc:c+1<(cuts A B).length) (S:Cmb (K+1) A B ((cuts A B).getD c 0) R) lt=>cmb_step cA cB hc S lt);have EN:=zh (fun (c:Nat) (R:List Sp) hc (S:Cmb (K+1) A B ((cuts A B).getD c 0) R)=>cmb_end cA cB hc S);have S0:=zh (cmb_start (k:=K+1) cA cB);have EM:Hid (∀ c:Nat,c+1<(cuts A B).length→(cuts A B).getD c 0≤(cuts A B).getD (c+1) 0):=fun c hc=>wsc_at (mgz_asc _ _ (fl_asc cA) (fl_asc cB):Wsc (cuts A B)) (Nat.le_succ c) hc;have LE:=cuts_len A B;generalize cuts A B=E at *
  go_enter Tryz.func83,Tryz.ntmps83
  go_wp2_with (go_at_call 133;refine HE.out.mono ?_;rintro e W ⟨⟨ve,rfl,PE⟩,A1⟩)
  obtain ⟨n,hn⟩:∃ n,A.length=n:=⟨_,rfl⟩;obtain ⟨m,hm⟩:∃ m,B.length=m:=⟨_,rfl⟩;obtain ⟨N,hN⟩:∃ N,E.length=N:=⟨_,rfl⟩;rw [hN] at LE ST EN EM;obtain ⟨oe,ce,rfl⟩:=peh_shape PE;rw [hn,hm] at LE;rw [hN] at PE ⊢;rw [hn] at PA hA ⊢;rw [hm] at PB hB ⊢;have PA1:=zh (PA.out.keep A1);have PB1:=zh (PB.out.keep A1);have PE1:=zh PE;clear PA PB PE HE;obtain ⟨w1,hw1⟩:∃ w1,W=w1:=⟨_,rfl⟩;subst hw1;generalize W=w1 at *;have I0:Hid (w1.ownsRow w1.heap.size 40 2 (.slice none 0 0) ([]:List Sp).length (pairs [])):=World.ownsRow_nil _ _ _ _;have L0:Hid (Below w1.heap.size w1 w1):=here w1;replace A1:=zh A1;have LE2:N≤400000:=by omega
  clear LE;have J0:Hid (∀ j,j<0→(A.getD j (0,0)).2≤E.getD 0 0):=fun j hj=>absurd hj (Nat.not_lt_zero _);have J1:Hid (∀ j,j<0→(B.getD j (0,0)).2≤E.getD 0 0):=fun j hj=>absurd hj (Nat.not_lt_zero _)
  go_loopw [8,9,10,11] (fun v i' k' c' wr=>∃ (c i k:Nat) (v':Value) (R:List Sp),v'=v∧(c=0∨c+1≤N)∧i≤n∧k≤m∧i'=.int .i64 i∧k'=.int .i64 k∧c'=.int .i64 c∧R.length≤c∧Hid (∀ j,j<i→(A.getD j (0,0)).2≤E.getD c 0)∧Hid (∀ j,j<k→(B.getD j (0,0)).2≤E.getD c 0)∧Hid (Cmb (K+1) A B (E.getD c 0) R)∧Hid (wr.ownsRow w1.heap.size 40 2 v R.length (pairs R))∧Hid (Below w1.heap.size w1 wr)) (fun _ _ _ c' _=>N - (intOf c').toNat)
  case atStart=>exact ⟨0,0,0,_,[],rfl,.inl rfl,Nat.zero_le _,Nat.zero_le _,rfl,rfl,rfl,Nat.le_refl _,J0,J1,S0,I0,L0⟩
  case round =>
    obtain ⟨c,i,k,v',R,rfl,hc,hi',hk,rfl,rfl,rfl,rl,HI,HK,HC,HO,HA⟩:=hrel;clear I0 L0 J0 J1 S0;have PA2:=zh (PA1.out.keep HA.out);have PB2:=zh (PB1.out.keep HA.out);have PE2:=zh (PE1.out.keep HA.out)
    by_cases z:c+1<N
    · have kz:decide ((c:Int)+1<(N:Int))=true:=zdt (by omega);obtain ⟨be,fe,rfl,ble,cse⟩:=peh_here PE2.out (show c<E.length by omega);have c0:=cse c (by omega);have c1:=cse (c+1) (by omega);have st:=ST.out c R z HC.out;have em:=EM.out c z;clear cse ST EM EN;obtain ⟨f,hf⟩:∃ f,E.getD c 0=f:=⟨_,rfl⟩;obtain ⟨t,ht⟩:∃ t,E.getD (c+1) 0=t:=⟨_,rfl⟩;rw [hf] at c0 HI HK HC;rw [hf,ht] at st em;rw [ht] at c1;replace st:=zh st;replace c1:wr.cell? ⟨be,fe+(c+1),none⟩=some (.int .i64 t):=c1;go_wp2
      go_quiet (fail)
      obtain ⟨w5,hw5⟩:∃ w5:World,wr.drewN nq=w5:=⟨_,rfl⟩;rw [hw5];have A5:=zh (show Below w1.heap.size w1 w5 by rw [← hw5];exact below_drewN HA.out _);have O5:Hid (w5.ownsRow w1.heap.size 40 2 v' R.length (pairs R)):=by show World.ownsRow _ _ _ _ _ _ _;rw [← hw5];exact HO.out
      have PA5:=zh (show PairS ba w5 (.slice oa n ca) A by rw [← hw5];exact PA2.out.keep (below_drewN (here wr) nq));have PB5:=zh (show PairS bb w5 (.slice ob m cb) B by rw [← hw5];exact PB2.out.keep (below_drewN (here wr) nq));clear hw5 HA HO PA2 PB2 PE2 c0 c1 ble
      by_cases ft:f=t
      · subst ft;have HI2:Hid (∀ j,j<i→(A.getD j (0,0)).2≤E.getD (c+1) 0):=by rw [ht];exact HI
        have HK2:Hid (∀ j,j<k→(B.getD j (0,0)).2≤E.getD (c+1) 0):=by rw [ht];exact HK
        have HC2:Hid (Cmb (K+1) A B (E.getD (c+1) 0) R):=by rw [ht];exact HC
        clear HI HK HC st;go_wp2
        go_roundw
        case rel=>exact ⟨c+1,i,k,_,R,rfl,by omega,by omega,by omega,by first | rfl | go_num,by first | rfl | go_num,by first | rfl | go_num,by omega,HI2,HK2,HC2,O5,A5⟩
        case measure=>simp [intOf];omega
      · have kf:(f==t)=false:=by rw [beq_eq_false_iff_ne];exact ft
        have lt:f<t:=by omega
        have HK5:=HK;clear HC HK;go_wp2
        go_loopw [9] (fun i' wr'=>∃ i2:Nat,i2≤n∧i'=.int .i64 i2∧wr'=w5∧Hid (∀ j,j<i2→(A.getD j (0,0)).2≤f)) (fun i' _=>n - (intOf i').toNat)
        case atStart=>exact ⟨i,hi',rfl,rfl,HI⟩
        case round =>
          obtain ⟨i2,hi2,rfl,hw2,HJ⟩:=hrel;have hw3:=hw2.symm;clear hw2 HI;subst hw3
          by_cases y1:i2<n
          · have ky1:decide ((i2:Int)<(n:Int))=true:=zdt (by omega);obtain ⟨bA,fA,rfl,blA,csA⟩:=prs_here PA5.out (show i2<A.length by omega);obtain ⟨d0,d1⟩:=csA i2 (by omega);clear csA
            by_cases y2:(A.getD i2 (0,0)).2≤f
            · have ky2:=zdt y2;have HJ2:Hid (∀ j,j<i2+1→(A.getD j (0,0)).2≤f):=fun j hj=>by
                rcases Nat.lt_or_ge j i2 with y | y
                · exact HJ.out j y
                · obtain rfl:j=i2:=by omega
                  exact y2
              generalize (A.getD i2 (0,0)).2=gy at *;go_wp2
              go_roundw
              case rel=>exact ⟨i2+1,by omega,by go_num,by first | rfl | trivial,HJ2⟩
              case measure=>simp [intOf];omega
            · have ky2:=zdf y2;have XA:Hid (inB A f=decide ((A.getD i2 (0,0)).1≤f)):=scan_mid cA (by omega) HJ.out (by omega);obtain ⟨ax,hax⟩:∃ ax,(A.getD i2 (0,0)).1=ax:=⟨_,rfl⟩;rw [hax] at XA d0;have CA:Hid (∀ w',PairS ba w' (.slice (some ⟨bA,fA,none⟩) n ca) A→w'.cell? ⟨bA,fA+i2 * 2,none⟩=some (.int .i64 ax)):=fun w' q=>by
                obtain ⟨b',off',e,-,cs⟩:=prs_here q (show i2<A.length by omega)
                injection e with e;injection e with e1 e2
                subst e1;subst e2;rw [(cs i2 (by omega)).1,hax]
              clear hax;generalize (A.getD i2 (0,0)).2=gy at *;go_wp2
              go_loopw [10] (fun i' wr'=>∃ k2:Nat,k2≤m∧i'=.int .i64 k2∧wr'=w5∧Hid (∀ j,j<k2→(B.getD j (0,0)).2≤f)) (fun i' _=>m - (intOf i').toNat)
              case atStart=>exact ⟨k,hk,rfl,rfl,HK5⟩
              case round =>
                obtain ⟨k2,hk2,rfl,hw2,HL⟩:=hrel;have hw3:=hw2.symm;clear hw2 HK5;subst hw3
                by_cases z1:k2<m
                · have kz1:decide ((k2:Int)<(m:Int))=true:=zdt (by omega);obtain ⟨bB,fB,rfl,blB,csB⟩:=prs_here PB5.out (show k2<B.length by omega);obtain ⟨d0,d1⟩:=csB k2 (by omega);clear csB
                  by_cases z2:(B.getD k2 (0,0)).2≤f
                  · have kz2:=zdt z2;have HL2:Hid (∀ j,j<k2+1→(B.getD j (0,0)).2≤f):=fun j hj=>by
                      rcases Nat.lt_or_ge j k2 with y | y
                      · exact HL.out j y
                      · obtain rfl:j=k2:=by omega
                        exact z2
                    generalize (B.getD k2 (0,0)).2=gy at *;go_wp2
                    go_roundw
                    case rel=>exact ⟨k2+1,by omega,by go_num,by first | rfl | trivial,HL2⟩
                    case measure=>simp [intOf];omega
                  · have kz2:=zdf z2;have XB:Hid (inB B f=decide ((B.getD k2 (0,0)).1≤f)):=scan_mid cB (by omega) HL.out (by omega);obtain ⟨bx,hbx⟩:∃ bx,(B.getD k2 (0,0)).1=bx:=⟨_,rfl⟩;rw [hbx] at XB d0;have CB:Hid (∀ w',PairS bb w' (.slice (some ⟨bB,fB,none⟩) m cb) B→w'.cell? ⟨bB,fB+k2 * 2,none⟩=some (.int .i64 bx)):=fun w' q=>by
                      obtain ⟨b',off',e,-,cs⟩:=prs_here q (show k2<B.length by omega)
                      injection e with e;injection e with e1 e2
                      subst e1;subst e2;rw [(cs k2 (by omega)).1,hbx]
                    clear hbx;generalize (B.getD k2 (0,0)).2=gy at *;go_wp2
                    have HS:=zh (fun w=>(HR.out (decide (ax≤f)) (decide (bx≤f)) w).mono (fun e w' h=>(⟨h.1,by rw [← h.2];exact here w⟩:e=_∧Below w.heap.size w w')));obtain ⟨rB,hrB⟩:∃ rB,kpB (K+1) (decide (ax≤f)) (decide (bx≤f))=rB:=⟨_,rfl⟩;rw [hrB] at HS;have SB:Hid ((rB=false→Cmb (K+1) A B t R)∧(rB=true→Cmb (K+1) A B t (addL R (f,t)))):=by
                      have:=st.out lt;rw [XA.out,XB.out,hrB] at this;exact this
                    clear hrB XA XB st HR;have p0:∀ x':Kept w5,x'.wd.cell? ⟨bA,fA+i2 * 2,none⟩=some (.int .i64 ax):=fun x'=>CA.out _ (PA5.out.keep x'.ok);have p1:∀ x':Kept w5,x'.wd.cell? ⟨bB,fB+k2 * 2,none⟩=some (.int .i64 bx):=fun x'=>CB.out _ (PB5.out.keep x'.ok);have HI2:Hid (∀ j,j<i2→(A.getD j (0,0)).2≤E.getD (c+1) 0):=fun j hj=>by rw [ht];have:=HJ.out j hj;omega
                    have HK2:Hid (∀ j,j<k2→(B.getD j (0,0)).2≤E.getD (c+1) 0):=fun j hj=>by rw [ht];have:=HL.out j hj;omega
                    replace SB:Hid ((rB=false→Cmb (K+1) A B (E.getD (c+1) 0) R)∧(rB=true→Cmb (K+1) A B (E.getD (c+1) 0) (addL R (f,t)))):=by rw [ht];exact SB
                    clear HJ HL;go_wp2
                    refine wp_region_kept (by kernel_rfl) (by kernel_rfl) ?_
                    repeat (go_big_quiet_step ((go_at_call 134;exact kept_call _ (HS.out _))))
                    refine wpQuiet_nil ?_;intro w6 hx;obtain ⟨⟨x3,hb3⟩,hw⟩:=hx;replace hw:w6=x3:=hw;subst x3;have A6:=zd A5 hb3;have O6:Hid (w6.ownsRow w1.heap.size 40 2 v' R.length (pairs R)):=by show World.ownsRow _ _ _ _ _ _ _;exact owns_below O5.out hb3
                    clear p0;clear p1;clear hb3 A5 O5 PA5 PB5 HS
                    cases rB
                    · have HC2:=zh (SB.out.1 rfl);clear SB;go_wp2
                      go_roundw
                      case rel=>exact ⟨c+1,i2,k2,_,R,rfl,by omega,by omega,by omega,by first | rfl | go_num,by first | rfl | go_num,by first | rfl | go_num,by omega,HI2,HK2,HC2,O6,A6⟩
                      case measure=>simp [intOf];omega
                    · have HC2:=zh (SB.out.2 rfl);have rl2:=addL_len R (f,t);clear SB
                      rcases snoc_cases R with rfl | ⟨R',q,rfl⟩
                      · replace O6:Hid (w6.ownsRow w1.heap.size 40 2 v' 0 []):=O6;obtain ⟨ao,cp,rfl⟩:=(Sl.owns O6.out).shape;go_wp2_with (at_builtin;refine wpList_append_own _ rfl _ _ 22 rfl w1.heap.size 40 i0 (.agg #[.int .i64 0,.int .i64 0]) 2 16 Tryz.underlying22 hi hz0 hz1 hz2 rfl (by decide) (.slice ao 0 cp) 0 [] rfl (O6.out.alloc _) ⟨w6.heap.size,0,none⟩ 1 1 [.int .i64 f,.int .i64 t] rfl rfl (fun j u hj=>by rw [Addr.add_lit,Nat.zero_add,World.cell?_alloc_new];simpa using hj) (fun u hu=>by simp at hu;rcases hu with rfl | rfl <;> rfl) (by unfold maxLen;omega) (by omega) (by have:=A6.out.size;simp;omega) ?_)
                        intro v7 w7 hown hgrow _;have A7:Hid (Below w1.heap.size w1 w7):=(A6.out.alloc A6.out.size _).grown hgrow (by have:=A6.out.size;simp;omega) (own_ge O6.out);have O7:Hid (w7.ownsRow w1.heap.size 40 2 v7 (addL [] (f,t)).length (pairs (addL [] (f,t)))):=by
                          show World.ownsRow _ _ _ _ _ _ _;exact hown
                        clear hown hgrow O6 A6;go_wp2
                        go_roundw
                        case rel=>exact ⟨c+1,i2,k2,_,(addL [] (f,t)),rfl,by omega,by omega,by omega,by first | rfl | go_num,by first | rfl | go_num,by first | rfl | go_num,by omega,HI2,HK2,HC2,O7,A7⟩
                        case measure=>simp [intOf];omega
                      · have len:(R'++[q]).length=R'.length+1:=by simp
                        obtain ⟨g,cp,rfl⟩:∃ g cp,v'=.slice (some ⟨g,0,none⟩) (R'.length+1) cp:=by
                          rcases O6.out.2 with ⟨-,h0⟩ | ⟨g,cp,cur,e,-⟩
                          · simp at h0
                          · exact ⟨g,cp,by rw [e];simp⟩
                        rw [len] at O6 rl;have gl:=O6.out.lt g rfl;have c1:w6.cell? ⟨g,R'.length * 2+1,none⟩=some (.int .i64 q.2):=by
                          have:=(pairs_get (R'++[q]) R'.length (by simp)).2;rw [O6.out.cellAt _ (by omega),Nat.mul_comm,this];simp
                        have f1:=O6.out.frozenAt (R'.length * 2+1);have STO:=zh (World.ownsRow.stored O6.out (R'.length * 2+1) (.int .i64 t));have sn:=add_snoc R' q (f,t);obtain ⟨m0,hm0⟩:∃ m0,R'.length=m0:=⟨_,rfl⟩;have ps:=pairs_set R' q t;rw [hm0] at c1 f1 O6 STO ps rl ⊢;rw [ps] at STO;obtain ⟨KK,hKK⟩:∃ KK:Nat,m0+1=KK:=⟨_,rfl⟩;rw [hKK] at O6 STO rl ⊢;have kz3:decide (0<(KK:Int))=true:=zdt (by omega);have kz4:decide (0<KK)=true:=zdt (by omega);have kk1:(KK:Int) - 1=m0:=by omega
                        have km:((m0:Nat):Int)<(KK:Int):=by omega
                        clear ps
                        by_cases zq:q.2=f
                        · have kq:(q.2==f)=true:=beq_iff_eq.2 zq;have O7:Hid ((w6.setCell ⟨g,m0 * 2+1,none⟩ (.int .i64 t)).ownsRow w1.heap.size 40 2 (.slice (some ⟨g,0,none⟩) KK cp) (addL (R'++[q]) (f,t)).length (pairs (addL (R'++[q]) (f,t)))):=by
                            show World.ownsRow _ _ _ _ _ _ _;rw [add_snoc,if_pos zq,show (R'++[(q.1,t)]).length=KK by simp;omega];exact STO.out.1
                          have A7:=zh (A6.out.setCell (p:=⟨g,m0 * 2+1,none⟩) gl.1 (.int .i64 t));go_wp2
                          go_roundw
                          case rel=>exact ⟨c+1,i2,k2,_,(addL (R'++[q]) (f,t)),rfl,by omega,by omega,by omega,by first | rfl | go_num,by first | rfl | go_num,by first | rfl | go_num,by omega,HI2,HK2,HC2,O7,A7⟩
                          case measure=>simp [intOf];omega
                        · have kq:(q.2==f)=false:=by rw [beq_eq_false_iff_ne];exact zq
                          go_wp2_with (at_builtin;refine wpList_append_own _ rfl _ _ 22 rfl w1.heap.size 40 i0 (.agg #[.int .i64 0,.int .i64 0]) 2 16 Tryz.underlying22 hi hz0 hz1 hz2 rfl (by decide) (.slice (some ⟨g,0,none⟩) KK cp) KK (pairs (R'++[q])) rfl (O6.out.alloc _) ⟨w6.heap.size,0,none⟩ 1 1 [.int .i64 f,.int .i64 t] rfl rfl (fun j u hj=>by rw [Addr.add_lit,Nat.zero_add,World.cell?_alloc_new];simpa using hj) (fun u hu=>by simp at hu;rcases hu with rfl | rfl <;> rfl) (by unfold maxLen;omega) (by omega) (by have:=A6.out.size;simp;omega) ?_)
                          intro v7 w7 hown hgrow _;have A7:Hid (Below w1.heap.size w1 w7):=(A6.out.alloc A6.out.size _).grown hgrow (by have:=A6.out.size;simp;omega) (own_ge O6.out);have O7:Hid (w7.ownsRow w1.heap.size 40 2 v7 (addL (R'++[q]) (f,t)).length (pairs (addL (R'++[q]) (f,t)))):=by
                            show World.ownsRow _ _ _ _ _ _ _;rw [add_snoc,if_neg zq,pairs_append,show (R'++[q]++[(f,t)]).length=KK+1 by simp;omega];exact hown
                          clear hown hgrow O6 A6;go_wp2
                          go_roundw
                          case rel=>exact ⟨c+1,i2,k2,_,(addL (R'++[q]) (f,t)),rfl,by omega,by omega,by omega,by first | rfl | go_num,by first | rfl | go_num,by first | rfl | go_num,by omega,HI2,HK2,HC2,O7,A7⟩
                          case measure=>simp [intOf];omega
                · have kz1:decide ((k2:Int)<(m:Int))=false:=zdf (by omega);have XB:Hid (inB B f=false):=scan_end (fun j hj=>HL.out j (by omega));go_wp2
                  have HS:=zh (fun w=>(HR.out (decide (ax≤f)) (false) w).mono (fun e w' h=>(⟨h.1,by rw [← h.2];exact here w⟩:e=_∧Below w.heap.size w w')));obtain ⟨rB,hrB⟩:∃ rB,kpB (K+1) (decide (ax≤f)) (false)=rB:=⟨_,rfl⟩;rw [hrB] at HS;have SB:Hid ((rB=false→Cmb (K+1) A B t R)∧(rB=true→Cmb (K+1) A B t (addL R (f,t)))):=by
                    have:=st.out lt;rw [XA.out,XB.out,hrB] at this;exact this
                  clear hrB XA XB st HR;have p0:∀ x':Kept w5,x'.wd.cell? ⟨bA,fA+i2 * 2,none⟩=some (.int .i64 ax):=fun x'=>CA.out _ (PA5.out.keep x'.ok);have HI2:Hid (∀ j,j<i2→(A.getD j (0,0)).2≤E.getD (c+1) 0):=fun j hj=>by rw [ht];have:=HJ.out j hj;omega
                  have HK2:Hid (∀ j,j<k2→(B.getD j (0,0)).2≤E.getD (c+1) 0):=fun j hj=>by rw [ht];have:=HL.out j hj;omega
                  replace SB:Hid ((rB=false→Cmb (K+1) A B (E.getD (c+1) 0) R)∧(rB=true→Cmb (K+1) A B (E.getD (c+1) 0) (addL R (f,t)))):=by rw [ht];exact SB
                  clear HJ HL;go_wp2
                  refine wp_region_kept (by kernel_rfl) (by kernel_rfl) ?_
                  repeat (go_big_quiet_step ((go_at_call 134;exact kept_call _ (HS.out _))))
                  refine wpQuiet_nil ?_;intro w6 hx;obtain ⟨⟨x3,hb3⟩,hw⟩:=hx;replace hw:w6=x3:=hw;subst x3;have A6:=zd A5 hb3;have O6:Hid (w6.ownsRow w1.heap.size 40 2 v' R.length (pairs R)):=by show World.ownsRow _ _ _ _ _ _ _;exact owns_below O5.out hb3
                  clear p0;clear hb3 A5 O5 PA5 PB5 HS
                  cases rB
                  · have HC2:=zh (SB.out.1 rfl);clear SB;go_wp2
                    go_roundw
                    case rel=>exact ⟨c+1,i2,k2,_,R,rfl,by omega,by omega,by omega,by first | rfl | go_num,by first | rfl | go_num,by first | rfl | go_num,by omega,HI2,HK2,HC2,O6,A6⟩
                    case measure=>simp [intOf];omega
                  · have HC2:=zh (SB.out.2 rfl);have rl2:=addL_len R (f,t);clear SB
                    rcases snoc_cases R with rfl | ⟨R',q,rfl⟩
                    · replace O6:Hid (w6.ownsRow w1.heap.size 40 2 v' 0 []):=O6;obtain ⟨ao,cp,rfl⟩:=(Sl.owns O6.out).shape;go_wp2_with (at_builtin;refine wpList_append_own _ rfl _ _ 22 rfl w1.heap.size 40 i0 (.agg #[.int .i64 0,.int .i64 0]) 2 16 Tryz.underlying22 hi hz0 hz1 hz2 rfl (by decide) (.slice ao 0 cp) 0 [] rfl (O6.out.alloc _) ⟨w6.heap.size,0,none⟩ 1 1 [.int .i64 f,.int .i64 t] rfl rfl (fun j u hj=>by rw [Addr.add_lit,Nat.zero_add,World.cell?_alloc_new];simpa using hj) (fun u hu=>by simp at hu;rcases hu with rfl | rfl <;> rfl) (by unfold maxLen;omega) (by omega) (by have:=A6.out.size;simp;omega) ?_)
                      intro v7 w7 hown hgrow _;have A7:Hid (Below w1.heap.size w1 w7):=(A6.out.alloc A6.out.size _).grown hgrow (by have:=A6.out.size;simp;omega) (own_ge O6.out);have O7:Hid (w7.ownsRow w1.heap.size 40 2 v7 (addL [] (f,t)).length (pairs (addL [] (f,t)))):=by
                        show World.ownsRow _ _ _ _ _ _ _;exact hown
                      clear hown hgrow O6 A6;go_wp2
                      go_roundw
                      case rel=>exact ⟨c+1,i2,k2,_,(addL [] (f,t)),rfl,by omega,by omega,by omega,by first | rfl | go_num,by first | rfl | go_num,by first | rfl | go_num,by omega,HI2,HK2,HC2,O7,A7⟩
                      case measure=>simp [intOf];omega
                    · have len:(R'++[q]).length=R'.length+1:=by simp
                      obtain ⟨g,cp,rfl⟩:∃ g cp,v'=.slice (some ⟨g,0,none⟩) (R'.length+1) cp:=by
                        rcases O6.out.2 with ⟨-,h0⟩ | ⟨g,cp,cur,e,-⟩
                        · simp at h0
                        · exact ⟨g,cp,by rw [e];simp⟩
                      rw [len] at O6 rl;have gl:=O6.out.lt g rfl;have c1:w6.cell? ⟨g,R'.length * 2+1,none⟩=some (.int .i64 q.2):=by
                        have:=(pairs_get (R'++[q]) R'.length (by simp)).2;rw [O6.out.cellAt _ (by omega),Nat.mul_comm,this];simp
                      have f1:=O6.out.frozenAt (R'.length * 2+1);have STO:=zh (World.ownsRow.stored O6.out (R'.length * 2+1) (.int .i64 t));have sn:=add_snoc R' q (f,t);obtain ⟨m0,hm0⟩:∃ m0,R'.length=m0:=⟨_,rfl⟩;have ps:=pairs_set R' q t;rw [hm0] at c1 f1 O6 STO ps rl ⊢;rw [ps] at STO;obtain ⟨KK,hKK⟩:∃ KK:Nat,m0+1=KK:=⟨_,rfl⟩;rw [hKK] at O6 STO rl ⊢;have kz3:decide (0<(KK:Int))=true:=zdt (by omega);have kz4:decide (0<KK)=true:=zdt (by omega);have kk1:(KK:Int) - 1=m0:=by omega
                      have km:((m0:Nat):Int)<(KK:Int):=by omega
                      clear ps
                      by_cases zq:q.2=f
                      · have kq:(q.2==f)=true:=beq_iff_eq.2 zq;have O7:Hid ((w6.setCell ⟨g,m0 * 2+1,none⟩ (.int .i64 t)).ownsRow w1.heap.size 40 2 (.slice (some ⟨g,0,none⟩) KK cp) (addL (R'++[q]) (f,t)).length (pairs (addL (R'++[q]) (f,t)))):=by
                          show World.ownsRow _ _ _ _ _ _ _;rw [add_snoc,if_pos zq,show (R'++[(q.1,t)]).length=KK by simp;omega];exact STO.out.1
                        have A7:=zh (A6.out.setCell (p:=⟨g,m0 * 2+1,none⟩) gl.1 (.int .i64 t));go_wp2
                        go_roundw
                        case rel=>exact ⟨c+1,i2,k2,_,(addL (R'++[q]) (f,t)),rfl,by omega,by omega,by omega,by first | rfl | go_num,by first | rfl | go_num,by first | rfl | go_num,by omega,HI2,HK2,HC2,O7,A7⟩
                        case measure=>simp [intOf];omega
                      · have kq:(q.2==f)=false:=by rw [beq_eq_false_iff_ne];exact zq
                        go_wp2_with (at_builtin;refine wpList_append_own _ rfl _ _ 22 rfl w1.heap.size 40 i0 (.agg #[.int .i64 0,.int .i64 0]) 2 16 Tryz.underlying22 hi hz0 hz1 hz2 rfl (by decide) (.slice (some ⟨g,0,none⟩) KK cp) KK (pairs (R'++[q])) rfl (O6.out.alloc _) ⟨w6.heap.size,0,none⟩ 1 1 [.int .i64 f,.int .i64 t] rfl rfl (fun j u hj=>by rw [Addr.add_lit,Nat.zero_add,World.cell?_alloc_new];simpa using hj) (fun u hu=>by simp at hu;rcases hu with rfl | rfl <;> rfl) (by unfold maxLen;omega) (by omega) (by have:=A6.out.size;simp;omega) ?_)
                        intro v7 w7 hown hgrow _;have A7:Hid (Below w1.heap.size w1 w7):=(A6.out.alloc A6.out.size _).grown hgrow (by have:=A6.out.size;simp;omega) (own_ge O6.out);have O7:Hid (w7.ownsRow w1.heap.size 40 2 v7 (addL (R'++[q]) (f,t)).length (pairs (addL (R'++[q]) (f,t)))):=by
                          show World.ownsRow _ _ _ _ _ _ _;rw [add_snoc,if_neg zq,pairs_append,show (R'++[q]++[(f,t)]).length=KK+1 by simp;omega];exact hown
                        clear hown hgrow O6 A6;go_wp2
                        go_roundw
                        case rel=>exact ⟨c+1,i2,k2,_,(addL (R'++[q]) (f,t)),rfl,by omega,by omega,by omega,by first | rfl | go_num,by first | rfl | go_num,by first | rfl | go_num,by omega,HI2,HK2,HC2,O7,A7⟩
                        case measure=>simp [intOf];omega
          · have ky1:decide ((i2:Int)<(n:Int))=false:=zdf (by omega);have XA:Hid (inB A f=false):=scan_end (fun j hj=>HJ.out j (by omega));go_wp2
            go_loopw [10] (fun i' wr'=>∃ k2:Nat,k2≤m∧i'=.int .i64 k2∧wr'=w5∧Hid (∀ j,j<k2→(B.getD j (0,0)).2≤f)) (fun i' _=>m - (intOf i').toNat)
            case atStart=>exact ⟨k,hk,rfl,rfl,HK5⟩
            case round =>
              obtain ⟨k2,hk2,rfl,hw2,HL⟩:=hrel;have hw3:=hw2.symm;clear hw2 HK5;subst hw3
              by_cases z1:k2<m
              · have kz1:decide ((k2:Int)<(m:Int))=true:=zdt (by omega);obtain ⟨bB,fB,rfl,blB,csB⟩:=prs_here PB5.out (show k2<B.length by omega);obtain ⟨d0,d1⟩:=csB k2 (by omega);clear csB
                by_cases z2:(B.getD k2 (0,0)).2≤f
                · have kz2:=zdt z2;have HL2:Hid (∀ j,j<k2+1→(B.getD j (0,0)).2≤f):=fun j hj=>by
                    rcases Nat.lt_or_ge j k2 with y | y
                    · exact HL.out j y
                    · obtain rfl:j=k2:=by omega
                      exact z2
                  generalize (B.getD k2 (0,0)).2=gy at *;go_wp2
                  go_roundw
                  case rel=>exact ⟨k2+1,by omega,by go_num,by first | rfl | trivial,HL2⟩
                  case measure=>simp [intOf];omega
                · have kz2:=zdf z2;have XB:Hid (inB B f=decide ((B.getD k2 (0,0)).1≤f)):=scan_mid cB (by omega) HL.out (by omega);obtain ⟨bx,hbx⟩:∃ bx,(B.getD k2 (0,0)).1=bx:=⟨_,rfl⟩;rw [hbx] at XB d0;have CB:Hid (∀ w',PairS bb w' (.slice (some ⟨bB,fB,none⟩) m cb) B→w'.cell? ⟨bB,fB+k2 * 2,none⟩=some (.int .i64 bx)):=fun w' q=>by
                    obtain ⟨b',off',e,-,cs⟩:=prs_here q (show k2<B.length by omega)
                    injection e with e;injection e with e1 e2
                    subst e1;subst e2;rw [(cs k2 (by omega)).1,hbx]
                  clear hbx;generalize (B.getD k2 (0,0)).2=gy at *;go_wp2
                  have HS:=zh (fun w=>(HR.out (false) (decide (bx≤f)) w).mono (fun e w' h=>(⟨h.1,by rw [← h.2];exact here w⟩:e=_∧Below w.heap.size w w')));obtain ⟨rB,hrB⟩:∃ rB,kpB (K+1) (false) (decide (bx≤f))=rB:=⟨_,rfl⟩;rw [hrB] at HS;have SB:Hid ((rB=false→Cmb (K+1) A B t R)∧(rB=true→Cmb (K+1) A B t (addL R (f,t)))):=by
                    have:=st.out lt;rw [XA.out,XB.out,hrB] at this;exact this
                  clear hrB XA XB st HR;have p1:∀ x':Kept w5,x'.wd.cell? ⟨bB,fB+k2 * 2,none⟩=some (.int .i64 bx):=fun x'=>CB.out _ (PB5.out.keep x'.ok);have HI2:Hid (∀ j,j<i2→(A.getD j (0,0)).2≤E.getD (c+1) 0):=fun j hj=>by rw [ht];have:=HJ.out j hj;omega
                  have HK2:Hid (∀ j,j<k2→(B.getD j (0,0)).2≤E.getD (c+1) 0):=fun j hj=>by rw [ht];have:=HL.out j hj;omega
                  replace SB:Hid ((rB=false→Cmb (K+1) A B (E.getD (c+1) 0) R)∧(rB=true→Cmb (K+1) A B (E.getD (c+1) 0) (addL R (f,t)))):=by rw [ht];exact SB
                  clear HJ HL;go_wp2
                  refine wp_region_kept (by kernel_rfl) (by kernel_rfl) ?_
                  repeat (go_big_quiet_step ((go_at_call 134;exact kept_call _ (HS.out _))))
                  refine wpQuiet_nil ?_;intro w6 hx;obtain ⟨⟨x3,hb3⟩,hw⟩:=hx;replace hw:w6=x3:=hw;subst x3;have A6:=zd A5 hb3;have O6:Hid (w6.ownsRow w1.heap.size 40 2 v' R.length (pairs R)):=by show World.ownsRow _ _ _ _ _ _ _;exact owns_below O5.out hb3
                  clear p1;clear hb3 A5 O5 PA5 PB5 HS
                  cases rB
                  · have HC2:=zh (SB.out.1 rfl);clear SB;go_wp2
                    go_roundw
                    case rel=>exact ⟨c+1,i2,k2,_,R,rfl,by omega,by omega,by omega,by first | rfl | go_num,by first | rfl | go_num,by first | rfl | go_num,by omega,HI2,HK2,HC2,O6,A6⟩
                    case measure=>simp [intOf];omega
                  · have HC2:=zh (SB.out.2 rfl);have rl2:=addL_len R (f,t);clear SB
                    rcases snoc_cases R with rfl | ⟨R',q,rfl⟩
                    · replace O6:Hid (w6.ownsRow w1.heap.size 40 2 v' 0 []):=O6;obtain ⟨ao,cp,rfl⟩:=(Sl.owns O6.out).shape;go_wp2_with (at_builtin;refine wpList_append_own _ rfl _ _ 22 rfl w1.heap.size 40 i0 (.agg #[.int .i64 0,.int .i64 0]) 2 16 Tryz.underlying22 hi hz0 hz1 hz2 rfl (by decide) (.slice ao 0 cp) 0 [] rfl (O6.out.alloc _) ⟨w6.heap.size,0,none⟩ 1 1 [.int .i64 f,.int .i64 t] rfl rfl (fun j u hj=>by rw [Addr.add_lit,Nat.zero_add,World.cell?_alloc_new];simpa using hj) (fun u hu=>by simp at hu;rcases hu with rfl | rfl <;> rfl) (by unfold maxLen;omega) (by omega) (by have:=A6.out.size;simp;omega) ?_)
                      intro v7 w7 hown hgrow _;have A7:Hid (Below w1.heap.size w1 w7):=(A6.out.alloc A6.out.size _).grown hgrow (by have:=A6.out.size;simp;omega) (own_ge O6.out);have O7:Hid (w7.ownsRow w1.heap.size 40 2 v7 (addL [] (f,t)).length (pairs (addL [] (f,t)))):=by
                        show World.ownsRow _ _ _ _ _ _ _;exact hown
                      clear hown hgrow O6 A6;go_wp2
                      go_roundw
                      case rel=>exact ⟨c+1,i2,k2,_,(addL [] (f,t)),rfl,by omega,by omega,by omega,by first | rfl | go_num,by first | rfl | go_num,by first | rfl | go_num,by omega,HI2,HK2,HC2,O7,A7⟩
                      case measure=>simp [intOf];omega
                    · have len:(R'++[q]).length=R'.length+1:=by simp
                      obtain ⟨g,cp,rfl⟩:∃ g cp,v'=.slice (some ⟨g,0,none⟩) (R'.length+1) cp:=by
                        rcases O6.out.2 with ⟨-,h0⟩ | ⟨g,cp,cur,e,-⟩
                        · simp at h0
                        · exact ⟨g,cp,by rw [e];simp⟩
                      rw [len] at O6 rl;have gl:=O6.out.lt g rfl;have c1:w6.cell? ⟨g,R'.length * 2+1,none⟩=some (.int .i64 q.2):=by
                        have:=(pairs_get (R'++[q]) R'.length (by simp)).2;rw [O6.out.cellAt _ (by omega),Nat.mul_comm,this];simp
                      have f1:=O6.out.frozenAt (R'.length * 2+1);have STO:=zh (World.ownsRow.stored O6.out (R'.length * 2+1) (.int .i64 t));have sn:=add_snoc R' q (f,t);obtain ⟨m0,hm0⟩:∃ m0,R'.length=m0:=⟨_,rfl⟩;have ps:=pairs_set R' q t;rw [hm0] at c1 f1 O6 STO ps rl ⊢;rw [ps] at STO;obtain ⟨KK,hKK⟩:∃ KK:Nat,m0+1=KK:=⟨_,rfl⟩;rw [hKK] at O6 STO rl ⊢;have kz3:decide (0<(KK:Int))=true:=zdt (by omega);have kz4:decide (0<KK)=true:=zdt (by omega);have kk1:(KK:Int) - 1=m0:=by omega
                      have km:((m0:Nat):Int)<(KK:Int):=by omega
                      clear ps
                      by_cases zq:q.2=f
                      · have kq:(q.2==f)=true:=beq_iff_eq.2 zq;have O7:Hid ((w6.setCell ⟨g,m0 * 2+1,none⟩ (.int .i64 t)).ownsRow w1.heap.size 40 2 (.slice (some ⟨g,0,none⟩) KK cp) (addL (R'++[q]) (f,t)).length (pairs (addL (R'++[q]) (f,t)))):=by
                          show World.ownsRow _ _ _ _ _ _ _;rw [add_snoc,if_pos zq,show (R'++[(q.1,t)]).length=KK by simp;omega];exact STO.out.1
                        have A7:=zh (A6.out.setCell (p:=⟨g,m0 * 2+1,none⟩) gl.1 (.int .i64 t));go_wp2
                        go_roundw
                        case rel=>exact ⟨c+1,i2,k2,_,(addL (R'++[q]) (f,t)),rfl,by omega,by omega,by omega,by first | rfl | go_num,by first | rfl | go_num,by first | rfl | go_num,by omega,HI2,HK2,HC2,O7,A7⟩
                        case measure=>simp [intOf];omega
                      · have kq:(q.2==f)=false:=by rw [beq_eq_false_iff_ne];exact zq
                        go_wp2_with (at_builtin;refine wpList_append_own _ rfl _ _ 22 rfl w1.heap.size 40 i0 (.agg #[.int .i64 0,.int .i64 0]) 2 16 Tryz.underlying22 hi hz0 hz1 hz2 rfl (by decide) (.slice (some ⟨g,0,none⟩) KK cp) KK (pairs (R'++[q])) rfl (O6.out.alloc _) ⟨w6.heap.size,0,none⟩ 1 1 [.int .i64 f,.int .i64 t] rfl rfl (fun j u hj=>by rw [Addr.add_lit,Nat.zero_add,World.cell?_alloc_new];simpa using hj) (fun u hu=>by simp at hu;rcases hu with rfl | rfl <;> rfl) (by unfold maxLen;omega) (by omega) (by have:=A6.out.size;simp;omega) ?_)
                        intro v7 w7 hown hgrow _;have A7:Hid (Below w1.heap.size w1 w7):=(A6.out.alloc A6.out.size _).grown hgrow (by have:=A6.out.size;simp;omega) (own_ge O6.out);have O7:Hid (w7.ownsRow w1.heap.size 40 2 v7 (addL (R'++[q]) (f,t)).length (pairs (addL (R'++[q]) (f,t)))):=by
                          show World.ownsRow _ _ _ _ _ _ _;rw [add_snoc,if_neg zq,pairs_append,show (R'++[q]++[(f,t)]).length=KK+1 by simp;omega];exact hown
                        clear hown hgrow O6 A6;go_wp2
                        go_roundw
                        case rel=>exact ⟨c+1,i2,k2,_,(addL (R'++[q]) (f,t)),rfl,by omega,by omega,by omega,by first | rfl | go_num,by first | rfl | go_num,by first | rfl | go_num,by omega,HI2,HK2,HC2,O7,A7⟩
                        case measure=>simp [intOf];omega
              · have kz1:decide ((k2:Int)<(m:Int))=false:=zdf (by omega);have XB:Hid (inB B f=false):=scan_end (fun j hj=>HL.out j (by omega));go_wp2
                have HS:=zh (fun w=>(HR.out (false) (false) w).mono (fun e w' h=>(⟨h.1,by rw [← h.2];exact here w⟩:e=_∧Below w.heap.size w w')));obtain ⟨rB,hrB⟩:∃ rB,kpB (K+1) (false) (false)=rB:=⟨_,rfl⟩;rw [hrB] at HS;have SB:Hid ((rB=false→Cmb (K+1) A B t R)∧(rB=true→Cmb (K+1) A B t (addL R (f,t)))):=by
                  have:=st.out lt;rw [XA.out,XB.out,hrB] at this;exact this
                clear hrB XA XB st HR;have HI2:Hid (∀ j,j<i2→(A.getD j (0,0)).2≤E.getD (c+1) 0):=fun j hj=>by rw [ht];have:=HJ.out j hj;omega
                have HK2:Hid (∀ j,j<k2→(B.getD j (0,0)).2≤E.getD (c+1) 0):=fun j hj=>by rw [ht];have:=HL.out j hj;omega
                replace SB:Hid ((rB=false→Cmb (K+1) A B (E.getD (c+1) 0) R)∧(rB=true→Cmb (K+1) A B (E.getD (c+1) 0) (addL R (f,t)))):=by rw [ht];exact SB
                clear HJ HL;go_wp2
                refine wp_region_kept (by kernel_rfl) (by kernel_rfl) ?_
                repeat (go_big_quiet_step ((go_at_call 134;exact kept_call _ (HS.out _))))
                refine wpQuiet_nil ?_;intro w6 hx;obtain ⟨⟨x3,hb3⟩,hw⟩:=hx;replace hw:w6=x3:=hw;subst x3;have A6:=zd A5 hb3;have O6:Hid (w6.ownsRow w1.heap.size 40 2 v' R.length (pairs R)):=by show World.ownsRow _ _ _ _ _ _ _;exact owns_below O5.out hb3
                clear hb3 A5 O5 PA5 PB5 HS
                cases rB
                · have HC2:=zh (SB.out.1 rfl);clear SB;go_wp2
                  go_roundw
                  case rel=>exact ⟨c+1,i2,k2,_,R,rfl,by omega,by omega,by omega,by first | rfl | go_num,by first | rfl | go_num,by first | rfl | go_num,by omega,HI2,HK2,HC2,O6,A6⟩
                  case measure=>simp [intOf];omega
                · have HC2:=zh (SB.out.2 rfl);have rl2:=addL_len R (f,t);clear SB
                  rcases snoc_cases R with rfl | ⟨R',q,rfl⟩
                  · replace O6:Hid (w6.ownsRow w1.heap.size 40 2 v' 0 []):=O6;obtain ⟨ao,cp,rfl⟩:=(Sl.owns O6.out).shape;go_wp2_with (at_builtin;refine wpList_append_own _ rfl _ _ 22 rfl w1.heap.size 40 i0 (.agg #[.int .i64 0,.int .i64 0]) 2 16 Tryz.underlying22 hi hz0 hz1 hz2 rfl (by decide) (.slice ao 0 cp) 0 [] rfl (O6.out.alloc _) ⟨w6.heap.size,0,none⟩ 1 1 [.int .i64 f,.int .i64 t] rfl rfl (fun j u hj=>by rw [Addr.add_lit,Nat.zero_add,World.cell?_alloc_new];simpa using hj) (fun u hu=>by simp at hu;rcases hu with rfl | rfl <;> rfl) (by unfold maxLen;omega) (by omega) (by have:=A6.out.size;simp;omega) ?_)
                    intro v7 w7 hown hgrow _;have A7:Hid (Below w1.heap.size w1 w7):=(A6.out.alloc A6.out.size _).grown hgrow (by have:=A6.out.size;simp;omega) (own_ge O6.out);have O7:Hid (w7.ownsRow w1.heap.size 40 2 v7 (addL [] (f,t)).length (pairs (addL [] (f,t)))):=by
                      show World.ownsRow _ _ _ _ _ _ _;exact hown
                    clear hown hgrow O6 A6;go_wp2
                    go_roundw
                    case rel=>exact ⟨c+1,i2,k2,_,(addL [] (f,t)),rfl,by omega,by omega,by omega,by first | rfl | go_num,by first | rfl | go_num,by first | rfl | go_num,by omega,HI2,HK2,HC2,O7,A7⟩
                    case measure=>simp [intOf];omega
                  · have len:(R'++[q]).length=R'.length+1:=by simp
                    obtain ⟨g,cp,rfl⟩:∃ g cp,v'=.slice (some ⟨g,0,none⟩) (R'.length+1) cp:=by
                      rcases O6.out.2 with ⟨-,h0⟩ | ⟨g,cp,cur,e,-⟩
                      · simp at h0
                      · exact ⟨g,cp,by rw [e];simp⟩
                    rw [len] at O6 rl;have gl:=O6.out.lt g rfl;have c1:w6.cell? ⟨g,R'.length * 2+1,none⟩=some (.int .i64 q.2):=by
                      have:=(pairs_get (R'++[q]) R'.length (by simp)).2;rw [O6.out.cellAt _ (by omega),Nat.mul_comm,this];simp
                    have f1:=O6.out.frozenAt (R'.length * 2+1);have STO:=zh (World.ownsRow.stored O6.out (R'.length * 2+1) (.int .i64 t));have sn:=add_snoc R' q (f,t);obtain ⟨m0,hm0⟩:∃ m0,R'.length=m0:=⟨_,rfl⟩;have ps:=pairs_set R' q t;rw [hm0] at c1 f1 O6 STO ps rl ⊢;rw [ps] at STO;obtain ⟨KK,hKK⟩:∃ KK:Nat,m0+1=KK:=⟨_,rfl⟩;rw [hKK] at O6 STO rl ⊢;have kz3:decide (0<(KK:Int))=true:=zdt (by omega);have kz4:decide (0<KK)=true:=zdt (by omega);have kk1:(KK:Int) - 1=m0:=by omega
                    have km:((m0:Nat):Int)<(KK:Int):=by omega
                    clear ps
                    by_cases zq:q.2=f
                    · have kq:(q.2==f)=true:=beq_iff_eq.2 zq;have O7:Hid ((w6.setCell ⟨g,m0 * 2+1,none⟩ (.int .i64 t)).ownsRow w1.heap.size 40 2 (.slice (some ⟨g,0,none⟩) KK cp) (addL (R'++[q]) (f,t)).length (pairs (addL (R'++[q]) (f,t)))):=by
                        show World.ownsRow _ _ _ _ _ _ _;rw [add_snoc,if_pos zq,show (R'++[(q.1,t)]).length=KK by simp;omega];exact STO.out.1
                      have A7:=zh (A6.out.setCell (p:=⟨g,m0 * 2+1,none⟩) gl.1 (.int .i64 t));go_wp2
                      go_roundw
                      case rel=>exact ⟨c+1,i2,k2,_,(addL (R'++[q]) (f,t)),rfl,by omega,by omega,by omega,by first | rfl | go_num,by first | rfl | go_num,by first | rfl | go_num,by omega,HI2,HK2,HC2,O7,A7⟩
                      case measure=>simp [intOf];omega
                    · have kq:(q.2==f)=false:=by rw [beq_eq_false_iff_ne];exact zq
                      go_wp2_with (at_builtin;refine wpList_append_own _ rfl _ _ 22 rfl w1.heap.size 40 i0 (.agg #[.int .i64 0,.int .i64 0]) 2 16 Tryz.underlying22 hi hz0 hz1 hz2 rfl (by decide) (.slice (some ⟨g,0,none⟩) KK cp) KK (pairs (R'++[q])) rfl (O6.out.alloc _) ⟨w6.heap.size,0,none⟩ 1 1 [.int .i64 f,.int .i64 t] rfl rfl (fun j u hj=>by rw [Addr.add_lit,Nat.zero_add,World.cell?_alloc_new];simpa using hj) (fun u hu=>by simp at hu;rcases hu with rfl | rfl <;> rfl) (by unfold maxLen;omega) (by omega) (by have:=A6.out.size;simp;omega) ?_)
                      intro v7 w7 hown hgrow _;have A7:Hid (Below w1.heap.size w1 w7):=(A6.out.alloc A6.out.size _).grown hgrow (by have:=A6.out.size;simp;omega) (own_ge O6.out);have O7:Hid (w7.ownsRow w1.heap.size 40 2 v7 (addL (R'++[q]) (f,t)).length (pairs (addL (R'++[q]) (f,t)))):=by
                        show World.ownsRow _ _ _ _ _ _ _;rw [add_snoc,if_neg zq,pairs_append,show (R'++[q]++[(f,t)]).length=KK+1 by simp;omega];exact hown
                      clear hown hgrow O6 A6;go_wp2
                      go_roundw
                      case rel=>exact ⟨c+1,i2,k2,_,(addL (R'++[q]) (f,t)),rfl,by omega,by omega,by omega,by first | rfl | go_num,by first | rfl | go_num,by first | rfl | go_num,by omega,HI2,HK2,HC2,O7,A7⟩
                      case measure=>simp [intOf];omega
    · have kz:decide ((c:Int)+1<(N:Int))=false:=zdf (by omega);have RE:Hid (R=cbL (K+1) A B):=EN.out c R (by omega) HC.out;have P9:Hid (PairS w.heap.size wr v' (cbL (K+1) A B)):=by rw [← RE.out];exact Sl.owns (own_weak HO.out A1.out.size)
      have A9:=zh (down A1.out HA.out);clear RE HO HA HC ST EN EM HI HK;go_wp2
      go_ret
      exact ⟨⟨_,rfl,P9.out⟩,A9.out⟩
theorem lo_snoc (P m:Int) (A:List Sp) (q:Sp):loL P m (A++[q])=loL P m A++(if P<q.2+m then [((if q.1+m<P then P else q.1+m) - P,q.2+m - P)] else []):=by
 unfold loL
 by_cases h:P<q.2+m
 ·simp [List.filter_append,h]
 ·simp [List.filter_append,h]
theorem hi_snoc (P m:Int) (A:List Sp) (q:Sp):hiL P m (A++[q])=hiL P m A++(if q.1+m<P then [(q.1+m,if P<q.2+m then P else q.2+m)] else []):=by
 unfold hiL
 by_cases h:q.1+m<P
 ·simp [List.filter_append,h]
 ·simp [List.filter_append,h]
theorem lo_len (P m:Int) (A:List Sp):(loL P m A).length≤A.length:=by unfold loL;rw [List.length_map];exact List.length_filter_le _ _
theorem hi_len (P m:Int) (A:List Sp):(hiL P m A).length≤A.length:=by unfold hiL;rw [List.length_map];exact List.length_filter_le _ _
def Apart (u v:Value):Prop:=∀ g,u.ownBlock=some g→v.ownBlock≠some g
theorem apart_kept {w w':World} {B:Nat} {e:TypeId} {size:Nat} {u v:Value} {n:Nat} {xs:List Value} (h:w.ownsRow B e size u n xs) (a:Apart u v) (hg:w.grownBy w' v.ownBlock):w'.ownsRow B e size u n xs:=by
  refine h.kept hg ?_
  cases q:u.ownBlock with
  | none=>exact .inl rfl
  | some g=>exact .inr (by have:=a g q;exact fun z=>this z.symm)
set_option maxRecDepth 100000 in
set_option maxHeartbeats 2000000 in
theorem rprotated (v:Value) (P:Int) (L:List Sp) (n:Int) (hL:L.length≤20000) (cn:Cn L) (ip:InP P L) (P0:0<P) (P1:P≤12622780800) (hn:I64 n) {ba:Nat} (w:World) (h:PairS ba w v L) :
    Calls Tryz.prog 139 #[v,.int .i64 P,.int .i64 n] w fun e w'=>(∃ v',e=.returned v'∧PairS 0 w' v' (roL P n L)∧(v'=v∨PairS w.heap.size w' v' (roL P n L)))∧Below w.heap.size w w':=by
  obtain ⟨i0,hi,hz0,hz1,hz2⟩:=info_parts infoS;have HM:=zh (fun w=>refmod_all n P hn.1 hn.2 (by omega) (by omega) w);rw [dR_pos P0] at HM;have m0:=Int.emod_nonneg n (show P≠0 by omega);have m1:=Int.emod_lt_of_pos n P0;have rv:roL P n L=if n % P=0 then L else cbL 1 (loL P (n % P) L) (hiL P (n % P) L):=rfl;rw [rv];clear rv;generalize n % P=m at *;obtain ⟨o,c,rfl⟩:=prs_shape h;have PL:=zh h;clear h;have AT:=zh (fun k hk=>pe_at cn ip (k:=k) hk);have HL:Hid (∀ W v1 v2,∀ {b1 b2:Nat},PairS b1 W v1 (loL P m L)→PairS b2 W v2 (hiL P m L)→Calls Tryz.prog 83 #[v1,v2,.int .i64 0] W fun e w'=>(∃ v',e=.returned v'∧PairS W.heap.size w' v' (cbL 1 (loL P m L) (hiL P m L)))∧Below W.heap.size W w'):=fun W v1 v2 _ _ h1 h2=>rplists v1 v2 _ _ (by have:=lo_len P m L;omega) (by have:=hi_len P m L;omega) (lo_cn P m cn) (hi_cn P m cn) 0 (by omega) (by omega) W h1 h2;clear cn ip;obtain ⟨N,hl⟩:∃ N,L.length=N:=⟨_,rfl⟩;rw [hl] at hL PL AT ⊢
  by_cases z:m=0
  · have kz:(m==0)=true:=beq_iff_eq.2 z;rw [if_pos z];clear z HL AT
    go_enter Tryz.func139,Tryz.ntmps139
    go_wp2_with fail
    refine (HM.out _).mono ?_;rintro e W0 ⟨rfl,d,hW⟩;have A0:Hid (Below w.heap.size w W0):=by show Below _ _ _;rw [hW];exact below_drewN (here w) d
    have P0':Hid (PairS 0 W0 (.slice o N c) L):=by show PairS _ _ _ _;exact (PL.out.keep A0.out).weak (Nat.zero_le _)
    clear hW;go_wp2
    go_ret
    exact ⟨⟨_,rfl,P0'.out,.inl (by rfl)⟩,A0.out⟩
  · have kz:(m==0)=false:=by rw [beq_eq_false_iff_ne];exact z
    rw [if_neg z];clear z
    go_enter Tryz.func139,Tryz.ntmps139
    go_wp2_with fail
    refine (HM.out _).mono ?_;rintro e W0 ⟨rfl,d,hW⟩;have A0:Hid (Below w.heap.size w W0):=by show Below _ _ _;rw [hW];exact below_drewN (here w) d
    replace PL:Hid (PairS ba W0 (.slice o N c) L):=by show PairS _ _ _ _;exact (PL.out.keep A0.out)
    clear hW HM;have I1:Hid (W0.ownsRow W0.heap.size 40 2 (.slice none 0 0) (loL P m (L.take 0)).length (pairs (loL P m (L.take 0)))):=World.ownsRow_nil _ _ _ _;have I2:Hid (W0.ownsRow W0.heap.size 40 2 (.slice none 0 0) (hiL P m (L.take 0)).length (pairs (hiL P m (L.take 0)))):=World.ownsRow_nil _ _ _ _;have I3:Hid (Apart (.slice none 0 0) (.slice none 0 0)):=fun g hg=>by cases hg
    have I4:Hid (Below W0.heap.size W0 W0):=here W0;go_wp2
    go_loopw [8,9,10] (fun u1 u2 i wr=>∃ (k:Nat) (v1 v2:Value),v1=u1∧v2=u2∧k≤N∧i=.int .i64 k∧Hid (wr.ownsRow W0.heap.size 40 2 u1 (loL P m (L.take k)).length (pairs (loL P m (L.take k))))∧Hid (wr.ownsRow W0.heap.size 40 2 u2 (hiL P m (L.take k)).length (pairs (hiL P m (L.take k))))∧Hid (Apart u1 u2)∧Hid (Below W0.heap.size W0 wr)) (fun _ _ i _=>N - (intOf i).toNat)
    case atStart=>exact ⟨0,_,_,rfl,rfl,Nat.zero_le _,rfl,I1,I2,I3,I4⟩
    case round =>
      obtain ⟨k,v1,v2,rfl,rfl,hk,rfl,O1,O2,AP,A6⟩:=hrel;clear I1 I2 I3 I4;have HP:=zh (PL.out.keep A6.out)
      by_cases z:k<N
      · have kz1:decide ((k:Int)<(N:Int))=true:=zdt (by omega);obtain ⟨b,off,rfl,bl,cs⟩:=prs_here HP.out (show k<L.length by omega);obtain ⟨c0,c1⟩:=cs k (by omega);obtain ⟨k1,hk1⟩:∃ k1,k+1=k1:=⟨_,rfl⟩;have e1:=lo_snoc P m (L.take k) (L.getD k (0,0));have e2:=hi_snoc P m (L.take k) (L.getD k (0,0));rw [← tak_snoc L (show k<L.length by omega),hk1] at e1 e2;have at0:=AT.out k (by omega);have l1:=lo_len P m (L.take k);have l2:=hi_len P m (L.take k);have lt0:(L.take k).length≤k:=by rw [List.length_take];omega
        clear cs;generalize L.getD k (0,0)=p at *;obtain ⟨gx,gy⟩:=p;replace c0:wr.cell? ⟨b,off+k * 2,none⟩=some (.int .i64 gx):=c0;replace c1:wr.cell? ⟨b,off+k * 2+1,none⟩=some (.int .i64 gy):=c1;replace at0:0≤gx∧gx<gy∧gy≤P:=at0;obtain ⟨x,hx⟩:∃ x,gx+m=x:=⟨_,rfl⟩;obtain ⟨y,hy⟩:∃ y,gy+m=y:=⟨_,rfl⟩;replace e1:loL P m (L.take k1)=loL P m (L.take k)++(if P<gy+m then [((if gx+m<P then P else gx+m) - P,gy+m - P)] else []):=e1;replace e2:hiL P m (L.take k1)=hiL P m (L.take k)++(if gx+m<P then [(gx+m,if P<gy+m then P else gy+m)] else []):=e2;rw [hx,hy] at e1 e2;have xb:0≤x∧x<2 * P∧x<y∧y≤2 * P:=by omega
        obtain ⟨rl,hrl⟩:∃ r,loL P m (L.take k)=r:=⟨_,rfl⟩;obtain ⟨rh,hrh⟩:∃ r,hiL P m (L.take k)=r:=⟨_,rfl⟩;rw [hrl] at e1 O1 l1;rw [hrh] at e2 O2 l2;obtain ⟨n1,hn1⟩:∃ n1,rl.length=n1:=⟨_,rfl⟩;obtain ⟨n2,hn2⟩:∃ n2,rh.length=n2:=⟨_,rfl⟩;rw [hn1] at O1 l1;rw [hn2] at O2 l2;replace hn1:=zh hn1;replace hn2:=zh hn2;clear hrl hrh;go_wp2
        go_quiet (fail)
        obtain ⟨w6,hw6⟩:∃ w6,wr.drewN nq=w6:=⟨_,rfl⟩;replace O1:Hid (w6.ownsRow W0.heap.size 40 2 v1 n1 (pairs rl)):=by show World.ownsRow _ _ _ _ _ _ _;rw [← hw6];exact O1.out
        replace O2:Hid (w6.ownsRow W0.heap.size 40 2 v2 n2 (pairs rh)):=by show World.ownsRow _ _ _ _ _ _ _;rw [← hw6];exact O2.out
        replace A6:Hid (Below W0.heap.size W0 w6):=by show Below _ _ _;rw [← hw6];exact below_drewN A6.out nq
        rw [hw6];clear hw6 c0 c1 bl HP hx hy;have LEN1:∀ (x y:Int),(rl++[(x,y)]).length=n1+1:=fun x y=>by rw [List.length_append,hn1.out];rfl
        have LEN2:∀ (x y:Int),(rh++[(x,y)]).length=n2+1:=fun x y=>by rw [List.length_append,hn2.out];rfl
        have cN:n1≤20000∧n2≤20000:=by omega
        have apSym:∀ u v,Apart u v→Apart v u:=fun u v h g hg q=>h g q hg;clear l1 l2 lt0
        by_cases xl:x<P
        · have kx:=zdt xl;obtain ⟨t,ht⟩:∃ t,(if P<y then P else y)=t:=⟨_,rfl⟩;have ht2:min y P=t:=by rw [← ht];split <;> omega
          have tb:0≤t∧t≤P:=by rw [← ht];split <;> omega
          rw [if_pos xl,ht] at e2;rw [if_pos xl,Int.sub_self] at e1;have hmx:(if x<P then P else x)=P:=if_pos xl;have hmx2:max x P=P:=by omega
          have pp:P - P=0:=Int.sub_self P;replace e2:=zh e2
          by_cases yl:P<y
          · have ky:=zdt yl;obtain ⟨ya,hya⟩:∃ ya,y - P=ya:=⟨_,rfl⟩;have yab:0≤ya∧ya≤20000000000:=by omega
            rw [if_pos yl,hya] at e1;replace e1:=zh e1;clear xl yl;have Z1:=zh (O2.out.alloc (.cells #[.int .i64 x,.int .i64 t] 40));have Z2:Hid (∀ (j:Nat) (u:Value),[Value.int .i64 x,.int .i64 t][j]?=some u→(w6.alloc (.cells #[.int .i64 x,.int .i64 t] 40)).cell? ((⟨w6.heap.size,0,none⟩:Addr).add j)=some u):=fun j u hj=>by rw [Addr.add_lit,Nat.zero_add,World.cell?_alloc_new];simpa using hj
            have Z3:Hid (∀ u∈[Value.int .i64 x,.int .i64 t],u.oneCell'=true):=fun u hu=>by simp at hu;rcases hu with rfl | rfl <;> rfl
            have Z5:Hid (n2+1≤maxLen):=by show _≤_;unfold maxLen;omega
            have Z6:Hid ((n2+1) * 16≤140737488355328):=by show _≤_;omega
            have Z4:Hid (W0.heap.size≤(w6.alloc (.cells #[.int .i64 x,.int .i64 t] 40)).heap.size):=by show _≤_;have:=A6.out.size;simp;omega
            have Z7:=zh (O1.out.alloc (.cells #[.int .i64 x,.int .i64 t] 40));have Z8:=zh (grow A6.out (.cells #[.int .i64 x,.int .i64 t] 40));clear O2 O1 A6;go_wp2_with (at_builtin;refine wpList_append_lies _ rfl _ _ 22 rfl W0.heap.size 40 i0 (.agg #[.int .i64 0,.int .i64 0]) 2 16 Tryz.underlying22 hi hz0 hz1 hz2 rfl (by decide) (v2) (n2) (pairs (rh)) rfl Z1.out ⟨w6.heap.size,0,none⟩ 1 1 [.int .i64 x,.int .i64 t] rfl rfl Z2.out Z3.out (Nat.succ_pos 0) Z5.out Z6.out Z4.out _ rfl ?_)
            intro g7 cap7 w7 hown hgrow hor hlt;have A6:Hid (Below W0.heap.size W0 w7):=Z8.out.grown hgrow Z4.out (own_ge Z1.out);have O1:Hid (w7.ownsRow W0.heap.size 40 2 v1 n1 (pairs rl)):=apart_kept Z7.out AP.out hgrow;have O2:Hid (w7.ownsRow W0.heap.size 40 2 (.slice (some ⟨g7,0,none⟩) (n2+1) cap7) (n2+1) (pairs (rh++[(x,t)]))):=by show World.ownsRow _ _ _ _ _ _ _;rw [pairs_append];exact hown
            have FRESH:∀ u n' xs,(w6.alloc (.cells #[.int .i64 x,.int .i64 t] 40)).ownsRow W0.heap.size 40 2 u n' xs→Apart u (v2)→Apart u (.slice (some ⟨g7,0,none⟩) (n2+1) cap7):=fun u n' xs ho ha g hg q=>by
              replace q:g7=g:=by injection q
              subst q
              rcases hor with h | h
              · exact ha _ hg h
              · have:=(ho.lt _ hg).2;simp at this;omega
            have NA:=FRESH _ _ _ Z7.out AP.out;clear hown hgrow Z1 Z2 Z3 Z4 Z5 Z6 Z7 Z8 FRESH hor hlt;have AP7:=zh (apSym _ _ NA);clear AP NA;have Z1:=zh (O1.out.alloc (.cells #[.int .i64 0,.int .i64 ya] 40));have Z2:Hid (∀ (j:Nat) (u:Value),[Value.int .i64 0,.int .i64 ya][j]?=some u→(w7.alloc (.cells #[.int .i64 0,.int .i64 ya] 40)).cell? ((⟨w7.heap.size,0,none⟩:Addr).add j)=some u):=fun j u hj=>by rw [Addr.add_lit,Nat.zero_add,World.cell?_alloc_new];simpa using hj
            have Z3:Hid (∀ u∈[Value.int .i64 0,.int .i64 ya],u.oneCell'=true):=fun u hu=>by simp at hu;rcases hu with rfl | rfl <;> rfl
            have Z5:Hid (n1+1≤maxLen):=by show _≤_;unfold maxLen;omega
            have Z6:Hid ((n1+1) * 16≤140737488355328):=by show _≤_;omega
            have Z4:Hid (W0.heap.size≤(w7.alloc (.cells #[.int .i64 0,.int .i64 ya] 40)).heap.size):=by show _≤_;have:=A6.out.size;simp;omega
            have Z7:=zh (O2.out.alloc (.cells #[.int .i64 0,.int .i64 ya] 40));have Z8:=zh (grow A6.out (.cells #[.int .i64 0,.int .i64 ya] 40));clear O1 O2 A6;go_wp2_with (at_builtin;refine wpList_append_lies _ rfl _ _ 22 rfl W0.heap.size 40 i0 (.agg #[.int .i64 0,.int .i64 0]) 2 16 Tryz.underlying22 hi hz0 hz1 hz2 rfl (by decide) (v1) (n1) (pairs (rl)) rfl Z1.out ⟨w7.heap.size,0,none⟩ 1 1 [.int .i64 0,.int .i64 ya] rfl rfl Z2.out Z3.out (Nat.succ_pos 0) Z5.out Z6.out Z4.out _ rfl ?_)
            intro g8 cap8 w8 hown hgrow hor hlt;have A6:Hid (Below W0.heap.size W0 w8):=Z8.out.grown hgrow Z4.out (own_ge Z1.out);have O2:Hid (w8.ownsRow W0.heap.size 40 2 (.slice (some ⟨g7,0,none⟩) (n2+1) cap7) (n2+1) (pairs (rh++[(x,t)]))):=apart_kept Z7.out AP7.out hgrow;have O1:Hid (w8.ownsRow W0.heap.size 40 2 (.slice (some ⟨g8,0,none⟩) (n1+1) cap8) (n1+1) (pairs (rl++[(0,ya)]))):=by show World.ownsRow _ _ _ _ _ _ _;rw [pairs_append];exact hown
            have FRESH:∀ u n' xs,(w7.alloc (.cells #[.int .i64 0,.int .i64 ya] 40)).ownsRow W0.heap.size 40 2 u n' xs→Apart u (v1)→Apart u (.slice (some ⟨g8,0,none⟩) (n1+1) cap8):=fun u n' xs ho ha g hg q=>by
              replace q:g8=g:=by injection q
              subst q
              rcases hor with h | h
              · exact ha _ hg h
              · have:=(ho.lt _ hg).2;simp at this;omega
            have NA:=FRESH _ _ _ Z7.out AP7.out;clear hown hgrow Z1 Z2 Z3 Z4 Z5 Z6 Z7 Z8 FRESH hor hlt;have AP8:=zh (apSym _ _ NA);clear AP7 NA;have W1:Hid (w8.ownsRow W0.heap.size 40 2 (.slice (some ⟨g8,0,none⟩) (n1+1) cap8) (loL P m (L.take k1)).length (pairs (loL P m (L.take k1)))):=by show World.ownsRow _ _ _ _ _ _ _;rw [e1.out,LEN1];exact O1.out
            have W2:Hid (w8.ownsRow W0.heap.size 40 2 (.slice (some ⟨g7,0,none⟩) (n2+1) cap7) (hiL P m (L.take k1)).length (pairs (hiL P m (L.take k1)))):=by show World.ownsRow _ _ _ _ _ _ _;rw [e2.out,LEN2];exact O2.out
            have W3:Hid (Apart (.slice (some ⟨g8,0,none⟩) (n1+1) cap8) (.slice (some ⟨g7,0,none⟩) (n2+1) cap7)):=AP8.out;clear O1 O2 e1 e2 LEN1 LEN2;go_wp2
            go_roundw
            case rel=>exact ⟨k1,_,_,rfl,rfl,by omega,by first | rfl | (congr 1;omega) | go_num,W1,W2,W3,A6⟩
            case measure=>simp [intOf];omega
          · have ky:=zdf yl;rw [if_neg yl,List.append_nil] at e1;replace e1:=zh e1;clear xl yl;have Z1:=zh (O2.out.alloc (.cells #[.int .i64 x,.int .i64 t] 40));have Z2:Hid (∀ (j:Nat) (u:Value),[Value.int .i64 x,.int .i64 t][j]?=some u→(w6.alloc (.cells #[.int .i64 x,.int .i64 t] 40)).cell? ((⟨w6.heap.size,0,none⟩:Addr).add j)=some u):=fun j u hj=>by rw [Addr.add_lit,Nat.zero_add,World.cell?_alloc_new];simpa using hj
            have Z3:Hid (∀ u∈[Value.int .i64 x,.int .i64 t],u.oneCell'=true):=fun u hu=>by simp at hu;rcases hu with rfl | rfl <;> rfl
            have Z5:Hid (n2+1≤maxLen):=by show _≤_;unfold maxLen;omega
            have Z6:Hid ((n2+1) * 16≤140737488355328):=by show _≤_;omega
            have Z4:Hid (W0.heap.size≤(w6.alloc (.cells #[.int .i64 x,.int .i64 t] 40)).heap.size):=by show _≤_;have:=A6.out.size;simp;omega
            have Z7:=zh (O1.out.alloc (.cells #[.int .i64 x,.int .i64 t] 40));have Z8:=zh (grow A6.out (.cells #[.int .i64 x,.int .i64 t] 40));clear O2 O1 A6;go_wp2_with (at_builtin;refine wpList_append_lies _ rfl _ _ 22 rfl W0.heap.size 40 i0 (.agg #[.int .i64 0,.int .i64 0]) 2 16 Tryz.underlying22 hi hz0 hz1 hz2 rfl (by decide) (v2) (n2) (pairs (rh)) rfl Z1.out ⟨w6.heap.size,0,none⟩ 1 1 [.int .i64 x,.int .i64 t] rfl rfl Z2.out Z3.out (Nat.succ_pos 0) Z5.out Z6.out Z4.out _ rfl ?_)
            intro g7 cap7 w7 hown hgrow hor hlt;have A6:Hid (Below W0.heap.size W0 w7):=Z8.out.grown hgrow Z4.out (own_ge Z1.out);have O1:Hid (w7.ownsRow W0.heap.size 40 2 v1 n1 (pairs rl)):=apart_kept Z7.out AP.out hgrow;have O2:Hid (w7.ownsRow W0.heap.size 40 2 (.slice (some ⟨g7,0,none⟩) (n2+1) cap7) (n2+1) (pairs (rh++[(x,t)]))):=by show World.ownsRow _ _ _ _ _ _ _;rw [pairs_append];exact hown
            have FRESH:∀ u n' xs,(w6.alloc (.cells #[.int .i64 x,.int .i64 t] 40)).ownsRow W0.heap.size 40 2 u n' xs→Apart u (v2)→Apart u (.slice (some ⟨g7,0,none⟩) (n2+1) cap7):=fun u n' xs ho ha g hg q=>by
              replace q:g7=g:=by injection q
              subst q
              rcases hor with h | h
              · exact ha _ hg h
              · have:=(ho.lt _ hg).2;simp at this;omega
            have NA:=FRESH _ _ _ Z7.out AP.out;clear hown hgrow Z1 Z2 Z3 Z4 Z5 Z6 Z7 Z8 FRESH hor hlt;have AP7:=zh NA;clear AP NA;have W1:Hid (w7.ownsRow W0.heap.size 40 2 (v1) (loL P m (L.take k1)).length (pairs (loL P m (L.take k1)))):=by show World.ownsRow _ _ _ _ _ _ _;rw [e1.out,hn1.out];exact O1.out
            have W2:Hid (w7.ownsRow W0.heap.size 40 2 (.slice (some ⟨g7,0,none⟩) (n2+1) cap7) (hiL P m (L.take k1)).length (pairs (hiL P m (L.take k1)))):=by show World.ownsRow _ _ _ _ _ _ _;rw [e2.out,LEN2];exact O2.out
            have W3:Hid (Apart (v1) (.slice (some ⟨g7,0,none⟩) (n2+1) cap7)):=AP7.out;clear O1 O2 e1 e2 LEN1 LEN2;go_wp2
            go_roundw
            case rel=>exact ⟨k1,_,_,rfl,rfl,by omega,by first | rfl | (congr 1;omega) | go_num,W1,W2,W3,A6⟩
            case measure=>simp [intOf];omega
        · have kx:=zdf xl;have yl:P<y:=by omega
          have ky:=zdt yl;have hmx:(if x<P then P else x)=x:=if_neg xl;have hmx2:max x P=x:=by omega
          obtain ⟨xa,hxa⟩:∃ xa,x - P=xa:=⟨_,rfl⟩;obtain ⟨ya,hya⟩:∃ ya,y - P=ya:=⟨_,rfl⟩;have yab:0≤xa∧xa≤20000000000∧0≤ya∧ya≤20000000000:=by omega
          rw [if_pos yl,if_neg xl,hya,hxa] at e1;rw [if_neg xl,List.append_nil] at e2;replace e1:=zh e1;replace e2:=zh e2;have AP6:=zh (apSym _ _ AP.out);clear xl yl AP;have Z1:=zh (O1.out.alloc (.cells #[.int .i64 xa,.int .i64 ya] 40));have Z2:Hid (∀ (j:Nat) (u:Value),[Value.int .i64 xa,.int .i64 ya][j]?=some u→(w6.alloc (.cells #[.int .i64 xa,.int .i64 ya] 40)).cell? ((⟨w6.heap.size,0,none⟩:Addr).add j)=some u):=fun j u hj=>by rw [Addr.add_lit,Nat.zero_add,World.cell?_alloc_new];simpa using hj
          have Z3:Hid (∀ u∈[Value.int .i64 xa,.int .i64 ya],u.oneCell'=true):=fun u hu=>by simp at hu;rcases hu with rfl | rfl <;> rfl
          have Z5:Hid (n1+1≤maxLen):=by show _≤_;unfold maxLen;omega
          have Z6:Hid ((n1+1) * 16≤140737488355328):=by show _≤_;omega
          have Z4:Hid (W0.heap.size≤(w6.alloc (.cells #[.int .i64 xa,.int .i64 ya] 40)).heap.size):=by show _≤_;have:=A6.out.size;simp;omega
          have Z7:=zh (O2.out.alloc (.cells #[.int .i64 xa,.int .i64 ya] 40));have Z8:=zh (grow A6.out (.cells #[.int .i64 xa,.int .i64 ya] 40));clear O1 O2 A6;go_wp2_with (at_builtin;refine wpList_append_lies _ rfl _ _ 22 rfl W0.heap.size 40 i0 (.agg #[.int .i64 0,.int .i64 0]) 2 16 Tryz.underlying22 hi hz0 hz1 hz2 rfl (by decide) (v1) (n1) (pairs (rl)) rfl Z1.out ⟨w6.heap.size,0,none⟩ 1 1 [.int .i64 xa,.int .i64 ya] rfl rfl Z2.out Z3.out (Nat.succ_pos 0) Z5.out Z6.out Z4.out _ rfl ?_)
          intro g7 cap7 w7 hown hgrow hor hlt;have A6:Hid (Below W0.heap.size W0 w7):=Z8.out.grown hgrow Z4.out (own_ge Z1.out);have O2:Hid (w7.ownsRow W0.heap.size 40 2 v2 n2 (pairs rh)):=apart_kept Z7.out AP6.out hgrow;have O1:Hid (w7.ownsRow W0.heap.size 40 2 (.slice (some ⟨g7,0,none⟩) (n1+1) cap7) (n1+1) (pairs (rl++[(xa,ya)]))):=by show World.ownsRow _ _ _ _ _ _ _;rw [pairs_append];exact hown
          have FRESH:∀ u n' xs,(w6.alloc (.cells #[.int .i64 xa,.int .i64 ya] 40)).ownsRow W0.heap.size 40 2 u n' xs→Apart u (v1)→Apart u (.slice (some ⟨g7,0,none⟩) (n1+1) cap7):=fun u n' xs ho ha g hg q=>by
            replace q:g7=g:=by injection q
            subst q
            rcases hor with h | h
            · exact ha _ hg h
            · have:=(ho.lt _ hg).2;simp at this;omega
          have NA:=FRESH _ _ _ Z7.out AP6.out;clear hown hgrow Z1 Z2 Z3 Z4 Z5 Z6 Z7 Z8 FRESH hor hlt;have AP7:=zh (apSym _ _ NA);clear AP6 NA;have W1:Hid (w7.ownsRow W0.heap.size 40 2 (.slice (some ⟨g7,0,none⟩) (n1+1) cap7) (loL P m (L.take k1)).length (pairs (loL P m (L.take k1)))):=by show World.ownsRow _ _ _ _ _ _ _;rw [e1.out,LEN1];exact O1.out
          have W2:Hid (w7.ownsRow W0.heap.size 40 2 (v2) (hiL P m (L.take k1)).length (pairs (hiL P m (L.take k1)))):=by show World.ownsRow _ _ _ _ _ _ _;rw [e2.out,hn2.out];exact O2.out
          have W3:Hid (Apart (.slice (some ⟨g7,0,none⟩) (n1+1) cap7) (v2)):=AP7.out;clear O1 O2 e1 e2 LEN1 LEN2;go_wp2
          go_roundw
          case rel=>exact ⟨k1,_,_,rfl,rfl,by omega,by first | rfl | (congr 1;omega) | go_num,W1,W2,W3,A6⟩
          case measure=>simp [intOf];omega
      · have kz1:decide ((k:Int)<(N:Int))=false:=zdf (by omega);obtain rfl:k=N:=by omega
        rw [List.take_of_length_le (by omega)] at O1 O2;have HL2:=zh (HL.out wr _ _ (show PairS W0.heap.size wr v1 (loL P m L) from Sl.owns O1.out) (show PairS W0.heap.size wr v2 (hiL P m L) from Sl.owns O2.out));have A7:=zh (down A0.out A6.out);clear O1 O2 HL HP AP A6;go_wp2_with fail
        refine HL2.out.mono ?_;rintro e w9 ⟨⟨v9,rfl,P9⟩,hb⟩;have A9:=zd A7 hb;have P9':=zh (show PairS 0 w9 v9 _ from Sl.weak P9 (Nat.zero_le _));have P9'':=zh (show PairS w.heap.size w9 v9 _ from Sl.weak P9 A7.out.size);clear HL2 A7 hb P9;go_wp2
        go_ret
        exact ⟨⟨_,rfl,P9'.out,.inr P9''.out⟩,A9.out⟩
theorem root_bound {q P:Int} (q1:1≤q) (P1:P≤12622780800) (h:q * q≤P):q≤112351:=by
 rcases Int.lt_or_le 112351 q with z | z
 ·exfalso
  have:=Int.mul_le_mul (show (112352:Int)≤q by omega) (show (112352:Int)≤q by omega) (by omega) (by omega);omega
 ·exact z
theorem root_less {e q P:Int} (e0:0<e) (q0:0<q) (h:P<q * q) (he:e * e≤P):e<q:=by
 rcases Int.lt_or_le e q with z | z
 ·exact z
 ·exfalso
  have:=Int.mul_le_mul z z (by omega) (by omega);omega
theorem ro_len {P:Int} {L:List Sp} (P0:0<P) (c:Cn L) (i:InP P L) (n:Int):(roL P n L).length≤4 * L.length:=by
 unfold roL
 split
 ·omega
 ·have:=(cb_spec 1 (loL P (n % P) L) (hiL P (n % P) L)).2.2.2;have a:=lo_len P (n % P) L;have b:=hi_len P (n % P) L;omega
set_option maxRecDepth 100000 in
set_option maxHeartbeats 2000000 in
theorem rpleast (v:Value) (P:Int) (L:List Sp) (hL:L.length≤20000) (cn:Cn L) (ip:InP P L) (P0:0<P) (P1:P≤12622780800) {ba:Nat} (w:World) (h:PairS ba w v L) :
    Calls Tryz.prog 109 #[.int .i64 P,v] w fun e w'=>(∃ v',e=.returned (.agg #[.int .i64 (leF P (hsP P L)),v'])∧PairS w.heap.size w' v' (caL (hsP P L) 0 (leF P (hsP P L))))∧Below w.heap.size w w':=by
  have TR:=zh (Tuo.new w (.int .i64 0) (.slice none 0 0) 24);have A1:=zh (grow (here w) (.cells #[.int .i64 0,.slice none 0 0] 24));have HR:Hid (∀ (n:Int),I64 n→∀ W,PairS ba W v L→Calls Tryz.prog 139 #[v,.int .i64 P,.int .i64 n] W fun e w'=>(∃ v',e=.returned v'∧PairS 0 w' v' (roL P n L))∧Below W.heap.size W w'):=fun n hn W h=>(rprotated v P L n hL cn ip P0 P1 hn W h).mono (by rintro e w' ⟨⟨v',a,b,-⟩,hb⟩;exact ⟨⟨v',a,b⟩,hb⟩);have HS:Hid (∀ (n:Int) u W,∀ {b1:Nat},PairS b1 W u (roL P n L)→PairS ba W v L→Calls Tryz.prog 126 #[u,v] W fun e w'=>e=.returned (.bool (decide (roL P n L=L)))∧Below W.heap.size W w'):=fun n u W _ h1 h2=>rpsame u v _ L (by unfold maxLen;have:=ro_len P0 cn ip n;omega) (by unfold maxLen;omega) W h1 h2;have HC:Hid (∀ (d:Int) W,PairS ba W v L→Calls Tryz.prog 154 #[.int .i64 d,v] W fun e w'=>(∃ v',e=.returned (.agg #[.int .i64 d,v'])∧PairS W.heap.size w' v' (cuL d L))∧Below W.heap.size W w'):=fun d W h=>(rpcut v d L (by omega) W h).mono (by rintro e w' ⟨⟨v',a,b⟩,hb⟩;exact ⟨⟨v',a,Sl.owns b⟩,hb⟩);have SM:Hid (∀ n,(roL P n L=L)↔Per (hsP P L) n):=fun n=>ro_same P0 cn ip n;have CU:Hid (∀ d,d≤P→cuL d L=caL (hsP P L) 0 d):=fun d hd=>cu_eq cn ip hd;have per:Hid (Per (hsP P L) P):=hs_per;have W0:=zh (h.keep A1.out);clear h cn ip;generalize hsP P L=f at *;have N0:Hid (∀ e,0<e→e<1→e ∣ P→¬ Per f e):=fun e a b=>by omega
  go_enter Tryz.func109,Tryz.ntmps109
  go_wp2
  go_loopw [5] (fun i wr=>∃ q:Int,1≤q∧q≤112352∧i=.int .i64 q∧Hid (∀ e,0<e→e<q→e ∣ P→¬ Per f e)∧Hid (Below w.heap.size w wr)∧Hid (Tuo wr w.heap.size (.int .i64 0) (.slice none 0 0))∧Hid (PairS ba wr v L)) (fun i _=>(112352 - intOf i).toNat)
  case atStart=>exact ⟨1,Int.le_refl _,by omega,rfl,N0,A1,TR,W0⟩
  case round =>
    obtain ⟨q,q1,q2,rfl,NO,BW,TW,WP⟩:=hrel;clear A1 TR W0 N0;obtain ⟨qq,hqq⟩:∃ z,q * q=z:=⟨_,rfl⟩;have qq0:0≤qq:=by rw [← hqq];exact Int.mul_nonneg (by omega) (by omega)
    have qq1:qq≤12622971904:=by
      have:=Int.mul_le_mul q2 q2 (by omega) (by omega);omega
    by_cases z:qq≤P
    · have kz:decide (qq≤P)=true:=zdt z;have q3:=root_bound q1 P1 (show q * q≤P by omega);have nq0:¬ (q=0):=by omega
      obtain ⟨r1,e1⟩:∃ r,P.tmod q=r:=⟨_,rfl⟩;have f1:r1=P % q:=by rw [← e1,Int.tmod_eq_emod_of_nonneg (by omega)]
      have NEXT:¬ (q ∣ P∧Per f q)→Hid (∀ e,0<e→e<q+1→e ∣ P→¬ Per f e):=fun n e a b c d=>by
        rcases Int.lt_or_eq_of_le (show e≤q by omega) with y | y
        · exact NO.out e a y c d
        · subst y;exact n ⟨c,d⟩
      by_cases y:P % q=0
      · have ke:(r1==0)=true:=by rw [f1,y];rfl
        have dv:q ∣ P:=Int.dvd_of_emod_eq_zero y;have qP:=Int.le_of_dvd P0 dv;have HR2:=zh (HR.out q (by unfold I64;omega) _ WP.out);clear y;go_wp2_with fail
        refine HR2.out.mono ?_;rintro e w3 ⟨⟨u,rfl,PU⟩,hb⟩;replace BW:=zd BW hb;replace TW:=zh (TW.out.keep hb);replace WP:=zh (WP.out.keep hb);have HS2:=zh (HS.out q u w3 PU WP.out);clear HR2 hb PU
        by_cases pr:Per f q
        · have kp:decide (roL P q L=L)=true:=zdt ((SM.out q).2 pr);rw [kp] at HS2;have le:leF P f=q:=le_eq (le_up (by omega) dv pr NO.out);have cq:=CU.out q qP;replace le:=zh le;replace cq:=zh cq;clear kp NEXT NO SM CU;go_wp2_with fail
          refine HS2.out.mono ?_;rintro e w4 ⟨rfl,hb⟩;replace BW:=zd BW hb;replace TW:=zh (TW.out.keep hb);replace WP:=zh (WP.out.keep hb);clear hb HS2 pr f1 dv;have HC2:=zh (HC.out q _ WP.out);go_wp2_with fail
          refine HC2.out.mono ?_;rintro e w9 ⟨⟨v9,rfl,P9⟩,hb⟩;have B9:=zd BW hb;have tr9:=TW.out.t.lt;have sz9:=BW.out.size;have TR:=zh (TW.out.keep hb);obtain ⟨o9,c9,rfl⟩:=Sl.shape P9;replace P9:=zh P9;clear hb HC2 TW BW WP;have FI:Hid (Two ((w9.setCell ⟨w.heap.size,0,none⟩ (.int .i64 q)).setCell ⟨w.heap.size,1,none⟩ (.slice o9 (cuL q L).length c9)) w.heap.size (.int .i64 q) (.slice o9 (cuL q L).length c9)∧Below w.heap.size w ((w9.setCell ⟨w.heap.size,0,none⟩ (.int .i64 q)).setCell ⟨w.heap.size,1,none⟩ (.slice o9 (cuL q L).length c9))∧PairS w.heap.size ((w9.setCell ⟨w.heap.size,0,none⟩ (.int .i64 q)).setCell ⟨w.heap.size,1,none⟩ (.slice o9 (cuL q L).length c9)) (.slice o9 (cuL q L).length c9) (cuL q L)) :=
            ⟨TR.out.put _ _,(B9.out.setCell (p:=⟨w.heap.size,0,none⟩) (Nat.le_refl _) _).setCell (p:=⟨w.heap.size,1,none⟩) (Nat.le_refl _) _,Sl.weak (Sl.far (Sl.far P9.out tr9 _) tr9 _) sz9⟩
          obtain ⟨⟨ri0,ri1,ri2⟩,rf0,rf1⟩:=TR.out;go_wp2
          have q0':=FI.out.1.c0;have q1':=FI.out.1.c1;generalize (w9.setCell ⟨w.heap.size,0,none⟩ (.int .i64 q)).setCell ⟨w.heap.size,1,none⟩ (.slice o9 (cuL q L).length c9)=w13 at *;refine bodyPost_ret (v:=.agg #[.int .i64 q,.slice o9 (cuL q L).length c9]) (by simp [results,Tryz.results109,go_sem,q0',q1']) rfl ?_;rw [le.out,← cq.out];exact ⟨⟨_,rfl,FI.out.2.2⟩,FI.out.2.1⟩
        · have kp:decide (roL P q L=L)=false:=zdf (fun e=>pr ((SM.out q).1 e));rw [kp] at HS2;have NX:=NEXT (fun e=>pr e.2);clear kp NEXT NO SM CU pr;go_wp2_with fail
          refine HS2.out.mono ?_;rintro e w4 ⟨rfl,hb⟩;replace BW:=zd BW hb;replace TW:=zh (TW.out.keep hb);replace WP:=zh (WP.out.keep hb);clear hb HS2 f1 dv;go_wp2
          go_roundw
          case rel=>exact ⟨q+1,by omega,by omega,rfl,NX,BW,TW,WP⟩
          case measure=>simp [intOf];omega
      · have ke:(r1==0)=false:=by rw [beq_eq_false_iff_ne,f1];exact y
        have NX:=NEXT (fun e=>y (Int.emod_eq_zero_of_dvd e.1));clear NEXT NO SM CU y f1;go_wp2
        go_roundw
        case rel=>exact ⟨q+1,by omega,by omega,rfl,NX,BW,TW,WP⟩
        case measure=>simp [intOf];omega
    · have kz:decide (qq≤P)=false:=zdf z;have NN:Hid (∀ e,0<e→e * e≤P→e ∣ P→¬ Per f e):=fun e a b c=>NO.out e a (root_less a (by omega) (show P<q * q by omega) b) c;have S0:Hid (Sec f P 1 P):=sec_start P0 per.out;clear NO z;go_wp2
      go_loopw [6,7] (fun b i wr=>∃ q d:Int,1≤q∧q≤112352∧i=.int .i64 q∧b=.int .i64 d∧Hid (Sec f P q d)∧Hid (Below w.heap.size w wr)∧Hid (Tuo wr w.heap.size (.int .i64 0) (.slice none 0 0))∧Hid (PairS ba wr v L)) (fun _ i _=>(112352 - intOf i).toNat)
      case atStart=>exact ⟨1,P,Int.le_refl _,by omega,rfl,rfl,S0,BW,TW,WP⟩
      case round =>
        clear BW TW WP S0 qq0 qq1 hqq q1 q2;obtain ⟨q,d,q1,q2,rfl,rfl,SE,BW,TW,WP⟩:=hrel;obtain ⟨qr,hqr⟩:∃ z,q * q=z:=⟨_,rfl⟩;have qr0:0≤qr:=by rw [← hqr];exact Int.mul_nonneg (by omega) (by omega)
        have qr1:qr≤12622971904:=by
          have:=Int.mul_le_mul q2 q2 (by omega) (by omega);omega
        by_cases z:qr≤P
        · have kz2:decide (qr≤P)=true:=zdt z;have q3:=root_bound q1 P1 (show q * q≤P by omega);have nq0:¬ (q=0):=by omega
          obtain ⟨r1,e1⟩:∃ r,P.tmod q=r:=⟨_,rfl⟩;have f1:r1=P % q:=by rw [← e1,Int.tmod_eq_emod_of_nonneg (by omega)]
          have e1':P % q=r1:=f1.symm
          by_cases y:P % q=0
          · have ke:(r1==0)=true:=by rw [f1,y];rfl
            have dv:q ∣ P:=Int.dvd_of_emod_eq_zero y;obtain ⟨t,et⟩:∃ t,P.tdiv q=t:=⟨_,rfl⟩;have ep:P / q=t:=by rw [← et,Int.tdiv_eq_ediv_of_nonneg (by omega)]
            have ft:=zh ep.symm;have t0:0≤t:=by rw [ft.out];exact Int.ediv_nonneg (by omega) (by omega)
            have t1:t≤P:=by rw [ft.out];exact Int.ediv_le_self _ (by omega)
            have HR2:=zh (HR.out t (by unfold I64;omega) _ WP.out);have ff1:=zh f1;clear y f1;go_wp2_with fail
            refine HR2.out.mono ?_;rintro e w3 ⟨⟨u,rfl,PU⟩,hb⟩;replace BW:=zd BW hb;replace TW:=zh (TW.out.keep hb);replace WP:=zh (WP.out.keep hb);have HS2:=zh (HS.out t u w3 PU WP.out);clear HR2 hb PU
            by_cases pr:Per f t
            · have kp:decide (roL P t L=L)=true:=zdt ((SM.out t).2 pr);rw [kp] at HS2;have SE2:Hid (Sec f P (q+1) t):=by show Sec _ _ _ _;rw [ft.out];exact sec_hit P0 SE.out (by omega) dv (by rw [← ft.out];exact pr)
              clear kp SE pr ft;go_wp2_with fail
              refine HS2.out.mono ?_;rintro e w4 ⟨rfl,hb⟩;replace BW:=zd BW hb;replace TW:=zh (TW.out.keep hb);replace WP:=zh (WP.out.keep hb);clear hb HS2 dv;go_wp2
              go_roundw
              case rel=>exact ⟨q+1,t,by omega,by omega,rfl,rfl,SE2,BW,TW,WP⟩
              case measure=>simp [intOf];omega
            · have kp:decide (roL P t L=L)=false:=zdf (fun e=>pr ((SM.out t).1 e));rw [kp] at HS2;have SE2:Hid (Sec f P (q+1) d):=sec_miss SE.out (fun e=>pr (by rw [ft.out];exact e.2));clear kp SE pr ft;go_wp2_with fail
              refine HS2.out.mono ?_;rintro e w4 ⟨rfl,hb⟩;replace BW:=zd BW hb;replace TW:=zh (TW.out.keep hb);replace WP:=zh (WP.out.keep hb);clear hb HS2 dv;go_wp2
              go_roundw
              case rel=>exact ⟨q+1,d,by omega,by omega,rfl,rfl,SE2,BW,TW,WP⟩
              case measure=>simp [intOf];omega
          · have ke:(r1==0)=false:=by rw [beq_eq_false_iff_ne,f1];exact y
            have SE2:Hid (Sec f P (q+1) d):=sec_miss SE.out (fun e=>y (Int.emod_eq_zero_of_dvd e.1));clear SE y f1;go_wp2
            go_roundw
            case rel=>exact ⟨q+1,d,by omega,by omega,rfl,rfl,SE2,BW,TW,WP⟩
            case measure=>simp [intOf];omega
        · have kz2:decide (qr≤P)=false:=zdf z;have ls:=sec_end P0 SE.out (show P<q * q by omega) (by omega) NN.out;have le:=zh (le_eq ls);have cq:=zh (CU.out d (Int.le_of_dvd P0 ls.dvd));clear SE NN SM CU z ls;have HC2:=zh (HC.out d _ WP.out);go_wp2_with fail
          refine HC2.out.mono ?_;rintro e w9 ⟨⟨v9,rfl,P9⟩,hb⟩;have B9:=zd BW hb;have tr9:=TW.out.t.lt;have sz9:=BW.out.size;have TR:=zh (TW.out.keep hb);obtain ⟨o9,c9,rfl⟩:=Sl.shape P9;replace P9:=zh P9;clear hb HC2 TW BW WP;have FI:Hid (Two ((w9.setCell ⟨w.heap.size,0,none⟩ (.int .i64 d)).setCell ⟨w.heap.size,1,none⟩ (.slice o9 (cuL d L).length c9)) w.heap.size (.int .i64 d) (.slice o9 (cuL d L).length c9)∧Below w.heap.size w ((w9.setCell ⟨w.heap.size,0,none⟩ (.int .i64 d)).setCell ⟨w.heap.size,1,none⟩ (.slice o9 (cuL d L).length c9))∧PairS w.heap.size ((w9.setCell ⟨w.heap.size,0,none⟩ (.int .i64 d)).setCell ⟨w.heap.size,1,none⟩ (.slice o9 (cuL d L).length c9)) (.slice o9 (cuL d L).length c9) (cuL d L)) :=
            ⟨TR.out.put _ _,(B9.out.setCell (p:=⟨w.heap.size,0,none⟩) (Nat.le_refl _) _).setCell (p:=⟨w.heap.size,1,none⟩) (Nat.le_refl _) _,Sl.weak (Sl.far (Sl.far P9.out tr9 _) tr9 _) sz9⟩
          obtain ⟨⟨ri0,ri1,ri2⟩,rf0,rf1⟩:=TR.out;go_wp2
          have q0':=FI.out.1.c0;have q1':=FI.out.1.c1;generalize (w9.setCell ⟨w.heap.size,0,none⟩ (.int .i64 d)).setCell ⟨w.heap.size,1,none⟩ (.slice o9 (cuL d L).length c9)=w13 at *;refine bodyPost_ret (v:=.agg #[.int .i64 d,.slice o9 (cuL d L).length c9]) (by simp [results,Tryz.results109,go_sem,q0',q1']) rfl ?_;rw [le.out,← cq.out];exact ⟨⟨_,rfl,FI.out.2.2⟩,FI.out.2.1⟩
end Go.Proofs.YtmamlgaogpkagaaGreat
