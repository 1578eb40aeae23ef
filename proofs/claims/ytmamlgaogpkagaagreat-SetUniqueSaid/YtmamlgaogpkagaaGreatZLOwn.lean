/- LOwn LIvB RnS LSlP LIntA LIvU TsV. -/
import Derived.Test.YtmamlgaogpkagaaGreatZLPlain
import Derived.Test.YtmamlgaogpkagaaGreatZLGen
import Derived.Test.YtmamlgaogpkagaaGreatZLSl
import Derived.OwnWalk
import Derived.Deep.QuietTactic
import Derived.BigQuiet
import Derived.Outline
import Derived.Lib.SmallJoins
import Derived.Test.YtmamlgaogpkagaaGreatProg
import Derived.WalkKit
namespace Go.Proofs.YtmamlgaogpkagaaGreat
open Go.RowKit
set_option linter.unusedVariables false
set_option linter.unusedSimpArgs false
theorem One.under {w w':World} {B b:Nat} {v:Value} (h:One w b v) (hb:Below B w w') (l:b<B):One w' b v :=
 ⟨by rw [hb.cell (p:=⟨b,0,none⟩) l];exact h.c,by have:=hb.size;have:=h.lt;omega⟩
theorem owns_below {w w':World} {base:Nat} {e:TypeId} {size:Nat} {v:Value} {n:Nat} {xs:List Value} (h:w.ownsRow base e size v n xs) (hb:Below w.heap.size w w'):w'.ownsRow base e size v n xs :=
 h.kept (row:=none) ⟨hb.os,hb.tape,hb.output,hb.size,fun k hk _=>hb.block k hk⟩ (by
  cases v.ownBlock <;> simp)
theorem own_ge {w:World} {base:Nat} {e:TypeId} {size:Nat} {v:Value} {n:Nat} {xs:List Value} (h:w.ownsRow base e size v n xs):∀ k,v.ownBlock=some k→base≤k:=fun k hk=>(h.lt k hk).1
structure Tuo (w:World) (b:Nat) (x y:Value):Prop where
 t:Two w b x y
 f0:w.frozen? ⟨b,0,none⟩=false
 f1:w.frozen? ⟨b,1,none⟩=false
theorem Tuo.keep {w w':World} {b:Nat} {x y:Value} (h:Tuo w b x y) (hb:Below w.heap.size w w'):Tuo w' b x y :=
 ⟨h.t.keep hb,by rw [hb.frozen (p:=⟨b,0,none⟩) h.t.lt];exact h.f0,by rw [hb.frozen (p:=⟨b,1,none⟩) h.t.lt];exact h.f1⟩
theorem Tuo.new (w:World) (x y:Value) (t:TypeId):Tuo (w.alloc (.cells #[x,y] t)) w.heap.size x y :=
 ⟨Two.new (here _),World.frozen?_alloc_new _ _ _ _,World.frozen?_alloc_new _ _ _ _⟩
theorem Tuo.put {w:World} {b:Nat} {x y:Value} (h:Tuo w b x y) (u v:Value):Two ((w.setCell ⟨b,0,none⟩ u).setCell ⟨b,1,none⟩ v) b u v :=
 ⟨by rw [zco (h:=by simp)];exact World.cell?_setCell_same w _ u h.t.c0,World.cell?_setCell_same _ _ v (by rw [zco (h:=by simp)];exact h.t.c1),by rw [size_set,size_set];exact h.t.lt⟩
theorem Tuo.put1 {w:World} {b:Nat} {x y:Value} (h:Tuo w b x y) (v:Value):Tuo (w.setCell ⟨b,1,none⟩ v) b x v :=
 ⟨⟨by rw [zco (h:=by simp)];exact h.t.c0,World.cell?_setCell_same w _ v h.t.c1,by rw [size_set];exact h.t.lt⟩,by rw [World.frozen?_setCell];exact h.f0,by rw [World.frozen?_setCell];exact h.f1⟩
theorem Two.under {w w':World} {B b:Nat} {x y:Value} (h:Two w b x y) (hb:Below B w w') (l:b<B):Two w' b x y:=by
 refine ⟨?_,?_,by have:=hb.size;have:=h.lt;omega⟩
 ·rw [hb.cell (p:=⟨b,0,none⟩) l];exact h.c0
 ·rw [hb.cell (p:=⟨b,1,none⟩) l];exact h.c1
theorem va_at {L:List Sp} (h:vaB L=true) {k:Nat} (hk:k<L.length):-4398046511104≤(L.getD k (0,0)).1∧(L.getD k (0,0)).2≤4398046511104∧(L.getD k (0,0)).1<(L.getD k (0,0)).2:=by
 obtain ⟨-,a,b⟩:=vaB_iff.1 h;have m:L.getD k (0,0)∈L:=by rw [List.getD_eq_getElem?_getD,List.getElem?_eq_getElem hk];exact List.getElem_mem hk
 exact ⟨(a _ m).1,(a _ m).2,b.lt _ m⟩
theorem va_len {L:List Sp} (h:vaB L=true):L.length≤2000:=(vaB_iff.1 h).1
set_option maxRecDepth 100000 in
set_option maxHeartbeats 1000000 in
theorem rnsame (v u:Value) (L M:List Sp) (hn:L.length≤maxLen) (hm:M.length≤maxLen) {base base':Nat} (w:World) (h:PairS base w v L) (h':PairS base' w u M) :
  Calls Tryz.prog 72 #[v,u] w fun e w'=>e=.returned (.bool (decide (L=M)))∧Below w.heap.size w w':=by
 unfold maxLen at hn hm
 obtain ⟨o,c,rfl⟩:=prs_shape h;obtain ⟨o',c',rfl⟩:=prs_shape h';have HP:=zh h;have HQ:=zh h';clear h h';have A0:Hid (Below w.heap.size w w):=here w
 by_cases ln:L.length=M.length
 ·have kl:((L.length:Int) != (M.length:Int))=false:=by rw [bne_eq_false_iff_eq];omega
  have yes:Hid ((∀ j,j<L.length→L.getD j (0,0)=M.getD j (0,0))→decide (L=M)=true):=fun q=>zdt (list_eq_of ln q);have no:Hid (∀ j,j<L.length→¬ L.getD j (0,0)=M.getD j (0,0)→decide (L=M)=false):=fun j hj q=>zdf (fun e=>q (by rw [e]));obtain ⟨n,hl⟩:∃ n,L.length=n:=⟨_,rfl⟩;rw [← ln] at HQ kl ⊢;rw [hl] at hn yes no HP HQ kl ⊢;have hl2:M.length=n:=by omega
  clear ln hm;generalize decide (L=M)=R at *
  go_enter Tryz.func72,Tryz.ntmps72
  go_wp2
  go_loopw [5] (fun i wr=>∃ k:Nat,k≤n∧i=.int .i64 k∧Hid (∀ j,j<k→L.getD j (0,0)=M.getD j (0,0))∧Hid (Below w.heap.size w wr)∧Hid (PairS base wr (.slice o n c) L)∧Hid (PairS base' wr (.slice o' n c') M)) (fun i _=>n - (intOf i).toNat)
  case atStart=>exact ⟨0,Nat.zero_le _,rfl,fun j hj=>absurd hj (Nat.not_lt_zero _),A0,HP,HQ⟩
  case round =>
   obtain ⟨k,hk,rfl,HU,HA,P1,P2⟩:=hrel;clear A0 HP HQ
   by_cases z:k<n
   ·have kz:decide ((k:Int)<(n:Int))=true:=zdt (by omega);obtain ⟨b,off,rfl,bl,cs⟩:=prs_here P1.out (show k<L.length by omega);obtain ⟨c0,c1⟩:=cs k (by omega);obtain ⟨b',off',rfl,bl',cs'⟩:=prs_here P2.out (show k<M.length by omega);obtain ⟨d0,d1⟩:=cs' k (by omega);have on:L.getD k (0,0)=M.getD k (0,0)→Hid (∀ j,j<k+1→L.getD j (0,0)=M.getD j (0,0)):=fun u j hj=>by
     rcases Nat.lt_or_ge j k with y | y
     ·exact HU.out j y
     ·obtain rfl:j=k:=by omega
      exact u
    have off1:=no.out k z;clear cs cs' HU no yes;generalize L.getD k (0,0)=p at *;generalize M.getD k (0,0)=q at *
    by_cases u:p.1=q.1
    ·have ku:(p.1 != q.1)=false:=by rw [bne_eq_false_iff_eq];exact u
     by_cases t:p.2=q.2
     ·have kt:(p.2 != q.2)=false:=by rw [bne_eq_false_iff_eq];exact t
      have HU2:=on (Prod.ext u t);clear on off1 u t;go_wp2
      go_quiet (fail)
      have A2:=zh (below_drewN HA.out nq);have P3:=zh (P1.out.keep (below_drewN (here wr) nq));have P4:=zh (P2.out.keep (below_drewN (here wr) nq));clear HA P1 P2 c0 c1 d0 d1 bl bl';go_wp2
      go_roundw
      case rel=>exact ⟨k+1,by omega,by go_num,HU2,A2,P3,P4⟩
      case measure=>simp [intOf];omega
     ·have kt:(p.2 != q.2)=true:=by rw [bne_iff_ne];exact t
      have r:Hid (R=false):=off1 (fun e=>t (by rw [e]));clear on off1 u t;go_wp2
      go_quiet (fail)
      go_wp2
      go_ret
      exact ⟨by rw [r.out];rfl,below_drewN HA.out _⟩
    ·have ku:(p.1 != q.1)=true:=by rw [bne_iff_ne];exact u
     have r:Hid (R=false):=off1 (fun e=>u (by rw [e]));clear on off1 u;go_wp2
     go_quiet (fail)
     go_wp2
     go_ret
     exact ⟨by rw [r.out];rfl,below_drewN HA.out _⟩
   ·have kz:decide ((k:Int)<(n:Int))=false:=zdf (by omega);obtain rfl:k=n:=by omega
    have r:Hid (R=true):=yes.out (fun j hj=>HU.out j (by omega));clear yes no HU P1 P2;go_wp2
    go_ret
    exact ⟨by rw [r.out];rfl,HA.out⟩
 ·have kl:((L.length:Int) != (M.length:Int))=true:=by rw [bne_iff_ne];omega
  have r:Hid (decide (L=M)=false):=zdf (fun e=>ln (by rw [e]));generalize decide (L=M)=R at *;clear ln
  go_enter Tryz.func72,Tryz.ntmps72
  go_wp2
  go_ret
  exact ⟨by rw [r.out];rfl,A0.out⟩
theorem eqp_len (v1 v2:Option Addr) (n m c1 c2:Nat) (h:¬ n=m) (w:World) :
  Calls Tryz.prog 36 #[.slice v1 n c1,.slice v2 m c2] w fun e w'=>e=.returned (.bool false)∧w=w':=by
 have k:((n:Int) != (m:Int))=true:=by simp;omega
 go_enter Tryz.func36,Tryz.ntmps36
 go_wp2
 go_ret
 exact ⟨rfl,rfl⟩
theorem eqp_zero (v1 v2:Option Addr) (c1 c2:Nat) (w:World) :
  Calls Tryz.prog 36 #[.slice v1 0 c1,.slice v2 0 c2] w fun e w'=>e=.returned (.bool true)∧w=w':=by
 go_enter Tryz.func36,Tryz.ntmps36
 go_wp2
 go_loop [13] (fun a=>a=.int .i64 0) (fun _=>0)
 case atStart=>rfl
 case round =>
  subst hrel;go_wp2
  go_ret
  exact ⟨rfl,rfl⟩
set_option maxHeartbeats 400000 in
theorem eqp_same (zs ys:List (Int × Int)) (n b1 o1 c1 b2 o2 c2:Nat) (l1:zs.length=n) (l2:ys.length=n) (hn:n≤1099511627776) (w:World) (h1:Lies w b1 o1 (pairs zs)) (h2:Lies w b2 o2 (pairs ys)) :
  Calls Tryz.prog 36 #[.slice (some ⟨b1,o1,none⟩) n c1,.slice (some ⟨b2,o2,none⟩) n c2] w fun e w'=>e=.returned (.bool (zs==ys))∧∃ q,w'=w.drewN q:=by
 have C1:=zh (fun j (hj:j<n)=>pairs_at h1 j (by omega));have C2:=zh (fun j (hj:j<n)=>pairs_at h2 j (by omega));have L:Hid (zs.length=ys.length∧zs.length=n):=⟨by omega,l1⟩;clear l1 l2 h1 h2
 go_enter Tryz.func36,Tryz.ntmps36
 go_wp2
 go_loopw [13] (fun a wr=>∃ k q:Nat,k≤n∧a=.int .i64 k∧wr=w.drewN q∧Hid (∀ j,j<k→zs.getD j (0,0)=ys.getD j (0,0))) (fun a _=>n - (intOf a).toNat)
 case atStart=>exact ⟨0,0,Nat.zero_le _,rfl,rfl,fun j hj=>absurd hj (Nat.not_lt_zero _)⟩
 case round =>
  obtain ⟨k,q0,hk,rfl,rfl,HE⟩:=hrel
  by_cases z:k<n
  ·have kz:decide ((k:Int)<(n:Int))=true:=zdt (by omega);obtain ⟨d1,d3⟩:=C1.out k z;obtain ⟨d2,d4⟩:=C2.out k z
   by_cases e:zs.getD k (0,0)=ys.getD k (0,0)
   ·have HE':Hid (∀ j,j<k+1→zs.getD j (0,0)=ys.getD j (0,0)):=fun j hj=>by
     rcases Nat.lt_or_ge j k with c | c
     ·exact HE.out j c
     ·obtain rfl:j=k:=by omega
      exact e
    rw [← e] at d2 d4;clear e HE;generalize zs.getD k (0,0)=x at *;obtain ⟨x,x'⟩:=x;go_wp2
    go_quiet (fail)
    go_wp2
    go_roundw
    case rel=>exact ⟨k+1,_,by omega,by go_num,rfl,HE'⟩
    case measure=>simp [intOf];omega
   ·have hr:Hid ((zs==ys)=false):=by show _=_;rw [beq_eq_false_iff_ne];exact list_ne_of k e
    clear HE;generalize zs.getD k (0,0)=x at *;generalize ys.getD k (0,0)=y at *;obtain ⟨x,x'⟩:=x;obtain ⟨y,y'⟩:=y
    by_cases q:x=y
    ·subst q;have ke:(x'==y')=false:=by rw [beq_eq_false_iff_ne];exact fun r=>e (by rw [r])
     clear e;go_wp2
     go_quiet (fail)
     go_wp2
     go_ret
     exact ⟨by rw [hr.out];rfl,_,World.drewN_drewN _ _ _⟩
    ·have ke:(x==y)=false:=by rw [beq_eq_false_iff_ne];exact q
     clear e;go_wp2
     go_quiet (fail)
     go_wp2
     go_ret
     exact ⟨by rw [hr.out];rfl,_,World.drewN_drewN _ _ _⟩
  ·obtain rfl:k=n:=by omega
   have hr:Hid ((zs==ys)=true):=by show _=_;rw [beq_iff_eq];exact list_eq_of L.out.1 (fun j hj=>HE.out j (by have:=L.out.2;omega))
   have kz:decide ((k:Int)<(k:Int))=false:=zdf (by omega);clear C1 C2 HE L z;go_wp2
   go_ret
   exact ⟨by rw [hr.out];rfl,_,rfl⟩
theorem eq_pairs (zs ys:List (Int × Int)) (v1 v2:Value) (hn:zs.length≤1099511627776) (w:World) {p1 p2:Nat} (h1:PairS p1 w v1 zs) (h2:PairS p2 w v2 ys) :
  Calls Tryz.prog 36 #[v1,v2] w fun e w'=>e=.returned (.bool (zs==ys))∧∃ q,w'=w.drewN q:=by
 have nb:¬ zs.length=ys.length→(zs==ys)=false:=fun h=>by rw [beq_eq_false_iff_ne];exact fun e=>h (by rw [e])
 rcases h1 with ⟨l1,a1,c1,rfl⟩ | ⟨b1,o1,c1,rfl,-,k1⟩
 ·rcases h2 with ⟨l2,a2,c2,rfl⟩ | ⟨b2,o2,c2,rfl,-,k2⟩
  ·rw [show zs=[] from List.eq_nil_of_length_eq_zero l1,show ys=[] from List.eq_nil_of_length_eq_zero l2];exact (eqp_zero a1 a2 c1 c2 w).mono fun _ _ ⟨he,hw⟩=>⟨he,0,hw ▸ rfl⟩
  ·by_cases l2:ys.length=0
   ·rw [l2,show zs=[] from List.eq_nil_of_length_eq_zero l1,show ys=[] from List.eq_nil_of_length_eq_zero l2];exact (eqp_zero a1 _ c1 c2 w).mono fun _ _ ⟨he,hw⟩=>⟨he,0,hw ▸ rfl⟩
   ·rw [nb (by omega)];exact (eqp_len a1 _ 0 ys.length c1 c2 (by omega) w).mono fun _ _ ⟨he,hw⟩=>⟨he,0,hw ▸ rfl⟩
 ·rcases h2 with ⟨l2,a2,c2,rfl⟩ | ⟨b2,o2,c2,rfl,-,k2⟩
  ·by_cases l1:zs.length=0
   ·rw [l1,show zs=[] from List.eq_nil_of_length_eq_zero l1,show ys=[] from List.eq_nil_of_length_eq_zero l2];exact (eqp_zero _ a2 c1 c2 w).mono fun _ _ ⟨he,hw⟩=>⟨he,0,hw ▸ rfl⟩
   ·rw [nb (by omega)];exact (eqp_len _ a2 zs.length 0 c1 c2 l1 w).mono fun _ _ ⟨he,hw⟩=>⟨he,0,hw ▸ rfl⟩
  ·by_cases l:zs.length=ys.length
   ·rw [← l];exact eqp_same zs ys zs.length b1 o1 c1 b2 o2 c2 rfl l.symm hn w k1 k2
   ·rw [nb l];exact (eqp_len _ _ zs.length ys.length c1 c2 l w).mono fun _ _ ⟨he,hw⟩=>⟨he,0,hw ▸ rfl⟩
theorem div_zero (a:Int) (w:World) :
  Calls Tryz.prog 167 #[.int .i64 a,.int .i64 0] w fun e w'=>e=.returned (.tuple #[.int .i64 0,.int .i64 0,.int .i64 10])∧w'=w.drewN 0:=by
 go_enter Tryz.func167,Tryz.ntmps167
 go_wp2
 go_ret3
 exact ⟨rfl,rfl⟩
theorem div_big (w:World) :
  Calls Tryz.prog 167 #[.int .i64 (-9223372036854775808),.int .i64 (-1)] w fun e w'=>e=.returned (.tuple #[.int .i64 0,.int .i64 0,.int .i64 9])∧w'=w.drewN 0:=by
 go_enter Tryz.func167,Tryz.ntmps167
 go_wp2
 go_ret3
 exact ⟨rfl,rfl⟩
set_option maxHeartbeats 400000 in
theorem div_any (a b:Int) (h0:-9223372036854775808≤a) (h1:a≤9223372036854775807) (h2:-9223372036854775808≤b) (h3:b≤9223372036854775807) (hb:b≠0) (hx:¬ (a=-9223372036854775808∧b=-1)) (w:World) :
  Calls Tryz.prog 167 #[.int .i64 a,.int .i64 b] w fun e w'=>e=.returned (.tuple #[.int .i64 (a.fdiv b),.int .i64 (a.fmod b),.int .i64 0])∧∃ n,w'=w.drewN n:=by
 have hz:(b==0)=false:=by simpa using hb
 have hq:=tq_bd h0 h1 hx hb;have hr:=tr_bd (a:=a) hb;have ht:=tq_half (b:=b) h0 h1;have he:=fdm_exact (a:=a) hb;have hs:=fdm_same (a:=a) hb;have ho:=fdm_other (a:=a) hb;obtain ⟨c,hc⟩:∃ c,(a==-9223372036854775808)=c:=⟨_,rfl⟩;obtain ⟨d,hd⟩:∃ d,(b==-1)=d:=⟨_,rfl⟩;have hcd:(c&&d)=false:=by
  subst hc;subst hd;rw [Bool.and_eq_false_iff];simp only [beq_eq_false_iff_ne];omega
 generalize a.fdiv b=Q at *;generalize a.fmod b=R at *;obtain ⟨q,eq⟩:∃ q,a.tdiv b=q:=⟨_,rfl⟩;obtain ⟨r,er⟩:∃ r,a.tmod b=r:=⟨_,rfl⟩;rw [eq] at hq he hs ho ht;rw [er] at hr he hs ho ht;obtain ⟨hq0,hq1⟩:=hq;obtain ⟨hr0,-,-⟩:=hr;have hr2:-9223372036854775808≤r:=by omega
 have hr3:r≤9223372036854775807:=by omega
 have g:Q=q∧R=r∧r=0∨Q=q∧R=r∧(0<r∧0<b∨r<0∧b<0)∨Q=q - 1∧R=r+b∧(0<r∧b<0∨r<0∧0<b):=by
  by_cases z:r=0
  ·left;have:=he z;omega
  ·by_cases z':0<r∧0<b∨r<0∧b<0
   ·right;left;have:=hs z';omega
   ·right;right;have z2:0<r∧b<0∨r<0∧0<b:=by omega
    have:=ho z2;omega
 clear he hs ho
 rcases g with ⟨rfl,rfl,rfl⟩ | ⟨rfl,rfl,g⟩ | ⟨rfl,rfl,g⟩
 ·clear ht
  cases c <;> cases d <;> (try cases hcd) <;> (go_enter Tryz.func167,Tryz.ntmps167;go_wp2;go_quiet (fail);go_wp2;go_ret3;exact ⟨rfl,_,rfl⟩)
 ·clear ht
  rcases g with ⟨g1,g2⟩ | ⟨g1,g2⟩
  ·have k1:decide (R<0)=false:=by simp;omega
   have k2:decide (b<0)=false:=by simp;omega
   have k3:(R != 0)=true:=by simp;omega
   cases c <;> cases d <;> (try cases hcd) <;> (go_enter Tryz.func167,Tryz.ntmps167;go_wp2;go_quiet (fail);go_wp2;go_ret3;exact ⟨rfl,_,rfl⟩)
  ·have k1:decide (R<0)=true:=by simp;omega
   have k2:decide (b<0)=true:=by simp;omega
   have k3:(R != 0)=true:=by simp;omega
   cases c <;> cases d <;> (try cases hcd) <;> (go_enter Tryz.func167,Tryz.ntmps167;go_wp2;go_quiet (fail);go_wp2;go_ret3;exact ⟨rfl,_,rfl⟩)
 ·obtain ⟨t1,t2⟩:=ht (by omega);clear ht
  rcases g with ⟨g1,g2⟩ | ⟨g1,g2⟩
  ·have k1:decide (r<0)=false:=by simp;omega
   have k2:decide (b<0)=true:=by simp;omega
   have k3:(r != 0)=true:=by simp;omega
   cases c <;> cases d <;> (try cases hcd) <;> (go_enter Tryz.func167,Tryz.ntmps167;go_wp2;go_quiet (fail);go_wp2;go_ret3;exact ⟨rfl,_,rfl⟩)
  ·have k1:decide (r<0)=true:=by simp;omega
   have k2:decide (b<0)=false:=by simp;omega
   have k3:(r != 0)=true:=by simp;omega
   cases c <;> cases d <;> (try cases hcd) <;> (go_enter Tryz.func167,Tryz.ntmps167;go_wp2;go_quiet (fail);go_wp2;go_ret3;exact ⟨rfl,_,rfl⟩)
theorem div_all (a b:Int) (h0:-9223372036854775808≤a) (h1:a≤9223372036854775807) (h2:-9223372036854775808≤b) (h3:b≤9223372036854775807) (w:World) :
  Calls Tryz.prog 167 #[.int .i64 a,.int .i64 b] w fun e w'=>e=.returned (.tuple #[.int .i64 (dQ a b),.int .i64 (dR a b),.int .i64 (dE a b)])∧∃ n,w'=w.drewN n:=by
 by_cases hb:b=0
 ·subst hb;refine (div_zero a w).mono fun e w' ⟨he,hw⟩=>⟨?_,0,hw⟩;rw [he];unfold dQ dR dE;simp
 ·by_cases hx:a=-9223372036854775808∧b=-1
  ·obtain ⟨rfl,rfl⟩:=hx;refine (div_big w).mono fun e w' ⟨he,hw⟩=>⟨?_,0,hw⟩;rw [he];unfold dQ dR dE;simp
  ·refine (div_any a b h0 h1 h2 h3 hb hx w).mono fun e w' ⟨he,hw⟩=>⟨?_,hw⟩;rw [he];unfold dQ dR dE;simp [hb,hx]
theorem mod_all (a b:Int) (h0:-9223372036854775808≤a) (h1:a≤9223372036854775807) (h2:-9223372036854775808≤b) (h3:b≤9223372036854775807) (w:World) :
  Calls Tryz.prog 136 #[.int .i64 a,.int .i64 b] w fun e w'=>e=.returned (.int .i64 (dR a b))∧∃ n,w'=w.drewN n:=by
 go_enter Tryz.func136,Tryz.ntmps136
 go_wp2_with (go_at_call 167;refine (div_all _ _ h0 h1 h2 h3 _).mono ?_;rintro e w' ⟨rfl,n,rfl⟩)
 go_ret
 exact ⟨rfl,_,rfl⟩
theorem floor_all (a b:Int) (h0:-9223372036854775808≤a) (h1:a≤9223372036854775807) (h2:-9223372036854775808≤b) (h3:b≤9223372036854775807) (w:World) :
  Calls Tryz.prog 196 #[.int .i64 a,.int .i64 b] w fun e w'=>e=.returned (.int .i64 (dQ a b))∧∃ n,w'=w.drewN n:=by
 go_enter Tryz.func196,Tryz.ntmps196
 go_wp2_with (go_at_call 167;refine (div_all _ _ h0 h1 h2 h3 _).mono ?_;rintro e w' ⟨rfl,n,rfl⟩)
 go_ret
 exact ⟨rfl,_,rfl⟩
theorem iuvalid (a b:Int) (ha:I64 a) (hb:I64 b) (w:World) :
  Calls Tryz.prog 75 #[.agg #[.int .i64 a,.int .i64 b]] w fun e w'=>e=.returned (.bool (ivB a b))∧Below w.heap.size w w':=by
 have e:ivB a b=(decide (-4398046511104≤a)&&decide (a<b)&&decide (b≤4398046511104)):=by
  unfold ivB
  rw [Bool.eq_iff_iff];simp only [Bool.and_eq_true,decide_eq_true_eq];omega
 rw [e];clear e;obtain ⟨x0,x1,xlt⟩:=Two.new (here (w.alloc (.cells #[.int .i64 a,.int .i64 b] 40)));obtain ⟨a0,a1⟩:=ha;obtain ⟨b0,b1⟩:=hb
 cases p:decide (-4398046511104≤a) <;> cases q:decide (a<b) <;> cases r:decide (b≤4398046511104)
 all_goals
  go_enter Tryz.func75,Tryz.ntmps75
  go_wp2
  go_ret
  exact ⟨rfl,grow (here w) _⟩
structure Bxs (w:World) (b:Nat) (us:List Value):Prop where
 c:∀ (i:Nat) (u:Value),us[i]?=some u→w.cell? ⟨b,i,none⟩=some u
 lt:b<w.heap.size
theorem Bxs.keep {w w':World} {b:Nat} {us:List Value} (h:Bxs w b us) (hb:Below w.heap.size w w'):Bxs w' b us :=
 ⟨fun i u e=>by rw [hb.cell (p:=⟨b,i,none⟩) h.lt];exact h.c i u e,by have:=hb.size;have:=h.lt;omega⟩
theorem Bxs.new {w:World} (us:List Value) (t:TypeId):Bxs (w.alloc (.cells us.toArray t)) w.heap.size us :=
 ⟨fun i u e=>by rw [World.cell?_alloc_new];simpa using e,by simp⟩
structure Bxo (w:World) (b:Nat) (us:List Value):Prop where
 t:Bxs w b us
 f:∀ i,w.frozen? ⟨b,i,none⟩=false
theorem Bxo.keep {w w':World} {b:Nat} {us:List Value} (h:Bxo w b us) (hb:Below w.heap.size w w'):Bxo w' b us :=
 ⟨h.t.keep hb,fun i=>by rw [hb.frozen (p:=⟨b,i,none⟩) h.t.lt];exact h.f i⟩
theorem Bxo.new {w:World} (us:List Value) (t:TypeId):Bxo (w.alloc (.cells us.toArray t)) w.heap.size us :=
 ⟨Bxs.new us t,fun i=>World.frozen?_alloc_new _ _ _ _⟩
theorem Bxo.set {w:World} {b:Nat} {us:List Value} (h:Bxo w b us) {j:Nat} (hj:j<us.length) (v:Value):Bxo (w.setCell ⟨b,j,none⟩ v) b (us.set j v):=by
 refine ⟨⟨fun i u e=>?_,by rw [size_set];exact h.t.lt⟩,fun i=>by rw [World.frozen?_setCell];exact h.f i⟩
 by_cases z:i=j
 ·subst z;rw [List.getElem?_set_self hj] at e
  injection e with e
  subst e;exact World.cell?_setCell_same w _ _ (h.t.c i _ (List.getElem?_eq_getElem hj))
 ·rw [List.getElem?_set_ne (by omega)] at e;rw [zco (h:=by intro h;first | exact z (congrArg Addr.off h) | exact z (congrArg Addr.off h).symm)];exact h.t.c i u e
theorem Bxs.z1 {w : World} {b : Nat} {u0 : Value} (h : Bxs w b [u0]) : w.cell? ⟨b, 0, none⟩ = some u0 ∧ b < w.heap.size := ⟨h.c 0 _ rfl, h.lt⟩
theorem Bxo.z1 {w : World} {b : Nat} {u0 : Value} (h : Bxo w b [u0]) : w.cell? ⟨b, 0, none⟩ = some u0 ∧ w.frozen? ⟨b, 0, none⟩ = false ∧ b < w.heap.size := ⟨h.t.c 0 _ rfl, h.f 0, h.t.lt⟩
theorem Bxs.z2 {w : World} {b : Nat} {u0 u1 : Value} (h : Bxs w b [u0, u1]) : w.cell? ⟨b, 0, none⟩ = some u0 ∧ w.cell? ⟨b, 1, none⟩ = some u1 ∧ b < w.heap.size := ⟨h.c 0 _ rfl, h.c 1 _ rfl, h.lt⟩
theorem Bxo.z2 {w : World} {b : Nat} {u0 u1 : Value} (h : Bxo w b [u0, u1]) : w.cell? ⟨b, 0, none⟩ = some u0 ∧ w.frozen? ⟨b, 0, none⟩ = false ∧ w.cell? ⟨b, 1, none⟩ = some u1 ∧ w.frozen? ⟨b, 1, none⟩ = false ∧ b < w.heap.size := ⟨h.t.c 0 _ rfl, h.f 0, h.t.c 1 _ rfl, h.f 1, h.t.lt⟩
theorem Bxs.z3 {w : World} {b : Nat} {u0 u1 u2 : Value} (h : Bxs w b [u0, u1, u2]) : w.cell? ⟨b, 0, none⟩ = some u0 ∧ w.cell? ⟨b, 1, none⟩ = some u1 ∧ w.cell? ⟨b, 2, none⟩ = some u2 ∧ b < w.heap.size := ⟨h.c 0 _ rfl, h.c 1 _ rfl, h.c 2 _ rfl, h.lt⟩
theorem Bxo.z3 {w : World} {b : Nat} {u0 u1 u2 : Value} (h : Bxo w b [u0, u1, u2]) : w.cell? ⟨b, 0, none⟩ = some u0 ∧ w.frozen? ⟨b, 0, none⟩ = false ∧ w.cell? ⟨b, 1, none⟩ = some u1 ∧ w.frozen? ⟨b, 1, none⟩ = false ∧ w.cell? ⟨b, 2, none⟩ = some u2 ∧ w.frozen? ⟨b, 2, none⟩ = false ∧ b < w.heap.size := ⟨h.t.c 0 _ rfl, h.f 0, h.t.c 1 _ rfl, h.f 1, h.t.c 2 _ rfl, h.f 2, h.t.lt⟩
theorem Bxs.z4 {w : World} {b : Nat} {u0 u1 u2 u3 : Value} (h : Bxs w b [u0, u1, u2, u3]) : w.cell? ⟨b, 0, none⟩ = some u0 ∧ w.cell? ⟨b, 1, none⟩ = some u1 ∧ w.cell? ⟨b, 2, none⟩ = some u2 ∧ w.cell? ⟨b, 3, none⟩ = some u3 ∧ b < w.heap.size := ⟨h.c 0 _ rfl, h.c 1 _ rfl, h.c 2 _ rfl, h.c 3 _ rfl, h.lt⟩
theorem Bxo.z4 {w : World} {b : Nat} {u0 u1 u2 u3 : Value} (h : Bxo w b [u0, u1, u2, u3]) : w.cell? ⟨b, 0, none⟩ = some u0 ∧ w.frozen? ⟨b, 0, none⟩ = false ∧ w.cell? ⟨b, 1, none⟩ = some u1 ∧ w.frozen? ⟨b, 1, none⟩ = false ∧ w.cell? ⟨b, 2, none⟩ = some u2 ∧ w.frozen? ⟨b, 2, none⟩ = false ∧ w.cell? ⟨b, 3, none⟩ = some u3 ∧ w.frozen? ⟨b, 3, none⟩ = false ∧ b < w.heap.size := ⟨h.t.c 0 _ rfl, h.f 0, h.t.c 1 _ rfl, h.f 1, h.t.c 2 _ rfl, h.f 2, h.t.c 3 _ rfl, h.f 3, h.t.lt⟩
theorem Bxs.z5 {w : World} {b : Nat} {u0 u1 u2 u3 u4 : Value} (h : Bxs w b [u0, u1, u2, u3, u4]) : w.cell? ⟨b, 0, none⟩ = some u0 ∧ w.cell? ⟨b, 1, none⟩ = some u1 ∧ w.cell? ⟨b, 2, none⟩ = some u2 ∧ w.cell? ⟨b, 3, none⟩ = some u3 ∧ w.cell? ⟨b, 4, none⟩ = some u4 ∧ b < w.heap.size := ⟨h.c 0 _ rfl, h.c 1 _ rfl, h.c 2 _ rfl, h.c 3 _ rfl, h.c 4 _ rfl, h.lt⟩
theorem Bxo.z5 {w : World} {b : Nat} {u0 u1 u2 u3 u4 : Value} (h : Bxo w b [u0, u1, u2, u3, u4]) : w.cell? ⟨b, 0, none⟩ = some u0 ∧ w.frozen? ⟨b, 0, none⟩ = false ∧ w.cell? ⟨b, 1, none⟩ = some u1 ∧ w.frozen? ⟨b, 1, none⟩ = false ∧ w.cell? ⟨b, 2, none⟩ = some u2 ∧ w.frozen? ⟨b, 2, none⟩ = false ∧ w.cell? ⟨b, 3, none⟩ = some u3 ∧ w.frozen? ⟨b, 3, none⟩ = false ∧ w.cell? ⟨b, 4, none⟩ = some u4 ∧ w.frozen? ⟨b, 4, none⟩ = false ∧ b < w.heap.size := ⟨h.t.c 0 _ rfl, h.f 0, h.t.c 1 _ rfl, h.f 1, h.t.c 2 _ rfl, h.f 2, h.t.c 3 _ rfl, h.f 3, h.t.c 4 _ rfl, h.f 4, h.t.lt⟩
theorem Bxs.z6 {w : World} {b : Nat} {u0 u1 u2 u3 u4 u5 : Value} (h : Bxs w b [u0, u1, u2, u3, u4, u5]) : w.cell? ⟨b, 0, none⟩ = some u0 ∧ w.cell? ⟨b, 1, none⟩ = some u1 ∧ w.cell? ⟨b, 2, none⟩ = some u2 ∧ w.cell? ⟨b, 3, none⟩ = some u3 ∧ w.cell? ⟨b, 4, none⟩ = some u4 ∧ w.cell? ⟨b, 5, none⟩ = some u5 ∧ b < w.heap.size := ⟨h.c 0 _ rfl, h.c 1 _ rfl, h.c 2 _ rfl, h.c 3 _ rfl, h.c 4 _ rfl, h.c 5 _ rfl, h.lt⟩
theorem Bxo.z6 {w : World} {b : Nat} {u0 u1 u2 u3 u4 u5 : Value} (h : Bxo w b [u0, u1, u2, u3, u4, u5]) : w.cell? ⟨b, 0, none⟩ = some u0 ∧ w.frozen? ⟨b, 0, none⟩ = false ∧ w.cell? ⟨b, 1, none⟩ = some u1 ∧ w.frozen? ⟨b, 1, none⟩ = false ∧ w.cell? ⟨b, 2, none⟩ = some u2 ∧ w.frozen? ⟨b, 2, none⟩ = false ∧ w.cell? ⟨b, 3, none⟩ = some u3 ∧ w.frozen? ⟨b, 3, none⟩ = false ∧ w.cell? ⟨b, 4, none⟩ = some u4 ∧ w.frozen? ⟨b, 4, none⟩ = false ∧ w.cell? ⟨b, 5, none⟩ = some u5 ∧ w.frozen? ⟨b, 5, none⟩ = false ∧ b < w.heap.size := ⟨h.t.c 0 _ rfl, h.f 0, h.t.c 1 _ rfl, h.f 1, h.t.c 2 _ rfl, h.f 2, h.t.c 3 _ rfl, h.f 3, h.t.c 4 _ rfl, h.f 4, h.t.c 5 _ rfl, h.f 5, h.t.lt⟩
theorem Bxs.z7 {w : World} {b : Nat} {u0 u1 u2 u3 u4 u5 u6 : Value} (h : Bxs w b [u0, u1, u2, u3, u4, u5, u6]) : w.cell? ⟨b, 0, none⟩ = some u0 ∧ w.cell? ⟨b, 1, none⟩ = some u1 ∧ w.cell? ⟨b, 2, none⟩ = some u2 ∧ w.cell? ⟨b, 3, none⟩ = some u3 ∧ w.cell? ⟨b, 4, none⟩ = some u4 ∧ w.cell? ⟨b, 5, none⟩ = some u5 ∧ w.cell? ⟨b, 6, none⟩ = some u6 ∧ b < w.heap.size := ⟨h.c 0 _ rfl, h.c 1 _ rfl, h.c 2 _ rfl, h.c 3 _ rfl, h.c 4 _ rfl, h.c 5 _ rfl, h.c 6 _ rfl, h.lt⟩
theorem Bxo.z7 {w : World} {b : Nat} {u0 u1 u2 u3 u4 u5 u6 : Value} (h : Bxo w b [u0, u1, u2, u3, u4, u5, u6]) : w.cell? ⟨b, 0, none⟩ = some u0 ∧ w.frozen? ⟨b, 0, none⟩ = false ∧ w.cell? ⟨b, 1, none⟩ = some u1 ∧ w.frozen? ⟨b, 1, none⟩ = false ∧ w.cell? ⟨b, 2, none⟩ = some u2 ∧ w.frozen? ⟨b, 2, none⟩ = false ∧ w.cell? ⟨b, 3, none⟩ = some u3 ∧ w.frozen? ⟨b, 3, none⟩ = false ∧ w.cell? ⟨b, 4, none⟩ = some u4 ∧ w.frozen? ⟨b, 4, none⟩ = false ∧ w.cell? ⟨b, 5, none⟩ = some u5 ∧ w.frozen? ⟨b, 5, none⟩ = false ∧ w.cell? ⟨b, 6, none⟩ = some u6 ∧ w.frozen? ⟨b, 6, none⟩ = false ∧ b < w.heap.size := ⟨h.t.c 0 _ rfl, h.f 0, h.t.c 1 _ rfl, h.f 1, h.t.c 2 _ rfl, h.f 2, h.t.c 3 _ rfl, h.f 3, h.t.c 4 _ rfl, h.f 4, h.t.c 5 _ rfl, h.f 5, h.t.c 6 _ rfl, h.f 6, h.t.lt⟩
theorem Bxs.z8 {w : World} {b : Nat} {u0 u1 u2 u3 u4 u5 u6 u7 : Value} (h : Bxs w b [u0, u1, u2, u3, u4, u5, u6, u7]) : w.cell? ⟨b, 0, none⟩ = some u0 ∧ w.cell? ⟨b, 1, none⟩ = some u1 ∧ w.cell? ⟨b, 2, none⟩ = some u2 ∧ w.cell? ⟨b, 3, none⟩ = some u3 ∧ w.cell? ⟨b, 4, none⟩ = some u4 ∧ w.cell? ⟨b, 5, none⟩ = some u5 ∧ w.cell? ⟨b, 6, none⟩ = some u6 ∧ w.cell? ⟨b, 7, none⟩ = some u7 ∧ b < w.heap.size := ⟨h.c 0 _ rfl, h.c 1 _ rfl, h.c 2 _ rfl, h.c 3 _ rfl, h.c 4 _ rfl, h.c 5 _ rfl, h.c 6 _ rfl, h.c 7 _ rfl, h.lt⟩
theorem Bxo.z8 {w : World} {b : Nat} {u0 u1 u2 u3 u4 u5 u6 u7 : Value} (h : Bxo w b [u0, u1, u2, u3, u4, u5, u6, u7]) : w.cell? ⟨b, 0, none⟩ = some u0 ∧ w.frozen? ⟨b, 0, none⟩ = false ∧ w.cell? ⟨b, 1, none⟩ = some u1 ∧ w.frozen? ⟨b, 1, none⟩ = false ∧ w.cell? ⟨b, 2, none⟩ = some u2 ∧ w.frozen? ⟨b, 2, none⟩ = false ∧ w.cell? ⟨b, 3, none⟩ = some u3 ∧ w.frozen? ⟨b, 3, none⟩ = false ∧ w.cell? ⟨b, 4, none⟩ = some u4 ∧ w.frozen? ⟨b, 4, none⟩ = false ∧ w.cell? ⟨b, 5, none⟩ = some u5 ∧ w.frozen? ⟨b, 5, none⟩ = false ∧ w.cell? ⟨b, 6, none⟩ = some u6 ∧ w.frozen? ⟨b, 6, none⟩ = false ∧ w.cell? ⟨b, 7, none⟩ = some u7 ∧ w.frozen? ⟨b, 7, none⟩ = false ∧ b < w.heap.size := ⟨h.t.c 0 _ rfl, h.f 0, h.t.c 1 _ rfl, h.f 1, h.t.c 2 _ rfl, h.f 2, h.t.c 3 _ rfl, h.f 3, h.t.c 4 _ rfl, h.f 4, h.t.c 5 _ rfl, h.f 5, h.t.c 6 _ rfl, h.f 6, h.t.c 7 _ rfl, h.f 7, h.t.lt⟩
theorem Bxs.z9 {w : World} {b : Nat} {u0 u1 u2 u3 u4 u5 u6 u7 u8 : Value} (h : Bxs w b [u0, u1, u2, u3, u4, u5, u6, u7, u8]) : w.cell? ⟨b, 0, none⟩ = some u0 ∧ w.cell? ⟨b, 1, none⟩ = some u1 ∧ w.cell? ⟨b, 2, none⟩ = some u2 ∧ w.cell? ⟨b, 3, none⟩ = some u3 ∧ w.cell? ⟨b, 4, none⟩ = some u4 ∧ w.cell? ⟨b, 5, none⟩ = some u5 ∧ w.cell? ⟨b, 6, none⟩ = some u6 ∧ w.cell? ⟨b, 7, none⟩ = some u7 ∧ w.cell? ⟨b, 8, none⟩ = some u8 ∧ b < w.heap.size := ⟨h.c 0 _ rfl, h.c 1 _ rfl, h.c 2 _ rfl, h.c 3 _ rfl, h.c 4 _ rfl, h.c 5 _ rfl, h.c 6 _ rfl, h.c 7 _ rfl, h.c 8 _ rfl, h.lt⟩
theorem Bxo.z9 {w : World} {b : Nat} {u0 u1 u2 u3 u4 u5 u6 u7 u8 : Value} (h : Bxo w b [u0, u1, u2, u3, u4, u5, u6, u7, u8]) : w.cell? ⟨b, 0, none⟩ = some u0 ∧ w.frozen? ⟨b, 0, none⟩ = false ∧ w.cell? ⟨b, 1, none⟩ = some u1 ∧ w.frozen? ⟨b, 1, none⟩ = false ∧ w.cell? ⟨b, 2, none⟩ = some u2 ∧ w.frozen? ⟨b, 2, none⟩ = false ∧ w.cell? ⟨b, 3, none⟩ = some u3 ∧ w.frozen? ⟨b, 3, none⟩ = false ∧ w.cell? ⟨b, 4, none⟩ = some u4 ∧ w.frozen? ⟨b, 4, none⟩ = false ∧ w.cell? ⟨b, 5, none⟩ = some u5 ∧ w.frozen? ⟨b, 5, none⟩ = false ∧ w.cell? ⟨b, 6, none⟩ = some u6 ∧ w.frozen? ⟨b, 6, none⟩ = false ∧ w.cell? ⟨b, 7, none⟩ = some u7 ∧ w.frozen? ⟨b, 7, none⟩ = false ∧ w.cell? ⟨b, 8, none⟩ = some u8 ∧ w.frozen? ⟨b, 8, none⟩ = false ∧ b < w.heap.size := ⟨h.t.c 0 _ rfl, h.f 0, h.t.c 1 _ rfl, h.f 1, h.t.c 2 _ rfl, h.f 2, h.t.c 3 _ rfl, h.f 3, h.t.c 4 _ rfl, h.f 4, h.t.c 5 _ rfl, h.f 5, h.t.c 6 _ rfl, h.f 6, h.t.c 7 _ rfl, h.f 7, h.t.c 8 _ rfl, h.f 8, h.t.lt⟩
theorem Bxs.k1 {C : Prop} {w : World} {b : Nat} {u0 : Value} (h : Bxs w b [u0]) (k : w.cell? ⟨b, 0, none⟩ = some u0 → b < w.heap.size → C) : C := k (h.c 0 _ rfl) h.lt
theorem Bxo.k1 {C : Prop} {w : World} {b : Nat} {u0 : Value} (h : Bxo w b [u0]) (k : w.cell? ⟨b, 0, none⟩ = some u0 → w.frozen? ⟨b, 0, none⟩ = false → b < w.heap.size → C) : C := k (h.t.c 0 _ rfl) (h.f 0) h.t.lt
theorem Bxs.k2 {C : Prop} {w : World} {b : Nat} {u0 u1 : Value} (h : Bxs w b [u0, u1]) (k : w.cell? ⟨b, 0, none⟩ = some u0 → w.cell? ⟨b, 1, none⟩ = some u1 → b < w.heap.size → C) : C := k (h.c 0 _ rfl) (h.c 1 _ rfl) h.lt
theorem Bxo.k2 {C : Prop} {w : World} {b : Nat} {u0 u1 : Value} (h : Bxo w b [u0, u1]) (k : w.cell? ⟨b, 0, none⟩ = some u0 → w.frozen? ⟨b, 0, none⟩ = false → w.cell? ⟨b, 1, none⟩ = some u1 → w.frozen? ⟨b, 1, none⟩ = false → b < w.heap.size → C) : C := k (h.t.c 0 _ rfl) (h.f 0) (h.t.c 1 _ rfl) (h.f 1) h.t.lt
theorem Bxs.k3 {C : Prop} {w : World} {b : Nat} {u0 u1 u2 : Value} (h : Bxs w b [u0, u1, u2]) (k : w.cell? ⟨b, 0, none⟩ = some u0 → w.cell? ⟨b, 1, none⟩ = some u1 → w.cell? ⟨b, 2, none⟩ = some u2 → b < w.heap.size → C) : C := k (h.c 0 _ rfl) (h.c 1 _ rfl) (h.c 2 _ rfl) h.lt
theorem Bxo.k3 {C : Prop} {w : World} {b : Nat} {u0 u1 u2 : Value} (h : Bxo w b [u0, u1, u2]) (k : w.cell? ⟨b, 0, none⟩ = some u0 → w.frozen? ⟨b, 0, none⟩ = false → w.cell? ⟨b, 1, none⟩ = some u1 → w.frozen? ⟨b, 1, none⟩ = false → w.cell? ⟨b, 2, none⟩ = some u2 → w.frozen? ⟨b, 2, none⟩ = false → b < w.heap.size → C) : C := k (h.t.c 0 _ rfl) (h.f 0) (h.t.c 1 _ rfl) (h.f 1) (h.t.c 2 _ rfl) (h.f 2) h.t.lt
theorem Bxs.k7 {C : Prop} {w : World} {b : Nat} {u0 u1 u2 u3 u4 u5 u6 : Value} (h : Bxs w b [u0, u1, u2, u3, u4, u5, u6]) (k : w.cell? ⟨b, 0, none⟩ = some u0 → w.cell? ⟨b, 1, none⟩ = some u1 → w.cell? ⟨b, 2, none⟩ = some u2 → w.cell? ⟨b, 3, none⟩ = some u3 → w.cell? ⟨b, 4, none⟩ = some u4 → w.cell? ⟨b, 5, none⟩ = some u5 → w.cell? ⟨b, 6, none⟩ = some u6 → b < w.heap.size → C) : C := k (h.c 0 _ rfl) (h.c 1 _ rfl) (h.c 2 _ rfl) (h.c 3 _ rfl) (h.c 4 _ rfl) (h.c 5 _ rfl) (h.c 6 _ rfl) h.lt
theorem Bxo.k7 {C : Prop} {w : World} {b : Nat} {u0 u1 u2 u3 u4 u5 u6 : Value} (h : Bxo w b [u0, u1, u2, u3, u4, u5, u6]) (k : w.cell? ⟨b, 0, none⟩ = some u0 → w.frozen? ⟨b, 0, none⟩ = false → w.cell? ⟨b, 1, none⟩ = some u1 → w.frozen? ⟨b, 1, none⟩ = false → w.cell? ⟨b, 2, none⟩ = some u2 → w.frozen? ⟨b, 2, none⟩ = false → w.cell? ⟨b, 3, none⟩ = some u3 → w.frozen? ⟨b, 3, none⟩ = false → w.cell? ⟨b, 4, none⟩ = some u4 → w.frozen? ⟨b, 4, none⟩ = false → w.cell? ⟨b, 5, none⟩ = some u5 → w.frozen? ⟨b, 5, none⟩ = false → w.cell? ⟨b, 6, none⟩ = some u6 → w.frozen? ⟨b, 6, none⟩ = false → b < w.heap.size → C) : C := k (h.t.c 0 _ rfl) (h.f 0) (h.t.c 1 _ rfl) (h.f 1) (h.t.c 2 _ rfl) (h.f 2) (h.t.c 3 _ rfl) (h.f 3) (h.t.c 4 _ rfl) (h.f 4) (h.t.c 5 _ rfl) (h.f 5) (h.t.c 6 _ rfl) (h.f 6) h.t.lt
end Go.Proofs.YtmamlgaogpkagaaGreat
