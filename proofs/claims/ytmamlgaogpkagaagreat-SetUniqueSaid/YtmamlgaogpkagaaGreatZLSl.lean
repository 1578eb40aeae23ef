/- LSl RnR LRefI. -/
import Derived.Test.YtmamlgaogpkagaaGreatZLPlain
import Derived.Test.YtmamlgaogpkagaaGreatZLGen
import Derived.Test.YtmamlgaogpkagaaGreatProg
import Derived.WalkKit
import Derived.Outline
import Derived.BigQuiet
import Derived.Deep.QuietTactic
import Derived.OwnWalk
namespace Go.Proofs.YtmamlgaogpkagaaGreat
open Go.RowKit
set_option linter.unusedVariables false
set_option linter.unusedSimpArgs false
structure Lies (w:World) (b off:Nat) (xs:List Value):Prop where
 lt:b<w.heap.size
 cell:∀ (j:Nat) (u:Value),xs[j]?=some u→w.cell? ⟨b,off+j,none⟩=some u
theorem Lies.keep {w w':World} {b off:Nat} {xs:List Value} (h:Lies w b off xs) (hb:Below w.heap.size w w'):Lies w' b off xs:=by
 have l:=h.lt;refine ⟨by have:=hb.size;omega,fun j u hj=>?_⟩;rw [hb.cell (p:=⟨b,off+j,none⟩) l];exact h.cell j u hj
def Sl (base:Nat) (w:World) (v:Value) (n:Nat) (xs:List Value):Prop :=
 (n=0∧∃ ao c,v=.slice ao 0 c)∨∃ b off c,v=.slice (some ⟨b,off,none⟩) n c∧base≤b∧Lies w b off xs
theorem Sl.keep {base:Nat} {w w':World} {v:Value} {n:Nat} {xs:List Value} (h:Sl base w v n xs) (hb:Below w.heap.size w w'):Sl base w' v n xs:=by
 rcases h with h | ⟨b,off,c,h,l,k⟩
 ·exact .inl h
 ·exact .inr ⟨b,off,c,h,l,k.keep hb⟩
theorem Sl.weak {base base':Nat} {w:World} {v:Value} {n:Nat} {xs:List Value} (h:Sl base w v n xs) (hb:base'≤base):Sl base' w v n xs:=by
 rcases h with h | ⟨b,off,c,h,l,k⟩
 ·exact .inl h
 ·exact .inr ⟨b,off,c,h,Nat.le_trans hb l,k⟩
theorem Sl.far {base:Nat} {w:World} {v:Value} {n:Nat} {xs:List Value} (h:Sl base w v n xs) {b' o:Nat} (hb:b'<base) (u:Value):Sl base (w.setCell ⟨b',o,none⟩ u) v n xs:=by
 rcases h with h | ⟨b,off,c,h,l,k⟩
 ·exact .inl h
 ·refine .inr ⟨b,off,c,h,l,by rw [size_set];exact k.lt,fun j x hj=>?_⟩;rw [zco (h:=fun e=>by have:=congrArg Addr.block e;simp at this;omega)];exact k.cell j x hj
theorem Sl.none (base:Nat) (w:World):Sl base w (.slice none 0 0) 0 []:=.inl ⟨rfl,_,_,rfl⟩
theorem Sl.shape {base:Nat} {w:World} {v:Value} {n:Nat} {xs:List Value} (h:Sl base w v n xs):∃ ao c,v=.slice ao n c:=by
 rcases h with ⟨rfl,a,c,rfl⟩ | ⟨b,o,c,rfl,-⟩ <;> exact ⟨_,_,rfl⟩
theorem Sl.owns {w:World} {base:Nat} {e:TypeId} {size:Nat} {v:Value} {n:Nat} {xs:List Value} (h:w.ownsRow base e size v n xs):Sl base w v n xs:=by
 rcases h.2 with ⟨rfl,rfl⟩ | ⟨g,cap,cur,rfl,hb,hh,-,-,-,hx⟩
 ·exact .inl ⟨rfl,_,_,rfl⟩
 ·refine .inr ⟨g,0,cap,rfl,hb,?_,fun j u hj=>?_⟩
  ·exact (h.lt g rfl).2
  ·have:=h.cells (g:=g) rfl j u hj;rw [Addr.add_lit,Nat.zero_add] at this;rw [Nat.zero_add];exact this
abbrev ints (zs:List Int):List Value:=zs.map (Value.int .i64)
def IntS (base:Nat) (w:World) (v:Value) (zs:List Int):Prop:=Sl base w v zs.length (ints zs)
def pairs:List (Int × Int)→List Value
 | []=>[]
 | p :: l=>.int .i64 p.1 :: .int .i64 p.2 :: pairs l
def PairS (base:Nat) (w:World) (v:Value) (ps:List (Int × Int)):Prop:=Sl base w v ps.length (pairs ps)
theorem IntS.keep {base:Nat} {w w':World} {v:Value} {zs:List Int} (h:IntS base w v zs) (hb:Below w.heap.size w w'):IntS base w' v zs:=Sl.keep h hb
theorem PairS.keep {base:Nat} {w w':World} {v:Value} {ps:List (Int × Int)} (h:PairS base w v ps) (hb:Below w.heap.size w w'):PairS base w' v ps:=Sl.keep h hb
theorem ints_at {w:World} {b off:Nat} {zs:List Int} (h:Lies w b off (ints zs)) (j:Nat) (hj:j<zs.length):w.cell? ⟨b,off+j,none⟩=some (.int .i64 (zs.getD j 0)):=by
 refine h.cell j _ ?_
 simp [ints,List.getD_eq_getElem?_getD,hj]
theorem pairs_length (ps:List (Int × Int)):(pairs ps).length=ps.length * 2:=by
 induction ps with
 | nil=>rfl
 | cons p l ih=>simp [pairs,ih];omega
theorem pairs_append (a b:List (Int × Int)):pairs (a++b)=pairs a++pairs b:=by
 induction a with
 | nil=>rfl
 | cons p l ih=>simp [pairs,ih]
theorem pairs_get (ps:List (Int × Int)) (j:Nat) (hj:j<ps.length):(pairs ps)[2 * j]?=some (.int .i64 (ps.getD j (0,0)).1)∧(pairs ps)[2 * j+1]?=some (.int .i64 (ps.getD j (0,0)).2):=by
  induction ps generalizing j with
  | nil=>exact absurd hj (Nat.not_lt_zero _)
  | cons p l ih =>
    cases j with
    | zero=>exact ⟨rfl,rfl⟩
    | succ j =>
      have h:=ih j (by simpa using hj);rw [show 2 * (j+1)=2 * j+2 by omega,show 2 * j+2+1=2 * j+1+2 by omega]
      simpa [pairs] using h
theorem pairs_at {w:World} {b off:Nat} {ps:List (Int × Int)} (h:Lies w b off (pairs ps)) (j:Nat) (hj:j<ps.length) :
  w.cell? ⟨b,off+j * 2,none⟩=some (.int .i64 (ps.getD j (0,0)).1)∧w.cell? ⟨b,off+j * 2+1,none⟩=some (.int .i64 (ps.getD j (0,0)).2):=by
 have q:=pairs_get ps j hj;rw [Nat.mul_comm 2 j] at q;exact ⟨h.cell _ _ q.1,by rw [Nat.add_assoc];exact h.cell _ _ q.2⟩
theorem list_eq_of {α:Type} {d:α} {a b:List α} (l:a.length=b.length) (h:∀ j,j<a.length→a.getD j d=b.getD j d):a=b:=by
 refine List.ext_getElem l fun j h1 h2=>?_;have:=h j h1
 simpa [List.getD_eq_getElem?_getD,h1,h2] using this
theorem list_ne_of {α:Type} {d:α} {a b:List α} (j:Nat) (h:¬ a.getD j d=b.getD j d):¬ a=b:=fun e=>h (by rw [e])
theorem prs_here {base:Nat} {w:World} {o:Option Addr} {n c:Nat} {L:List Sp} (h:PairS base w (.slice o n c) L) {i:Nat} (hi:i<L.length) :
  ∃ b off,o=some ⟨b,off,none⟩∧b<w.heap.size∧∀ j,j<L.length→w.cell? ⟨b,off+j * 2,none⟩=some (.int .i64 (L.getD j (0,0)).1)∧w.cell? ⟨b,off+j * 2+1,none⟩=some (.int .i64 (L.getD j (0,0)).2):=by
 rcases h with ⟨h0,-⟩ | ⟨b,off,c',e,-,l⟩
 ·omega
 ·injection e with e1 e2 e3
  exact ⟨b,off,e1,l.lt,fun j hj=>pairs_at l j hj⟩
theorem prs_shape {base:Nat} {w:World} {v:Value} {L:List Sp} (h:PairS base w v L):∃ o c,v=.slice o L.length c:=by
 rcases h with ⟨h0,a,c,rfl⟩ | ⟨b,off,c,rfl,-⟩
 ·exact ⟨a,c,by rw [h0]⟩
 ·exact ⟨_,_,rfl⟩
theorem rnnum (x:Int) (w:World) :
  Calls Tryz.prog 179 #[.int .i64 x] w fun e w'=>e=.returned (.bool (nvB x))∧w=w':=by
 unfold nvB
 cases p:decide (-4398046511104≤x) <;> cases q:decide (x≤4398046511104)
 all_goals
  go_enter Tryz.func179,Tryz.ntmps179
  go_wp2
  go_ret
  exact ⟨rfl,rfl⟩
theorem rnspan (a b:Int) (w:World) :
  Calls Tryz.prog 150 #[.agg #[.int .i64 a,.int .i64 b]] w fun e w'=>e=.returned (.bool (spB (a,b)))∧Below w.heap.size w w':=by
 have HA:=zh (fun w=>rnnum a w);have HB:=zh (fun w=>rnnum b w);have A1:=zh (grow (here w) (.cells #[.int .i64 a,.int .i64 b] 40));obtain ⟨x0,x1,xl⟩:=Two.new (here (w.alloc (.cells #[.int .i64 a,.int .i64 b] 40)));have e:Hid (spB (a,b)=(nvB a&&nvB b&&decide (a<b))):=rfl
 cases p:nvB a
 ·rw [p] at HA e;have r:Hid (spB (a,b)=false):=e.out;clear e p
  go_enter Tryz.func150,Tryz.ntmps150
  go_wp2_with fail
  refine (HA.out _).mono ?_;rintro e w1 ⟨rfl,rfl⟩;go_wp2
  go_ret
  exact ⟨by rw [r.out];rfl,A1.out⟩
 cases q:nvB b
 ·rw [p,q] at e;rw [p] at HA;rw [q] at HB;have r:Hid (spB (a,b)=false):=e.out;clear e p q
  go_enter Tryz.func150,Tryz.ntmps150
  go_wp2_with fail
  refine (HA.out _).mono ?_;rintro e w1 ⟨rfl,rfl⟩;go_wp2_with fail
  refine (HB.out _).mono ?_;rintro e w1 ⟨rfl,rfl⟩;go_wp2
  go_ret
  exact ⟨by rw [r.out];rfl,A1.out⟩
 rw [p,q] at e;rw [p] at HA;rw [q] at HB;clear p q
 cases u:decide (a<b)
 all_goals
  rw [u] at e
  go_enter Tryz.func150,Tryz.ntmps150
  go_wp2_with fail
  refine (HA.out _).mono ?_;rintro e w1 ⟨rfl,rfl⟩;go_wp2_with fail
  refine (HB.out _).mono ?_;rintro e w1 ⟨rfl,rfl⟩;go_wp2
  go_ret
  exact ⟨by rw [e.out];rfl,A1.out⟩
set_option maxRecDepth 100000 in
set_option maxHeartbeats 1000000 in
theorem rnspans (v:Value) (L:List Sp) (hn:L.length≤maxLen) {base:Nat} (w:World) (h:PairS base w v L) :
  Calls Tryz.prog 105 #[v] w fun e w'=>e=.returned (.bool (spsB L))∧Below w.heap.size w w':=by
 unfold maxLen at hn
 obtain ⟨o,c,rfl⟩:=prs_shape h;have PL:=zh h;have A0:Hid (Below w.heap.size w w):=here w;have yes:Hid ((∀ j,j<L.length→spB (L.getD j (0,0))=true)→spsB L=true):=spsB_at.2;have no:Hid (∀ j,j<L.length→spB (L.getD j (0,0))=false→spsB L=false):=fun j hj e=>by
  rw [← Bool.not_eq_true,spsB_at];intro q;rw [q j hj] at e;cases e
 obtain ⟨n,hl⟩:∃ n,L.length=n:=⟨_,rfl⟩;rw [hl] at hn yes no ⊢;rw [hl] at PL;generalize spsB L=R at *
 go_enter Tryz.func105,Tryz.ntmps105
 go_wp2
 go_loopw [3] (fun i wr=>∃ k:Nat,k≤n∧i=.int .i64 k∧Hid (∀ j,j<k→spB (L.getD j (0,0))=true)∧Hid (Below w.heap.size w wr)∧Hid (PairS base wr (.slice o n c) L)) (fun i _=>n - (intOf i).toNat)
 case atStart=>exact ⟨0,Nat.zero_le _,rfl,fun j hj=>absurd hj (Nat.not_lt_zero _),A0,PL⟩
 case round =>
  obtain ⟨k,hk,rfl,HU,HA,HP⟩:=hrel
  by_cases z:k<n
  ·have kz:decide ((k:Int)<(n:Int))=true:=zdt (by omega);obtain ⟨b,off,rfl,bl,cs⟩:=prs_here HP.out (show k<L.length by omega);obtain ⟨c0,c1⟩:=cs k (by omega);have HS:=zh (fun w=>rnspan (L.getD k (0,0)).1 (L.getD k (0,0)).2 w);have ev:((L.getD k (0,0)).1,(L.getD k (0,0)).2)=L.getD k (0,0):=rfl;rw [ev] at HS;clear cs ev A0 PL
   cases u:spB (L.getD k (0,0))
   ·rw [u] at HS;have r:Hid (R=false):=no.out k z u;clear u yes no HU;generalize L.getD k (0,0)=q at *;go_wp2_with fail
    refine (HS.out _).mono ?_;rintro e w1 ⟨rfl,hb⟩;have A1:=zd HA hb;clear hb c0 c1 bl HA HP;go_wp2
    go_ret
    exact ⟨by rw [r.out];rfl,A1.out⟩
   ·rw [u] at HS;have HU2:Hid (∀ j,j<k+1→spB (L.getD j (0,0))=true):=fun j hj=>by
     rcases Nat.lt_or_ge j k with y | y
     ·exact HU.out j y
     ·obtain rfl:j=k:=by omega
      exact u
    clear u yes no HU;generalize hq:L.getD k (0,0)=q at c0 c1 HS;clear hq;go_wp2_with fail
    refine (HS.out _).mono ?_;rintro e w1 ⟨rfl,hb⟩;have A1:=zd HA hb;have P1:=zh (HP.out.keep hb);clear hb c0 c1 bl HA HP;go_wp2
    go_roundw
    case rel=>exact ⟨k+1,by omega,by go_num,HU2,A1,P1⟩
    case measure=>simp [intOf];omega
  ·have kz:decide ((k:Int)<(n:Int))=false:=zdf (by omega);obtain rfl:k=n:=by omega
   have r:Hid (R=true):=yes.out HU.out;clear yes no HU HP;go_wp2
   go_ret
   exact ⟨by rw [r.out];rfl,HA.out⟩
set_option maxRecDepth 100000 in
set_option maxHeartbeats 1000000 in
theorem rnvalid (v:Value) (L:List Sp) (hn:L.length≤maxLen) {base:Nat} (w:World) (h:PairS base w v L) :
  Calls Tryz.prog 53 #[v] w fun e w'=>e=.returned (.bool (vaB L))∧Below w.heap.size w w':=by
 have HS:=zh (fun w (h:PairS base w v L)=>rnspans v L hn w h)
 unfold maxLen at hn
 obtain ⟨o,c,rfl⟩:=prs_shape h;have PL:=zh h;have A0:Hid (Below w.heap.size w w):=here w;have gp:=zh (gpB_at (L:=L));have ve:Hid (vaB L=(decide (L.length≤2000)&&spsB L&&gpB L)):=rfl;clear h;obtain ⟨n,hl⟩:∃ n,L.length=n:=⟨_,rfl⟩;rw [hl] at hn gp ve HS PL ⊢
 by_cases l:2000<n
 ·have kl:decide (2000<(n:Int))=true:=zdt (by omega);rw [zdf (by omega:¬ n≤2000),Bool.false_and,Bool.false_and] at ve;clear l gp HS
  go_enter Tryz.func53,Tryz.ntmps53
  go_wp2
  go_ret
  exact ⟨by rw [ve.out];rfl,A0.out⟩
 have kl:decide (2000<(n:Int))=false:=zdf (by omega);rw [zdt (by omega:n≤2000),Bool.true_and] at ve
 cases s:spsB L
 ·rw [s,Bool.false_and] at ve;rw [s] at HS;clear gp
  go_enter Tryz.func53,Tryz.ntmps53
  go_wp2_with fail
  refine (HS.out _ PL.out).mono ?_;rintro e w1 ⟨rfl,hb⟩;have A1:=zd A0 hb;clear hb A0;go_wp2
  go_ret
  exact ⟨by rw [ve.out];rfl,A1.out⟩
 rw [s,Bool.true_and] at ve;rw [s] at HS;clear s
 go_enter Tryz.func53,Tryz.ntmps53
 go_wp2_with fail
 refine (HS.out _ PL.out).mono ?_;rintro e w1 ⟨rfl,hb⟩;have A1:=zd A0 hb;have P1:=zh (PL.out.keep hb);clear hb A0 PL HS;go_wp2
 go_loopw [3] (fun i wr=>∃ k:Nat,1≤k∧(k≤n∨k=1)∧i=.int .i64 k∧Hid (∀ j,j+1<k→(L.getD j (0,0)).2<(L.getD (j+1) (0,0)).1)∧Hid (Below w.heap.size w wr)∧Hid (PairS base wr (.slice o n c) L)) (fun i _=>n+1 - (intOf i).toNat)
 case atStart=>exact ⟨1,Nat.le_refl _,.inr rfl,rfl,fun j hj=>by omega,A1,P1⟩
 case round =>
  obtain ⟨k,hk1,hk,rfl,HU,HA,HP⟩:=hrel;clear A1 P1
  by_cases z:k<n
  ·have kz:decide ((k:Int)<(n:Int))=true:=zdt (by omega);obtain ⟨b,off,rfl,bl,cs⟩:=prs_here HP.out (show k<L.length by omega);obtain ⟨c0,c1⟩:=cs (k - 1) (by omega);obtain ⟨d0,d1⟩:=cs k (by omega);obtain ⟨m,rfl⟩:∃ m,k=m+1:=⟨k - 1,by omega⟩;rw [Nat.add_sub_cancel] at c0 c1;have m1:((m+1:Nat):Int) - 1=m:=by omega
   have m2:((m+1:Nat):Int)=(m:Int)+1:=by omega
   obtain ⟨p,hp⟩:∃ p,(L.getD m (0,0)).2=p:=⟨_,rfl⟩;obtain ⟨q,hq⟩:∃ q,(L.getD (m+1) (0,0)).1=q:=⟨_,rfl⟩;rw [hp] at c1;rw [hq] at d0;clear cs c0 d1
   by_cases u:q≤p
   ·have ku:=zdt u;have r:Hid (vaB L=false):=by
     show _=_
     rw [ve.out,← Bool.not_eq_true,gp.out];intro g;have:=g m (by omega);omega
    clear ve gp HU hp hq u;go_wp2
    go_quiet (fail)
    go_wp2
    go_ret
    exact ⟨by rw [r.out];rfl,below_drewN HA.out _⟩
   ·have ku:=zdf u;have HU2:Hid (∀ j,j+1<m+2→(L.getD j (0,0)).2<(L.getD (j+1) (0,0)).1):=fun j hj=>by
     rcases Nat.lt_or_ge (j+1) (m+1) with y | y
     ·exact HU.out j y
     ·obtain rfl:j=m:=by omega
      rw [hp,hq];omega
    clear ve gp HU hp hq u;go_wp2
    go_quiet (fail)
    have A2:=zh (below_drewN HA.out nq);have P2:=zh (HP.out.keep (below_drewN (here wr) nq));clear HA HP c1 d0 bl;go_wp2
    go_roundw
    case rel=>exact ⟨m+2,by omega,.inl (by omega),by go_num,HU2,A2,P2⟩
    case measure=>simp [intOf];omega
  ·have kz:decide ((k:Int)<(n:Int))=false:=zdf (by omega);have r:Hid (vaB L=true):=by
    show _=_
    rw [ve.out,gp.out];exact fun j hj=>HU.out j (by omega)
   clear ve gp HU HP;go_wp2
   go_ret
   exact ⟨by rw [r.out];rfl,HA.out⟩
set_option maxRecDepth 100000 in
set_option maxHeartbeats 1000000 in
theorem rnin (v:Value) (L:List Sp) (hn:L.length≤maxLen) (x:Int) {base:Nat} (w:World) (h:PairS base w v L) :
  Calls Tryz.prog 54 #[v,.int .i64 x] w fun e w'=>e=.returned (.bool (inB L x))∧w=w':=by
 unfold maxLen at hn
 obtain ⟨o,c,rfl⟩:=prs_shape h;have yes:Hid (∀ j,j<L.length→(L.getD j (0,0)).1≤x→x<(L.getD j (0,0)).2→inB L x=true):=fun j hj a b=>inB_iff.2 ⟨L.getD j (0,0),by
  rw [List.getD_eq_getElem?_getD,List.getElem?_eq_getElem hj];exact List.getElem_mem hj,a,b⟩
 have no:Hid ((∀ j,j<L.length→¬ ((L.getD j (0,0)).1≤x∧x<(L.getD j (0,0)).2))→inB L x=false):=fun q=>by
  rw [← Bool.not_eq_true,inB_iff];rintro ⟨p,hp,a⟩;obtain ⟨j,hj,rfl⟩:=List.getElem_of_mem hp;have:=q j hj;rw [List.getD_eq_getElem?_getD,List.getElem?_eq_getElem hj] at this;exact this a
 have HP:=zh h;obtain ⟨n,hl⟩:∃ n,L.length=n:=⟨_,rfl⟩;rw [hl] at hn yes no HP ⊢;generalize inB L x=R at *;clear h
 go_enter Tryz.func54,Tryz.ntmps54
 go_wp2
 go_loopw [5] (fun i wr=>∃ k:Nat,k≤n∧i=.int .i64 k∧wr=w∧Hid (∀ j,j<k→¬ ((L.getD j (0,0)).1≤x∧x<(L.getD j (0,0)).2))) (fun i _=>n - (intOf i).toNat)
 case atStart=>exact ⟨0,Nat.zero_le _,rfl,rfl,fun j hj=>absurd hj (Nat.not_lt_zero _)⟩
 case round =>
  obtain ⟨k,hk,rfl,rfl,HU⟩:=hrel
  by_cases z:k<n
  ·have kz:decide ((k:Int)<(n:Int))=true:=zdt (by omega);obtain ⟨b,off,rfl,bl,cs⟩:=prs_here HP.out (show k<L.length by omega);obtain ⟨c0,c1⟩:=cs k (by omega);obtain ⟨p,hp⟩:∃ p,(L.getD k (0,0)).1=p:=⟨_,rfl⟩;obtain ⟨q,hq⟩:∃ q,(L.getD k (0,0)).2=q:=⟨_,rfl⟩;rw [hp] at c0;rw [hq] at c1;clear cs;have on:¬ (p≤x∧x<q)→Hid (∀ j,j<k+1→¬ ((L.getD j (0,0)).1≤x∧x<(L.getD j (0,0)).2)):=fun u j hj=>by
    rcases Nat.lt_or_ge j k with y | y
    ·exact HU.out j y
    ·obtain rfl:j=k:=by omega
     rw [hp,hq];exact u
   cases u:decide (p≤x)
   ·have HU2:=on (fun q=>by rw [zdt q.1] at u;cases u);clear on yes no HU hp hq;go_wp2
    go_roundw
    case rel=>exact ⟨k+1,by omega,by go_num,by first | rfl | trivial,HU2⟩
    case measure=>simp [intOf];omega
   ·cases t:decide (x<q)
    ·have HU2:=on (fun q=>by rw [zdt q.2] at t;cases t);clear on yes no HU hp hq;go_wp2
     go_roundw
     case rel=>exact ⟨k+1,by omega,by go_num,by first | rfl | trivial,HU2⟩
     case measure=>simp [intOf];omega
    ·have r:Hid (R=true):=yes.out k z (by rw [hp];exact of_decide_eq_true u) (by rw [hq];exact of_decide_eq_true t);clear on yes no HU hp hq;go_wp2
     go_ret
     exact ⟨by rw [r.out];rfl,rfl⟩
  ·have kz:decide ((k:Int)<(n:Int))=false:=zdf (by omega);obtain rfl:k=n:=by omega
   have r:Hid (R=false):=no.out HU.out;clear yes no HU HP;go_wp2
   go_ret
   exact ⟨by rw [r.out];rfl,rfl⟩
theorem refdiv_zero (a:Int) (w:World) :
  Calls Tryz.prog 156 #[.int .i64 a,.int .i64 0] w fun e w'=>e=.returned (.tuple #[.int .i64 0,.int .i64 0,.int .i64 10])∧w'=w.drewN 0:=by
 go_enter Tryz.func156,Tryz.ntmps156
 go_wp2
 go_ret3
 exact ⟨rfl,rfl⟩
theorem refdiv_big (w:World) :
  Calls Tryz.prog 156 #[.int .i64 (-9223372036854775808),.int .i64 (-1)] w fun e w'=>e=.returned (.tuple #[.int .i64 0,.int .i64 0,.int .i64 9])∧w'=w.drewN 0:=by
 go_enter Tryz.func156,Tryz.ntmps156
 go_wp2
 go_ret3
 exact ⟨rfl,rfl⟩
set_option maxHeartbeats 400000 in
theorem refdiv_any (a b:Int) (h0:-9223372036854775808≤a) (h1:a≤9223372036854775807) (h2:-9223372036854775808≤b) (h3:b≤9223372036854775807) (hb:b≠0) (hx:¬ (a=-9223372036854775808∧b=-1)) (w:World) :
  Calls Tryz.prog 156 #[.int .i64 a,.int .i64 b] w fun e w'=>e=.returned (.tuple #[.int .i64 (a.fdiv b),.int .i64 (a.fmod b),.int .i64 0])∧∃ n,w'=w.drewN n:=by
 have hz:(b==0)=false:=by simpa using hb
 have hq:=tq_bd h0 h1 hx hb;have hr:=tr_bd (a:=a) hb;have ht:=tq_half (b:=b) h0 h1;have he:=fdm_exact (a:=a) hb;have hs:=fdm_same (a:=a) hb;have ho:=fdm_other (a:=a) hb;obtain ⟨c,hc⟩:∃ c,(a==-9223372036854775808)=c:=⟨_,rfl⟩;obtain ⟨d,hd⟩:∃ d,(b==-1)=d:=⟨_,rfl⟩;have hcd:(c&&d)=false:=by
  subst hc;subst hd;rw [Bool.and_eq_false_iff];simp only [beq_eq_false_iff_ne];omega
 generalize a.fdiv b=Q at *;generalize a.fmod b=R at *;obtain ⟨q,eq⟩:∃ q,a.tdiv b=q:=⟨_,rfl⟩;obtain ⟨r,er⟩:∃ r,a.tmod b=r:=⟨_,rfl⟩;rw [eq] at hq he hs ho ht;rw [er] at hr he hs ho ht;obtain ⟨hq0,hq1⟩:=hq;obtain ⟨hr0,-,-⟩:=hr;have hr2:-9223372036854775808≤r:=by omega
 have hr3:r≤9223372036854775807:=by omega
 have g:Q=q∧R=r∧r=0∨Q=q∧R=r∧(0<r∧0<b∨r<0∧b<0)∨Q=q - 1∧R=r+b∧(0<r∧b<0∨r<0∧0<b):=by
  by_cases z:r=0
  ·left;have:=he z;omega
  ·by_cases z':0<r∧0<b∨r<0∧b<0
   ·right;left;have:=hs z';omega
   ·right;right;have z2:0<r∧b<0∨r<0∧0<b:=by omega
    have:=ho z2;omega
 clear he hs ho
 rcases g with ⟨rfl,rfl,rfl⟩ | ⟨rfl,rfl,g⟩ | ⟨rfl,rfl,g⟩
 ·clear ht
  cases c <;> cases d <;> (try cases hcd) <;> (go_enter Tryz.func156,Tryz.ntmps156;go_wp2;go_quiet (fail);go_wp2;go_ret3;exact ⟨rfl,_,rfl⟩)
 ·clear ht
  rcases g with ⟨g1,g2⟩ | ⟨g1,g2⟩
  ·have k1:decide (R<0)=false:=by simp;omega
   have k2:decide (b<0)=false:=by simp;omega
   have k3:(R != 0)=true:=by simp;omega
   cases c <;> cases d <;> (try cases hcd) <;> (go_enter Tryz.func156,Tryz.ntmps156;go_wp2;go_quiet (fail);go_wp2;go_ret3;exact ⟨rfl,_,rfl⟩)
  ·have k1:decide (R<0)=true:=by simp;omega
   have k2:decide (b<0)=true:=by simp;omega
   have k3:(R != 0)=true:=by simp;omega
   cases c <;> cases d <;> (try cases hcd) <;> (go_enter Tryz.func156,Tryz.ntmps156;go_wp2;go_quiet (fail);go_wp2;go_ret3;exact ⟨rfl,_,rfl⟩)
 ·obtain ⟨t1,t2⟩:=ht (by omega);clear ht
  rcases g with ⟨g1,g2⟩ | ⟨g1,g2⟩
  ·have k1:decide (r<0)=false:=by simp;omega
   have k2:decide (b<0)=true:=by simp;omega
   have k3:(r != 0)=true:=by simp;omega
   cases c <;> cases d <;> (try cases hcd) <;> (go_enter Tryz.func156,Tryz.ntmps156;go_wp2;go_quiet (fail);go_wp2;go_ret3;exact ⟨rfl,_,rfl⟩)
  ·have k1:decide (r<0)=true:=by simp;omega
   have k2:decide (b<0)=false:=by simp;omega
   have k3:(r != 0)=true:=by simp;omega
   cases c <;> cases d <;> (try cases hcd) <;> (go_enter Tryz.func156,Tryz.ntmps156;go_wp2;go_quiet (fail);go_wp2;go_ret3;exact ⟨rfl,_,rfl⟩)
theorem refdiv_all (a b:Int) (h0:-9223372036854775808≤a) (h1:a≤9223372036854775807) (h2:-9223372036854775808≤b) (h3:b≤9223372036854775807) (w:World) :
  Calls Tryz.prog 156 #[.int .i64 a,.int .i64 b] w fun e w'=>e=.returned (.tuple #[.int .i64 (dQ a b),.int .i64 (dR a b),.int .i64 (dE a b)])∧∃ n,w'=w.drewN n:=by
 by_cases hb:b=0
 ·subst hb;refine (refdiv_zero a w).mono fun e w' ⟨he,hw⟩=>⟨?_,0,hw⟩;rw [he];unfold dQ dR dE;simp
 ·by_cases hx:a=-9223372036854775808∧b=-1
  ·obtain ⟨rfl,rfl⟩:=hx;refine (refdiv_big w).mono fun e w' ⟨he,hw⟩=>⟨?_,0,hw⟩;rw [he];unfold dQ dR dE;simp
  ·refine (refdiv_any a b h0 h1 h2 h3 hb hx w).mono fun e w' ⟨he,hw⟩=>⟨?_,hw⟩;rw [he];unfold dQ dR dE;simp [hb,hx]
theorem refmod_all (a b:Int) (h0:-9223372036854775808≤a) (h1:a≤9223372036854775807) (h2:-9223372036854775808≤b) (h3:b≤9223372036854775807) (w:World) :
  Calls Tryz.prog 122 #[.int .i64 a,.int .i64 b] w fun e w'=>e=.returned (.int .i64 (dR a b))∧∃ n,w'=w.drewN n:=by
 go_enter Tryz.func122,Tryz.ntmps122
 go_wp2_with (go_at_call 156;refine (refdiv_all _ _ h0 h1 h2 h3 _).mono ?_;rintro e w' ⟨rfl,n,rfl⟩)
 go_ret
 exact ⟨rfl,_,rfl⟩
end Go.Proofs.YtmamlgaogpkagaaGreat
