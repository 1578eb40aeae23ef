/- TvI. -/
import Derived.Test.YtmamlgaogpkagaaGreatZLPlain
import Derived.Test.YtmamlgaogpkagaaGreatZLGen
import Derived.Test.YtmamlgaogpkagaaGreatZLSl
import Derived.Test.YtmamlgaogpkagaaGreatZLOwn
import Derived.Test.YtmamlgaogpkagaaGreatZRnP
import Derived.Test.YtmamlgaogpkagaaGreatZRnV
import Derived.Test.YtmamlgaogpkagaaGreatZPeT
import Derived.Test.YtmamlgaogpkagaaGreatZTsR
import Derived.Test.YtmamlgaogpkagaaGreatZTsH
import Derived.Test.YtmamlgaogpkagaaGreatZTvE
import Derived.RangeFuncNested
import Derived.RangeFuncBound
import Derived.RangeFuncCalls
import Derived.RangeFuncLeaves
import Derived.Shelf.Abstract
import Derived.Shelf.RegionOpen
import Derived.WalkKit
import Derived.OwnWalkIn
import Derived.TacticsInMore
import Derived.LoopNIn
import Derived.LoopIn
import Derived.Deep.RegionHeld3
import Derived.Laws.EntriesVeiled
namespace Go.Proofs.YtmamlgaogpkagaaGreat
open Go.RowKit Go.Shelf
attribute [local go_sem] Oper.semAt_some
set_option linter.unusedVariables false
set_option linter.unusedSimpArgs false
def KpB (Bn B0:Nat) (W W':World):Prop:=∀ p u,(p.block=Bn∨p.block<B0)→W.cell? p=some u→W'.cell? p=some u
theorem KpB.tr {Bn B0:Nat} {X Y Z:World} (h:KpB Bn B0 X Y) (k:KpB Bn B0 Y Z):KpB Bn B0 X Z:=fun p u hp c=>k p u hp (h p u hp c)
theorem KpB.put {Bn B0:Nat} (W:World) (l:Nat) (o o':Obj) (h:W.heap[l]?=some o) (hc:o.isCells=false):KpB Bn B0 W (W.putObj l o') :=
 fun p u _ c=>cell_kept c (grownBy_putObj' W l o') (fun r e=>by cases e;exact ⟨o,h,hc⟩)
theorem cell_lt {W:World} {p:Addr} {u:Value} (h:W.cell? p=some u):p.block<W.heap.size:=by
 by_cases c:p.block<W.heap.size
 ·exact c
 ·unfold World.cell? at h
  rw [Array.getElem?_eq_none (by omega)] at h
  simp at h
theorem KpB.below {Bn B0:Nat} {W W':World} (hb:Below W.heap.size W W'):KpB Bn B0 W W':=fun p u _ c=>by rw [hb.cell (cell_lt c)];exact c
def bkK (L:List Sp):Nat→List (Nat × Sp)
 | 0=>[]
 | k+1=>bkK L k++[(L.length - 1 - k,L.getD (L.length - 1 - k) (0,0))]
theorem bk_len (L:List Sp):∀ k,(bkK L k).length=k
 | 0=>rfl
 | k+1=>by unfold bkK;rw [List.length_append,bk_len L k];rfl
def mrF (e:Int) (x:Nat × Sp):Sp:=(wrap64 (e - x.2.2),wrap64 (e - x.2.1))
theorem wr64 {n:Int} (h:-9223372036854775808≤n∧n≤9223372036854775807):wrap64 n=n:=by unfold wrap64;omega
def FtL (L:List Sp) (e:Int):Prop:=∀ q,q∈L→I64 (e - q.1)∧I64 (e - q.2)
theorem mrF_eq {L:List Sp} {e:Int} (h:FtL L e) {m:Nat} (hm:m<L.length) (i:Nat):mrF e (i,L.getD m (0,0))=(e - (L.getD m (0,0)).2,e - (L.getD m (0,0)).1):=by
 obtain ⟨a,b⟩:=h _ (getD_mem hm)
 unfold I64 at a b
 unfold mrF
 rw [show wrap64 (e - (i,L.getD m (0,0)).2.2)=_ from wr64 b,show wrap64 (e - (i,L.getD m (0,0)).2.1)=_ from wr64 a]
theorem bk_mr (L:List Sp) (e:Int) (ft:FtL L e):∀ k,k≤L.length→(bkK L k).map (mrF e)=(mrL L e).take k
  | 0,_=>rfl
  | k+1,h=>by
    have h2:L.length - 1 - k<L.length:=by omega
    have key:(mrL L e)[k]?=some (mrF e (L.length - 1 - k,L.getD (L.length - 1 - k) (0,0))):=by
      rw [mrF_eq ft h2]
      unfold mrL
      rw [List.getElem?_reverse (by rw [List.length_map];omega),List.length_map,List.getElem?_map,List.getElem?_eq_getElem h2,gD h2];rfl
    unfold bkK
    rw [List.map_append,bk_mr L e ft k (by omega),List.take_add_one,key];rfl
theorem bk_all (L:List Sp) (e:Int) (ft:FtL L e):(bkK L L.length).map (mrF e)=mrL L e:=by
 rw [bk_mr L e ft _ (Nat.le_refl _),List.take_of_length_le (by rw [mr_len];exact Nat.le_refl _)]
def RwB (W:World) (o:Option Addr) (L:List Sp) (B0:Nat):Prop:=∀ i,i<L.length→∃ b off,o=some ⟨b,off,none⟩∧b<B0∧W.cell? ⟨b,off+i * 2,none⟩=some (.int .i64 (L.getD i (0,0)).1)∧W.cell? ⟨b,off+i * 2+1,none⟩=some (.int .i64 (L.getD i (0,0)).2)
theorem RwB.of {ba:Nat} {W:World} {o:Option Addr} {c:Nat} {L:List Sp} (h:PairS ba W (.slice o L.length c) L):RwB W o L W.heap.size:=fun i hi=>by
 obtain ⟨b,off,e,bl,cs⟩:=prs_here h hi;exact ⟨b,off,e,bl,cs i hi⟩
theorem RwB.keep {Bn B0:Nat} {W W':World} {o:Option Addr} {L:List Sp} (h:RwB W o L B0) (k:KpB Bn B0 W W'):RwB W' o L B0:=fun i hi=>by
 obtain ⟨b,off,e,bl,c0,c1⟩:=h i hi;exact ⟨b,off,e,bl,k _ _ (Or.inr bl) c0,k _ _ (Or.inr bl) c1⟩
set_option maxRecDepth 100000 in
set_option maxHeartbeats 2000000 in
theorem bk1_in (n:Nat) (hn:1≤n) (l Bn B0:Nat) (L:List Sp) (hL:L.length≤100000) (ao:Option Addr) (cp:Nat) (J Jx:List (Nat × Sp)→World→Prop)
  (hY:∀ pre (x:Nat × Sp) W,J pre W→pre.length<L.length→YieldAt Fence.wide (n - 1) Tryz.prog l #[.int .i64 (x.1:Int),.agg #[.int .i64 x.2.1,.int .i64 x.2.2]] W fun e W' =>
   (e=.returned (.bool true)∧J (pre++[x]) W'∧KpB Bn B0 W W')∨(e=.returned (.bool false)∧Jx (pre++[x]) W'))
  (W:World) (hBn:W.cell? ⟨Bn,0,none⟩=some (.slice ao L.length cp)) (hR:RwB W ao L B0) (h0:J [] W) :
  CallsIn Fence.wide n Tryz.prog 194 #[.func (.yield l) #[] #[],.pointer (some ⟨Bn,0,none⟩)] W fun e W'=>(∃ v,e=.returned v) ∧
   ((∃ ys,ys=bkK L L.length∧J ys W')∨(∃ pre,True∧Jx pre W')):=by
 refine callsIn_of_wp Tryz.func194 rfl trivial ?_ rfl
 simp only [Tryz.ntmps194,List.size_toArray,List.length_cons,List.length_nil,Nat.reduceAdd,Nat.reduceSub,Array.replicate_succ,Array.replicate_zero,List.push_toArray,List.append_toArray,List.nil_append,List.cons_append]
 gi_wp2
 gi_loopw [3] (fun i wr=>∃ (k:Nat) (z:Int),k≤L.length∧z=(L.length:Int) - 1 - k∧i=.int .i64 z∧J (bkK L k) wr∧wr.cell? ⟨Bn,0,none⟩=some (.slice ao L.length cp)∧Hid (RwB wr ao L B0)) (fun i _=>(intOf i+1).toNat)
 case atStart=>exact ⟨0,(L.length:Int) - 1,by omega,by omega,rfl,h0,hBn,hR⟩
 case round =>
  obtain ⟨k,z,hk,hz,rfl,hJs,hc,hRw⟩:=hrel
  by_cases q:k<L.length
  ·obtain ⟨m,rfl⟩:∃ m:Nat,z=m:=⟨z.toNat,by omega⟩;have kz:decide (0≤(m:Int))=true:=zdt (by omega);have em:L.length - 1 - k=m:=by omega
   have ml:m<L.length:=by omega
   have mi:(m:Int)<(L.length:Int):=by omega
   obtain ⟨bb,off,rfl,bl,c0,c1⟩:=hRw.out m ml;have rel:bkK L (k+1)=bkK L k++[(m,L.getD m (0,0))]:=by show bkK L k++_=_;rw [em]
   obtain ⟨fn,tmps,assign,body,hy,hR'⟩:=hY _ (m,L.getD m (0,0)) wr hJs (by rw [bk_len];exact q)
   dsimp only at hy
   generalize L.getD m (0,0)=x at *;obtain ⟨x0,x1⟩:=x;replace hz:=zh hz
   gi_wp2
   refine hR'.mono ?_;rintro e W3 (⟨rfl,hJ3,hk3⟩ | ⟨rfl,hJx3⟩)
   ·have hc3:=hk3 _ _ (Or.inl rfl) hc;have hR3:=zh (hRw.out.keep hk3)
    gi_wp2
    go_roundw
    case rel=>exact ⟨k+1,(m:Int) - 1,by omega,by have:=hz.out;omega,rfl,by rw [rel];exact hJ3,hc3,hR3⟩
    case measure=>simp [intOf]
   ·gi_wp2
    refine bodyPost_ret (results_none rfl _ _ _) rfl ?_;exact ⟨⟨_,rfl⟩,.inr ⟨_,trivial,hJx3⟩⟩
  ·obtain rfl:k=L.length:=by omega
   obtain rfl:z=-1:=by omega
   have kz:decide (0≤(-1:Int))=false:=rfl
   gi_wp2
   go_end0
   exact ⟨⟨_,rfl⟩,.inl ⟨_,rfl,hJs⟩⟩
set_option maxRecDepth 100000 in
set_option maxHeartbeats 1000000 in
theorem bk_in (n:Nat) (ao:Option Addr) (k cp:Nat) (w:World) :
  CallsIn Fence.wide n Tryz.prog 172 #[.slice ao k cp] w fun e w'=>e=.returned (.func (.func 194) #[] #[.pointer (some ⟨w.heap.size,0,none⟩)])∧w'=w.alloc (.cells #[.slice ao k cp] 22):=by
 refine callsIn_of_wp Tryz.func172 rfl trivial ?_ rfl
 simp only [Tryz.ntmps172,List.size_toArray,List.length_cons,List.length_nil,Nat.reduceAdd,Nat.reduceSub,Array.replicate_succ,Array.replicate_zero,List.push_toArray,List.append_toArray,List.nil_append,List.cons_append]
 gi_wp2
 go_ret
 exact ⟨rfl,rfl⟩
theorem bk_stops (n:Nat) (hn:1≤n) (Bn B0:Nat) (L:List Sp) (hL:L.length≤100000) (ao:Option Addr) (cp:Nat) (w:World) (hc:w.cell? ⟨Bn,0,none⟩=some (.slice ao L.length cp)) (hl:Bn<w.heap.size) (hR:RwB w ao L B0) (hB:B0≤w.heap.size) :
  SeqStopsK Fence.wide n Tryz.prog 194 #[.pointer (some ⟨Bn,0,none⟩)] (fun x:Nat × Sp=>#[Value.int .i64 (x.1:Int),.agg #[.int .i64 x.2.1,.int .i64 x.2.2]]) (KpB Bn B0) (fun ys=>ys=bkK L L.length) (fun _=>True) L.length w :=
 fun l J Jx W hW _ _ hY h0=>bk1_in n hn l Bn B0 L hL ao cp J Jx hY W ((hW.cell (p:=⟨Bn,0,none⟩) hl).trans hc) (fun i hi=>by
  obtain ⟨b,off,e,bl,c0,c1⟩:=hR i hi;exact ⟨b,off,e,bl,(hW.cell (p:=⟨b,off+i * 2,none⟩) (by show b<_;omega)).trans c0,(hW.cell (p:=⟨b,off+i * 2+1,none⟩) (by show b<_;omega)).trans c1⟩) h0
def Bx2 (W:World) (B:Nat) (x y:Int):Prop:=W.heap[B]?=some (.cells #[.int .i64 x,.int .i64 y] 40 (0,0))
theorem Bx2.own (B:Nat) (x y:Int) {X Y:World} {row:Option Nat} (h:Bx2 X B x y) (hg:X.grownBy Y row) (hr:∀ r,row=some r→∃ o:Obj,X.heap[r]?=some o∧o.isCells=false):Bx2 Y B x y:=by
 show Y.heap[B]?=_
 rw [hg.block B (Array.getElem?_eq_some_iff.1 h).1 (fun e=>by obtain ⟨o,ho,hc⟩:=hr B e.symm;rw [show X.heap[B]?=_ from h] at ho;cases ho;cases hc)];exact h
theorem Bx2.c {W:World} {B:Nat} {x y:Int} (h:Bx2 W B x y):W.cell? ⟨B,0,none⟩=some (.int .i64 x)∧W.cell? ⟨B,1,none⟩=some (.int .i64 y):=by
 constructor <;> simp [World.cell?,show W.heap[B]?=_ from h]
set_option maxRecDepth 100000 in
set_option maxHeartbeats 3000000 in
theorem tvmrl (L:List Sp) (hL:L.length≤100000) (e:Int) (ft:FtL L e) (v:Value) {ba:Nat} (w:World) (h:PairS ba w v L) :
  Calls Tryz.prog 142 #[v,.int .i64 e] w fun r w'=>(∃ v',r=.returned v'∧PairS w.heap.size w' v' (mrL L e))∧Below w.heap.size w w':=by
 obtain ⟨i0,hi,hz0,hz1,hz2⟩:=info_parts infoS;obtain ⟨ao,cp,rfl⟩:=prs_shape h;have hm:Tryz.prog.follows .mixedOrders=true:=by kernel_rfl
 refine (callsIn_wide (n:=6)).1 ?_;refine callsIn_of_wp_marks Tryz.func142 rfl trivial ?_ rfl
 simp only [Tryz.ntmps142,List.size_toArray,List.length_cons,List.length_nil,Nat.reduceAdd,Nat.reduceSub,Array.replicate_succ,Array.replicate_zero,List.push_toArray,List.append_toArray,List.nil_append,List.cons_append]
 gi_wp2_with (refine ⟨trivial,?_⟩;gi_at_call 172;refine (bk_in _ _ _ _ _).mono ?_;rintro e w' ⟨rfl,rfl⟩)
 have bE:=((Boxed.new w 3 (.int .i64 e)).alloc (.cells #[.slice none 0 0] 22)).alloc (.cells #[.slice ao L.length cp] 22);have bM:=(Boxed.new (w.alloc (.cells #[.int .i64 e] 3)) 22 (.slice none 0 0)).alloc (.cells #[.slice ao L.length cp] 22);have bN:=Boxed.new ((w.alloc (.cells #[.int .i64 e] 3)).alloc (.cells #[.slice none 0 0] 22)) 22 (.slice ao L.length cp)
 simp only [World.size_alloc] at bM bN
 have hB0:Below w.heap.size w (((w.alloc (.cells #[.int .i64 e] 3)).alloc (.cells #[.slice none 0 0] 22)).alloc (.cells #[.slice ao L.length cp] 22)):=grow (grow (grow (here w) _) _) _;have hsz:(((w.alloc (.cells #[.int .i64 e] 3)).alloc (.cells #[.slice none 0 0] 22)).alloc (.cells #[.slice ao L.length cp] 22)).heap.size=w.heap.size+3:=by simp
 obtain ⟨W0,hW0⟩:∃ W0,(((w.alloc (.cells #[.int .i64 e] 3)).alloc (.cells #[.slice none 0 0] 22)).alloc (.cells #[.slice ao L.length cp] 22))=W0:=⟨_,rfl⟩;rw [hW0] at bE bM bN hB0 hsz ⊢;clear hW0;have RW:RwB W0 ao L w.heap.size:=fun i hi=>by
  obtain ⟨b,off,e,bl,c0,c1⟩:=RwB.of h i hi;exact ⟨b,off,e,bl,(hB0.cell (p:=⟨b,off+i * 2,none⟩) bl).trans c0,(hB0.cell (p:=⟨b,off+i * 2+1,none⟩) bl).trans c1⟩
 refine wpIn_rangeFunc_ownH rfl (by decide) (gf:=194) (lb:=#[.pointer (some ⟨w.heap.size+1+1,0,none⟩)]) rfl trivial (enters_of Tryz.func194 (by kernel_rfl) rfl)
  (bk_stops (6 - 1) (by decide) (w.heap.size+1+1) w.heap.size L hL ao cp W0 bN.cell bN.lt RW (by omega)) KpB.tr (fun W l o o' _ h hc _=>KpB.put W l o o' h hc) (Below.refl _ _) (fun _=>rfl)
  (fun pre W=>((∃ v,Boxed W (w.heap.size+1) 22 v∧W.ownsRow w.heap.size 40 2 v pre.length (pairs (pre.map (mrF e)))∧True)∧(Boxed W w.heap.size 3 (.int .i64 e)∧Boxed W (w.heap.size+1+1) 22 (.slice ao L.length cp)))∧Below w.heap.size w W)
  (fun _ _ _=>False)
  (OwnFrom.and (OwnFrom.and (Own.from (holdsRow_own w.heap.size (w.heap.size+1) 22 40 2 (fun pre:List (Nat × Sp)=>pre.length) (fun pre=>pairs (pre.map (mrF e))) (fun _ _=>True)) _) (OwnFrom.and (Own.from (boxed_own _ _ _) _) (Own.from (boxed_own _ _ _) _))) (ownFrom_below (Nat.le_refl _) (by omega)))
  (fun _ _ _ _ _ hs _ _=>hs)
  ⟨⟨⟨_,bM,World.ownsRow_nil _ _ _ _,trivial⟩,bE,bN⟩,hB0⟩
  (fun x a' W=>∃ Bx,w.heap.size+1+1<Bx∧Bx2 W Bx x.2.1 x.2.2∧a'={ tmps:=#[.slice ao L.length cp,.int .i64 e,undef,.pointer (some ⟨w.heap.size,0,none⟩),.slice none 0 0,.pointer (some ⟨w.heap.size+1,0,none⟩),undef,.pointer (some ⟨Bx,0,none⟩),.slice ao L.length cp,.func (.func 194) #[] #[.pointer (some ⟨w.heap.size+1+1,0,none⟩)],.int .i64 (x.1:Int),.agg #[.int .i64 x.2.1,.int .i64 x.2.2],undef,undef,undef,undef,undef,undef,undef,undef,undef,undef,undef,undef,undef],defers:=[] })
  (fun x a' _ X Y row hs hg hr=>by obtain ⟨Bx,h1,h2,h3⟩:=hs;exact ⟨Bx,h1,Bx2.own Bx _ _ h2 hg (fun r e=>(hr r e).2),h3⟩)
  ?assign ?body ?done ?stop
 case assign =>
  rintro l pre x W K ⟨⟨⟨v,bM1,hrow,-⟩,bE1,bN1⟩,hB1⟩ hK;have hle:=hB1.size;have lM:=bM1.lt;have lN:=bN1.lt
  gi_wp2
  exact hK _ _ ((KeepsOthers.alloc _ _).from _) (KpB.below (grow (here W) _)) ⟨⟨⟨v,bM1.alloc _,hrow.alloc _,trivial⟩,bE1.alloc _,bN1.alloc _⟩,hB1.alloc (by omega) _⟩ ⟨W.heap.size,by omega,World.alloc_heap_new W _,rfl⟩
 case body =>
  rintro l pre x a' W hl ⟨r,hr⟩ ⟨⟨⟨v,hv,hrow,-⟩,bE1,bN1⟩,hB⟩ ⟨Bx,hBx,bX,rfl⟩ hlt;have hc1:=hv.cell;have hcE:=bE1.cell;obtain ⟨hx0,hx1⟩:=bX.c;have hle:=hB.size
  gi_wp2_with (gi_at_builtin;refine wpListIn_append_own _ rfl _ _ 22 rfl w.heap.size 40 i0 (.agg #[.int .i64 0,.int .i64 0]) 2 16 Tryz.underlying22 hi hz0 hz1 hz2 rfl (by decide) _ _ _ rfl (hrow.alloc _) ⟨W.heap.size,0,none⟩ 1 1 [.int .i64 (wrap64 (e - x.2.2)),.int .i64 (wrap64 (e - x.2.1))] rfl rfl (fun j u hj=>by rw [Addr.add_lit,Nat.zero_add,World.cell?_alloc_new];simpa using hj) (by simp [Value.oneCell']) (by unfold maxLen;omega) (by omega) (by simp;omega) ?_;intro v' w1 hown' hgrow _;obtain ⟨g',cap',rfl⟩:=ownsRow_succ hown';obtain ⟨hv1,hv2,hr2,hk2,hb2⟩:=hv.appended (by decide) hrow hB.size (by omega) hown' hgrow;have hc2:=hv1.cell;have hf2:=hv1.frozen;have bE2:=((bE1.alloc _).kept hgrow (bE1.not_row (by decide) hrow)).other (show w.heap.size≠w.heap.size+1 by omega) (.slice (some ⟨g',0,none⟩) (pre.length+1) cap');have bN2:=((bN1.alloc _).kept hgrow (bN1.not_row (by decide) hrow)).other (show w.heap.size+1+1≠w.heap.size+1 by omega) (.slice (some ⟨g',0,none⟩) (pre.length+1) cap'))
  refine ⟨hk2.from _,fun p u hp c=>?_,⟨⟨_,hv2,?_,trivial⟩,bE2,bN2⟩,hB.trans hb2⟩
  ·rcases hp with hp | hp
   ·rw [World.cell?_of_block (w:=W) (a:=p) (by rw [hp];exact (show _=_ from bN2).trans (show _=_ from bN1).symm)];exact c
   ·rw [hb2.cell hp];exact c
  ·rw [List.map_append,pairs_append,List.length_append];exact hr2
 case done =>
  rintro D ys W hD rfl ⟨⟨⟨v,hv,hrow,-⟩,bE1,bN1⟩,hB⟩ hK;have hc1:=hv.cell
  gi_wp2
  refine ⟨by simp,.inl ⟨_,_,rfl,run_takeDeferred hK,?_⟩⟩;refine ⟨_,results_tmp rfl _ _ _,⟨v,rfl,?_⟩,hB.trans (belowK_b (w:=w) (Nat.le_refl _) W D _ _ (by omega) hK rfl rfl)⟩;rw [bk_all L e ft,bk_len] at hrow
  show Sl _ _ _ _ _
  rw [mr_len];exact Sl.owns (ownsRow_putObj hrow _ hK rfl)
 case stop =>
  rintro D c pre W _ _ h _;exact h.elim
set_option maxRecDepth 100000 in
set_option maxHeartbeats 2000000 in
theorem tvmrp (P:Int) (va:Value) (A:List Sp) (pw:PW P A) {ba:Nat} (w:World) (a:PairS ba w va A) :
  Calls Tryz.prog 141 #[.agg #[.int .i64 P,va]] w fun e w'=>(∃ v',e=.returned (.agg #[.int .i64 P,v'])∧PairS w.heap.size w' v' (mrL A P))∧Below w.heap.size w w':=by
 obtain ⟨oa,ca,rfl⟩:=prs_shape a;obtain ⟨w2,hw2⟩:∃ w2:World,((w.alloc (.cells #[.int .i64 P,.slice oa A.length ca] 24)).alloc (.cells #[.int .i64 0,.slice none 0 0] 24))=w2:=⟨_,rfl⟩;have TB:Hid (Bxs w2 w.heap.size [.int .i64 P,.slice oa A.length ca]):=by show Bxs _ _ _;rw [← hw2];exact (Bxs.new (w:=w) [.int .i64 P,.slice oa A.length ca] 24).old _
 have RB:Hid (Bxo w2 (w.heap.size+1) [.int .i64 0,.slice none 0 0]):=by show Bxo _ _ _;rw [← hw2];exact Bxo.snd (w:=w) (o:=(.cells #[.int .i64 P,.slice oa A.length ca] 24)) [.int .i64 0,.slice none 0 0] 24
 have A2:Hid (Below w.heap.size w w2):=by show Below _ _ _;rw [← hw2];exact grow (grow (here w) _) _
 have ft:FtL A P:=fun q hq=>by have h1:=pw.ip q hq;have h2:=pw.cn.lt q hq;have h3:=pw.p1;unfold I64;omega
 have HC:Hid (∀ W,Below w.heap.size w W→Calls Tryz.prog 142 #[.slice oa A.length ca,.int .i64 P] W fun e w'=>(∃ v',e=.returned v'∧PairS W.heap.size w' v' (mrL A P))∧Below W.heap.size W w'):=fun W hW=>tvmrl A (by have:=pw.len;omega) P ft _ W (a.keep hW);have s2:w.heap.size+1<w2.heap.size:=RB.out.t.lt;have hS0:Below w.heap.size w w2∧w2.cell? ⟨w.heap.size,0,none⟩=some (.int .i64 P)∧w2.cell? ⟨w.heap.size,1,none⟩=some (.slice oa A.length ca)∧w.heap.size<w2.heap.size:=⟨A2.out,TB.out.c 0 _ rfl,TB.out.c 1 _ rfl,by omega⟩;have R2:Bxo w2.drew (w.heap.size+1) [.int .i64 0,.slice none 0 0]:=RB.out.keep (here w2).drew;have ml:(mrL A P).length=A.length:=mr_len A P;obtain ⟨M,hM⟩:∃ M,mrL A P=M:=⟨_,rfl⟩;rw [hM] at HC ⊢;clear TB RB ft hM ml
 go_enter Tryz.func141,Tryz.ntmps141
 go_wp2
 have mk:∀ W W':World,(Below w.heap.size w W∧W.cell? ⟨w.heap.size,0,none⟩=some (.int .i64 P)∧W.cell? ⟨w.heap.size,1,none⟩=some (.slice oa A.length ca)∧w.heap.size<W.heap.size)→Below W.heap.size W W'→(Below w.heap.size w W'∧W'.cell? ⟨w.heap.size,0,none⟩=some (.int .i64 P)∧W'.cell? ⟨w.heap.size,1,none⟩=some (.slice oa A.length ca)∧w.heap.size<W'.heap.size):=fun W W' ⟨kb,k0_0,k0_1,kl⟩ hb=>⟨down kb hb,(hb.cell (p:=⟨w.heap.size,0,none⟩) (by show w.heap.size<_;omega)).trans k0_0,(hb.cell (p:=⟨w.heap.size,1,none⟩) (by show w.heap.size<_;omega)).trans k0_1,zll kl hb.size⟩;have ks:∀ (W:World) (u0 u1:Value),(Below w.heap.size w W∧W.cell? ⟨w.heap.size,0,none⟩=some (.int .i64 P)∧W.cell? ⟨w.heap.size,1,none⟩=some (.slice oa A.length ca)∧w.heap.size<W.heap.size)→(Below w.heap.size w ((W.setCell ⟨w.heap.size+1,0,none⟩ u0).setCell ⟨w.heap.size+1,1,none⟩ u1)∧((W.setCell ⟨w.heap.size+1,0,none⟩ u0).setCell ⟨w.heap.size+1,1,none⟩ u1).cell? ⟨w.heap.size,0,none⟩=some (.int .i64 P)∧((W.setCell ⟨w.heap.size+1,0,none⟩ u0).setCell ⟨w.heap.size+1,1,none⟩ u1).cell? ⟨w.heap.size,1,none⟩=some (.slice oa A.length ca)∧w.heap.size<((W.setCell ⟨w.heap.size+1,0,none⟩ u0).setCell ⟨w.heap.size+1,1,none⟩ u1).heap.size):=fun W u0 u1 ⟨kb,k0_0,k0_1,kl⟩=>⟨((kb.setCell (p:=⟨w.heap.size+1,0,none⟩) (by show w.heap.size≤w.heap.size+1;omega) _).setCell (p:=⟨w.heap.size+1,1,none⟩) (by show w.heap.size≤w.heap.size+1;omega) _),by rw [zco (h:=by intro h;have:=congrArg Addr.block h;simp at this;try omega),zco (h:=by intro h;have:=congrArg Addr.block h;simp at this;try omega)];exact k0_0,by rw [zco (h:=by intro h;have:=congrArg Addr.block h;simp at this;try omega),zco (h:=by intro h;have:=congrArg Addr.block h;simp at this;try omega)];exact k0_1,by rw [size_set,size_set];exact kl⟩
 go_region_held3 (fun W'=>Below w.heap.size w W'∧W'.cell? ⟨w.heap.size,0,none⟩=some (.int .i64 P)∧W'.cell? ⟨w.heap.size,1,none⟩=some (.slice oa A.length ca)∧w.heap.size<W'.heap.size) (first | assumption | (exact mk _ _ (by assumption) (here _).drew) | (exact mk _ _ (by assumption) (grow (here _) _)) | (exact ks _ _ _ (by assumption)))
  (first
  | (go_at_call 142;(with_reducible refine (HC.out _ (And.left (by assumption))).mono ?_);rintro e w' ⟨⟨v8,rfl,P8⟩,hb⟩;obtain ⟨o8,c8,rfl⟩:=Sl.shape P8;have hS:=mk _ w' (by assumption) hb;have R8:Bxo w' (w.heap.size+1) [.int .i64 0,.slice none 0 0]:=Bxo.keep (by assumption) hb;have rc0:=R8.t.c 0 _ rfl;have rf0:=R8.f 0;have rc1:=R8.t.c 1 _ rfl;have rf1:=R8.f 1))
 have FB:=R8.put2 (.int .i64 P) (.slice o8 M.length c8);have AF:=below_put2 hS.1 (show w.heap.size≤w.heap.size+1 by omega) (.int .i64 P) (.slice o8 M.length c8);refine FB.k2 fun q0 q1 aa=>?_;clear aa;go_wp2
 refine bodyPost_ret (v:=.agg #[.int .i64 P,.slice o8 M.length c8]) (by simp [results,Tryz.results141,go_sem,q0,q1]) rfl ?_;exact ⟨⟨_,rfl,Sl.weak (far_put2 P8 s2 (.int .i64 P) (.slice o8 M.length c8)) (by show w.heap.size≤w2.heap.size;omega)⟩,AF⟩
end Go.Proofs.YtmamlgaogpkagaaGreat
