/- TvI TvJ TvK TvN. -/
import Derived.Test.YtmamlgaogpkagaaGreatQLPlain
import Derived.Test.YtmamlgaogpkagaaGreatQLGen
import Derived.Test.YtmamlgaogpkagaaGreatQLSl
import Derived.Test.YtmamlgaogpkagaaGreatQRnV
import Derived.Test.YtmamlgaogpkagaaGreatQRnKF
import Derived.Test.YtmamlgaogpkagaaGreatQPeKD
import Derived.Test.YtmamlgaogpkagaaGreatQPeKJ
import Derived.Test.YtmamlgaogpkagaaGreatQTsGa
import Derived.Test.YtmamlgaogpkagaaGreatQTsI
import Derived.Test.YtmamlgaogpkagaaGreatQTvB
import Derived.RangeFuncNested
import Derived.RangeFuncBound
import Derived.RangeFuncCalls
import Derived.RangeFuncLeaves
import Derived.Shelf.Abstract
import Derived.Shelf.RegionOpen
import Derived.WalkKit
import Derived.OwnWalkIn
import Derived.TacticsInMore
import Derived.LoopNIn
import Derived.LoopIn
import Derived.Deep.RegionHeld3
import Derived.Laws.EntriesVeiled
import Derived.StillTailTactics
import Derived.BigQuiet
import Derived.Deep.QuietTactic
namespace Go.Proofs.YtmamlgaogpkagaaGreat
open Go.RowKit Go.Shelf
attribute [local go_sem] Oper.semAt_some
set_option linter.unusedVariables false
set_option linter.unusedSimpArgs false
def KpB (Bn B0:Nat) (W W':World):Prop:=∀ p u,(p.block=Bn∨p.block<B0)→W.cell? p=some u→W'.cell? p=some u
theorem KpB.tr {Bn B0:Nat} {X Y Z:World} (h:KpB Bn B0 X Y) (k:KpB Bn B0 Y Z):KpB Bn B0 X Z:=fun p u hp c=>k p u hp (h p u hp c)
theorem KpB.put {Bn B0:Nat} (W:World) (l:Nat) (o o':Obj) (h:W.heap[l]?=some o) (hc:o.isCells=false):KpB Bn B0 W (W.putObj l o') :=
 fun p u _ c=>cell_kept c (grownBy_putObj' W l o') (fun r e=>by cases e;exact ⟨o,h,hc⟩)
theorem cell_lt {W:World} {p:Addr} {u:Value} (h:W.cell? p=some u):p.block<W.heap.size:=by
 by_cases c:p.block<W.heap.size
 ·exact c
 ·unfold World.cell? at h
  rw [Array.getElem?_eq_none (by omega)] at h
  simp at h
theorem KpB.below {Bn B0:Nat} {W W':World} (hb:Below W.heap.size W W'):KpB Bn B0 W W':=fun p u _ c=>by rw [hb.cell (cell_lt c)];exact c
theorem KpB.set {Bn B0 b o:Nat} (W:World) (u:Value) (h1:b≠Bn) (h2:B0≤b):KpB Bn B0 W (W.setCell ⟨b,o,none⟩ u):=fun p v hp c=>by
 rw [zco (h:=by intro e;rw [← e] at hp;simp at hp;omega)];exact c
def bkK (L:List Sp):Nat→List (Nat × Sp)
  | 0=>[]
  | k+1=>bkK L k++[(L.length - 1 - k,L.getD (L.length - 1 - k) (0,0))]
theorem bk_len (L:List Sp):∀ k,(bkK L k).length=k
  | 0=>rfl
  | k+1=>by unfold bkK;rw [List.length_append,bk_len L k];rfl
def mrF (e:Int) (x:Nat × Sp):Sp:=(wrap64 (e - x.2.2),wrap64 (e - x.2.1))
theorem wr64 {n:Int} (h:-9223372036854775808≤n∧n≤9223372036854775807):wrap64 n=n:=by unfold wrap64;omega
def FtL (L:List Sp) (e:Int):Prop:=∀ q,q∈L→I64 (e - q.1)∧I64 (e - q.2)
theorem mrF_eq {L:List Sp} {e:Int} (h:FtL L e) {m:Nat} (hm:m<L.length) (i:Nat):mrF e (i,L.getD m (0,0))=(e - (L.getD m (0,0)).2,e - (L.getD m (0,0)).1):=by
 obtain ⟨a,b⟩:=h _ (getD_mem hm)
 unfold I64 at a b
 unfold mrF
 rw [show wrap64 (e - (i,L.getD m (0,0)).2.2)=_ from wr64 b,show wrap64 (e - (i,L.getD m (0,0)).2.1)=_ from wr64 a]
theorem bk_mr (L:List Sp) (e:Int) (ft:FtL L e):∀ k,k≤L.length→(bkK L k).map (mrF e)=(mrL L e).take k
  | 0,_=>rfl
  | k+1,h=>by
    have h2:L.length - 1 - k<L.length:=by omega
    have key:(mrL L e)[k]?=some (mrF e (L.length - 1 - k,L.getD (L.length - 1 - k) (0,0))):=by
      rw [mrF_eq ft h2]
      unfold mrL
      rw [List.getElem?_reverse (by rw [List.length_map];omega),List.length_map,List.getElem?_map,List.getElem?_eq_getElem h2,gD h2];rfl
    unfold bkK
    rw [List.map_append,bk_mr L e ft k (by omega),List.take_add_one,key];rfl
theorem bk_all (L:List Sp) (e:Int) (ft:FtL L e):(bkK L L.length).map (mrF e)=mrL L e:=by
 rw [bk_mr L e ft _ (Nat.le_refl _),List.take_of_length_le (by rw [mr_len];exact Nat.le_refl _)]
def RwB (W:World) (o:Option Addr) (L:List Sp) (B0:Nat):Prop:=∀ i,i<L.length→∃ b off,o=some ⟨b,off,none⟩∧b<B0∧W.cell? ⟨b,off+i * 2,none⟩=some (.int .i64 (L.getD i (0,0)).1)∧W.cell? ⟨b,off+i * 2+1,none⟩=some (.int .i64 (L.getD i (0,0)).2)
theorem RwB.of {ba:Nat} {W:World} {o:Option Addr} {c:Nat} {L:List Sp} (h:PairS ba W (.slice o L.length c) L):RwB W o L W.heap.size:=fun i hi=>by
 obtain ⟨b,off,e,bl,cs⟩:=prs_here h hi;exact ⟨b,off,e,bl,cs i hi⟩
theorem RwB.keep {Bn B0:Nat} {W W':World} {o:Option Addr} {L:List Sp} (h:RwB W o L B0) (k:KpB Bn B0 W W'):RwB W' o L B0:=fun i hi=>by
 obtain ⟨b,off,e,bl,c0,c1⟩:=h i hi;exact ⟨b,off,e,bl,k _ _ (Or.inr bl) c0,k _ _ (Or.inr bl) c1⟩
set_option maxRecDepth 100000 in
set_option maxHeartbeats 2000000 in
theorem bk1_in (n:Nat) (hn:1≤n) (l Bn B0:Nat) (L:List Sp) (hL:L.length≤100000) (ao:Option Addr) (cp:Nat) (J Jx:List (Nat × Sp)→World→Prop)
    (hY:∀ pre (x:Nat × Sp) W,J pre W→pre.length<L.length→YieldAt Fence.wide (n - 1) Tryz.prog l #[.int .i64 (x.1:Int),.agg #[.int .i64 x.2.1,.int .i64 x.2.2]] W fun e W' =>
      (e=.returned (.bool true)∧J (pre++[x]) W'∧KpB Bn B0 W W')∨(e=.returned (.bool false)∧Jx (pre++[x]) W'))
    (W:World) (hBn:W.cell? ⟨Bn,0,none⟩=some (.slice ao L.length cp)) (hR:RwB W ao L B0) (h0:J [] W) :
    CallsIn Fence.wide n Tryz.prog 194 #[.func (.yield l) #[] #[],.pointer (some ⟨Bn,0,none⟩)] W fun e W'=>(∃ v,e=.returned v) ∧
      ((∃ ys,ys=bkK L L.length∧J ys W')∨(∃ pre,True∧Jx pre W')):=by
  refine callsIn_of_wp Tryz.func194 rfl trivial ?_ rfl
  simp only [Tryz.ntmps194,List.size_toArray,List.length_cons,List.length_nil,Nat.reduceAdd,Nat.reduceSub,Array.replicate_succ,Array.replicate_zero,List.push_toArray,List.append_toArray,List.nil_append,List.cons_append]
  gi_wp2
  gi_loopw [3] (fun i wr=>∃ (k:Nat) (z:Int),k≤L.length∧z=(L.length:Int) - 1 - k∧i=.int .i64 z∧J (bkK L k) wr∧wr.cell? ⟨Bn,0,none⟩=some (.slice ao L.length cp)∧Hid (RwB wr ao L B0)) (fun i _=>(intOf i+1).toNat)
  case atStart=>exact ⟨0,(L.length:Int) - 1,by omega,by omega,rfl,h0,hBn,hR⟩
  case round =>
    obtain ⟨k,z,hk,hz,rfl,hJs,hc,hRw⟩:=hrel
    by_cases q:k<L.length
    · obtain ⟨m,rfl⟩:∃ m:Nat,z=m:=⟨z.toNat,by omega⟩;have kz:decide (0≤(m:Int))=true:=zdt (by omega);have em:L.length - 1 - k=m:=by omega
      have ml:m<L.length:=by omega
      have mi:(m:Int)<(L.length:Int):=by omega
      obtain ⟨bb,off,rfl,bl,c0,c1⟩:=hRw.out m ml;have rel:bkK L (k+1)=bkK L k++[(m,L.getD m (0,0))]:=by show bkK L k++_=_;rw [em]
      obtain ⟨fn,tmps,assign,body,hy,hR'⟩:=hY _ (m,L.getD m (0,0)) wr hJs (by rw [bk_len];exact q)
      dsimp only at hy
      generalize L.getD m (0,0)=x at *;obtain ⟨x0,x1⟩:=x;replace hz:=zh hz
      gi_wp2
      refine hR'.mono ?_;rintro e W3 (⟨rfl,hJ3,hk3⟩ | ⟨rfl,hJx3⟩)
      · have hc3:=hk3 _ _ (Or.inl rfl) hc;have hR3:=zh (hRw.out.keep hk3)
        gi_wp2
        go_roundw
        case rel=>exact ⟨k+1,(m:Int) - 1,by omega,by have:=hz.out;omega,rfl,by rw [rel];exact hJ3,hc3,hR3⟩
        case measure=>simp [intOf]
      · gi_wp2
        refine bodyPost_ret (results_none rfl _ _ _) rfl ?_;exact ⟨⟨_,rfl⟩,.inr ⟨_,trivial,hJx3⟩⟩
    · obtain rfl:k=L.length:=by omega
      obtain rfl:z=-1:=by omega
      have kz:decide (0≤(-1:Int))=false:=rfl
      gi_wp2
      go_end0
      exact ⟨⟨_,rfl⟩,.inl ⟨_,rfl,hJs⟩⟩
set_option maxRecDepth 100000 in
set_option maxHeartbeats 1000000 in
theorem bk_in (n:Nat) (ao:Option Addr) (k cp:Nat) (w:World) :
    CallsIn Fence.wide n Tryz.prog 172 #[.slice ao k cp] w fun e w'=>e=.returned (.func (.func 194) #[] #[.pointer (some ⟨w.heap.size,0,none⟩)])∧w'=w.alloc (.cells #[.slice ao k cp] 22):=by
  refine callsIn_of_wp Tryz.func172 rfl trivial ?_ rfl
  simp only [Tryz.ntmps172,List.size_toArray,List.length_cons,List.length_nil,Nat.reduceAdd,Nat.reduceSub,Array.replicate_succ,Array.replicate_zero,List.push_toArray,List.append_toArray,List.nil_append,List.cons_append]
  gi_wp2
  go_ret
  exact ⟨rfl,rfl⟩
theorem bk_stops (n:Nat) (hn:1≤n) (Bn B0:Nat) (L:List Sp) (hL:L.length≤100000) (ao:Option Addr) (cp:Nat) (w:World) (hc:w.cell? ⟨Bn,0,none⟩=some (.slice ao L.length cp)) (hl:Bn<w.heap.size) (hR:RwB w ao L B0) (hB:B0≤w.heap.size) :
    SeqStopsK Fence.wide n Tryz.prog 194 #[.pointer (some ⟨Bn,0,none⟩)] (fun x:Nat × Sp=>#[Value.int .i64 (x.1:Int),.agg #[.int .i64 x.2.1,.int .i64 x.2.2]]) (KpB Bn B0) (fun ys=>ys=bkK L L.length) (fun _=>True) L.length w :=
  fun l J Jx W hW _ _ hY h0=>bk1_in n hn l Bn B0 L hL ao cp J Jx hY W ((hW.cell (p:=⟨Bn,0,none⟩) hl).trans hc) (fun i hi=>by
    obtain ⟨b,off,e,bl,c0,c1⟩:=hR i hi;exact ⟨b,off,e,bl,(hW.cell (p:=⟨b,off+i * 2,none⟩) (by show b<_;omega)).trans c0,(hW.cell (p:=⟨b,off+i * 2+1,none⟩) (by show b<_;omega)).trans c1⟩) h0
def Bx2 (W:World) (B:Nat) (x y:Int):Prop:=W.heap[B]?=some (.cells #[.int .i64 x,.int .i64 y] 40 (0,0))
theorem Bx2.own (B:Nat) (x y:Int) {X Y:World} {row:Option Nat} (h:Bx2 X B x y) (hg:X.grownBy Y row) (hr:∀ r,row=some r→∃ o:Obj,X.heap[r]?=some o∧o.isCells=false):Bx2 Y B x y:=by
 show Y.heap[B]?=_
 rw [hg.block B (Array.getElem?_eq_some_iff.1 h).1 (fun e=>by obtain ⟨o,ho,hc⟩:=hr B e.symm;rw [show X.heap[B]?=_ from h] at ho;cases ho;cases hc)];exact h
theorem Bx2.c {W:World} {B:Nat} {x y:Int} (h:Bx2 W B x y):W.cell? ⟨B,0,none⟩=some (.int .i64 x)∧W.cell? ⟨B,1,none⟩=some (.int .i64 y):=by
 constructor <;> simp [World.cell?,show W.heap[B]?=_ from h]
set_option maxRecDepth 100000 in
set_option maxHeartbeats 3000000 in
theorem tvmrl (L:List Sp) (hL:L.length≤100000) (e:Int) (ft:FtL L e) (v:Value) {ba:Nat} (w:World) (h:PairS ba w v L) :
    Calls Tryz.prog 142 #[v,.int .i64 e] w fun r w'=>(∃ v',r=.returned v'∧PairS w.heap.size w' v' (mrL L e))∧Below w.heap.size w w':=by
  obtain ⟨i0,hi,hz0,hz1,hz2⟩:=info_parts infoS;obtain ⟨ao,cp,rfl⟩:=prs_shape h;have hm:Tryz.prog.follows .mixedOrders=true:=by kernel_rfl
  refine (callsIn_wide (n:=6)).1 ?_;refine callsIn_of_wp_marks Tryz.func142 rfl trivial ?_ rfl
  simp only [Tryz.ntmps142,List.size_toArray,List.length_cons,List.length_nil,Nat.reduceAdd,Nat.reduceSub,Array.replicate_succ,Array.replicate_zero,List.push_toArray,List.append_toArray,List.nil_append,List.cons_append]
  gi_wp2_with (refine ⟨trivial,?_⟩;gi_at_call 172;refine (bk_in _ _ _ _ _).mono ?_;rintro e w' ⟨rfl,rfl⟩)
  have bE:=((Boxed.new w 3 (.int .i64 e)).alloc (.cells #[.slice none 0 0] 22)).alloc (.cells #[.slice ao L.length cp] 22);have bM:=(Boxed.new (w.alloc (.cells #[.int .i64 e] 3)) 22 (.slice none 0 0)).alloc (.cells #[.slice ao L.length cp] 22);have bN:=Boxed.new ((w.alloc (.cells #[.int .i64 e] 3)).alloc (.cells #[.slice none 0 0] 22)) 22 (.slice ao L.length cp)
  simp only [World.size_alloc] at bM bN
  have hB0:Below w.heap.size w (((w.alloc (.cells #[.int .i64 e] 3)).alloc (.cells #[.slice none 0 0] 22)).alloc (.cells #[.slice ao L.length cp] 22)):=grow (grow (grow (here w) _) _) _;have hsz:(((w.alloc (.cells #[.int .i64 e] 3)).alloc (.cells #[.slice none 0 0] 22)).alloc (.cells #[.slice ao L.length cp] 22)).heap.size=w.heap.size+3:=by simp
  obtain ⟨W0,hW0⟩:∃ W0,(((w.alloc (.cells #[.int .i64 e] 3)).alloc (.cells #[.slice none 0 0] 22)).alloc (.cells #[.slice ao L.length cp] 22))=W0:=⟨_,rfl⟩;rw [hW0] at bE bM bN hB0 hsz ⊢;clear hW0;have RW:RwB W0 ao L w.heap.size:=fun i hi=>by
    obtain ⟨b,off,e,bl,c0,c1⟩:=RwB.of h i hi;exact ⟨b,off,e,bl,(hB0.cell (p:=⟨b,off+i * 2,none⟩) bl).trans c0,(hB0.cell (p:=⟨b,off+i * 2+1,none⟩) bl).trans c1⟩
  refine wpIn_rangeFunc_ownH rfl (by decide) (gf:=194) (lb:=#[.pointer (some ⟨w.heap.size+1+1,0,none⟩)]) rfl trivial (enters_of Tryz.func194 (by kernel_rfl) rfl)
    (bk_stops (6 - 1) (by decide) (w.heap.size+1+1) w.heap.size L hL ao cp W0 bN.cell bN.lt RW (by omega)) KpB.tr (fun W l o o' _ h hc _=>KpB.put W l o o' h hc) (Below.refl _ _) (fun _=>rfl)
    (fun pre W=>((∃ v,Boxed W (w.heap.size+1) 22 v∧W.ownsRow w.heap.size 40 2 v pre.length (pairs (pre.map (mrF e)))∧True)∧(Boxed W w.heap.size 3 (.int .i64 e)∧Boxed W (w.heap.size+1+1) 22 (.slice ao L.length cp)))∧Below w.heap.size w W)
    (fun _ _ _=>False)
    (OwnFrom.and (OwnFrom.and (Own.from (holdsRow_own w.heap.size (w.heap.size+1) 22 40 2 (fun pre:List (Nat × Sp)=>pre.length) (fun pre=>pairs (pre.map (mrF e))) (fun _ _=>True)) _) (OwnFrom.and (Own.from (boxed_own _ _ _) _) (Own.from (boxed_own _ _ _) _))) (ownFrom_below (Nat.le_refl _) (by omega)))
    (fun _ _ _ _ _ hs _ _=>hs)
    ⟨⟨⟨_,bM,World.ownsRow_nil _ _ _ _,trivial⟩,bE,bN⟩,hB0⟩
    (fun x a' W=>∃ Bx,w.heap.size+1+1<Bx∧Bx2 W Bx x.2.1 x.2.2∧a'={ tmps:=#[.slice ao L.length cp,.int .i64 e,undef,.pointer (some ⟨w.heap.size,0,none⟩),.slice none 0 0,.pointer (some ⟨w.heap.size+1,0,none⟩),undef,.pointer (some ⟨Bx,0,none⟩),.slice ao L.length cp,.func (.func 194) #[] #[.pointer (some ⟨w.heap.size+1+1,0,none⟩)],.int .i64 (x.1:Int),.agg #[.int .i64 x.2.1,.int .i64 x.2.2],undef,undef,undef,undef,undef,undef,undef,undef,undef,undef,undef,undef,undef],defers:=[] })
    (fun x a' _ X Y row hs hg hr=>by obtain ⟨Bx,h1,h2,h3⟩:=hs;exact ⟨Bx,h1,Bx2.own Bx _ _ h2 hg (fun r e=>(hr r e).2),h3⟩)
    ?assign ?body ?done ?stop
  case assign =>
    rintro l pre x W K ⟨⟨⟨v,bM1,hrow,-⟩,bE1,bN1⟩,hB1⟩ hK;have hle:=hB1.size;have lM:=bM1.lt;have lN:=bN1.lt
    gi_wp2
    exact hK _ _ ((KeepsOthers.alloc _ _).from _) (KpB.below (grow (here W) _)) ⟨⟨⟨v,bM1.alloc _,hrow.alloc _,trivial⟩,bE1.alloc _,bN1.alloc _⟩,hB1.alloc (by omega) _⟩ ⟨W.heap.size,by omega,World.alloc_heap_new W _,rfl⟩
  case body =>
    rintro l pre x a' W hl ⟨r,hr⟩ ⟨⟨⟨v,hv,hrow,-⟩,bE1,bN1⟩,hB⟩ ⟨Bx,hBx,bX,rfl⟩ hlt;have hc1:=hv.cell;have hcE:=bE1.cell;obtain ⟨hx0,hx1⟩:=bX.c;have hle:=hB.size
    gi_wp2_with (gi_at_builtin;refine wpListIn_append_own _ rfl _ _ 22 rfl w.heap.size 40 i0 (.agg #[.int .i64 0,.int .i64 0]) 2 16 Tryz.underlying22 hi hz0 hz1 hz2 rfl (by decide) _ _ _ rfl (hrow.alloc _) ⟨W.heap.size,0,none⟩ 1 1 [.int .i64 (wrap64 (e - x.2.2)),.int .i64 (wrap64 (e - x.2.1))] rfl rfl (fun j u hj=>by rw [Addr.add_lit,Nat.zero_add,World.cell?_alloc_new];simpa using hj) (by simp [Value.oneCell']) (by unfold maxLen;omega) (by omega) (by simp;omega) ?_;intro v' w1 hown' hgrow _;obtain ⟨g',cap',rfl⟩:=ownsRow_succ hown';obtain ⟨hv1,hv2,hr2,hk2,hb2⟩:=hv.appended (by decide) hrow hB.size (by omega) hown' hgrow;have hc2:=hv1.cell;have hf2:=hv1.frozen;have bE2:=((bE1.alloc _).kept hgrow (bE1.not_row (by decide) hrow)).other (show w.heap.size≠w.heap.size+1 by omega) (.slice (some ⟨g',0,none⟩) (pre.length+1) cap');have bN2:=((bN1.alloc _).kept hgrow (bN1.not_row (by decide) hrow)).other (show w.heap.size+1+1≠w.heap.size+1 by omega) (.slice (some ⟨g',0,none⟩) (pre.length+1) cap'))
    refine ⟨hk2.from _,fun p u hp c=>?_,⟨⟨_,hv2,?_,trivial⟩,bE2,bN2⟩,hB.trans hb2⟩
    · rcases hp with hp | hp
      · rw [World.cell?_of_block (w:=W) (a:=p) (by rw [hp];exact (show _=_ from bN2).trans (show _=_ from bN1).symm)];exact c
      · rw [hb2.cell hp];exact c
    · rw [List.map_append,pairs_append,List.length_append];exact hr2
  case done =>
    rintro D ys W hD rfl ⟨⟨⟨v,hv,hrow,-⟩,bE1,bN1⟩,hB⟩ hK;have hc1:=hv.cell
    gi_wp2
    refine ⟨by simp,.inl ⟨_,_,rfl,run_takeDeferred hK,?_⟩⟩;refine ⟨_,results_tmp rfl _ _ _,⟨v,rfl,?_⟩,hB.trans (belowK_b (w:=w) (Nat.le_refl _) W D _ _ (by omega) hK rfl rfl)⟩;rw [bk_all L e ft,bk_len] at hrow
    show Sl _ _ _ _ _
    rw [mr_len];exact Sl.owns (ownsRow_putObj hrow _ hK rfl)
  case stop =>
    rintro D c pre W _ _ h _;exact h.elim
set_option maxRecDepth 100000 in
set_option maxHeartbeats 2000000 in
theorem tvmrp (P:Int) (va:Value) (A:List Sp) (pw:PW P A) {ba:Nat} (w:World) (a:PairS ba w va A) :
    Calls Tryz.prog 141 #[.agg #[.int .i64 P,va]] w fun e w'=>(∃ v',e=.returned (.agg #[.int .i64 P,v'])∧PairS w.heap.size w' v' (mrL A P))∧Below w.heap.size w w':=by
  obtain ⟨oa,ca,rfl⟩:=prs_shape a;obtain ⟨w2,hw2⟩:∃ w2:World,((w.alloc (.cells #[.int .i64 P,.slice oa A.length ca] 24)).alloc (.cells #[.int .i64 0,.slice none 0 0] 24))=w2:=⟨_,rfl⟩;have TB:Hid (Bxs w2 w.heap.size [.int .i64 P,.slice oa A.length ca]):=by show Bxs _ _ _;rw [← hw2];exact (Bxs.new (w:=w) [.int .i64 P,.slice oa A.length ca] 24).old _
  have RB:Hid (Bxo w2 (w.heap.size+1) [.int .i64 0,.slice none 0 0]):=by show Bxo _ _ _;rw [← hw2];exact Bxo.snd (w:=w) (o:=(.cells #[.int .i64 P,.slice oa A.length ca] 24)) [.int .i64 0,.slice none 0 0] 24
  have A2:Hid (Below w.heap.size w w2):=by show Below _ _ _;rw [← hw2];exact grow (grow (here w) _) _
  have ft:FtL A P:=fun q hq=>by have h1:=pw.ip q hq;have h2:=pw.cn.lt q hq;have h3:=pw.p1;unfold I64;omega
  have HC:Hid (∀ W,Below w.heap.size w W→Calls Tryz.prog 142 #[.slice oa A.length ca,.int .i64 P] W fun e w'=>(∃ v',e=.returned v'∧PairS W.heap.size w' v' (mrL A P))∧Below W.heap.size W w'):=fun W hW=>tvmrl A (by have:=pw.len;omega) P ft _ W (a.keep hW);have s2:w.heap.size+1<w2.heap.size:=RB.out.t.lt;have hS0:Below w.heap.size w w2∧w2.cell? ⟨w.heap.size,0,none⟩=some (.int .i64 P)∧w2.cell? ⟨w.heap.size,1,none⟩=some (.slice oa A.length ca)∧w.heap.size<w2.heap.size:=⟨A2.out,TB.out.c 0 _ rfl,TB.out.c 1 _ rfl,by omega⟩;have R2:Bxo w2.drew (w.heap.size+1) [.int .i64 0,.slice none 0 0]:=RB.out.keep (here w2).drew;have ml:(mrL A P).length=A.length:=mr_len A P;obtain ⟨M,hM⟩:∃ M,mrL A P=M:=⟨_,rfl⟩;rw [hM] at HC ⊢;clear TB RB ft hM ml
  go_enter Tryz.func141,Tryz.ntmps141
  go_wp2
  have mk:∀ W W':World,(Below w.heap.size w W∧W.cell? ⟨w.heap.size,0,none⟩=some (.int .i64 P)∧W.cell? ⟨w.heap.size,1,none⟩=some (.slice oa A.length ca)∧w.heap.size<W.heap.size)→Below W.heap.size W W'→(Below w.heap.size w W'∧W'.cell? ⟨w.heap.size,0,none⟩=some (.int .i64 P)∧W'.cell? ⟨w.heap.size,1,none⟩=some (.slice oa A.length ca)∧w.heap.size<W'.heap.size):=fun W W' ⟨kb,k0_0,k0_1,kl⟩ hb=>⟨down kb hb,(hb.cell (p:=⟨w.heap.size,0,none⟩) (by show w.heap.size<_;omega)).trans k0_0,(hb.cell (p:=⟨w.heap.size,1,none⟩) (by show w.heap.size<_;omega)).trans k0_1,zll kl hb.size⟩;have ks:∀ (W:World) (u0 u1:Value),(Below w.heap.size w W∧W.cell? ⟨w.heap.size,0,none⟩=some (.int .i64 P)∧W.cell? ⟨w.heap.size,1,none⟩=some (.slice oa A.length ca)∧w.heap.size<W.heap.size)→(Below w.heap.size w ((W.setCell ⟨w.heap.size+1,0,none⟩ u0).setCell ⟨w.heap.size+1,1,none⟩ u1)∧((W.setCell ⟨w.heap.size+1,0,none⟩ u0).setCell ⟨w.heap.size+1,1,none⟩ u1).cell? ⟨w.heap.size,0,none⟩=some (.int .i64 P)∧((W.setCell ⟨w.heap.size+1,0,none⟩ u0).setCell ⟨w.heap.size+1,1,none⟩ u1).cell? ⟨w.heap.size,1,none⟩=some (.slice oa A.length ca)∧w.heap.size<((W.setCell ⟨w.heap.size+1,0,none⟩ u0).setCell ⟨w.heap.size+1,1,none⟩ u1).heap.size):=fun W u0 u1 ⟨kb,k0_0,k0_1,kl⟩=>⟨((kb.setCell (p:=⟨w.heap.size+1,0,none⟩) (by show w.heap.size≤w.heap.size+1;omega) _).setCell (p:=⟨w.heap.size+1,1,none⟩) (by show w.heap.size≤w.heap.size+1;omega) _),by rw [zco (h:=by intro h;have:=congrArg Addr.block h;simp at this;try omega),zco (h:=by intro h;have:=congrArg Addr.block h;simp at this;try omega)];exact k0_0,by rw [zco (h:=by intro h;have:=congrArg Addr.block h;simp at this;try omega),zco (h:=by intro h;have:=congrArg Addr.block h;simp at this;try omega)];exact k0_1,by rw [size_set,size_set];exact kl⟩
  go_region_held3 (fun W'=>Below w.heap.size w W'∧W'.cell? ⟨w.heap.size,0,none⟩=some (.int .i64 P)∧W'.cell? ⟨w.heap.size,1,none⟩=some (.slice oa A.length ca)∧w.heap.size<W'.heap.size) (first | assumption | (exact mk _ _ (by assumption) (here _).drew) | (exact mk _ _ (by assumption) (grow (here _) _)) | (exact ks _ _ _ (by assumption)))
    (first
     | (go_at_call 142;(with_reducible refine (HC.out _ (And.left (by assumption))).mono ?_);rintro e w' ⟨⟨v8,rfl,P8⟩,hb⟩;obtain ⟨o8,c8,rfl⟩:=Sl.shape P8;have hS:=mk _ w' (by assumption) hb;have R8:Bxo w' (w.heap.size+1) [.int .i64 0,.slice none 0 0]:=Bxo.keep (by assumption) hb;have rc0:=R8.t.c 0 _ rfl;have rf0:=R8.f 0;have rc1:=R8.t.c 1 _ rfl;have rf1:=R8.f 1))
  have FB:=R8.put2 (.int .i64 P) (.slice o8 M.length c8);have AF:=below_put2 hS.1 (show w.heap.size≤w.heap.size+1 by omega) (.int .i64 P) (.slice o8 M.length c8);obtain ⟨q0,q1,-⟩:=FB.z2;go_wp2
  refine bodyPost_ret (v:=.agg #[.int .i64 P,.slice o8 M.length c8]) (by simp [results,Tryz.results141,go_sem,q0,q1]) rfl ?_;exact ⟨⟨_,rfl,Sl.weak (far_put2 P8 s2 (.int .i64 P) (.slice o8 M.length c8)) (by show w.heap.size≤w2.heap.size;omega)⟩,AF⟩
end Go.Proofs.YtmamlgaogpkagaaGreat
namespace Go.Proofs.YtmamlgaogpkagaaGreat
open Go.RowKit
set_option linter.unusedVariables false
set_option linter.unusedSimpArgs false
def miOps:Array Oper:=#[
 { dst:=some 3,op:=Go.Op.fieldAddr 26 (Go.Operand.tmp 1) 1,type:=0,pos := "view.go:129",after:=#[],guard:=none },
 { dst:=some 4,op:=Go.Op.load 24 (Go.Operand.tmp 3),type:=24,pos := "view.go:129",after:=#[{ on:=0,ground:=Go.Ground.data }],guard:=none },
 { dst:=some 5,op:=Go.Op.call { callee:=Go.Callee.value (Go.Operand.func 141),args:=#[Go.Operand.tmp 4],argTypes:=#[24] },type:=24,pos := "view.go:129",after:=#[{ on:=1,ground:=Go.Ground.data }],guard:=none },
 { dst:=some 6,op:=Go.Op.fieldAddr 26 (Go.Operand.tmp 1) 0,type:=0,pos := "view.go:129",after:=#[],guard:=none },
 { dst:=some 7,op:=Go.Op.load 24 (Go.Operand.tmp 6),type:=24,pos := "view.go:129",after:=#[{ on:=3,ground:=Go.Ground.data }],guard:=none },
 { dst:=some 8,op:=Go.Op.call { callee:=Go.Callee.value (Go.Operand.func 141),args:=#[Go.Operand.tmp 7],argTypes:=#[24] },type:=24,pos := "view.go:129",after:=#[{ on:=4,ground:=Go.Ground.data },{ on:=2,ground:=Go.Ground.chain }],guard:=none },
 { dst:=some 9,op:=Go.Op.fieldAddr 26 (Go.Operand.tmp 1) 3,type:=0,pos := "view.go:129",after:=#[],guard:=none },
 { dst:=some 10,op:=Go.Op.load 3 (Go.Operand.tmp 9),type:=3,pos := "view.go:129",after:=#[{ on:=6,ground:=Go.Ground.data }],guard:=none },
 { dst:=some 11,op:=Go.Op.unOp Go.UnOp.neg 3 (Go.Operand.tmp 10),type:=3,pos := "view.go:129",after:=#[{ on:=7,ground:=Go.Ground.data }],guard:=none },
 { dst:=some 12,op:=Go.Op.fieldAddr 26 (Go.Operand.tmp 1) 2,type:=0,pos := "view.go:129",after:=#[],guard:=none },
 { dst:=some 13,op:=Go.Op.load 3 (Go.Operand.tmp 12),type:=3,pos := "view.go:129",after:=#[{ on:=9,ground:=Go.Ground.data }],guard:=none },
 { dst:=some 14,op:=Go.Op.unOp Go.UnOp.neg 3 (Go.Operand.tmp 13),type:=3,pos := "view.go:129",after:=#[{ on:=10,ground:=Go.Ground.data }],guard:=none },
 { dst:=some 15,op:=Go.Op.fieldAddr 26 (Go.Operand.tmp 1) 4,type:=0,pos := "view.go:129",after:=#[],guard:=none },
 { dst:=some 16,op:=Go.Op.load 22 (Go.Operand.tmp 15),type:=22,pos := "view.go:129",after:=#[{ on:=12,ground:=Go.Ground.data }],guard:=none },
 { dst:=some 17,op:=Go.Op.call { callee:=Go.Callee.value (Go.Operand.func 142),args:=#[Go.Operand.tmp 16,Go.Operand.const (Go.Value.int Go.IntKind.i64 0)],argTypes:=#[22,3] },type:=22,pos := "view.go:129",after:=#[{ on:=13,ground:=Go.Ground.data },{ on:=5,ground:=Go.Ground.chain }],guard:=none },
 { dst:=some 18,op:=Go.Op.build 26 #[(0,Go.Operand.tmp 5),(1,Go.Operand.tmp 8),(2,Go.Operand.tmp 11),(3,Go.Operand.tmp 14),(4,Go.Operand.tmp 17)],type:=26,pos := "view.go:129",after:=#[{ on:=2,ground:=Go.Ground.data },{ on:=5,ground:=Go.Ground.data },{ on:=8,ground:=Go.Ground.data },{ on:=11,ground:=Go.Ground.data },{ on:=14,ground:=Go.Ground.data }],guard:=none },
 { dst:=none,op:=Go.Op.store 26 (Go.Operand.tmp 2) (Go.Operand.tmp 18),type:=0,pos := "view.go:129",after:=#[{ on:=15,ground:=Go.Ground.data },{ on:=14,ground:=Go.Ground.chain },{ on:=0,ground:=Go.Ground.phase },{ on:=1,ground:=Go.Ground.phase },{ on:=2,ground:=Go.Ground.phase },{ on:=3,ground:=Go.Ground.phase },{ on:=4,ground:=Go.Ground.phase },{ on:=5,ground:=Go.Ground.phase },{ on:=6,ground:=Go.Ground.phase },{ on:=7,ground:=Go.Ground.phase },{ on:=8,ground:=Go.Ground.phase },{ on:=9,ground:=Go.Ground.phase },{ on:=10,ground:=Go.Ground.phase },{ on:=11,ground:=Go.Ground.phase },{ on:=12,ground:=Go.Ground.phase },{ on:=13,ground:=Go.Ground.phase },{ on:=14,ground:=Go.Ground.phase },{ on:=15,ground:=Go.Ground.phase }],guard:=none }]
set_option maxRecDepth 100000 in
set_option maxHeartbeats 4000000 in
theorem mi_region (Q:Exit→Act→World→Prop) (P Q0 a b:Int) (va vb vl u:Value) (b0 b1:Nat) (n1 n2 n3:Nat) (x1 x2 x3:List Value) (a0:-4398046511104≤a) (a1:a≤4398046511104) (e0:-4398046511104≤b) (e1:b≤4398046511104) (w w0:World) (hQ:∀ c a d v w,Q (.panic c) (Act.put a (some d) v) w→Q (.panic c) a w) (HR:Hid (∀ W,Below w.heap.size w W→Calls Tryz.prog 141 #[.agg #[.int .i64 Q0,vb]] W fun e w'=>(∃ v',e=.returned (.agg #[.int .i64 Q0,v'])∧Sl W.heap.size w' v' n1 x1)∧Below W.heap.size W w')) (HL:Hid (∀ W,Below w.heap.size w W→Calls Tryz.prog 141 #[.agg #[.int .i64 P,va]] W fun e w'=>(∃ v',e=.returned (.agg #[.int .i64 P,v'])∧Sl W.heap.size w' v' n2 x2)∧Below W.heap.size W w')) (HC:Hid (∀ W,Below w.heap.size w W→Calls Tryz.prog 142 #[vl,.int .i64 0] W fun e w'=>(∃ v',e=.returned (v')∧Sl W.heap.size w' v' n3 x3)∧Below W.heap.size W w')) (hS0:Below w.heap.size w w0∧w0.cell? ⟨b0,0,none⟩=some (.int .i64 P)∧w0.cell? ⟨b0,1,none⟩=some (va)∧w0.cell? ⟨b0,2,none⟩=some (.int .i64 Q0)∧w0.cell? ⟨b0,3,none⟩=some (vb)∧w0.cell? ⟨b0,4,none⟩=some (.int .i64 a)∧w0.cell? ⟨b0,5,none⟩=some (.int .i64 b)∧w0.cell? ⟨b0,6,none⟩=some (vl)∧b0<w0.heap.size) (R0:Bxo w0 (b1) [.int .i64 0,.slice none 0 0,.int .i64 0,.slice none 0 0,.int .i64 0,.int .i64 0,.slice none 0 0]) (le:w.heap.size≤b1) (ne:b0≠b1)
  (fin:∀ (o1:Option Addr) (c1:Nat) (o2:Option Addr) (c2:Nat) (o3:Option Addr) (c3:Nat) (W:World),Below w.heap.size w W∧W.cell? ⟨b0,0,none⟩=some (.int .i64 P)∧W.cell? ⟨b0,1,none⟩=some (va)∧W.cell? ⟨b0,2,none⟩=some (.int .i64 Q0)∧W.cell? ⟨b0,3,none⟩=some (vb)∧W.cell? ⟨b0,4,none⟩=some (.int .i64 a)∧W.cell? ⟨b0,5,none⟩=some (.int .i64 b)∧W.cell? ⟨b0,6,none⟩=some (vl)∧b0<W.heap.size→Bxo W (b1) [.int .i64 0,.slice none 0 0,.int .i64 0,.slice none 0 0,.int .i64 0,.int .i64 0,.slice none 0 0]→(Sl (b1+1) W (.slice o1 n1 c1) n1 x1)→(Sl (b1+1) W (.slice o2 n2 c2) n2 x2)→(Sl (b1+1) W (.slice o3 n3 c3) n3 x3)→Q .normal ⟨#[u,.pointer (some ⟨b0,0,none⟩),.pointer (some ⟨b1,0,none⟩),.pointer (some ⟨b0,2,none⟩),.agg #[.int .i64 Q0,vb],.agg #[.int .i64 Q0,.slice o1 n1 c1],.pointer (some ⟨b0,0,none⟩),.agg #[.int .i64 P,va],.agg #[.int .i64 P,.slice o2 n2 c2],.pointer (some ⟨b0,5,none⟩),.int .i64 b,.int .i64 (-b),.pointer (some ⟨b0,4,none⟩),.int .i64 a,.int .i64 (-a),.pointer (some ⟨b0,6,none⟩),vl,.slice o3 n3 c3,.agg #[.int .i64 Q0,.slice o1 n1 c1,.int .i64 P,.slice o2 n2 c2,.int .i64 (-b),.int .i64 (-a),.slice o3 n3 c3]],[]⟩ (((((((W.setCell ⟨b1,0,none⟩ (.int .i64 Q0)).setCell ⟨b1,1,none⟩ (.slice o1 n1 c1)).setCell ⟨b1,2,none⟩ (.int .i64 P)).setCell ⟨b1,3,none⟩ (.slice o2 n2 c2)).setCell ⟨b1,4,none⟩ (.int .i64 (-b))).setCell ⟨b1,5,none⟩ (.int .i64 (-a))).setCell ⟨b1,6,none⟩ (.slice o3 n3 c3))) :
  (Code.region 1 miOps true).wp Tryz.prog Q ⟨#[u,.pointer (some ⟨b0,0,none⟩),.pointer (some ⟨b1,0,none⟩),undef,undef,undef,undef,undef,undef,undef,undef,undef,undef,undef,undef,undef,undef,undef,undef],[]⟩ w0:=by
 have mk:∀ W W':World,(Below w.heap.size w W∧W.cell? ⟨b0,0,none⟩=some (.int .i64 P)∧W.cell? ⟨b0,1,none⟩=some (va)∧W.cell? ⟨b0,2,none⟩=some (.int .i64 Q0)∧W.cell? ⟨b0,3,none⟩=some (vb)∧W.cell? ⟨b0,4,none⟩=some (.int .i64 a)∧W.cell? ⟨b0,5,none⟩=some (.int .i64 b)∧W.cell? ⟨b0,6,none⟩=some (vl)∧b0<W.heap.size)→Below W.heap.size W W'→(Below w.heap.size w W'∧W'.cell? ⟨b0,0,none⟩=some (.int .i64 P)∧W'.cell? ⟨b0,1,none⟩=some (va)∧W'.cell? ⟨b0,2,none⟩=some (.int .i64 Q0)∧W'.cell? ⟨b0,3,none⟩=some (vb)∧W'.cell? ⟨b0,4,none⟩=some (.int .i64 a)∧W'.cell? ⟨b0,5,none⟩=some (.int .i64 b)∧W'.cell? ⟨b0,6,none⟩=some (vl)∧b0<W'.heap.size):=fun W W' ⟨kb,k0_0,k0_1,k0_2,k0_3,k0_4,k0_5,k0_6,kl⟩ hb=>⟨down kb hb,(hb.cell (p:=⟨b0,0,none⟩) (by show b0<_;omega)).trans k0_0,(hb.cell (p:=⟨b0,1,none⟩) (by show b0<_;omega)).trans k0_1,(hb.cell (p:=⟨b0,2,none⟩) (by show b0<_;omega)).trans k0_2,(hb.cell (p:=⟨b0,3,none⟩) (by show b0<_;omega)).trans k0_3,(hb.cell (p:=⟨b0,4,none⟩) (by show b0<_;omega)).trans k0_4,(hb.cell (p:=⟨b0,5,none⟩) (by show b0<_;omega)).trans k0_5,(hb.cell (p:=⟨b0,6,none⟩) (by show b0<_;omega)).trans k0_6,zll kl hb.size⟩;refine wp_region_held_drew (S:=(fun W'=>Below w.heap.size w W'∧W'.cell? ⟨b0,0,none⟩=some (.int .i64 P)∧W'.cell? ⟨b0,1,none⟩=some (va)∧W'.cell? ⟨b0,2,none⟩=some (.int .i64 Q0)∧W'.cell? ⟨b0,3,none⟩=some (vb)∧W'.cell? ⟨b0,4,none⟩=some (.int .i64 a)∧W'.cell? ⟨b0,5,none⟩=some (.int .i64 b)∧W'.cell? ⟨b0,6,none⟩=some (vl)∧b0<W'.heap.size)) (by kernel_rfl) (mk _ _ hS0 (here w0).drew) (fun hS=>?_);have R1:=R0.keep (here w0).drew;generalize w0.drew=W0 at *;refine wpAnyH_take (i:=0) (oi:={ dst:=some 3,op:=Go.Op.fieldAddr 26 (Go.Operand.tmp 1) 1,type:=0,pos := "view.go:129",after:=#[],guard:=none }) (v:=.pointer (some ⟨b0,2,none⟩)) rfl (by kernel_rfl) (by kernel_rfl) (by kernel_rfl) (fun _ _ _ h=>hQ _ _ _ _ _ h) (Or.inl ⟨by rfl,?_⟩) hS ?_
 ·intro w hSw;(try dsimp only at hSw);go_simp;(try (rw [IntKind.wrap_i64];omega))
 (try simp only [Act.put,zls,zl0,zl1]);refine wpAnyH_take (i:=1) (oi:={ dst:=some 4,op:=Go.Op.load 24 (Go.Operand.tmp 3),type:=24,pos := "view.go:129",after:=#[{ on:=0,ground:=Go.Ground.data }],guard:=none }) (v:=.agg #[.int .i64 Q0,vb]) rfl (by kernel_rfl) (by kernel_rfl) (by kernel_rfl) (fun _ _ _ h=>hQ _ _ _ _ _ h) (Or.inl ⟨by rfl,?_⟩) hS ?_
 ·intro w hSw;(try dsimp only at hSw);go_simp;(try (rw [IntKind.wrap_i64];omega))
 (try simp only [Act.put,zls,zl0,zl1]);refine wpAnyH_take (i:=3) (oi:={ dst:=some 6,op:=Go.Op.fieldAddr 26 (Go.Operand.tmp 1) 0,type:=0,pos := "view.go:129",after:=#[],guard:=none }) (v:=.pointer (some ⟨b0,0,none⟩)) rfl (by kernel_rfl) (by kernel_rfl) (by kernel_rfl) (fun _ _ _ h=>hQ _ _ _ _ _ h) (Or.inl ⟨by rfl,?_⟩) hS ?_
 ·intro w hSw;(try dsimp only at hSw);go_simp;(try (rw [IntKind.wrap_i64];omega))
 (try simp only [Act.put,zls,zl0,zl1]);refine wpAnyH_take (i:=4) (oi:={ dst:=some 7,op:=Go.Op.load 24 (Go.Operand.tmp 6),type:=24,pos := "view.go:129",after:=#[{ on:=3,ground:=Go.Ground.data }],guard:=none }) (v:=.agg #[.int .i64 P,va]) rfl (by kernel_rfl) (by kernel_rfl) (by kernel_rfl) (fun _ _ _ h=>hQ _ _ _ _ _ h) (Or.inl ⟨by rfl,?_⟩) hS ?_
 ·intro w hSw;(try dsimp only at hSw);go_simp;(try (rw [IntKind.wrap_i64];omega))
 (try simp only [Act.put,zls,zl0,zl1]);refine wpAnyH_take (i:=6) (oi:={ dst:=some 9,op:=Go.Op.fieldAddr 26 (Go.Operand.tmp 1) 3,type:=0,pos := "view.go:129",after:=#[],guard:=none }) (v:=.pointer (some ⟨b0,5,none⟩)) rfl (by kernel_rfl) (by kernel_rfl) (by kernel_rfl) (fun _ _ _ h=>hQ _ _ _ _ _ h) (Or.inl ⟨by rfl,?_⟩) hS ?_
 ·intro w hSw;(try dsimp only at hSw);go_simp;(try (rw [IntKind.wrap_i64];omega))
 (try simp only [Act.put,zls,zl0,zl1]);refine wpAnyH_take (i:=7) (oi:={ dst:=some 10,op:=Go.Op.load 3 (Go.Operand.tmp 9),type:=3,pos := "view.go:129",after:=#[{ on:=6,ground:=Go.Ground.data }],guard:=none }) (v:=.int .i64 b) rfl (by kernel_rfl) (by kernel_rfl) (by kernel_rfl) (fun _ _ _ h=>hQ _ _ _ _ _ h) (Or.inl ⟨by rfl,?_⟩) hS ?_
 ·intro w hSw;(try dsimp only at hSw);go_simp;(try (rw [IntKind.wrap_i64];omega))
 (try simp only [Act.put,zls,zl0,zl1]);refine wpAnyH_take (i:=8) (oi:={ dst:=some 11,op:=Go.Op.unOp Go.UnOp.neg 3 (Go.Operand.tmp 10),type:=3,pos := "view.go:129",after:=#[{ on:=7,ground:=Go.Ground.data }],guard:=none }) (v:=.int .i64 (-b)) rfl (by kernel_rfl) (by kernel_rfl) (by kernel_rfl) (fun _ _ _ h=>hQ _ _ _ _ _ h) (Or.inl ⟨by rfl,?_⟩) hS ?_
 ·intro w hSw;(try dsimp only at hSw);go_simp;(try (rw [IntKind.wrap_i64];omega))
 (try simp only [Act.put,zls,zl0,zl1]);refine wpAnyH_take (i:=9) (oi:={ dst:=some 12,op:=Go.Op.fieldAddr 26 (Go.Operand.tmp 1) 2,type:=0,pos := "view.go:129",after:=#[],guard:=none }) (v:=.pointer (some ⟨b0,4,none⟩)) rfl (by kernel_rfl) (by kernel_rfl) (by kernel_rfl) (fun _ _ _ h=>hQ _ _ _ _ _ h) (Or.inl ⟨by rfl,?_⟩) hS ?_
 ·intro w hSw;(try dsimp only at hSw);go_simp;(try (rw [IntKind.wrap_i64];omega))
 (try simp only [Act.put,zls,zl0,zl1]);refine wpAnyH_take (i:=10) (oi:={ dst:=some 13,op:=Go.Op.load 3 (Go.Operand.tmp 12),type:=3,pos := "view.go:129",after:=#[{ on:=9,ground:=Go.Ground.data }],guard:=none }) (v:=.int .i64 a) rfl (by kernel_rfl) (by kernel_rfl) (by kernel_rfl) (fun _ _ _ h=>hQ _ _ _ _ _ h) (Or.inl ⟨by rfl,?_⟩) hS ?_
 ·intro w hSw;(try dsimp only at hSw);go_simp;(try (rw [IntKind.wrap_i64];omega))
 (try simp only [Act.put,zls,zl0,zl1]);refine wpAnyH_take (i:=11) (oi:={ dst:=some 14,op:=Go.Op.unOp Go.UnOp.neg 3 (Go.Operand.tmp 13),type:=3,pos := "view.go:129",after:=#[{ on:=10,ground:=Go.Ground.data }],guard:=none }) (v:=.int .i64 (-a)) rfl (by kernel_rfl) (by kernel_rfl) (by kernel_rfl) (fun _ _ _ h=>hQ _ _ _ _ _ h) (Or.inl ⟨by rfl,?_⟩) hS ?_
 ·intro w hSw;(try dsimp only at hSw);go_simp;(try (rw [IntKind.wrap_i64];omega))
 (try simp only [Act.put,zls,zl0,zl1]);refine wpAnyH_take (i:=12) (oi:={ dst:=some 15,op:=Go.Op.fieldAddr 26 (Go.Operand.tmp 1) 4,type:=0,pos := "view.go:129",after:=#[],guard:=none }) (v:=.pointer (some ⟨b0,6,none⟩)) rfl (by kernel_rfl) (by kernel_rfl) (by kernel_rfl) (fun _ _ _ h=>hQ _ _ _ _ _ h) (Or.inl ⟨by rfl,?_⟩) hS ?_
 ·intro w hSw;(try dsimp only at hSw);go_simp;(try (rw [IntKind.wrap_i64];omega))
 (try simp only [Act.put,zls,zl0,zl1]);refine wpAnyH_take (i:=13) (oi:={ dst:=some 16,op:=Go.Op.load 22 (Go.Operand.tmp 15),type:=22,pos := "view.go:129",after:=#[{ on:=12,ground:=Go.Ground.data }],guard:=none }) (v:=vl) rfl (by kernel_rfl) (by kernel_rfl) (by kernel_rfl) (fun _ _ _ h=>hQ _ _ _ _ _ h) (Or.inl ⟨by rfl,?_⟩) hS ?_
 ·intro w hSw;(try dsimp only at hSw);go_simp;(try (rw [IntKind.wrap_i64];omega))
 (try simp only [Act.put,zls,zl0,zl1]);refine wpAnyH_ready (rs:=[2]) (by kernel_rfl) (by simp) ?_;refine AllReadyH.cons (o:={ dst:=some 5,op:=Go.Op.call { callee:=Go.Callee.value (Go.Operand.func 141),args:=#[Go.Operand.tmp 4],argTypes:=#[24] },type:=24,pos := "view.go:129",after:=#[{ on:=1,ground:=Go.Ground.data }],guard:=none }) rfl (fun K hK=>?_) AllReadyH.nil;go_simp;go_at_call 141;refine ((HR.out _ hS.1).mono ?_);rintro e W1 ⟨⟨v1,rfl,P1⟩,hb⟩;obtain ⟨o1,c1,rfl⟩:=Sl.shape P1;replace P1:=Sl.weak P1 (show b1+1≤_ from R1.t.lt);have hS1:=mk _ W1 hS hb;have Q1:=Bxo.keep R1 hb;refine hK.out _ _ hS1 (fun _=>?_);clear hK K hb;(try simp only [Act.put,zls,zl0,zl1]);refine wpAnyH_ready (rs:=[5]) (by kernel_rfl) (by simp) ?_;refine AllReadyH.cons (o:={ dst:=some 8,op:=Go.Op.call { callee:=Go.Callee.value (Go.Operand.func 141),args:=#[Go.Operand.tmp 7],argTypes:=#[24] },type:=24,pos := "view.go:129",after:=#[{ on:=4,ground:=Go.Ground.data },{ on:=2,ground:=Go.Ground.chain }],guard:=none }) rfl (fun K hK=>?_) AllReadyH.nil;go_simp;go_at_call 141;refine ((HL.out _ hS1.1).mono ?_);rintro e W2 ⟨⟨v2,rfl,P2⟩,hb⟩;obtain ⟨o2,c2,rfl⟩:=Sl.shape P2;replace P2:=Sl.weak P2 (show b1+1≤_ from Q1.t.lt);have hS2:=mk _ W2 hS1 hb;have Q2:=Bxo.keep Q1 hb;replace P1:=P1.keep hb;refine hK.out _ _ hS2 (fun _=>?_);clear hK K hb;(try simp only [Act.put,zls,zl0,zl1]);refine wpAnyH_ready (rs:=[14]) (by kernel_rfl) (by simp) ?_;refine AllReadyH.cons (o:={ dst:=some 17,op:=Go.Op.call { callee:=Go.Callee.value (Go.Operand.func 142),args:=#[Go.Operand.tmp 16,Go.Operand.const (Go.Value.int Go.IntKind.i64 0)],argTypes:=#[22,3] },type:=22,pos := "view.go:129",after:=#[{ on:=13,ground:=Go.Ground.data },{ on:=5,ground:=Go.Ground.chain }],guard:=none }) rfl (fun K hK=>?_) AllReadyH.nil;go_simp;go_at_call 142;refine ((HC.out _ hS2.1).mono ?_);rintro e W3 ⟨⟨v3,rfl,P3⟩,hb⟩;obtain ⟨o3,c3,rfl⟩:=Sl.shape P3;replace P3:=Sl.weak P3 (show b1+1≤_ from Q2.t.lt);have hS3:=mk _ W3 hS2 hb;have Q3:=Bxo.keep Q2 hb;replace P1:=P1.keep hb;replace P2:=P2.keep hb;refine hK.out _ _ hS3 (fun _=>?_);clear hK K hb;(try simp only [Act.put,zls,zl0,zl1]);refine wpAnyH_take (i:=15) (oi:={ dst:=some 18,op:=Go.Op.build 26 #[(0,Go.Operand.tmp 5),(1,Go.Operand.tmp 8),(2,Go.Operand.tmp 11),(3,Go.Operand.tmp 14),(4,Go.Operand.tmp 17)],type:=26,pos := "view.go:129",after:=#[{ on:=2,ground:=Go.Ground.data },{ on:=5,ground:=Go.Ground.data },{ on:=8,ground:=Go.Ground.data },{ on:=11,ground:=Go.Ground.data },{ on:=14,ground:=Go.Ground.data }],guard:=none }) (v:=.agg #[.int .i64 Q0,.slice o1 n1 c1,.int .i64 P,.slice o2 n2 c2,.int .i64 (-b),.int .i64 (-a),.slice o3 n3 c3]) rfl (by kernel_rfl) (by kernel_rfl) (by kernel_rfl) (fun _ _ _ h=>hQ _ _ _ _ _ h) (Or.inl ⟨by rfl,?_⟩) hS3 ?_
 ·intro w hSw;(try dsimp only at hSw);go_simp;(try (rw [IntKind.wrap_i64];omega))
 (try simp only [Act.put,zls,zl0,zl1]);refine wpAnyH_ready (rs:=[16]) (by kernel_rfl) (by simp) ?_;refine AllReadyH.cons (o:={ dst:=none,op:=Go.Op.store 26 (Go.Operand.tmp 2) (Go.Operand.tmp 18),type:=0,pos := "view.go:129",after:=#[{ on:=15,ground:=Go.Ground.data },{ on:=14,ground:=Go.Ground.chain },{ on:=0,ground:=Go.Ground.phase },{ on:=1,ground:=Go.Ground.phase },{ on:=2,ground:=Go.Ground.phase },{ on:=3,ground:=Go.Ground.phase },{ on:=4,ground:=Go.Ground.phase },{ on:=5,ground:=Go.Ground.phase },{ on:=6,ground:=Go.Ground.phase },{ on:=7,ground:=Go.Ground.phase },{ on:=8,ground:=Go.Ground.phase },{ on:=9,ground:=Go.Ground.phase },{ on:=10,ground:=Go.Ground.phase },{ on:=11,ground:=Go.Ground.phase },{ on:=12,ground:=Go.Ground.phase },{ on:=13,ground:=Go.Ground.phase },{ on:=14,ground:=Go.Ground.phase },{ on:=15,ground:=Go.Ground.phase }],guard:=none }) rfl (fun K hK=>?_) AllReadyH.nil;obtain ⟨aa,ab,ac,ad,ae,af,ag,ah,ai,aj,ak,al,am,an,-⟩:=Q3.z7;go_simp;have hS9:(fun W'=>Below w.heap.size w W'∧W'.cell? ⟨b0,0,none⟩=some (.int .i64 P)∧W'.cell? ⟨b0,1,none⟩=some (va)∧W'.cell? ⟨b0,2,none⟩=some (.int .i64 Q0)∧W'.cell? ⟨b0,3,none⟩=some (vb)∧W'.cell? ⟨b0,4,none⟩=some (.int .i64 a)∧W'.cell? ⟨b0,5,none⟩=some (.int .i64 b)∧W'.cell? ⟨b0,6,none⟩=some (vl)∧b0<W'.heap.size) (((((((W3.setCell ⟨b1,0,none⟩ (.int .i64 Q0)).setCell ⟨b1,1,none⟩ (.slice o1 n1 c1)).setCell ⟨b1,2,none⟩ (.int .i64 P)).setCell ⟨b1,3,none⟩ (.slice o2 n2 c2)).setCell ⟨b1,4,none⟩ (.int .i64 (-b))).setCell ⟨b1,5,none⟩ (.int .i64 (-a))).setCell ⟨b1,6,none⟩ (.slice o3 n3 c3)):=by
  obtain ⟨kb,k0_0,k0_1,k0_2,k0_3,k0_4,k0_5,k0_6,kl⟩:=hS3;refine ⟨(((((((kb.setCell (p:=⟨b1,0,none⟩) le _).setCell (p:=⟨b1,1,none⟩) le _).setCell (p:=⟨b1,2,none⟩) le _).setCell (p:=⟨b1,3,none⟩) le _).setCell (p:=⟨b1,4,none⟩) le _).setCell (p:=⟨b1,5,none⟩) le _).setCell (p:=⟨b1,6,none⟩) le _),?_,?_,?_,?_,?_,?_,?_,by rw [size_set,size_set,size_set,size_set,size_set,size_set,size_set];exact kl⟩
  ·rw [zcn ne,zcn ne,zcn ne,zcn ne,zcn ne,zcn ne,zcn ne];exact k0_0
  ·rw [zcn ne,zcn ne,zcn ne,zcn ne,zcn ne,zcn ne,zcn ne];exact k0_1
  ·rw [zcn ne,zcn ne,zcn ne,zcn ne,zcn ne,zcn ne,zcn ne];exact k0_2
  ·rw [zcn ne,zcn ne,zcn ne,zcn ne,zcn ne,zcn ne,zcn ne];exact k0_3
  ·rw [zcn ne,zcn ne,zcn ne,zcn ne,zcn ne,zcn ne,zcn ne];exact k0_4
  ·rw [zcn ne,zcn ne,zcn ne,zcn ne,zcn ne,zcn ne,zcn ne];exact k0_5
  ·rw [zcn ne,zcn ne,zcn ne,zcn ne,zcn ne,zcn ne,zcn ne];exact k0_6
 refine hK.out _ _ hS9 (fun _=>?_);clear hK K;(try simp only [Act.put,zls,zl0,zl1]);refine wpAnyH_done (by kernel_rfl) ?_ _;exact fin o1 c1 o2 c2 o3 c3 W3 hS3 Q3 P1 P2 P3
set_option maxRecDepth 100000 in
set_option maxHeartbeats 3000000 in
theorem tvmir (s:TS) (gw:GW s) (va vb vl:Value) (w:World) (h:SS3 w s va vb vl) :
    Calls Tryz.prog 94 #[.agg #[.int .i64 s.P,va,.int .i64 s.Q,vb,.int .i64 s.a,.int .i64 s.b,vl]] w fun e w'=>(∃ ua ub ul,e=.returned (.agg #[.int .i64 (mrT s).P,ua,.int .i64 (mrT s).Q,ub,.int .i64 (mrT s).a,.int .i64 (mrT s).b,ul])∧SS3 w' (mrT s) ua ub ul)∧Below w.heap.size w w':=by
  obtain ⟨oa,ca,rfl⟩:=prs_shape h.a;obtain ⟨ob,cb,rfl⟩:=prs_shape h.b;obtain ⟨ol,cl,rfl⟩:=prs_shape h.l;obtain ⟨w2,hw2⟩:∃ w2:World,((w.alloc (.cells #[.int .i64 s.P,.slice oa s.A.length ca,.int .i64 s.Q,.slice ob s.B.length cb,.int .i64 s.a,.int .i64 s.b,.slice ol s.L.length cl] 26)).alloc (.cells #[.int .i64 0,.slice none 0 0,.int .i64 0,.slice none 0 0,.int .i64 0,.int .i64 0,.slice none 0 0] 26))=w2:=⟨_,rfl⟩;have TB:Hid (Bxs w2 w.heap.size [.int .i64 s.P,.slice oa s.A.length ca,.int .i64 s.Q,.slice ob s.B.length cb,.int .i64 s.a,.int .i64 s.b,.slice ol s.L.length cl]):=by show Bxs _ _ _;rw [← hw2];exact (Bxs.new (w:=w) [.int .i64 s.P,.slice oa s.A.length ca,.int .i64 s.Q,.slice ob s.B.length cb,.int .i64 s.a,.int .i64 s.b,.slice ol s.L.length cl] 26).old _
  have RB:Hid (Bxo w2 (w.heap.size+1) [.int .i64 0,.slice none 0 0,.int .i64 0,.slice none 0 0,.int .i64 0,.int .i64 0,.slice none 0 0]):=by show Bxo _ _ _;rw [← hw2];exact Bxo.snd (w:=w) (o:=(.cells #[.int .i64 s.P,.slice oa s.A.length ca,.int .i64 s.Q,.slice ob s.B.length cb,.int .i64 s.a,.int .i64 s.b,.slice ol s.L.length cl] 26)) [.int .i64 0,.slice none 0 0,.int .i64 0,.slice none 0 0,.int .i64 0,.int .i64 0,.slice none 0 0] 26
  have A2:Hid (Below w.heap.size w w2):=by show Below _ _ _;rw [← hw2];exact grow (grow (here w) _) _
  have s2:w.heap.size+1<w2.heap.size:=RB.out.t.lt;have HR:Hid (∀ W,Below w.heap.size w W→Calls Tryz.prog 141 #[.agg #[.int .i64 s.Q,.slice ob s.B.length cb]] W fun e w'=>(∃ v',e=.returned (.agg #[.int .i64 s.Q,v'])∧Sl W.heap.size w' v' (mrL s.B s.Q).length (pairs (mrL s.B s.Q)))∧Below W.heap.size W w'):=fun W hW=>tvmrp s.Q _ s.B gw.q W (h.keep hW).b;have HL:Hid (∀ W,Below w.heap.size w W→Calls Tryz.prog 141 #[.agg #[.int .i64 s.P,.slice oa s.A.length ca]] W fun e w'=>(∃ v',e=.returned (.agg #[.int .i64 s.P,v'])∧Sl W.heap.size w' v' (mrL s.A s.P).length (pairs (mrL s.A s.P)))∧Below W.heap.size W w'):=fun W hW=>tvmrp s.P _ s.A gw.p W (h.keep hW).a;have ft:FtL s.L 0:=fun q hq=>by have h1:=gw.ln q hq;have h2:=gw.cn.lt q hq;unfold I64;omega
  have HC:Hid (∀ W,Below w.heap.size w W→Calls Tryz.prog 142 #[.slice ol s.L.length cl,.int .i64 0] W fun e w'=>(∃ v',e=.returned v'∧Sl W.heap.size w' v' (mrL s.L 0).length (pairs (mrL s.L 0)))∧Below W.heap.size W w'):=fun W hW=>tvmrl s.L (by have:=gw.len;omega) 0 ft _ W (h.keep hW).l;have hS0:Below w.heap.size w w2∧w2.cell? ⟨w.heap.size,0,none⟩=some (.int .i64 s.P)∧w2.cell? ⟨w.heap.size,1,none⟩=some (.slice oa s.A.length ca)∧w2.cell? ⟨w.heap.size,2,none⟩=some (.int .i64 s.Q)∧w2.cell? ⟨w.heap.size,3,none⟩=some (.slice ob s.B.length cb)∧w2.cell? ⟨w.heap.size,4,none⟩=some (.int .i64 s.a)∧w2.cell? ⟨w.heap.size,5,none⟩=some (.int .i64 s.b)∧w2.cell? ⟨w.heap.size,6,none⟩=some (.slice ol s.L.length cl)∧w.heap.size<w2.heap.size:=⟨A2.out,TB.out.c 0 _ rfl,TB.out.c 1 _ rfl,TB.out.c 2 _ rfl,TB.out.c 3 _ rfl,TB.out.c 4 _ rfl,TB.out.c 5 _ rfl,TB.out.c 6 _ rfl,by omega⟩;have R0:Bxo w2 (w.heap.size+1) [.int .i64 0,.slice none 0 0,.int .i64 0,.slice none 0 0,.int .i64 0,.int .i64 0,.slice none 0 0]:=RB.out;have lo0:=gw.lo0;have hi0:=gw.hi0;have le:=gw.le
  show Calls _ _ _ _ fun e w'=>(∃ ua ub ul,e=.returned (.agg #[.int .i64 s.Q,ua,.int .i64 s.P,ub,.int .i64 (-s.b),.int .i64 (-s.a),ul])∧SS3 w' ⟨s.Q,mrL s.B s.Q,s.P,mrL s.A s.P,-s.b,-s.a,mrL s.L 0⟩ ua ub ul)∧Below w.heap.size w w'
  generalize mrL s.B s.Q=MB at *;generalize mrL s.A s.P=MA at *;generalize mrL s.L 0=ML at *;replace hS0:=zh hS0;replace R0:=zh R0;clear TB RB ft h
  go_enter Tryz.func94,Tryz.ntmps94
  go_wp2
  refine mi_region _ s.P s.Q s.a s.b _ _ _ _ w.heap.size (w.heap.size+1) _ _ _ _ _ _ (by omega) (by omega) (by omega) (by omega) w w2 (fun _ _ _ _ _ h=>h) HR HL HC hS0.out R0.out (by omega) (by omega) ?_;intro o1 c1 o2 c2 o3 c3 W hS R8 P1 P2 P3;clear hS0 R0 HR HL HC A2;have FB:=R8.put7 (.int .i64 s.Q) (.slice o1 MB.length c1) (.int .i64 s.P) (.slice o2 MA.length c2) (.int .i64 (-s.b)) (.int .i64 (-s.a)) (.slice o3 ML.length c3);have AF:=below_put7 hS.1 (show w.heap.size≤w.heap.size+1 by omega) (.int .i64 s.Q) (.slice o1 MB.length c1) (.int .i64 s.P) (.slice o2 MA.length c2) (.int .i64 (-s.b)) (.int .i64 (-s.a)) (.slice o3 ML.length c3);obtain ⟨q0,q1,q2,q3,q4,q5,q6,-⟩:=FB.z7;go_wp2
  refine bodyPost_ret (v:=.agg #[.int .i64 s.Q,.slice o1 MB.length c1,.int .i64 s.P,.slice o2 MA.length c2,.int .i64 (-s.b),.int .i64 (-s.a),.slice o3 ML.length c3]) (by simp [results,Tryz.results94,go_sem,q0,q1,q2,q3,q4,q5,q6]) rfl ?_;exact ⟨⟨_,_,_,rfl,⟨Sl.weak (far_put7 P1 (Nat.lt_succ_self _) (.int .i64 s.Q) (.slice o1 MB.length c1) (.int .i64 s.P) (.slice o2 MA.length c2) (.int .i64 (-s.b)) (.int .i64 (-s.a)) (.slice o3 ML.length c3)) (Nat.zero_le _),Sl.weak (far_put7 P2 (Nat.lt_succ_self _) (.int .i64 s.Q) (.slice o1 MB.length c1) (.int .i64 s.P) (.slice o2 MA.length c2) (.int .i64 (-s.b)) (.int .i64 (-s.a)) (.slice o3 ML.length c3)) (Nat.zero_le _),Sl.weak (far_put7 P3 (Nat.lt_succ_self _) (.int .i64 s.Q) (.slice o1 MB.length c1) (.int .i64 s.P) (.slice o2 MA.length c2) (.int .i64 (-s.b)) (.int .i64 (-s.a)) (.slice o3 ML.length c3)) (Nat.zero_le _)⟩⟩,AF⟩
def faOps:Array Oper:=#[
 { dst:=some 17,op:=Go.Op.fieldAddr 26 (Go.Operand.tmp 1) 0,type:=0,pos := "timeset.go:77",after:=#[],guard:=none },
 { dst:=some 18,op:=Go.Op.load 24 (Go.Operand.tmp 17),type:=24,pos := "timeset.go:77",after:=#[{ on:=0,ground:=Go.Ground.data }],guard:=none },
 { dst:=some 19,op:=Go.Op.call { callee:=Go.Callee.value (Go.Operand.func 118),args:=#[Go.Operand.tmp 18],argTypes:=#[24] },type:=24,pos := "timeset.go:77",after:=#[{ on:=1,ground:=Go.Ground.data }],guard:=none },
 { dst:=some 20,op:=Go.Op.fieldAddr 26 (Go.Operand.tmp 1) 0,type:=0,pos := "timeset.go:77",after:=#[],guard:=none },
 { dst:=some 21,op:=Go.Op.load 24 (Go.Operand.tmp 20),type:=24,pos := "timeset.go:77",after:=#[{ on:=3,ground:=Go.Ground.data }],guard:=none },
 { dst:=some 22,op:=Go.Op.call { callee:=Go.Callee.value (Go.Operand.func 118),args:=#[Go.Operand.tmp 21],argTypes:=#[24] },type:=24,pos := "timeset.go:77",after:=#[{ on:=4,ground:=Go.Ground.data },{ on:=2,ground:=Go.Ground.chain }],guard:=none },
 { dst:=some 23,op:=Go.Op.build 26 #[(0,Go.Operand.tmp 19),(1,Go.Operand.tmp 22)],type:=26,pos := "timeset.go:77",after:=#[{ on:=2,ground:=Go.Ground.data },{ on:=5,ground:=Go.Ground.data }],guard:=none },
 { dst:=none,op:=Go.Op.store 26 (Go.Operand.tmp 2) (Go.Operand.tmp 23),type:=0,pos := "timeset.go:77",after:=#[{ on:=6,ground:=Go.Ground.data },{ on:=5,ground:=Go.Ground.chain },{ on:=0,ground:=Go.Ground.phase },{ on:=1,ground:=Go.Ground.phase },{ on:=2,ground:=Go.Ground.phase },{ on:=3,ground:=Go.Ground.phase },{ on:=4,ground:=Go.Ground.phase },{ on:=5,ground:=Go.Ground.phase },{ on:=6,ground:=Go.Ground.phase }],guard:=none },
 { dst:=some 3,op:=Go.Op.assign (Go.Operand.const (Go.Value.int Go.IntKind.i64 0)),type:=30,pos := "timeset.go:77",after:=#[{ on:=7,ground:=Go.Ground.chain },{ on:=0,ground:=Go.Ground.phase },{ on:=1,ground:=Go.Ground.phase },{ on:=2,ground:=Go.Ground.phase },{ on:=3,ground:=Go.Ground.phase },{ on:=4,ground:=Go.Ground.phase },{ on:=5,ground:=Go.Ground.phase },{ on:=6,ground:=Go.Ground.phase },{ on:=7,ground:=Go.Ground.phase }],guard:=none }]
set_option maxRecDepth 100000 in
set_option maxHeartbeats 4000000 in
theorem fa_region (Q:Exit→Act→World→Prop) (P Q0 a b:Int) (va vb vl:Value) (b0 b1:Nat) (n1:Nat) (x1:List Value) (t0 t3 t4 t5 t6 t7 t8 t9 t10 t11 t12 t13 t14 t15 t16 t17 t18 t19 t20 t21 t22 t23 t24 t25 t26 t27 t28 t29 t30 t31 t32 t33 t34 t35 t36 t37 t38 t39 t40 t41 t42 t43 t44 t45 t46 t47 t48 t49 t50 t51 t52 t53 t54 t55:Value) (w w0:World) (hQ:∀ c a d v w,Q (.panic c) (Act.put a (some d) v) w→Q (.panic c) a w) (HL:Hid (∀ W,Below w.heap.size w W→Calls Tryz.prog 118 #[.agg #[.int .i64 P,va]] W fun e w'=>(∃ v',e=.returned (.agg #[.int .i64 P,v'])∧Sl W.heap.size w' v' n1 x1)∧Below W.heap.size W w')) (hS0:Below w.heap.size w w0∧w0.cell? ⟨b0,0,none⟩=some (.int .i64 P)∧w0.cell? ⟨b0,1,none⟩=some (va)∧w0.cell? ⟨b0,2,none⟩=some (.int .i64 Q0)∧w0.cell? ⟨b0,3,none⟩=some (vb)∧w0.cell? ⟨b0,4,none⟩=some (.int .i64 a)∧w0.cell? ⟨b0,5,none⟩=some (.int .i64 b)∧w0.cell? ⟨b0,6,none⟩=some (vl)∧b0<w0.heap.size) (R0:Bxo w0 (b1) [.int .i64 0,.slice none 0 0,.int .i64 0,.slice none 0 0,.int .i64 0,.int .i64 0,.slice none 0 0]) (le:w.heap.size≤b1) (ne:b0≠b1)
  (fin:∀ (o1:Option Addr) (c1:Nat) (o2:Option Addr) (c2:Nat) (W:World),Below w.heap.size w W∧W.cell? ⟨b0,0,none⟩=some (.int .i64 P)∧W.cell? ⟨b0,1,none⟩=some (va)∧W.cell? ⟨b0,2,none⟩=some (.int .i64 Q0)∧W.cell? ⟨b0,3,none⟩=some (vb)∧W.cell? ⟨b0,4,none⟩=some (.int .i64 a)∧W.cell? ⟨b0,5,none⟩=some (.int .i64 b)∧W.cell? ⟨b0,6,none⟩=some (vl)∧b0<W.heap.size→Bxo W (b1) [.int .i64 0,.slice none 0 0,.int .i64 0,.slice none 0 0,.int .i64 0,.int .i64 0,.slice none 0 0]→(Sl (b1+1) W (.slice o1 n1 c1) n1 x1)→(Sl (b1+1) W (.slice o2 n1 c2) n1 x1)→Q .normal ⟨#[t0,.pointer (some ⟨b0,0,none⟩),.pointer (some ⟨b1,0,none⟩),.int .i64 0,t4,t5,t6,t7,t8,t9,t10,t11,t12,t13,t14,t15,t16,.pointer (some ⟨b0,0,none⟩),.agg #[.int .i64 P,va],.agg #[.int .i64 P,.slice o1 n1 c1],.pointer (some ⟨b0,0,none⟩),.agg #[.int .i64 P,va],.agg #[.int .i64 P,.slice o2 n1 c2],.agg #[.int .i64 P,.slice o1 n1 c1,.int .i64 P,.slice o2 n1 c2,.int .i64 0,.int .i64 0,.slice none 0 0],t24,t25,t26,t27,t28,t29,t30,t31,t32,t33,t34,t35,t36,t37,t38,t39,t40,t41,t42,t43,t44,t45,t46,t47,t48,t49,t50,t51,t52,t53,t54,t55],[]⟩ (((((((W.setCell ⟨b1,0,none⟩ (.int .i64 P)).setCell ⟨b1,1,none⟩ (.slice o1 n1 c1)).setCell ⟨b1,2,none⟩ (.int .i64 P)).setCell ⟨b1,3,none⟩ (.slice o2 n1 c2)).setCell ⟨b1,4,none⟩ (.int .i64 0)).setCell ⟨b1,5,none⟩ (.int .i64 0)).setCell ⟨b1,6,none⟩ (.slice none 0 0))) :
  (Code.region 3 faOps true).wp Tryz.prog Q ⟨#[t0,.pointer (some ⟨b0,0,none⟩),.pointer (some ⟨b1,0,none⟩),t3,t4,t5,t6,t7,t8,t9,t10,t11,t12,t13,t14,t15,t16,t17,t18,t19,t20,t21,t22,t23,t24,t25,t26,t27,t28,t29,t30,t31,t32,t33,t34,t35,t36,t37,t38,t39,t40,t41,t42,t43,t44,t45,t46,t47,t48,t49,t50,t51,t52,t53,t54,t55],[]⟩ w0:=by
 have mk:∀ W W':World,(Below w.heap.size w W∧W.cell? ⟨b0,0,none⟩=some (.int .i64 P)∧W.cell? ⟨b0,1,none⟩=some (va)∧W.cell? ⟨b0,2,none⟩=some (.int .i64 Q0)∧W.cell? ⟨b0,3,none⟩=some (vb)∧W.cell? ⟨b0,4,none⟩=some (.int .i64 a)∧W.cell? ⟨b0,5,none⟩=some (.int .i64 b)∧W.cell? ⟨b0,6,none⟩=some (vl)∧b0<W.heap.size)→Below W.heap.size W W'→(Below w.heap.size w W'∧W'.cell? ⟨b0,0,none⟩=some (.int .i64 P)∧W'.cell? ⟨b0,1,none⟩=some (va)∧W'.cell? ⟨b0,2,none⟩=some (.int .i64 Q0)∧W'.cell? ⟨b0,3,none⟩=some (vb)∧W'.cell? ⟨b0,4,none⟩=some (.int .i64 a)∧W'.cell? ⟨b0,5,none⟩=some (.int .i64 b)∧W'.cell? ⟨b0,6,none⟩=some (vl)∧b0<W'.heap.size):=fun W W' ⟨kb,k0_0,k0_1,k0_2,k0_3,k0_4,k0_5,k0_6,kl⟩ hb=>⟨down kb hb,(hb.cell (p:=⟨b0,0,none⟩) (by show b0<_;omega)).trans k0_0,(hb.cell (p:=⟨b0,1,none⟩) (by show b0<_;omega)).trans k0_1,(hb.cell (p:=⟨b0,2,none⟩) (by show b0<_;omega)).trans k0_2,(hb.cell (p:=⟨b0,3,none⟩) (by show b0<_;omega)).trans k0_3,(hb.cell (p:=⟨b0,4,none⟩) (by show b0<_;omega)).trans k0_4,(hb.cell (p:=⟨b0,5,none⟩) (by show b0<_;omega)).trans k0_5,(hb.cell (p:=⟨b0,6,none⟩) (by show b0<_;omega)).trans k0_6,zll kl hb.size⟩;refine wp_region_held_drew (S:=(fun W'=>Below w.heap.size w W'∧W'.cell? ⟨b0,0,none⟩=some (.int .i64 P)∧W'.cell? ⟨b0,1,none⟩=some (va)∧W'.cell? ⟨b0,2,none⟩=some (.int .i64 Q0)∧W'.cell? ⟨b0,3,none⟩=some (vb)∧W'.cell? ⟨b0,4,none⟩=some (.int .i64 a)∧W'.cell? ⟨b0,5,none⟩=some (.int .i64 b)∧W'.cell? ⟨b0,6,none⟩=some (vl)∧b0<W'.heap.size)) (by kernel_rfl) (mk _ _ hS0 (here w0).drew) (fun hS=>?_);have R1:=R0.keep (here w0).drew;generalize w0.drew=W0 at *;refine wpAnyH_take (i:=0) (oi:={ dst:=some 17,op:=Go.Op.fieldAddr 26 (Go.Operand.tmp 1) 0,type:=0,pos := "timeset.go:77",after:=#[],guard:=none }) (v:=.pointer (some ⟨b0,0,none⟩)) rfl (by kernel_rfl) (by kernel_rfl) (by kernel_rfl) (fun _ _ _ h=>hQ _ _ _ _ _ h) (Or.inl ⟨by rfl,?_⟩) hS ?_
 ·intro w hSw;(try dsimp only at hSw);go_simp;(try (rw [IntKind.wrap_i64];omega))
 (try simp only [Act.put,zls,zl0,zl1]);refine wpAnyH_take (i:=1) (oi:={ dst:=some 18,op:=Go.Op.load 24 (Go.Operand.tmp 17),type:=24,pos := "timeset.go:77",after:=#[{ on:=0,ground:=Go.Ground.data }],guard:=none }) (v:=.agg #[.int .i64 P,va]) rfl (by kernel_rfl) (by kernel_rfl) (by kernel_rfl) (fun _ _ _ h=>hQ _ _ _ _ _ h) (Or.inl ⟨by rfl,?_⟩) hS ?_
 ·intro w hSw;(try dsimp only at hSw);go_simp;(try (rw [IntKind.wrap_i64];omega))
 (try simp only [Act.put,zls,zl0,zl1]);refine wpAnyH_take (i:=3) (oi:={ dst:=some 20,op:=Go.Op.fieldAddr 26 (Go.Operand.tmp 1) 0,type:=0,pos := "timeset.go:77",after:=#[],guard:=none }) (v:=.pointer (some ⟨b0,0,none⟩)) rfl (by kernel_rfl) (by kernel_rfl) (by kernel_rfl) (fun _ _ _ h=>hQ _ _ _ _ _ h) (Or.inl ⟨by rfl,?_⟩) hS ?_
 ·intro w hSw;(try dsimp only at hSw);go_simp;(try (rw [IntKind.wrap_i64];omega))
 (try simp only [Act.put,zls,zl0,zl1]);refine wpAnyH_take (i:=4) (oi:={ dst:=some 21,op:=Go.Op.load 24 (Go.Operand.tmp 20),type:=24,pos := "timeset.go:77",after:=#[{ on:=3,ground:=Go.Ground.data }],guard:=none }) (v:=.agg #[.int .i64 P,va]) rfl (by kernel_rfl) (by kernel_rfl) (by kernel_rfl) (fun _ _ _ h=>hQ _ _ _ _ _ h) (Or.inl ⟨by rfl,?_⟩) hS ?_
 ·intro w hSw;(try dsimp only at hSw);go_simp;(try (rw [IntKind.wrap_i64];omega))
 (try simp only [Act.put,zls,zl0,zl1]);refine wpAnyH_ready (rs:=[2]) (by kernel_rfl) (by simp) ?_;refine AllReadyH.cons (o:={ dst:=some 19,op:=Go.Op.call { callee:=Go.Callee.value (Go.Operand.func 118),args:=#[Go.Operand.tmp 18],argTypes:=#[24] },type:=24,pos := "timeset.go:77",after:=#[{ on:=1,ground:=Go.Ground.data }],guard:=none }) rfl (fun K hK=>?_) AllReadyH.nil;go_simp;go_at_call 118;refine ((HL.out _ hS.1).mono ?_);rintro e W1 ⟨⟨v1,rfl,P1⟩,hb⟩;obtain ⟨o1,c1,rfl⟩:=Sl.shape P1;replace P1:=Sl.weak P1 (show b1+1≤_ from R1.t.lt);have hS1:=mk _ W1 hS hb;have Q1:=Bxo.keep R1 hb;refine hK.out _ _ hS1 (fun _=>?_);clear hK K hb;(try simp only [Act.put,zls,zl0,zl1]);refine wpAnyH_ready (rs:=[5]) (by kernel_rfl) (by simp) ?_;refine AllReadyH.cons (o:={ dst:=some 22,op:=Go.Op.call { callee:=Go.Callee.value (Go.Operand.func 118),args:=#[Go.Operand.tmp 21],argTypes:=#[24] },type:=24,pos := "timeset.go:77",after:=#[{ on:=4,ground:=Go.Ground.data },{ on:=2,ground:=Go.Ground.chain }],guard:=none }) rfl (fun K hK=>?_) AllReadyH.nil;go_simp;go_at_call 118;refine ((HL.out _ hS1.1).mono ?_);rintro e W2 ⟨⟨v2,rfl,P2⟩,hb⟩;obtain ⟨o2,c2,rfl⟩:=Sl.shape P2;replace P2:=Sl.weak P2 (show b1+1≤_ from Q1.t.lt);have hS2:=mk _ W2 hS1 hb;have Q2:=Bxo.keep Q1 hb;replace P1:=P1.keep hb;refine hK.out _ _ hS2 (fun _=>?_);clear hK K hb;(try simp only [Act.put,zls,zl0,zl1]);refine wpAnyH_take (i:=6) (oi:={ dst:=some 23,op:=Go.Op.build 26 #[(0,Go.Operand.tmp 19),(1,Go.Operand.tmp 22)],type:=26,pos := "timeset.go:77",after:=#[{ on:=2,ground:=Go.Ground.data },{ on:=5,ground:=Go.Ground.data }],guard:=none }) (v:=.agg #[.int .i64 P,.slice o1 n1 c1,.int .i64 P,.slice o2 n1 c2,.int .i64 0,.int .i64 0,.slice none 0 0]) rfl (by kernel_rfl) (by kernel_rfl) (by kernel_rfl) (fun _ _ _ h=>hQ _ _ _ _ _ h) (Or.inl ⟨by rfl,?_⟩) hS2 ?_
 ·intro w hSw;(try dsimp only at hSw);go_simp;(try (rw [IntKind.wrap_i64];omega))
 (try simp only [Act.put,zls,zl0,zl1]);refine wpAnyH_ready (rs:=[7]) (by kernel_rfl) (by simp) ?_;refine AllReadyH.cons (o:={ dst:=none,op:=Go.Op.store 26 (Go.Operand.tmp 2) (Go.Operand.tmp 23),type:=0,pos := "timeset.go:77",after:=#[{ on:=6,ground:=Go.Ground.data },{ on:=5,ground:=Go.Ground.chain },{ on:=0,ground:=Go.Ground.phase },{ on:=1,ground:=Go.Ground.phase },{ on:=2,ground:=Go.Ground.phase },{ on:=3,ground:=Go.Ground.phase },{ on:=4,ground:=Go.Ground.phase },{ on:=5,ground:=Go.Ground.phase },{ on:=6,ground:=Go.Ground.phase }],guard:=none }) rfl (fun K hK=>?_) AllReadyH.nil;obtain ⟨aa,ab,ac,ad,ae,af,ag,ah,ai,aj,ak,al,am,an,-⟩:=Q2.z7;go_simp;have hS9:(fun W'=>Below w.heap.size w W'∧W'.cell? ⟨b0,0,none⟩=some (.int .i64 P)∧W'.cell? ⟨b0,1,none⟩=some (va)∧W'.cell? ⟨b0,2,none⟩=some (.int .i64 Q0)∧W'.cell? ⟨b0,3,none⟩=some (vb)∧W'.cell? ⟨b0,4,none⟩=some (.int .i64 a)∧W'.cell? ⟨b0,5,none⟩=some (.int .i64 b)∧W'.cell? ⟨b0,6,none⟩=some (vl)∧b0<W'.heap.size) (((((((W2.setCell ⟨b1,0,none⟩ (.int .i64 P)).setCell ⟨b1,1,none⟩ (.slice o1 n1 c1)).setCell ⟨b1,2,none⟩ (.int .i64 P)).setCell ⟨b1,3,none⟩ (.slice o2 n1 c2)).setCell ⟨b1,4,none⟩ (.int .i64 0)).setCell ⟨b1,5,none⟩ (.int .i64 0)).setCell ⟨b1,6,none⟩ (.slice none 0 0)):=by
  obtain ⟨kb,k0_0,k0_1,k0_2,k0_3,k0_4,k0_5,k0_6,kl⟩:=hS2;refine ⟨(((((((kb.setCell (p:=⟨b1,0,none⟩) le _).setCell (p:=⟨b1,1,none⟩) le _).setCell (p:=⟨b1,2,none⟩) le _).setCell (p:=⟨b1,3,none⟩) le _).setCell (p:=⟨b1,4,none⟩) le _).setCell (p:=⟨b1,5,none⟩) le _).setCell (p:=⟨b1,6,none⟩) le _),?_,?_,?_,?_,?_,?_,?_,by rw [size_set,size_set,size_set,size_set,size_set,size_set,size_set];exact kl⟩
  ·rw [zcn ne,zcn ne,zcn ne,zcn ne,zcn ne,zcn ne,zcn ne];exact k0_0
  ·rw [zcn ne,zcn ne,zcn ne,zcn ne,zcn ne,zcn ne,zcn ne];exact k0_1
  ·rw [zcn ne,zcn ne,zcn ne,zcn ne,zcn ne,zcn ne,zcn ne];exact k0_2
  ·rw [zcn ne,zcn ne,zcn ne,zcn ne,zcn ne,zcn ne,zcn ne];exact k0_3
  ·rw [zcn ne,zcn ne,zcn ne,zcn ne,zcn ne,zcn ne,zcn ne];exact k0_4
  ·rw [zcn ne,zcn ne,zcn ne,zcn ne,zcn ne,zcn ne,zcn ne];exact k0_5
  ·rw [zcn ne,zcn ne,zcn ne,zcn ne,zcn ne,zcn ne,zcn ne];exact k0_6
 refine hK.out _ _ hS9 (fun _=>?_);clear hK K;(try simp only [Act.put,zls,zl0,zl1]);refine wpAnyH_take (i:=8) (oi:={ dst:=some 3,op:=Go.Op.assign (Go.Operand.const (Go.Value.int Go.IntKind.i64 0)),type:=30,pos := "timeset.go:77",after:=#[{ on:=7,ground:=Go.Ground.chain },{ on:=0,ground:=Go.Ground.phase },{ on:=1,ground:=Go.Ground.phase },{ on:=2,ground:=Go.Ground.phase },{ on:=3,ground:=Go.Ground.phase },{ on:=4,ground:=Go.Ground.phase },{ on:=5,ground:=Go.Ground.phase },{ on:=6,ground:=Go.Ground.phase },{ on:=7,ground:=Go.Ground.phase }],guard:=none }) (v:=.int .i64 0) rfl (by kernel_rfl) (by kernel_rfl) (by kernel_rfl) (fun _ _ _ h=>hQ _ _ _ _ _ h) (Or.inl ⟨by rfl,?_⟩) hS9 ?_
 ·intro w hSw;(try dsimp only at hSw);go_simp;(try (rw [IntKind.wrap_i64];omega))
 (try simp only [Act.put,zls,zl0,zl1]);refine wpAnyH_done (by kernel_rfl) ?_ _;exact fin o1 c1 o2 c2 W2 hS2 Q2 P1 P2
def fbOps:Array Oper:=#[
 { dst:=some 41,op:=Go.Op.fieldAddr 26 (Go.Operand.tmp 1) 0,type:=0,pos := "timeset.go:86",after:=#[],guard:=none },
 { dst:=some 42,op:=Go.Op.load 24 (Go.Operand.tmp 41),type:=24,pos := "timeset.go:86",after:=#[{ on:=0,ground:=Go.Ground.data }],guard:=none },
 { dst:=some 43,op:=Go.Op.call { callee:=Go.Callee.value (Go.Operand.func 118),args:=#[Go.Operand.tmp 42],argTypes:=#[24] },type:=24,pos := "timeset.go:86",after:=#[{ on:=1,ground:=Go.Ground.data }],guard:=none },
 { dst:=some 44,op:=Go.Op.fieldAddr 26 (Go.Operand.tmp 1) 1,type:=0,pos := "timeset.go:86",after:=#[],guard:=none },
 { dst:=some 45,op:=Go.Op.load 24 (Go.Operand.tmp 44),type:=24,pos := "timeset.go:86",after:=#[{ on:=3,ground:=Go.Ground.data }],guard:=none },
 { dst:=some 46,op:=Go.Op.call { callee:=Go.Callee.value (Go.Operand.func 118),args:=#[Go.Operand.tmp 45],argTypes:=#[24] },type:=24,pos := "timeset.go:86",after:=#[{ on:=4,ground:=Go.Ground.data },{ on:=2,ground:=Go.Ground.chain }],guard:=none },
 { dst:=some 47,op:=Go.Op.fieldAddr 40 (Go.Operand.tmp 9) 0,type:=0,pos := "timeset.go:86",after:=#[],guard:=none },
 { dst:=some 48,op:=Go.Op.load 3 (Go.Operand.tmp 47),type:=3,pos := "timeset.go:86",after:=#[{ on:=6,ground:=Go.Ground.data }],guard:=none },
 { dst:=some 49,op:=Go.Op.fieldAddr 40 (Go.Operand.tmp 9) 1,type:=0,pos := "timeset.go:86",after:=#[],guard:=none },
 { dst:=some 50,op:=Go.Op.load 3 (Go.Operand.tmp 49),type:=3,pos := "timeset.go:86",after:=#[{ on:=8,ground:=Go.Ground.data }],guard:=none },
 { dst:=some 51,op:=Go.Op.load 40 (Go.Operand.tmp 9),type:=40,pos := "timeset.go:86",after:=#[],guard:=none },
 { dst:=some 52,op:=Go.Op.load 26 (Go.Operand.tmp 1),type:=26,pos := "timeset.go:86",after:=#[],guard:=none },
 { dst:=some 53,op:=Go.Op.call { callee:=Go.Callee.value (Go.Operand.func 68),args:=#[Go.Operand.tmp 52],argTypes:=#[26] },type:=86,pos := "timeset.go:86",after:=#[{ on:=11,ground:=Go.Ground.data },{ on:=5,ground:=Go.Ground.chain }],guard:=none },
 { dst:=some 54,op:=Go.Op.call { callee:=Go.Callee.value (Go.Operand.func 79),args:=#[Go.Operand.tmp 51,Go.Operand.tmp 53],argTypes:=#[40,86] },type:=22,pos := "timeset.go:86",after:=#[{ on:=10,ground:=Go.Ground.data },{ on:=12,ground:=Go.Ground.data },{ on:=12,ground:=Go.Ground.chain }],guard:=none },
 { dst:=some 55,op:=Go.Op.build 26 #[(0,Go.Operand.tmp 43),(1,Go.Operand.tmp 46),(2,Go.Operand.tmp 48),(3,Go.Operand.tmp 50),(4,Go.Operand.tmp 54)],type:=26,pos := "timeset.go:86",after:=#[{ on:=2,ground:=Go.Ground.data },{ on:=5,ground:=Go.Ground.data },{ on:=7,ground:=Go.Ground.data },{ on:=9,ground:=Go.Ground.data },{ on:=13,ground:=Go.Ground.data }],guard:=none },
 { dst:=none,op:=Go.Op.store 26 (Go.Operand.tmp 2) (Go.Operand.tmp 55),type:=0,pos := "timeset.go:86",after:=#[{ on:=14,ground:=Go.Ground.data },{ on:=13,ground:=Go.Ground.chain },{ on:=0,ground:=Go.Ground.phase },{ on:=1,ground:=Go.Ground.phase },{ on:=2,ground:=Go.Ground.phase },{ on:=3,ground:=Go.Ground.phase },{ on:=4,ground:=Go.Ground.phase },{ on:=5,ground:=Go.Ground.phase },{ on:=6,ground:=Go.Ground.phase },{ on:=7,ground:=Go.Ground.phase },{ on:=8,ground:=Go.Ground.phase },{ on:=9,ground:=Go.Ground.phase },{ on:=10,ground:=Go.Ground.phase },{ on:=11,ground:=Go.Ground.phase },{ on:=12,ground:=Go.Ground.phase },{ on:=13,ground:=Go.Ground.phase },{ on:=14,ground:=Go.Ground.phase }],guard:=none },
 { dst:=some 3,op:=Go.Op.assign (Go.Operand.const (Go.Value.int Go.IntKind.i64 0)),type:=30,pos := "timeset.go:86",after:=#[{ on:=15,ground:=Go.Ground.chain },{ on:=0,ground:=Go.Ground.phase },{ on:=1,ground:=Go.Ground.phase },{ on:=2,ground:=Go.Ground.phase },{ on:=3,ground:=Go.Ground.phase },{ on:=4,ground:=Go.Ground.phase },{ on:=5,ground:=Go.Ground.phase },{ on:=6,ground:=Go.Ground.phase },{ on:=7,ground:=Go.Ground.phase },{ on:=8,ground:=Go.Ground.phase },{ on:=9,ground:=Go.Ground.phase },{ on:=10,ground:=Go.Ground.phase },{ on:=11,ground:=Go.Ground.phase },{ on:=12,ground:=Go.Ground.phase },{ on:=13,ground:=Go.Ground.phase },{ on:=14,ground:=Go.Ground.phase },{ on:=15,ground:=Go.Ground.phase }],guard:=none }]
set_option maxRecDepth 100000 in
set_option maxHeartbeats 4000000 in
theorem fb_region (Q:Exit→Act→World→Prop) (P Q0 a b lo hi:Int) (va vb vl:Value) (b0 b1 b9:Nat) (n1 n2 n4:Nat) (x1 x2 x4:List Value) (f:Int→Bool) (nx:Int→Int) (t0 t3 t4 t5 t6 t7 t8 t10 t11 t12 t13 t14 t15 t16 t17 t18 t19 t20 t21 t22 t23 t24 t25 t26 t27 t28 t29 t30 t31 t32 t33 t34 t35 t36 t37 t38 t39 t40 t41 t42 t43 t44 t45 t46 t47 t48 t49 t50 t51 t52 t53 t54 t55:Value) (w w0:World) (hQ:∀ c a d v w,Q (.panic c) (Act.put a (some d) v) w→Q (.panic c) a w) (HL:Hid (∀ W,Below w.heap.size w W→Calls Tryz.prog 118 #[.agg #[.int .i64 P,va]] W fun e w'=>(∃ v',e=.returned (.agg #[.int .i64 P,v'])∧Sl W.heap.size w' v' n1 x1)∧Below W.heap.size W w')) (HR:Hid (∀ W,Below w.heap.size w W→Calls Tryz.prog 118 #[.agg #[.int .i64 Q0,vb]] W fun e w'=>(∃ v',e=.returned (.agg #[.int .i64 Q0,v'])∧Sl W.heap.size w' v' n2 x2)∧Below W.heap.size W w')) (HV:Hid (∀ W,Below w.heap.size w W→Calls Tryz.prog 68 #[.agg #[.int .i64 P,va,.int .i64 Q0,vb,.int .i64 a,.int .i64 b,vl]] W fun e w'=>(∃ v',e=.returned v'∧VwX (fun _=>False) w' v' f nx)∧Below W.heap.size W w')) (HN:Hid (∀ W,Below w.heap.size w W→∀ g k,VwX (fun _=>False) W (.func (.func g) #[] k) f nx→Calls Tryz.prog 79 #[.agg #[.int .i64 lo,.int .i64 hi],.func (.func g) #[] k] W fun e w'=>(∃ v',e=.returned v'∧Sl W.heap.size w' v' n4 x4)∧Below W.heap.size W w')) (hS0:Below w.heap.size w w0∧w0.cell? ⟨b0,0,none⟩=some (.int .i64 P)∧w0.cell? ⟨b0,1,none⟩=some (va)∧w0.cell? ⟨b0,2,none⟩=some (.int .i64 Q0)∧w0.cell? ⟨b0,3,none⟩=some (vb)∧w0.cell? ⟨b0,4,none⟩=some (.int .i64 a)∧w0.cell? ⟨b0,5,none⟩=some (.int .i64 b)∧w0.cell? ⟨b0,6,none⟩=some (vl)∧w0.cell? ⟨b9,0,none⟩=some (.int .i64 lo)∧w0.cell? ⟨b9,1,none⟩=some (.int .i64 hi)∧b9<w0.heap.size) (R0:Bxo w0 (b1) [.int .i64 0,.slice none 0 0,.int .i64 0,.slice none 0 0,.int .i64 0,.int .i64 0,.slice none 0 0]) (le:w.heap.size≤b1) (ne:b0≠b1∧b9≠b1) (ord:b0≤b9)
  (fin:∀ (o1:Option Addr) (c1:Nat) (o2:Option Addr) (c2:Nat) (g3:FuncId) (k3:Array Value) (o4:Option Addr) (c4:Nat) (W:World),Below w.heap.size w W∧W.cell? ⟨b0,0,none⟩=some (.int .i64 P)∧W.cell? ⟨b0,1,none⟩=some (va)∧W.cell? ⟨b0,2,none⟩=some (.int .i64 Q0)∧W.cell? ⟨b0,3,none⟩=some (vb)∧W.cell? ⟨b0,4,none⟩=some (.int .i64 a)∧W.cell? ⟨b0,5,none⟩=some (.int .i64 b)∧W.cell? ⟨b0,6,none⟩=some (vl)∧W.cell? ⟨b9,0,none⟩=some (.int .i64 lo)∧W.cell? ⟨b9,1,none⟩=some (.int .i64 hi)∧b9<W.heap.size→Bxo W (b1) [.int .i64 0,.slice none 0 0,.int .i64 0,.slice none 0 0,.int .i64 0,.int .i64 0,.slice none 0 0]→(Sl (b1+1) W (.slice o1 n1 c1) n1 x1)→(Sl (b1+1) W (.slice o2 n2 c2) n2 x2)→(VwX (fun _=>False) W (.func (.func g3) #[] k3) f nx)→(Sl (b1+1) W (.slice o4 n4 c4) n4 x4)→Q .normal ⟨#[t0,.pointer (some ⟨b0,0,none⟩),.pointer (some ⟨b1,0,none⟩),.int .i64 0,t4,t5,t6,t7,t8,.pointer (some ⟨b9,0,none⟩),t10,t11,t12,t13,t14,t15,t16,t17,t18,t19,t20,t21,t22,t23,t24,t25,t26,t27,t28,t29,t30,t31,t32,t33,t34,t35,t36,t37,t38,t39,t40,.pointer (some ⟨b0,0,none⟩),.agg #[.int .i64 P,va],.agg #[.int .i64 P,.slice o1 n1 c1],.pointer (some ⟨b0,2,none⟩),.agg #[.int .i64 Q0,vb],.agg #[.int .i64 Q0,.slice o2 n2 c2],.pointer (some ⟨b9,0,none⟩),.int .i64 lo,.pointer (some ⟨b9,1,none⟩),.int .i64 hi,.agg #[.int .i64 lo,.int .i64 hi],.agg #[.int .i64 P,va,.int .i64 Q0,vb,.int .i64 a,.int .i64 b,vl],.func (.func g3) #[] k3,.slice o4 n4 c4,.agg #[.int .i64 P,.slice o1 n1 c1,.int .i64 Q0,.slice o2 n2 c2,.int .i64 lo,.int .i64 hi,.slice o4 n4 c4]],[]⟩ (((((((W.setCell ⟨b1,0,none⟩ (.int .i64 P)).setCell ⟨b1,1,none⟩ (.slice o1 n1 c1)).setCell ⟨b1,2,none⟩ (.int .i64 Q0)).setCell ⟨b1,3,none⟩ (.slice o2 n2 c2)).setCell ⟨b1,4,none⟩ (.int .i64 lo)).setCell ⟨b1,5,none⟩ (.int .i64 hi)).setCell ⟨b1,6,none⟩ (.slice o4 n4 c4))) :
  (Code.region 9 fbOps true).wp Tryz.prog Q ⟨#[t0,.pointer (some ⟨b0,0,none⟩),.pointer (some ⟨b1,0,none⟩),t3,t4,t5,t6,t7,t8,.pointer (some ⟨b9,0,none⟩),t10,t11,t12,t13,t14,t15,t16,t17,t18,t19,t20,t21,t22,t23,t24,t25,t26,t27,t28,t29,t30,t31,t32,t33,t34,t35,t36,t37,t38,t39,t40,t41,t42,t43,t44,t45,t46,t47,t48,t49,t50,t51,t52,t53,t54,t55],[]⟩ w0:=by
 have mk:∀ W W':World,(Below w.heap.size w W∧W.cell? ⟨b0,0,none⟩=some (.int .i64 P)∧W.cell? ⟨b0,1,none⟩=some (va)∧W.cell? ⟨b0,2,none⟩=some (.int .i64 Q0)∧W.cell? ⟨b0,3,none⟩=some (vb)∧W.cell? ⟨b0,4,none⟩=some (.int .i64 a)∧W.cell? ⟨b0,5,none⟩=some (.int .i64 b)∧W.cell? ⟨b0,6,none⟩=some (vl)∧W.cell? ⟨b9,0,none⟩=some (.int .i64 lo)∧W.cell? ⟨b9,1,none⟩=some (.int .i64 hi)∧b9<W.heap.size)→Below W.heap.size W W'→(Below w.heap.size w W'∧W'.cell? ⟨b0,0,none⟩=some (.int .i64 P)∧W'.cell? ⟨b0,1,none⟩=some (va)∧W'.cell? ⟨b0,2,none⟩=some (.int .i64 Q0)∧W'.cell? ⟨b0,3,none⟩=some (vb)∧W'.cell? ⟨b0,4,none⟩=some (.int .i64 a)∧W'.cell? ⟨b0,5,none⟩=some (.int .i64 b)∧W'.cell? ⟨b0,6,none⟩=some (vl)∧W'.cell? ⟨b9,0,none⟩=some (.int .i64 lo)∧W'.cell? ⟨b9,1,none⟩=some (.int .i64 hi)∧b9<W'.heap.size):=fun W W' ⟨kb,k0_0,k0_1,k0_2,k0_3,k0_4,k0_5,k0_6,k1_0,k1_1,kl⟩ hb=>⟨down kb hb,(hb.cell (p:=⟨b0,0,none⟩) (by show b0<_;omega)).trans k0_0,(hb.cell (p:=⟨b0,1,none⟩) (by show b0<_;omega)).trans k0_1,(hb.cell (p:=⟨b0,2,none⟩) (by show b0<_;omega)).trans k0_2,(hb.cell (p:=⟨b0,3,none⟩) (by show b0<_;omega)).trans k0_3,(hb.cell (p:=⟨b0,4,none⟩) (by show b0<_;omega)).trans k0_4,(hb.cell (p:=⟨b0,5,none⟩) (by show b0<_;omega)).trans k0_5,(hb.cell (p:=⟨b0,6,none⟩) (by show b0<_;omega)).trans k0_6,(hb.cell (p:=⟨b9,0,none⟩) (by show b9<_;omega)).trans k1_0,(hb.cell (p:=⟨b9,1,none⟩) (by show b9<_;omega)).trans k1_1,zll kl hb.size⟩;refine wp_region_held_drew (S:=(fun W'=>Below w.heap.size w W'∧W'.cell? ⟨b0,0,none⟩=some (.int .i64 P)∧W'.cell? ⟨b0,1,none⟩=some (va)∧W'.cell? ⟨b0,2,none⟩=some (.int .i64 Q0)∧W'.cell? ⟨b0,3,none⟩=some (vb)∧W'.cell? ⟨b0,4,none⟩=some (.int .i64 a)∧W'.cell? ⟨b0,5,none⟩=some (.int .i64 b)∧W'.cell? ⟨b0,6,none⟩=some (vl)∧W'.cell? ⟨b9,0,none⟩=some (.int .i64 lo)∧W'.cell? ⟨b9,1,none⟩=some (.int .i64 hi)∧b9<W'.heap.size)) (by kernel_rfl) (mk _ _ hS0 (here w0).drew) (fun hS=>?_);have R1:=R0.keep (here w0).drew;generalize w0.drew=W0 at *;refine wpAnyH_take (i:=0) (oi:={ dst:=some 41,op:=Go.Op.fieldAddr 26 (Go.Operand.tmp 1) 0,type:=0,pos := "timeset.go:86",after:=#[],guard:=none }) (v:=.pointer (some ⟨b0,0,none⟩)) rfl (by kernel_rfl) (by kernel_rfl) (by kernel_rfl) (fun _ _ _ h=>hQ _ _ _ _ _ h) (Or.inl ⟨by rfl,?_⟩) hS ?_
 ·intro w hSw;(try dsimp only at hSw);go_simp;(try (rw [IntKind.wrap_i64];omega))
 (try simp only [Act.put,zls,zl0,zl1]);refine wpAnyH_take (i:=1) (oi:={ dst:=some 42,op:=Go.Op.load 24 (Go.Operand.tmp 41),type:=24,pos := "timeset.go:86",after:=#[{ on:=0,ground:=Go.Ground.data }],guard:=none }) (v:=.agg #[.int .i64 P,va]) rfl (by kernel_rfl) (by kernel_rfl) (by kernel_rfl) (fun _ _ _ h=>hQ _ _ _ _ _ h) (Or.inl ⟨by rfl,?_⟩) hS ?_
 ·intro w hSw;(try dsimp only at hSw);go_simp;(try (rw [IntKind.wrap_i64];omega))
 (try simp only [Act.put,zls,zl0,zl1]);refine wpAnyH_take (i:=3) (oi:={ dst:=some 44,op:=Go.Op.fieldAddr 26 (Go.Operand.tmp 1) 1,type:=0,pos := "timeset.go:86",after:=#[],guard:=none }) (v:=.pointer (some ⟨b0,2,none⟩)) rfl (by kernel_rfl) (by kernel_rfl) (by kernel_rfl) (fun _ _ _ h=>hQ _ _ _ _ _ h) (Or.inl ⟨by rfl,?_⟩) hS ?_
 ·intro w hSw;(try dsimp only at hSw);go_simp;(try (rw [IntKind.wrap_i64];omega))
 (try simp only [Act.put,zls,zl0,zl1]);refine wpAnyH_take (i:=4) (oi:={ dst:=some 45,op:=Go.Op.load 24 (Go.Operand.tmp 44),type:=24,pos := "timeset.go:86",after:=#[{ on:=3,ground:=Go.Ground.data }],guard:=none }) (v:=.agg #[.int .i64 Q0,vb]) rfl (by kernel_rfl) (by kernel_rfl) (by kernel_rfl) (fun _ _ _ h=>hQ _ _ _ _ _ h) (Or.inl ⟨by rfl,?_⟩) hS ?_
 ·intro w hSw;(try dsimp only at hSw);go_simp;(try (rw [IntKind.wrap_i64];omega))
 (try simp only [Act.put,zls,zl0,zl1]);refine wpAnyH_take (i:=6) (oi:={ dst:=some 47,op:=Go.Op.fieldAddr 40 (Go.Operand.tmp 9) 0,type:=0,pos := "timeset.go:86",after:=#[],guard:=none }) (v:=.pointer (some ⟨b9,0,none⟩)) rfl (by kernel_rfl) (by kernel_rfl) (by kernel_rfl) (fun _ _ _ h=>hQ _ _ _ _ _ h) (Or.inl ⟨by rfl,?_⟩) hS ?_
 ·intro w hSw;(try dsimp only at hSw);go_simp;(try (rw [IntKind.wrap_i64];omega))
 (try simp only [Act.put,zls,zl0,zl1]);refine wpAnyH_take (i:=7) (oi:={ dst:=some 48,op:=Go.Op.load 3 (Go.Operand.tmp 47),type:=3,pos := "timeset.go:86",after:=#[{ on:=6,ground:=Go.Ground.data }],guard:=none }) (v:=.int .i64 lo) rfl (by kernel_rfl) (by kernel_rfl) (by kernel_rfl) (fun _ _ _ h=>hQ _ _ _ _ _ h) (Or.inl ⟨by rfl,?_⟩) hS ?_
 ·intro w hSw;(try dsimp only at hSw);go_simp;(try (rw [IntKind.wrap_i64];omega))
 (try simp only [Act.put,zls,zl0,zl1]);refine wpAnyH_take (i:=8) (oi:={ dst:=some 49,op:=Go.Op.fieldAddr 40 (Go.Operand.tmp 9) 1,type:=0,pos := "timeset.go:86",after:=#[],guard:=none }) (v:=.pointer (some ⟨b9,1,none⟩)) rfl (by kernel_rfl) (by kernel_rfl) (by kernel_rfl) (fun _ _ _ h=>hQ _ _ _ _ _ h) (Or.inl ⟨by rfl,?_⟩) hS ?_
 ·intro w hSw;(try dsimp only at hSw);go_simp;(try (rw [IntKind.wrap_i64];omega))
 (try simp only [Act.put,zls,zl0,zl1]);refine wpAnyH_take (i:=9) (oi:={ dst:=some 50,op:=Go.Op.load 3 (Go.Operand.tmp 49),type:=3,pos := "timeset.go:86",after:=#[{ on:=8,ground:=Go.Ground.data }],guard:=none }) (v:=.int .i64 hi) rfl (by kernel_rfl) (by kernel_rfl) (by kernel_rfl) (fun _ _ _ h=>hQ _ _ _ _ _ h) (Or.inl ⟨by rfl,?_⟩) hS ?_
 ·intro w hSw;(try dsimp only at hSw);go_simp;(try (rw [IntKind.wrap_i64];omega))
 (try simp only [Act.put,zls,zl0,zl1]);refine wpAnyH_take (i:=10) (oi:={ dst:=some 51,op:=Go.Op.load 40 (Go.Operand.tmp 9),type:=40,pos := "timeset.go:86",after:=#[],guard:=none }) (v:=.agg #[.int .i64 lo,.int .i64 hi]) rfl (by kernel_rfl) (by kernel_rfl) (by kernel_rfl) (fun _ _ _ h=>hQ _ _ _ _ _ h) (Or.inl ⟨by rfl,?_⟩) hS ?_
 ·intro w hSw;(try dsimp only at hSw);go_simp;(try (rw [IntKind.wrap_i64];omega))
 (try simp only [Act.put,zls,zl0,zl1]);refine wpAnyH_take (i:=11) (oi:={ dst:=some 52,op:=Go.Op.load 26 (Go.Operand.tmp 1),type:=26,pos := "timeset.go:86",after:=#[],guard:=none }) (v:=.agg #[.int .i64 P,va,.int .i64 Q0,vb,.int .i64 a,.int .i64 b,vl]) rfl (by kernel_rfl) (by kernel_rfl) (by kernel_rfl) (fun _ _ _ h=>hQ _ _ _ _ _ h) (Or.inl ⟨by rfl,?_⟩) hS ?_
 ·intro w hSw;(try dsimp only at hSw);go_simp;(try (rw [IntKind.wrap_i64];omega))
 (try simp only [Act.put,zls,zl0,zl1]);refine wpAnyH_ready (rs:=[2]) (by kernel_rfl) (by simp) ?_;refine AllReadyH.cons (o:={ dst:=some 43,op:=Go.Op.call { callee:=Go.Callee.value (Go.Operand.func 118),args:=#[Go.Operand.tmp 42],argTypes:=#[24] },type:=24,pos := "timeset.go:86",after:=#[{ on:=1,ground:=Go.Ground.data }],guard:=none }) rfl (fun K hK=>?_) AllReadyH.nil;go_simp;go_at_call 118;refine ((HL.out _ hS.1).mono ?_);rintro e W1 ⟨⟨v1,rfl,P1⟩,hb⟩;obtain ⟨o1,c1,rfl⟩:=Sl.shape P1;replace P1:=Sl.weak P1 (show b1+1≤_ from R1.t.lt);have hS1:=mk _ W1 hS hb;have Q1:=Bxo.keep R1 hb;refine hK.out _ _ hS1 (fun _=>?_);clear hK K hb;(try simp only [Act.put,zls,zl0,zl1]);refine wpAnyH_ready (rs:=[5]) (by kernel_rfl) (by simp) ?_;refine AllReadyH.cons (o:={ dst:=some 46,op:=Go.Op.call { callee:=Go.Callee.value (Go.Operand.func 118),args:=#[Go.Operand.tmp 45],argTypes:=#[24] },type:=24,pos := "timeset.go:86",after:=#[{ on:=4,ground:=Go.Ground.data },{ on:=2,ground:=Go.Ground.chain }],guard:=none }) rfl (fun K hK=>?_) AllReadyH.nil;go_simp;go_at_call 118;refine ((HR.out _ hS1.1).mono ?_);rintro e W2 ⟨⟨v2,rfl,P2⟩,hb⟩;obtain ⟨o2,c2,rfl⟩:=Sl.shape P2;replace P2:=Sl.weak P2 (show b1+1≤_ from Q1.t.lt);have hS2:=mk _ W2 hS1 hb;have Q2:=Bxo.keep Q1 hb;replace P1:=P1.keep hb;refine hK.out _ _ hS2 (fun _=>?_);clear hK K hb;(try simp only [Act.put,zls,zl0,zl1]);refine wpAnyH_ready (rs:=[12]) (by kernel_rfl) (by simp) ?_;refine AllReadyH.cons (o:={ dst:=some 53,op:=Go.Op.call { callee:=Go.Callee.value (Go.Operand.func 68),args:=#[Go.Operand.tmp 52],argTypes:=#[26] },type:=86,pos := "timeset.go:86",after:=#[{ on:=11,ground:=Go.Ground.data },{ on:=5,ground:=Go.Ground.chain }],guard:=none }) rfl (fun K hK=>?_) AllReadyH.nil;go_simp;go_at_call 68;refine ((HV.out _ hS2.1).mono ?_);rintro e W3 ⟨⟨v3,rfl,V3⟩,hb⟩;obtain ⟨g3,k3,rfl⟩:=V3.shape;have hS3:=mk _ W3 hS2 hb;have Q3:=Bxo.keep Q2 hb;replace P1:=P1.keep hb;replace P2:=P2.keep hb;refine hK.out _ _ hS3 (fun _=>?_);clear hK K hb;(try simp only [Act.put,zls,zl0,zl1]);refine wpAnyH_ready (rs:=[13]) (by kernel_rfl) (by simp) ?_;refine AllReadyH.cons (o:={ dst:=some 54,op:=Go.Op.call { callee:=Go.Callee.value (Go.Operand.func 79),args:=#[Go.Operand.tmp 51,Go.Operand.tmp 53],argTypes:=#[40,86] },type:=22,pos := "timeset.go:86",after:=#[{ on:=10,ground:=Go.Ground.data },{ on:=12,ground:=Go.Ground.data },{ on:=12,ground:=Go.Ground.chain }],guard:=none }) rfl (fun K hK=>?_) AllReadyH.nil;go_simp;go_at_call 79;refine ((HN.out _ hS3.1 _ _ V3).mono ?_);rintro e W4 ⟨⟨v4,rfl,P4⟩,hb⟩;obtain ⟨o4,c4,rfl⟩:=Sl.shape P4;replace P4:=Sl.weak P4 (show b1+1≤_ from Q3.t.lt);have hS4:=mk _ W4 hS3 hb;have Q4:=Bxo.keep Q3 hb;replace P1:=P1.keep hb;replace P2:=P2.keep hb;replace V3:=V3.keep hb;refine hK.out _ _ hS4 (fun _=>?_)
 clear hK K hb;(try simp only [Act.put,zls,zl0,zl1]);refine wpAnyH_take (i:=14) (oi:={ dst:=some 55,op:=Go.Op.build 26 #[(0,Go.Operand.tmp 43),(1,Go.Operand.tmp 46),(2,Go.Operand.tmp 48),(3,Go.Operand.tmp 50),(4,Go.Operand.tmp 54)],type:=26,pos := "timeset.go:86",after:=#[{ on:=2,ground:=Go.Ground.data },{ on:=5,ground:=Go.Ground.data },{ on:=7,ground:=Go.Ground.data },{ on:=9,ground:=Go.Ground.data },{ on:=13,ground:=Go.Ground.data }],guard:=none }) (v:=.agg #[.int .i64 P,.slice o1 n1 c1,.int .i64 Q0,.slice o2 n2 c2,.int .i64 lo,.int .i64 hi,.slice o4 n4 c4]) rfl (by kernel_rfl) (by kernel_rfl) (by kernel_rfl) (fun _ _ _ h=>hQ _ _ _ _ _ h) (Or.inl ⟨by rfl,?_⟩) hS4 ?_
 ·intro w hSw;(try dsimp only at hSw);go_simp;(try (rw [IntKind.wrap_i64];omega))
 (try simp only [Act.put,zls,zl0,zl1]);refine wpAnyH_ready (rs:=[15]) (by kernel_rfl) (by simp) ?_;refine AllReadyH.cons (o:={ dst:=none,op:=Go.Op.store 26 (Go.Operand.tmp 2) (Go.Operand.tmp 55),type:=0,pos := "timeset.go:86",after:=#[{ on:=14,ground:=Go.Ground.data },{ on:=13,ground:=Go.Ground.chain },{ on:=0,ground:=Go.Ground.phase },{ on:=1,ground:=Go.Ground.phase },{ on:=2,ground:=Go.Ground.phase },{ on:=3,ground:=Go.Ground.phase },{ on:=4,ground:=Go.Ground.phase },{ on:=5,ground:=Go.Ground.phase },{ on:=6,ground:=Go.Ground.phase },{ on:=7,ground:=Go.Ground.phase },{ on:=8,ground:=Go.Ground.phase },{ on:=9,ground:=Go.Ground.phase },{ on:=10,ground:=Go.Ground.phase },{ on:=11,ground:=Go.Ground.phase },{ on:=12,ground:=Go.Ground.phase },{ on:=13,ground:=Go.Ground.phase },{ on:=14,ground:=Go.Ground.phase }],guard:=none }) rfl (fun K hK=>?_) AllReadyH.nil;obtain ⟨aa,ab,ac,ad,ae,af,ag,ah,ai,aj,ak,al,am,an,-⟩:=Q4.z7;go_simp;have hS9:(fun W'=>Below w.heap.size w W'∧W'.cell? ⟨b0,0,none⟩=some (.int .i64 P)∧W'.cell? ⟨b0,1,none⟩=some (va)∧W'.cell? ⟨b0,2,none⟩=some (.int .i64 Q0)∧W'.cell? ⟨b0,3,none⟩=some (vb)∧W'.cell? ⟨b0,4,none⟩=some (.int .i64 a)∧W'.cell? ⟨b0,5,none⟩=some (.int .i64 b)∧W'.cell? ⟨b0,6,none⟩=some (vl)∧W'.cell? ⟨b9,0,none⟩=some (.int .i64 lo)∧W'.cell? ⟨b9,1,none⟩=some (.int .i64 hi)∧b9<W'.heap.size) (((((((W4.setCell ⟨b1,0,none⟩ (.int .i64 P)).setCell ⟨b1,1,none⟩ (.slice o1 n1 c1)).setCell ⟨b1,2,none⟩ (.int .i64 Q0)).setCell ⟨b1,3,none⟩ (.slice o2 n2 c2)).setCell ⟨b1,4,none⟩ (.int .i64 lo)).setCell ⟨b1,5,none⟩ (.int .i64 hi)).setCell ⟨b1,6,none⟩ (.slice o4 n4 c4)):=by
  obtain ⟨kb,k0_0,k0_1,k0_2,k0_3,k0_4,k0_5,k0_6,k1_0,k1_1,kl⟩:=hS4;refine ⟨(((((((kb.setCell (p:=⟨b1,0,none⟩) le _).setCell (p:=⟨b1,1,none⟩) le _).setCell (p:=⟨b1,2,none⟩) le _).setCell (p:=⟨b1,3,none⟩) le _).setCell (p:=⟨b1,4,none⟩) le _).setCell (p:=⟨b1,5,none⟩) le _).setCell (p:=⟨b1,6,none⟩) le _),?_,?_,?_,?_,?_,?_,?_,?_,?_,by rw [size_set,size_set,size_set,size_set,size_set,size_set,size_set];exact kl⟩
  ·rw [zcn ne.1,zcn ne.1,zcn ne.1,zcn ne.1,zcn ne.1,zcn ne.1,zcn ne.1];exact k0_0
  ·rw [zcn ne.1,zcn ne.1,zcn ne.1,zcn ne.1,zcn ne.1,zcn ne.1,zcn ne.1];exact k0_1
  ·rw [zcn ne.1,zcn ne.1,zcn ne.1,zcn ne.1,zcn ne.1,zcn ne.1,zcn ne.1];exact k0_2
  ·rw [zcn ne.1,zcn ne.1,zcn ne.1,zcn ne.1,zcn ne.1,zcn ne.1,zcn ne.1];exact k0_3
  ·rw [zcn ne.1,zcn ne.1,zcn ne.1,zcn ne.1,zcn ne.1,zcn ne.1,zcn ne.1];exact k0_4
  ·rw [zcn ne.1,zcn ne.1,zcn ne.1,zcn ne.1,zcn ne.1,zcn ne.1,zcn ne.1];exact k0_5
  ·rw [zcn ne.1,zcn ne.1,zcn ne.1,zcn ne.1,zcn ne.1,zcn ne.1,zcn ne.1];exact k0_6
  ·rw [zcn ne.2,zcn ne.2,zcn ne.2,zcn ne.2,zcn ne.2,zcn ne.2,zcn ne.2];exact k1_0
  ·rw [zcn ne.2,zcn ne.2,zcn ne.2,zcn ne.2,zcn ne.2,zcn ne.2,zcn ne.2];exact k1_1
 refine hK.out _ _ hS9 (fun _=>?_);clear hK K;(try simp only [Act.put,zls,zl0,zl1]);refine wpAnyH_take (i:=16) (oi:={ dst:=some 3,op:=Go.Op.assign (Go.Operand.const (Go.Value.int Go.IntKind.i64 0)),type:=30,pos := "timeset.go:86",after:=#[{ on:=15,ground:=Go.Ground.chain },{ on:=0,ground:=Go.Ground.phase },{ on:=1,ground:=Go.Ground.phase },{ on:=2,ground:=Go.Ground.phase },{ on:=3,ground:=Go.Ground.phase },{ on:=4,ground:=Go.Ground.phase },{ on:=5,ground:=Go.Ground.phase },{ on:=6,ground:=Go.Ground.phase },{ on:=7,ground:=Go.Ground.phase },{ on:=8,ground:=Go.Ground.phase },{ on:=9,ground:=Go.Ground.phase },{ on:=10,ground:=Go.Ground.phase },{ on:=11,ground:=Go.Ground.phase },{ on:=12,ground:=Go.Ground.phase },{ on:=13,ground:=Go.Ground.phase },{ on:=14,ground:=Go.Ground.phase },{ on:=15,ground:=Go.Ground.phase }],guard:=none }) (v:=.int .i64 0) rfl (by kernel_rfl) (by kernel_rfl) (by kernel_rfl) (fun _ _ _ h=>hQ _ _ _ _ _ h) (Or.inl ⟨by rfl,?_⟩) hS9 ?_
 ·intro w hSw;(try dsimp only at hSw);go_simp;(try (rw [IntKind.wrap_i64];omega))
 (try simp only [Act.put,zls,zl0,zl1]);refine wpAnyH_done (by kernel_rfl) ?_ _;exact fin o1 c1 o2 c2 g3 k3 o4 c4 W4 hS4 Q4 P1 P2 V3 P4
set_option maxRecDepth 100000 in
set_option maxHeartbeats 4000000 in
theorem tvform (s:TS) (g:Giv s.P s.A s.Q s.B s.a s.b s.L) (e:pqE s.P s.A s.Q s.B=0) (va vb vl:Value) (w:World) (h:SS3 w s va vb vl) :
    Calls Tryz.prog 63 #[.agg #[.int .i64 s.P,va,.int .i64 s.Q,vb,.int .i64 s.a,.int .i64 s.b,vl]] w (TsO w (frT s.P s.A s.Q s.B (hsT s))):=by
  have gw:=g.gw;obtain ⟨oa,ca,rfl⟩:=prs_shape h.a;obtain ⟨ob,cb,rfl⟩:=prs_shape h.b;obtain ⟨ol,cl,rfl⟩:=prs_shape h.l;obtain ⟨M,hM,m0,m1⟩:∃ M:Int,(¬ smP s→DfM s M)∧0≤M∧M≤12622780800:=by
    by_cases sm:smP s
    · exact ⟨0,fun c=>absurd sm c,by omega,by omega⟩
    · obtain ⟨M,d⟩:=df_ex g.p g.q e sm;exact ⟨M,fun _=>d,by have:=d.m0;omega,d.m1⟩
  obtain ⟨w2,hw2⟩:∃ w2:World,((w.alloc (.cells #[.int .i64 s.P,.slice oa s.A.length ca,.int .i64 s.Q,.slice ob s.B.length cb,.int .i64 s.a,.int .i64 s.b,.slice ol s.L.length cl] 26)).alloc (.cells #[.int .i64 0,.slice none 0 0,.int .i64 0,.slice none 0 0,.int .i64 0,.int .i64 0,.slice none 0 0] 26))=w2:=⟨_,rfl⟩;have TB:Hid (Bxs w2 w.heap.size [.int .i64 s.P,.slice oa s.A.length ca,.int .i64 s.Q,.slice ob s.B.length cb,.int .i64 s.a,.int .i64 s.b,.slice ol s.L.length cl]):=by show Bxs _ _ _;rw [← hw2];exact (Bxs.new (w:=w) [.int .i64 s.P,.slice oa s.A.length ca,.int .i64 s.Q,.slice ob s.B.length cb,.int .i64 s.a,.int .i64 s.b,.slice ol s.L.length cl] 26).old _
  have RB:Hid (Bxo w2 (w.heap.size+1) [.int .i64 0,.slice none 0 0,.int .i64 0,.slice none 0 0,.int .i64 0,.int .i64 0,.slice none 0 0]):=by show Bxo _ _ _;rw [← hw2];exact Bxo.snd (w:=w) (o:=(.cells #[.int .i64 s.P,.slice oa s.A.length ca,.int .i64 s.Q,.slice ob s.B.length cb,.int .i64 s.a,.int .i64 s.b,.slice ol s.L.length cl] 26)) [.int .i64 0,.slice none 0 0,.int .i64 0,.slice none 0 0,.int .i64 0,.int .i64 0,.slice none 0 0] 26
  have A2:Hid (Below w.heap.size w w2):=by show Below _ _ _;rw [← hw2];exact grow (grow (here w) _) _
  have s2:w.heap.size+1<w2.heap.size:=RB.out.t.lt;have HD:=zh (tvdep s gw _ _ _ M hM m0 m1 w2 (h.keep A2.out));have HM:=zh (fun W (k:Below w.heap.size w W)=>tvmir s gw _ _ _ W (h.keep k));have HD2:=zh (fun W ua ub ul (k:SS3 W (mrT s) ua ub ul)=>tvdep (mrT s) gw.mirror ua ub ul M (fun c=>df_mirror gw (hM (fun d=>c (sm_mirror.2 d)))) m0 m1 W k);have HL:Hid (∀ W,Below w.heap.size w W→Calls Tryz.prog 118 #[.agg #[.int .i64 s.P,.slice oa s.A.length ca]] W fun e w'=>(∃ v',e=.returned (.agg #[.int .i64 s.P,v'])∧Sl W.heap.size w' v' s.A.length (pairs s.A))∧Below W.heap.size W w'):=fun W hW=>tvclone s.P _ s.A (by have:=gw.p.len;omega) W (h.keep hW).a;have HR:Hid (∀ W,Below w.heap.size w W→Calls Tryz.prog 118 #[.agg #[.int .i64 s.Q,.slice ob s.B.length cb]] W fun e w'=>(∃ v',e=.returned (.agg #[.int .i64 s.Q,v'])∧Sl W.heap.size w' v' s.B.length (pairs s.B))∧Below W.heap.size W w'):=fun W hW=>tvclone s.Q _ s.B (by have:=gw.q.len;omega) W (h.keep hW).b;have HV:Hid (∀ W,Below w.heap.size w W→Calls Tryz.prog 68 #[.agg #[.int .i64 s.P,.slice oa s.A.length ca,.int .i64 s.Q,.slice ob s.B.length cb,.int .i64 s.a,.int .i64 s.b,.slice ol s.L.length cl]] W fun e w'=>(∃ v',e=.returned v'∧VwX (fun _=>False) w' v' (hsT s) (nxT s))∧Below W.heap.size W w'):=fun W hW=>tvset s gw _ _ _ W (h.keep hW);obtain ⟨b0,b1,b2,b3,b4,b5,b6,bl⟩:=TB.out.z7;replace h:=zh h;clear hM
  go_enter Tryz.func63,Tryz.ntmps63
  go_wp2_with fail
  refine HD.out.mono ?_;rintro e w3 ⟨⟨d,o,rfl,hd,d0,d1⟩,hb⟩;have A3:=zd A2 hb;have T3:=zh (TB.out.keep hb);have R3:=zh (RB.out.keep hb);clear hb HD A2 TB RB b0 b1 b2 b3 b4 b5 b6 bl
  cases o
  · have FR:=zh (dp_none g hd);have kk:True:=trivial;obtain ⟨b0,b1,b2,b3,b4,b5,b6,bl⟩:=T3.out.z7;go_wp2
    refine fa_region _ s.P s.Q s.a s.b _ _ _ w.heap.size (w.heap.size+1) _ _ _ _ _ _ _ _ _ _ _ _ _ _ _ _ _ _ _ _ _ _ _ _ _ _ _ _ _ _ _ _ _ _ _ _ _ _ _ _ _ _ _ _ _ _ _ _ _ _ _ _ _ _ _ _ w w3 (fun _ _ _ _ _ h=>h) HL ⟨A3.out,b0,b1,b2,b3,b4,b5,b6,bl⟩ R3.out (by omega) (by omega) ?_;intro o1 c1 o2 c2 W hS R8 P1 P2;clear b0 b1 b2 b3 b4 b5 b6 bl A3 T3 R3 HL HR HV HM HD2;have FB:=R8.put7 (.int .i64 s.P) (.slice o1 s.A.length c1) (.int .i64 s.P) (.slice o2 s.A.length c2) (.int .i64 0) (.int .i64 0) (.slice none 0 0);have AF:=below_put7 hS.1 (show w.heap.size≤w.heap.size+1 by omega) (.int .i64 s.P) (.slice o1 s.A.length c1) (.int .i64 s.P) (.slice o2 s.A.length c2) (.int .i64 0) (.int .i64 0) (.slice none 0 0);obtain ⟨q0,q1,q2,q3,q4,q5,q6,-⟩:=FB.z7;go_wp2
    refine bodyPost_ret (v:=.tuple #[.agg #[.int .i64 s.P,.slice o1 s.A.length c1,.int .i64 s.P,.slice o2 s.A.length c2,.int .i64 0,.int .i64 0,.slice none 0 0],.int .i64 0]) (by simp [results,Tryz.results63,go_sem,q0,q1,q2,q3,q4,q5,q6]) rfl ?_;rw [FR.out];exact ⟨⟨_,_,_,rfl,⟨Sl.weak (far_put7 P1 (Nat.lt_succ_self _) (.int .i64 s.P) (.slice o1 s.A.length c1) (.int .i64 s.P) (.slice o2 s.A.length c2) (.int .i64 0) (.int .i64 0) (.slice none 0 0)) (Nat.zero_le _),Sl.weak (far_put7 P2 (Nat.lt_succ_self _) (.int .i64 s.P) (.slice o1 s.A.length c1) (.int .i64 s.P) (.slice o2 s.A.length c2) (.int .i64 0) (.int .i64 0) (.slice none 0 0)) (Nat.zero_le _),Sl.none _ _⟩⟩,AF⟩
  · have kk:True:=trivial;obtain ⟨b0,b1,b2,b3,b4,b5,b6,bl⟩:=T3.out.z7;go_wp2_with fail
    refine (HM.out _ A3.out).mono ?_;rintro e w4 ⟨⟨ua,ub,ul,rfl,SM⟩,hb⟩;have A4:=zd A3 hb;have T4:=zh (T3.out.keep hb);have R4:=zh (R3.out.keep hb);have HE:=zh (HD2.out _ _ _ _ SM);clear hb HM HD2 A3 T3 R3 b0 b1 b2 b3 b4 b5 b6 bl SM hw2;go_wp2_with fail
    refine HE.out.mono ?_;rintro e w5 ⟨⟨z,o,rfl,hz,z0,z1⟩,hb⟩;have A5:=zd A4 hb;have T5:=zh (T4.out.keep hb);have R5:=zh (R4.out.keep hb);obtain rfl:=dp_both gw hd hz;obtain ⟨F1,F2,F3⟩:=dp_form g e hd hz;clear hb HE A4 T4 R4;obtain ⟨b,hb⟩:∃ b,-z=b:=⟨_,rfl⟩;rw [hb] at F1 F2 F3;obtain ⟨m,hm⟩:∃ m,mnI d b=m:=⟨_,rfl⟩;have mb:=mnI_or d b;have mc:=mnI_le d b;have ef:(if b<d then b else d)=m:=hm;have em:min d b=m:=by rw [mn_min];exact hm
    rw [hm] at F2 F3 mb mc;have HN:Hid (∀ W,Below w.heap.size w W→∀ g k,VwX (fun _=>False) W (.func (.func g) #[] k) (hsT s) (nxT s)→Calls Tryz.prog 79 #[.agg #[.int .i64 m,.int .i64 b],.func (.func g) #[] k] W fun e w'=>(∃ v',e=.returned v'∧Sl W.heap.size w' v' (caL (hsT s) m b).length (pairs (caL (hsT s) m b)))∧Below W.heap.size W w'):=fun W hW g k V=>by
      refine (tvruns (hsT s) (nxT s) m b (by omega) (by omega) (by omega) (by omega) (fun x _ x1=>nxT_ok gw (by unfold farI;omega)) _ W V).mono ?_;rintro e w' ⟨⟨v',R,h1,h2,h3⟩,h4⟩;have:=h3.eq F2;subst this;exact ⟨⟨v',h1,h2⟩,h4⟩
    obtain ⟨w6,hw6⟩:∃ w6:World,w5.alloc (.cells #[.int .i64 m,.int .i64 b] 40)=w6:=⟨_,rfl⟩;have g6:Below w5.heap.size w5 w6:=by rw [← hw6];exact grow (here w5) _
    have U6:Bxs w6 w5.heap.size [.int .i64 m,.int .i64 b]:=by rw [← hw6];exact Bxs.new (w:=w5) [.int .i64 m,.int .i64 b] 40
    have T6:=T5.out.keep g6;have R6:=R5.out.keep g6;have A6:=down A5.out g6;have s5:=A5.out.size;have s6:=R5.out.t.lt;obtain ⟨c0,c1,c2,c3,c4,c5,c6,aa⟩:=T6.z7;obtain ⟨ab,ac,dl⟩:=U6.z2;replace U6:=zh U6;replace T6:=zh T6;replace hm:=zh hm;replace F2:=zh F2;replace gw:=zh gw;clear g6 A5 T5 R5 hd hz g
    by_cases q:m < -4398046511104
    · have kq:decide (m < -4398046511104)=true:=zdt q;rw [if_pos q] at F3;replace F3:=zh F3;have R8:=R6;clear q;obtain ⟨ad,ae,af,ag,ah,ai,aj,ak,al,am,an,ao,ap,aq,-⟩:=R6.z7;clear c0 c1 c2 c3 c4 c5 c6 aa;go_wp2
      have FB:=R8.put7 (.int .i64 0) (.slice none 0 0) (.int .i64 0) (.slice none 0 0) (.int .i64 0) (.int .i64 0) (.slice none 0 0);have AF:=below_put7 A6 (show w.heap.size≤w.heap.size+1 by omega) (.int .i64 0) (.slice none 0 0) (.int .i64 0) (.slice none 0 0) (.int .i64 0) (.int .i64 0) (.slice none 0 0);obtain ⟨q0,q1,q2,q3,q4,q5,q6,-⟩:=FB.z7;refine bodyPost_ret (v:=.tuple #[.agg #[.int .i64 0,.slice none 0 0,.int .i64 0,.slice none 0 0,.int .i64 0,.int .i64 0,.slice none 0 0],.int .i64 9]) (by simp [results,Tryz.results63,go_sem,q0,q1,q2,q3,q4,q5,q6]) rfl ?_;rw [F3.out];exact ⟨⟨_,_,_,rfl,ss3_none _⟩,AF⟩
    · have kq:decide (m < -4398046511104)=false:=zdf q;rw [if_neg q] at F3;replace F3:=zh F3;clear q;replace R6:=zh R6;go_wp2
      refine fb_region _ s.P s.Q s.a s.b m b _ _ _ w.heap.size (w.heap.size+1) w5.heap.size _ _ _ _ _ _ _ _ _ _ _ _ _ _ _ _ _ _ _ _ _ _ _ _ _ _ _ _ _ _ _ _ _ _ _ _ _ _ _ _ _ _ _ _ _ _ _ _ _ _ _ _ _ _ _ _ _ _ _ _ _ w w6 (fun _ _ _ _ _ h=>h) HL HR HV HN ⟨A6,c0,c1,c2,c3,c4,c5,c6,ab,ac,dl⟩ R6.out (by omega) ⟨by omega,by omega⟩ (by omega) ?_;intro o1 c1' o2 c2' g3 k3 o4 c4' W hS R8 P1 P2 V3 P4;clear c0 c1 c2 c3 c4 c5 c6 aa ab ac dl A6 T6 R6 U6 HL HR HV HN V3 hw6;have hS':=hS.1;clear hS;have hS:Below w.heap.size w W∧True:=⟨hS',trivial⟩;have FB:=R8.put7 (.int .i64 s.P) (.slice o1 s.A.length c1') (.int .i64 s.Q) (.slice o2 s.B.length c2') (.int .i64 m) (.int .i64 b) (.slice o4 (caL (hsT s) m b).length c4');have AF:=below_put7 hS.1 (show w.heap.size≤w.heap.size+1 by omega) (.int .i64 s.P) (.slice o1 s.A.length c1') (.int .i64 s.Q) (.slice o2 s.B.length c2') (.int .i64 m) (.int .i64 b) (.slice o4 (caL (hsT s) m b).length c4');obtain ⟨q0,q1,q2,q3,q4,q5,q6,-⟩:=FB.z7;go_wp2
      refine bodyPost_ret (v:=.tuple #[.agg #[.int .i64 s.P,.slice o1 s.A.length c1',.int .i64 s.Q,.slice o2 s.B.length c2',.int .i64 m,.int .i64 b,.slice o4 (caL (hsT s) m b).length c4'],.int .i64 0]) (by simp [results,Tryz.results63,go_sem,q0,q1,q2,q3,q4,q5,q6]) rfl ?_;rw [F3.out];exact ⟨⟨_,_,_,rfl,⟨Sl.weak (far_put7 P1 (Nat.lt_succ_self _) (.int .i64 s.P) (.slice o1 s.A.length c1') (.int .i64 s.Q) (.slice o2 s.B.length c2') (.int .i64 m) (.int .i64 b) (.slice o4 (caL (hsT s) m b).length c4')) (Nat.zero_le _),Sl.weak (far_put7 P2 (Nat.lt_succ_self _) (.int .i64 s.P) (.slice o1 s.A.length c1') (.int .i64 s.Q) (.slice o2 s.B.length c2') (.int .i64 m) (.int .i64 b) (.slice o4 (caL (hsT s) m b).length c4')) (Nat.zero_le _),Sl.weak (far_put7 P4 (Nat.lt_succ_self _) (.int .i64 s.P) (.slice o1 s.A.length c1') (.int .i64 s.Q) (.slice o2 s.B.length c2') (.int .i64 m) (.int .i64 b) (.slice o4 (caL (hsT s) m b).length c4')) (Nat.zero_le _)⟩⟩,AF⟩
def orE (e f g:Int):Int:=if e=0 then (if f=0 then g else f) else e
set_option maxRecDepth 100000 in
set_option maxHeartbeats 1000000 in
theorem tvor (e f g:Int) (b:Nat) (w:World) (hb:Bxs w b [.int .i64 e,.int .i64 f,.int .i64 g]) :
    Calls Tryz.prog 78 #[.slice (some ⟨b,0,none⟩) 3 3] w fun r w'=>r=.returned (.int .i64 (orE e f g))∧w=w':=by
  obtain ⟨c0,c1,c2,bl⟩:=hb.z3;clear hb;have hr:Hid (∀ r,r=orE e f g→orE e f g=r):=fun r h=>h.symm;obtain ⟨r,hr⟩:∃ r,orE e f g=r:=⟨_,rfl⟩;rw [hr]
  unfold orE at hr
  replace hr:=zh hr
  go_enter Tryz.func78,Tryz.ntmps78
  go_wp2
  go_loopw [8] (fun i wr=>∃ k:Nat,k≤3∧i=.int .i64 k∧wr=w∧Hid (1≤k→e=0)∧Hid (2≤k→f=0)∧Hid (3≤k→g=0)) (fun i _=>3 - (intOf i).toNat)
  case atStart=>exact ⟨0,by omega,rfl,rfl,fun h=>by omega,fun h=>by omega,fun h=>by omega⟩
  case round =>
    obtain ⟨k,k3,rfl,rfl,h1,h2,h3⟩:=hrel;have cs:k=0∨k=1∨k=2∨k=3:=by omega
    rcases cs with rfl | rfl | rfl | rfl
    · by_cases z:e=0
      · have kz:(e==0)=true:=by rw [beq_iff_eq];exact z
        replace z:=zh z;go_wp2
        go_roundw
        case rel=>exact ⟨1,by omega,by first | rfl | go_num,by first | rfl | trivial,fun _=>z.out,fun h=>by omega,fun h=>by omega⟩
        case measure=>simp [intOf]
      · have kz:(e==0)=false:=by rw [beq_eq_false_iff_ne];exact z
        have er:e=r:=by have:=hr.out;rw [if_neg z] at this;exact this
        go_wp2
        go_ret
        exact ⟨by rw [← er];rfl,rfl⟩
    · have e0:=h1.out (by omega)
      by_cases z:f=0
      · have kz:(f==0)=true:=by rw [beq_iff_eq];exact z
        replace z:=zh z;replace e0:=zh e0;go_wp2
        go_roundw
        case rel=>exact ⟨2,by omega,by first | rfl | go_num,by first | rfl | trivial,fun _=>e0.out,fun _=>z.out,fun h=>by omega⟩
        case measure=>simp [intOf]
      · have kz:(f==0)=false:=by rw [beq_eq_false_iff_ne];exact z
        have er:f=r:=by have:=hr.out;rw [if_pos e0,if_neg z] at this;exact this
        replace e0:=zh e0;go_wp2
        go_ret
        exact ⟨by rw [← er];rfl,rfl⟩
    · have e0:=h1.out (by omega);have f0:=h2.out (by omega);have er:g=r:=by have:=hr.out;rw [if_pos e0,if_pos f0] at this;exact this
      replace e0:=zh e0;replace f0:=zh f0
      by_cases z:g=0
      · have kz:(g==0)=true:=by rw [beq_iff_eq];exact z
        replace z:=zh z;replace er:=zh er;go_wp2
        go_roundw
        case rel=>exact ⟨3,by omega,by first | rfl | go_num,by first | rfl | trivial,fun _=>e0.out,fun _=>f0.out,fun _=>z.out⟩
        case measure=>simp [intOf]
      · have kz:(g==0)=false:=by rw [beq_eq_false_iff_ne];exact z
        go_wp2
        go_ret
        exact ⟨by rw [← er];rfl,rfl⟩
    · have r0:r=0:=by have:=hr.out;rw [if_pos (h1.out (by omega)),if_pos (h2.out (by omega)),h3.out (by omega)] at this;exact this.symm
      replace r0:=zh r0;go_wp2
      go_ret
      exact ⟨by rw [r0.out];rfl,rfl⟩
set_option maxRecDepth 100000 in
set_option maxHeartbeats 3000000 in
theorem tvwin (s t:TS) (hs:VS s) (ht:VS t) (va vb vl ua ub ul:Value) (w:World) (h:SS3 w s va vb vl) (k:SS3 w t ua ub ul) :
    Calls Tryz.prog 144 #[.agg #[.int .i64 s.P,va,.int .i64 s.Q,vb,.int .i64 s.a,.int .i64 s.b,vl],.agg #[.int .i64 t.P,ua,.int .i64 t.Q,ub,.int .i64 t.a,.int .i64 t.b,ul]] w fun e w'=>e=.returned (.agg #[.int .i64 (wnT s t).1,.int .i64 (wnT s t).2])∧Below w.heap.size w w':=by
  obtain ⟨osa,csa,rfl⟩:=prs_shape h.a;obtain ⟨osb,csb,rfl⟩:=prs_shape h.b;obtain ⟨osl,csl,rfl⟩:=prs_shape h.l;obtain ⟨ota,cta,rfl⟩:=prs_shape k.a;obtain ⟨otb,ctb,rfl⟩:=prs_shape k.b;obtain ⟨otl,ctl,rfl⟩:=prs_shape k.l;have AF_0:=zh (grow (grow (grow (here w) (.cells #[.int .i64 s.P,.slice osa s.A.length csa,.int .i64 s.Q,.slice osb s.B.length csb,.int .i64 s.a,.int .i64 s.b,.slice osl s.L.length csl] 26)) (.cells #[.int .i64 t.P,.slice ota t.A.length cta,.int .i64 t.Q,.slice otb t.B.length ctb,.int .i64 t.a,.int .i64 t.b,.slice otl t.L.length ctl] 26)) (.cells #[.int .i64 0,.int .i64 0] 40));have T_0:=zh (((Bxs.new (w:=w) [.int .i64 s.P,.slice osa s.A.length csa,.int .i64 s.Q,.slice osb s.B.length csb,.int .i64 s.a,.int .i64 s.b,.slice osl s.L.length csl] 26).old (.cells #[.int .i64 t.P,.slice ota t.A.length cta,.int .i64 t.Q,.slice otb t.B.length ctb,.int .i64 t.a,.int .i64 t.b,.slice otl t.L.length ctl] 26)).old (.cells #[.int .i64 0,.int .i64 0] 40));have U_0:=zh ((Bxs.snd (w:=w) (o:=(.cells #[.int .i64 s.P,.slice osa s.A.length csa,.int .i64 s.Q,.slice osb s.B.length csb,.int .i64 s.a,.int .i64 s.b,.slice osl s.L.length csl] 26)) [.int .i64 t.P,.slice ota t.A.length cta,.int .i64 t.Q,.slice otb t.B.length ctb,.int .i64 t.a,.int .i64 t.b,.slice otl t.L.length ctl] 26).old (.cells #[.int .i64 0,.int .i64 0] 40));have R_0:=zh (Bxo.trd (w:=w) (o:=(.cells #[.int .i64 s.P,.slice osa s.A.length csa,.int .i64 s.Q,.slice osb s.B.length csb,.int .i64 s.a,.int .i64 s.b,.slice osl s.L.length csl] 26)) (o':=(.cells #[.int .i64 t.P,.slice ota t.A.length cta,.int .i64 t.Q,.slice otb t.B.length ctb,.int .i64 t.a,.int .i64 t.b,.slice otl t.L.length ctl] 26)) [.int .i64 0,.int .i64 0] 40);have S_0:=zh (h.keep AF_0.out);have V_0:=zh (k.keep AF_0.out);have gs:=hs.g.gw;have gt:=ht.g.gw;have P1:Hid (∀ W,SS3 W s (.slice osa s.A.length csa) (.slice osb s.B.length csb) (.slice osl s.L.length csl)→Calls Tryz.prog 66 #[.agg #[.int .i64 s.P,.slice osa s.A.length csa,.int .i64 s.Q,.slice osb s.B.length csb,.int .i64 s.a,.int .i64 s.b,.slice osl s.L.length csl]] W fun e w'=>e=.returned (.bool (decide (s.a=s.b∧smP s)))∧Below W.heap.size W w'):=fun W h=>tvispure s _ _ _ (by have:=gs.p.len;omega) hs.ti.a hs.ti.b W h;have P2:Hid (∀ W,SS3 W t (.slice ota t.A.length cta) (.slice otb t.B.length ctb) (.slice otl t.L.length ctl)→Calls Tryz.prog 66 #[.agg #[.int .i64 t.P,.slice ota t.A.length cta,.int .i64 t.Q,.slice otb t.B.length ctb,.int .i64 t.a,.int .i64 t.b,.slice otl t.L.length ctl]] W fun e w'=>e=.returned (.bool (decide (t.a=t.b∧smP t)))∧Below W.heap.size W w'):=fun W h=>tvispure t _ _ _ (by have:=gt.p.len;omega) ht.ti.a ht.ti.b W h;rw [← pu_same hs] at P1;rw [← pu_same ht] at P2
  unfold wnT
  clear h k hs ht gs gt
  cases p:puB s
  · rw [p] at P1
    cases q:puB t
    · rw [q] at P2;obtain ⟨m,hm⟩:∃ m,(if t.a<s.a then t.a else s.a)=m:=⟨_,rfl⟩;obtain ⟨n,hn⟩:∃ n,(if s.b<t.b then t.b else s.b)=n:=⟨_,rfl⟩;have em:min s.a t.a=m:=by rw [← hm];split <;> omega
      have en:max s.b t.b=n:=by rw [← hn];split <;> omega
      show Calls _ _ _ _ fun e w'=>e=.returned (.agg #[.int .i64 (if t.a<s.a then t.a else s.a),.int .i64 (if s.b<t.b then t.b else s.b)])∧Below w.heap.size w w'
      rw [hm,hn];clear p q
      go_enter Tryz.func144,Tryz.ntmps144
      obtain ⟨aa,ab,ac,ad,ae,af,ag,ah⟩:=T_0.out.z7;obtain ⟨ai,aj,ak,al,am,an,ao,ap⟩:=U_0.out.z7;go_wp2_with fail
      clear aa ab ac ad ae af ag ai aj ak al am an ao ah ap;generalize (((w.alloc (.cells #[.int .i64 s.P,.slice osa s.A.length csa,.int .i64 s.Q,.slice osb s.B.length csb,.int .i64 s.a,.int .i64 s.b,.slice osl s.L.length csl] 26)).alloc (.cells #[.int .i64 t.P,.slice ota t.A.length cta,.int .i64 t.Q,.slice otb t.B.length ctb,.int .i64 t.a,.int .i64 t.b,.slice otl t.L.length ctl] 26)).alloc (.cells #[.int .i64 0,.int .i64 0] 40))=w0 at *;refine (P1.out _ S_0.out).mono ?_;rintro e w1 ⟨rfl,hb⟩;have AF_1:=zd AF_0 hb;have T_1:=zh (T_0.out.keep hb);have U_1:=zh (U_0.out.keep hb);have S_1:=zh (S_0.out.keep hb);have V_1:=zh (V_0.out.keep hb);have R_1:=zh (R_0.out.keep hb);clear hb AF_0 T_0 U_0 S_0 V_0 R_0;obtain ⟨aa,ab,ac,ad,ae,af,ag,ah⟩:=T_1.out.z7;obtain ⟨ai,aj,ak,al,am,an,ao,ap⟩:=U_1.out.z7;go_wp2_with fail
      clear aa ab ac ad ae af ag ai aj ak al am an ao ah ap;refine (P2.out _ V_1.out).mono ?_;rintro e w2 ⟨rfl,hb⟩;have AF_2:=zd AF_1 hb;have T_2:=zh (T_1.out.keep hb);have U_2:=zh (U_1.out.keep hb);have S_2:=zh (S_1.out.keep hb);have V_2:=zh (V_1.out.keep hb);have R_2:=zh (R_1.out.keep hb);clear hb AF_1 T_1 U_1 S_1 V_1 R_1;obtain ⟨aa,ab,ac,ad,ae,af,ag,ah⟩:=T_2.out.z7;obtain ⟨ai,aj,ak,al,am,an,ao,ap⟩:=U_2.out.z7;obtain ⟨aq,ar,au,av,-⟩:=R_2.out.z2;go_wp2
      have FB:=R_2.out.put2 (.int .i64 m) (.int .i64 n);have AF:=below_put2 AF_2.out (show w.heap.size≤w.heap.size+1+1 by omega) (.int .i64 m) (.int .i64 n);obtain ⟨q0,q1,-⟩:=FB.z2;refine bodyPost_ret (v:=.agg #[.int .i64 m,.int .i64 n]) (by simp [results,Tryz.results144,go_sem,q0,q1]) rfl ?_;exact ⟨rfl,AF⟩
    · rw [q] at P2
      show Calls _ _ _ _ fun e w'=>e=.returned (.agg #[.int .i64 s.a,.int .i64 s.b])∧Below w.heap.size w w'
      clear p q
      go_enter Tryz.func144,Tryz.ntmps144
      obtain ⟨aa,ab,ac,ad,ae,af,ag,ah⟩:=T_0.out.z7;obtain ⟨ai,aj,ak,al,am,an,ao,ap⟩:=U_0.out.z7;go_wp2_with fail
      clear aa ab ac ad ae af ag ai aj ak al am an ao ah ap;generalize (((w.alloc (.cells #[.int .i64 s.P,.slice osa s.A.length csa,.int .i64 s.Q,.slice osb s.B.length csb,.int .i64 s.a,.int .i64 s.b,.slice osl s.L.length csl] 26)).alloc (.cells #[.int .i64 t.P,.slice ota t.A.length cta,.int .i64 t.Q,.slice otb t.B.length ctb,.int .i64 t.a,.int .i64 t.b,.slice otl t.L.length ctl] 26)).alloc (.cells #[.int .i64 0,.int .i64 0] 40))=w0 at *;refine (P1.out _ S_0.out).mono ?_;rintro e w1 ⟨rfl,hb⟩;have AF_1:=zd AF_0 hb;have T_1:=zh (T_0.out.keep hb);have U_1:=zh (U_0.out.keep hb);have S_1:=zh (S_0.out.keep hb);have V_1:=zh (V_0.out.keep hb);have R_1:=zh (R_0.out.keep hb);clear hb AF_0 T_0 U_0 S_0 V_0 R_0;obtain ⟨aa,ab,ac,ad,ae,af,ag,ah⟩:=T_1.out.z7;obtain ⟨ai,aj,ak,al,am,an,ao,ap⟩:=U_1.out.z7;go_wp2_with fail
      clear aa ab ac ad ae af ag ai aj ak al am an ao ah ap;refine (P2.out _ V_1.out).mono ?_;rintro e w2 ⟨rfl,hb⟩;have AF_2:=zd AF_1 hb;have T_2:=zh (T_1.out.keep hb);have U_2:=zh (U_1.out.keep hb);have S_2:=zh (S_1.out.keep hb);have V_2:=zh (V_1.out.keep hb);have R_2:=zh (R_1.out.keep hb);clear hb AF_1 T_1 U_1 S_1 V_1 R_1;obtain ⟨aa,ab,ac,ad,ae,af,ag,ah⟩:=T_2.out.z7;obtain ⟨ai,aj,ak,al,am,an,ao,ap⟩:=U_2.out.z7;obtain ⟨aq,ar,au,av,-⟩:=R_2.out.z2;go_wp2
      have FB:=R_2.out.put2 (.int .i64 s.a) (.int .i64 s.b);have AF:=below_put2 AF_2.out (show w.heap.size≤w.heap.size+1+1 by omega) (.int .i64 s.a) (.int .i64 s.b);obtain ⟨q0,q1,-⟩:=FB.z2;refine bodyPost_ret (v:=.agg #[.int .i64 s.a,.int .i64 s.b]) (by simp [results,Tryz.results144,go_sem,q0,q1]) rfl ?_;exact ⟨rfl,AF⟩
  · rw [p] at P1
    show Calls _ _ _ _ fun e w'=>e=.returned (.agg #[.int .i64 t.a,.int .i64 t.b])∧Below w.heap.size w w'
    clear p P2
    go_enter Tryz.func144,Tryz.ntmps144
    obtain ⟨aa,ab,ac,ad,ae,af,ag,ah⟩:=T_0.out.z7;obtain ⟨ai,aj,ak,al,am,an,ao,ap⟩:=U_0.out.z7;go_wp2_with fail
    clear aa ab ac ad ae af ag ai aj ak al am an ao ah ap;generalize (((w.alloc (.cells #[.int .i64 s.P,.slice osa s.A.length csa,.int .i64 s.Q,.slice osb s.B.length csb,.int .i64 s.a,.int .i64 s.b,.slice osl s.L.length csl] 26)).alloc (.cells #[.int .i64 t.P,.slice ota t.A.length cta,.int .i64 t.Q,.slice otb t.B.length ctb,.int .i64 t.a,.int .i64 t.b,.slice otl t.L.length ctl] 26)).alloc (.cells #[.int .i64 0,.int .i64 0] 40))=w0 at *;refine (P1.out _ S_0.out).mono ?_;rintro e w1 ⟨rfl,hb⟩;have AF_1:=zd AF_0 hb;have T_1:=zh (T_0.out.keep hb);have U_1:=zh (U_0.out.keep hb);have S_1:=zh (S_0.out.keep hb);have V_1:=zh (V_0.out.keep hb);have R_1:=zh (R_0.out.keep hb);clear hb AF_0 T_0 U_0 S_0 V_0 R_0;obtain ⟨aa,ab,ac,ad,ae,af,ag,ah⟩:=T_1.out.z7;obtain ⟨ai,aj,ak,al,am,an,ao,ap⟩:=U_1.out.z7;obtain ⟨aq,ar,au,av,-⟩:=R_1.out.z2;go_wp2
    have FB:=R_1.out.put2 (.int .i64 t.a) (.int .i64 t.b);have AF:=below_put2 AF_1.out (show w.heap.size≤w.heap.size+1+1 by omega) (.int .i64 t.a) (.int .i64 t.b);obtain ⟨q0,q1,-⟩:=FB.z2;refine bodyPost_ret (v:=.agg #[.int .i64 t.a,.int .i64 t.b]) (by simp [results,Tryz.results144,go_sem,q0,q1]) rfl ?_;exact ⟨rfl,AF⟩
set_option maxRecDepth 100000 in
set_option maxHeartbeats 2000000 in
theorem tvkp3 (a b:Bool) (w:World):Calls Tryz.prog 104 #[.bool a,.bool b] w fun e w'=>e=.returned (.bool (kpB 3 a b))∧Below w.heap.size w w':=by
 cases a <;> cases b
 all_goals
  go_enter Tryz.func104,Tryz.ntmps104
  go_wp2
  go_ret
  exact ⟨rfl,here w⟩
set_option maxRecDepth 100000 in
set_option maxHeartbeats 2000000 in
theorem tvcmb1 (f1 f2:Int→Bool) (n1 n2:Int→Int) (kp:Bool→Bool→Bool) (fk:FuncId) (ek:∀ args w,(callFunc fk args).run Tryz.prog w=.ok (.enter fk args) w) (HK:∀ W a b,Calls Tryz.prog fk (#[.bool a,.bool b]++#[]) W fun e w'=>e=.returned (.bool (kp a b))∧Below W.heap.size W w')
    (va vb:Value) (b1 b2 b3:Nat) (x:Int) (hx:I64 x) (w:World) (h1:One w b1 va) (h2:One w b2 vb) (h3:One w b3 (.func (.func fk) #[] #[])) (V1:Vw w va f1 n1) (V2:Vw w vb f2 n2) :
    Calls Tryz.prog 145 #[.int .i64 x,.pointer (some ⟨b1,0,none⟩),.pointer (some ⟨b2,0,none⟩),.pointer (some ⟨b3,0,none⟩)] w fun e w'=>(∃ n,e=.returned (.tuple #[.bool (kp (f1 x) (f2 x)),.int .i64 n])∧(-1152921504606846976≤x→x≤1152921504606846976→n=mnI (n1 x) (n2 x)))∧Below w.heap.size w w':=by
  obtain ⟨g1,k1,rfl,eg1,hg1⟩:=V1;obtain ⟨g2,k2,rfl,eg2,hg2⟩:=V2;have G1:=zh (hg1 w (Far.of (here w)) x hx);have G2:=zh (fun W (hW:Below w.heap.size w W)=>hg2 W (Far.of hW) x hx);replace HK:=zh HK;have H1:=zh h1;have H2:=zh h2;have H3:=zh h3;have a0:=h1.c;have a1:=h1.lt;clear hg1 hg2 h1 h2 h3
  go_enter Tryz.func145,Tryz.ntmps145
  go_wp2_with fail
  go_at_fn g1
  refine G1.out.mono ?_;rintro e w3 ⟨⟨m1,rfl,hn1⟩,hb⟩;have A3:=zh hb;have c2:=(H2.out.keep hb).c;have c3:=(H2.out.keep hb).lt;have G3:=zh (G2.out w3 hb);replace hn1:=zh hn1;clear hb a0 a1 G1 G2 eg1;go_wp2_with fail
  go_at_fn g2
  refine G3.out.mono ?_;rintro e w4 ⟨⟨m2,rfl,hn2⟩,hb⟩;have A4:=zd A3 hb;have d2:=(H3.out.keep A4.out).c;have d3:=(H3.out.keep A4.out).lt;replace hn2:=zh hn2;clear hb c2 c3 G3 eg2 A3;have ef:(if m2<m1 then m2 else m1)=mnI m1 m2:=rfl;have em:=mn_min m1 m2;go_wp2_with fail
  refine (HK.out _ _ _).mono ?_;rintro e w5 ⟨rfl,hb⟩;have A5:=zd A4 hb;clear hb A4 d2 d3 HK H1 H2 H3;go_wp2
  go_ret2
  exact ⟨⟨_,rfl,fun h k=>by rw [hn1.out h k,hn2.out h k]⟩,A5.out⟩
def cwOps:Array Oper:=#[
 { dst:=some 57,op:=Go.Op.load 26 (Go.Operand.tmp 4),type:=26,pos := "operation.go:102",after:=#[],guard:=none },
 { dst:=some 58,op:=Go.Op.load 26 (Go.Operand.tmp 5),type:=26,pos := "operation.go:102",after:=#[],guard:=none },
 { dst:=some 59,op:=Go.Op.call { callee:=Go.Callee.value (Go.Operand.func 144),args:=#[Go.Operand.tmp 57,Go.Operand.tmp 58],argTypes:=#[26,26] },type:=40,pos := "operation.go:102",after:=#[{ on:=0,ground:=Go.Ground.data },{ on:=1,ground:=Go.Ground.data }],guard:=none },
 { dst:=some 60,op:=Go.Op.load 26 (Go.Operand.tmp 4),type:=26,pos := "operation.go:102",after:=#[],guard:=none },
 { dst:=some 61,op:=Go.Op.call { callee:=Go.Callee.value (Go.Operand.func 68),args:=#[Go.Operand.tmp 60],argTypes:=#[26] },type:=86,pos := "operation.go:102",after:=#[{ on:=3,ground:=Go.Ground.data },{ on:=2,ground:=Go.Ground.chain }],guard:=none },
 { dst:=some 62,op:=Go.Op.load 26 (Go.Operand.tmp 5),type:=26,pos := "operation.go:102",after:=#[],guard:=none },
 { dst:=some 63,op:=Go.Op.call { callee:=Go.Callee.value (Go.Operand.func 68),args:=#[Go.Operand.tmp 62],argTypes:=#[26] },type:=86,pos := "operation.go:102",after:=#[{ on:=5,ground:=Go.Ground.data },{ on:=4,ground:=Go.Ground.chain }],guard:=none },
 { dst:=some 15,op:=Go.Op.alloc 40,type:=0,pos := "operation.go:102",after:=#[],guard:=none },
 { dst:=some 16,op:=Go.Op.alloc 86,type:=0,pos := "operation.go:102",after:=#[],guard:=none },
 { dst:=some 17,op:=Go.Op.alloc 86,type:=0,pos := "operation.go:102",after:=#[],guard:=none },
 { dst:=none,op:=Go.Op.store 40 (Go.Operand.tmp 15) (Go.Operand.tmp 59),type:=0,pos := "operation.go:102",after:=#[{ on:=7,ground:=Go.Ground.data },{ on:=2,ground:=Go.Ground.data },{ on:=6,ground:=Go.Ground.chain },{ on:=0,ground:=Go.Ground.phase },{ on:=1,ground:=Go.Ground.phase },{ on:=2,ground:=Go.Ground.phase },{ on:=3,ground:=Go.Ground.textOnly Go.Departure.lateStores },{ on:=4,ground:=Go.Ground.textOnly Go.Departure.lateStoresUnsure },{ on:=5,ground:=Go.Ground.textOnly Go.Departure.lateStores },{ on:=6,ground:=Go.Ground.textOnly Go.Departure.lateStoresUnsure },{ on:=7,ground:=Go.Ground.phase },{ on:=8,ground:=Go.Ground.phase },{ on:=9,ground:=Go.Ground.phase }],guard:=none },
 { dst:=none,op:=Go.Op.store 86 (Go.Operand.tmp 16) (Go.Operand.tmp 61),type:=0,pos := "operation.go:102",after:=#[{ on:=8,ground:=Go.Ground.data },{ on:=4,ground:=Go.Ground.data },{ on:=10,ground:=Go.Ground.chain },{ on:=0,ground:=Go.Ground.phase },{ on:=1,ground:=Go.Ground.phase },{ on:=2,ground:=Go.Ground.phase },{ on:=3,ground:=Go.Ground.phase },{ on:=4,ground:=Go.Ground.phase },{ on:=5,ground:=Go.Ground.textOnly Go.Departure.lateStores },{ on:=6,ground:=Go.Ground.textOnly Go.Departure.lateStoresUnsure },{ on:=7,ground:=Go.Ground.phase },{ on:=8,ground:=Go.Ground.phase },{ on:=9,ground:=Go.Ground.phase },{ on:=10,ground:=Go.Ground.phase }],guard:=none },
 { dst:=none,op:=Go.Op.store 86 (Go.Operand.tmp 17) (Go.Operand.tmp 63),type:=0,pos := "operation.go:102",after:=#[{ on:=9,ground:=Go.Ground.data },{ on:=6,ground:=Go.Ground.data },{ on:=11,ground:=Go.Ground.chain },{ on:=0,ground:=Go.Ground.phase },{ on:=1,ground:=Go.Ground.phase },{ on:=2,ground:=Go.Ground.phase },{ on:=3,ground:=Go.Ground.phase },{ on:=4,ground:=Go.Ground.phase },{ on:=5,ground:=Go.Ground.phase },{ on:=6,ground:=Go.Ground.phase },{ on:=7,ground:=Go.Ground.phase },{ on:=8,ground:=Go.Ground.phase },{ on:=9,ground:=Go.Ground.phase },{ on:=10,ground:=Go.Ground.phase },{ on:=11,ground:=Go.Ground.phase }],guard:=none }]
theorem cwOpsq0:cwOps[0]?=some { dst:=some 57,op:=Go.Op.load 26 (Go.Operand.tmp 4),type:=26,pos := "operation.go:102",after:=#[],guard:=none }:=rfl
theorem cwOpsq1:cwOps[1]?=some { dst:=some 58,op:=Go.Op.load 26 (Go.Operand.tmp 5),type:=26,pos := "operation.go:102",after:=#[],guard:=none }:=rfl
theorem cwOpsq2:cwOps[2]?=some { dst:=some 59,op:=Go.Op.call { callee:=Go.Callee.value (Go.Operand.func 144),args:=#[Go.Operand.tmp 57,Go.Operand.tmp 58],argTypes:=#[26,26] },type:=40,pos := "operation.go:102",after:=#[{ on:=0,ground:=Go.Ground.data },{ on:=1,ground:=Go.Ground.data }],guard:=none }:=rfl
theorem cwOpsq3:cwOps[3]?=some { dst:=some 60,op:=Go.Op.load 26 (Go.Operand.tmp 4),type:=26,pos := "operation.go:102",after:=#[],guard:=none }:=rfl
theorem cwOpsq4:cwOps[4]?=some { dst:=some 61,op:=Go.Op.call { callee:=Go.Callee.value (Go.Operand.func 68),args:=#[Go.Operand.tmp 60],argTypes:=#[26] },type:=86,pos := "operation.go:102",after:=#[{ on:=3,ground:=Go.Ground.data },{ on:=2,ground:=Go.Ground.chain }],guard:=none }:=rfl
theorem cwOpsq5:cwOps[5]?=some { dst:=some 62,op:=Go.Op.load 26 (Go.Operand.tmp 5),type:=26,pos := "operation.go:102",after:=#[],guard:=none }:=rfl
theorem cwOpsq6:cwOps[6]?=some { dst:=some 63,op:=Go.Op.call { callee:=Go.Callee.value (Go.Operand.func 68),args:=#[Go.Operand.tmp 62],argTypes:=#[26] },type:=86,pos := "operation.go:102",after:=#[{ on:=5,ground:=Go.Ground.data },{ on:=4,ground:=Go.Ground.chain }],guard:=none }:=rfl
theorem cwOpsq7:cwOps[7]?=some { dst:=some 15,op:=Go.Op.alloc 40,type:=0,pos := "operation.go:102",after:=#[],guard:=none }:=rfl
theorem cwOpsq8:cwOps[8]?=some { dst:=some 16,op:=Go.Op.alloc 86,type:=0,pos := "operation.go:102",after:=#[],guard:=none }:=rfl
theorem cwOpsq9:cwOps[9]?=some { dst:=some 17,op:=Go.Op.alloc 86,type:=0,pos := "operation.go:102",after:=#[],guard:=none }:=rfl
theorem cwOpsq10:cwOps[10]?=some { dst:=none,op:=Go.Op.store 40 (Go.Operand.tmp 15) (Go.Operand.tmp 59),type:=0,pos := "operation.go:102",after:=#[{ on:=7,ground:=Go.Ground.data },{ on:=2,ground:=Go.Ground.data },{ on:=6,ground:=Go.Ground.chain },{ on:=0,ground:=Go.Ground.phase },{ on:=1,ground:=Go.Ground.phase },{ on:=2,ground:=Go.Ground.phase },{ on:=3,ground:=Go.Ground.textOnly Go.Departure.lateStores },{ on:=4,ground:=Go.Ground.textOnly Go.Departure.lateStoresUnsure },{ on:=5,ground:=Go.Ground.textOnly Go.Departure.lateStores },{ on:=6,ground:=Go.Ground.textOnly Go.Departure.lateStoresUnsure },{ on:=7,ground:=Go.Ground.phase },{ on:=8,ground:=Go.Ground.phase },{ on:=9,ground:=Go.Ground.phase }],guard:=none }:=rfl
theorem cwOpsq11:cwOps[11]?=some { dst:=none,op:=Go.Op.store 86 (Go.Operand.tmp 16) (Go.Operand.tmp 61),type:=0,pos := "operation.go:102",after:=#[{ on:=8,ground:=Go.Ground.data },{ on:=4,ground:=Go.Ground.data },{ on:=10,ground:=Go.Ground.chain },{ on:=0,ground:=Go.Ground.phase },{ on:=1,ground:=Go.Ground.phase },{ on:=2,ground:=Go.Ground.phase },{ on:=3,ground:=Go.Ground.phase },{ on:=4,ground:=Go.Ground.phase },{ on:=5,ground:=Go.Ground.textOnly Go.Departure.lateStores },{ on:=6,ground:=Go.Ground.textOnly Go.Departure.lateStoresUnsure },{ on:=7,ground:=Go.Ground.phase },{ on:=8,ground:=Go.Ground.phase },{ on:=9,ground:=Go.Ground.phase },{ on:=10,ground:=Go.Ground.phase }],guard:=none }:=rfl
theorem cwOpsq12:cwOps[12]?=some { dst:=none,op:=Go.Op.store 86 (Go.Operand.tmp 17) (Go.Operand.tmp 63),type:=0,pos := "operation.go:102",after:=#[{ on:=9,ground:=Go.Ground.data },{ on:=6,ground:=Go.Ground.data },{ on:=11,ground:=Go.Ground.chain },{ on:=0,ground:=Go.Ground.phase },{ on:=1,ground:=Go.Ground.phase },{ on:=2,ground:=Go.Ground.phase },{ on:=3,ground:=Go.Ground.phase },{ on:=4,ground:=Go.Ground.phase },{ on:=5,ground:=Go.Ground.phase },{ on:=6,ground:=Go.Ground.phase },{ on:=7,ground:=Go.Ground.phase },{ on:=8,ground:=Go.Ground.phase },{ on:=9,ground:=Go.Ground.phase },{ on:=10,ground:=Go.Ground.phase },{ on:=11,ground:=Go.Ground.phase }],guard:=none }:=rfl
set_option maxRecDepth 100000 in
set_option maxHeartbeats 4000000 in
theorem cw_region (Q:Exit→Act→World→Prop) (P Q0 a b P2 Q2 a2 b2 lo hi:Int) (va vb vl va2 vb2 vl2:Value) (b4 b5:Nat) (f1 f2:Int→Bool) (n1 n2:Int→Int) (t0 t1 t2 t3 t6 t7 t8 t9 t10 t11 t12 t13 t14 t15 t16 t17 t18 t19 t20 t21 t22 t23 t24 t25 t26 t27 t28 t29 t30 t31 t32 t33 t34 t35 t36 t37 t38 t39 t40 t41 t42 t43 t44 t45 t46 t47 t48 t49 t50 t51 t52 t53 t54 t55 t56 t57 t58 t59 t60 t61 t62 t63 t64 t65 t66 t67 t68 t69 t70 t71 t72 t73 t74 t75 t76 t77 t78 t79 t80 t81 t82 t83 t84 t85 t86 t87 t88:Value) (w w0:World) (hQ:∀ c a d v w,Q (.panic c) (Act.put a (some d) v) w→Q (.panic c) a w) (X:Nat→Prop) (lo':Nat) (hlo:lo'≤w.heap.size) (hX:∀ b,X b→lo'≤b∧b<w.heap.size) (HW:Hid (∀ W,Below w.heap.size w W→Calls Tryz.prog 144 #[.agg #[.int .i64 P,va,.int .i64 Q0,vb,.int .i64 a,.int .i64 b,vl],.agg #[.int .i64 P2,va2,.int .i64 Q2,vb2,.int .i64 a2,.int .i64 b2,vl2]] W fun e W'=>e=.returned (.agg #[.int .i64 lo,.int .i64 hi])∧Below W.heap.size W W')) (H1:Hid (∀ W,Below w.heap.size w W→∀ X:Nat→Prop,(∀ b,X b→lo'≤b∧b<W.heap.size)→Calls Tryz.prog 68 #[.agg #[.int .i64 P,va,.int .i64 Q0,vb,.int .i64 a,.int .i64 b,vl]] W fun e W'=>(∃ v',e=.returned v'∧VwX X W' v' f1 n1)∧Below W.heap.size W W')) (H2:Hid (∀ W,Below w.heap.size w W→∀ X:Nat→Prop,(∀ b,X b→lo'≤b∧b<W.heap.size)→Calls Tryz.prog 68 #[.agg #[.int .i64 P2,va2,.int .i64 Q2,vb2,.int .i64 a2,.int .i64 b2,vl2]] W fun e W'=>(∃ v',e=.returned v'∧VwX X W' v' f2 n2)∧Below W.heap.size W W')) (hS0:Below w.heap.size w w0∧w0.cell? ⟨b4,0,none⟩=some (.int .i64 P)∧w0.cell? ⟨b4,1,none⟩=some (va)∧w0.cell? ⟨b4,2,none⟩=some (.int .i64 Q0)∧w0.cell? ⟨b4,3,none⟩=some (vb)∧w0.cell? ⟨b4,4,none⟩=some (.int .i64 a)∧w0.cell? ⟨b4,5,none⟩=some (.int .i64 b)∧w0.cell? ⟨b4,6,none⟩=some (vl)∧w0.cell? ⟨b5,0,none⟩=some (.int .i64 P2)∧w0.cell? ⟨b5,1,none⟩=some (va2)∧w0.cell? ⟨b5,2,none⟩=some (.int .i64 Q2)∧w0.cell? ⟨b5,3,none⟩=some (vb2)∧w0.cell? ⟨b5,4,none⟩=some (.int .i64 a2)∧w0.cell? ⟨b5,5,none⟩=some (.int .i64 b2)∧w0.cell? ⟨b5,6,none⟩=some (vl2)∧b5<w0.heap.size) (ord:b4≤b5)
  (fin:∀ (g1:FuncId) (k1:Array Value) (g2:FuncId) (k2:Array Value) (N0b:Nat) (N1b:Nat) (N2b:Nat) (W:World),(Below w.heap.size w W∧W.cell? ⟨b4,0,none⟩=some (.int .i64 P)∧W.cell? ⟨b4,1,none⟩=some (va)∧W.cell? ⟨b4,2,none⟩=some (.int .i64 Q0)∧W.cell? ⟨b4,3,none⟩=some (vb)∧W.cell? ⟨b4,4,none⟩=some (.int .i64 a)∧W.cell? ⟨b4,5,none⟩=some (.int .i64 b)∧W.cell? ⟨b4,6,none⟩=some (vl)∧W.cell? ⟨b5,0,none⟩=some (.int .i64 P2)∧W.cell? ⟨b5,1,none⟩=some (va2)∧W.cell? ⟨b5,2,none⟩=some (.int .i64 Q2)∧W.cell? ⟨b5,3,none⟩=some (vb2)∧W.cell? ⟨b5,4,none⟩=some (.int .i64 a2)∧W.cell? ⟨b5,5,none⟩=some (.int .i64 b2)∧W.cell? ⟨b5,6,none⟩=some (vl2)∧b5<W.heap.size)→(VwX (fun b=>X b∨b=N0b∨b=N1b∨b=N2b) W (.func (.func g1) #[] k1) f1 n1)→(VwX (fun b=>X b∨b=N0b∨b=N1b∨b=N2b) W (.func (.func g2) #[] k2) f2 n2)→(Nwz w (b5) W N0b [.int .i64 0,.int .i64 0])→(Nwz w (b5) W N1b [.nilFunc])→(Nwz w (b5) W N2b [.nilFunc])→(N0b≠N1b)→(N0b≠N2b)→(N1b≠N2b)→Q .normal ⟨#[t0,t1,t2,t3,.pointer (some ⟨b4,0,none⟩),.pointer (some ⟨b5,0,none⟩),t6,t7,t8,t9,t10,t11,t12,t13,t14,(.pointer (some ⟨N0b,0,none⟩)),(.pointer (some ⟨N1b,0,none⟩)),(.pointer (some ⟨N2b,0,none⟩)),t18,t19,t20,t21,t22,t23,t24,t25,t26,t27,t28,t29,t30,t31,t32,t33,t34,t35,t36,t37,t38,t39,t40,t41,t42,t43,t44,t45,t46,t47,t48,t49,t50,t51,t52,t53,t54,t55,t56,.agg #[.int .i64 P,va,.int .i64 Q0,vb,.int .i64 a,.int .i64 b,vl],.agg #[.int .i64 P2,va2,.int .i64 Q2,vb2,.int .i64 a2,.int .i64 b2,vl2],.agg #[.int .i64 lo,.int .i64 hi],.agg #[.int .i64 P,va,.int .i64 Q0,vb,.int .i64 a,.int .i64 b,vl],.func (.func g1) #[] k1,.agg #[.int .i64 P2,va2,.int .i64 Q2,vb2,.int .i64 a2,.int .i64 b2,vl2],.func (.func g2) #[] k2,t64,t65,t66,t67,t68,t69,t70,t71,t72,t73,t74,t75,t76,t77,t78,t79,t80,t81,t82,t83,t84,t85,t86,t87,t88],[]⟩ ((((W.setCell ⟨N0b,0,none⟩ (.int .i64 lo)).setCell ⟨N0b,1,none⟩ (.int .i64 hi)).setCell ⟨N1b,0,none⟩ (.func (.func g1) #[] k1)).setCell ⟨N2b,0,none⟩ (.func (.func g2) #[] k2))) :
  (Code.region 8 cwOps true).wp Tryz.prog Q ⟨#[t0,t1,t2,t3,.pointer (some ⟨b4,0,none⟩),.pointer (some ⟨b5,0,none⟩),t6,t7,t8,t9,t10,t11,t12,t13,t14,t15,t16,t17,t18,t19,t20,t21,t22,t23,t24,t25,t26,t27,t28,t29,t30,t31,t32,t33,t34,t35,t36,t37,t38,t39,t40,t41,t42,t43,t44,t45,t46,t47,t48,t49,t50,t51,t52,t53,t54,t55,t56,t57,t58,t59,t60,t61,t62,t63,t64,t65,t66,t67,t68,t69,t70,t71,t72,t73,t74,t75,t76,t77,t78,t79,t80,t81,t82,t83,t84,t85,t86,t87,t88],[]⟩ w0:=by
 have mk:∀ W W':World,(Below w.heap.size w W∧W.cell? ⟨b4,0,none⟩=some (.int .i64 P)∧W.cell? ⟨b4,1,none⟩=some (va)∧W.cell? ⟨b4,2,none⟩=some (.int .i64 Q0)∧W.cell? ⟨b4,3,none⟩=some (vb)∧W.cell? ⟨b4,4,none⟩=some (.int .i64 a)∧W.cell? ⟨b4,5,none⟩=some (.int .i64 b)∧W.cell? ⟨b4,6,none⟩=some (vl)∧W.cell? ⟨b5,0,none⟩=some (.int .i64 P2)∧W.cell? ⟨b5,1,none⟩=some (va2)∧W.cell? ⟨b5,2,none⟩=some (.int .i64 Q2)∧W.cell? ⟨b5,3,none⟩=some (vb2)∧W.cell? ⟨b5,4,none⟩=some (.int .i64 a2)∧W.cell? ⟨b5,5,none⟩=some (.int .i64 b2)∧W.cell? ⟨b5,6,none⟩=some (vl2)∧b5<W.heap.size)→Below W.heap.size W W'→(Below w.heap.size w W'∧W'.cell? ⟨b4,0,none⟩=some (.int .i64 P)∧W'.cell? ⟨b4,1,none⟩=some (va)∧W'.cell? ⟨b4,2,none⟩=some (.int .i64 Q0)∧W'.cell? ⟨b4,3,none⟩=some (vb)∧W'.cell? ⟨b4,4,none⟩=some (.int .i64 a)∧W'.cell? ⟨b4,5,none⟩=some (.int .i64 b)∧W'.cell? ⟨b4,6,none⟩=some (vl)∧W'.cell? ⟨b5,0,none⟩=some (.int .i64 P2)∧W'.cell? ⟨b5,1,none⟩=some (va2)∧W'.cell? ⟨b5,2,none⟩=some (.int .i64 Q2)∧W'.cell? ⟨b5,3,none⟩=some (vb2)∧W'.cell? ⟨b5,4,none⟩=some (.int .i64 a2)∧W'.cell? ⟨b5,5,none⟩=some (.int .i64 b2)∧W'.cell? ⟨b5,6,none⟩=some (vl2)∧b5<W'.heap.size):=fun W W' ⟨kb,k0_0,k0_1,k0_2,k0_3,k0_4,k0_5,k0_6,k1_0,k1_1,k1_2,k1_3,k1_4,k1_5,k1_6,kl⟩ hb=>⟨down kb hb,(hb.cell (p:=⟨b4,0,none⟩) (by show b4<_;omega)).trans k0_0,(hb.cell (p:=⟨b4,1,none⟩) (by show b4<_;omega)).trans k0_1,(hb.cell (p:=⟨b4,2,none⟩) (by show b4<_;omega)).trans k0_2,(hb.cell (p:=⟨b4,3,none⟩) (by show b4<_;omega)).trans k0_3,(hb.cell (p:=⟨b4,4,none⟩) (by show b4<_;omega)).trans k0_4,(hb.cell (p:=⟨b4,5,none⟩) (by show b4<_;omega)).trans k0_5,(hb.cell (p:=⟨b4,6,none⟩) (by show b4<_;omega)).trans k0_6,(hb.cell (p:=⟨b5,0,none⟩) (by show b5<_;omega)).trans k1_0,(hb.cell (p:=⟨b5,1,none⟩) (by show b5<_;omega)).trans k1_1,(hb.cell (p:=⟨b5,2,none⟩) (by show b5<_;omega)).trans k1_2,(hb.cell (p:=⟨b5,3,none⟩) (by show b5<_;omega)).trans k1_3,(hb.cell (p:=⟨b5,4,none⟩) (by show b5<_;omega)).trans k1_4,(hb.cell (p:=⟨b5,5,none⟩) (by show b5<_;omega)).trans k1_5,(hb.cell (p:=⟨b5,6,none⟩) (by show b5<_;omega)).trans k1_6,zll kl hb.size⟩;obtain ⟨zT,zTe⟩:∃ zT:Value→Value→Value→Value→Value→Value→Act,zT=fun zx15 zx16 zx17 zx59 zx61 zx63=>⟨#[t0,t1,t2,t3,.pointer (some ⟨b4,0,none⟩),.pointer (some ⟨b5,0,none⟩),t6,t7,t8,t9,t10,t11,t12,t13,t14,zx15,zx16,zx17,t18,t19,t20,t21,t22,t23,t24,t25,t26,t27,t28,t29,t30,t31,t32,t33,t34,t35,t36,t37,t38,t39,t40,t41,t42,t43,t44,t45,t46,t47,t48,t49,t50,t51,t52,t53,t54,t55,t56,.agg #[.int .i64 P,va,.int .i64 Q0,vb,.int .i64 a,.int .i64 b,vl],.agg #[.int .i64 P2,va2,.int .i64 Q2,vb2,.int .i64 a2,.int .i64 b2,vl2],zx59,.agg #[.int .i64 P,va,.int .i64 Q0,vb,.int .i64 a,.int .i64 b,vl],zx61,.agg #[.int .i64 P2,va2,.int .i64 Q2,vb2,.int .i64 a2,.int .i64 b2,vl2],zx63,t64,t65,t66,t67,t68,t69,t70,t71,t72,t73,t74,t75,t76,t77,t78,t79,t80,t81,t82,t83,t84,t85,t86,t87,t88],[]⟩:=⟨_,rfl⟩
 obtain ⟨zS,zSe⟩:∃ zS:World→Prop,zS=(fun W'=>Below w.heap.size w W'∧W'.cell? ⟨b4,0,none⟩=some (.int .i64 P)∧W'.cell? ⟨b4,1,none⟩=some (va)∧W'.cell? ⟨b4,2,none⟩=some (.int .i64 Q0)∧W'.cell? ⟨b4,3,none⟩=some (vb)∧W'.cell? ⟨b4,4,none⟩=some (.int .i64 a)∧W'.cell? ⟨b4,5,none⟩=some (.int .i64 b)∧W'.cell? ⟨b4,6,none⟩=some (vl)∧W'.cell? ⟨b5,0,none⟩=some (.int .i64 P2)∧W'.cell? ⟨b5,1,none⟩=some (va2)∧W'.cell? ⟨b5,2,none⟩=some (.int .i64 Q2)∧W'.cell? ⟨b5,3,none⟩=some (vb2)∧W'.cell? ⟨b5,4,none⟩=some (.int .i64 a2)∧W'.cell? ⟨b5,5,none⟩=some (.int .i64 b2)∧W'.cell? ⟨b5,6,none⟩=some (vl2)∧b5<W'.heap.size):=⟨_,rfl⟩;have st3_111:∀ (g1:FuncId) (k1:Array Value) (g2:FuncId) (k2:Array Value) (N0b:Nat) (N1b:Nat) (N2b:Nat) (W:World),zS W→(VwX (fun b=>X b∨b=N0b∨b=N1b∨b=N2b) W (.func (.func g1) #[] k1) f1 n1)→(VwX (fun b=>X b∨b=N0b∨b=N1b∨b=N2b) W (.func (.func g2) #[] k2) f2 n2)→(Nwz w (b5) W N0b [.int .i64 0,.int .i64 0])→(Nwz w (b5) W N1b [.nilFunc])→(Nwz w (b5) W N2b [.nilFunc])→(N0b≠N1b)→(N0b≠N2b)→(N1b≠N2b)→wpAnyH Tryz.prog .any cwOps Q zS 3 #[true,true,true,true,true,true,true,true,true,true,false,false,false] (zT (.pointer (some ⟨N0b,0,none⟩)) (.pointer (some ⟨N1b,0,none⟩)) (.pointer (some ⟨N2b,0,none⟩)) (.agg #[.int .i64 lo,.int .i64 hi]) (.func (.func g1) #[] k1) (.func (.func g2) #[] k2)) W:=by
  subst zSe zTe
  dsimp only
  intro g1 k1 g2 k2 N0b N1b N2b W hS V1 V2 N0 N1 N2 D01 D02 D12;refine wpAnyH_ready (rs:=[10]) (by kernel_rfl) (by simp) ?_;refine AllReadyH.cons cwOpsq10 (fun K hK=>?_) AllReadyH.nil;have e0_0:W.cell? ⟨N0b,0,none⟩=some (.int .i64 0):=by
   exact N0.o.t.c 0 _ rfl
  have f0_0:W.frozen? ⟨N0b,0,none⟩=false:=by
   exact N0.o.f 0
  have e0_1:W.cell? ⟨N0b,1,none⟩=some (.int .i64 0):=by
   exact N0.o.t.c 1 _ rfl
  have f0_1:W.frozen? ⟨N0b,1,none⟩=false:=by
   exact N0.o.f 1
  go_simp;have hS0x:(fun W'=>Below w.heap.size w W'∧W'.cell? ⟨b4,0,none⟩=some (.int .i64 P)∧W'.cell? ⟨b4,1,none⟩=some (va)∧W'.cell? ⟨b4,2,none⟩=some (.int .i64 Q0)∧W'.cell? ⟨b4,3,none⟩=some (vb)∧W'.cell? ⟨b4,4,none⟩=some (.int .i64 a)∧W'.cell? ⟨b4,5,none⟩=some (.int .i64 b)∧W'.cell? ⟨b4,6,none⟩=some (vl)∧W'.cell? ⟨b5,0,none⟩=some (.int .i64 P2)∧W'.cell? ⟨b5,1,none⟩=some (va2)∧W'.cell? ⟨b5,2,none⟩=some (.int .i64 Q2)∧W'.cell? ⟨b5,3,none⟩=some (vb2)∧W'.cell? ⟨b5,4,none⟩=some (.int .i64 a2)∧W'.cell? ⟨b5,5,none⟩=some (.int .i64 b2)∧W'.cell? ⟨b5,6,none⟩=some (vl2)∧b5<W'.heap.size) ((W.setCell ⟨N0b,0,none⟩ (.int .i64 lo)).setCell ⟨N0b,1,none⟩ (.int .i64 hi)):=by
   obtain ⟨kb,k0_0,k0_1,k0_2,k0_3,k0_4,k0_5,k0_6,k1_0,k1_1,k1_2,k1_3,k1_4,k1_5,k1_6,kl⟩:=hS;refine ⟨((kb.setCell (p:=⟨N0b,0,none⟩) N0.le _).setCell (p:=⟨N0b,1,none⟩) N0.le _),?_,?_,?_,?_,?_,?_,?_,?_,?_,?_,?_,?_,?_,?_,by rw [size_set,size_set];exact kl⟩
   ·rw [zco (h:=zad (by have:=N0.ge;omega)),zco (h:=zad (by have:=N0.ge;omega))];exact k0_0
   ·rw [zco (h:=zad (by have:=N0.ge;omega)),zco (h:=zad (by have:=N0.ge;omega))];exact k0_1
   ·rw [zco (h:=zad (by have:=N0.ge;omega)),zco (h:=zad (by have:=N0.ge;omega))];exact k0_2
   ·rw [zco (h:=zad (by have:=N0.ge;omega)),zco (h:=zad (by have:=N0.ge;omega))];exact k0_3
   ·rw [zco (h:=zad (by have:=N0.ge;omega)),zco (h:=zad (by have:=N0.ge;omega))];exact k0_4
   ·rw [zco (h:=zad (by have:=N0.ge;omega)),zco (h:=zad (by have:=N0.ge;omega))];exact k0_5
   ·rw [zco (h:=zad (by have:=N0.ge;omega)),zco (h:=zad (by have:=N0.ge;omega))];exact k0_6
   ·rw [zco (h:=zad (by have:=N0.ge;omega)),zco (h:=zad (by have:=N0.ge;omega))];exact k1_0
   ·rw [zco (h:=zad (by have:=N0.ge;omega)),zco (h:=zad (by have:=N0.ge;omega))];exact k1_1
   ·rw [zco (h:=zad (by have:=N0.ge;omega)),zco (h:=zad (by have:=N0.ge;omega))];exact k1_2
   ·rw [zco (h:=zad (by have:=N0.ge;omega)),zco (h:=zad (by have:=N0.ge;omega))];exact k1_3
   ·rw [zco (h:=zad (by have:=N0.ge;omega)),zco (h:=zad (by have:=N0.ge;omega))];exact k1_4
   ·rw [zco (h:=zad (by have:=N0.ge;omega)),zco (h:=zad (by have:=N0.ge;omega))];exact k1_5
   ·rw [zco (h:=zad (by have:=N0.ge;omega)),zco (h:=zad (by have:=N0.ge;omega))];exact k1_6
  refine hK.out _ _ hS0x (fun _=>?_);clear hK K;(try simp only [Act.put,zls,zl0,zl1]);refine wpAnyH_ready (rs:=[11]) (by kernel_rfl) (by simp) ?_;refine AllReadyH.cons cwOpsq11 (fun K hK=>?_) AllReadyH.nil;have e1_0:((W.setCell ⟨N0b,0,none⟩ (.int .i64 lo)).setCell ⟨N0b,1,none⟩ (.int .i64 hi)).cell? ⟨N1b,0,none⟩=some (.nilFunc):=by
   rw [zco (h:=zad (by first | exact D01 | exact Ne.symm D01))];rw [zco (h:=zad (by first | exact D01 | exact Ne.symm D01))];exact N1.o.t.c 0 _ rfl
  have f1_0:((W.setCell ⟨N0b,0,none⟩ (.int .i64 lo)).setCell ⟨N0b,1,none⟩ (.int .i64 hi)).frozen? ⟨N1b,0,none⟩=false:=by
   rw [World.frozen?_setCell,World.frozen?_setCell];exact N1.o.f 0
  go_simp;have hS1x:(fun W'=>Below w.heap.size w W'∧W'.cell? ⟨b4,0,none⟩=some (.int .i64 P)∧W'.cell? ⟨b4,1,none⟩=some (va)∧W'.cell? ⟨b4,2,none⟩=some (.int .i64 Q0)∧W'.cell? ⟨b4,3,none⟩=some (vb)∧W'.cell? ⟨b4,4,none⟩=some (.int .i64 a)∧W'.cell? ⟨b4,5,none⟩=some (.int .i64 b)∧W'.cell? ⟨b4,6,none⟩=some (vl)∧W'.cell? ⟨b5,0,none⟩=some (.int .i64 P2)∧W'.cell? ⟨b5,1,none⟩=some (va2)∧W'.cell? ⟨b5,2,none⟩=some (.int .i64 Q2)∧W'.cell? ⟨b5,3,none⟩=some (vb2)∧W'.cell? ⟨b5,4,none⟩=some (.int .i64 a2)∧W'.cell? ⟨b5,5,none⟩=some (.int .i64 b2)∧W'.cell? ⟨b5,6,none⟩=some (vl2)∧b5<W'.heap.size) (((W.setCell ⟨N0b,0,none⟩ (.int .i64 lo)).setCell ⟨N0b,1,none⟩ (.int .i64 hi)).setCell ⟨N1b,0,none⟩ (.func (.func g1) #[] k1)):=by
   obtain ⟨kb,k0_0,k0_1,k0_2,k0_3,k0_4,k0_5,k0_6,k1_0,k1_1,k1_2,k1_3,k1_4,k1_5,k1_6,kl⟩:=hS;refine ⟨(((kb.setCell (p:=⟨N0b,0,none⟩) N0.le _).setCell (p:=⟨N0b,1,none⟩) N0.le _).setCell (p:=⟨N1b,0,none⟩) N1.le _),?_,?_,?_,?_,?_,?_,?_,?_,?_,?_,?_,?_,?_,?_,by rw [size_set,size_set,size_set];exact kl⟩
   ·rw [zco (h:=zad (by have:=N1.ge;omega)),zco (h:=zad (by have:=N0.ge;omega)),zco (h:=zad (by have:=N0.ge;omega))];exact k0_0
   ·rw [zco (h:=zad (by have:=N1.ge;omega)),zco (h:=zad (by have:=N0.ge;omega)),zco (h:=zad (by have:=N0.ge;omega))];exact k0_1
   ·rw [zco (h:=zad (by have:=N1.ge;omega)),zco (h:=zad (by have:=N0.ge;omega)),zco (h:=zad (by have:=N0.ge;omega))];exact k0_2
   ·rw [zco (h:=zad (by have:=N1.ge;omega)),zco (h:=zad (by have:=N0.ge;omega)),zco (h:=zad (by have:=N0.ge;omega))];exact k0_3
   ·rw [zco (h:=zad (by have:=N1.ge;omega)),zco (h:=zad (by have:=N0.ge;omega)),zco (h:=zad (by have:=N0.ge;omega))];exact k0_4
   ·rw [zco (h:=zad (by have:=N1.ge;omega)),zco (h:=zad (by have:=N0.ge;omega)),zco (h:=zad (by have:=N0.ge;omega))];exact k0_5
   ·rw [zco (h:=zad (by have:=N1.ge;omega)),zco (h:=zad (by have:=N0.ge;omega)),zco (h:=zad (by have:=N0.ge;omega))];exact k0_6
   ·rw [zco (h:=zad (by have:=N1.ge;omega)),zco (h:=zad (by have:=N0.ge;omega)),zco (h:=zad (by have:=N0.ge;omega))];exact k1_0
   ·rw [zco (h:=zad (by have:=N1.ge;omega)),zco (h:=zad (by have:=N0.ge;omega)),zco (h:=zad (by have:=N0.ge;omega))];exact k1_1
   ·rw [zco (h:=zad (by have:=N1.ge;omega)),zco (h:=zad (by have:=N0.ge;omega)),zco (h:=zad (by have:=N0.ge;omega))];exact k1_2
   ·rw [zco (h:=zad (by have:=N1.ge;omega)),zco (h:=zad (by have:=N0.ge;omega)),zco (h:=zad (by have:=N0.ge;omega))];exact k1_3
   ·rw [zco (h:=zad (by have:=N1.ge;omega)),zco (h:=zad (by have:=N0.ge;omega)),zco (h:=zad (by have:=N0.ge;omega))];exact k1_4
   ·rw [zco (h:=zad (by have:=N1.ge;omega)),zco (h:=zad (by have:=N0.ge;omega)),zco (h:=zad (by have:=N0.ge;omega))];exact k1_5
   ·rw [zco (h:=zad (by have:=N1.ge;omega)),zco (h:=zad (by have:=N0.ge;omega)),zco (h:=zad (by have:=N0.ge;omega))];exact k1_6
  refine hK.out _ _ hS1x (fun _=>?_);clear hK K;(try simp only [Act.put,zls,zl0,zl1]);refine wpAnyH_ready (rs:=[12]) (by kernel_rfl) (by simp) ?_;refine AllReadyH.cons cwOpsq12 (fun K hK=>?_) AllReadyH.nil;have e2_0:(((W.setCell ⟨N0b,0,none⟩ (.int .i64 lo)).setCell ⟨N0b,1,none⟩ (.int .i64 hi)).setCell ⟨N1b,0,none⟩ (.func (.func g1) #[] k1)).cell? ⟨N2b,0,none⟩=some (.nilFunc):=by
   rw [zco (h:=zad (by first | exact D12 | exact Ne.symm D12))];rw [zco (h:=zad (by first | exact D02 | exact Ne.symm D02))];rw [zco (h:=zad (by first | exact D02 | exact Ne.symm D02))];exact N2.o.t.c 0 _ rfl
  have f2_0:(((W.setCell ⟨N0b,0,none⟩ (.int .i64 lo)).setCell ⟨N0b,1,none⟩ (.int .i64 hi)).setCell ⟨N1b,0,none⟩ (.func (.func g1) #[] k1)).frozen? ⟨N2b,0,none⟩=false:=by
   rw [World.frozen?_setCell,World.frozen?_setCell,World.frozen?_setCell];exact N2.o.f 0
  go_simp;have hS2x:(fun W'=>Below w.heap.size w W'∧W'.cell? ⟨b4,0,none⟩=some (.int .i64 P)∧W'.cell? ⟨b4,1,none⟩=some (va)∧W'.cell? ⟨b4,2,none⟩=some (.int .i64 Q0)∧W'.cell? ⟨b4,3,none⟩=some (vb)∧W'.cell? ⟨b4,4,none⟩=some (.int .i64 a)∧W'.cell? ⟨b4,5,none⟩=some (.int .i64 b)∧W'.cell? ⟨b4,6,none⟩=some (vl)∧W'.cell? ⟨b5,0,none⟩=some (.int .i64 P2)∧W'.cell? ⟨b5,1,none⟩=some (va2)∧W'.cell? ⟨b5,2,none⟩=some (.int .i64 Q2)∧W'.cell? ⟨b5,3,none⟩=some (vb2)∧W'.cell? ⟨b5,4,none⟩=some (.int .i64 a2)∧W'.cell? ⟨b5,5,none⟩=some (.int .i64 b2)∧W'.cell? ⟨b5,6,none⟩=some (vl2)∧b5<W'.heap.size) ((((W.setCell ⟨N0b,0,none⟩ (.int .i64 lo)).setCell ⟨N0b,1,none⟩ (.int .i64 hi)).setCell ⟨N1b,0,none⟩ (.func (.func g1) #[] k1)).setCell ⟨N2b,0,none⟩ (.func (.func g2) #[] k2)):=by
   obtain ⟨kb,k0_0,k0_1,k0_2,k0_3,k0_4,k0_5,k0_6,k1_0,k1_1,k1_2,k1_3,k1_4,k1_5,k1_6,kl⟩:=hS;refine ⟨((((kb.setCell (p:=⟨N0b,0,none⟩) N0.le _).setCell (p:=⟨N0b,1,none⟩) N0.le _).setCell (p:=⟨N1b,0,none⟩) N1.le _).setCell (p:=⟨N2b,0,none⟩) N2.le _),?_,?_,?_,?_,?_,?_,?_,?_,?_,?_,?_,?_,?_,?_,by rw [size_set,size_set,size_set,size_set];exact kl⟩
   ·rw [zco (h:=zad (by have:=N2.ge;omega)),zco (h:=zad (by have:=N1.ge;omega)),zco (h:=zad (by have:=N0.ge;omega)),zco (h:=zad (by have:=N0.ge;omega))];exact k0_0
   ·rw [zco (h:=zad (by have:=N2.ge;omega)),zco (h:=zad (by have:=N1.ge;omega)),zco (h:=zad (by have:=N0.ge;omega)),zco (h:=zad (by have:=N0.ge;omega))];exact k0_1
   ·rw [zco (h:=zad (by have:=N2.ge;omega)),zco (h:=zad (by have:=N1.ge;omega)),zco (h:=zad (by have:=N0.ge;omega)),zco (h:=zad (by have:=N0.ge;omega))];exact k0_2
   ·rw [zco (h:=zad (by have:=N2.ge;omega)),zco (h:=zad (by have:=N1.ge;omega)),zco (h:=zad (by have:=N0.ge;omega)),zco (h:=zad (by have:=N0.ge;omega))];exact k0_3
   ·rw [zco (h:=zad (by have:=N2.ge;omega)),zco (h:=zad (by have:=N1.ge;omega)),zco (h:=zad (by have:=N0.ge;omega)),zco (h:=zad (by have:=N0.ge;omega))];exact k0_4
   ·rw [zco (h:=zad (by have:=N2.ge;omega)),zco (h:=zad (by have:=N1.ge;omega)),zco (h:=zad (by have:=N0.ge;omega)),zco (h:=zad (by have:=N0.ge;omega))];exact k0_5
   ·rw [zco (h:=zad (by have:=N2.ge;omega)),zco (h:=zad (by have:=N1.ge;omega)),zco (h:=zad (by have:=N0.ge;omega)),zco (h:=zad (by have:=N0.ge;omega))];exact k0_6
   ·rw [zco (h:=zad (by have:=N2.ge;omega)),zco (h:=zad (by have:=N1.ge;omega)),zco (h:=zad (by have:=N0.ge;omega)),zco (h:=zad (by have:=N0.ge;omega))];exact k1_0
   ·rw [zco (h:=zad (by have:=N2.ge;omega)),zco (h:=zad (by have:=N1.ge;omega)),zco (h:=zad (by have:=N0.ge;omega)),zco (h:=zad (by have:=N0.ge;omega))];exact k1_1
   ·rw [zco (h:=zad (by have:=N2.ge;omega)),zco (h:=zad (by have:=N1.ge;omega)),zco (h:=zad (by have:=N0.ge;omega)),zco (h:=zad (by have:=N0.ge;omega))];exact k1_2
   ·rw [zco (h:=zad (by have:=N2.ge;omega)),zco (h:=zad (by have:=N1.ge;omega)),zco (h:=zad (by have:=N0.ge;omega)),zco (h:=zad (by have:=N0.ge;omega))];exact k1_3
   ·rw [zco (h:=zad (by have:=N2.ge;omega)),zco (h:=zad (by have:=N1.ge;omega)),zco (h:=zad (by have:=N0.ge;omega)),zco (h:=zad (by have:=N0.ge;omega))];exact k1_4
   ·rw [zco (h:=zad (by have:=N2.ge;omega)),zco (h:=zad (by have:=N1.ge;omega)),zco (h:=zad (by have:=N0.ge;omega)),zco (h:=zad (by have:=N0.ge;omega))];exact k1_5
   ·rw [zco (h:=zad (by have:=N2.ge;omega)),zco (h:=zad (by have:=N1.ge;omega)),zco (h:=zad (by have:=N0.ge;omega)),zco (h:=zad (by have:=N0.ge;omega))];exact k1_6
  refine hK.out _ _ hS2x (fun _=>?_);clear hK K;(try simp only [Act.put,zls,zl0,zl1]);refine wpAnyH_done (by kernel_rfl) ?_ _;exact fin g1 k1 g2 k2 N0b N1b N2b W hS V1 V2 N0 N1 N2 D01 D02 D12
 have st3_011:∀ (g1:FuncId) (k1:Array Value) (g2:FuncId) (k2:Array Value) (N1b:Nat) (N2b:Nat) (W:World),zS W→(VwX (fun b=>X b∨b=N1b∨b=N2b) W (.func (.func g1) #[] k1) f1 n1)→(VwX (fun b=>X b∨b=N1b∨b=N2b) W (.func (.func g2) #[] k2) f2 n2)→(Nwz w (b5) W N1b [.nilFunc])→(Nwz w (b5) W N2b [.nilFunc])→(N1b≠N2b)→wpAnyH Tryz.prog .any cwOps Q zS 4 #[true,true,true,true,true,true,true,false,true,true,false,false,false] (zT t15 (.pointer (some ⟨N1b,0,none⟩)) (.pointer (some ⟨N2b,0,none⟩)) (.agg #[.int .i64 lo,.int .i64 hi]) (.func (.func g1) #[] k1) (.func (.func g2) #[] k2)) W:=by
  subst zSe zTe
  dsimp only
  intro g1 k1 g2 k2 N1b N2b W hS V1 V2 N1 N2 D12;refine wpAnyH_ready (rs:=[7]) (by kernel_rfl) (by simp) ?_;refine AllReadyH.cons cwOpsq7 (fun K hK=>?_) ?_
  ·go_simp;have gb:=grow (here W) (.cells #[.int .i64 0,.int .i64 0] 40);refine hK.out _ _ (mk _ _ hS gb) (fun hS'=>?_);(try simp only [Act.put,zls,zl0,zl1]);exact st3_111 g1 k1 g2 k2 W.heap.size N1b N2b _ hS' ((V1.more (by rintro b (c | c | c | c) <;> simp [c])).keep gb) ((V2.more (by rintro b (c | c | c | c) <;> simp [c])).keep gb) (Nwz.new hS.1 hS.2.2.2.2.2.2.2.2.2.2.2.2.2.2.2 [.int .i64 0,.int .i64 0] 40) (N1.keep gb) (N2.keep gb) (Nat.ne_of_gt N1.o.t.lt) (Nat.ne_of_gt N2.o.t.lt) D12
  exact AllReadyH.nil
 have st3_101:∀ (g1:FuncId) (k1:Array Value) (g2:FuncId) (k2:Array Value) (N0b:Nat) (N2b:Nat) (W:World),zS W→(VwX (fun b=>X b∨b=N0b∨b=N2b) W (.func (.func g1) #[] k1) f1 n1)→(VwX (fun b=>X b∨b=N0b∨b=N2b) W (.func (.func g2) #[] k2) f2 n2)→(Nwz w (b5) W N0b [.int .i64 0,.int .i64 0])→(Nwz w (b5) W N2b [.nilFunc])→(N0b≠N2b)→wpAnyH Tryz.prog .any cwOps Q zS 4 #[true,true,true,true,true,true,true,true,false,true,false,false,false] (zT (.pointer (some ⟨N0b,0,none⟩)) t16 (.pointer (some ⟨N2b,0,none⟩)) (.agg #[.int .i64 lo,.int .i64 hi]) (.func (.func g1) #[] k1) (.func (.func g2) #[] k2)) W:=by
  subst zSe zTe
  dsimp only
  intro g1 k1 g2 k2 N0b N2b W hS V1 V2 N0 N2 D02;refine wpAnyH_ready (rs:=[8]) (by kernel_rfl) (by simp) ?_;refine AllReadyH.cons cwOpsq8 (fun K hK=>?_) ?_
  ·go_simp;have gb:=grow (here W) (.cells #[.nilFunc] 86);refine hK.out _ _ (mk _ _ hS gb) (fun hS'=>?_);(try simp only [Act.put,zls,zl0,zl1]);exact st3_111 g1 k1 g2 k2 N0b W.heap.size N2b _ hS' ((V1.more (by rintro b (c | c | c | c) <;> simp [c])).keep gb) ((V2.more (by rintro b (c | c | c | c) <;> simp [c])).keep gb) (N0.keep gb) (Nwz.new hS.1 hS.2.2.2.2.2.2.2.2.2.2.2.2.2.2.2 [.nilFunc] 86) (N2.keep gb) (Nat.ne_of_lt N0.o.t.lt) D02 (Nat.ne_of_gt N2.o.t.lt)
  exact AllReadyH.nil
 have st3_110:∀ (g1:FuncId) (k1:Array Value) (g2:FuncId) (k2:Array Value) (N0b:Nat) (N1b:Nat) (W:World),zS W→(VwX (fun b=>X b∨b=N0b∨b=N1b) W (.func (.func g1) #[] k1) f1 n1)→(VwX (fun b=>X b∨b=N0b∨b=N1b) W (.func (.func g2) #[] k2) f2 n2)→(Nwz w (b5) W N0b [.int .i64 0,.int .i64 0])→(Nwz w (b5) W N1b [.nilFunc])→(N0b≠N1b)→wpAnyH Tryz.prog .any cwOps Q zS 4 #[true,true,true,true,true,true,true,true,true,false,false,false,false] (zT (.pointer (some ⟨N0b,0,none⟩)) (.pointer (some ⟨N1b,0,none⟩)) t17 (.agg #[.int .i64 lo,.int .i64 hi]) (.func (.func g1) #[] k1) (.func (.func g2) #[] k2)) W:=by
  subst zSe zTe
  dsimp only
  intro g1 k1 g2 k2 N0b N1b W hS V1 V2 N0 N1 D01;refine wpAnyH_ready (rs:=[9]) (by kernel_rfl) (by simp) ?_;refine AllReadyH.cons cwOpsq9 (fun K hK=>?_) ?_
  ·go_simp;have gb:=grow (here W) (.cells #[.nilFunc] 86);refine hK.out _ _ (mk _ _ hS gb) (fun hS'=>?_);(try simp only [Act.put,zls,zl0,zl1]);exact st3_111 g1 k1 g2 k2 N0b N1b W.heap.size _ hS' ((V1.more (by rintro b (c | c | c | c) <;> simp [c])).keep gb) ((V2.more (by rintro b (c | c | c | c) <;> simp [c])).keep gb) (N0.keep gb) (N1.keep gb) (Nwz.new hS.1 hS.2.2.2.2.2.2.2.2.2.2.2.2.2.2.2 [.nilFunc] 86) D01 (Nat.ne_of_lt N0.o.t.lt) (Nat.ne_of_lt N1.o.t.lt)
  exact AllReadyH.nil
 have st3_001:∀ (g1:FuncId) (k1:Array Value) (g2:FuncId) (k2:Array Value) (N2b:Nat) (W:World),zS W→(VwX (fun b=>X b∨b=N2b) W (.func (.func g1) #[] k1) f1 n1)→(VwX (fun b=>X b∨b=N2b) W (.func (.func g2) #[] k2) f2 n2)→(Nwz w (b5) W N2b [.nilFunc])→wpAnyH Tryz.prog .any cwOps Q zS 5 #[true,true,true,true,true,true,true,false,false,true,false,false,false] (zT t15 t16 (.pointer (some ⟨N2b,0,none⟩)) (.agg #[.int .i64 lo,.int .i64 hi]) (.func (.func g1) #[] k1) (.func (.func g2) #[] k2)) W:=by
  subst zSe zTe
  dsimp only
  intro g1 k1 g2 k2 N2b W hS V1 V2 N2;refine wpAnyH_ready (rs:=[7,8]) (by kernel_rfl) (by simp) ?_;refine AllReadyH.cons cwOpsq7 (fun K hK=>?_) ?_
  ·go_simp;have gb:=grow (here W) (.cells #[.int .i64 0,.int .i64 0] 40);refine hK.out _ _ (mk _ _ hS gb) (fun hS'=>?_);(try simp only [Act.put,zls,zl0,zl1]);exact st3_101 g1 k1 g2 k2 W.heap.size N2b _ hS' ((V1.more (by rintro b (c | c | c) <;> simp [c])).keep gb) ((V2.more (by rintro b (c | c | c) <;> simp [c])).keep gb) (Nwz.new hS.1 hS.2.2.2.2.2.2.2.2.2.2.2.2.2.2.2 [.int .i64 0,.int .i64 0] 40) (N2.keep gb) (Nat.ne_of_gt N2.o.t.lt)
  refine AllReadyH.cons cwOpsq8 (fun K hK=>?_) ?_
  ·go_simp;have gb:=grow (here W) (.cells #[.nilFunc] 86);refine hK.out _ _ (mk _ _ hS gb) (fun hS'=>?_);(try simp only [Act.put,zls,zl0,zl1]);exact st3_011 g1 k1 g2 k2 W.heap.size N2b _ hS' ((V1.more (by rintro b (c | c | c) <;> simp [c])).keep gb) ((V2.more (by rintro b (c | c | c) <;> simp [c])).keep gb) (Nwz.new hS.1 hS.2.2.2.2.2.2.2.2.2.2.2.2.2.2.2 [.nilFunc] 86) (N2.keep gb) (Nat.ne_of_gt N2.o.t.lt)
  exact AllReadyH.nil
 have st3_010:∀ (g1:FuncId) (k1:Array Value) (g2:FuncId) (k2:Array Value) (N1b:Nat) (W:World),zS W→(VwX (fun b=>X b∨b=N1b) W (.func (.func g1) #[] k1) f1 n1)→(VwX (fun b=>X b∨b=N1b) W (.func (.func g2) #[] k2) f2 n2)→(Nwz w (b5) W N1b [.nilFunc])→wpAnyH Tryz.prog .any cwOps Q zS 5 #[true,true,true,true,true,true,true,false,true,false,false,false,false] (zT t15 (.pointer (some ⟨N1b,0,none⟩)) t17 (.agg #[.int .i64 lo,.int .i64 hi]) (.func (.func g1) #[] k1) (.func (.func g2) #[] k2)) W:=by
  subst zSe zTe
  dsimp only
  intro g1 k1 g2 k2 N1b W hS V1 V2 N1;refine wpAnyH_ready (rs:=[7,9]) (by kernel_rfl) (by simp) ?_;refine AllReadyH.cons cwOpsq7 (fun K hK=>?_) ?_
  ·go_simp;have gb:=grow (here W) (.cells #[.int .i64 0,.int .i64 0] 40);refine hK.out _ _ (mk _ _ hS gb) (fun hS'=>?_);(try simp only [Act.put,zls,zl0,zl1]);exact st3_110 g1 k1 g2 k2 W.heap.size N1b _ hS' ((V1.more (by rintro b (c | c | c) <;> simp [c])).keep gb) ((V2.more (by rintro b (c | c | c) <;> simp [c])).keep gb) (Nwz.new hS.1 hS.2.2.2.2.2.2.2.2.2.2.2.2.2.2.2 [.int .i64 0,.int .i64 0] 40) (N1.keep gb) (Nat.ne_of_gt N1.o.t.lt)
  refine AllReadyH.cons cwOpsq9 (fun K hK=>?_) ?_
  ·go_simp;have gb:=grow (here W) (.cells #[.nilFunc] 86);refine hK.out _ _ (mk _ _ hS gb) (fun hS'=>?_);(try simp only [Act.put,zls,zl0,zl1]);exact st3_011 g1 k1 g2 k2 N1b W.heap.size _ hS' ((V1.more (by rintro b (c | c | c) <;> simp [c])).keep gb) ((V2.more (by rintro b (c | c | c) <;> simp [c])).keep gb) (N1.keep gb) (Nwz.new hS.1 hS.2.2.2.2.2.2.2.2.2.2.2.2.2.2.2 [.nilFunc] 86) (Nat.ne_of_lt N1.o.t.lt)
  exact AllReadyH.nil
 have st3_100:∀ (g1:FuncId) (k1:Array Value) (g2:FuncId) (k2:Array Value) (N0b:Nat) (W:World),zS W→(VwX (fun b=>X b∨b=N0b) W (.func (.func g1) #[] k1) f1 n1)→(VwX (fun b=>X b∨b=N0b) W (.func (.func g2) #[] k2) f2 n2)→(Nwz w (b5) W N0b [.int .i64 0,.int .i64 0])→wpAnyH Tryz.prog .any cwOps Q zS 5 #[true,true,true,true,true,true,true,true,false,false,false,false,false] (zT (.pointer (some ⟨N0b,0,none⟩)) t16 t17 (.agg #[.int .i64 lo,.int .i64 hi]) (.func (.func g1) #[] k1) (.func (.func g2) #[] k2)) W:=by
  subst zSe zTe
  dsimp only
  intro g1 k1 g2 k2 N0b W hS V1 V2 N0;refine wpAnyH_ready (rs:=[8,9]) (by kernel_rfl) (by simp) ?_;refine AllReadyH.cons cwOpsq8 (fun K hK=>?_) ?_
  ·go_simp;have gb:=grow (here W) (.cells #[.nilFunc] 86);refine hK.out _ _ (mk _ _ hS gb) (fun hS'=>?_);(try simp only [Act.put,zls,zl0,zl1]);exact st3_110 g1 k1 g2 k2 N0b W.heap.size _ hS' ((V1.more (by rintro b (c | c | c) <;> simp [c])).keep gb) ((V2.more (by rintro b (c | c | c) <;> simp [c])).keep gb) (N0.keep gb) (Nwz.new hS.1 hS.2.2.2.2.2.2.2.2.2.2.2.2.2.2.2 [.nilFunc] 86) (Nat.ne_of_lt N0.o.t.lt)
  refine AllReadyH.cons cwOpsq9 (fun K hK=>?_) ?_
  ·go_simp;have gb:=grow (here W) (.cells #[.nilFunc] 86);refine hK.out _ _ (mk _ _ hS gb) (fun hS'=>?_);(try simp only [Act.put,zls,zl0,zl1]);exact st3_101 g1 k1 g2 k2 N0b W.heap.size _ hS' ((V1.more (by rintro b (c | c | c) <;> simp [c])).keep gb) ((V2.more (by rintro b (c | c | c) <;> simp [c])).keep gb) (N0.keep gb) (Nwz.new hS.1 hS.2.2.2.2.2.2.2.2.2.2.2.2.2.2.2 [.nilFunc] 86) (Nat.ne_of_lt N0.o.t.lt)
  exact AllReadyH.nil
 have st3_000:∀ (g1:FuncId) (k1:Array Value) (g2:FuncId) (k2:Array Value) (W:World),zS W→(VwX (fun b=>X b) W (.func (.func g1) #[] k1) f1 n1)→(VwX (fun b=>X b) W (.func (.func g2) #[] k2) f2 n2)→wpAnyH Tryz.prog .any cwOps Q zS 6 #[true,true,true,true,true,true,true,false,false,false,false,false,false] (zT t15 t16 t17 (.agg #[.int .i64 lo,.int .i64 hi]) (.func (.func g1) #[] k1) (.func (.func g2) #[] k2)) W:=by
  subst zSe zTe
  dsimp only
  intro g1 k1 g2 k2 W hS V1 V2;refine wpAnyH_ready (rs:=[7,8,9]) (by kernel_rfl) (by simp) ?_;refine AllReadyH.cons cwOpsq7 (fun K hK=>?_) ?_
  ·go_simp;have gb:=grow (here W) (.cells #[.int .i64 0,.int .i64 0] 40);refine hK.out _ _ (mk _ _ hS gb) (fun hS'=>?_);(try simp only [Act.put,zls,zl0,zl1]);exact st3_100 g1 k1 g2 k2 W.heap.size _ hS' ((V1.more (by rintro b (c | c) <;> simp [c])).keep gb) ((V2.more (by rintro b (c | c) <;> simp [c])).keep gb) (Nwz.new hS.1 hS.2.2.2.2.2.2.2.2.2.2.2.2.2.2.2 [.int .i64 0,.int .i64 0] 40)
  refine AllReadyH.cons cwOpsq8 (fun K hK=>?_) ?_
  ·go_simp;have gb:=grow (here W) (.cells #[.nilFunc] 86);refine hK.out _ _ (mk _ _ hS gb) (fun hS'=>?_);(try simp only [Act.put,zls,zl0,zl1]);exact st3_010 g1 k1 g2 k2 W.heap.size _ hS' ((V1.more (by rintro b (c | c) <;> simp [c])).keep gb) ((V2.more (by rintro b (c | c) <;> simp [c])).keep gb) (Nwz.new hS.1 hS.2.2.2.2.2.2.2.2.2.2.2.2.2.2.2 [.nilFunc] 86)
  refine AllReadyH.cons cwOpsq9 (fun K hK=>?_) ?_
  ·go_simp;have gb:=grow (here W) (.cells #[.nilFunc] 86);refine hK.out _ _ (mk _ _ hS gb) (fun hS'=>?_);(try simp only [Act.put,zls,zl0,zl1]);exact st3_001 g1 k1 g2 k2 W.heap.size _ hS' ((V1.more (by rintro b (c | c) <;> simp [c])).keep gb) ((V2.more (by rintro b (c | c) <;> simp [c])).keep gb) (Nwz.new hS.1 hS.2.2.2.2.2.2.2.2.2.2.2.2.2.2.2 [.nilFunc] 86)
  exact AllReadyH.nil
 have st2_111:∀ (g1:FuncId) (k1:Array Value) (N0b:Nat) (N1b:Nat) (N2b:Nat) (W:World),zS W→(VwX (fun b=>X b∨b=N0b∨b=N1b∨b=N2b) W (.func (.func g1) #[] k1) f1 n1)→(Nwz w (b5) W N0b [.int .i64 0,.int .i64 0])→(Nwz w (b5) W N1b [.nilFunc])→(Nwz w (b5) W N2b [.nilFunc])→(N0b≠N1b)→(N0b≠N2b)→(N1b≠N2b)→wpAnyH Tryz.prog .any cwOps Q zS 4 #[true,true,true,true,true,true,false,true,true,true,false,false,false] (zT (.pointer (some ⟨N0b,0,none⟩)) (.pointer (some ⟨N1b,0,none⟩)) (.pointer (some ⟨N2b,0,none⟩)) (.agg #[.int .i64 lo,.int .i64 hi]) (.func (.func g1) #[] k1) t63) W:=by
  subst zSe zTe
  dsimp only
  intro g1 k1 N0b N1b N2b W hS V1 N0 N1 N2 D01 D02 D12;refine wpAnyH_ready (rs:=[6]) (by kernel_rfl) (by simp) ?_;refine AllReadyH.cons cwOpsq6 (fun K hK=>?_) ?_
  ·go_simp;go_at_call 68;refine ((H2.out _ hS.1 (fun b=>X b∨b=N0b∨b=N1b∨b=N2b) (by rintro b (c | rfl | rfl | rfl);exact ⟨(hX b c).1,zll (hX b c).2 hS.1.size⟩;exact ⟨Nat.le_trans hlo N0.le,N0.o.t.lt⟩;exact ⟨Nat.le_trans hlo N1.le,N1.o.t.lt⟩;exact ⟨Nat.le_trans hlo N2.le,N2.o.t.lt⟩)).mono ?_);rintro e W' ⟨⟨v,rfl,V2⟩,hb⟩;obtain ⟨g2,k2,rfl⟩:=V2.shape;refine hK.out _ _ (mk _ W' hS hb) (fun hS'=>?_);(try simp only [Act.put,zls,zl0,zl1]);exact st3_111 g1 k1 g2 k2 N0b N1b N2b W' hS' (V1.keep hb) V2 (N0.keep hb) (N1.keep hb) (N2.keep hb) D01 D02 D12
  exact AllReadyH.nil
 have st2_011:∀ (g1:FuncId) (k1:Array Value) (N1b:Nat) (N2b:Nat) (W:World),zS W→(VwX (fun b=>X b∨b=N1b∨b=N2b) W (.func (.func g1) #[] k1) f1 n1)→(Nwz w (b5) W N1b [.nilFunc])→(Nwz w (b5) W N2b [.nilFunc])→(N1b≠N2b)→wpAnyH Tryz.prog .any cwOps Q zS 5 #[true,true,true,true,true,true,false,false,true,true,false,false,false] (zT t15 (.pointer (some ⟨N1b,0,none⟩)) (.pointer (some ⟨N2b,0,none⟩)) (.agg #[.int .i64 lo,.int .i64 hi]) (.func (.func g1) #[] k1) t63) W:=by
  subst zSe zTe
  dsimp only
  intro g1 k1 N1b N2b W hS V1 N1 N2 D12;refine wpAnyH_ready (rs:=[6,7]) (by kernel_rfl) (by simp) ?_;refine AllReadyH.cons cwOpsq6 (fun K hK=>?_) ?_
  ·go_simp;go_at_call 68;refine ((H2.out _ hS.1 (fun b=>X b∨b=N1b∨b=N2b) (by rintro b (c | rfl | rfl);exact ⟨(hX b c).1,zll (hX b c).2 hS.1.size⟩;exact ⟨Nat.le_trans hlo N1.le,N1.o.t.lt⟩;exact ⟨Nat.le_trans hlo N2.le,N2.o.t.lt⟩)).mono ?_);rintro e W' ⟨⟨v,rfl,V2⟩,hb⟩;obtain ⟨g2,k2,rfl⟩:=V2.shape;refine hK.out _ _ (mk _ W' hS hb) (fun hS'=>?_);(try simp only [Act.put,zls,zl0,zl1]);exact st3_011 g1 k1 g2 k2 N1b N2b W' hS' (V1.keep hb) V2 (N1.keep hb) (N2.keep hb) D12
  refine AllReadyH.cons cwOpsq7 (fun K hK=>?_) ?_
  ·go_simp;have gb:=grow (here W) (.cells #[.int .i64 0,.int .i64 0] 40);refine hK.out _ _ (mk _ _ hS gb) (fun hS'=>?_);(try simp only [Act.put,zls,zl0,zl1]);exact st2_111 g1 k1 W.heap.size N1b N2b _ hS' ((V1.more (by rintro b (c | c | c | c) <;> simp [c])).keep gb) (Nwz.new hS.1 hS.2.2.2.2.2.2.2.2.2.2.2.2.2.2.2 [.int .i64 0,.int .i64 0] 40) (N1.keep gb) (N2.keep gb) (Nat.ne_of_gt N1.o.t.lt) (Nat.ne_of_gt N2.o.t.lt) D12
  exact AllReadyH.nil
 have st2_101:∀ (g1:FuncId) (k1:Array Value) (N0b:Nat) (N2b:Nat) (W:World),zS W→(VwX (fun b=>X b∨b=N0b∨b=N2b) W (.func (.func g1) #[] k1) f1 n1)→(Nwz w (b5) W N0b [.int .i64 0,.int .i64 0])→(Nwz w (b5) W N2b [.nilFunc])→(N0b≠N2b)→wpAnyH Tryz.prog .any cwOps Q zS 5 #[true,true,true,true,true,true,false,true,false,true,false,false,false] (zT (.pointer (some ⟨N0b,0,none⟩)) t16 (.pointer (some ⟨N2b,0,none⟩)) (.agg #[.int .i64 lo,.int .i64 hi]) (.func (.func g1) #[] k1) t63) W:=by
  subst zSe zTe
  dsimp only
  intro g1 k1 N0b N2b W hS V1 N0 N2 D02;refine wpAnyH_ready (rs:=[6,8]) (by kernel_rfl) (by simp) ?_;refine AllReadyH.cons cwOpsq6 (fun K hK=>?_) ?_
  ·go_simp;go_at_call 68;refine ((H2.out _ hS.1 (fun b=>X b∨b=N0b∨b=N2b) (by rintro b (c | rfl | rfl);exact ⟨(hX b c).1,zll (hX b c).2 hS.1.size⟩;exact ⟨Nat.le_trans hlo N0.le,N0.o.t.lt⟩;exact ⟨Nat.le_trans hlo N2.le,N2.o.t.lt⟩)).mono ?_);rintro e W' ⟨⟨v,rfl,V2⟩,hb⟩;obtain ⟨g2,k2,rfl⟩:=V2.shape;refine hK.out _ _ (mk _ W' hS hb) (fun hS'=>?_);(try simp only [Act.put,zls,zl0,zl1]);exact st3_101 g1 k1 g2 k2 N0b N2b W' hS' (V1.keep hb) V2 (N0.keep hb) (N2.keep hb) D02
  refine AllReadyH.cons cwOpsq8 (fun K hK=>?_) ?_
  ·go_simp;have gb:=grow (here W) (.cells #[.nilFunc] 86);refine hK.out _ _ (mk _ _ hS gb) (fun hS'=>?_);(try simp only [Act.put,zls,zl0,zl1]);exact st2_111 g1 k1 N0b W.heap.size N2b _ hS' ((V1.more (by rintro b (c | c | c | c) <;> simp [c])).keep gb) (N0.keep gb) (Nwz.new hS.1 hS.2.2.2.2.2.2.2.2.2.2.2.2.2.2.2 [.nilFunc] 86) (N2.keep gb) (Nat.ne_of_lt N0.o.t.lt) D02 (Nat.ne_of_gt N2.o.t.lt)
  exact AllReadyH.nil
 have st2_110:∀ (g1:FuncId) (k1:Array Value) (N0b:Nat) (N1b:Nat) (W:World),zS W→(VwX (fun b=>X b∨b=N0b∨b=N1b) W (.func (.func g1) #[] k1) f1 n1)→(Nwz w (b5) W N0b [.int .i64 0,.int .i64 0])→(Nwz w (b5) W N1b [.nilFunc])→(N0b≠N1b)→wpAnyH Tryz.prog .any cwOps Q zS 5 #[true,true,true,true,true,true,false,true,true,false,false,false,false] (zT (.pointer (some ⟨N0b,0,none⟩)) (.pointer (some ⟨N1b,0,none⟩)) t17 (.agg #[.int .i64 lo,.int .i64 hi]) (.func (.func g1) #[] k1) t63) W:=by
  subst zSe zTe
  dsimp only
  intro g1 k1 N0b N1b W hS V1 N0 N1 D01;refine wpAnyH_ready (rs:=[6,9]) (by kernel_rfl) (by simp) ?_;refine AllReadyH.cons cwOpsq6 (fun K hK=>?_) ?_
  ·go_simp;go_at_call 68;refine ((H2.out _ hS.1 (fun b=>X b∨b=N0b∨b=N1b) (by rintro b (c | rfl | rfl);exact ⟨(hX b c).1,zll (hX b c).2 hS.1.size⟩;exact ⟨Nat.le_trans hlo N0.le,N0.o.t.lt⟩;exact ⟨Nat.le_trans hlo N1.le,N1.o.t.lt⟩)).mono ?_);rintro e W' ⟨⟨v,rfl,V2⟩,hb⟩;obtain ⟨g2,k2,rfl⟩:=V2.shape;refine hK.out _ _ (mk _ W' hS hb) (fun hS'=>?_);(try simp only [Act.put,zls,zl0,zl1]);exact st3_110 g1 k1 g2 k2 N0b N1b W' hS' (V1.keep hb) V2 (N0.keep hb) (N1.keep hb) D01
  refine AllReadyH.cons cwOpsq9 (fun K hK=>?_) ?_
  ·go_simp;have gb:=grow (here W) (.cells #[.nilFunc] 86);refine hK.out _ _ (mk _ _ hS gb) (fun hS'=>?_);(try simp only [Act.put,zls,zl0,zl1]);exact st2_111 g1 k1 N0b N1b W.heap.size _ hS' ((V1.more (by rintro b (c | c | c | c) <;> simp [c])).keep gb) (N0.keep gb) (N1.keep gb) (Nwz.new hS.1 hS.2.2.2.2.2.2.2.2.2.2.2.2.2.2.2 [.nilFunc] 86) D01 (Nat.ne_of_lt N0.o.t.lt) (Nat.ne_of_lt N1.o.t.lt)
  exact AllReadyH.nil
 have st2_001:∀ (g1:FuncId) (k1:Array Value) (N2b:Nat) (W:World),zS W→(VwX (fun b=>X b∨b=N2b) W (.func (.func g1) #[] k1) f1 n1)→(Nwz w (b5) W N2b [.nilFunc])→wpAnyH Tryz.prog .any cwOps Q zS 6 #[true,true,true,true,true,true,false,false,false,true,false,false,false] (zT t15 t16 (.pointer (some ⟨N2b,0,none⟩)) (.agg #[.int .i64 lo,.int .i64 hi]) (.func (.func g1) #[] k1) t63) W:=by
  subst zSe zTe
  dsimp only
  intro g1 k1 N2b W hS V1 N2;refine wpAnyH_ready (rs:=[6,7,8]) (by kernel_rfl) (by simp) ?_;refine AllReadyH.cons cwOpsq6 (fun K hK=>?_) ?_
  ·go_simp;go_at_call 68;refine ((H2.out _ hS.1 (fun b=>X b∨b=N2b) (by rintro b (c | rfl);exact ⟨(hX b c).1,zll (hX b c).2 hS.1.size⟩;exact ⟨Nat.le_trans hlo N2.le,N2.o.t.lt⟩)).mono ?_);rintro e W' ⟨⟨v,rfl,V2⟩,hb⟩;obtain ⟨g2,k2,rfl⟩:=V2.shape;refine hK.out _ _ (mk _ W' hS hb) (fun hS'=>?_);(try simp only [Act.put,zls,zl0,zl1]);exact st3_001 g1 k1 g2 k2 N2b W' hS' (V1.keep hb) V2 (N2.keep hb)
  refine AllReadyH.cons cwOpsq7 (fun K hK=>?_) ?_
  ·go_simp;have gb:=grow (here W) (.cells #[.int .i64 0,.int .i64 0] 40);refine hK.out _ _ (mk _ _ hS gb) (fun hS'=>?_);(try simp only [Act.put,zls,zl0,zl1]);exact st2_101 g1 k1 W.heap.size N2b _ hS' ((V1.more (by rintro b (c | c | c) <;> simp [c])).keep gb) (Nwz.new hS.1 hS.2.2.2.2.2.2.2.2.2.2.2.2.2.2.2 [.int .i64 0,.int .i64 0] 40) (N2.keep gb) (Nat.ne_of_gt N2.o.t.lt)
  refine AllReadyH.cons cwOpsq8 (fun K hK=>?_) ?_
  ·go_simp;have gb:=grow (here W) (.cells #[.nilFunc] 86);refine hK.out _ _ (mk _ _ hS gb) (fun hS'=>?_);(try simp only [Act.put,zls,zl0,zl1]);exact st2_011 g1 k1 W.heap.size N2b _ hS' ((V1.more (by rintro b (c | c | c) <;> simp [c])).keep gb) (Nwz.new hS.1 hS.2.2.2.2.2.2.2.2.2.2.2.2.2.2.2 [.nilFunc] 86) (N2.keep gb) (Nat.ne_of_gt N2.o.t.lt)
  exact AllReadyH.nil
 have st2_010:∀ (g1:FuncId) (k1:Array Value) (N1b:Nat) (W:World),zS W→(VwX (fun b=>X b∨b=N1b) W (.func (.func g1) #[] k1) f1 n1)→(Nwz w (b5) W N1b [.nilFunc])→wpAnyH Tryz.prog .any cwOps Q zS 6 #[true,true,true,true,true,true,false,false,true,false,false,false,false] (zT t15 (.pointer (some ⟨N1b,0,none⟩)) t17 (.agg #[.int .i64 lo,.int .i64 hi]) (.func (.func g1) #[] k1) t63) W:=by
  subst zSe zTe
  dsimp only
  intro g1 k1 N1b W hS V1 N1;refine wpAnyH_ready (rs:=[6,7,9]) (by kernel_rfl) (by simp) ?_;refine AllReadyH.cons cwOpsq6 (fun K hK=>?_) ?_
  ·go_simp;go_at_call 68;refine ((H2.out _ hS.1 (fun b=>X b∨b=N1b) (by rintro b (c | rfl);exact ⟨(hX b c).1,zll (hX b c).2 hS.1.size⟩;exact ⟨Nat.le_trans hlo N1.le,N1.o.t.lt⟩)).mono ?_);rintro e W' ⟨⟨v,rfl,V2⟩,hb⟩;obtain ⟨g2,k2,rfl⟩:=V2.shape;refine hK.out _ _ (mk _ W' hS hb) (fun hS'=>?_);(try simp only [Act.put,zls,zl0,zl1]);exact st3_010 g1 k1 g2 k2 N1b W' hS' (V1.keep hb) V2 (N1.keep hb)
  refine AllReadyH.cons cwOpsq7 (fun K hK=>?_) ?_
  ·go_simp;have gb:=grow (here W) (.cells #[.int .i64 0,.int .i64 0] 40);refine hK.out _ _ (mk _ _ hS gb) (fun hS'=>?_);(try simp only [Act.put,zls,zl0,zl1]);exact st2_110 g1 k1 W.heap.size N1b _ hS' ((V1.more (by rintro b (c | c | c) <;> simp [c])).keep gb) (Nwz.new hS.1 hS.2.2.2.2.2.2.2.2.2.2.2.2.2.2.2 [.int .i64 0,.int .i64 0] 40) (N1.keep gb) (Nat.ne_of_gt N1.o.t.lt)
  refine AllReadyH.cons cwOpsq9 (fun K hK=>?_) ?_
  ·go_simp;have gb:=grow (here W) (.cells #[.nilFunc] 86);refine hK.out _ _ (mk _ _ hS gb) (fun hS'=>?_);(try simp only [Act.put,zls,zl0,zl1]);exact st2_011 g1 k1 N1b W.heap.size _ hS' ((V1.more (by rintro b (c | c | c) <;> simp [c])).keep gb) (N1.keep gb) (Nwz.new hS.1 hS.2.2.2.2.2.2.2.2.2.2.2.2.2.2.2 [.nilFunc] 86) (Nat.ne_of_lt N1.o.t.lt)
  exact AllReadyH.nil
 have st2_100:∀ (g1:FuncId) (k1:Array Value) (N0b:Nat) (W:World),zS W→(VwX (fun b=>X b∨b=N0b) W (.func (.func g1) #[] k1) f1 n1)→(Nwz w (b5) W N0b [.int .i64 0,.int .i64 0])→wpAnyH Tryz.prog .any cwOps Q zS 6 #[true,true,true,true,true,true,false,true,false,false,false,false,false] (zT (.pointer (some ⟨N0b,0,none⟩)) t16 t17 (.agg #[.int .i64 lo,.int .i64 hi]) (.func (.func g1) #[] k1) t63) W:=by
  subst zSe zTe
  dsimp only
  intro g1 k1 N0b W hS V1 N0;refine wpAnyH_ready (rs:=[6,8,9]) (by kernel_rfl) (by simp) ?_;refine AllReadyH.cons cwOpsq6 (fun K hK=>?_) ?_
  ·go_simp;go_at_call 68;refine ((H2.out _ hS.1 (fun b=>X b∨b=N0b) (by rintro b (c | rfl);exact ⟨(hX b c).1,zll (hX b c).2 hS.1.size⟩;exact ⟨Nat.le_trans hlo N0.le,N0.o.t.lt⟩)).mono ?_);rintro e W' ⟨⟨v,rfl,V2⟩,hb⟩;obtain ⟨g2,k2,rfl⟩:=V2.shape;refine hK.out _ _ (mk _ W' hS hb) (fun hS'=>?_);(try simp only [Act.put,zls,zl0,zl1]);exact st3_100 g1 k1 g2 k2 N0b W' hS' (V1.keep hb) V2 (N0.keep hb)
  refine AllReadyH.cons cwOpsq8 (fun K hK=>?_) ?_
  ·go_simp;have gb:=grow (here W) (.cells #[.nilFunc] 86);refine hK.out _ _ (mk _ _ hS gb) (fun hS'=>?_);(try simp only [Act.put,zls,zl0,zl1]);exact st2_110 g1 k1 N0b W.heap.size _ hS' ((V1.more (by rintro b (c | c | c) <;> simp [c])).keep gb) (N0.keep gb) (Nwz.new hS.1 hS.2.2.2.2.2.2.2.2.2.2.2.2.2.2.2 [.nilFunc] 86) (Nat.ne_of_lt N0.o.t.lt)
  refine AllReadyH.cons cwOpsq9 (fun K hK=>?_) ?_
  ·go_simp;have gb:=grow (here W) (.cells #[.nilFunc] 86);refine hK.out _ _ (mk _ _ hS gb) (fun hS'=>?_);(try simp only [Act.put,zls,zl0,zl1]);exact st2_101 g1 k1 N0b W.heap.size _ hS' ((V1.more (by rintro b (c | c | c) <;> simp [c])).keep gb) (N0.keep gb) (Nwz.new hS.1 hS.2.2.2.2.2.2.2.2.2.2.2.2.2.2.2 [.nilFunc] 86) (Nat.ne_of_lt N0.o.t.lt)
  exact AllReadyH.nil
 have st2_000:∀ (g1:FuncId) (k1:Array Value) (W:World),zS W→(VwX (fun b=>X b) W (.func (.func g1) #[] k1) f1 n1)→wpAnyH Tryz.prog .any cwOps Q zS 7 #[true,true,true,true,true,true,false,false,false,false,false,false,false] (zT t15 t16 t17 (.agg #[.int .i64 lo,.int .i64 hi]) (.func (.func g1) #[] k1) t63) W:=by
  subst zSe zTe
  dsimp only
  intro g1 k1 W hS V1;refine wpAnyH_ready (rs:=[6,7,8,9]) (by kernel_rfl) (by simp) ?_;refine AllReadyH.cons cwOpsq6 (fun K hK=>?_) ?_
  ·go_simp;go_at_call 68;refine ((H2.out _ hS.1 (fun b=>X b) (by intro b c;exact ⟨(hX b c).1,zll (hX b c).2 hS.1.size⟩)).mono ?_);rintro e W' ⟨⟨v,rfl,V2⟩,hb⟩;obtain ⟨g2,k2,rfl⟩:=V2.shape;refine hK.out _ _ (mk _ W' hS hb) (fun hS'=>?_);(try simp only [Act.put,zls,zl0,zl1]);exact st3_000 g1 k1 g2 k2 W' hS' (V1.keep hb) V2
  refine AllReadyH.cons cwOpsq7 (fun K hK=>?_) ?_
  ·go_simp;have gb:=grow (here W) (.cells #[.int .i64 0,.int .i64 0] 40);refine hK.out _ _ (mk _ _ hS gb) (fun hS'=>?_);(try simp only [Act.put,zls,zl0,zl1]);exact st2_100 g1 k1 W.heap.size _ hS' ((V1.more (by rintro b (c | c) <;> simp [c])).keep gb) (Nwz.new hS.1 hS.2.2.2.2.2.2.2.2.2.2.2.2.2.2.2 [.int .i64 0,.int .i64 0] 40)
  refine AllReadyH.cons cwOpsq8 (fun K hK=>?_) ?_
  ·go_simp;have gb:=grow (here W) (.cells #[.nilFunc] 86);refine hK.out _ _ (mk _ _ hS gb) (fun hS'=>?_);(try simp only [Act.put,zls,zl0,zl1]);exact st2_010 g1 k1 W.heap.size _ hS' ((V1.more (by rintro b (c | c) <;> simp [c])).keep gb) (Nwz.new hS.1 hS.2.2.2.2.2.2.2.2.2.2.2.2.2.2.2 [.nilFunc] 86)
  refine AllReadyH.cons cwOpsq9 (fun K hK=>?_) ?_
  ·go_simp;have gb:=grow (here W) (.cells #[.nilFunc] 86);refine hK.out _ _ (mk _ _ hS gb) (fun hS'=>?_);(try simp only [Act.put,zls,zl0,zl1]);exact st2_001 g1 k1 W.heap.size _ hS' ((V1.more (by rintro b (c | c) <;> simp [c])).keep gb) (Nwz.new hS.1 hS.2.2.2.2.2.2.2.2.2.2.2.2.2.2.2 [.nilFunc] 86)
  exact AllReadyH.nil
 have st1_111:∀ (N0b:Nat) (N1b:Nat) (N2b:Nat) (W:World),zS W→(Nwz w (b5) W N0b [.int .i64 0,.int .i64 0])→(Nwz w (b5) W N1b [.nilFunc])→(Nwz w (b5) W N2b [.nilFunc])→(N0b≠N1b)→(N0b≠N2b)→(N1b≠N2b)→wpAnyH Tryz.prog .any cwOps Q zS 5 #[true,true,true,true,false,true,false,true,true,true,false,false,false] (zT (.pointer (some ⟨N0b,0,none⟩)) (.pointer (some ⟨N1b,0,none⟩)) (.pointer (some ⟨N2b,0,none⟩)) (.agg #[.int .i64 lo,.int .i64 hi]) t61 t63) W:=by
  subst zSe zTe
  dsimp only
  intro N0b N1b N2b W hS N0 N1 N2 D01 D02 D12;refine wpAnyH_ready (rs:=[4]) (by kernel_rfl) (by simp) ?_;refine AllReadyH.cons cwOpsq4 (fun K hK=>?_) ?_
  ·go_simp;go_at_call 68;refine ((H1.out _ hS.1 (fun b=>X b∨b=N0b∨b=N1b∨b=N2b) (by rintro b (c | rfl | rfl | rfl);exact ⟨(hX b c).1,zll (hX b c).2 hS.1.size⟩;exact ⟨Nat.le_trans hlo N0.le,N0.o.t.lt⟩;exact ⟨Nat.le_trans hlo N1.le,N1.o.t.lt⟩;exact ⟨Nat.le_trans hlo N2.le,N2.o.t.lt⟩)).mono ?_);rintro e W' ⟨⟨v,rfl,V1⟩,hb⟩;obtain ⟨g1,k1,rfl⟩:=V1.shape;refine hK.out _ _ (mk _ W' hS hb) (fun hS'=>?_);(try simp only [Act.put,zls,zl0,zl1]);exact st2_111 g1 k1 N0b N1b N2b W' hS'  V1 (N0.keep hb) (N1.keep hb) (N2.keep hb) D01 D02 D12
  exact AllReadyH.nil
 have st1_011:∀ (N1b:Nat) (N2b:Nat) (W:World),zS W→(Nwz w (b5) W N1b [.nilFunc])→(Nwz w (b5) W N2b [.nilFunc])→(N1b≠N2b)→wpAnyH Tryz.prog .any cwOps Q zS 6 #[true,true,true,true,false,true,false,false,true,true,false,false,false] (zT t15 (.pointer (some ⟨N1b,0,none⟩)) (.pointer (some ⟨N2b,0,none⟩)) (.agg #[.int .i64 lo,.int .i64 hi]) t61 t63) W:=by
  subst zSe zTe
  dsimp only
  intro N1b N2b W hS N1 N2 D12;refine wpAnyH_ready (rs:=[4,7]) (by kernel_rfl) (by simp) ?_;refine AllReadyH.cons cwOpsq4 (fun K hK=>?_) ?_
  ·go_simp;go_at_call 68;refine ((H1.out _ hS.1 (fun b=>X b∨b=N1b∨b=N2b) (by rintro b (c | rfl | rfl);exact ⟨(hX b c).1,zll (hX b c).2 hS.1.size⟩;exact ⟨Nat.le_trans hlo N1.le,N1.o.t.lt⟩;exact ⟨Nat.le_trans hlo N2.le,N2.o.t.lt⟩)).mono ?_);rintro e W' ⟨⟨v,rfl,V1⟩,hb⟩;obtain ⟨g1,k1,rfl⟩:=V1.shape;refine hK.out _ _ (mk _ W' hS hb) (fun hS'=>?_);(try simp only [Act.put,zls,zl0,zl1]);exact st2_011 g1 k1 N1b N2b W' hS'  V1 (N1.keep hb) (N2.keep hb) D12
  refine AllReadyH.cons cwOpsq7 (fun K hK=>?_) ?_
  ·go_simp;have gb:=grow (here W) (.cells #[.int .i64 0,.int .i64 0] 40);refine hK.out _ _ (mk _ _ hS gb) (fun hS'=>?_);(try simp only [Act.put,zls,zl0,zl1]);exact st1_111 W.heap.size N1b N2b _ hS'  (Nwz.new hS.1 hS.2.2.2.2.2.2.2.2.2.2.2.2.2.2.2 [.int .i64 0,.int .i64 0] 40) (N1.keep gb) (N2.keep gb) (Nat.ne_of_gt N1.o.t.lt) (Nat.ne_of_gt N2.o.t.lt) D12
  exact AllReadyH.nil
 have st1_101:∀ (N0b:Nat) (N2b:Nat) (W:World),zS W→(Nwz w (b5) W N0b [.int .i64 0,.int .i64 0])→(Nwz w (b5) W N2b [.nilFunc])→(N0b≠N2b)→wpAnyH Tryz.prog .any cwOps Q zS 6 #[true,true,true,true,false,true,false,true,false,true,false,false,false] (zT (.pointer (some ⟨N0b,0,none⟩)) t16 (.pointer (some ⟨N2b,0,none⟩)) (.agg #[.int .i64 lo,.int .i64 hi]) t61 t63) W:=by
  subst zSe zTe
  dsimp only
  intro N0b N2b W hS N0 N2 D02;refine wpAnyH_ready (rs:=[4,8]) (by kernel_rfl) (by simp) ?_;refine AllReadyH.cons cwOpsq4 (fun K hK=>?_) ?_
  ·go_simp;go_at_call 68;refine ((H1.out _ hS.1 (fun b=>X b∨b=N0b∨b=N2b) (by rintro b (c | rfl | rfl);exact ⟨(hX b c).1,zll (hX b c).2 hS.1.size⟩;exact ⟨Nat.le_trans hlo N0.le,N0.o.t.lt⟩;exact ⟨Nat.le_trans hlo N2.le,N2.o.t.lt⟩)).mono ?_);rintro e W' ⟨⟨v,rfl,V1⟩,hb⟩;obtain ⟨g1,k1,rfl⟩:=V1.shape;refine hK.out _ _ (mk _ W' hS hb) (fun hS'=>?_);(try simp only [Act.put,zls,zl0,zl1]);exact st2_101 g1 k1 N0b N2b W' hS'  V1 (N0.keep hb) (N2.keep hb) D02
  refine AllReadyH.cons cwOpsq8 (fun K hK=>?_) ?_
  ·go_simp;have gb:=grow (here W) (.cells #[.nilFunc] 86);refine hK.out _ _ (mk _ _ hS gb) (fun hS'=>?_);(try simp only [Act.put,zls,zl0,zl1]);exact st1_111 N0b W.heap.size N2b _ hS'  (N0.keep gb) (Nwz.new hS.1 hS.2.2.2.2.2.2.2.2.2.2.2.2.2.2.2 [.nilFunc] 86) (N2.keep gb) (Nat.ne_of_lt N0.o.t.lt) D02 (Nat.ne_of_gt N2.o.t.lt)
  exact AllReadyH.nil
 have st1_110:∀ (N0b:Nat) (N1b:Nat) (W:World),zS W→(Nwz w (b5) W N0b [.int .i64 0,.int .i64 0])→(Nwz w (b5) W N1b [.nilFunc])→(N0b≠N1b)→wpAnyH Tryz.prog .any cwOps Q zS 6 #[true,true,true,true,false,true,false,true,true,false,false,false,false] (zT (.pointer (some ⟨N0b,0,none⟩)) (.pointer (some ⟨N1b,0,none⟩)) t17 (.agg #[.int .i64 lo,.int .i64 hi]) t61 t63) W:=by
  subst zSe zTe
  dsimp only
  intro N0b N1b W hS N0 N1 D01;refine wpAnyH_ready (rs:=[4,9]) (by kernel_rfl) (by simp) ?_;refine AllReadyH.cons cwOpsq4 (fun K hK=>?_) ?_
  ·go_simp;go_at_call 68;refine ((H1.out _ hS.1 (fun b=>X b∨b=N0b∨b=N1b) (by rintro b (c | rfl | rfl);exact ⟨(hX b c).1,zll (hX b c).2 hS.1.size⟩;exact ⟨Nat.le_trans hlo N0.le,N0.o.t.lt⟩;exact ⟨Nat.le_trans hlo N1.le,N1.o.t.lt⟩)).mono ?_);rintro e W' ⟨⟨v,rfl,V1⟩,hb⟩;obtain ⟨g1,k1,rfl⟩:=V1.shape;refine hK.out _ _ (mk _ W' hS hb) (fun hS'=>?_);(try simp only [Act.put,zls,zl0,zl1]);exact st2_110 g1 k1 N0b N1b W' hS'  V1 (N0.keep hb) (N1.keep hb) D01
  refine AllReadyH.cons cwOpsq9 (fun K hK=>?_) ?_
  ·go_simp;have gb:=grow (here W) (.cells #[.nilFunc] 86);refine hK.out _ _ (mk _ _ hS gb) (fun hS'=>?_);(try simp only [Act.put,zls,zl0,zl1]);exact st1_111 N0b N1b W.heap.size _ hS'  (N0.keep gb) (N1.keep gb) (Nwz.new hS.1 hS.2.2.2.2.2.2.2.2.2.2.2.2.2.2.2 [.nilFunc] 86) D01 (Nat.ne_of_lt N0.o.t.lt) (Nat.ne_of_lt N1.o.t.lt)
  exact AllReadyH.nil
 have st1_001:∀ (N2b:Nat) (W:World),zS W→(Nwz w (b5) W N2b [.nilFunc])→wpAnyH Tryz.prog .any cwOps Q zS 7 #[true,true,true,true,false,true,false,false,false,true,false,false,false] (zT t15 t16 (.pointer (some ⟨N2b,0,none⟩)) (.agg #[.int .i64 lo,.int .i64 hi]) t61 t63) W:=by
  subst zSe zTe
  dsimp only
  intro N2b W hS N2;refine wpAnyH_ready (rs:=[4,7,8]) (by kernel_rfl) (by simp) ?_;refine AllReadyH.cons cwOpsq4 (fun K hK=>?_) ?_
  ·go_simp;go_at_call 68;refine ((H1.out _ hS.1 (fun b=>X b∨b=N2b) (by rintro b (c | rfl);exact ⟨(hX b c).1,zll (hX b c).2 hS.1.size⟩;exact ⟨Nat.le_trans hlo N2.le,N2.o.t.lt⟩)).mono ?_);rintro e W' ⟨⟨v,rfl,V1⟩,hb⟩;obtain ⟨g1,k1,rfl⟩:=V1.shape;refine hK.out _ _ (mk _ W' hS hb) (fun hS'=>?_);(try simp only [Act.put,zls,zl0,zl1]);exact st2_001 g1 k1 N2b W' hS'  V1 (N2.keep hb)
  refine AllReadyH.cons cwOpsq7 (fun K hK=>?_) ?_
  ·go_simp;have gb:=grow (here W) (.cells #[.int .i64 0,.int .i64 0] 40);refine hK.out _ _ (mk _ _ hS gb) (fun hS'=>?_);(try simp only [Act.put,zls,zl0,zl1]);exact st1_101 W.heap.size N2b _ hS'  (Nwz.new hS.1 hS.2.2.2.2.2.2.2.2.2.2.2.2.2.2.2 [.int .i64 0,.int .i64 0] 40) (N2.keep gb) (Nat.ne_of_gt N2.o.t.lt)
  refine AllReadyH.cons cwOpsq8 (fun K hK=>?_) ?_
  ·go_simp;have gb:=grow (here W) (.cells #[.nilFunc] 86);refine hK.out _ _ (mk _ _ hS gb) (fun hS'=>?_);(try simp only [Act.put,zls,zl0,zl1]);exact st1_011 W.heap.size N2b _ hS'  (Nwz.new hS.1 hS.2.2.2.2.2.2.2.2.2.2.2.2.2.2.2 [.nilFunc] 86) (N2.keep gb) (Nat.ne_of_gt N2.o.t.lt)
  exact AllReadyH.nil
 have st1_010:∀ (N1b:Nat) (W:World),zS W→(Nwz w (b5) W N1b [.nilFunc])→wpAnyH Tryz.prog .any cwOps Q zS 7 #[true,true,true,true,false,true,false,false,true,false,false,false,false] (zT t15 (.pointer (some ⟨N1b,0,none⟩)) t17 (.agg #[.int .i64 lo,.int .i64 hi]) t61 t63) W:=by
  subst zSe zTe
  dsimp only
  intro N1b W hS N1;refine wpAnyH_ready (rs:=[4,7,9]) (by kernel_rfl) (by simp) ?_;refine AllReadyH.cons cwOpsq4 (fun K hK=>?_) ?_
  ·go_simp;go_at_call 68;refine ((H1.out _ hS.1 (fun b=>X b∨b=N1b) (by rintro b (c | rfl);exact ⟨(hX b c).1,zll (hX b c).2 hS.1.size⟩;exact ⟨Nat.le_trans hlo N1.le,N1.o.t.lt⟩)).mono ?_);rintro e W' ⟨⟨v,rfl,V1⟩,hb⟩;obtain ⟨g1,k1,rfl⟩:=V1.shape;refine hK.out _ _ (mk _ W' hS hb) (fun hS'=>?_);(try simp only [Act.put,zls,zl0,zl1]);exact st2_010 g1 k1 N1b W' hS'  V1 (N1.keep hb)
  refine AllReadyH.cons cwOpsq7 (fun K hK=>?_) ?_
  ·go_simp;have gb:=grow (here W) (.cells #[.int .i64 0,.int .i64 0] 40);refine hK.out _ _ (mk _ _ hS gb) (fun hS'=>?_);(try simp only [Act.put,zls,zl0,zl1]);exact st1_110 W.heap.size N1b _ hS'  (Nwz.new hS.1 hS.2.2.2.2.2.2.2.2.2.2.2.2.2.2.2 [.int .i64 0,.int .i64 0] 40) (N1.keep gb) (Nat.ne_of_gt N1.o.t.lt)
  refine AllReadyH.cons cwOpsq9 (fun K hK=>?_) ?_
  ·go_simp;have gb:=grow (here W) (.cells #[.nilFunc] 86);refine hK.out _ _ (mk _ _ hS gb) (fun hS'=>?_);(try simp only [Act.put,zls,zl0,zl1]);exact st1_011 N1b W.heap.size _ hS'  (N1.keep gb) (Nwz.new hS.1 hS.2.2.2.2.2.2.2.2.2.2.2.2.2.2.2 [.nilFunc] 86) (Nat.ne_of_lt N1.o.t.lt)
  exact AllReadyH.nil
 have st1_100:∀ (N0b:Nat) (W:World),zS W→(Nwz w (b5) W N0b [.int .i64 0,.int .i64 0])→wpAnyH Tryz.prog .any cwOps Q zS 7 #[true,true,true,true,false,true,false,true,false,false,false,false,false] (zT (.pointer (some ⟨N0b,0,none⟩)) t16 t17 (.agg #[.int .i64 lo,.int .i64 hi]) t61 t63) W:=by
  subst zSe zTe
  dsimp only
  intro N0b W hS N0;refine wpAnyH_ready (rs:=[4,8,9]) (by kernel_rfl) (by simp) ?_;refine AllReadyH.cons cwOpsq4 (fun K hK=>?_) ?_
  ·go_simp;go_at_call 68;refine ((H1.out _ hS.1 (fun b=>X b∨b=N0b) (by rintro b (c | rfl);exact ⟨(hX b c).1,zll (hX b c).2 hS.1.size⟩;exact ⟨Nat.le_trans hlo N0.le,N0.o.t.lt⟩)).mono ?_);rintro e W' ⟨⟨v,rfl,V1⟩,hb⟩;obtain ⟨g1,k1,rfl⟩:=V1.shape;refine hK.out _ _ (mk _ W' hS hb) (fun hS'=>?_);(try simp only [Act.put,zls,zl0,zl1]);exact st2_100 g1 k1 N0b W' hS'  V1 (N0.keep hb)
  refine AllReadyH.cons cwOpsq8 (fun K hK=>?_) ?_
  ·go_simp;have gb:=grow (here W) (.cells #[.nilFunc] 86);refine hK.out _ _ (mk _ _ hS gb) (fun hS'=>?_);(try simp only [Act.put,zls,zl0,zl1]);exact st1_110 N0b W.heap.size _ hS'  (N0.keep gb) (Nwz.new hS.1 hS.2.2.2.2.2.2.2.2.2.2.2.2.2.2.2 [.nilFunc] 86) (Nat.ne_of_lt N0.o.t.lt)
  refine AllReadyH.cons cwOpsq9 (fun K hK=>?_) ?_
  ·go_simp;have gb:=grow (here W) (.cells #[.nilFunc] 86);refine hK.out _ _ (mk _ _ hS gb) (fun hS'=>?_);(try simp only [Act.put,zls,zl0,zl1]);exact st1_101 N0b W.heap.size _ hS'  (N0.keep gb) (Nwz.new hS.1 hS.2.2.2.2.2.2.2.2.2.2.2.2.2.2.2 [.nilFunc] 86) (Nat.ne_of_lt N0.o.t.lt)
  exact AllReadyH.nil
 have st1_000:∀  (W:World),zS W→wpAnyH Tryz.prog .any cwOps Q zS 8 #[true,true,true,true,false,true,false,false,false,false,false,false,false] (zT t15 t16 t17 (.agg #[.int .i64 lo,.int .i64 hi]) t61 t63) W:=by
  subst zSe zTe
  dsimp only
  intro  W hS;refine wpAnyH_ready (rs:=[4,7,8,9]) (by kernel_rfl) (by simp) ?_;refine AllReadyH.cons cwOpsq4 (fun K hK=>?_) ?_
  ·go_simp;go_at_call 68;refine ((H1.out _ hS.1 (fun b=>X b) (by intro b c;exact ⟨(hX b c).1,zll (hX b c).2 hS.1.size⟩)).mono ?_);rintro e W' ⟨⟨v,rfl,V1⟩,hb⟩;obtain ⟨g1,k1,rfl⟩:=V1.shape;refine hK.out _ _ (mk _ W' hS hb) (fun hS'=>?_);(try simp only [Act.put,zls,zl0,zl1]);exact st2_000 g1 k1 W' hS'  V1
  refine AllReadyH.cons cwOpsq7 (fun K hK=>?_) ?_
  ·go_simp;have gb:=grow (here W) (.cells #[.int .i64 0,.int .i64 0] 40);refine hK.out _ _ (mk _ _ hS gb) (fun hS'=>?_);(try simp only [Act.put,zls,zl0,zl1]);exact st1_100 W.heap.size _ hS'  (Nwz.new hS.1 hS.2.2.2.2.2.2.2.2.2.2.2.2.2.2.2 [.int .i64 0,.int .i64 0] 40)
  refine AllReadyH.cons cwOpsq8 (fun K hK=>?_) ?_
  ·go_simp;have gb:=grow (here W) (.cells #[.nilFunc] 86);refine hK.out _ _ (mk _ _ hS gb) (fun hS'=>?_);(try simp only [Act.put,zls,zl0,zl1]);exact st1_010 W.heap.size _ hS'  (Nwz.new hS.1 hS.2.2.2.2.2.2.2.2.2.2.2.2.2.2.2 [.nilFunc] 86)
  refine AllReadyH.cons cwOpsq9 (fun K hK=>?_) ?_
  ·go_simp;have gb:=grow (here W) (.cells #[.nilFunc] 86);refine hK.out _ _ (mk _ _ hS gb) (fun hS'=>?_);(try simp only [Act.put,zls,zl0,zl1]);exact st1_001 W.heap.size _ hS'  (Nwz.new hS.1 hS.2.2.2.2.2.2.2.2.2.2.2.2.2.2.2 [.nilFunc] 86)
  exact AllReadyH.nil
 have st0_111:∀ (N0b:Nat) (N1b:Nat) (N2b:Nat) (W:World),zS W→(Nwz w (b5) W N0b [.int .i64 0,.int .i64 0])→(Nwz w (b5) W N1b [.nilFunc])→(Nwz w (b5) W N2b [.nilFunc])→(N0b≠N1b)→(N0b≠N2b)→(N1b≠N2b)→wpAnyH Tryz.prog .any cwOps Q zS 6 #[true,true,false,true,false,true,false,true,true,true,false,false,false] (zT (.pointer (some ⟨N0b,0,none⟩)) (.pointer (some ⟨N1b,0,none⟩)) (.pointer (some ⟨N2b,0,none⟩)) t59 t61 t63) W:=by
  subst zSe zTe
  dsimp only
  intro N0b N1b N2b W hS N0 N1 N2 D01 D02 D12;refine wpAnyH_ready (rs:=[2]) (by kernel_rfl) (by simp) ?_;refine AllReadyH.cons cwOpsq2 (fun K hK=>?_) ?_
  ·go_simp;go_at_call 144;refine ((HW.out _ hS.1).mono ?_);rintro e W' ⟨rfl,hb⟩;refine hK.out _ _ (mk _ W' hS hb) (fun hS'=>?_);(try simp only [Act.put,zls,zl0,zl1]);exact st1_111 N0b N1b N2b W' hS'  (N0.keep hb) (N1.keep hb) (N2.keep hb) D01 D02 D12
  exact AllReadyH.nil
 have st0_011:∀ (N1b:Nat) (N2b:Nat) (W:World),zS W→(Nwz w (b5) W N1b [.nilFunc])→(Nwz w (b5) W N2b [.nilFunc])→(N1b≠N2b)→wpAnyH Tryz.prog .any cwOps Q zS 7 #[true,true,false,true,false,true,false,false,true,true,false,false,false] (zT t15 (.pointer (some ⟨N1b,0,none⟩)) (.pointer (some ⟨N2b,0,none⟩)) t59 t61 t63) W:=by
  subst zSe zTe
  dsimp only
  intro N1b N2b W hS N1 N2 D12;refine wpAnyH_ready (rs:=[2,7]) (by kernel_rfl) (by simp) ?_;refine AllReadyH.cons cwOpsq2 (fun K hK=>?_) ?_
  ·go_simp;go_at_call 144;refine ((HW.out _ hS.1).mono ?_);rintro e W' ⟨rfl,hb⟩;refine hK.out _ _ (mk _ W' hS hb) (fun hS'=>?_);(try simp only [Act.put,zls,zl0,zl1]);exact st1_011 N1b N2b W' hS'  (N1.keep hb) (N2.keep hb) D12
  refine AllReadyH.cons cwOpsq7 (fun K hK=>?_) ?_
  ·go_simp;have gb:=grow (here W) (.cells #[.int .i64 0,.int .i64 0] 40);refine hK.out _ _ (mk _ _ hS gb) (fun hS'=>?_);(try simp only [Act.put,zls,zl0,zl1]);exact st0_111 W.heap.size N1b N2b _ hS'  (Nwz.new hS.1 hS.2.2.2.2.2.2.2.2.2.2.2.2.2.2.2 [.int .i64 0,.int .i64 0] 40) (N1.keep gb) (N2.keep gb) (Nat.ne_of_gt N1.o.t.lt) (Nat.ne_of_gt N2.o.t.lt) D12
  exact AllReadyH.nil
 have st0_101:∀ (N0b:Nat) (N2b:Nat) (W:World),zS W→(Nwz w (b5) W N0b [.int .i64 0,.int .i64 0])→(Nwz w (b5) W N2b [.nilFunc])→(N0b≠N2b)→wpAnyH Tryz.prog .any cwOps Q zS 7 #[true,true,false,true,false,true,false,true,false,true,false,false,false] (zT (.pointer (some ⟨N0b,0,none⟩)) t16 (.pointer (some ⟨N2b,0,none⟩)) t59 t61 t63) W:=by
  subst zSe zTe
  dsimp only
  intro N0b N2b W hS N0 N2 D02;refine wpAnyH_ready (rs:=[2,8]) (by kernel_rfl) (by simp) ?_;refine AllReadyH.cons cwOpsq2 (fun K hK=>?_) ?_
  ·go_simp;go_at_call 144;refine ((HW.out _ hS.1).mono ?_);rintro e W' ⟨rfl,hb⟩;refine hK.out _ _ (mk _ W' hS hb) (fun hS'=>?_);(try simp only [Act.put,zls,zl0,zl1]);exact st1_101 N0b N2b W' hS'  (N0.keep hb) (N2.keep hb) D02
  refine AllReadyH.cons cwOpsq8 (fun K hK=>?_) ?_
  ·go_simp;have gb:=grow (here W) (.cells #[.nilFunc] 86);refine hK.out _ _ (mk _ _ hS gb) (fun hS'=>?_);(try simp only [Act.put,zls,zl0,zl1]);exact st0_111 N0b W.heap.size N2b _ hS'  (N0.keep gb) (Nwz.new hS.1 hS.2.2.2.2.2.2.2.2.2.2.2.2.2.2.2 [.nilFunc] 86) (N2.keep gb) (Nat.ne_of_lt N0.o.t.lt) D02 (Nat.ne_of_gt N2.o.t.lt)
  exact AllReadyH.nil
 have st0_110:∀ (N0b:Nat) (N1b:Nat) (W:World),zS W→(Nwz w (b5) W N0b [.int .i64 0,.int .i64 0])→(Nwz w (b5) W N1b [.nilFunc])→(N0b≠N1b)→wpAnyH Tryz.prog .any cwOps Q zS 7 #[true,true,false,true,false,true,false,true,true,false,false,false,false] (zT (.pointer (some ⟨N0b,0,none⟩)) (.pointer (some ⟨N1b,0,none⟩)) t17 t59 t61 t63) W:=by
  subst zSe zTe
  dsimp only
  intro N0b N1b W hS N0 N1 D01;refine wpAnyH_ready (rs:=[2,9]) (by kernel_rfl) (by simp) ?_;refine AllReadyH.cons cwOpsq2 (fun K hK=>?_) ?_
  ·go_simp;go_at_call 144;refine ((HW.out _ hS.1).mono ?_);rintro e W' ⟨rfl,hb⟩;refine hK.out _ _ (mk _ W' hS hb) (fun hS'=>?_);(try simp only [Act.put,zls,zl0,zl1]);exact st1_110 N0b N1b W' hS'  (N0.keep hb) (N1.keep hb) D01
  refine AllReadyH.cons cwOpsq9 (fun K hK=>?_) ?_
  ·go_simp;have gb:=grow (here W) (.cells #[.nilFunc] 86);refine hK.out _ _ (mk _ _ hS gb) (fun hS'=>?_);(try simp only [Act.put,zls,zl0,zl1]);exact st0_111 N0b N1b W.heap.size _ hS'  (N0.keep gb) (N1.keep gb) (Nwz.new hS.1 hS.2.2.2.2.2.2.2.2.2.2.2.2.2.2.2 [.nilFunc] 86) D01 (Nat.ne_of_lt N0.o.t.lt) (Nat.ne_of_lt N1.o.t.lt)
  exact AllReadyH.nil
 have st0_001:∀ (N2b:Nat) (W:World),zS W→(Nwz w (b5) W N2b [.nilFunc])→wpAnyH Tryz.prog .any cwOps Q zS 8 #[true,true,false,true,false,true,false,false,false,true,false,false,false] (zT t15 t16 (.pointer (some ⟨N2b,0,none⟩)) t59 t61 t63) W:=by
  subst zSe zTe
  dsimp only
  intro N2b W hS N2;refine wpAnyH_ready (rs:=[2,7,8]) (by kernel_rfl) (by simp) ?_;refine AllReadyH.cons cwOpsq2 (fun K hK=>?_) ?_
  ·go_simp;go_at_call 144;refine ((HW.out _ hS.1).mono ?_);rintro e W' ⟨rfl,hb⟩;refine hK.out _ _ (mk _ W' hS hb) (fun hS'=>?_);(try simp only [Act.put,zls,zl0,zl1]);exact st1_001 N2b W' hS'  (N2.keep hb)
  refine AllReadyH.cons cwOpsq7 (fun K hK=>?_) ?_
  ·go_simp;have gb:=grow (here W) (.cells #[.int .i64 0,.int .i64 0] 40);refine hK.out _ _ (mk _ _ hS gb) (fun hS'=>?_);(try simp only [Act.put,zls,zl0,zl1]);exact st0_101 W.heap.size N2b _ hS'  (Nwz.new hS.1 hS.2.2.2.2.2.2.2.2.2.2.2.2.2.2.2 [.int .i64 0,.int .i64 0] 40) (N2.keep gb) (Nat.ne_of_gt N2.o.t.lt)
  refine AllReadyH.cons cwOpsq8 (fun K hK=>?_) ?_
  ·go_simp;have gb:=grow (here W) (.cells #[.nilFunc] 86);refine hK.out _ _ (mk _ _ hS gb) (fun hS'=>?_);(try simp only [Act.put,zls,zl0,zl1]);exact st0_011 W.heap.size N2b _ hS'  (Nwz.new hS.1 hS.2.2.2.2.2.2.2.2.2.2.2.2.2.2.2 [.nilFunc] 86) (N2.keep gb) (Nat.ne_of_gt N2.o.t.lt)
  exact AllReadyH.nil
 have st0_010:∀ (N1b:Nat) (W:World),zS W→(Nwz w (b5) W N1b [.nilFunc])→wpAnyH Tryz.prog .any cwOps Q zS 8 #[true,true,false,true,false,true,false,false,true,false,false,false,false] (zT t15 (.pointer (some ⟨N1b,0,none⟩)) t17 t59 t61 t63) W:=by
  subst zSe zTe
  dsimp only
  intro N1b W hS N1;refine wpAnyH_ready (rs:=[2,7,9]) (by kernel_rfl) (by simp) ?_;refine AllReadyH.cons cwOpsq2 (fun K hK=>?_) ?_
  ·go_simp;go_at_call 144;refine ((HW.out _ hS.1).mono ?_);rintro e W' ⟨rfl,hb⟩;refine hK.out _ _ (mk _ W' hS hb) (fun hS'=>?_);(try simp only [Act.put,zls,zl0,zl1]);exact st1_010 N1b W' hS'  (N1.keep hb)
  refine AllReadyH.cons cwOpsq7 (fun K hK=>?_) ?_
  ·go_simp;have gb:=grow (here W) (.cells #[.int .i64 0,.int .i64 0] 40);refine hK.out _ _ (mk _ _ hS gb) (fun hS'=>?_);(try simp only [Act.put,zls,zl0,zl1]);exact st0_110 W.heap.size N1b _ hS'  (Nwz.new hS.1 hS.2.2.2.2.2.2.2.2.2.2.2.2.2.2.2 [.int .i64 0,.int .i64 0] 40) (N1.keep gb) (Nat.ne_of_gt N1.o.t.lt)
  refine AllReadyH.cons cwOpsq9 (fun K hK=>?_) ?_
  ·go_simp;have gb:=grow (here W) (.cells #[.nilFunc] 86);refine hK.out _ _ (mk _ _ hS gb) (fun hS'=>?_);(try simp only [Act.put,zls,zl0,zl1]);exact st0_011 N1b W.heap.size _ hS'  (N1.keep gb) (Nwz.new hS.1 hS.2.2.2.2.2.2.2.2.2.2.2.2.2.2.2 [.nilFunc] 86) (Nat.ne_of_lt N1.o.t.lt)
  exact AllReadyH.nil
 have st0_100:∀ (N0b:Nat) (W:World),zS W→(Nwz w (b5) W N0b [.int .i64 0,.int .i64 0])→wpAnyH Tryz.prog .any cwOps Q zS 8 #[true,true,false,true,false,true,false,true,false,false,false,false,false] (zT (.pointer (some ⟨N0b,0,none⟩)) t16 t17 t59 t61 t63) W:=by
  subst zSe zTe
  dsimp only
  intro N0b W hS N0;refine wpAnyH_ready (rs:=[2,8,9]) (by kernel_rfl) (by simp) ?_;refine AllReadyH.cons cwOpsq2 (fun K hK=>?_) ?_
  ·go_simp;go_at_call 144;refine ((HW.out _ hS.1).mono ?_);rintro e W' ⟨rfl,hb⟩;refine hK.out _ _ (mk _ W' hS hb) (fun hS'=>?_);(try simp only [Act.put,zls,zl0,zl1]);exact st1_100 N0b W' hS'  (N0.keep hb)
  refine AllReadyH.cons cwOpsq8 (fun K hK=>?_) ?_
  ·go_simp;have gb:=grow (here W) (.cells #[.nilFunc] 86);refine hK.out _ _ (mk _ _ hS gb) (fun hS'=>?_);(try simp only [Act.put,zls,zl0,zl1]);exact st0_110 N0b W.heap.size _ hS'  (N0.keep gb) (Nwz.new hS.1 hS.2.2.2.2.2.2.2.2.2.2.2.2.2.2.2 [.nilFunc] 86) (Nat.ne_of_lt N0.o.t.lt)
  refine AllReadyH.cons cwOpsq9 (fun K hK=>?_) ?_
  ·go_simp;have gb:=grow (here W) (.cells #[.nilFunc] 86);refine hK.out _ _ (mk _ _ hS gb) (fun hS'=>?_);(try simp only [Act.put,zls,zl0,zl1]);exact st0_101 N0b W.heap.size _ hS'  (N0.keep gb) (Nwz.new hS.1 hS.2.2.2.2.2.2.2.2.2.2.2.2.2.2.2 [.nilFunc] 86) (Nat.ne_of_lt N0.o.t.lt)
  exact AllReadyH.nil
 have st0_000:∀  (W:World),zS W→wpAnyH Tryz.prog .any cwOps Q zS 9 #[true,true,false,true,false,true,false,false,false,false,false,false,false] (zT t15 t16 t17 t59 t61 t63) W:=by
  subst zSe zTe
  dsimp only
  intro  W hS;refine wpAnyH_ready (rs:=[2,7,8,9]) (by kernel_rfl) (by simp) ?_;refine AllReadyH.cons cwOpsq2 (fun K hK=>?_) ?_
  ·go_simp;go_at_call 144;refine ((HW.out _ hS.1).mono ?_);rintro e W' ⟨rfl,hb⟩;refine hK.out _ _ (mk _ W' hS hb) (fun hS'=>?_);(try simp only [Act.put,zls,zl0,zl1]);exact st1_000  W' hS'
  refine AllReadyH.cons cwOpsq7 (fun K hK=>?_) ?_
  ·go_simp;have gb:=grow (here W) (.cells #[.int .i64 0,.int .i64 0] 40);refine hK.out _ _ (mk _ _ hS gb) (fun hS'=>?_);(try simp only [Act.put,zls,zl0,zl1]);exact st0_100 W.heap.size _ hS'  (Nwz.new hS.1 hS.2.2.2.2.2.2.2.2.2.2.2.2.2.2.2 [.int .i64 0,.int .i64 0] 40)
  refine AllReadyH.cons cwOpsq8 (fun K hK=>?_) ?_
  ·go_simp;have gb:=grow (here W) (.cells #[.nilFunc] 86);refine hK.out _ _ (mk _ _ hS gb) (fun hS'=>?_);(try simp only [Act.put,zls,zl0,zl1]);exact st0_010 W.heap.size _ hS'  (Nwz.new hS.1 hS.2.2.2.2.2.2.2.2.2.2.2.2.2.2.2 [.nilFunc] 86)
  refine AllReadyH.cons cwOpsq9 (fun K hK=>?_) ?_
  ·go_simp;have gb:=grow (here W) (.cells #[.nilFunc] 86);refine hK.out _ _ (mk _ _ hS gb) (fun hS'=>?_);(try simp only [Act.put,zls,zl0,zl1]);exact st0_001 W.heap.size _ hS'  (Nwz.new hS.1 hS.2.2.2.2.2.2.2.2.2.2.2.2.2.2.2 [.nilFunc] 86)
  exact AllReadyH.nil
 subst zSe zTe;refine wp_region_held_drew (S:=(fun W'=>Below w.heap.size w W'∧W'.cell? ⟨b4,0,none⟩=some (.int .i64 P)∧W'.cell? ⟨b4,1,none⟩=some (va)∧W'.cell? ⟨b4,2,none⟩=some (.int .i64 Q0)∧W'.cell? ⟨b4,3,none⟩=some (vb)∧W'.cell? ⟨b4,4,none⟩=some (.int .i64 a)∧W'.cell? ⟨b4,5,none⟩=some (.int .i64 b)∧W'.cell? ⟨b4,6,none⟩=some (vl)∧W'.cell? ⟨b5,0,none⟩=some (.int .i64 P2)∧W'.cell? ⟨b5,1,none⟩=some (va2)∧W'.cell? ⟨b5,2,none⟩=some (.int .i64 Q2)∧W'.cell? ⟨b5,3,none⟩=some (vb2)∧W'.cell? ⟨b5,4,none⟩=some (.int .i64 a2)∧W'.cell? ⟨b5,5,none⟩=some (.int .i64 b2)∧W'.cell? ⟨b5,6,none⟩=some (vl2)∧b5<W'.heap.size)) (by kernel_rfl) (mk _ _ hS0 (here w0).drew) (fun hS=>?_);refine wpAnyH_take (i:=0) (v:=.agg #[.int .i64 P,va,.int .i64 Q0,vb,.int .i64 a,.int .i64 b,vl]) cwOpsq0 (by kernel_rfl) (by kernel_rfl) (by kernel_rfl) (fun _ _ _ h=>hQ _ _ _ _ _ h) (Or.inl ⟨by rfl,?_⟩) hS ?_
 ·clear st0_000 st0_001 st0_010 st0_011 st0_100 st0_101 st0_110 st0_111 st1_000 st1_001 st1_010 st1_011 st1_100 st1_101 st1_110 st1_111 st2_000 st2_001 st2_010 st2_011 st2_100 st2_101 st2_110 st2_111 st3_000 st3_001 st3_010 st3_011 st3_100 st3_101 st3_110 st3_111 mk hQ fin hS hS0;intro w hSw;(try dsimp only at hSw);go_simp
 (try simp only [Act.put,zls,zl0,zl1]);refine wpAnyH_take (i:=1) (v:=.agg #[.int .i64 P2,va2,.int .i64 Q2,vb2,.int .i64 a2,.int .i64 b2,vl2]) cwOpsq1 (by kernel_rfl) (by kernel_rfl) (by kernel_rfl) (fun _ _ _ h=>hQ _ _ _ _ _ h) (Or.inl ⟨by rfl,?_⟩) hS ?_
 ·clear st0_000 st0_001 st0_010 st0_011 st0_100 st0_101 st0_110 st0_111 st1_000 st1_001 st1_010 st1_011 st1_100 st1_101 st1_110 st1_111 st2_000 st2_001 st2_010 st2_011 st2_100 st2_101 st2_110 st2_111 st3_000 st3_001 st3_010 st3_011 st3_100 st3_101 st3_110 st3_111 mk hQ fin hS hS0;intro w hSw;(try dsimp only at hSw);go_simp
 (try simp only [Act.put,zls,zl0,zl1]);refine wpAnyH_take (i:=3) (v:=.agg #[.int .i64 P,va,.int .i64 Q0,vb,.int .i64 a,.int .i64 b,vl]) cwOpsq3 (by kernel_rfl) (by kernel_rfl) (by kernel_rfl) (fun _ _ _ h=>hQ _ _ _ _ _ h) (Or.inl ⟨by rfl,?_⟩) hS ?_
 ·clear st0_000 st0_001 st0_010 st0_011 st0_100 st0_101 st0_110 st0_111 st1_000 st1_001 st1_010 st1_011 st1_100 st1_101 st1_110 st1_111 st2_000 st2_001 st2_010 st2_011 st2_100 st2_101 st2_110 st2_111 st3_000 st3_001 st3_010 st3_011 st3_100 st3_101 st3_110 st3_111 mk hQ fin hS hS0;intro w hSw;(try dsimp only at hSw);go_simp
 (try simp only [Act.put,zls,zl0,zl1]);refine wpAnyH_take (i:=5) (v:=.agg #[.int .i64 P2,va2,.int .i64 Q2,vb2,.int .i64 a2,.int .i64 b2,vl2]) cwOpsq5 (by kernel_rfl) (by kernel_rfl) (by kernel_rfl) (fun _ _ _ h=>hQ _ _ _ _ _ h) (Or.inl ⟨by rfl,?_⟩) hS ?_
 ·clear st0_000 st0_001 st0_010 st0_011 st0_100 st0_101 st0_110 st0_111 st1_000 st1_001 st1_010 st1_011 st1_100 st1_101 st1_110 st1_111 st2_000 st2_001 st2_010 st2_011 st2_100 st2_101 st2_110 st2_111 st3_000 st3_001 st3_010 st3_011 st3_100 st3_101 st3_110 st3_111 mk hQ fin hS hS0;intro w hSw;(try dsimp only at hSw);go_simp
 (try simp only [Act.put,zls,zl0,zl1]);exact st0_000 _ hS
end Go.Proofs.YtmamlgaogpkagaaGreat
