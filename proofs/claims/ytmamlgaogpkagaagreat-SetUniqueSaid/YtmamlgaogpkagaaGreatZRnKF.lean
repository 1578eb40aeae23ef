/- RnKF PeKA RnKG. -/
import Derived.Test.YtmamlgaogpkagaaGreatZLPlain
import Derived.Test.YtmamlgaogpkagaaGreatZLGen
import Derived.Test.YtmamlgaogpkagaaGreatZLSl
import Derived.Test.YtmamlgaogpkagaaGreatZLOwn
import Derived.Test.YtmamlgaogpkagaaGreatZRnP
import Derived.Test.YtmamlgaogpkagaaGreatZPeA
import Derived.Test.YtmamlgaogpkagaaGreatZRnT
import Derived.Test.YtmamlgaogpkagaaGreatZRnV
import Derived.Test.YtmamlgaogpkagaaGreatZPeT
import Derived.Test.YtmamlgaogpkagaaGreatZRnQ
import Derived.Test.YtmamlgaogpkagaaGreatShelfSort
import Derived.Deep.LoopGhost
import Derived.Shelf.RegionOpenPlain
namespace Go.Proofs.YtmamlgaogpkagaaGreat
open Go.RowKit
set_option linter.unusedVariables false
set_option linter.unusedSimpArgs false
theorem ricmpnan (a:Int) (w:World) :
  Calls Tryz.prog 163 #[.int .i64 a] w fun e w'=>e=.returned (.bool false)∧w=w':=by
 have e:(a != a)=false:=by simp
 go_enter Tryz.func163,Tryz.ntmps163
 go_wp2
 go_ret
 exact ⟨rfl,rfl⟩
def cmS (a b:Int):Int:=if a<b then -1 else if b<a then 1 else 0
theorem cmS_neg (a b:Int):cmS a b<0↔a<b:=by unfold cmS;split <;> (try split) <;> omega
theorem ricmp (a b:Int) (w:World) :
  Calls Tryz.prog 129 #[.int .i64 a,.int .i64 b] w fun e w'=>e=.returned (.int .i64 (cmS a b))∧w=w':=by
 have HA:=zh (fun w=>ricmpnan a w);have HB:=zh (fun w=>ricmpnan b w);have go:∀ p q:Bool,decide (a<b)=p→decide (b<a)=q→cmS a b=(if p then -1 else if q then 1 else 0):=by
  rintro p q rfl rfl
  unfold cmS
  simp
 cases p:decide (a<b) <;> cases q:decide (b<a)
 all_goals
  rw [go _ _ p q];clear go
  go_enter Tryz.func129,Tryz.ntmps129
  go_wp2_with (first | (with_reducible refine (HA.out _).mono ?_) | refine (HB.out _).mono ?_);rintro e w1 ⟨rfl,rfl⟩
  go_wp2_with (first | (with_reducible refine (HB.out _).mono ?_) | refine (HA.out _).mono ?_);rintro e w2 ⟨rfl,rfl⟩
  go_wp2
  go_ret
  exact ⟨rfl,rfl⟩
set_option maxRecDepth 100000 in
set_option maxHeartbeats 1000000 in
theorem ruclosure (x y:Sp) (w:World) :
  Calls Tryz.prog 128 #[.agg #[.int .i64 x.1,.int .i64 x.2],.agg #[.int .i64 y.1,.int .i64 y.2]] w fun e w'=>e=.returned (.int .i64 (cmS x.1 y.1))∧∃ q os',w'=Go.Sort.grow (w.drewN q) os':=by
 have HC:=zh (fun W=>ricmp x.1 y.1 W);generalize cmS x.1 y.1=r at *
 go_enter Tryz.func128,Tryz.ntmps128
 go_wp2_with (go_at_call 129;refine (HC.out _).mono ?_;rintro e w' ⟨rfl,rfl⟩)
 go_ret
 exact ⟨rfl,0,_,by rw [Go.Sort.alloc_eq_grow,Go.Sort.alloc_eq_grow,Go.Sort.grow_grow];rfl⟩
theorem swoS:Go.Sort.SWO (ltOf fun x y:Sp=>cmS x.1 y.1) where
 irrefl x:=by unfold ltOf;rw [decide_eq_false_iff_not,cmS_neg];omega
 trans x y z h1 h2:=by unfold ltOf at *;rw [decide_eq_true_iff,cmS_neg] at *;omega
 ntrans x y z h1 h2:=by unfold ltOf at *;rw [decide_eq_false_iff_not,cmS_neg] at *;omega
set_option maxRecDepth 100000 in
set_option maxHeartbeats 1000000 in
theorem runone1 (p:Option Addr) (c:Nat) (fv:Value) (w:World) :
  Calls Tryz.prog 183 #[.slice p 0 c,.int .i64 0,.int .i64 0,fv] w fun e w'=>e=.returned (.tuple #[])∧w=w':=by
 go_enter Tryz.func183,Tryz.ntmps183
 go_wp2
 refine wp_loop_rounds 1 ?_;rw [rounds_succ];go_wp2
 go_end0
 exact ⟨rfl,rfl⟩
theorem runone2 (p:Option Addr) (c:Nat) (l:Int) (fv:Value) (w:World) :
  Calls Tryz.prog 161 #[.slice p 0 c,.int .i64 0,.int .i64 0,.int .i64 l,fv] w fun e w'=>e=.returned (.tuple #[])∧w=w':=by
 have HI:=zh (fun W=>runone1 p c fv W)
 go_enter Tryz.func161,Tryz.ntmps161
 go_wp2
 refine wp_loop_rounds 1 ?_;rw [rounds_succ];go_wp2_with (go_at_call 183;refine (HI.out _).mono ?_;rintro e w' ⟨rfl,rfl⟩)
 (try simp only [Exit.inBlock,Exit.then])
 refine bodyPost_ret (results_none rfl _ _ _) rfl ?_;exact ⟨rfl,rfl⟩
theorem runone (p:Option Addr) (c:Nat) (fv:Value) (w:World) :
  Calls Tryz.prog 127 #[.slice p 0 c,fv] w fun e w'=>e=.returned (.tuple #[])∧w=w':=by
 have HP:=zh (fun l W=>runone2 p c l fv W);have HL:Hid (∀ W,Calls Tryz.prog 162 #[.int .u64 0] W fun e w'=>e=.returned (.int .i64 (Lib.bitLen 0:Nat))∧w'=W):=fun W=>by
  have h:=Any.bits_Len (SlLaysF0.n15.bits (P:=Tryz.prog) (ρ:=Tryz.sortSp_ren) { Tryz.sortSp with }) 0 W (by omega) (by omega);exact h
 go_enter Tryz.func127,Tryz.ntmps127
 go_wp2_with (first | (go_at_call 162;refine (HL.out _).mono ?_;rintro e w' ⟨rfl,rfl⟩) | (go_at_call 161;refine (HP.out _ _).mono ?_;rintro e w' ⟨rfl,rfl⟩))
 go_end0
 exact ⟨rfl,rfl⟩
set_option maxRecDepth 100000 in
set_option maxHeartbeats 1000000 in
theorem rusort (L:List Sp) (n:Nat) (hL:L.length=n) (hn:n≤1000000) (v:Value) (w:World) {base:Nat} (h:w.ownsRow base 40 2 v n (pairs L)) (W0:World) (hb:Below W0.heap.size W0 w) (hbase:W0.heap.size≤base) :
  Calls Tryz.prog 127 #[v,.func (.func 128) #[] #[]] w fun e w'=>e=.returned (.tuple #[])∧∃ M:List Sp,PairS W0.heap.size w' v M∧M.length=n∧(∀ p,p∈M↔p∈L)∧(∀ i j,i<j→j<M.length→(M.getD i (0,0)).1≤(M.getD j (0,0)).1)∧Below W0.heap.size W0 w':=by
 rcases Nat.eq_zero_or_pos n with n0 | n0
 ·subst n0;obtain rfl:L=[]:=List.eq_nil_of_length_eq_zero hL;obtain ⟨ao,c,rfl⟩:=(Sl.owns h).shape;have q:=runone ao c (.func (.func 128) #[] #[]) w;refine q.mono ?_;rintro e w' ⟨rfl,rfl⟩;exact ⟨rfl,[],.inl ⟨rfl,_,_,rfl⟩,rfl,fun p=>Iff.rfl,fun i j hij hj=>absurd hj (Nat.not_lt_zero _),hb⟩
 ·obtain ⟨g,cp,rfl⟩:∃ g cp,v=.slice (some ⟨g,0,none⟩) n cp:=by
   rcases h.2 with ⟨-,h0⟩ | ⟨g,cp,cur,e,-⟩
   ·omega
   ·exact ⟨g,cp,e⟩
  have gl:=h.lt g rfl;have hH:=holds_own hL h;have sz:L.toArray.size=n:=by simpa using hL
  have eg:∀ args w,(callFunc 128 args).run Tryz.prog w=.ok (.enter 128 args) w:=enters_of Tryz.func128 (by kernel_rfl) rfl;have cl:CmpLays Tryz.prog 128 #[] encS 2 (fun x y=>cmS x.1 y.1) g 0 L.toArray.size w:=fun _ _ _ _ x y=>ruclosure x y _;have q:=AnyQ.slices_SortFunc Tryz.sortSp 2 Tryz.isAgg40 Tryz.sizeOf40 encS (fun _=>rfl) (fun x u hu=>by simp [encS] at hu;rcases hu with rfl | rfl <;> rfl) (fun x y=>cmS x.1 y.1) swoS 128 #[] g 0 cp L.toArray w eg cl hH gl.2 (by omega)
  change Calls Tryz.prog 127 _ _ _ at q
  rw [sz] at q;refine q.mono ?_;rintro e w' ⟨rfl,d',m,os,hp,hs,rfl⟩;rw [← sz] at hp hs;obtain ⟨s1,s2,s3⟩:=sort_list hp (fun i j a b c=>by
   have:=hs i j a b c
   unfold ltOf at this
   rw [decide_eq_false_iff_not,cmS_neg] at this;exact this)
  have hl:d'.toList.length=n:=by rw [Array.length_toList,s1,sz]
  have hB:=below_sort (n:=m) (d:=d') (os:=os) hb (show W0.heap.size≤g by omega) (Nat.le_refl _);refine ⟨rfl,d'.toList,?_,hl,fun p=>by rw [s2 p],s3,hB⟩;have hH2:=holdsK_sortWorldK_c encS 2 w g 0 L.toArray d' m os hH gl.2 s1
  show Sl _ _ _ _ _
  rw [hl];refine .inr ⟨g,0,cp,rfl,by omega,?_⟩;refine lies_held ?_ hH2;have:=size_sortWorldK_c encS 2 w g 0 m d' os;omega
set_option maxRecDepth 100000 in
set_option maxHeartbeats 1000000 in
theorem ruclone (v:Value) (L:List Sp) (n:Nat) (hL:L.length=n) (hn:n≤1000000) (w:World) {base:Nat} (h:PairS base w v L) :
    Calls Tryz.prog 52 #[v] w fun e w'=>∃ v',e=.returned v'∧w'.ownsRow w.heap.size 40 2 v' n (pairs L)∧Below w.heap.size w w':=by
  obtain ⟨i0,hi,hz0,hz1,hz2⟩:=info_parts infoS;have q22:∀ (w:World) (a:Option Addr) (n c n' c':Nat),(binOp .eql 22 (.slice a n c) (.slice none n' c')).run Tryz.prog w=.ok (.bool a.isNone) w:=fun w a n c n' c'=>Lib.run_eql_slice_nil w _ _ a n c n' c' Tryz.underlying22;obtain ⟨ao,c,rfl⟩:=prs_shape h;rw [hL];have cells:∀ a,ao=some a→∀ j u,(pairs L)[j]?=some u→w.cell? (a.add j)=some u:=by
    intro a ha j u hu
    rcases h with ⟨h0,-⟩ | ⟨b,off,c',e,-,l⟩
    · rw [List.eq_nil_of_length_eq_zero h0] at hu;simp [pairs] at hu
    · injection e with e1 e2 e3
      rw [ha] at e1
      injection e1 with e1
      subst e1;rw [Addr.add_lit];exact l.cell j u hu
  have nil0:ao=none→n=0:=by
    rintro rfl
    rcases h with ⟨h0,-⟩ | ⟨b,off,c',e,-⟩
    · omega
    · injection e with e1;cases e1
  have pl:(pairs L).length=n * 2:=by rw [pairs_length,hL]
  have P1:Hid (∀ u∈pairs L,u.oneCell'=true):=fun u hu=>by
    clear cells nil0 pl h hL
    induction L with
    | nil=>cases hu
    | cons p l ih =>
      rcases List.mem_cons.1 hu with rfl | hu
      · rfl
      · rcases List.mem_cons.1 hu with rfl | hu
        · rfl
        · exact ih hu
  cases ao with
  | none =>
    obtain rfl:=nil0 rfl;obtain rfl:L=[]:=List.eq_nil_of_length_eq_zero hL;clear cells nil0 h pl P1
    go_enter Tryz.func52,Tryz.ntmps52
    go_wp2
    go_ret
    exact ⟨_,rfl,World.ownsRow_nil _ _ _ _,here w⟩
  | some a =>
    replace cells:=zh (cells a rfl);clear nil0 h
    go_enter Tryz.func52,Tryz.ntmps52
    go_wp2_with (at_builtin;refine wpList_append_own _ rfl _ _ 22 rfl w.heap.size 40 i0 (.agg #[.int .i64 0,.int .i64 0]) 2 16 Tryz.underlying22 hi hz0 hz1 hz2 rfl (by decide) _ _ _ rfl (World.ownsRow_made w #[] 0 (Nat.le_refl _) (Nat.zero_le _) (by simp)) a n c (pairs L) rfl ?c0 ?c1 ?c2 ?c3 ?c4 ?c5 ?_)
    case c0=>exact pl
    case c1=>intro j u hj;exact Lib.cell?_alloc_some _ (cells.out j u hj)
    case c2=>exact P1.out
    case c3=>unfold maxLen;omega
    case c4=>omega
    case c5=>simp
    intro v' w1 hown hgrow _;have A1:Hid (Below w.heap.size w w1):=((Below.refl _ w).alloc (Nat.le_refl _) _).grown hgrow (by simp) (by intro k hk;simp [Value.ownBlock] at hk;omega);have O1:Hid (w1.ownsRow w.heap.size 40 2 v' n (pairs L)):=by show World.ownsRow _ _ _ _ _ _ _;simpa using hown
    clear hown hgrow;go_wp2
    go_ret
    exact ⟨_,rfl,O1.out,A1.out⟩
structure OwnS (B:Nat) (w:World) (v:Value) (M:List Sp):Prop where
 sh:∃ o c,v=.slice o M.length c∧M.length≤c∧(0<M.length→∃ b off,o=some ⟨b,off,none⟩∧B≤b∧b<w.heap.size∧(∀ j,j<M.length→w.cell? ⟨b,off+j * 2,none⟩=some (.int .i64 (M.getD j (0,0)).1)∧w.cell? ⟨b,off+j * 2+1,none⟩=some (.int .i64 (M.getD j (0,0)).2))∧∀ j,w.frozen? ⟨b,j,none⟩=false)
theorem OwnS.keep {B:Nat} {w w':World} {v:Value} {M:List Sp} (h:OwnS B w v M) (hb:Below w.heap.size w w'):OwnS B w' v M:=by
 obtain ⟨o,c,e,l,k⟩:=h.sh;refine ⟨o,c,e,l,fun p=>?_⟩;obtain ⟨b,off,e1,e2,e3,e4,e5⟩:=k p;refine ⟨b,off,e1,e2,by have:=hb.size;omega,fun j hj=>?_,fun j=>?_⟩
 ·rw [hb.cell (p:=⟨b,off+j * 2,none⟩) e3,hb.cell (p:=⟨b,off+j * 2+1,none⟩) e3];exact e4 j hj
 ·rw [hb.frozen (p:=⟨b,j,none⟩) e3];exact e5 j
theorem OwnS.at {B:Nat} {w:World} {o:Option Addr} {m c:Nat} {M:List Sp} (h:OwnS B w (.slice o m c) M) (p:0<m):∃ b off,o=some ⟨b,off,none⟩∧m≤c∧B≤b∧b<w.heap.size∧(∀ j,j<M.length→w.cell? ⟨b,off+j * 2,none⟩=some (.int .i64 (M.getD j (0,0)).1)∧w.cell? ⟨b,off+j * 2+1,none⟩=some (.int .i64 (M.getD j (0,0)).2))∧∀ j,w.frozen? ⟨b,j,none⟩=false:=by
 obtain ⟨o',c',e,l,k⟩:=h.sh
 injection e with e1 e2 e3
 subst e1;subst e2;subst e3;obtain ⟨b,off,e,k⟩:=k p;exact ⟨b,off,e,l,k⟩
theorem lies_pairs {w:World} {b off:Nat} {L:List Sp} (l:b<w.heap.size) (h:∀ j,j<L.length→w.cell? ⟨b,off+j * 2,none⟩=some (.int .i64 (L.getD j (0,0)).1)∧w.cell? ⟨b,off+j * 2+1,none⟩=some (.int .i64 (L.getD j (0,0)).2)):Lies w b off (pairs L):=lies_of l h
theorem OwnS.prs {B:Nat} {w:World} {v:Value} {M:List Sp} (h:OwnS B w v M):PairS B w v M:=by
 obtain ⟨o,c,rfl,l,k⟩:=h.sh
 rcases Nat.eq_zero_or_pos M.length with z | z
 ·exact .inl ⟨z,o,c,by rw [z]⟩
 ·obtain ⟨b,off,rfl,e2,e3,e4,e5⟩:=k z;exact .inr ⟨b,off,c,rfl,e2,lies_pairs e3 e4⟩
theorem OwnS.nil (B:Nat) (w:World):OwnS B w (.slice none 0 0) []:=⟨none,0,rfl,Nat.le_refl _,fun h=>absurd h (Nat.not_lt_zero _)⟩
theorem owns_of {w:World} {B:Nat} {v:Value} {n:Nat} {L:List Sp} (hl:L.length=n) (h:w.ownsRow B 40 2 v n (pairs L)):OwnS B w v L:=by
 subst hl
 rcases h.2 with ⟨e,h0⟩ | ⟨g,c,cur,e,hg,hh,hcap,-⟩
 ·refine ⟨none,0,?_,by omega,fun p=>by omega⟩;rw [e,h0]
 ·subst e;refine ⟨_,c,rfl,hcap,fun p=>⟨g,0,rfl,hg,(Array.getElem?_eq_some_iff.1 hh).1,fun j hj=>?_,fun j=>h.frozenAt j⟩⟩;have pl:=pairs_length L;have q:=pairs_get L j hj
  constructor
  ·rw [h.cellAt _ (by omega),Nat.zero_add,Nat.mul_comm,q.1]
  ·rw [h.cellAt _ (by omega),Nat.zero_add,Nat.mul_comm,q.2]
theorem OwnS.tail {B:Nat} {w:World} {b off c m:Nat} {p:Sp} {M:List Sp} (h:OwnS B w (.slice (some ⟨b,off,none⟩) m c) (p :: M)):OwnS B w (.slice (some ⟨b,off+2,none⟩) M.length (c - 1)) M:=by
 obtain ⟨o,c',e,l,k⟩:=h.sh
 injection e with e1 e2 e3
 subst e3;rw [List.length_cons] at l;refine ⟨_,_,rfl,by omega,fun q=>⟨b,off+2,rfl,?_⟩⟩;obtain ⟨b',off',e1',e2',e3',e4',e5'⟩:=k (by simp);rw [← e1] at e1'
 injection e1' with e1'
 injection e1' with x1 x2
 subst x1;subst x2;refine ⟨e2',e3',fun j hj=>?_,e5'⟩;have:=e4' (j+1) (by simpa using hj);rw [show off+2+j * 2=off+(j+1) * 2 by omega];exact this
theorem OwnS.last {B:Nat} {w:World} {b off c m:Nat} {R:List Sp} {q:Sp} (h:OwnS B w (.slice (some ⟨b,off,none⟩) m c) (R++[q])) (y:Int):OwnS B (w.setCell ⟨b,off+R.length * 2+1,none⟩ (.int .i64 y)) (.slice (some ⟨b,off,none⟩) m c) (R++[(q.1,y)]):=by
 obtain ⟨o,c',e,l,k⟩:=h.sh;have ln:(R++[q]).length=R.length+1:=by simp
 have ln':(R++[(q.1,y)]).length=R.length+1:=by simp
 rw [ln] at e l k;refine ⟨o,c',by rw [ln'];exact e,by rw [ln'];exact l,fun _=>?_⟩
 injection e with e1 e2 e3
 subst e3;obtain ⟨b',off',e1',e2',e3',e4',e5'⟩:=k (by omega);rw [← e1] at e1'
 injection e1' with e1'
 injection e1' with x1 x2
 subst x1;subst x2;refine ⟨b,off,e1.symm,e2',by rw [size_set];exact e3',fun j hj=>?_,fun j=>by rw [World.frozen?_setCell];exact e5' j⟩;rw [ln'] at hj;have q4:=e4' j hj
 rcases Nat.lt_or_ge j R.length with z | z
 ·rw [app_left R _ z] at q4 ⊢;rw [zco (h:=by intro e;injection e with _ e;omega),World.cell?_setCell_other (h:=by intro e;injection e with _ e;omega)];exact q4
 ·obtain rfl:j=R.length:=by omega
  have a:=app_right R [q] 0;have a':=app_right R [(q.1,y)] 0;rw [Nat.add_zero] at a a';rw [a] at q4;rw [a'];refine ⟨?_,World.cell?_setCell_same w _ _ q4.2⟩;rw [zco (h:=by simp)];exact q4.1
theorem OwnS.take {B:Nat} {w:World} {o:Option Addr} {c m:Nat} {M:List Sp} (h:OwnS B w (.slice o m c) M) {i:Nat} (hi:i≤M.length):OwnS B w (.slice o i c) (M.take i):=by
 obtain ⟨o',c',e,l,k⟩:=h.sh
 injection e with e1 e2 e3
 subst e1;subst e3;have ln:(M.take i).length=i:=by rw [List.length_take];omega
 refine ⟨o,c,by rw [ln],by omega,fun p=>?_⟩;rw [ln] at p ⊢;obtain ⟨b,off,e1,e2,e3,e4,e5⟩:=k (by omega);refine ⟨b,off,e1,e2,e3,fun j hj=>?_,e5⟩;rw [take_getD _ hj];exact e4 j (by omega)
theorem OwnS.far {B:Nat} {w:World} {b off c m:Nat} {M:List Sp} (h:OwnS B w (.slice (some ⟨b,off,none⟩) m c) M) {p:Addr} (ne:p.block≠b) (u:Value):OwnS B (w.setCell p u) (.slice (some ⟨b,off,none⟩) m c) M:=by
 obtain ⟨o,c',e,l,k⟩:=h.sh;refine ⟨o,c',e,l,fun q=>?_⟩
 injection e with e1 e2 e3
 obtain ⟨b',off',e1',e2',e3',e4',e5'⟩:=k q;rw [← e1] at e1'
 injection e1' with e1'
 injection e1' with x1 x2
 subst x1;subst x2;have o:∀ j,p≠(⟨b,j,none⟩:Addr):=fun j e=>ne (by rw [e]);refine ⟨b,off,e1.symm,e2',by rw [size_set];exact e3',fun j hj=>?_,fun j=>by rw [World.frozen?_setCell];exact e5' j⟩;rw [zco (h:=o _),World.cell?_setCell_other (h:=o _)];exact e4' j hj
theorem Tuo.far {w:World} {b:Nat} {x y:Value} (h:Tuo w b x y) {p:Addr} (ne:p.block≠b) (u:Value):Tuo (w.setCell p u) b x y:=by
 have o:∀ j,p≠(⟨b,j,none⟩:Addr):=fun j e=>ne (by rw [e]);exact ⟨⟨by rw [zco (h:=o _)];exact h.t.c0,by rw [zco (h:=o _)];exact h.t.c1,by rw [size_set];exact h.t.lt⟩,by rw [World.frozen?_setCell];exact h.f0,by rw [World.frozen?_setCell];exact h.f1⟩
theorem Tuo.under {w w':World} {B b:Nat} {x y:Value} (h:Tuo w b x y) (hb:Below B w w') (l:b<B):Tuo w' b x y :=
 ⟨h.t.under hb l,by rw [hb.frozen (p:=⟨b,0,none⟩) l];exact h.f0,by rw [hb.frozen (p:=⟨b,1,none⟩) l];exact h.f1⟩
theorem OwnS.news {B:Nat} {w:World} {o:Option Addr} {c m:Nat} {M:List Sp} (h:OwnS B w (.slice o m c) M) (p:0<m):∃ ad,o=some ad∧ad.block<w.heap.size∧M.length=m∧m≤c∧∀ j u,(pairs M)[j]?=some u→w.cell? (ad.add j)=some u:=by
 obtain ⟨b,off,e,l,hB,lt,k,fz⟩:=h.at p;refine ⟨_,e,lt,?_,l,fun j u hj=>?_⟩
 ·obtain ⟨o',c',e',-⟩:=h.sh
  injection e' with _ e2 _
  exact e2.symm
 ·have L:=lies_pairs lt k;have:=L.cell j u hj;rw [Addr.add_lit];exact this
theorem upisper (P:Int) (w:World) :
  Calls Tryz.prog 164 #[.int .i64 P] w fun e w'=>e=.returned (.bool (decide (1≤P)&&decide (P≤12622780800)))∧w=w':=by
 cases p:decide (1≤P) <;> cases q:decide (P≤12622780800)
 all_goals
  go_enter Tryz.func164,Tryz.ntmps164
  go_wp2
  go_ret
  exact ⟨rfl,rfl⟩
set_option maxRecDepth 100000 in
set_option maxHeartbeats 4000000 in
theorem ruof (va:Value) (A:List Sp) (hA:A.length≤20000) {ba:Nat} (w:World) (a:PairS ba w va A) :
  Calls Tryz.prog 73 #[va] w fun e w'=>(∃ v',e=.returned (.tuple #[v',.int .i64 (ruOf A).2])∧PairS w.heap.size w' v' (ruOf A).1)∧Below w.heap.size w w':=by
 obtain ⟨i0,hi,hz0,hz1,hz2⟩:=info_parts infoS;obtain ⟨o,c,rfl⟩:=prs_shape a;have PL:=zh a;have A0:Hid (Below w.heap.size w w):=here w;have no:Hid (∀ j,j<A.length→spB (A.getD j (0,0))=false→ruOf A=([],1)):=fun j hj e=>by
  have:spsB A=false:=by
   rw [← Bool.not_eq_true];intro q;rw [spsB_at.1 q j hj] at e;cases e
  unfold ruOf;rw [this];rfl
 have yes:Hid ((∀ j,j<A.length→spB (A.getD j (0,0))=true)→ruOf A=ruFull (cbL 1 A [])∧∀ p,p∈A→p.1<p.2):=fun h=>by
  have q:=spsB_at.2 h;exact ⟨by unfold ruOf;rw [q];rfl,(sps_of.1 q).2⟩
 clear a;obtain ⟨n,hl⟩:∃ n,A.length=n:=⟨_,rfl⟩;rw [hl] at hA no yes PL ⊢;generalize ruOf A=RO at *
 go_enter Tryz.func73,Tryz.ntmps73
 go_wp2
 go_loopw [13] (fun i wr=>∃ k:Nat,k≤n∧i=.int .i64 k∧Hid (∀ j,j<k→spB (A.getD j (0,0))=true)∧Hid (Below w.heap.size w wr)) (fun i _=>n - (intOf i).toNat)
 case atStart=>exact ⟨0,Nat.zero_le _,rfl,fun j hj=>absurd hj (Nat.not_lt_zero _),A0⟩
 case round =>
  obtain ⟨k,hk,rfl,HU,HA⟩:=hrel;have HP:=zh (PL.out.keep HA.out);clear A0
  by_cases z:k<n
  ·have kz:decide ((k:Int)<(n:Int))=true:=zdt (by omega);obtain ⟨b,off,rfl,bl,cs⟩:=prs_here HP.out (show k<A.length by omega);obtain ⟨c0,c1⟩:=cs k (by omega);have HS:=zh (fun w=>riv (A.getD k (0,0)).1 (A.getD k (0,0)).2 w);have ev:((A.getD k (0,0)).1,(A.getD k (0,0)).2)=A.getD k (0,0):=rfl;rw [ev] at HS;clear cs ev yes;obtain ⟨u,hu⟩:∃ u,spB (A.getD k (0,0))=u:=⟨_,rfl⟩;rw [hu] at HS;have r0:=no.out k z;have HU2:u=true→Hid (∀ j,j<k+1→spB (A.getD j (0,0))=true):=fun e j hj=>by
    rcases Nat.lt_or_ge j k with y | y
    ·exact HU.out j y
    ·obtain rfl:j=k:=by omega
     rw [hu,e]
   rw [hu] at r0;clear hu no HU;generalize A.getD k (0,0)=q at *;obtain ⟨x,y⟩:=q;replace HS:Hid (∀ w,Calls Tryz.prog 75 #[.agg #[.int .i64 x,.int .i64 y]] w fun e w'=>e=.returned (.bool u)∧Below w.heap.size w w'):=HS;replace c0:wr.cell? ⟨b,off+k * 2,none⟩=some (.int .i64 x):=c0;replace c1:wr.cell? ⟨b,off+k * 2+1,none⟩=some (.int .i64 y):=c1;obtain ⟨b0,b1,bl2⟩:=Two.new (here (wr.alloc (.cells #[.int .i64 x,.int .i64 y] 40)))
   cases u
   ·have r2:=zh (r0 rfl);clear r0 HU2;go_wp2_with fail
    refine (HS.out _).mono ?_;rintro e w1 ⟨rfl,hb⟩;have A1:=zh (down (grow HA.out _) hb);clear hb HA HP c0 c1 bl b0 b1 bl2;go_wp2
    go_ret2
    rw [r2.out];exact ⟨⟨_,rfl,Sl.none _ _⟩,A1.out⟩
   ·have HU3:=HU2 rfl;clear r0 HU2;go_wp2_with fail
    refine (HS.out _).mono ?_;rintro e w1 ⟨rfl,hb⟩;have A1:=zh (down (grow HA.out _) hb);clear hb HA HP c0 c1 bl b0 b1 bl2;go_wp2
    go_roundw
    case rel=>exact ⟨k+1,by omega,by go_num,HU3,A1⟩
    case measure=>simp [intOf];omega
  ·have kz:decide ((k:Int)<(n:Int))=false:=zdf (by omega);obtain rfl:k=n:=by omega
   obtain ⟨y1,y2⟩:=yes.out HU.out;have HC:=zh (ruclone _ A k hl (by omega) wr HP.out);replace y2:=zh y2;have r0:=zh y1;clear yes no HU y1 z;go_wp2_with fail
   refine HC.out.mono ?_;rintro e w1 ⟨v1,rfl,O1,hb1⟩;have HT:=zh (rusort A k hl (by omega) v1 w1 O1 w (down HA.out hb1) HA.out.size);clear O1 hb1 HC HP;go_wp2_with fail
   refine HT.out.mono ?_;rintro e w2 ⟨rfl,M,P2,M1,M2,M3,A2⟩;have MG:=mg_of M2 y2.out M3;rw [M1] at MG;have r3:Hid (RO=ruFull (mgK M k)):=by show _=_;rw [MG];exact r0.out
   replace P2:=zh P2;replace A2:=zh A2;clear HT r0 y2 M2 M3 MG HA;obtain ⟨o2,c2,rfl⟩:=prs_shape P2.out;rw [M1] at P2 ⊢;have I0:Hid (w2.ownsRow w2.heap.size 40 2 (.slice none 0 0) (mgK M 0).length (pairs (mgK M 0))):=World.ownsRow_nil _ _ _ _;have L0:Hid (Below w2.heap.size w2 w2):=here w2;have sz2:=A2.out.size;go_wp2
   go_loopw [7,27] (fun s i wr=>∃ (t r:Nat) (s':Value),s'=s∧t≤k∧r≤t∧i=.int .i64 t∧Hid ((mgK M t).length=r∧wr.ownsRow w2.heap.size 40 2 s r (pairs (mgK M t)))∧Hid (Below w2.heap.size w2 wr)) (fun _ i _=>k - (intOf i).toNat)
   case atStart=>exact ⟨0,0,_,rfl,Nat.zero_le _,Nat.le_refl _,rfl,⟨rfl,I0.out⟩,L0⟩
   case round =>
    obtain ⟨t,r,s',rfl,ht,rt,rfl,⟨HR,HO⟩,HL⟩:=hrel;clear I0 L0;have HQ:=zh (P2.out.keep HL.out)
    by_cases z:t<k
    ·have kz:decide ((t:Int)<(k:Int))=true:=zdt (by omega);obtain ⟨k1,hk1⟩:∃ k1,t+1=k1:=⟨_,rfl⟩;obtain ⟨b,off,rfl,bl,cs⟩:=prs_here HQ.out (show t<M.length by omega);obtain ⟨c0,c1⟩:=cs t (by omega);have st:mgK M k1=mgS (mgK M t) (M.getD t (0,0)):=by rw [← hk1];rfl
     clear cs;generalize mgK M t=R at *;generalize M.getD t (0,0)=q at *;obtain ⟨x,y⟩:=q;replace c0:wr.cell? ⟨b,off+t * 2,none⟩=some (.int .i64 x):=c0;replace c1:wr.cell? ⟨b,off+t * 2+1,none⟩=some (.int .i64 y):=c1;have H1:=HO.alloc (.cells #[.int .i64 x,.int .i64 y] 40);obtain ⟨x0,x1,xl⟩:=Two.new (here (wr.alloc (.cells #[.int .i64 x,.int .i64 y] 40)))
     rcases snoc_cases R with rfl | ⟨R',p,rfl⟩
     ·obtain rfl:r=0:=by simpa using HR.symm
      rw [mg_nil] at st;replace st:=zh st;obtain ⟨ao,cp,rfl⟩:=(Sl.owns HO).shape;replace H1:=zh H1;clear HO HR;go_wp2
      go_quiet (fail)
      refine at_world (G:=fun W'=>Exit.then _ _ Exit.normal _ W') (fun W'=>Below wr.heap.size wr W'∧Two W' wr.heap.size (.int .i64 x) (.int .i64 y)∧W'.ownsRow w2.heap.size 40 2 (.slice ao 0 cp) 0 (pairs ([]:List Sp))) ⟨below_drewN (grow (here wr) _) _,Two.drewN (Two.new (here _)) _,H1.out⟩ ?_;rintro w6 ⟨W6,X6,O6⟩;have L6:=zd HL W6;replace O6:=zh O6;replace X6:=zh X6;clear HL W6 H1 c0 c1 bl x0 x1 xl HQ;obtain ⟨x0,x1,xl⟩:=X6.out;go_wp2_with (at_builtin;refine wpList_append_own _ rfl _ _ 22 rfl w2.heap.size 40 i0 (.agg #[.int .i64 0,.int .i64 0]) 2 16 Tryz.underlying22 hi hz0 hz1 hz2 rfl (by decide) (.slice ao 0 cp) 0 (pairs ([]:List Sp)) rfl (O6.out.alloc _) ⟨w6.heap.size,0,none⟩ 1 1 [.int .i64 x,.int .i64 y] rfl rfl ?c1 ?c2 ?c3 ?c4 ?c5 ?_)
      case c1=>intro j u hj;rw [Addr.add_lit,Nat.zero_add,World.cell?_alloc_new];simpa using hj
      case c2=>intro u hu;simp at hu;rcases hu with rfl | rfl <;> rfl
      case c3=>unfold maxLen;omega
      case c4=>omega
      case c5=>have:=L6.out.size;simp;omega
      intro v7 w7 hown hgrow _;have L7:Hid (Below w2.heap.size w2 w7):=(L6.out.alloc L6.out.size _).grown hgrow (by have:=L6.out.size;simp;omega) (own_ge O6.out);have O7:Hid ((mgK M k1).length=1∧w7.ownsRow w2.heap.size 40 2 v7 1 (pairs (mgK M k1))):=⟨by rw [st.out];rfl,by rw [st.out];exact hown⟩;clear hown hgrow O6 L6 st X6 x0 x1 xl;go_wp2
      go_roundw
      case rel=>exact ⟨k1,1,_,rfl,by omega,by omega,by first | rfl | (congr 1;omega) | go_num,O7,L7⟩
      case measure=>simp [intOf];omega
     ·have len:(R'++[p]).length=R'.length+1:=by simp
      obtain ⟨m,hm⟩:∃ m,R'.length=m:=⟨_,rfl⟩;have hK:m+1=r:=by omega
      obtain ⟨g,cp,rfl⟩:∃ g cp,s'=.slice (some ⟨g,0,none⟩) r cp:=by
       rcases HO.2 with ⟨-,h0⟩ | ⟨g,cp,cur,e,-⟩
       ·omega
       ·exact ⟨g,cp,e⟩
      have gl:=H1.lt g rfl;have c2':(wr.alloc (.cells #[.int .i64 x,.int .i64 y] 40)).cell? ⟨g,m * 2+1,none⟩=some (.int .i64 p.2):=by
       have:=(pairs_get (R'++[p]) R'.length (by simp)).2;rw [hm] at this;rw [H1.cellAt _ (by omega),Nat.mul_comm,this,← hm];simp
      have f1:=H1.frozenAt (m * 2+1);rw [mg_snoc] at st;have k1':(r:Int) - 1=m:=by omega
      have k2:decide (0≤(m:Int))=true:=zdt (by omega);have k3:decide (0≤m)=true:=zdt (by omega);have km:((m:Nat):Int)<(r:Int):=by omega
      by_cases e:x≤p.2
      ·have ke:=zdt e;rw [if_pos e] at st;obtain ⟨v,hv⟩:∃ v,max p.2 y=v:=⟨_,rfl⟩;have st':mgK M k1=R'++[(p.1,v)]:=by
        rw [st]
        show R'++[(p.1,if p.2<y then y else p.2)]=_
        rw [show (if p.2<y then y else p.2)=v by rw [← hv];split <;> omega]
       replace st:=zh st';replace H1:=zh H1;clear HO e st';go_wp2
       go_quiet (fail)
       refine at_world (G:=fun W'=>Exit.then _ _ Exit.normal _ W') (fun W'=>Below wr.heap.size wr W'∧Two W' wr.heap.size (.int .i64 x) (.int .i64 y)∧W'.ownsRow w2.heap.size 40 2 (.slice (some ⟨g,0,none⟩) r cp) r (pairs (R'++[p]))) ⟨below_drewN (grow (here wr) _) _,Two.drewN (Two.new (here _)) _,H1.out⟩ ?_;rintro w6 ⟨W6,X6,O6⟩;have L6:=zd HL W6;replace O6:=zh O6;replace X6:=zh X6;clear HL W6 H1 c0 c1 bl x0 x1 xl HQ c2' f1;have gl6:=O6.out.lt g rfl;have c2':w6.cell? ⟨g,m * 2+1,none⟩=some (.int .i64 p.2):=by
        have:=(pairs_get (R'++[p]) R'.length (by simp)).2;rw [hm] at this;rw [O6.out.cellAt _ (by omega),Nat.mul_comm,this,← hm];simp
       have f1:=O6.out.frozenAt (m * 2+1);have ST:=zh (fun n=>World.ownsRow.stored (w:=w6.drewN n) O6.out (m * 2+1) (.int .i64 v));have ps:=pairs_set R' p v;rw [hm] at ps;rw [ps] at ST;obtain ⟨x0,x1,xl⟩:=X6.out;clear ps;go_wp2
       go_region
       obtain ⟨w7,hw7⟩:∃ w7:World,(w6.setCell ⟨g,m * 2+1,none⟩ (.int .i64 v)).drew=w7:=⟨_,rfl⟩;have O7:Hid ((mgK M k1).length=r∧w7.ownsRow w2.heap.size 40 2 (.slice (some ⟨g,0,none⟩) r cp) r (pairs (mgK M k1))):=⟨by rw [st.out];simp;omega,by rw [st.out,← hw7];exact (ST.out 1).1⟩;have L7:Hid (Below w2.heap.size w2 w7):=by show Below _ _ _;rw [← hw7];exact (L6.out.setCell (p:=⟨g,m * 2+1,none⟩) gl6.1 _).drew
       rw [hw7];clear hw7 ST O6 L6 st X6 x0 x1 xl c2' f1 HR gl6 gl;go_wp2
       go_roundw
       case rel=>exact ⟨k1,r,_,rfl,by omega,by omega,by first | rfl | (congr 1;omega) | go_num,O7,L7⟩
       case measure=>simp [intOf];omega
      ·have ke:=zdf e;rw [if_neg e] at st;replace st:=zh st;replace H1:=zh H1;clear HO e;go_wp2
       go_quiet (fail)
       refine at_world (G:=fun W'=>Exit.then _ _ Exit.normal _ W') (fun W'=>Below wr.heap.size wr W'∧Two W' wr.heap.size (.int .i64 x) (.int .i64 y)∧W'.ownsRow w2.heap.size 40 2 (.slice (some ⟨g,0,none⟩) r cp) r (pairs (R'++[p]))) ⟨below_drewN (grow (here wr) _) _,Two.drewN (Two.new (here _)) _,H1.out⟩ ?_;rintro w6 ⟨W6,X6,O6⟩;have L6:=zd HL W6;replace O6:=zh O6;replace X6:=zh X6;clear HL W6 H1 c0 c1 bl x0 x1 xl HQ c2' f1 gl;obtain ⟨x0,x1,xl⟩:=X6.out;go_wp2_with (at_builtin;refine wpList_append_own _ rfl _ _ 22 rfl w2.heap.size 40 i0 (.agg #[.int .i64 0,.int .i64 0]) 2 16 Tryz.underlying22 hi hz0 hz1 hz2 rfl (by decide) (.slice (some ⟨g,0,none⟩) r cp) r (pairs (R'++[p])) rfl (O6.out.alloc _) ⟨w6.heap.size,0,none⟩ 1 1 [.int .i64 x,.int .i64 y] rfl rfl ?c1 ?c2 ?c3 ?c4 ?c5 ?_)
       case c1=>intro j u hj;rw [Addr.add_lit,Nat.zero_add,World.cell?_alloc_new];simpa using hj
       case c2=>intro u hu;simp at hu;rcases hu with rfl | rfl <;> rfl
       case c3=>unfold maxLen;omega
       case c4=>omega
       case c5=>have:=L6.out.size;simp;omega
       intro v7 w7 hown hgrow _;have L7:Hid (Below w2.heap.size w2 w7):=(L6.out.alloc L6.out.size _).grown hgrow (by have:=L6.out.size;simp;omega) (own_ge O6.out);have O7:Hid ((mgK M k1).length=r+1∧w7.ownsRow w2.heap.size 40 2 v7 (r+1) (pairs (mgK M k1))):=⟨by rw [st.out,List.length_append,HR];rfl,by rw [st.out,pairs_append];exact hown⟩;clear hown hgrow O6 L6 st X6 x0 x1 xl HR;go_wp2
       go_roundw
       case rel=>exact ⟨k1,(r+1),_,rfl,by omega,by omega,by first | rfl | (congr 1;omega) | go_num,O7,L7⟩
       case measure=>simp [intOf];omega
    ·have kz:decide ((t:Int)<(k:Int))=false:=zdf (by omega);obtain rfl:t=k:=by omega
     obtain ⟨o3,c3,rfl⟩:=(Sl.owns HO).shape;have LI:=zh (fun W=>rulimited o3 r c3 (by unfold maxLen;omega) W);have FU:Hid (ruFull (mgK M t)=if 2000<r then ([],5) else (mgK M t,0)):=by show _=_;unfold ruFull;rw [HR]
     have P5:Hid (PairS w.heap.size wr (.slice o3 r c3) (mgK M t)):=by show Sl _ _ _ _ _;rw [HR];exact Sl.owns (own_weak HO sz2)
     have A5:=zh (A2.out.trans (HL.out.mono sz2));clear HO HR z HQ
     by_cases u:2000<r
     ·rw [if_pos u] at LI FU;clear u;go_wp2_with fail
      refine (LI.out _).mono ?_;rintro e w5 ⟨rfl,rfl⟩;go_wp2
      go_ret2
      rw [r3.out,FU.out];exact ⟨⟨_,rfl,Sl.none _ _⟩,A5.out⟩
     ·rw [if_neg u] at LI FU;clear u;go_wp2_with fail
      refine (LI.out _).mono ?_;rintro e w5 ⟨rfl,rfl⟩;go_wp2
      go_ret2
      rw [r3.out,FU.out];exact ⟨⟨_,rfl,P5.out⟩,A5.out⟩
end Go.Proofs.YtmamlgaogpkagaaGreat
