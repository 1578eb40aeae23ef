/- TvC. -/
import Derived.Test.YtmamlgaogpkagaaGreatZLGen
import Derived.Test.YtmamlgaogpkagaaGreatZLOwn
import Derived.Test.YtmamlgaogpkagaaGreatZTsA
import Derived.StillTailTactics
import Derived.Deep.RegionHeld3
import Derived.Laws.EntriesVeiled
namespace Go.Proofs.YtmamlgaogpkagaaGreat
open Go.RowKit
set_option linter.unusedVariables false
set_option linter.unusedSimpArgs false
theorem ztk {P : Program} {ops : Array Oper} {Q : Exit → Act → World → Prop} {md : Region.Mode} {S : World → Prop} {i : Nat} {oi : Oper} {v : Value} {fuel : Nat} {listed : Array Bool} {a : Act} {w : World} {d : Tmp} (hi : ops[i]? = some oi)
    (hQ : ∀ c a d v w, Q (.panic c) (Act.put a (some d) v) w → Q (.panic c) a w) (hy : YieldsIf P ops S oi v a) (hS : S w)
    (h : wpAnyH P md ops Q S fuel (listed.setIfInBounds i true) (a.put oi.dst v) w) (hd : oi.dst = some d := by rfl) (hs : Region.noSelect ops = true := by kernel_rfl) (hf : Region.free md ops listed i = true := by kernel_rfl) (hr : (Region.ready md ops listed).contains i = true := by kernel_rfl) : wpAnyH P md ops Q S (fuel + 1) listed a w :=
  wpAnyH_take hi hs hf hr (fun c a w e => hQ c a d v w (by rw [hd] at e; exact e)) hy hS h
structure Nwz (w:World) (m:Nat) (W:World) (b:Nat) (zs:List Value):Prop where
 le:w.heap.size≤b
 ge:m<b
 o:Bxo W b zs
theorem Nwz.keep {w W W':World} {m b:Nat} {zs:List Value} (h:Nwz w m W b zs) (hb:Below W.heap.size W W'):Nwz w m W' b zs:=⟨h.le,h.ge,h.o.keep hb⟩
theorem Nwz.new {w W:World} {m:Nat} (h:Below w.heap.size w W) (hm:m<W.heap.size) (zs:List Value) (t:TypeId):Nwz w m (W.alloc (.cells zs.toArray t)) W.heap.size zs:=⟨h.size,hm,Bxo.new zs t⟩
def XPo (X:Nat→Prop) (l:List (Option Nat)) (b:Nat):Prop:=X b∨∃ i:Nat,l[i]?=some (some b)
def zc:Option Nat→Nat
 | none=>1
 | some _=>0
def zO (u:Value):Option Nat→Value
 | none=>u
 | some n=>.pointer (some ⟨n,0,none⟩)
def zR (op:Nat):Option Nat→List Nat
 | none=>[op]
 | some _=>[]
structure Lgn (B:World) (m:Nat) (W:World) (l:List (Option Nat)) (z:List (List Value)):Prop where
 f:∀ (i b:Nat),l[i]?=some (some b)→Nwz B m W b (z.getD i [])
 d:∀ (i j b:Nat),l[i]?=some (some b)→l[j]?=some (some b)→i=j
theorem Lgn.c {B W W':World} {m:Nat} {l:List (Option Nat)} {z:List (List Value)} (h:Lgn B m W l z) (hb:Below W.heap.size W W'):Lgn B m W' l z:=⟨fun i b e=>(h.f i b e).keep hb,h.d⟩
theorem Lgn.n {B W:World} {m:Nat} {l:List (Option Nat)} {z:List (List Value)} (h:Lgn B m W l z) (hS:Below B.heap.size B W) (kl:m<W.heap.size) (i:Nat) (t:TypeId):Lgn B m (W.alloc (.cells (z.getD i []).toArray t)) (l.set i (some W.heap.size)) z:=by
 have g:=grow (here W) (.cells (z.getD i []).toArray t);refine ⟨fun j b e=>?_,fun x y b e1 e2=>?_⟩
 ·rw [List.getElem?_set] at e
  split at e
  ·rename_i ij
   subst ij
   split at e
   ·injection e with e;injection e with e;subst e;exact Nwz.new hS kl (z.getD i []) t
   ·cases e
  ·exact (h.f j b e).keep g
 ·rw [List.getElem?_set] at e1 e2
  split at e1
  ·split at e1
   ·injection e1 with e1;injection e1 with e1;subst e1
    split at e2
    ·omega
    ·have:=(h.f y _ e2).o.t.lt;omega
   ·cases e1
  ·split at e2
   ·split at e2
    ·injection e2 with e2;injection e2 with e2;subst e2;have:=(h.f x _ e1).o.t.lt;omega
    ·cases e2
   ·exact h.d x y b e1 e2
theorem Lgn.x {B W:World} {m lo:Nat} {X:Nat→Prop} {l:List (Option Nat)} {z:List (List Value)} (h:Lgn B m W l z) (hS:Below B.heap.size B W) (hlo:lo≤B.heap.size) (hX:∀ b,X b→lo≤b∧b<B.heap.size):∀ b,XPo X l b→lo≤b∧b<W.heap.size:=by
 rintro b (c | ⟨i,e⟩)
 ·exact ⟨(hX b c).1,zll (hX b c).2 hS.size⟩
 ·exact ⟨Nat.le_trans hlo (h.f i b e).le,(h.f i b e).o.t.lt⟩
theorem VwX.xn {X:Nat→Prop} {W:World} {l:List (Option Nat)} {v:Value} {f:Int→Bool} {nx:Int→Int} (V:VwX (XPo X l) W v f nx) (i:Nat) (o:Obj):VwX (XPo X (l.set i (some W.heap.size))) (W.alloc o) v f nx:=by
 refine (V.more ?_).keep (grow (here W) o);rintro b (c | ⟨j,e⟩)
 ·exact Or.inl (Or.inl c)
 ·rw [List.getElem?_set] at e
  split at e
  ·split at e
   ·injection e with e;injection e with e;exact Or.inr (Nat.le_of_eq e)
   ·cases e
  ·exact Or.inl (Or.inr ⟨j,e⟩)
def voOps:Array Oper:=#[
 { dst:=some 6,op:=Go.Op.fieldAddr 26 (Go.Operand.tmp 1) 0,type:=0,pos := "view.go:48",after:=#[],guard:=none },
 { dst:=some 7,op:=Go.Op.load 24 (Go.Operand.tmp 6),type:=24,pos := "view.go:48",after:=#[{ on:=0,ground:=Go.Ground.data }],guard:=none },
 { dst:=some 8,op:=Go.Op.call { callee:=Go.Callee.value (Go.Operand.func 123),args:=#[Go.Operand.tmp 7],argTypes:=#[24] },type:=86,pos := "view.go:48",after:=#[{ on:=1,ground:=Go.Ground.data }],guard:=none },
 { dst:=some 9,op:=Go.Op.fieldAddr 26 (Go.Operand.tmp 1) 4,type:=0,pos := "view.go:48",after:=#[],guard:=none },
 { dst:=some 10,op:=Go.Op.load 22 (Go.Operand.tmp 9),type:=22,pos := "view.go:48",after:=#[{ on:=3,ground:=Go.Ground.data }],guard:=none },
 { dst:=some 11,op:=Go.Op.call { callee:=Go.Callee.value (Go.Operand.func 124),args:=#[Go.Operand.tmp 10],argTypes:=#[22] },type:=86,pos := "view.go:48",after:=#[{ on:=4,ground:=Go.Ground.data },{ on:=2,ground:=Go.Ground.chain }],guard:=none },
 { dst:=some 12,op:=Go.Op.fieldAddr 26 (Go.Operand.tmp 1) 1,type:=0,pos := "view.go:48",after:=#[],guard:=none },
 { dst:=some 13,op:=Go.Op.load 24 (Go.Operand.tmp 12),type:=24,pos := "view.go:48",after:=#[{ on:=6,ground:=Go.Ground.data }],guard:=none },
 { dst:=some 14,op:=Go.Op.call { callee:=Go.Callee.value (Go.Operand.func 123),args:=#[Go.Operand.tmp 13],argTypes:=#[24] },type:=86,pos := "view.go:48",after:=#[{ on:=7,ground:=Go.Ground.data },{ on:=5,ground:=Go.Ground.chain }],guard:=none },
 { dst:=some 3,op:=Go.Op.alloc 86,type:=0,pos := "view.go:48",after:=#[],guard:=none },
 { dst:=some 4,op:=Go.Op.alloc 86,type:=0,pos := "view.go:48",after:=#[],guard:=none },
 { dst:=some 5,op:=Go.Op.alloc 86,type:=0,pos := "view.go:48",after:=#[],guard:=none },
 { dst:=none,op:=Go.Op.store 86 (Go.Operand.tmp 3) (Go.Operand.tmp 8),type:=0,pos := "view.go:48",after:=#[{ on:=9,ground:=Go.Ground.data },{ on:=2,ground:=Go.Ground.data },{ on:=8,ground:=Go.Ground.chain },{ on:=0,ground:=Go.Ground.phase },{ on:=1,ground:=Go.Ground.phase },{ on:=2,ground:=Go.Ground.phase },{ on:=3,ground:=Go.Ground.textOnly Go.Departure.lateStores },{ on:=4,ground:=Go.Ground.textOnly Go.Departure.lateStores },{ on:=5,ground:=Go.Ground.textOnly Go.Departure.lateStoresUnsure },{ on:=6,ground:=Go.Ground.textOnly Go.Departure.lateStores },{ on:=7,ground:=Go.Ground.textOnly Go.Departure.lateStores },{ on:=8,ground:=Go.Ground.textOnly Go.Departure.lateStoresUnsure },{ on:=9,ground:=Go.Ground.phase },{ on:=10,ground:=Go.Ground.phase },{ on:=11,ground:=Go.Ground.phase }],guard:=none },
 { dst:=none,op:=Go.Op.store 86 (Go.Operand.tmp 4) (Go.Operand.tmp 11),type:=0,pos := "view.go:48",after:=#[{ on:=10,ground:=Go.Ground.data },{ on:=5,ground:=Go.Ground.data },{ on:=12,ground:=Go.Ground.chain },{ on:=0,ground:=Go.Ground.phase },{ on:=1,ground:=Go.Ground.phase },{ on:=2,ground:=Go.Ground.phase },{ on:=3,ground:=Go.Ground.phase },{ on:=4,ground:=Go.Ground.phase },{ on:=5,ground:=Go.Ground.phase },{ on:=6,ground:=Go.Ground.textOnly Go.Departure.lateStores },{ on:=7,ground:=Go.Ground.textOnly Go.Departure.lateStores },{ on:=8,ground:=Go.Ground.textOnly Go.Departure.lateStoresUnsure },{ on:=9,ground:=Go.Ground.phase },{ on:=10,ground:=Go.Ground.phase },{ on:=11,ground:=Go.Ground.phase },{ on:=12,ground:=Go.Ground.phase }],guard:=none },
 { dst:=none,op:=Go.Op.store 86 (Go.Operand.tmp 5) (Go.Operand.tmp 14),type:=0,pos := "view.go:48",after:=#[{ on:=11,ground:=Go.Ground.data },{ on:=8,ground:=Go.Ground.data },{ on:=13,ground:=Go.Ground.chain },{ on:=0,ground:=Go.Ground.phase },{ on:=1,ground:=Go.Ground.phase },{ on:=2,ground:=Go.Ground.phase },{ on:=3,ground:=Go.Ground.phase },{ on:=4,ground:=Go.Ground.phase },{ on:=5,ground:=Go.Ground.phase },{ on:=6,ground:=Go.Ground.phase },{ on:=7,ground:=Go.Ground.phase },{ on:=8,ground:=Go.Ground.phase },{ on:=9,ground:=Go.Ground.phase },{ on:=10,ground:=Go.Ground.phase },{ on:=11,ground:=Go.Ground.phase },{ on:=12,ground:=Go.Ground.phase },{ on:=13,ground:=Go.Ground.phase }],guard:=none }]
theorem voOpsq0:voOps[0]?=some { dst:=some 6,op:=Go.Op.fieldAddr 26 (Go.Operand.tmp 1) 0,type:=0,pos := "view.go:48",after:=#[],guard:=none }:=rfl
theorem voOpsq1:voOps[1]?=some { dst:=some 7,op:=Go.Op.load 24 (Go.Operand.tmp 6),type:=24,pos := "view.go:48",after:=#[{ on:=0,ground:=Go.Ground.data }],guard:=none }:=rfl
theorem voOpsq2:voOps[2]?=some { dst:=some 8,op:=Go.Op.call { callee:=Go.Callee.value (Go.Operand.func 123),args:=#[Go.Operand.tmp 7],argTypes:=#[24] },type:=86,pos := "view.go:48",after:=#[{ on:=1,ground:=Go.Ground.data }],guard:=none }:=rfl
theorem voOpsq3:voOps[3]?=some { dst:=some 9,op:=Go.Op.fieldAddr 26 (Go.Operand.tmp 1) 4,type:=0,pos := "view.go:48",after:=#[],guard:=none }:=rfl
theorem voOpsq4:voOps[4]?=some { dst:=some 10,op:=Go.Op.load 22 (Go.Operand.tmp 9),type:=22,pos := "view.go:48",after:=#[{ on:=3,ground:=Go.Ground.data }],guard:=none }:=rfl
theorem voOpsq5:voOps[5]?=some { dst:=some 11,op:=Go.Op.call { callee:=Go.Callee.value (Go.Operand.func 124),args:=#[Go.Operand.tmp 10],argTypes:=#[22] },type:=86,pos := "view.go:48",after:=#[{ on:=4,ground:=Go.Ground.data },{ on:=2,ground:=Go.Ground.chain }],guard:=none }:=rfl
theorem voOpsq6:voOps[6]?=some { dst:=some 12,op:=Go.Op.fieldAddr 26 (Go.Operand.tmp 1) 1,type:=0,pos := "view.go:48",after:=#[],guard:=none }:=rfl
theorem voOpsq7:voOps[7]?=some { dst:=some 13,op:=Go.Op.load 24 (Go.Operand.tmp 12),type:=24,pos := "view.go:48",after:=#[{ on:=6,ground:=Go.Ground.data }],guard:=none }:=rfl
theorem voOpsq8:voOps[8]?=some { dst:=some 14,op:=Go.Op.call { callee:=Go.Callee.value (Go.Operand.func 123),args:=#[Go.Operand.tmp 13],argTypes:=#[24] },type:=86,pos := "view.go:48",after:=#[{ on:=7,ground:=Go.Ground.data },{ on:=5,ground:=Go.Ground.chain }],guard:=none }:=rfl
theorem voOpsq9:voOps[9]?=some { dst:=some 3,op:=Go.Op.alloc 86,type:=0,pos := "view.go:48",after:=#[],guard:=none }:=rfl
theorem voOpsq10:voOps[10]?=some { dst:=some 4,op:=Go.Op.alloc 86,type:=0,pos := "view.go:48",after:=#[],guard:=none }:=rfl
theorem voOpsq11:voOps[11]?=some { dst:=some 5,op:=Go.Op.alloc 86,type:=0,pos := "view.go:48",after:=#[],guard:=none }:=rfl
theorem voOpsq12:voOps[12]?=some { dst:=none,op:=Go.Op.store 86 (Go.Operand.tmp 3) (Go.Operand.tmp 8),type:=0,pos := "view.go:48",after:=#[{ on:=9,ground:=Go.Ground.data },{ on:=2,ground:=Go.Ground.data },{ on:=8,ground:=Go.Ground.chain },{ on:=0,ground:=Go.Ground.phase },{ on:=1,ground:=Go.Ground.phase },{ on:=2,ground:=Go.Ground.phase },{ on:=3,ground:=Go.Ground.textOnly Go.Departure.lateStores },{ on:=4,ground:=Go.Ground.textOnly Go.Departure.lateStores },{ on:=5,ground:=Go.Ground.textOnly Go.Departure.lateStoresUnsure },{ on:=6,ground:=Go.Ground.textOnly Go.Departure.lateStores },{ on:=7,ground:=Go.Ground.textOnly Go.Departure.lateStores },{ on:=8,ground:=Go.Ground.textOnly Go.Departure.lateStoresUnsure },{ on:=9,ground:=Go.Ground.phase },{ on:=10,ground:=Go.Ground.phase },{ on:=11,ground:=Go.Ground.phase }],guard:=none }:=rfl
theorem voOpsq13:voOps[13]?=some { dst:=none,op:=Go.Op.store 86 (Go.Operand.tmp 4) (Go.Operand.tmp 11),type:=0,pos := "view.go:48",after:=#[{ on:=10,ground:=Go.Ground.data },{ on:=5,ground:=Go.Ground.data },{ on:=12,ground:=Go.Ground.chain },{ on:=0,ground:=Go.Ground.phase },{ on:=1,ground:=Go.Ground.phase },{ on:=2,ground:=Go.Ground.phase },{ on:=3,ground:=Go.Ground.phase },{ on:=4,ground:=Go.Ground.phase },{ on:=5,ground:=Go.Ground.phase },{ on:=6,ground:=Go.Ground.textOnly Go.Departure.lateStores },{ on:=7,ground:=Go.Ground.textOnly Go.Departure.lateStores },{ on:=8,ground:=Go.Ground.textOnly Go.Departure.lateStoresUnsure },{ on:=9,ground:=Go.Ground.phase },{ on:=10,ground:=Go.Ground.phase },{ on:=11,ground:=Go.Ground.phase },{ on:=12,ground:=Go.Ground.phase }],guard:=none }:=rfl
theorem voOpsq14:voOps[14]?=some { dst:=none,op:=Go.Op.store 86 (Go.Operand.tmp 5) (Go.Operand.tmp 14),type:=0,pos := "view.go:48",after:=#[{ on:=11,ground:=Go.Ground.data },{ on:=8,ground:=Go.Ground.data },{ on:=13,ground:=Go.Ground.chain },{ on:=0,ground:=Go.Ground.phase },{ on:=1,ground:=Go.Ground.phase },{ on:=2,ground:=Go.Ground.phase },{ on:=3,ground:=Go.Ground.phase },{ on:=4,ground:=Go.Ground.phase },{ on:=5,ground:=Go.Ground.phase },{ on:=6,ground:=Go.Ground.phase },{ on:=7,ground:=Go.Ground.phase },{ on:=8,ground:=Go.Ground.phase },{ on:=9,ground:=Go.Ground.phase },{ on:=10,ground:=Go.Ground.phase },{ on:=11,ground:=Go.Ground.phase },{ on:=12,ground:=Go.Ground.phase },{ on:=13,ground:=Go.Ground.phase }],guard:=none }:=rfl
set_option maxRecDepth 100000 in
set_option maxHeartbeats 4000000 in
theorem vo_region (Q:Exit→Act→World→Prop) (P Q0 a b:Int) (va vb vl u:Value) (b0:Nat) (f1 f2 f3:Int→Bool) (n1 n2 n3:Int→Int) (w w0:World) (hQ:∀ c a d v w,Q (.panic c) (Act.put a (some d) v) w→Q (.panic c) a w) (X:Nat→Prop) (lo:Nat) (hlo:lo≤w.heap.size) (hX:∀ b,X b→lo≤b∧b<w.heap.size) (H1:Hid (∀ W,Below w.heap.size w W→∀ X:Nat→Prop,(∀ b,X b→lo≤b∧b<W.heap.size)→Calls Tryz.prog 123 #[.agg #[.int .i64 P,va]] W fun e W'=>(∃ v',e=.returned v'∧VwX X W' v' f1 n1)∧Below W.heap.size W W')) (H2:Hid (∀ W,Below w.heap.size w W→∀ X:Nat→Prop,(∀ b,X b→lo≤b∧b<W.heap.size)→Calls Tryz.prog 124 #[vl] W fun e W'=>(∃ v',e=.returned v'∧VwX X W' v' f2 n2)∧Below W.heap.size W W')) (H3:Hid (∀ W,Below w.heap.size w W→∀ X:Nat→Prop,(∀ b,X b→lo≤b∧b<W.heap.size)→Calls Tryz.prog 123 #[.agg #[.int .i64 Q0,vb]] W fun e W'=>(∃ v',e=.returned v'∧VwX X W' v' f3 n3)∧Below W.heap.size W W')) (hS0:Below w.heap.size w w0∧w0.cell? ⟨b0,0,none⟩=some (.int .i64 P)∧w0.cell? ⟨b0,1,none⟩=some (va)∧w0.cell? ⟨b0,2,none⟩=some (.int .i64 Q0)∧w0.cell? ⟨b0,3,none⟩=some (vb)∧w0.cell? ⟨b0,4,none⟩=some (.int .i64 a)∧w0.cell? ⟨b0,5,none⟩=some (.int .i64 b)∧w0.cell? ⟨b0,6,none⟩=some (vl)∧b0<w0.heap.size) (ord:True)
  (fin:∀ (g1:FuncId) (k1:Array Value) (g2:FuncId) (k2:Array Value) (g3:FuncId) (k3:Array Value) (N0b:Nat) (N1b:Nat) (N2b:Nat) (W:World),(Below w.heap.size w W∧W.cell? ⟨b0,0,none⟩=some (.int .i64 P)∧W.cell? ⟨b0,1,none⟩=some (va)∧W.cell? ⟨b0,2,none⟩=some (.int .i64 Q0)∧W.cell? ⟨b0,3,none⟩=some (vb)∧W.cell? ⟨b0,4,none⟩=some (.int .i64 a)∧W.cell? ⟨b0,5,none⟩=some (.int .i64 b)∧W.cell? ⟨b0,6,none⟩=some (vl)∧b0<W.heap.size)→(VwX (fun b=>X b∨b=N0b∨b=N1b∨b=N2b) W (.func (.func g1) #[] k1) f1 n1)→(VwX (fun b=>X b∨b=N0b∨b=N1b∨b=N2b) W (.func (.func g2) #[] k2) f2 n2)→(VwX (fun b=>X b∨b=N0b∨b=N1b∨b=N2b) W (.func (.func g3) #[] k3) f3 n3)→(Nwz w (b0) W N0b [.nilFunc])→(Nwz w (b0) W N1b [.nilFunc])→(Nwz w (b0) W N2b [.nilFunc])→(N0b≠N1b)→(N0b≠N2b)→(N1b≠N2b)→Q .normal ⟨#[u,.pointer (some ⟨b0,0,none⟩),.nilFunc,(.pointer (some ⟨N0b,0,none⟩)),(.pointer (some ⟨N1b,0,none⟩)),(.pointer (some ⟨N2b,0,none⟩)),.pointer (some ⟨b0,0,none⟩),.agg #[.int .i64 P,va],.func (.func g1) #[] k1,.pointer (some ⟨b0,6,none⟩),vl,.func (.func g2) #[] k2,.pointer (some ⟨b0,2,none⟩),.agg #[.int .i64 Q0,vb],.func (.func g3) #[] k3,undef],[]⟩ (((W.setCell ⟨N0b,0,none⟩ (.func (.func g1) #[] k1)).setCell ⟨N1b,0,none⟩ (.func (.func g2) #[] k2)).setCell ⟨N2b,0,none⟩ (.func (.func g3) #[] k3))) :
  (Code.region 1 voOps true).wp Tryz.prog Q ⟨#[u,.pointer (some ⟨b0,0,none⟩),.nilFunc,undef,undef,undef,undef,undef,undef,undef,undef,undef,undef,undef,undef,undef],[]⟩ w0:=by
 have mk:∀ W W':World,(fun W'=>Below w.heap.size w W'∧W'.cell? ⟨b0,0,none⟩=some (.int .i64 P)∧W'.cell? ⟨b0,1,none⟩=some (va)∧W'.cell? ⟨b0,2,none⟩=some (.int .i64 Q0)∧W'.cell? ⟨b0,3,none⟩=some (vb)∧W'.cell? ⟨b0,4,none⟩=some (.int .i64 a)∧W'.cell? ⟨b0,5,none⟩=some (.int .i64 b)∧W'.cell? ⟨b0,6,none⟩=some (vl)∧b0<W'.heap.size) W→Below W.heap.size W W'→(fun W'=>Below w.heap.size w W'∧W'.cell? ⟨b0,0,none⟩=some (.int .i64 P)∧W'.cell? ⟨b0,1,none⟩=some (va)∧W'.cell? ⟨b0,2,none⟩=some (.int .i64 Q0)∧W'.cell? ⟨b0,3,none⟩=some (vb)∧W'.cell? ⟨b0,4,none⟩=some (.int .i64 a)∧W'.cell? ⟨b0,5,none⟩=some (.int .i64 b)∧W'.cell? ⟨b0,6,none⟩=some (vl)∧b0<W'.heap.size) W':=fun W W' ⟨kb,k0_0,k0_1,k0_2,k0_3,k0_4,k0_5,k0_6,kl⟩ hb=>⟨down kb hb,(hb.cell (p:=⟨b0,0,none⟩) (by show b0<_;omega)).trans k0_0,(hb.cell (p:=⟨b0,1,none⟩) (by show b0<_;omega)).trans k0_1,(hb.cell (p:=⟨b0,2,none⟩) (by show b0<_;omega)).trans k0_2,(hb.cell (p:=⟨b0,3,none⟩) (by show b0<_;omega)).trans k0_3,(hb.cell (p:=⟨b0,4,none⟩) (by show b0<_;omega)).trans k0_4,(hb.cell (p:=⟨b0,5,none⟩) (by show b0<_;omega)).trans k0_5,(hb.cell (p:=⟨b0,6,none⟩) (by show b0<_;omega)).trans k0_6,zll kl hb.size⟩;replace fin:=zh fin;replace mk:=zh mk;obtain ⟨zS,zSe⟩:∃ zS:World→Prop,zS=(fun W'=>Below w.heap.size w W'∧W'.cell? ⟨b0,0,none⟩=some (.int .i64 P)∧W'.cell? ⟨b0,1,none⟩=some (va)∧W'.cell? ⟨b0,2,none⟩=some (.int .i64 Q0)∧W'.cell? ⟨b0,3,none⟩=some (vb)∧W'.cell? ⟨b0,4,none⟩=some (.int .i64 a)∧W'.cell? ⟨b0,5,none⟩=some (.int .i64 b)∧W'.cell? ⟨b0,6,none⟩=some (vl)∧b0<W'.heap.size):=⟨_,rfl⟩;obtain ⟨zT,zTe⟩:∃ zT:Value→Value→Value→Value→Value→Value→Act,zT=fun zx8 zx11 zx14 zx3 zx4 zx5=>⟨#[u,.pointer (some ⟨b0,0,none⟩),.nilFunc,zx3,zx4,zx5,.pointer (some ⟨b0,0,none⟩),.agg #[.int .i64 P,va],zx8,.pointer (some ⟨b0,6,none⟩),vl,zx11,.pointer (some ⟨b0,2,none⟩),.agg #[.int .i64 Q0,vb],zx14,undef],[]⟩:=⟨_,rfl⟩;have hF:∀ (g1:FuncId) (k1:Array Value) (g2:FuncId) (k2:Array Value) (g3:FuncId) (k3:Array Value) (N0b:Nat) (N1b:Nat) (N2b:Nat) (W:World),zS W→(VwX (fun b=>X b∨b=N0b∨b=N1b∨b=N2b) W (.func (.func g1) #[] k1) f1 n1)→(VwX (fun b=>X b∨b=N0b∨b=N1b∨b=N2b) W (.func (.func g2) #[] k2) f2 n2)→(VwX (fun b=>X b∨b=N0b∨b=N1b∨b=N2b) W (.func (.func g3) #[] k3) f3 n3)→(Nwz w (b0) W N0b [.nilFunc])→(Nwz w (b0) W N1b [.nilFunc])→(Nwz w (b0) W N2b [.nilFunc])→(N0b≠N1b)→(N0b≠N2b)→(N1b≠N2b)→wpAnyH Tryz.prog .any voOps Q zS 3 #[true,true,true,true,true,true,true,true,true,true,true,true,false,false,false] ⟨#[u,.pointer (some ⟨b0,0,none⟩),.nilFunc,(.pointer (some ⟨N0b,0,none⟩)),(.pointer (some ⟨N1b,0,none⟩)),(.pointer (some ⟨N2b,0,none⟩)),.pointer (some ⟨b0,0,none⟩),.agg #[.int .i64 P,va],.func (.func g1) #[] k1,.pointer (some ⟨b0,6,none⟩),vl,.func (.func g2) #[] k2,.pointer (some ⟨b0,2,none⟩),.agg #[.int .i64 Q0,vb],.func (.func g3) #[] k3,undef],[]⟩ W:=by
  subst_vars
  intro g1 k1 g2 k2 g3 k3 N0b N1b N2b W hS V1 V2 V3 N0 N1 N2 D01 D02 D12;refine wpAnyH_ready (rs:=[12]) (by kernel_rfl) (by simp) ?_;refine AllReadyH.cons voOpsq12 (fun K hK=>?_) AllReadyH.nil;have e0_0:W.cell? ⟨N0b,0,none⟩=some (.nilFunc):=by
   exact N0.o.t.c 0 _ rfl
  have f0_0:W.frozen? ⟨N0b,0,none⟩=false:=by
   exact N0.o.f 0
  go_simp;have hS0x:(fun W'=>Below w.heap.size w W'∧W'.cell? ⟨b0,0,none⟩=some (.int .i64 P)∧W'.cell? ⟨b0,1,none⟩=some (va)∧W'.cell? ⟨b0,2,none⟩=some (.int .i64 Q0)∧W'.cell? ⟨b0,3,none⟩=some (vb)∧W'.cell? ⟨b0,4,none⟩=some (.int .i64 a)∧W'.cell? ⟨b0,5,none⟩=some (.int .i64 b)∧W'.cell? ⟨b0,6,none⟩=some (vl)∧b0<W'.heap.size) (W.setCell ⟨N0b,0,none⟩ (.func (.func g1) #[] k1)):=by
   obtain ⟨kb,k0_0,k0_1,k0_2,k0_3,k0_4,k0_5,k0_6,kl⟩:=hS;refine ⟨(kb.setCell (p:=⟨N0b,0,none⟩) N0.le _),?_,?_,?_,?_,?_,?_,?_,by rw [size_set];exact kl⟩
   ·rw [zco (h:=zad (by have:=N0.ge;omega))];exact k0_0
   ·rw [zco (h:=zad (by have:=N0.ge;omega))];exact k0_1
   ·rw [zco (h:=zad (by have:=N0.ge;omega))];exact k0_2
   ·rw [zco (h:=zad (by have:=N0.ge;omega))];exact k0_3
   ·rw [zco (h:=zad (by have:=N0.ge;omega))];exact k0_4
   ·rw [zco (h:=zad (by have:=N0.ge;omega))];exact k0_5
   ·rw [zco (h:=zad (by have:=N0.ge;omega))];exact k0_6
  refine hK.out _ _ hS0x (fun _=>?_);clear hK K;(try simp only [Act.put,zls,zl0,zl1]);refine wpAnyH_ready (rs:=[13]) (by kernel_rfl) (by simp) ?_;refine AllReadyH.cons voOpsq13 (fun K hK=>?_) AllReadyH.nil;have e1_0:(W.setCell ⟨N0b,0,none⟩ (.func (.func g1) #[] k1)).cell? ⟨N1b,0,none⟩=some (.nilFunc):=by
   rw [zco (h:=zad (by first | exact D01 | exact Ne.symm D01))];exact N1.o.t.c 0 _ rfl
  have f1_0:(W.setCell ⟨N0b,0,none⟩ (.func (.func g1) #[] k1)).frozen? ⟨N1b,0,none⟩=false:=by
   rw [World.frozen?_setCell];exact N1.o.f 0
  go_simp;have hS1x:(fun W'=>Below w.heap.size w W'∧W'.cell? ⟨b0,0,none⟩=some (.int .i64 P)∧W'.cell? ⟨b0,1,none⟩=some (va)∧W'.cell? ⟨b0,2,none⟩=some (.int .i64 Q0)∧W'.cell? ⟨b0,3,none⟩=some (vb)∧W'.cell? ⟨b0,4,none⟩=some (.int .i64 a)∧W'.cell? ⟨b0,5,none⟩=some (.int .i64 b)∧W'.cell? ⟨b0,6,none⟩=some (vl)∧b0<W'.heap.size) ((W.setCell ⟨N0b,0,none⟩ (.func (.func g1) #[] k1)).setCell ⟨N1b,0,none⟩ (.func (.func g2) #[] k2)):=by
   obtain ⟨kb,k0_0,k0_1,k0_2,k0_3,k0_4,k0_5,k0_6,kl⟩:=hS;refine ⟨((kb.setCell (p:=⟨N0b,0,none⟩) N0.le _).setCell (p:=⟨N1b,0,none⟩) N1.le _),?_,?_,?_,?_,?_,?_,?_,by rw [size_set,size_set];exact kl⟩
   ·rw [zco (h:=zad (by have:=N1.ge;omega)),zco (h:=zad (by have:=N0.ge;omega))];exact k0_0
   ·rw [zco (h:=zad (by have:=N1.ge;omega)),zco (h:=zad (by have:=N0.ge;omega))];exact k0_1
   ·rw [zco (h:=zad (by have:=N1.ge;omega)),zco (h:=zad (by have:=N0.ge;omega))];exact k0_2
   ·rw [zco (h:=zad (by have:=N1.ge;omega)),zco (h:=zad (by have:=N0.ge;omega))];exact k0_3
   ·rw [zco (h:=zad (by have:=N1.ge;omega)),zco (h:=zad (by have:=N0.ge;omega))];exact k0_4
   ·rw [zco (h:=zad (by have:=N1.ge;omega)),zco (h:=zad (by have:=N0.ge;omega))];exact k0_5
   ·rw [zco (h:=zad (by have:=N1.ge;omega)),zco (h:=zad (by have:=N0.ge;omega))];exact k0_6
  refine hK.out _ _ hS1x (fun _=>?_);clear hK K;(try simp only [Act.put,zls,zl0,zl1]);refine wpAnyH_ready (rs:=[14]) (by kernel_rfl) (by simp) ?_;refine AllReadyH.cons voOpsq14 (fun K hK=>?_) AllReadyH.nil;have e2_0:((W.setCell ⟨N0b,0,none⟩ (.func (.func g1) #[] k1)).setCell ⟨N1b,0,none⟩ (.func (.func g2) #[] k2)).cell? ⟨N2b,0,none⟩=some (.nilFunc):=by
   rw [zco (h:=zad (by first | exact D12 | exact Ne.symm D12))];rw [zco (h:=zad (by first | exact D02 | exact Ne.symm D02))];exact N2.o.t.c 0 _ rfl
  have f2_0:((W.setCell ⟨N0b,0,none⟩ (.func (.func g1) #[] k1)).setCell ⟨N1b,0,none⟩ (.func (.func g2) #[] k2)).frozen? ⟨N2b,0,none⟩=false:=by
   rw [World.frozen?_setCell,World.frozen?_setCell];exact N2.o.f 0
  go_simp;have hS2x:(fun W'=>Below w.heap.size w W'∧W'.cell? ⟨b0,0,none⟩=some (.int .i64 P)∧W'.cell? ⟨b0,1,none⟩=some (va)∧W'.cell? ⟨b0,2,none⟩=some (.int .i64 Q0)∧W'.cell? ⟨b0,3,none⟩=some (vb)∧W'.cell? ⟨b0,4,none⟩=some (.int .i64 a)∧W'.cell? ⟨b0,5,none⟩=some (.int .i64 b)∧W'.cell? ⟨b0,6,none⟩=some (vl)∧b0<W'.heap.size) (((W.setCell ⟨N0b,0,none⟩ (.func (.func g1) #[] k1)).setCell ⟨N1b,0,none⟩ (.func (.func g2) #[] k2)).setCell ⟨N2b,0,none⟩ (.func (.func g3) #[] k3)):=by
   obtain ⟨kb,k0_0,k0_1,k0_2,k0_3,k0_4,k0_5,k0_6,kl⟩:=hS;refine ⟨(((kb.setCell (p:=⟨N0b,0,none⟩) N0.le _).setCell (p:=⟨N1b,0,none⟩) N1.le _).setCell (p:=⟨N2b,0,none⟩) N2.le _),?_,?_,?_,?_,?_,?_,?_,by rw [size_set,size_set,size_set];exact kl⟩
   ·rw [zco (h:=zad (by have:=N2.ge;omega)),zco (h:=zad (by have:=N1.ge;omega)),zco (h:=zad (by have:=N0.ge;omega))];exact k0_0
   ·rw [zco (h:=zad (by have:=N2.ge;omega)),zco (h:=zad (by have:=N1.ge;omega)),zco (h:=zad (by have:=N0.ge;omega))];exact k0_1
   ·rw [zco (h:=zad (by have:=N2.ge;omega)),zco (h:=zad (by have:=N1.ge;omega)),zco (h:=zad (by have:=N0.ge;omega))];exact k0_2
   ·rw [zco (h:=zad (by have:=N2.ge;omega)),zco (h:=zad (by have:=N1.ge;omega)),zco (h:=zad (by have:=N0.ge;omega))];exact k0_3
   ·rw [zco (h:=zad (by have:=N2.ge;omega)),zco (h:=zad (by have:=N1.ge;omega)),zco (h:=zad (by have:=N0.ge;omega))];exact k0_4
   ·rw [zco (h:=zad (by have:=N2.ge;omega)),zco (h:=zad (by have:=N1.ge;omega)),zco (h:=zad (by have:=N0.ge;omega))];exact k0_5
   ·rw [zco (h:=zad (by have:=N2.ge;omega)),zco (h:=zad (by have:=N1.ge;omega)),zco (h:=zad (by have:=N0.ge;omega))];exact k0_6
  refine hK.out _ _ hS2x (fun _=>?_);clear hK K;(try simp only [Act.put,zls,zl0,zl1]);refine wpAnyH_done (by kernel_rfl) ?_ _;exact fin.out g1 k1 g2 k2 g3 k3 N0b N1b N2b W hS V1 V2 V3 N0 N1 N2 D01 D02 D12
 replace hF:=zh hF;have h3:∀ (n:Nat) ⦃g1:FuncId⦄ ⦃k1:Array Value⦄ ⦃g2:FuncId⦄ ⦃k2:Array Value⦄ ⦃g3:FuncId⦄ ⦃k3:Array Value⦄ ⦃p0 p1 p2:Option Nat⦄ ⦃W:World⦄,(n=3+zc p0+zc p1+zc p2)→(zS W)→(Lgn w (b0) W [p0,p1,p2] [[.nilFunc],[.nilFunc],[.nilFunc]])→(VwX (XPo X [p0,p1,p2]) W (.func (.func g1) #[] k1) f1 n1)→(VwX (XPo X [p0,p1,p2]) W (.func (.func g2) #[] k2) f2 n2)→(VwX (XPo X [p0,p1,p2]) W (.func (.func g3) #[] k3) f3 n3)→wpAnyH Tryz.prog .any voOps Q zS n #[true,true,true,true,true,true,true,true,true,p0.isSome,p1.isSome,p2.isSome,false,false,false] (zT (.func (.func g1) #[] k1) (.func (.func g2) #[] k2) (.func (.func g3) #[] k3) (zO undef p0) (zO undef p1) (zO undef p2)) W:=by
  subst_vars
  intro n;refine Nat.strongRecOn n (fun n ih=>?_);replace ih:=zh ih;intro g1 k1 g2 k2 g3 k3 p0 p1 p2 W e hS G V1 V2 V3;obtain ⟨rs,hrs⟩:∃ rs:List Nat,rs=zR 9 p0++zR 10 p1++zR 11 p2:=⟨_,rfl⟩
  rcases p0 with _ | N0b <;> rcases p1 with _ | N1b <;> rcases p2 with _ | N2b
  all_goals (simp only [zc,Nat.reduceAdd] at e;subst e;dsimp only [zO,Option.isSome];dsimp only [zR,List.cons_append,List.nil_append,List.append_nil] at hrs)
  all_goals try (have g0:=N0b;have g1:=N1b;have g2:=N2b;clear g0 g1 g2;exact hF.out _ _ _ _ _ _ N0b N1b N2b W hS (V1.more (by rintro b (c | c | c | c);exact Or.inl (Or.inl c);exact Or.inl (Or.inr ⟨0,by rw [c];rfl⟩);exact Or.inl (Or.inr ⟨1,by rw [c];rfl⟩);exact Or.inl (Or.inr ⟨2,by rw [c];rfl⟩))) (V2.more (by rintro b (c | c | c | c);exact Or.inl (Or.inl c);exact Or.inl (Or.inr ⟨0,by rw [c];rfl⟩);exact Or.inl (Or.inr ⟨1,by rw [c];rfl⟩);exact Or.inl (Or.inr ⟨2,by rw [c];rfl⟩))) (V3.more (by rintro b (c | c | c | c);exact Or.inl (Or.inl c);exact Or.inl (Or.inr ⟨0,by rw [c];rfl⟩);exact Or.inl (Or.inr ⟨1,by rw [c];rfl⟩);exact Or.inl (Or.inr ⟨2,by rw [c];rfl⟩))) (G.f 0 _ rfl) (G.f 1 _ rfl) (G.f 2 _ rfl) (fun e=>by have:=G.d 0 1 N0b rfl (by rw [e];rfl);omega) (fun e=>by have:=G.d 0 2 N0b rfl (by rw [e];rfl);omega) (fun e=>by have:=G.d 1 2 N1b rfl (by rw [e];rfl);omega))
  all_goals (refine wpAnyH_ready (rs:=rs) (by subst hrs;kernel_rfl) (by subst hrs;simp) ?_;subst hrs)
  all_goals try ((fail_if_success have g9:=N0b);refine AllReadyH.cons voOpsq9 (fun K hK=>by
                        go_simp;have gb:=grow (here W) (.cells #[.nilFunc] 86);refine hK.out _ _ (mk.out _ _ hS gb) (fun hS'=>?_);(try simp only [Act.put,zls,zl0,zl1]);have q9:=ih.out _ (Nat.lt_succ_self _) (by rfl) hS' (G.n hS.1 hS.2.2.2.2.2.2.2.2 0 86) (V1.xn 0 (.cells #[.nilFunc] 86)) (V2.xn 0 (.cells #[.nilFunc] 86)) (V3.xn 0 (.cells #[.nilFunc] 86))
                        dsimp only [zO,Option.isSome] at q9
                        exact q9) ?_)
  all_goals try ((fail_if_success have g9:=N1b);refine AllReadyH.cons voOpsq10 (fun K hK=>by
                        go_simp;have gb:=grow (here W) (.cells #[.nilFunc] 86);refine hK.out _ _ (mk.out _ _ hS gb) (fun hS'=>?_);(try simp only [Act.put,zls,zl0,zl1]);have q9:=ih.out _ (Nat.lt_succ_self _) (by rfl) hS' (G.n hS.1 hS.2.2.2.2.2.2.2.2 1 86) (V1.xn 1 (.cells #[.nilFunc] 86)) (V2.xn 1 (.cells #[.nilFunc] 86)) (V3.xn 1 (.cells #[.nilFunc] 86))
                        dsimp only [zO,Option.isSome] at q9
                        exact q9) ?_)
  all_goals try ((fail_if_success have g9:=N2b);refine AllReadyH.cons voOpsq11 (fun K hK=>by
                        go_simp;have gb:=grow (here W) (.cells #[.nilFunc] 86);refine hK.out _ _ (mk.out _ _ hS gb) (fun hS'=>?_);(try simp only [Act.put,zls,zl0,zl1]);have q9:=ih.out _ (Nat.lt_succ_self _) (by rfl) hS' (G.n hS.1 hS.2.2.2.2.2.2.2.2 2 86) (V1.xn 2 (.cells #[.nilFunc] 86)) (V2.xn 2 (.cells #[.nilFunc] 86)) (V3.xn 2 (.cells #[.nilFunc] 86))
                        dsimp only [zO,Option.isSome] at q9
                        exact q9) ?_)
  all_goals exact AllReadyH.nil
 replace h3:=zh h3;have h2:∀ (n:Nat) ⦃g1:FuncId⦄ ⦃k1:Array Value⦄ ⦃g2:FuncId⦄ ⦃k2:Array Value⦄ ⦃p0 p1 p2:Option Nat⦄ ⦃W:World⦄,(n=4+zc p0+zc p1+zc p2)→(zS W)→(Lgn w (b0) W [p0,p1,p2] [[.nilFunc],[.nilFunc],[.nilFunc]])→(VwX (XPo X [p0,p1,p2]) W (.func (.func g1) #[] k1) f1 n1)→(VwX (XPo X [p0,p1,p2]) W (.func (.func g2) #[] k2) f2 n2)→wpAnyH Tryz.prog .any voOps Q zS n #[true,true,true,true,true,true,true,true,false,p0.isSome,p1.isSome,p2.isSome,false,false,false] (zT (.func (.func g1) #[] k1) (.func (.func g2) #[] k2) undef (zO undef p0) (zO undef p1) (zO undef p2)) W:=by
  subst_vars
  intro n;refine Nat.strongRecOn n (fun n ih=>?_);replace ih:=zh ih;intro g1 k1 g2 k2 p0 p1 p2 W e hS G V1 V2;obtain ⟨rs,hrs⟩:∃ rs:List Nat,rs=[8]++zR 9 p0++zR 10 p1++zR 11 p2:=⟨_,rfl⟩
  rcases p0 with _ | N0b <;> rcases p1 with _ | N1b <;> rcases p2 with _ | N2b
  all_goals (simp only [zc,Nat.reduceAdd] at e;subst e;dsimp only [zO,Option.isSome];dsimp only [zR,List.cons_append,List.nil_append,List.append_nil] at hrs)
  all_goals (refine wpAnyH_ready (rs:=rs) (by subst hrs;kernel_rfl) (by subst hrs;simp) ?_;subst hrs)
  all_goals refine AllReadyH.cons voOpsq8 (fun K hK=>by
    go_simp;go_at_call 123;refine ((H3.out _ hS.1 _ (G.x hS.1 hlo hX)).mono ?_);rintro e W' ⟨⟨v,rfl,V3⟩,hb⟩;obtain ⟨g3,k3,rfl⟩:=V3.shape;refine hK.out _ _ (mk.out _ W' hS hb) (fun hS'=>?_);(try simp only [Act.put,zls,zl0,zl1]);have q9:=h3.out _ rfl hS' (G.c hb) (V1.keep hb) (V2.keep hb) V3
    dsimp only [zc,zO,Option.isSome,Nat.reduceAdd] at q9
    exact q9) ?_
  all_goals try ((fail_if_success have g9:=N0b);refine AllReadyH.cons voOpsq9 (fun K hK=>by
                        go_simp;have gb:=grow (here W) (.cells #[.nilFunc] 86);refine hK.out _ _ (mk.out _ _ hS gb) (fun hS'=>?_);(try simp only [Act.put,zls,zl0,zl1]);have q9:=ih.out _ (Nat.lt_succ_self _) (by rfl) hS' (G.n hS.1 hS.2.2.2.2.2.2.2.2 0 86) (V1.xn 0 (.cells #[.nilFunc] 86)) (V2.xn 0 (.cells #[.nilFunc] 86))
                        dsimp only [zO,Option.isSome] at q9
                        exact q9) ?_)
  all_goals try ((fail_if_success have g9:=N1b);refine AllReadyH.cons voOpsq10 (fun K hK=>by
                        go_simp;have gb:=grow (here W) (.cells #[.nilFunc] 86);refine hK.out _ _ (mk.out _ _ hS gb) (fun hS'=>?_);(try simp only [Act.put,zls,zl0,zl1]);have q9:=ih.out _ (Nat.lt_succ_self _) (by rfl) hS' (G.n hS.1 hS.2.2.2.2.2.2.2.2 1 86) (V1.xn 1 (.cells #[.nilFunc] 86)) (V2.xn 1 (.cells #[.nilFunc] 86))
                        dsimp only [zO,Option.isSome] at q9
                        exact q9) ?_)
  all_goals try ((fail_if_success have g9:=N2b);refine AllReadyH.cons voOpsq11 (fun K hK=>by
                        go_simp;have gb:=grow (here W) (.cells #[.nilFunc] 86);refine hK.out _ _ (mk.out _ _ hS gb) (fun hS'=>?_);(try simp only [Act.put,zls,zl0,zl1]);have q9:=ih.out _ (Nat.lt_succ_self _) (by rfl) hS' (G.n hS.1 hS.2.2.2.2.2.2.2.2 2 86) (V1.xn 2 (.cells #[.nilFunc] 86)) (V2.xn 2 (.cells #[.nilFunc] 86))
                        dsimp only [zO,Option.isSome] at q9
                        exact q9) ?_)
  all_goals exact AllReadyH.nil
 replace h2:=zh h2;have h1:∀ (n:Nat) ⦃g1:FuncId⦄ ⦃k1:Array Value⦄ ⦃p0 p1 p2:Option Nat⦄ ⦃W:World⦄,(n=5+zc p0+zc p1+zc p2)→(zS W)→(Lgn w (b0) W [p0,p1,p2] [[.nilFunc],[.nilFunc],[.nilFunc]])→(VwX (XPo X [p0,p1,p2]) W (.func (.func g1) #[] k1) f1 n1)→wpAnyH Tryz.prog .any voOps Q zS n #[true,true,true,true,true,false,true,true,false,p0.isSome,p1.isSome,p2.isSome,false,false,false] (zT (.func (.func g1) #[] k1) undef undef (zO undef p0) (zO undef p1) (zO undef p2)) W:=by
  subst_vars
  intro n;refine Nat.strongRecOn n (fun n ih=>?_);replace ih:=zh ih;intro g1 k1 p0 p1 p2 W e hS G V1;obtain ⟨rs,hrs⟩:∃ rs:List Nat,rs=[5]++zR 9 p0++zR 10 p1++zR 11 p2:=⟨_,rfl⟩
  rcases p0 with _ | N0b <;> rcases p1 with _ | N1b <;> rcases p2 with _ | N2b
  all_goals (simp only [zc,Nat.reduceAdd] at e;subst e;dsimp only [zO,Option.isSome];dsimp only [zR,List.cons_append,List.nil_append,List.append_nil] at hrs)
  all_goals (refine wpAnyH_ready (rs:=rs) (by subst hrs;kernel_rfl) (by subst hrs;simp) ?_;subst hrs)
  all_goals refine AllReadyH.cons voOpsq5 (fun K hK=>by
    go_simp;go_at_call 124;refine ((H2.out _ hS.1 _ (G.x hS.1 hlo hX)).mono ?_);rintro e W' ⟨⟨v,rfl,V2⟩,hb⟩;obtain ⟨g2,k2,rfl⟩:=V2.shape;refine hK.out _ _ (mk.out _ W' hS hb) (fun hS'=>?_);(try simp only [Act.put,zls,zl0,zl1]);have q9:=h2.out _ rfl hS' (G.c hb) (V1.keep hb) V2
    dsimp only [zc,zO,Option.isSome,Nat.reduceAdd] at q9
    exact q9) ?_
  all_goals try ((fail_if_success have g9:=N0b);refine AllReadyH.cons voOpsq9 (fun K hK=>by
                        go_simp;have gb:=grow (here W) (.cells #[.nilFunc] 86);refine hK.out _ _ (mk.out _ _ hS gb) (fun hS'=>?_);(try simp only [Act.put,zls,zl0,zl1]);have q9:=ih.out _ (Nat.lt_succ_self _) (by rfl) hS' (G.n hS.1 hS.2.2.2.2.2.2.2.2 0 86) (V1.xn 0 (.cells #[.nilFunc] 86))
                        dsimp only [zO,Option.isSome] at q9
                        exact q9) ?_)
  all_goals try ((fail_if_success have g9:=N1b);refine AllReadyH.cons voOpsq10 (fun K hK=>by
                        go_simp;have gb:=grow (here W) (.cells #[.nilFunc] 86);refine hK.out _ _ (mk.out _ _ hS gb) (fun hS'=>?_);(try simp only [Act.put,zls,zl0,zl1]);have q9:=ih.out _ (Nat.lt_succ_self _) (by rfl) hS' (G.n hS.1 hS.2.2.2.2.2.2.2.2 1 86) (V1.xn 1 (.cells #[.nilFunc] 86))
                        dsimp only [zO,Option.isSome] at q9
                        exact q9) ?_)
  all_goals try ((fail_if_success have g9:=N2b);refine AllReadyH.cons voOpsq11 (fun K hK=>by
                        go_simp;have gb:=grow (here W) (.cells #[.nilFunc] 86);refine hK.out _ _ (mk.out _ _ hS gb) (fun hS'=>?_);(try simp only [Act.put,zls,zl0,zl1]);have q9:=ih.out _ (Nat.lt_succ_self _) (by rfl) hS' (G.n hS.1 hS.2.2.2.2.2.2.2.2 2 86) (V1.xn 2 (.cells #[.nilFunc] 86))
                        dsimp only [zO,Option.isSome] at q9
                        exact q9) ?_)
  all_goals exact AllReadyH.nil
 replace h1:=zh h1;have h0:∀ (n:Nat) ⦃p0 p1 p2:Option Nat⦄ ⦃W:World⦄,(n=6+zc p0+zc p1+zc p2)→(zS W)→(Lgn w (b0) W [p0,p1,p2] [[.nilFunc],[.nilFunc],[.nilFunc]])→wpAnyH Tryz.prog .any voOps Q zS n #[true,true,false,true,true,false,true,true,false,p0.isSome,p1.isSome,p2.isSome,false,false,false] (zT undef undef undef (zO undef p0) (zO undef p1) (zO undef p2)) W:=by
  subst_vars
  intro n;refine Nat.strongRecOn n (fun n ih=>?_);replace ih:=zh ih;intro p0 p1 p2 W e hS G;obtain ⟨rs,hrs⟩:∃ rs:List Nat,rs=[2]++zR 9 p0++zR 10 p1++zR 11 p2:=⟨_,rfl⟩
  rcases p0 with _ | N0b <;> rcases p1 with _ | N1b <;> rcases p2 with _ | N2b
  all_goals (simp only [zc,Nat.reduceAdd] at e;subst e;dsimp only [zO,Option.isSome];dsimp only [zR,List.cons_append,List.nil_append,List.append_nil] at hrs)
  all_goals (refine wpAnyH_ready (rs:=rs) (by subst hrs;kernel_rfl) (by subst hrs;simp) ?_;subst hrs)
  all_goals refine AllReadyH.cons voOpsq2 (fun K hK=>by
    go_simp;go_at_call 123;refine ((H1.out _ hS.1 _ (G.x hS.1 hlo hX)).mono ?_);rintro e W' ⟨⟨v,rfl,V1⟩,hb⟩;obtain ⟨g1,k1,rfl⟩:=V1.shape;refine hK.out _ _ (mk.out _ W' hS hb) (fun hS'=>?_);(try simp only [Act.put,zls,zl0,zl1]);have q9:=h1.out _ rfl hS' (G.c hb)  V1
    dsimp only [zc,zO,Option.isSome,Nat.reduceAdd] at q9
    exact q9) ?_
  all_goals try ((fail_if_success have g9:=N0b);refine AllReadyH.cons voOpsq9 (fun K hK=>by
                        go_simp;have gb:=grow (here W) (.cells #[.nilFunc] 86);refine hK.out _ _ (mk.out _ _ hS gb) (fun hS'=>?_);(try simp only [Act.put,zls,zl0,zl1]);have q9:=ih.out _ (Nat.lt_succ_self _) (by rfl) hS' (G.n hS.1 hS.2.2.2.2.2.2.2.2 0 86)
                        dsimp only [zO,Option.isSome] at q9
                        exact q9) ?_)
  all_goals try ((fail_if_success have g9:=N1b);refine AllReadyH.cons voOpsq10 (fun K hK=>by
                        go_simp;have gb:=grow (here W) (.cells #[.nilFunc] 86);refine hK.out _ _ (mk.out _ _ hS gb) (fun hS'=>?_);(try simp only [Act.put,zls,zl0,zl1]);have q9:=ih.out _ (Nat.lt_succ_self _) (by rfl) hS' (G.n hS.1 hS.2.2.2.2.2.2.2.2 1 86)
                        dsimp only [zO,Option.isSome] at q9
                        exact q9) ?_)
  all_goals try ((fail_if_success have g9:=N2b);refine AllReadyH.cons voOpsq11 (fun K hK=>by
                        go_simp;have gb:=grow (here W) (.cells #[.nilFunc] 86);refine hK.out _ _ (mk.out _ _ hS gb) (fun hS'=>?_);(try simp only [Act.put,zls,zl0,zl1]);have q9:=ih.out _ (Nat.lt_succ_self _) (by rfl) hS' (G.n hS.1 hS.2.2.2.2.2.2.2.2 2 86)
                        dsimp only [zO,Option.isSome] at q9
                        exact q9) ?_)
  all_goals exact AllReadyH.nil
 replace h0:=zh h0;have s0:=h0;clear h0 h1 h2 h3 hF;subst zSe zTe;refine wp_region_held_drew (S:=(fun W'=>Below w.heap.size w W'∧W'.cell? ⟨b0,0,none⟩=some (.int .i64 P)∧W'.cell? ⟨b0,1,none⟩=some (va)∧W'.cell? ⟨b0,2,none⟩=some (.int .i64 Q0)∧W'.cell? ⟨b0,3,none⟩=some (vb)∧W'.cell? ⟨b0,4,none⟩=some (.int .i64 a)∧W'.cell? ⟨b0,5,none⟩=some (.int .i64 b)∧W'.cell? ⟨b0,6,none⟩=some (vl)∧b0<W'.heap.size)) (by kernel_rfl) (mk.out _ _ hS0 (here w0).drew) (fun hS=>?_);clear hS0;refine wpAnyH_take (i:=0) (v:=.pointer (some ⟨b0,0,none⟩)) voOpsq0 (by kernel_rfl) (by kernel_rfl) (by kernel_rfl) (fun _ _ _ h=>hQ _ _ _ _ _ h) (Or.inl ⟨by rfl,?_⟩) hS ?_
 ·clear s0 mk hQ fin hS;intro w hSw;(try dsimp only at hSw);go_simp
 (try simp only [Act.put,zls,zl0,zl1]);refine wpAnyH_take (i:=1) (v:=.agg #[.int .i64 P,va]) voOpsq1 (by kernel_rfl) (by kernel_rfl) (by kernel_rfl) (fun _ _ _ h=>hQ _ _ _ _ _ h) (Or.inl ⟨by rfl,?_⟩) hS ?_
 ·clear s0 mk hQ fin hS;intro w hSw;(try dsimp only at hSw);go_simp
 (try simp only [Act.put,zls,zl0,zl1]);refine wpAnyH_take (i:=3) (v:=.pointer (some ⟨b0,6,none⟩)) voOpsq3 (by kernel_rfl) (by kernel_rfl) (by kernel_rfl) (fun _ _ _ h=>hQ _ _ _ _ _ h) (Or.inl ⟨by rfl,?_⟩) hS ?_
 ·clear s0 mk hQ fin hS;intro w hSw;(try dsimp only at hSw);go_simp
 (try simp only [Act.put,zls,zl0,zl1]);refine wpAnyH_take (i:=4) (v:=vl) voOpsq4 (by kernel_rfl) (by kernel_rfl) (by kernel_rfl) (fun _ _ _ h=>hQ _ _ _ _ _ h) (Or.inl ⟨by rfl,?_⟩) hS ?_
 ·clear s0 mk hQ fin hS;intro w hSw;(try dsimp only at hSw);go_simp
 (try simp only [Act.put,zls,zl0,zl1]);refine wpAnyH_take (i:=6) (v:=.pointer (some ⟨b0,2,none⟩)) voOpsq6 (by kernel_rfl) (by kernel_rfl) (by kernel_rfl) (fun _ _ _ h=>hQ _ _ _ _ _ h) (Or.inl ⟨by rfl,?_⟩) hS ?_
 ·clear s0 mk hQ fin hS;intro w hSw;(try dsimp only at hSw);go_simp
 (try simp only [Act.put,zls,zl0,zl1]);refine wpAnyH_take (i:=7) (v:=.agg #[.int .i64 Q0,vb]) voOpsq7 (by kernel_rfl) (by kernel_rfl) (by kernel_rfl) (fun _ _ _ h=>hQ _ _ _ _ _ h) (Or.inl ⟨by rfl,?_⟩) hS ?_
 ·clear s0 mk hQ fin hS;intro w hSw;(try dsimp only at hSw);go_simp
 (try simp only [Act.put,zls,zl0,zl1]);have g0:Lgn w (b0) (w0.drew) [none,none,none] [[.nilFunc],[.nilFunc],[.nilFunc]]:=⟨fun i b e=>by rcases i with _ | _ | _ | i <;> simp at e,fun i j b e=>by rcases i with _ | _ | _ | i <;> simp at e⟩;exact s0.out _ rfl hS g0
end Go.Proofs.YtmamlgaogpkagaaGreat
