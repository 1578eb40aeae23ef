/- LGen LThr. -/
import Derived.Below
import Derived.BigQuiet
import Derived.Deep.QuietTactic
import Derived.IntWalk
import Derived.Lib.Hide
import Derived.Lib.LaidTab
import Derived.Lib.SmallJoins
import Derived.Outline
import Derived.StillTailTactics
import Derived.WalkKit
import Derived.WalkLawsBesides
namespace Go.Proofs.YtmamlgaogpkagaaGreat
open Go.RowKit
set_option linter.unusedVariables false
set_option linter.unusedSimpArgs false
def I64 (n:Int):Prop:=-9223372036854775808≤n∧n≤9223372036854775807
theorem below_drewN {B:Nat} {a w:World} (h:Below B a w) (n:Nat):Below B a (w.drewN n):=⟨h.os,h.tape,h.output,h.size,h.block⟩
structure Kept (w:World) where
 wd:World
 ok:Below w.heap.size w wd
instance kept_some (w:World):Nonempty (Kept w):=⟨⟨w,Below.refl _ _⟩⟩
theorem wp_region_kept {P:Program} {id:Nat} {Q:Exit→Act→World→Prop} {a:Act} {w:World} {l:List Oper} (hm:P.follows .mixedOrders=true) (hB:Region.lexB .any l.toArray=true)
  (h:wpQuiet P l.toArray (fun w'=>∃ x:Kept w,w'=x.wd) (fun a'=>∀ w',(∃ x:Kept w,w'=x.wd)→Q .normal a' w') l a):(Code.region id l.toArray true).wp P Q a w :=
 wp_region_quiet (C:=fun w'=>∃ x:Kept w,w'=x.wd) hm hB ⟨⟨w.drew,(Below.refl _ _).drew⟩,rfl⟩ (by simpa using h)
theorem kept_call {P:Program} {f:FuncId} {args:Array Value} {w:World} {v:Value} (x:Kept w)
  (h:Calls P f args x.wd fun e w'=>e=.returned v∧Below x.wd.heap.size x.wd w'):Calls P f args x.wd fun e w''=>e=.returned v∧∃ m:Kept w,w''=m.wd :=
 h.mono fun _ w' ⟨he,hb⟩=>⟨he,⟨w',x.ok.trans (hb.mono x.ok.size)⟩,rfl⟩
theorem kept_same {P:Program} {f:FuncId} {args:Array Value} {w:World} {v:Value} (x:Kept w)
  (h:Calls P f args x.wd fun e w'=>e=.returned v∧x.wd=w'):Calls P f args x.wd fun e w''=>e=.returned v∧∃ m:Kept w,w''=m.wd :=
 h.mono fun _ _ ⟨he,hb⟩=>⟨he,x,hb.symm⟩
theorem down {w a b:World} (h:Below w.heap.size w a) (k:Below a.heap.size a b):Below w.heap.size w b:=h.trans (k.mono h.size)
theorem grow {a w:World} (h:Below a.heap.size a w) (o:Obj):Below a.heap.size a (w.alloc o):=h.alloc h.size o
theorem here (w:World):Below w.heap.size w w:=Below.refl _ _
structure Box (w:World) (b:Nat) (x y z:Value):Prop where
 c0:w.cell? ⟨b,0,none⟩=some x
 c1:w.cell? ⟨b,1,none⟩=some y
 c2:w.cell? ⟨b,2,none⟩=some z
 lt:b<w.heap.size
theorem Box.keep {w w':World} {b:Nat} {x y z:Value} (h:Box w b x y z) (hb:Below w.heap.size w w'):Box w' b x y z:=by
 have l:=h.lt;refine ⟨?_,?_,?_,by have:=hb.size;omega⟩
 ·rw [hb.cell (p:=⟨b,0,none⟩) l];exact h.c0
 ·rw [hb.cell (p:=⟨b,1,none⟩) l];exact h.c1
 ·rw [hb.cell (p:=⟨b,2,none⟩) l];exact h.c2
theorem size_set (w:World) (a:Addr) (v:Value):(w.setCell a v).heap.size=w.heap.size:=by simp [World.setCell]
theorem i64_wf {n:Int} (h:(Lit.int .i64 n).wf=true):I64 n:=bounds_i64 h
structure Two (w:World) (b:Nat) (x y:Value):Prop where
 c0:w.cell? ⟨b,0,none⟩=some x
 c1:w.cell? ⟨b,1,none⟩=some y
 lt:b<w.heap.size
theorem Two.keep {w w':World} {b:Nat} {x y:Value} (h:Two w b x y) (hb:Below w.heap.size w w'):Two w' b x y:=by
 have l:=h.lt;refine ⟨?_,?_,by have:=hb.size;omega⟩
 ·rw [hb.cell (p:=⟨b,0,none⟩) l];exact h.c0
 ·rw [hb.cell (p:=⟨b,1,none⟩) l];exact h.c1
theorem Two.new {w w':World} {x y:Value} {t:TypeId} (hb:Below (w.alloc (.cells #[x,y] t)).heap.size (w.alloc (.cells #[x,y] t)) w'):Two w' w.heap.size x y:=by
 have hs:w.heap.size<(w.alloc (.cells #[x,y] t)).heap.size:=by simp
 have:=hb.size;refine ⟨?_,?_,by simp at this;omega⟩
 ·rw [hb.cell (p:=⟨w.heap.size,0,none⟩) hs,World.cell?_alloc_new];rfl
 ·rw [hb.cell (p:=⟨w.heap.size,1,none⟩) hs,World.cell?_alloc_new];rfl
theorem Two.old {w:World} {b:Nat} {x y:Value} (h:Two w b x y) (o:Obj):Two (w.alloc o) b x y:=h.keep (grow (here w) o)
theorem Two.drewN {w:World} {b:Nat} {x y:Value} (h:Two w b x y) (n:Nat):Two (w.drewN n) b x y:=h.keep (below_drewN (here w) n)
theorem size_two (w:World) (o:Obj):(w.alloc o).heap.size=w.heap.size+1:=by simp
theorem Two.fst {w w':World} {o:Obj} {x y:Value} {t:TypeId} (hb:Below ((w.alloc (.cells #[x,y] t)).alloc o).heap.size ((w.alloc (.cells #[x,y] t)).alloc o) w'):Two w' w.heap.size x y :=
 ((Two.new (here (w.alloc (.cells #[x,y] t)))).old o).keep hb
theorem Two.snd {w w':World} {o:Obj} {x y:Value} {t:TypeId} (hb:Below ((w.alloc o).alloc (.cells #[x,y] t)).heap.size ((w.alloc o).alloc (.cells #[x,y] t)) w'):Two w' (w.heap.size+1) x y:=by
 have h:=Two.new hb;rw [size_two] at h;exact h
theorem at_world {G:World→Prop} {W:World} (C:World→Prop) (h:C W) (k:∀ W',C W'→G W'):G W:=k W h
structure One (w:World) (b:Nat) (v:Value):Prop where
 c:w.cell? ⟨b,0,none⟩=some v
 lt:b<w.heap.size
theorem One.keep {w w':World} {b:Nat} {v:Value} (h:One w b v) (hb:Below w.heap.size w w'):One w' b v :=
 ⟨by rw [hb.cell (p:=⟨b,0,none⟩) h.lt];exact h.c,by have:=h.lt;have:=hb.size;omega⟩
theorem One.new {w w':World} {v:Value} {t:TypeId} (hb:Below (w.alloc (.cells #[v] t)).heap.size (w.alloc (.cells #[v] t)) w'):One w' w.heap.size v:=by
 have hs:w.heap.size<(w.alloc (.cells #[v] t)).heap.size:=by simp
 have:=hb.size;refine ⟨?_,by simp at this;omega⟩;rw [hb.cell (p:=⟨w.heap.size,0,none⟩) hs,World.cell?_alloc_new];rfl
theorem One.old {w:World} {b:Nat} {v:Value} (h:One w b v) (o:Obj):One (w.alloc o) b v:=h.keep (grow (here w) o)
theorem zh {p : Prop} (h : p) : Hid p := h
theorem zls {α : Type} (l : List α) (i : Nat) (a : α) : l.toArray.setIfInBounds i a = (l.set i a).toArray := by simp
theorem zl0 {α : Type} (a b : α) (l : List α) : (a :: l).set 0 b = b :: l := rfl
theorem zl1 {α : Type} (a b : α) (l : List α) (n : Nat) : (a :: l).set (n + 1) b = a :: l.set n b := rfl
theorem zco {w : World} {p q : Addr} {v : Value} (h : p ≠ q) : (w.setCell p v).cell? q = w.cell? q := World.cell?_setCell_other _ _ _ _ h
theorem zad {b c i j : Nat} (h : b ≠ c) : (⟨b, i, none⟩ : Addr) ≠ ⟨c, j, none⟩ := fun e => h (congrArg Addr.block e)
theorem zdt {p : Prop} [inst : Decidable p] (h : p) : decide p = true := decide_eq_true h
theorem zdf {p : Prop} [inst : Decidable p] (h : ¬ p) : decide p = false := decide_eq_false h
theorem zd {a w w' : World} (h : Hid (Below a.heap.size a w)) (k : Below w.heap.size w w') : Hid (Below a.heap.size a w') := down h.out k
theorem zll {n m k : Nat} (h : n < m) (h' : m ≤ k) : n < k := Nat.lt_of_lt_of_le h h'
theorem zcn {w : World} {b c i j : Nat} {v : Value} (h : b ≠ c) : (w.setCell ⟨c, j, none⟩ v).cell? ⟨b, i, none⟩ = w.cell? ⟨b, i, none⟩ := zco (zad h.symm)
theorem Two.fst3 {w w':World} {o o':Obj} {x y:Value} {t:TypeId} (hb:Below (((w.alloc (.cells #[x,y] t)).alloc o).alloc o').heap.size (((w.alloc (.cells #[x,y] t)).alloc o).alloc o') w'):Two w' w.heap.size x y :=
 (((Two.new (here (w.alloc (.cells #[x,y] t)))).old o).old o').keep hb
theorem Two.snd3 {w w':World} {o o':Obj} {x y:Value} {t:TypeId} (hb:Below (((w.alloc o).alloc (.cells #[x,y] t)).alloc o').heap.size (((w.alloc o).alloc (.cells #[x,y] t)).alloc o') w'):Two w' (w.heap.size+1) x y :=
 ((Two.snd (here ((w.alloc o).alloc (.cells #[x,y] t)))).old o').keep hb
end Go.Proofs.YtmamlgaogpkagaaGreat
