/- LGen LGena LThr. -/
import Derived.Below
import Derived.BigQuiet
import Derived.Deep.QuietTactic
import Derived.IntWalk
import Derived.Lib.Hide
import Derived.Lib.LaidTab
import Derived.Lib.SmallJoins
import Derived.Outline
import Derived.StillTailTactics
import Derived.WalkKit
import Derived.WalkLawsBesides
namespace Go.Proofs.YtmamlgaogpkagaaGreat
open Go.RowKit
set_option linter.unusedVariables false
set_option linter.unusedSimpArgs false
def I64 (n:Int):Prop:=-9223372036854775808≤n∧n≤9223372036854775807
theorem below_drewN {B:Nat} {a w:World} (h:Below B a w) (n:Nat):Below B a (w.drewN n):=⟨h.os,h.tape,h.output,h.size,h.block⟩
theorem box_cells {w w1:World} {a b c:Value} {t:TypeId} (hb:Below (w.alloc (.cells #[a,b,c] t)).heap.size (w.alloc (.cells #[a,b,c] t)) w1) :
    w1.cell? ⟨w.heap.size,0,none⟩=some a∧w1.cell? ⟨w.heap.size,1,none⟩=some b∧w1.cell? ⟨w.heap.size,2,none⟩=some c:=by
  have hs:w.heap.size<(w.alloc (.cells #[a,b,c] t)).heap.size:=by simp
  refine ⟨?_,?_,?_⟩
  · rw [hb.cell (p:=⟨w.heap.size,0,none⟩) hs,World.cell?_alloc_new];rfl
  · rw [hb.cell (p:=⟨w.heap.size,1,none⟩) hs,World.cell?_alloc_new];rfl
  · rw [hb.cell (p:=⟨w.heap.size,2,none⟩) hs,World.cell?_alloc_new];rfl
structure Kept (w:World) where
 wd:World
 ok:Below w.heap.size w wd
instance kept_some (w:World):Nonempty (Kept w):=⟨⟨w,Below.refl _ _⟩⟩
theorem wp_region_kept {P:Program} {id:Nat} {Q:Exit→Act→World→Prop} {a:Act} {w:World} {l:List Oper} (hm:P.follows .mixedOrders=true) (hB:Region.lexB .any l.toArray=true)
    (h:wpQuiet P l.toArray (fun w'=>∃ x:Kept w,w'=x.wd) (fun a'=>∀ w',(∃ x:Kept w,w'=x.wd)→Q .normal a' w') l a):(Code.region id l.toArray true).wp P Q a w :=
  wp_region_quiet (C:=fun w'=>∃ x:Kept w,w'=x.wd) hm hB ⟨⟨w.drew,(Below.refl _ _).drew⟩,rfl⟩ (by simpa using h)
theorem kept_call {P:Program} {f:FuncId} {args:Array Value} {w:World} {v:Value} (x:Kept w)
    (h:Calls P f args x.wd fun e w'=>e=.returned v∧Below x.wd.heap.size x.wd w'):Calls P f args x.wd fun e w''=>e=.returned v∧∃ m:Kept w,w''=m.wd :=
  h.mono fun _ w' ⟨he,hb⟩=>⟨he,⟨w',x.ok.trans (hb.mono x.ok.size)⟩,rfl⟩
theorem down {w a b:World} (h:Below w.heap.size w a) (k:Below a.heap.size a b):Below w.heap.size w b:=h.trans (k.mono h.size)
theorem grow {a w:World} (h:Below a.heap.size a w) (o:Obj):Below a.heap.size a (w.alloc o):=h.alloc h.size o
theorem here (w:World):Below w.heap.size w w:=Below.refl _ _
structure Box (w:World) (b:Nat) (x y z:Value):Prop where
 c0:w.cell? ⟨b,0,none⟩=some x
 c1:w.cell? ⟨b,1,none⟩=some y
 c2:w.cell? ⟨b,2,none⟩=some z
 lt:b<w.heap.size
theorem Box.keep {w w':World} {b:Nat} {x y z:Value} (h:Box w b x y z) (hb:Below w.heap.size w w'):Box w' b x y z:=by
 have l:=h.lt;refine ⟨?_,?_,?_,by have:=hb.size;omega⟩
 ·rw [hb.cell (p:=⟨b,0,none⟩) l];exact h.c0
 ·rw [hb.cell (p:=⟨b,1,none⟩) l];exact h.c1
 ·rw [hb.cell (p:=⟨b,2,none⟩) l];exact h.c2
theorem Box.new {w w':World} {x y z:Value} {t:TypeId} (hb:Below (w.alloc (.cells #[x,y,z] t)).heap.size (w.alloc (.cells #[x,y,z] t)) w'):Box w' w.heap.size x y z:=by
 obtain ⟨h0,h1,h2⟩:=box_cells hb;have:=hb.size;exact ⟨h0,h1,h2,by simp at this;omega⟩
theorem Box.old {w:World} {b:Nat} {x y z:Value} (h:Box w b x y z) (o:Obj):Box (w.alloc o) b x y z:=h.keep (grow (here w) o)
theorem Box.drewN {w:World} {b:Nat} {x y z:Value} (h:Box w b x y z) (n:Nat):Box (w.drewN n) b x y z:=h.keep (below_drewN (here w) n)
structure Free (w:World) (b:Nat):Prop where
 f0:w.frozen? ⟨b,0,none⟩=false
 f1:w.frozen? ⟨b,1,none⟩=false
 f2:w.frozen? ⟨b,2,none⟩=false
theorem Free.new {w w':World} {x y z:Value} {t:TypeId} (hb:Below (w.alloc (.cells #[x,y,z] t)).heap.size (w.alloc (.cells #[x,y,z] t)) w'):Free w' w.heap.size:=by
 have e:w.heap.size<(w.alloc (.cells #[x,y,z] t)).heap.size:=by simp
 refine ⟨?_,?_,?_⟩
 ·rw [hb.frozen (p:=⟨w.heap.size,0,none⟩) e];exact World.frozen?_alloc_new _ _ _ _
 ·rw [hb.frozen (p:=⟨w.heap.size,1,none⟩) e];exact World.frozen?_alloc_new _ _ _ _
 ·rw [hb.frozen (p:=⟨w.heap.size,2,none⟩) e];exact World.frozen?_alloc_new _ _ _ _
theorem Free.set {w:World} {b:Nat} (h:Free w b) (a:Addr) (v:Value):Free (w.setCell a v) b :=
 ⟨by rw [World.frozen?_setCell];exact h.f0,by rw [World.frozen?_setCell];exact h.f1,by rw [World.frozen?_setCell];exact h.f2⟩
theorem Free.keep {w w':World} {b:Nat} (h:Free w b) (l:b<w.heap.size) (hb:Below w.heap.size w w'):Free w' b :=
 ⟨by rw [hb.frozen (p:=⟨b,0,none⟩) l];exact h.f0,by rw [hb.frozen (p:=⟨b,1,none⟩) l];exact h.f1,by rw [hb.frozen (p:=⟨b,2,none⟩) l];exact h.f2⟩
theorem Free.drewN {w:World} {b:Nat} (h:Free w b) (n:Nat):Free (w.drewN n) b:=⟨h.f0,h.f1,h.f2⟩
theorem Box.drew {w:World} {b:Nat} {x y z:Value} (h:Box w b x y z):Box w.drew b x y z:=h.drewN 1
theorem size_set (w:World) (a:Addr) (v:Value):(w.setCell a v).heap.size=w.heap.size:=by simp [World.setCell]
theorem Box.far {w:World} {b b':Nat} {x y z:Value} (h:Box w b' x y z) (hne:b≠b') (o:Nat) (v:Value):Box (w.setCell ⟨b,o,none⟩ v) b' x y z:=by
 have q:∀ j,(⟨b,o,none⟩:Addr)≠⟨b',j,none⟩:=fun j e=>hne (congrArg Addr.block e);exact ⟨by rw [World.cell?_setCell_other (h:=q 0)];exact h.c0,by rw [World.cell?_setCell_other (h:=q 1)];exact h.c1,by rw [World.cell?_setCell_other (h:=q 2)];exact h.c2,by rw [size_set];exact h.lt⟩
theorem Box.put1 {w:World} {b:Nat} {x y z:Value} (h:Box w b x y z) (v:Value):Box (w.setCell ⟨b,1,none⟩ v) b x v z :=
 ⟨by rw [World.cell?_setCell_other (h:=by simp)];exact h.c0,World.cell?_setCell_same w _ v h.c1,by rw [World.cell?_setCell_other (h:=by simp)];exact h.c2,by rw [size_set];exact h.lt⟩
theorem Box.put2 {w:World} {b:Nat} {x y z:Value} (h:Box w b x y z) (v:Value):Box (w.setCell ⟨b,2,none⟩ v) b x y v :=
 ⟨by rw [World.cell?_setCell_other (h:=by simp)];exact h.c0,by rw [World.cell?_setCell_other (h:=by simp)];exact h.c1,World.cell?_setCell_same w _ v h.c2,by rw [size_set];exact h.lt⟩
theorem i64_wf {n:Int} (h:(Lit.int .i64 n).wf=true):I64 n:=bounds_i64 h
structure Two (w:World) (b:Nat) (x y:Value):Prop where
 c0:w.cell? ⟨b,0,none⟩=some x
 c1:w.cell? ⟨b,1,none⟩=some y
 lt:b<w.heap.size
theorem Two.keep {w w':World} {b:Nat} {x y:Value} (h:Two w b x y) (hb:Below w.heap.size w w'):Two w' b x y:=by
 have l:=h.lt;refine ⟨?_,?_,by have:=hb.size;omega⟩
 ·rw [hb.cell (p:=⟨b,0,none⟩) l];exact h.c0
 ·rw [hb.cell (p:=⟨b,1,none⟩) l];exact h.c1
theorem Two.new {w w':World} {x y:Value} {t:TypeId} (hb:Below (w.alloc (.cells #[x,y] t)).heap.size (w.alloc (.cells #[x,y] t)) w'):Two w' w.heap.size x y:=by
 have hs:w.heap.size<(w.alloc (.cells #[x,y] t)).heap.size:=by simp
 have:=hb.size;refine ⟨?_,?_,by simp at this;omega⟩
 ·rw [hb.cell (p:=⟨w.heap.size,0,none⟩) hs,World.cell?_alloc_new];rfl
 ·rw [hb.cell (p:=⟨w.heap.size,1,none⟩) hs,World.cell?_alloc_new];rfl
theorem Two.old {w:World} {b:Nat} {x y:Value} (h:Two w b x y) (o:Obj):Two (w.alloc o) b x y:=h.keep (grow (here w) o)
theorem Two.drewN {w:World} {b:Nat} {x y:Value} (h:Two w b x y) (n:Nat):Two (w.drewN n) b x y:=h.keep (below_drewN (here w) n)
theorem size_two (w:World) (o:Obj):(w.alloc o).heap.size=w.heap.size+1:=by simp
theorem Box.snd {w w':World} {o:Obj} {x y z:Value} {t:TypeId} (hb:Below ((w.alloc o).alloc (.cells #[x,y,z] t)).heap.size ((w.alloc o).alloc (.cells #[x,y,z] t)) w'):Box w' (w.heap.size+1) x y z:=by
 have h:=Box.new hb;rw [size_two] at h;exact h
theorem Free.snd {w w':World} {o:Obj} {x y z:Value} {t:TypeId} (hb:Below ((w.alloc o).alloc (.cells #[x,y,z] t)).heap.size ((w.alloc o).alloc (.cells #[x,y,z] t)) w'):Free w' (w.heap.size+1):=by
 have h:=Free.new hb;rw [size_two] at h;exact h
theorem Two.fst {w w':World} {o:Obj} {x y:Value} {t:TypeId} (hb:Below ((w.alloc (.cells #[x,y] t)).alloc o).heap.size ((w.alloc (.cells #[x,y] t)).alloc o) w'):Two w' w.heap.size x y :=
 ((Two.new (here (w.alloc (.cells #[x,y] t)))).old o).keep hb
theorem Two.snd {w w':World} {o:Obj} {x y:Value} {t:TypeId} (hb:Below ((w.alloc o).alloc (.cells #[x,y] t)).heap.size ((w.alloc o).alloc (.cells #[x,y] t)) w'):Two w' (w.heap.size+1) x y:=by
 have h:=Two.new hb;rw [size_two] at h;exact h
theorem at_world {G:World→Prop} {W:World} (C:World→Prop) (h:C W) (k:∀ W',C W'→G W'):G W:=k W h
structure One (w:World) (b:Nat) (v:Value):Prop where
 c:w.cell? ⟨b,0,none⟩=some v
 lt:b<w.heap.size
theorem One.keep {w w':World} {b:Nat} {v:Value} (h:One w b v) (hb:Below w.heap.size w w'):One w' b v :=
 ⟨by rw [hb.cell (p:=⟨b,0,none⟩) h.lt];exact h.c,by have:=h.lt;have:=hb.size;omega⟩
theorem One.new {w w':World} {v:Value} {t:TypeId} (hb:Below (w.alloc (.cells #[v] t)).heap.size (w.alloc (.cells #[v] t)) w'):One w' w.heap.size v:=by
 have hs:w.heap.size<(w.alloc (.cells #[v] t)).heap.size:=by simp
 have:=hb.size;refine ⟨?_,by simp at this;omega⟩;rw [hb.cell (p:=⟨w.heap.size,0,none⟩) hs,World.cell?_alloc_new];rfl
theorem One.old {w:World} {b:Nat} {v:Value} (h:One w b v) (o:Obj):One (w.alloc o) b v:=h.keep (grow (here w) o)
theorem One.drewN {w:World} {b:Nat} {v:Value} (h:One w b v) (n:Nat):One (w.drewN n) b v:=h.keep (below_drewN (here w) n)
theorem One.fst {w w':World} {o:Obj} {v:Value} {t:TypeId} (hb:Below ((w.alloc (.cells #[v] t)).alloc o).heap.size ((w.alloc (.cells #[v] t)).alloc o) w'):One w' w.heap.size v :=
 ((One.new (here (w.alloc (.cells #[v] t)))).old o).keep hb
theorem zh {p : Prop} (h : p) : Hid p := h
theorem zls {α : Type} (l : List α) (i : Nat) (a : α) : l.toArray.setIfInBounds i a = (l.set i a).toArray := by simp
theorem zl0 {α : Type} (a b : α) (l : List α) : (a :: l).set 0 b = b :: l := rfl
theorem zl1 {α : Type} (a b : α) (l : List α) (n : Nat) : (a :: l).set (n + 1) b = a :: l.set n b := rfl
theorem zco {w : World} {p q : Addr} {v : Value} (h : p ≠ q) : (w.setCell p v).cell? q = w.cell? q := World.cell?_setCell_other _ _ _ _ h
theorem zad {b c i j : Nat} (h : b ≠ c) : (⟨b, i, none⟩ : Addr) ≠ ⟨c, j, none⟩ := fun e => h (congrArg Addr.block e)
theorem zdt {p : Prop} [inst : Decidable p] (h : p) : decide p = true := decide_eq_true h
theorem zdf {p : Prop} [inst : Decidable p] (h : ¬ p) : decide p = false := decide_eq_false h
theorem zd {a w w' : World} (h : Hid (Below a.heap.size a w)) (k : Below w.heap.size w w') : Hid (Below a.heap.size a w') := down h.out k
theorem zll {n m k : Nat} (h : n < m) (h' : m ≤ k) : n < k := Nat.lt_of_lt_of_le h h'
theorem zcn {w : World} {b c i j : Nat} {v : Value} (h : b ≠ c) : (w.setCell ⟨c, j, none⟩ v).cell? ⟨b, i, none⟩ = w.cell? ⟨b, i, none⟩ := zco (zad h.symm)
theorem kept_same {P:Program} {f:FuncId} {args:Array Value} {w:World} {v:Value} (x:Kept w)
    (h:Calls P f args x.wd fun e w'=>e=.returned v∧x.wd=w'):Calls P f args x.wd fun e w''=>e=.returned v∧∃ m:Kept w,w''=m.wd :=
  h.mono fun _ _ ⟨he,hb⟩=>⟨he,x,hb.symm⟩
theorem Two.fst3 {w w':World} {o o':Obj} {x y:Value} {t:TypeId} (hb:Below (((w.alloc (.cells #[x,y] t)).alloc o).alloc o').heap.size (((w.alloc (.cells #[x,y] t)).alloc o).alloc o') w'):Two w' w.heap.size x y :=
 (((Two.new (here (w.alloc (.cells #[x,y] t)))).old o).old o').keep hb
theorem Two.snd3 {w w':World} {o o':Obj} {x y:Value} {t:TypeId} (hb:Below (((w.alloc o).alloc (.cells #[x,y] t)).alloc o').heap.size (((w.alloc o).alloc (.cells #[x,y] t)).alloc o') w'):Two w' (w.heap.size+1) x y :=
 ((Two.snd (here ((w.alloc o).alloc (.cells #[x,y] t)))).old o').keep hb
theorem One.fst3 {w w':World} {o o':Obj} {x:Value} {t:TypeId} (hb:Below (((w.alloc (.cells #[x] t)).alloc o).alloc o').heap.size (((w.alloc (.cells #[x] t)).alloc o).alloc o') w'):One w' w.heap.size x :=
 (((One.new (here (w.alloc (.cells #[x] t)))).old o).old o').keep hb
theorem One.snd3 {w w':World} {o o':Obj} {x:Value} {t:TypeId} (hb:Below (((w.alloc o).alloc (.cells #[x] t)).alloc o').heap.size (((w.alloc o).alloc (.cells #[x] t)).alloc o') w'):One w' (w.heap.size+1) x:=by
 have h:=((One.new (here ((w.alloc o).alloc (.cells #[x] t)))).old o').keep hb;rw [size_two] at h;exact h
end Go.Proofs.YtmamlgaogpkagaaGreat
