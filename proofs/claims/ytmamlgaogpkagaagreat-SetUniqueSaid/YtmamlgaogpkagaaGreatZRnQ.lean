/- RnQ. -/
import Derived.Test.YtmamlgaogpkagaaGreatZLPlain
import Derived.Test.YtmamlgaogpkagaaGreatZLSl
import Derived.Shelf.GgSortFunc.RowK
import Derived.Shelf.SlSortCmp.InsertionK
namespace Go.Proofs.YtmamlgaogpkagaaGreat
open Go.RowKit
set_option linter.unusedVariables false
set_option linter.unusedSimpArgs false
theorem sort_list {d d':Array Sp} (hp:Go.Sort.PermIn 0 d.size d d') (hs:∀ i j,0≤i→i<j→j<d.size→¬ (d'[j]!).1<(d'[i]!).1) :
  d'.size=d.size∧(∀ p,p∈d'.toList↔p∈d.toList)∧∀ i j,i<j→j<d'.toList.length→(d'.toList.getD i (0,0)).1≤(d'.toList.getD j (0,0)).1:=by
 obtain ⟨sz,-,pm⟩:=hp;have e1:d'.extract 0 d.size=d':=by rw [← sz];simp
 have e2:d.extract 0 d.size=d:=by simp
 rw [e1,e2] at pm;refine ⟨sz,fun p=>pm.mem_iff,fun i j hij hj=>?_⟩;have hj':j<d.size:=by rw [← sz];simpa using hj
 have:=hs i j (Nat.zero_le _) hij hj';have g:∀ k,k<d.size→d'.toList.getD k (0,0)=d'[k]! := fun k hk=>by
  rw [List.getD_eq_getElem?_getD,List.getElem?_eq_getElem (by simp;omega)];rw [getElem!_pos d' k (by omega)];rfl
 rw [g i (by omega),g j hj'];omega
theorem below_put {α:Type} [Inhabited α] {enc:α→Value} {B:Nat} {w0 w:World} {g q:Nat} {d:Array α} (h:Below B w0 w) (hg:B≤g):Below B w0 (Go.Sort.putRow enc (Go.Sort.ahead w q) g 0 d) :=
 ⟨h.os,h.tape,h.output,by simpa [Go.Sort.putRow,Go.Sort.mapBlock,Go.Sort.ahead] using h.size,fun k hk=>by
  rw [← h.block k hk]
  simp [Go.Sort.putRow,Go.Sort.mapBlock,Go.Sort.ahead,Array.getElem?_modify,show g≠k by omega]⟩
theorem below_gr {B:Nat} {w0 w:World} {os:Array Obj} (h:Below B w0 w) (hB:B≤w0.heap.size):Below B w0 (Go.Sort.grow w os) :=
 ⟨h.os,h.tape,h.output,by simp only [Go.Sort.size_grow];have:=h.size;omega,fun k hk=>by
  rw [← h.block k hk];have:=h.size
  simp only [Go.Sort.grow,Array.getElem?_append]
  rw [if_pos (by omega)]⟩
def encS (x:Sp):List Value:=[.int .i64 x.1,.int .i64 x.2]
theorem below_sort {B:Nat} {w0 w:World} {g n:Nat} {d:Array Sp} {os:Array Obj} (h:Below B w0 w) (hg:B≤g) (hB:B≤w0.heap.size):Below B w0 (sortWorldK encS 2 w g 0 n d os) :=
 below_gr (below_put h hg) hB
theorem holds_own {w:World} {base:Nat} {e:TypeId} {g n cap:Nat} {L:List Sp} (hl:L.length=n) (h:w.ownsRow base e 2 (.slice (some ⟨g,0,none⟩) n cap) n (pairs L)):Go.Sort.HoldsK encS 2 w g 0 L.toArray:=by
 intro t ht;rw [Go.Sort.size_flatK] at ht;have ht2:t<L.length * 2:=by simpa using ht
 rw [Go.Sort.get_flatK _ _ _ _ ht];have hd:t / 2<L.length:=by omega
 have ge:(L.toArray)[t / 2]! = L.getD (t / 2) (0,0):=by
  rw [getElem!_pos _ _ (by simpa using hd),List.getD_eq_getElem?_getD,List.getElem?_eq_getElem hd];simp
 rw [ge,Nat.zero_add];refine ⟨?_,h.frozenAt t⟩;rw [h.cellAt t (by omega)];have q:=pairs_get L (t / 2) hd;have m:t % 2=0∨t % 2=1:=by omega
 rcases m with m | m
 ·rw [m,show t=2 * (t / 2) by omega,q.1];rw [show 2 * (t / 2) / 2=t / 2 by omega];rfl
 ·rw [m,show t=2 * (t / 2)+1 by omega,q.2];rw [show (2 * (t / 2)+1) / 2=t / 2 by omega];rfl
theorem lies_of {w:World} {b off:Nat} {L:List Sp} (l:b<w.heap.size) (h:∀ j,j<L.length→w.cell? ⟨b,off+j * 2,none⟩=some (.int .i64 (L.getD j (0,0)).1)∧w.cell? ⟨b,off+j * 2+1,none⟩=some (.int .i64 (L.getD j (0,0)).2)):Lies w b off (pairs L):=by
 refine ⟨l,fun t u hu=>?_⟩;have ht:=(List.getElem?_eq_some_iff.1 hu).1;rw [pairs_length] at ht;have hd:t / 2<L.length:=by omega
 have q:=pairs_get L (t / 2) hd;have c:=h _ hd;have m:t=2 * (t / 2)∨t=2 * (t / 2)+1:=by omega
 rcases m with m | m
 ·rw [m,q.1] at hu
  injection hu with hu
  rw [← hu,show off+t=off+t / 2 * 2 by omega];exact c.1
 ·rw [m,q.2] at hu
  injection hu with hu
  rw [← hu,show off+t=off+t / 2 * 2+1 by omega];exact c.2
theorem lies_held {w:World} {g:Nat} {d:Array Sp} (l:g<w.heap.size) (h:Go.Sort.HoldsK encS 2 w g 0 d):Lies w g 0 (pairs d.toList):=by
 refine lies_of l fun j hj=>?_;have hj':j<d.size:=by simpa using hj
 have ge:d.toList.getD j (0,0)=d[j]! := by
  rw [List.getD_eq_getElem?_getD,List.getElem?_eq_getElem hj,getElem!_pos d j hj'];rfl
 rw [ge];have a:=(h.cell hj' (c:=0) (by omega)).1;have b:=(h.cell hj' (c:=1) (by omega)).1;exact ⟨a,b⟩
end Go.Proofs.YtmamlgaogpkagaaGreat
