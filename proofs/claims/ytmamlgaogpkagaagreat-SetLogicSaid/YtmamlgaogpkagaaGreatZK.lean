/- Boxes: what they hold, handed on all at once. -/
import Derived.Test.YtmamlgaogpkagaaGreatQLSl
namespace Go.Proofs.YtmamlgaogpkagaaGreat
open Go.RowKit
set_option linter.unusedVariables false
theorem Bxs.k1 {C:Prop} {w:World} {b:Nat} {u0:Value} (h:Bxs w b [u0]) (k:w.cell? ⟨b,0,none⟩=some u0→b<w.heap.size→C):C:=k (h.c 0 _ rfl) h.lt
theorem Bxo.k1 {C:Prop} {w:World} {b:Nat} {u0:Value} (h:Bxo w b [u0]) (k:w.cell? ⟨b,0,none⟩=some u0→w.frozen? ⟨b,0,none⟩=false→b<w.heap.size→C):C:=k (h.t.c 0 _ rfl) (h.f 0) h.t.lt
theorem Bxs.k2 {C:Prop} {w:World} {b:Nat} {u0 u1:Value} (h:Bxs w b [u0,u1]) (k:w.cell? ⟨b,0,none⟩=some u0→w.cell? ⟨b,1,none⟩=some u1→b<w.heap.size→C):C:=k (h.c 0 _ rfl) (h.c 1 _ rfl) h.lt
theorem Bxo.k2 {C:Prop} {w:World} {b:Nat} {u0 u1:Value} (h:Bxo w b [u0,u1]) (k:w.cell? ⟨b,0,none⟩=some u0→w.frozen? ⟨b,0,none⟩=false→w.cell? ⟨b,1,none⟩=some u1→w.frozen? ⟨b,1,none⟩=false→b<w.heap.size→C):C:=k (h.t.c 0 _ rfl) (h.f 0) (h.t.c 1 _ rfl) (h.f 1) h.t.lt
theorem Bxs.k3 {C:Prop} {w:World} {b:Nat} {u0 u1 u2:Value} (h:Bxs w b [u0,u1,u2]) (k:w.cell? ⟨b,0,none⟩=some u0→w.cell? ⟨b,1,none⟩=some u1→w.cell? ⟨b,2,none⟩=some u2→b<w.heap.size→C):C:=k (h.c 0 _ rfl) (h.c 1 _ rfl) (h.c 2 _ rfl) h.lt
theorem Bxo.k3 {C:Prop} {w:World} {b:Nat} {u0 u1 u2:Value} (h:Bxo w b [u0,u1,u2]) (k:w.cell? ⟨b,0,none⟩=some u0→w.frozen? ⟨b,0,none⟩=false→w.cell? ⟨b,1,none⟩=some u1→w.frozen? ⟨b,1,none⟩=false→w.cell? ⟨b,2,none⟩=some u2→w.frozen? ⟨b,2,none⟩=false→b<w.heap.size→C):C:=k (h.t.c 0 _ rfl) (h.f 0) (h.t.c 1 _ rfl) (h.f 1) (h.t.c 2 _ rfl) (h.f 2) h.t.lt
theorem Bxs.k7 {C:Prop} {w:World} {b:Nat} {u0 u1 u2 u3 u4 u5 u6:Value} (h:Bxs w b [u0,u1,u2,u3,u4,u5,u6]) (k:w.cell? ⟨b,0,none⟩=some u0→w.cell? ⟨b,1,none⟩=some u1→w.cell? ⟨b,2,none⟩=some u2→w.cell? ⟨b,3,none⟩=some u3→w.cell? ⟨b,4,none⟩=some u4→w.cell? ⟨b,5,none⟩=some u5→w.cell? ⟨b,6,none⟩=some u6→b<w.heap.size→C):C:=k (h.c 0 _ rfl) (h.c 1 _ rfl) (h.c 2 _ rfl) (h.c 3 _ rfl) (h.c 4 _ rfl) (h.c 5 _ rfl) (h.c 6 _ rfl) h.lt
theorem Bxo.k7 {C:Prop} {w:World} {b:Nat} {u0 u1 u2 u3 u4 u5 u6:Value} (h:Bxo w b [u0,u1,u2,u3,u4,u5,u6]) (k:w.cell? ⟨b,0,none⟩=some u0→w.frozen? ⟨b,0,none⟩=false→w.cell? ⟨b,1,none⟩=some u1→w.frozen? ⟨b,1,none⟩=false→w.cell? ⟨b,2,none⟩=some u2→w.frozen? ⟨b,2,none⟩=false→w.cell? ⟨b,3,none⟩=some u3→w.frozen? ⟨b,3,none⟩=false→w.cell? ⟨b,4,none⟩=some u4→w.frozen? ⟨b,4,none⟩=false→w.cell? ⟨b,5,none⟩=some u5→w.frozen? ⟨b,5,none⟩=false→w.cell? ⟨b,6,none⟩=some u6→w.frozen? ⟨b,6,none⟩=false→b<w.heap.size→C):C:=k (h.t.c 0 _ rfl) (h.f 0) (h.t.c 1 _ rfl) (h.f 1) (h.t.c 2 _ rfl) (h.f 2) (h.t.c 3 _ rfl) (h.f 3) (h.t.c 4 _ rfl) (h.f 4) (h.t.c 5 _ rfl) (h.f 5) (h.t.c 6 _ rfl) (h.f 6) h.t.lt
end Go.Proofs.YtmamlgaogpkagaaGreat
