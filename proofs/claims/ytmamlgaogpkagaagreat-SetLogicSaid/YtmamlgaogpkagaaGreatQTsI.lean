/- TsI. -/
import Derived.Test.YtmamlgaogpkagaaGreatQLPlain
import Derived.Test.YtmamlgaogpkagaaGreatQLGen
import Derived.Test.YtmamlgaogpkagaaGreatQLSl
import Derived.Test.YtmamlgaogpkagaaGreatQRnKF
import Derived.Test.YtmamlgaogpkagaaGreatQPeKJ
import Derived.StillTailTactics
namespace Go.Proofs.YtmamlgaogpkagaaGreat
open Go.RowKit
set_option linter.unusedVariables false
set_option linter.unusedSimpArgs false
theorem Bxo.put7 {w:World} {b:Nat} {z0 z1 z2 z3 z4 z5 z6:Value} (h:Bxo w b [z0,z1,z2,z3,z4,z5,z6]) (u0 u1 u2 u3 u4 u5 u6:Value):Bxs (((((((w.setCell ⟨b,0,none⟩ (u0)).setCell ⟨b,1,none⟩ (u1)).setCell ⟨b,2,none⟩ (u2)).setCell ⟨b,3,none⟩ (u3)).setCell ⟨b,4,none⟩ (u4)).setCell ⟨b,5,none⟩ (u5)).setCell ⟨b,6,none⟩ (u6)) b [u0,u1,u2,u3,u4,u5,u6] :=
 (((((((h.set (j:=0) (by simp) u0).set (j:=1) (by simp) u1).set (j:=2) (by simp) u2).set (j:=3) (by simp) u3).set (j:=4) (by simp) u4).set (j:=5) (by simp) u5).set (j:=6) (by simp) u6).t
theorem below_put7 {W:Nat} {w0 w:World} {b:Nat} (h:Below W w0 w) (l:W≤b) (u0 u1 u2 u3 u4 u5 u6:Value):Below W w0 (((((((w.setCell ⟨b,0,none⟩ (u0)).setCell ⟨b,1,none⟩ (u1)).setCell ⟨b,2,none⟩ (u2)).setCell ⟨b,3,none⟩ (u3)).setCell ⟨b,4,none⟩ (u4)).setCell ⟨b,5,none⟩ (u5)).setCell ⟨b,6,none⟩ (u6)) :=
 ((((((h.setCell (p:=⟨b,0,none⟩) l u0).setCell (p:=⟨b,1,none⟩) l u1).setCell (p:=⟨b,2,none⟩) l u2).setCell (p:=⟨b,3,none⟩) l u3).setCell (p:=⟨b,4,none⟩) l u4).setCell (p:=⟨b,5,none⟩) l u5).setCell (p:=⟨b,6,none⟩) l u6
theorem far_put7 {base:Nat} {w:World} {v:Value} {L:List Sp} {b:Nat} (h:PairS base w v L) (l:b<base) (u0 u1 u2 u3 u4 u5 u6:Value):PairS base (((((((w.setCell ⟨b,0,none⟩ (u0)).setCell ⟨b,1,none⟩ (u1)).setCell ⟨b,2,none⟩ (u2)).setCell ⟨b,3,none⟩ (u3)).setCell ⟨b,4,none⟩ (u4)).setCell ⟨b,5,none⟩ (u5)).setCell ⟨b,6,none⟩ (u6)) v L :=
 Sl.far (Sl.far (Sl.far (Sl.far (Sl.far (Sl.far (Sl.far h l u0) l u1) l u2) l u3) l u4) l u5) l u6
theorem ss3_none (w:World):SS3 w tsZ (.slice none 0 0) (.slice none 0 0) (.slice none 0 0):=⟨Sl.none _ _,Sl.none _ _,Sl.none _ _⟩
theorem Bxo.trd {w:World} {o o':Obj} (us:List Value) (t:TypeId):Bxo (((w.alloc o).alloc o').alloc (.cells us.toArray t)) (w.heap.size+1+1) us:=by
 have h:=Bxo.new (w:=(w.alloc o).alloc o') us t;rw [size_two,size_two] at h;exact h
end Go.Proofs.YtmamlgaogpkagaaGreat
