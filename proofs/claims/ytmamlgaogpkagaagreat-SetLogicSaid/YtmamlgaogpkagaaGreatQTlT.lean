/- TlT. -/
import Derived.Test.YtmamlgaogpkagaaGreatQLPlain
import Derived.Test.YtmamlgaogpkagaaGreatQLGen
import Derived.Test.YtmamlgaogpkagaaGreatQLSl
import Derived.Test.YtmamlgaogpkagaaGreatQRnKF
import Derived.Test.YtmamlgaogpkagaaGreatQPeKJ
import Derived.Test.YtmamlgaogpkagaaGreatQTsGa
import Derived.Test.YtmamlgaogpkagaaGreatQTvI
import Derived.Test.YtmamlgaogpkagaaGreatQTvQ
namespace Go.Proofs.YtmamlgaogpkagaaGreat
open Go.RowKit
set_option linter.unusedVariables false
set_option linter.unusedSimpArgs false
structure Okm (bo:Nat) (W W':World):Prop where
 cell:∀ p:Addr,p.block<W.heap.size→p≠⟨bo,0,none⟩→W'.cell? p=W.cell? p
 fr:∀ p:Addr,p.block<W.heap.size→W'.frozen? p=W.frozen? p
 sz:W.heap.size≤W'.heap.size
 lo:∀ n,n≤bo→n≤W.heap.size→Below n W W'
theorem Okm.of {W W':World} (bo:Nat) (h:Below W.heap.size W W'):Okm bo W W' :=
 ⟨fun p l _=>h.cell l,fun p l=>h.frozen l,h.size,fun n _ k=>h.mono k⟩
theorem Okm.trans {bo:Nat} {A B C:World} (h:Okm bo A B) (k:Okm bo B C):Okm bo A C :=
  ⟨fun p l n=>(k.cell p (zll l h.sz) n).trans (h.cell p l n),fun p l=>(k.fr p (zll l h.sz)).trans (h.fr p l),Nat.le_trans h.sz k.sz,
   fun n a b=>(h.lo n a b).trans (k.lo n a (Nat.le_trans b h.sz))⟩
theorem Okm.set (W:World) (bo:Nat) (v:Value):Okm bo W (W.setCell ⟨bo,0,none⟩ v) :=
 ⟨fun p _ n=>World.cell?_setCell_other _ _ _ _ (fun e=>n e.symm),fun p _=>World.frozen?_setCell _ _ _ _,by rw [size_set];exact Nat.le_refl _,fun n a _=>(Below.refl n W).setCell (p:=⟨bo,0,none⟩) a v⟩
theorem Okm.down {bo:Nat} {w W W':World} (h:Below w.heap.size w W) (k:Okm bo W W') (l:w.heap.size≤bo):Below w.heap.size w W' :=
 h.trans (k.lo _ l h.size)
theorem Bxs.okm {bo b:Nat} {W W':World} {us:List Value} (h:Bxs W b us) (k:Okm bo W W') (ne:b≠bo):Bxs W' b us :=
 ⟨fun i u e=>(k.cell ⟨b,i,none⟩ h.lt (fun q=>ne (congrArg Addr.block q))).trans (h.c i u e),zll h.lt k.sz⟩
theorem Bxo.okm {bo b:Nat} {W W':World} {us:List Value} (h:Bxo W b us) (k:Okm bo W W') (ne:b≠bo):Bxo W' b us :=
 ⟨h.t.okm k ne,fun i=>(k.fr ⟨b,i,none⟩ h.t.lt).trans (h.f i)⟩
theorem prs_okm {bo:Nat} {b:Bool} {W W':World} {v:Value} {L:List Sp} (h:PairS 0 W v L) (c:W.cell? ⟨bo,0,none⟩=some (.bool b)) (k:Okm bo W W'):PairS 0 W' v L:=by
 rcases h with h | ⟨g,off,cp,e,l,x⟩
 ·exact Or.inl h
 ·refine Or.inr ⟨g,off,cp,e,l,⟨zll x.lt k.sz,fun j u hu=>?_⟩⟩;have q:=x.cell j u hu;refine (k.cell _ x.lt (fun z=>?_)).trans q;rw [z,c] at q;obtain ⟨y,hy⟩:=pairs_ints L j u hu;rw [hy] at q
  cases q
theorem SS3.okm {bo:Nat} {b:Bool} {W W':World} {s:TS} {va vb vl:Value} (h:SS3 W s va vb vl) (c:W.cell? ⟨bo,0,none⟩=some (.bool b)) (k:Okm bo W W'):SS3 W' s va vb vl :=
 ⟨prs_okm h.a c k,prs_okm h.b c k,prs_okm h.l c k⟩
def OkO (bo:Nat) (W:World) (R:TS) (k:Bool) (e:Ending) (W':World):Prop :=
 (∃ ua ub ul,e=.returned (.agg #[.int .i64 R.P,ua,.int .i64 R.Q,ub,.int .i64 R.a,.int .i64 R.b,ul])∧SS3 W' R ua ub ul)∧Okm bo W W'∧Bxo W' bo [.bool k]
end Go.Proofs.YtmamlgaogpkagaaGreat
