/- LRd. -/
import Derived.Test.YtmamlgaogpkagaaGreatQLGen
import Derived.Test.YtmamlgaogpkagaaGreatQLSl
import Derived.Deep.SlicePairs
import Derived.ChangeSlices
import Derived.Carry
import Derived.Lib.SmallJoins
namespace Go.Proofs.YtmamlgaogpkagaaGreat
open Go.ChangeShapes Go.WideShapes Go.RowKit Go.Deep
set_option linter.unusedVariables false
set_option linter.unusedSimpArgs false
theorem pairs_cells {ps:List (Int × Int)} {j:Nat} {u:Value} (h:(pairs ps)[j]?=some u) :
    ∃ i,i<ps.length∧((j=i * 2∧u=.int .i64 (ps.getD i (0,0)).1)∨(j=i * 2+1∧u=.int .i64 (ps.getD i (0,0)).2)):=by
  obtain ⟨hj,-⟩:=List.getElem?_eq_some_iff.1 h;rw [pairs_length] at hj;have q:=pairs_get ps (j / 2) (by omega)
  rcases Nat.mod_two_eq_zero_or_one j with z | z
  · rw [show 2 * (j / 2)=j by omega,h] at q;exact ⟨j / 2,by omega,.inl ⟨by omega,by simpa using q.1⟩⟩
  · rw [show 2 * (j / 2)+1=j by omega,h] at q;exact ⟨j / 2,by omega,.inr ⟨by omega,by simpa using q.2⟩⟩
section
variable {H:Type} {enc:TypeId × Value→H} {w:World} {base:Nat} {held:Bool}
theorem open_pairs {t e:TypeId} {f0 f1:Field} {fuel:Nat} {sv:Value} {x:DataW H × List MemPlace} (ht:Tryz.prog.underlying t=some (.slice e)) (he:Tryz.prog.underlying e=some (.struct #[f0,f1]))
    (ce:Tryz.prog.cellsOf e=2) (o0:f0.offset=0) (o1:f1.offset=1) (c0:Tryz.prog.cellsOf f0.type=1) (c1:Tryz.prog.cellsOf f1.type=1) (i0:Tryz.prog.underlying f0.type=some (.int .i64)) (i1:Tryz.prog.underlying f1.type=some (.int .i64))
    (h:DataW.trod enc Tryz.prog w base (fun _=>true) held fuel t [sv]=some x) :
    ∃ ps,PairS 0 w sv ps∧ps.length≤maxLen∧∀ j,j<ps.length→I64 (ps.getD j (0,0)).1∧I64 (ps.getD j (0,0)).2:=by
  rcases open_slice_pairs ht he ce o0 o1 c0 c1 h with ⟨hc,-⟩ | ⟨a,len,cap,m,k,V0,V1,D0,D1,P0,P1,hc,-,hl,hm,hmm,-,hall⟩
  · simp only [List.cons.injEq,and_true] at hc
    subst hc;exact ⟨[],Sl.none _ _,by simp [maxLen],fun j hj=>absurd hj (Nat.not_lt_zero _)⟩
  · simp only [List.cons.injEq,and_true] at hc
    subst hc
    simp only [if_true] at hmm
    subst hmm;have each:∀ i,i<len→∃ q:Int × Int,w.cell? (a.add (i * 2))=some (.int .i64 q.1)∧w.cell? (a.add (i * 2+1))=some (.int .i64 q.2)∧I64 q.1∧I64 q.2:=fun i hi=>by
      obtain ⟨h0,h1,h2,h3⟩:=hall i (by omega);obtain ⟨n0,e0,-,w0⟩:=DataW.trod_int i0 h2;obtain ⟨n1,e1,-,w1⟩:=DataW.trod_int i1 h3
      simp only [List.cons.injEq,and_true] at e0 e1
      rw [e0] at h0;rw [e1] at h1;exact ⟨(n0,n1),h0,h1,bounds_i64 w0,bounds_i64 w1⟩
    obtain ⟨q,hq⟩:=choose_lt each;have L:((List.range len).map q).length=len:=by simp
    have G:∀ j,j<len→((List.range len).map q).getD j (0,0)=q j:=fun j hj=>by simp [List.getD_eq_getElem?_getD,hj]
    refine ⟨(List.range len).map q,?_,by rw [L];omega,fun j hj=>by rw [L] at hj;rw [G j hj];exact ⟨(hq j hj).2.2.1,(hq j hj).2.2.2⟩⟩
    unfold PairS
    rw [L]
    rcases Nat.eq_zero_or_pos len with z | z
    · subst z;exact .inl ⟨rfl,_,_,rfl⟩
    · obtain ⟨b,off,spot⟩:=a;have hs:spot=none:=by simpa [Addr.add] using World.cell?_spot (hq 0 z).1
      subst hs;refine .inr ⟨b,off,_,rfl,Nat.zero_le _,⟨by simpa [Addr.add] using World.block_lt_of_cell? _ _ (hq 0 z).1,fun j u hj=>?_⟩⟩;obtain ⟨i,hi,c⟩:=pairs_cells hj;rw [L] at hi;rw [G i hi] at c;have g:=hq i hi;rw [add_plain,add_plain] at g
      rcases c with ⟨rfl,rfl⟩ | ⟨rfl,rfl⟩
      · exact g.1
      · exact g.2.1
theorem open_intS {t e:TypeId} {fuel:Nat} {sv:Value} {x:DataW H × List MemPlace} (ht:Tryz.prog.underlying t=some (.slice e)) (he:Tryz.prog.underlying e=some (.int .i64)) (ce:Tryz.prog.cellsOf e=1)
    (h:DataW.trod enc Tryz.prog w base (fun _=>true) held fuel t [sv]=some x) :
    ∃ zs,IntS 0 w sv zs∧zs.length≤maxLen∧∀ j,j<zs.length→I64 (zs.getD j 0):=by
  rcases open_slice1 ht ce h with ⟨hc,-⟩ | ⟨a,len,cap,m,k,V,D,Pl,hc,-,hl,hm,hmm,-,hall⟩
  · simp only [List.cons.injEq,and_true] at hc
    subst hc;exact ⟨[],Sl.none _ _,by simp [maxLen],fun j hj=>absurd hj (Nat.not_lt_zero _)⟩
  · simp only [List.cons.injEq,and_true] at hc
    subst hc
    simp only [if_true] at hmm
    subst hmm;have each:∀ i,i<len→∃ q:Int,w.cell? (a.add i)=some (.int .i64 q)∧I64 q:=fun i hi=>by
      obtain ⟨h0,h1⟩:=hall i (by omega);obtain ⟨n0,e0,-,w0⟩:=DataW.trod_int he h1
      simp only [List.cons.injEq,and_true] at e0
      rw [e0] at h0;exact ⟨n0,h0,bounds_i64 w0⟩
    obtain ⟨q,hq⟩:=choose_lt each;have L:((List.range len).map q).length=len:=by simp
    have G:∀ j,j<len→((List.range len).map q).getD j 0=q j:=fun j hj=>by simp [List.getD_eq_getElem?_getD,hj]
    refine ⟨(List.range len).map q,?_,by rw [L];omega,fun j hj=>by rw [L] at hj;rw [G j hj];exact (hq j hj).2⟩
    unfold IntS
    rw [L]
    rcases Nat.eq_zero_or_pos len with z | z
    · subst z;exact .inl ⟨rfl,_,_,rfl⟩
    · obtain ⟨b,off,spot⟩:=a;have hs:spot=none:=by simpa [Addr.add] using World.cell?_spot (hq 0 z).1
      subst hs;refine .inr ⟨b,off,_,rfl,Nat.zero_le _,⟨by simpa [Addr.add] using World.block_lt_of_cell? _ _ (hq 0 z).1,fun j u hj=>?_⟩⟩;have hj':j<len:=by
        obtain ⟨h',-⟩:=List.getElem?_eq_some_iff.1 hj
        simpa [ints] using h'
      have g:=hq j hj';rw [add_plain] at g;have e:u=.int .i64 (q j):=by
        have:=hj
        simp [ints,hj'] at this
        exact this.symm
      rw [e];exact g.1
end
end Go.Proofs.YtmamlgaogpkagaaGreat
