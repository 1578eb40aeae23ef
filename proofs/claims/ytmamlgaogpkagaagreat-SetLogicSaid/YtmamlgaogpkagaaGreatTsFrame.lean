/- What the rows of this seat have in common: how a set, a periodic set, a slice of spans and a span read. -/
import Derived.Test.YtmamlgaogpkagaaGreatRows
import Derived.Test.YtmamlgaogpkagaaGreatQLRd
import Derived.Test.YtmamlgaogpkagaaGreatQPeKJ
import Derived.WalkKit
import Derived.ProofKit
import Derived.LaidMore
import Derived.OpenShut
import Derived.Lib.LaidTab
import Derived.Lib.SmallJoins
import Derived.Stop.LaidErr
namespace Go.Proofs.YtmamlgaogpkagaaGreat
open Go.ChangeShapes Go.WideShapes Go.RowKit Go.Deep
set_option linter.unusedVariables false
theorem own:ownKnob Tryz.prog.godebug=none:=by kernel_rfl
theorem laidOut:laidOutB Tryz.prog=true:=by kernel_rfl
theorem cellsInt:Tryz.prog.cellsOf 3=1:=by kernel_rfl
theorem cellsSpan:Tryz.prog.cellsOf 40=2:=by kernel_rfl
theorem cellsPer:Tryz.prog.cellsOf 24=2:=by kernel_rfl
theorem cellsSl:Tryz.prog.cellsOf 22=1:=by kernel_rfl
theorem cellsTset:Tryz.prog.cellsOf 26=7:=by kernel_rfl
theorem table (_W:World):True:=trivial
theorem spanReads {H:Type} {enc:TypeId × Value→H} {w:World} {base:Nat} {sp:Nat→Bool} {held:Bool} {x y:Int} (hx:(Lit.int .i64 x).wf=true) (hy:(Lit.int .i64 y).wf=true) :
    DataW.Trod enc Tryz.prog w base sp held 40 (.agg #[.int .i64 x,.int .i64 y]) (.agg [.lit (.int .i64 x),.lit (.int .i64 y)]) [] :=
  Joins.shut_agg2 (y0:=(.lit (.int .i64 x),[])) (y1:=(.lit (.int .i64 y),[])) Tryz.underlying40 (by kernel_rfl) cellsSpan
    ⟨1,by simp [DataW.trod,Tryz.underlying3,hx]⟩ ⟨1,by simp [DataW.trod,Tryz.underlying3,hy]⟩
set_option maxRecDepth 100000 in
theorem open_row {H:Type} {enc:TypeId × Value→H} {W:World} {k:Nat} {sv:Value} {x:DataW H × List MemPlace} (h1:DataW.trod enc Tryz.prog W 0 (fun _=>true) true k 22 [sv]=some x) :
    ∃ (ps:List Sp),PairS 0 W sv ps∧ps.length≤maxLen:=by
  obtain ⟨ps,a,b,-⟩:=open_pairs Tryz.underlying22 Tryz.underlying40 cellsSpan rfl rfl cellsInt cellsInt Tryz.underlying3 Tryz.underlying3 h1;exact ⟨ps,a,b⟩
set_option maxRecDepth 100000 in
theorem open_sl {H:Type} {enc:TypeId × Value→H} {W:World} {base:Nat} {v:Value} {d:DataW H} {p:List MemPlace} (hv:Value.okWide Tryz.prog W .any base 22 v)
    (h:DataW.Trod enc Tryz.prog W 0 (fun _=>true) true 22 v d p):∃ (sv:Value) (ps:List Sp),v=sv∧PairS 0 W sv ps∧ps.length≤maxLen:=by
  obtain ⟨o,n,c,rfl⟩:=okWide_slice Tryz.underlying22 hv;obtain ⟨k,h1⟩:=h;replace h1:DataW.trod enc Tryz.prog W 0 (fun _=>true) true k 22 [.slice o n c]=some (d,p):=h1;obtain ⟨ps,a,b⟩:=open_row h1;exact ⟨_,ps,rfl,a,b⟩
set_option maxRecDepth 100000 in
theorem open_set {H:Type} {enc:TypeId × Value→H} {W:World} {base:Nat} {v:Value} {d:DataW H} {p:List MemPlace} (hv:Value.okWide Tryz.prog W .any base 24 v)
    (h:DataW.Trod enc Tryz.prog W 0 (fun _=>true) true 24 v d p):∃ (n:Int) (sv:Value) (ps:List Sp),v=.agg #[.int .i64 n,sv]∧(Lit.int .i64 n).wf=true∧PairS 0 W sv ps∧ps.length≤maxLen:=by
  obtain ⟨v0,v1,y0,y1,n,rfl,-,-,h0,h1⟩:=Joins.open_agg2 Tryz.underlying24 (by kernel_rfl) cellsPer hv h;obtain ⟨a,e,-,wf⟩:=DataW.trod_int Tryz.underlying3 h0;obtain ⟨ps,b,l⟩:=open_row h1
  simp only [List.cons.injEq,and_true] at e
  subst e;exact ⟨a,v1,ps,rfl,wf,b,l⟩
set_option maxRecDepth 100000 in
theorem open_per {H:Type} {enc:TypeId × Value→H} {W:World} {k:Nat} {c0 c1:Value} {x:DataW H × List MemPlace} (h:DataW.trod enc Tryz.prog W 0 (fun _=>true) true k 24 [c0,c1]=some x) :
    ∃ (n:Int) (ps:List Sp),c0=.int .i64 n∧I64 n∧PairS 0 W c1 ps∧ps.length≤maxLen:=by
  obtain ⟨y0,y1,n,-,-,h0,h1⟩:=trod_struct2 Tryz.underlying24 h
  simp only [cellsInt,cellsSl,List.drop_zero,List.drop_succ_cons,List.take_succ_cons,List.take_zero] at h0 h1
  obtain ⟨a,e,-,wf⟩:=DataW.trod_int Tryz.underlying3 h0;obtain ⟨ps,b,l⟩:=open_row h1
  simp only [List.cons.injEq,and_true] at e
  exact ⟨a,ps,e,i64_wf wf,b,l⟩
theorem trod_struct5 {H:Type} {enc:TypeId × Value→H} {P:Program} {w:World} {base:Nat} {spare:Nat→Bool} {held:Bool} {t:TypeId} {f0 f1 f2 f3 f4:Field} {fuel:Nat} {cs:List Value} {x:DataW H × List MemPlace} (ht:P.underlying t=some (.struct #[f0,f1,f2,f3,f4])) (h:DataW.trod enc P w base spare held fuel t cs=some x) :
    ∃ y0 y1 y2 y3 y4 n,DataW.trod enc P w base spare held n f0.type ((cs.drop f0.offset).take (P.cellsOf f0.type))=some y0 ∧
      DataW.trod enc P w base spare held n f1.type ((cs.drop f1.offset).take (P.cellsOf f1.type))=some y1 ∧
      DataW.trod enc P w base spare held n f2.type ((cs.drop f2.offset).take (P.cellsOf f2.type))=some y2 ∧
      DataW.trod enc P w base spare held n f3.type ((cs.drop f3.offset).take (P.cellsOf f3.type))=some y3 ∧
      DataW.trod enc P w base spare held n f4.type ((cs.drop f4.offset).take (P.cellsOf f4.type))=some y4:=by
  obtain ⟨xs,n,_,rfl,hl,hlen,hf⟩:=DataW.trod_struct ht h
  match xs,hlen with
  | [y0,y1,y2,y3,y4],_=>exact ⟨y0,y1,y2,y3,y4,n,by simpa using hf 0 f0 rfl,by simpa using hf 1 f1 rfl,by simpa using hf 2 f2 rfl,by simpa using hf 3 f3 rfl,by simpa using hf 4 f4 rfl⟩
set_option maxRecDepth 100000 in
theorem open_tset {H:Type} {enc:TypeId × Value→H} {W:World} {base:Nat} {v:Value} {d:DataW H} {p:List MemPlace} (hv:Value.okWide Tryz.prog W .any base 26 v)
    (h:DataW.Trod enc Tryz.prog W 0 (fun _=>true) true 26 v d p):∃ (s:TS) (va vb vl:Value),v=.agg #[.int .i64 s.P,va,.int .i64 s.Q,vb,.int .i64 s.a,.int .i64 s.b,vl]∧TsI s∧SS3 W s va vb vl:=by
  obtain ⟨cs,rfl,hsz⟩:=okWide_struct Tryz.underlying26 hv;rw [cellsTset] at hsz;obtain ⟨c0,c1,c2,c3,c4,c5,c6,rfl⟩:∃ c0 c1 c2 c3 c4 c5 c6,cs=#[c0,c1,c2,c3,c4,c5,c6]:=by
    obtain ⟨l⟩:=cs
    match l,hsz with
    | [c0,c1,c2,c3,c4,c5,c6],_=>exact ⟨c0,c1,c2,c3,c4,c5,c6,rfl⟩
  obtain ⟨fuel,hf⟩:=h;replace hf:DataW.trod enc Tryz.prog W 0 (fun _=>true) true fuel 26 [c0,c1,c2,c3,c4,c5,c6]=some (d,p):=hf;obtain ⟨y0,y1,y2,y3,y4,n,h0,h1,h2,h3,h4⟩:=trod_struct5 Tryz.underlying26 hf
  simp only [cellsInt,cellsSl,cellsPer,List.drop_zero,List.drop_succ_cons,List.take_succ_cons,List.take_zero] at h0 h1 h2 h3 h4
  obtain ⟨P,A,rfl,iP,pA,lA⟩:=open_per h0;obtain ⟨Q,B,rfl,iQ,pB,lB⟩:=open_per h1;obtain ⟨a,ea,-,wa⟩:=DataW.trod_int Tryz.underlying3 h2;obtain ⟨b,eb,-,wb⟩:=DataW.trod_int Tryz.underlying3 h3;obtain ⟨L,pL,lL⟩:=open_row h4
  simp only [List.cons.injEq,and_true] at ea eb
  subst ea eb;exact ⟨⟨P,A,Q,B,a,b,L⟩,c1,c3,c6,rfl,⟨iP,iQ,i64_wf wa,i64_wf wb,lA,lB,lL⟩,⟨pA,pB,pL⟩⟩
end Go.Proofs.YtmamlgaogpkagaaGreat
