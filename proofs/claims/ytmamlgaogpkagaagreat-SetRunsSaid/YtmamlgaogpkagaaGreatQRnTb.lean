/- RnTb RnU. -/
import Derived.Test.YtmamlgaogpkagaaGreatQLPlain
import Derived.Test.YtmamlgaogpkagaaGreatQLGen
import Derived.Test.YtmamlgaogpkagaaGreatQLSl
import Derived.Test.YtmamlgaogpkagaaGreatQRnT
import Derived.Laws.AppendOwnNone
import Derived.Laws.OwnMore
namespace Go.Proofs.YtmamlgaogpkagaaGreat
open Go.RowKit
set_option linter.unusedVariables false
set_option linter.unusedSimpArgs false
theorem take_at {l:List Int} {n K:Nat} (hl:l.length=n) {w:World} {g:Nat} (c:∀ j,j<n→w.cell? ⟨g,j,none⟩=some (.int .i64 (l.getD j 0))) {j:Nat} {u:Value} (hu:((ints l).take K)[j]?=some u):w.cell? ⟨g,j,none⟩=some u:=by
  rw [List.getElem?_take] at hu
  split at hu
  · rw [ints,List.getElem?_map] at hu
    cases hy:l[j]? with
    | none=>rw [hy] at hu;cases hu
    | some y =>
      have lj:=(List.getElem?_eq_some_iff.1 hy).1;rw [c j (by omega),List.getD_eq_getElem?_getD,hy];rw [hy] at hu;exact hu
  · cases hu
theorem drop_at2 {l:List Int} {n K:Nat} (hl:l.length=n) {w:World} {g:Nat} (c:∀ j,j<n→w.cell? ⟨g,j,none⟩=some (.int .i64 (l.getD j 0))) {j:Nat} {u:Value} (hu:((ints l).drop K)[j]?=some u):w.cell? ⟨g,K+j,none⟩=some u:=by
  rw [List.getElem?_drop,ints,List.getElem?_map] at hu
  cases hy:l[K+j]? with
  | none=>rw [hy] at hu;cases hu
  | some y =>
    have lj:=(List.getElem?_eq_some_iff.1 hy).1;rw [c (K+j) (by omega),List.getD_eq_getElem?_getD,hy];rw [hy] at hu;exact hu
theorem asc_split {l:List Int} (h:Asc l) {x:Int} {k:Nat} (hk:k≤l.length) (a:∀ j,j<k→l.getD j 0<x) (b:∀ j,k≤j→j<l.length→x≤l.getD j 0) :
    (k<l.length→l.getD k 0=x→insZ l x=l)∧(¬ (k<l.length∧l.getD k 0=x)→insZ l x=l.take k++x :: l.drop k):=by
  have tk:∀ y,y∈l.take k→y<x:=by
    intro y hy;obtain ⟨j,hj,rfl⟩:=List.getElem_of_mem hy;rw [List.length_take] at hj;have:=a j (by omega);rw [List.getD_eq_getElem?_getD,List.getElem?_eq_getElem (by omega)] at this;rw [List.getElem_take];exact this
  have dk:∀ y,y∈l.drop k→x≤y:=by
    intro y hy;obtain ⟨j,hj,rfl⟩:=List.getElem_of_mem hy;rw [List.length_drop] at hj;have:=b (k+j) (by omega) (by omega);rw [List.getD_eq_getElem?_getD,List.getElem?_eq_getElem (by omega)] at this;rw [List.getElem_drop];exact this
  have f1:l.filter (fun y=>decide (y<x))=l.take k:=by
    conv=>lhs;rw [← List.take_append_drop k l]
    rw [List.filter_append,List.filter_eq_self.2 (fun y hy=>zdt (tk y hy)),List.filter_eq_nil_iff.2 (fun y hy=>by have:=dk y hy;simp;omega),List.append_nil]
  have f2:∀ r:List Int,(∀ y,y∈r→x<y)→r.filter (fun y=>decide (x<y))=r:=fun r hr=>List.filter_eq_self.2 (fun y hy=>zdt (hr y hy));have f3:(l.take k).filter (fun y=>decide (x<y))=[]:=List.filter_eq_nil_iff.2 (fun y hy=>by have:=tk y hy;simp;omega)
  constructor
  · intro kl e;have d:l.drop k=x :: l.drop (k+1):=by
      rw [List.drop_eq_getElem_cons kl];rw [List.getD_eq_getElem?_getD,List.getElem?_eq_getElem kl] at e
      congr 1
    have gt:∀ y,y∈l.drop (k+1)→x<y:=by
      intro y hy;have q:List.Pairwise (· < ·) (l.drop k):=h.sublist (List.drop_sublist k l);rw [d] at q;exact (List.pairwise_cons.1 q).1 y hy
    unfold insZ
    rw [f1]
    conv=>lhs;rw [show l.filter (fun y=>decide (x<y))=(l.take k++l.drop k).filter (fun y=>decide (x<y)) by rw [List.take_append_drop]]
    rw [List.filter_append,f3,d,List.filter_cons,zdf (Int.lt_irrefl x),if_neg (by simp),f2 _ gt,List.nil_append,← d,List.take_append_drop]
  · intro no;have gt:∀ y,y∈l.drop k→x<y:=by
      intro y hy;have l1:=dk y hy
      rcases Int.lt_or_eq_of_le l1 with z | z
      · exact z
      · exfalso
        obtain ⟨j,hj,e⟩:=List.getElem_of_mem hy;rw [List.length_drop] at hj;rw [List.getElem_drop] at e;have bk:=b k (Nat.le_refl _) (by omega);have le:=asc_le h (show k≤k+j by omega) (by omega);rw [List.getD_eq_getElem?_getD (l:=l) (i:=k+j),List.getElem?_eq_getElem (by omega)] at le;refine no ⟨by omega,?_⟩;have e':(some l[k+j]:Option Int).getD 0=y:=e;omega
    unfold insZ
    rw [f1]
    conv=>lhs;rw [show l.filter (fun y=>decide (x<y))=(l.take k++l.drop k).filter (fun y=>decide (x<y)) by rw [List.take_append_drop]]
    rw [List.filter_append,f3,f2 _ gt,List.nil_append]
set_option maxRecDepth 100000 in
set_option maxHeartbeats 2000000 in
theorem rninsert (l:List Int) (asc:Asc l) (hn:l.length≤1000000) (x:Int) (B:Nat) (v:Value) (w:World) (hB:B≤w.heap.size) (h:w.ownsRow B 3 1 v l.length (ints l)) :
    Calls Tryz.prog 180 #[v,.int .i64 x] w fun e w'=>(∃ v',e=.returned v'∧w'.ownsRow B 3 1 v' (insZ l x).length (ints (insZ l x)))∧Below w.heap.size w w':=by
  obtain ⟨i0,hi,hz0,hz1,hz2⟩:=info_parts infoI;have SP:=fun k hk=>@asc_split l asc x k hk;replace SP:=zh SP;obtain ⟨n,hl⟩:∃ n,l.length=n:=⟨_,rfl⟩;rw [hl] at hn SP;obtain ⟨ao,cap,rfl,none',cs⟩:∃ ao cap,v=.slice ao n cap∧(ao=none→n=0∧cap=0)∧(n≤cap∧∀ ad,ao=some ad→ad=⟨ad.block,0,none⟩∧ad.block<w.heap.size∧∀ j,j<n→w.cell? ⟨ad.block,j,none⟩=some (.int .i64 (l.getD j 0))):=by
    rcases h.2 with ⟨rfl,h0⟩ | ⟨g,cap,cur,rfl,hg,hh,hcap,-,-,hx⟩
    · rw [hl] at h0;subst h0;exact ⟨none,0,rfl,fun _=>⟨rfl,rfl⟩,Nat.le_refl _,fun ad e=>(by cases e)⟩
    · rw [hl] at hcap ⊢;refine ⟨some ⟨g,0,none⟩,cap,rfl,(fun e=>(by cases e)),hcap,fun ad e=>?_⟩
      cases e
      refine ⟨rfl,(Array.getElem?_eq_some_iff.1 hh).1,fun j hj=>?_⟩;have:=h.cells (g:=g) rfl j (.int .i64 (l.getD j 0)) (by rw [ints,List.getElem?_map,List.getD_eq_getElem?_getD,List.getElem?_eq_getElem (by omega)];rfl);rwa [Addr.add_lit,Nat.zero_add] at this
  replace h:=zh h
  go_enter Tryz.func180,Tryz.ntmps180
  go_wp2
  go_loopw [5] (fun i wr=>∃ k:Nat,k≤n∧i=.int .i64 k∧wr=w∧Hid (∀ j,k≤j→j<n→x≤l.getD j 0)) (fun i _=>(intOf i).toNat)
  case atStart=>exact ⟨n,Nat.le_refl _,rfl,rfl,fun j a b=>by omega⟩
  case round =>
    obtain ⟨k,hk,rfl,rfl,HU⟩:=hrel
    by_cases z:0<k
    · have kz:decide (0<(k:Int))=true:=zdt (by omega);obtain ⟨ad,rfl⟩:∃ ad,ao=some ad:=by
        cases ao with
        | some ad=>exact ⟨ad,rfl⟩
        | none=>have:=none' rfl;omega
      obtain ⟨ead,lad,c0⟩:=cs.2 ad rfl;obtain ⟨g,rfl⟩:∃ g,ad=⟨g,0,none⟩:=⟨ad.block,ead⟩;replace lad:g<wr.heap.size:=lad;replace c0:∀ j,j<n→wr.cell? ⟨g,j,none⟩=some (.int .i64 (l.getD j 0)):=c0;have ncap:=cs.1;have CL:=zh c0;obtain ⟨m,rfl⟩:∃ m,k=m+1:=⟨k - 1,by omega⟩;have cm:=c0 m (by omega);clear ead;have m1:((m+1:Nat):Int) - 1=m:=by omega
      have m2:((m+1:Nat):Int)=(m:Int)+1:=by omega
      obtain ⟨y,hy⟩:∃ y,l.getD m 0=y:=⟨_,rfl⟩;rw [hy] at cm
      by_cases u:x≤y
      · have ku:=zdt u;have HU2:Hid (∀ j,m≤j→j<n→x≤l.getD j 0):=fun j a b=>by
          rcases Nat.lt_or_ge m j with q | q
          · exact HU.out j (by omega) b
          · obtain rfl:j=m:=by omega
            rw [hy];exact u
        clear u hy HU c0 cs SP CL;go_wp2
        go_roundw
        case rel=>exact ⟨m,by omega,by go_num,by first | rfl | trivial,HU2⟩
        case measure=>simp [intOf]
      · have ku:=zdf u;have LO:Hid (∀ j,j<m+1→l.getD j 0<x):=fun j hj=>by
          have:=asc_le asc (show j≤m by omega) (show m<l.length by omega);omega
        obtain ⟨K,hK⟩:∃ K:Nat,m+1=K:=⟨_,rfl⟩;rw [hK] at kz m1 LO HU hk ⊢;have ncap:=cs.1;clear u hy c0 m2 cs none';have sp:=SP.out K (by omega) LO.out HU.out;clear SP LO HU;have kcap:((K:Nat):Int)≤(cap:Int):=by omega
        have klen:((K:Nat):Int)≤(n:Int):=by omega
        by_cases q:K<n
        · have kq:decide (((K:Nat):Int)<(n:Int))=true:=zdt (by omega);have ck:=CL.out (K) q;obtain ⟨y,hy⟩:∃ y,l.getD (K) 0=y:=⟨_,rfl⟩;rw [hy] at ck
          by_cases yx:y=x
          · have ky:(y==x)=true:=beq_iff_eq.2 yx;have e:Hid (insZ l x=l):=sp.1 q (by rw [hy];exact yx);clear sp hy yx CL;go_wp2
            go_ret
            exact ⟨⟨_,rfl,by rw [e.out,hl];rw [hl] at h;exact h.out⟩,here wr⟩
          · have ky:(y==x)=false:=by rw [beq_eq_false_iff_ne];exact yx
            replace sp:insZ l x=l.take (K)++x :: l.drop (K):=sp.2 (fun e=>yx (by rw [← hy];exact e.2));clear hy yx;obtain ⟨w1,hw1⟩:∃ w1:World,wr.alloc (.cells #[] 3)=w1:=⟨_,rfl⟩;have O1:Hid (w1.ownsRow wr.heap.size 3 1 (.slice (some ⟨wr.heap.size,0,none⟩) 0 0) 0 []):=by rw [← hw1];exact World.ownsRow_lit wr #[] 0 (Nat.le_refl _) (by unfold maxLen;omega) rfl
            have A1:Hid (Below wr.heap.size wr w1):=by rw [← hw1];exact grow (here wr) _
            have Cw1:Hid (∀ j,j<n→w1.cell? ⟨g,j,none⟩=some (.int .i64 (l.getD j 0))):=fun j hj=>(A1.out.cell (p:=⟨g,j,none⟩) lad).trans (CL.out j hj);go_wp2_with (at_builtin;refine app_any _ rfl _ _ 129 rfl wr.heap.size 3 i0 (.int .i64 0) 1 8 Tryz.underlying129 hi hz0 hz1 hz2 rfl (by decide) (.slice (some ⟨wr.heap.size,0,none⟩) 0 0) 0 [] rfl O1.out (some ⟨g,0,none⟩) (K) cap ((ints l).take (K)) rfl ?c1 (fun e=>by cases e) ?c3 ?c4 ?c5 ?c6 ?c7 ?_)
            case c1=>simp [hl];try omega
            case c3=>intro ad e j u hu;cases e;rw [Addr.add_lit,Nat.zero_add];exact take_at hl Cw1.out hu
            case c4=>intro u hu;obtain ⟨a,-,rfl⟩:=List.mem_map.1 (List.mem_of_mem_take hu);rfl
            case c5=>unfold maxLen;omega
            case c6=>omega
            case c7=>have:=A1.out.size;omega
            intro v2 w2 hown hgrow;have A2:Hid (Below wr.heap.size wr w2):=A1.out.grown hgrow A1.out.size (own_ge O1.out);have O2:Hid (w2.ownsRow wr.heap.size 3 1 v2 (K) ((ints l).take (K))):=by show World.ownsRow _ _ _ _ _ _ _;simpa using hown
            clear hown hgrow O1 Cw1;have Cw2:Hid (∀ j,j<n→w2.cell? ⟨g,j,none⟩=some (.int .i64 (l.getD j 0))):=fun j hj=>(A2.out.cell (p:=⟨g,j,none⟩) lad).trans (CL.out j hj);go_wp2_with (at_builtin;refine app_any _ rfl _ _ 129 rfl wr.heap.size 3 i0 (.int .i64 0) 1 8 Tryz.underlying129 hi hz0 hz1 hz2 rfl (by decide) v2 (K) ((ints l).take (K)) rfl (O2.out.alloc _) (some ⟨w2.heap.size,0,none⟩) 1 1 [.int .i64 x] rfl ?c1 (fun e=>by cases e) ?c3 ?c4 ?c5 ?c6 ?c7 ?_)
            case c1=>simp
            case c3=>intro ad e j u hu;cases e;rw [Addr.add_lit,Nat.zero_add,World.cell?_alloc_new];simpa using hu
            case c4=>intro u hu;simp at hu;subst hu;rfl
            case c5=>unfold maxLen;omega
            case c6=>omega
            case c7=>have:=A2.out.size;simp;omega
            intro v3 w3 hown hgrow;have A3:Hid (Below wr.heap.size wr w3):=(A2.out.alloc A2.out.size _).grown hgrow (by have:=A2.out.size;simp;omega) (own_ge O2.out);have O3:Hid (w3.ownsRow wr.heap.size 3 1 v3 (K+1) ((ints l).take (K)++[.int .i64 x])):=hown;clear hown hgrow O2 Cw2 A1;have Cw3:Hid (∀ j,j<n→w3.cell? ⟨g,j,none⟩=some (.int .i64 (l.getD j 0))):=fun j hj=>(A3.out.cell (p:=⟨g,j,none⟩) lad).trans (CL.out j hj);go_wp2_with (at_builtin;refine app_any _ rfl _ _ 129 rfl wr.heap.size 3 i0 (.int .i64 0) 1 8 Tryz.underlying129 hi hz0 hz1 hz2 rfl (by decide) v3 (K+1) ((ints l).take (K)++[.int .i64 x]) rfl O3.out (some ⟨g,(K),none⟩) (n - (K)) (cap - (K)) ((ints l).drop (K)) rfl ?c1 (fun e=>by cases e) ?c3 ?c4 ?c5 ?c6 ?c7 ?_)
            case c1=>simp [hl];try omega
            case c3=>intro ad e j u hu;cases e;rw [Addr.add_lit];exact drop_at2 hl Cw3.out hu
            case c4=>intro u hu;obtain ⟨a,-,rfl⟩:=List.mem_map.1 (List.mem_of_mem_drop hu);rfl
            case c5=>unfold maxLen;omega
            case c6=>omega
            case c7=>have:=A3.out.size;omega
            intro v4 w4 hown hgrow;have A4:Hid (Below wr.heap.size wr w4):=A3.out.grown hgrow A3.out.size (own_ge O3.out);have ln:(insZ l x).length=K+1+(n - (K)):=by rw [sp];simp;omega
            have vl:ints (insZ l x)=(ints l).take (K)++.int .i64 x :: ((ints l).drop (K)):=by rw [sp];simp [ints]
            have O4:Hid (w4.ownsRow B 3 1 v4 (insZ l x).length (ints (insZ l x))):=by show World.ownsRow _ _ _ _ _ _ _;rw [ln,vl];exact own_weak hown hB
            clear hown hgrow O3 Cw3 A2 A3 ln vl sp;go_wp2
            go_ret
            exact ⟨⟨_,rfl,O4.out⟩,A4.out⟩
        · have kq:decide (((K:Nat):Int)<(n:Int))=false:=zdf (by omega);replace sp:insZ l x=l.take (K)++x :: l.drop (K):=sp.2 (fun e=>q e.1)
          by_cases cc:K=cap
          · subst cc;obtain ⟨w1,hw1⟩:∃ w1:World,wr.alloc (.cells #[] 3)=w1:=⟨_,rfl⟩;have O1:Hid (w1.ownsRow wr.heap.size 3 1 (.slice (some ⟨wr.heap.size,0,none⟩) 0 0) 0 []):=by rw [← hw1];exact World.ownsRow_lit wr #[] 0 (Nat.le_refl _) (by unfold maxLen;omega) rfl
            have A1:Hid (Below wr.heap.size wr w1):=by rw [← hw1];exact grow (here wr) _
            have Cw1:Hid (∀ j,j<n→w1.cell? ⟨g,j,none⟩=some (.int .i64 (l.getD j 0))):=fun j hj=>(A1.out.cell (p:=⟨g,j,none⟩) lad).trans (CL.out j hj);go_wp2_with (at_builtin;refine app_any _ rfl _ _ 129 rfl wr.heap.size 3 i0 (.int .i64 0) 1 8 Tryz.underlying129 hi hz0 hz1 hz2 rfl (by decide) (.slice (some ⟨wr.heap.size,0,none⟩) 0 0) 0 [] rfl O1.out (some ⟨g,0,none⟩) (K) K ((ints l).take (K)) rfl ?c1 (fun e=>by cases e) ?c3 ?c4 ?c5 ?c6 ?c7 ?_)
            case c1=>simp [hl];try omega
            case c3=>intro ad e j u hu;cases e;rw [Addr.add_lit,Nat.zero_add];exact take_at hl Cw1.out hu
            case c4=>intro u hu;obtain ⟨a,-,rfl⟩:=List.mem_map.1 (List.mem_of_mem_take hu);rfl
            case c5=>unfold maxLen;omega
            case c6=>omega
            case c7=>have:=A1.out.size;omega
            intro v2 w2 hown hgrow;have A2:Hid (Below wr.heap.size wr w2):=A1.out.grown hgrow A1.out.size (own_ge O1.out);have O2:Hid (w2.ownsRow wr.heap.size 3 1 v2 (K) ((ints l).take (K))):=by show World.ownsRow _ _ _ _ _ _ _;simpa using hown
            clear hown hgrow O1 Cw1;have Cw2:Hid (∀ j,j<n→w2.cell? ⟨g,j,none⟩=some (.int .i64 (l.getD j 0))):=fun j hj=>(A2.out.cell (p:=⟨g,j,none⟩) lad).trans (CL.out j hj);go_wp2_with (at_builtin;refine app_any _ rfl _ _ 129 rfl wr.heap.size 3 i0 (.int .i64 0) 1 8 Tryz.underlying129 hi hz0 hz1 hz2 rfl (by decide) v2 (K) ((ints l).take (K)) rfl (O2.out.alloc _) (some ⟨w2.heap.size,0,none⟩) 1 1 [.int .i64 x] rfl ?c1 (fun e=>by cases e) ?c3 ?c4 ?c5 ?c6 ?c7 ?_)
            case c1=>simp
            case c3=>intro ad e j u hu;cases e;rw [Addr.add_lit,Nat.zero_add,World.cell?_alloc_new];simpa using hu
            case c4=>intro u hu;simp at hu;subst hu;rfl
            case c5=>unfold maxLen;omega
            case c6=>omega
            case c7=>have:=A2.out.size;simp;omega
            intro v3 w3 hown hgrow;have A3:Hid (Below wr.heap.size wr w3):=(A2.out.alloc A2.out.size _).grown hgrow (by have:=A2.out.size;simp;omega) (own_ge O2.out);have O3:Hid (w3.ownsRow wr.heap.size 3 1 v3 (K+1) ((ints l).take (K)++[.int .i64 x])):=hown;clear hown hgrow O2 Cw2 A1;have Cw3:Hid (∀ j,j<n→w3.cell? ⟨g,j,none⟩=some (.int .i64 (l.getD j 0))):=fun j hj=>(A3.out.cell (p:=⟨g,j,none⟩) lad).trans (CL.out j hj);go_wp2_with (at_builtin;refine app_any _ rfl _ _ 129 rfl wr.heap.size 3 i0 (.int .i64 0) 1 8 Tryz.underlying129 hi hz0 hz1 hz2 rfl (by decide) v3 (K+1) ((ints l).take (K)++[.int .i64 x]) rfl O3.out (some ⟨g,0,none⟩) 0 0 [] rfl ?c1 (fun e=>by cases e) ?c3 ?c4 ?c5 ?c6 ?c7 ?_)
            case c1=>simp
            case c3=>intro ad e j u hu;simp at hu
            case c4=>intro u hu;cases hu
            case c5=>unfold maxLen;omega
            case c6=>omega
            case c7=>have:=A3.out.size;omega
            intro v4 w4 hown hgrow;have A4:Hid (Below wr.heap.size wr w4):=A3.out.grown hgrow A3.out.size (own_ge O3.out);have ln:(insZ l x).length=K+1+0:=by rw [sp];simp;omega
            have vl:ints (insZ l x)=(ints l).take (K)++.int .i64 x :: []:=by rw [sp];simp [ints];omega
            have O4:Hid (w4.ownsRow B 3 1 v4 (insZ l x).length (ints (insZ l x))):=by show World.ownsRow _ _ _ _ _ _ _;rw [ln,vl];exact own_weak hown hB
            clear hown hgrow O3 Cw3 A2 A3 ln vl sp;go_wp2
            go_ret
            exact ⟨⟨_,rfl,O4.out⟩,A4.out⟩
          · have cc2:¬ cap=K:=fun e=>cc e.symm;obtain ⟨w1,hw1⟩:∃ w1:World,wr.alloc (.cells #[] 3)=w1:=⟨_,rfl⟩;have O1:Hid (w1.ownsRow wr.heap.size 3 1 (.slice (some ⟨wr.heap.size,0,none⟩) 0 0) 0 []):=by rw [← hw1];exact World.ownsRow_lit wr #[] 0 (Nat.le_refl _) (by unfold maxLen;omega) rfl
            have A1:Hid (Below wr.heap.size wr w1):=by rw [← hw1];exact grow (here wr) _
            have Cw1:Hid (∀ j,j<n→w1.cell? ⟨g,j,none⟩=some (.int .i64 (l.getD j 0))):=fun j hj=>(A1.out.cell (p:=⟨g,j,none⟩) lad).trans (CL.out j hj);go_wp2_with (at_builtin;refine app_any _ rfl _ _ 129 rfl wr.heap.size 3 i0 (.int .i64 0) 1 8 Tryz.underlying129 hi hz0 hz1 hz2 rfl (by decide) (.slice (some ⟨wr.heap.size,0,none⟩) 0 0) 0 [] rfl O1.out (some ⟨g,0,none⟩) (K) cap ((ints l).take (K)) rfl ?c1 (fun e=>by cases e) ?c3 ?c4 ?c5 ?c6 ?c7 ?_)
            case c1=>simp [hl];try omega
            case c3=>intro ad e j u hu;cases e;rw [Addr.add_lit,Nat.zero_add];exact take_at hl Cw1.out hu
            case c4=>intro u hu;obtain ⟨a,-,rfl⟩:=List.mem_map.1 (List.mem_of_mem_take hu);rfl
            case c5=>unfold maxLen;omega
            case c6=>omega
            case c7=>have:=A1.out.size;omega
            intro v2 w2 hown hgrow;have A2:Hid (Below wr.heap.size wr w2):=A1.out.grown hgrow A1.out.size (own_ge O1.out);have O2:Hid (w2.ownsRow wr.heap.size 3 1 v2 (K) ((ints l).take (K))):=by show World.ownsRow _ _ _ _ _ _ _;simpa using hown
            clear hown hgrow O1 Cw1;have Cw2:Hid (∀ j,j<n→w2.cell? ⟨g,j,none⟩=some (.int .i64 (l.getD j 0))):=fun j hj=>(A2.out.cell (p:=⟨g,j,none⟩) lad).trans (CL.out j hj);go_wp2_with (at_builtin;refine app_any _ rfl _ _ 129 rfl wr.heap.size 3 i0 (.int .i64 0) 1 8 Tryz.underlying129 hi hz0 hz1 hz2 rfl (by decide) v2 (K) ((ints l).take (K)) rfl (O2.out.alloc _) (some ⟨w2.heap.size,0,none⟩) 1 1 [.int .i64 x] rfl ?c1 (fun e=>by cases e) ?c3 ?c4 ?c5 ?c6 ?c7 ?_)
            case c1=>simp
            case c3=>intro ad e j u hu;cases e;rw [Addr.add_lit,Nat.zero_add,World.cell?_alloc_new];simpa using hu
            case c4=>intro u hu;simp at hu;subst hu;rfl
            case c5=>unfold maxLen;omega
            case c6=>omega
            case c7=>have:=A2.out.size;simp;omega
            intro v3 w3 hown hgrow;have A3:Hid (Below wr.heap.size wr w3):=(A2.out.alloc A2.out.size _).grown hgrow (by have:=A2.out.size;simp;omega) (own_ge O2.out);have O3:Hid (w3.ownsRow wr.heap.size 3 1 v3 (K+1) ((ints l).take (K)++[.int .i64 x])):=hown;clear hown hgrow O2 Cw2 A1;have Cw3:Hid (∀ j,j<n→w3.cell? ⟨g,j,none⟩=some (.int .i64 (l.getD j 0))):=fun j hj=>(A3.out.cell (p:=⟨g,j,none⟩) lad).trans (CL.out j hj);go_wp2_with (at_builtin;refine app_any _ rfl _ _ 129 rfl wr.heap.size 3 i0 (.int .i64 0) 1 8 Tryz.underlying129 hi hz0 hz1 hz2 rfl (by decide) v3 (K+1) ((ints l).take (K)++[.int .i64 x]) rfl O3.out (some ⟨g,(K),none⟩) (n - (K)) (cap - (K)) ((ints l).drop (K)) rfl ?c1 (fun e=>by cases e) ?c3 ?c4 ?c5 ?c6 ?c7 ?_)
            case c1=>simp [hl];try omega
            case c3=>intro ad e j u hu;cases e;rw [Addr.add_lit];exact drop_at2 hl Cw3.out hu
            case c4=>intro u hu;obtain ⟨a,-,rfl⟩:=List.mem_map.1 (List.mem_of_mem_drop hu);rfl
            case c5=>unfold maxLen;omega
            case c6=>omega
            case c7=>have:=A3.out.size;omega
            intro v4 w4 hown hgrow;have A4:Hid (Below wr.heap.size wr w4):=A3.out.grown hgrow A3.out.size (own_ge O3.out);have ln:(insZ l x).length=K+1+(n - (K)):=by rw [sp];simp;omega
            have vl:ints (insZ l x)=(ints l).take (K)++.int .i64 x :: ((ints l).drop (K)):=by rw [sp];simp [ints]
            have O4:Hid (w4.ownsRow B 3 1 v4 (insZ l x).length (ints (insZ l x))):=by show World.ownsRow _ _ _ _ _ _ _;rw [ln,vl];exact own_weak hown hB
            clear hown hgrow O3 Cw3 A2 A3 ln vl sp;go_wp2
            go_ret
            exact ⟨⟨_,rfl,O4.out⟩,A4.out⟩
    · have kz:decide (0<(k:Int))=false:=zdf (by omega);have LO:Hid (∀ j,j<k→l.getD j 0<x):=fun j hj=>by omega
      have sp:=SP.out (k) (by omega) LO.out HU.out;clear SP LO HU
      cases ao with
      | none =>
        obtain ⟨rfl,rfl⟩:=none' rfl;obtain rfl:k=0:=by omega
        replace sp:insZ l x=l.take 0++x :: l.drop 0:=sp.2 (by omega);clear cs none';obtain ⟨w1,hw1⟩:∃ w1:World,wr.alloc (.cells #[] 3)=w1:=⟨_,rfl⟩;have O1:Hid (w1.ownsRow wr.heap.size 3 1 (.slice (some ⟨wr.heap.size,0,none⟩) 0 0) 0 []):=by rw [← hw1];exact World.ownsRow_lit wr #[] 0 (Nat.le_refl _) (by unfold maxLen;omega) rfl
        have A1:Hid (Below wr.heap.size wr w1):=by rw [← hw1];exact grow (here wr) _
        go_wp2_with (at_builtin;refine app_any _ rfl _ _ 129 rfl wr.heap.size 3 i0 (.int .i64 0) 1 8 Tryz.underlying129 hi hz0 hz1 hz2 rfl (by decide) (.slice (some ⟨wr.heap.size,0,none⟩) 0 0) 0 [] rfl O1.out none 0 0 [] rfl ?c1 (fun _=>rfl) ?c3 ?c4 ?c5 ?c6 ?c7 ?_)
        case c1=>simp
        case c3=>intro ad e;cases e
        case c4=>intro u hu;cases hu
        case c5=>unfold maxLen;omega
        case c6=>omega
        case c7=>have:=A1.out.size;omega
        intro v2 w2 hown hgrow;have A2:Hid (Below wr.heap.size wr w2):=A1.out.grown hgrow A1.out.size (own_ge O1.out);have O2:Hid (w2.ownsRow wr.heap.size 3 1 v2 (0) ((ints l).take (0))):=by show World.ownsRow _ _ _ _ _ _ _;simpa using hown
        clear hown hgrow O1;go_wp2_with (at_builtin;refine app_any _ rfl _ _ 129 rfl wr.heap.size 3 i0 (.int .i64 0) 1 8 Tryz.underlying129 hi hz0 hz1 hz2 rfl (by decide) v2 (0) ((ints l).take (0)) rfl (O2.out.alloc _) (some ⟨w2.heap.size,0,none⟩) 1 1 [.int .i64 x] rfl ?c1 (fun e=>by cases e) ?c3 ?c4 ?c5 ?c6 ?c7 ?_)
        case c1=>simp
        case c3=>intro ad e j u hu;cases e;rw [Addr.add_lit,Nat.zero_add,World.cell?_alloc_new];simpa using hu
        case c4=>intro u hu;simp at hu;subst hu;rfl
        case c5=>unfold maxLen;omega
        case c6=>omega
        case c7=>have:=A2.out.size;simp;omega
        intro v3 w3 hown hgrow;have A3:Hid (Below wr.heap.size wr w3):=(A2.out.alloc A2.out.size _).grown hgrow (by have:=A2.out.size;simp;omega) (own_ge O2.out);have O3:Hid (w3.ownsRow wr.heap.size 3 1 v3 (0+1) ((ints l).take (0)++[.int .i64 x])):=hown;clear hown hgrow O2 A1;go_wp2_with (at_builtin;refine app_any _ rfl _ _ 129 rfl wr.heap.size 3 i0 (.int .i64 0) 1 8 Tryz.underlying129 hi hz0 hz1 hz2 rfl (by decide) v3 (0+1) ((ints l).take (0)++[.int .i64 x]) rfl O3.out none 0 0 [] rfl ?c1 (fun _=>rfl) ?c3 ?c4 ?c5 ?c6 ?c7 ?_)
        case c1=>simp
        case c3=>intro ad e;cases e
        case c4=>intro u hu;cases hu
        case c5=>unfold maxLen;omega
        case c6=>omega
        case c7=>have:=A3.out.size;omega
        intro v4 w4 hown hgrow;have A4:Hid (Below wr.heap.size wr w4):=A3.out.grown hgrow A3.out.size (own_ge O3.out);have ln:(insZ l x).length=0+1+0:=by rw [sp];simp;exact List.eq_nil_of_length_eq_zero hl
        have vl:ints (insZ l x)=(ints l).take (0)++.int .i64 x :: []:=by rw [sp];simp [ints];exact List.eq_nil_of_length_eq_zero hl
        have O4:Hid (w4.ownsRow B 3 1 v4 (insZ l x).length (ints (insZ l x))):=by show World.ownsRow _ _ _ _ _ _ _;rw [ln,vl];exact own_weak hown hB
        clear hown hgrow O3 A2 A3 ln vl sp;go_wp2
        go_ret
        exact ⟨⟨_,rfl,O4.out⟩,A4.out⟩
      | some ad =>
        obtain ⟨ncap,ch⟩:=cs;obtain ⟨ead,lad,c0⟩:=ch ad rfl;obtain ⟨g,rfl⟩:∃ g,ad=⟨g,0,none⟩:=⟨ad.block,ead⟩;replace lad:g<wr.heap.size:=lad;replace c0:∀ j,j<n→wr.cell? ⟨g,j,none⟩=some (.int .i64 (l.getD j 0)):=c0;have CL:=zh c0;clear ead c0 ch none';have kcap:((k:Nat):Int)≤(cap:Int):=by omega
        have klen:((k:Nat):Int)≤(n:Int):=by omega
        by_cases q:k<n
        · have kq:decide (((k:Nat):Int)<(n:Int))=true:=zdt (by omega);have ck:=CL.out (k) q;obtain ⟨y,hy⟩:∃ y,l.getD (k) 0=y:=⟨_,rfl⟩;rw [hy] at ck
          by_cases yx:y=x
          · have ky:(y==x)=true:=beq_iff_eq.2 yx;have e:Hid (insZ l x=l):=sp.1 q (by rw [hy];exact yx);clear sp hy yx CL;go_wp2
            go_ret
            exact ⟨⟨_,rfl,by rw [e.out,hl];rw [hl] at h;exact h.out⟩,here wr⟩
          · have ky:(y==x)=false:=by rw [beq_eq_false_iff_ne];exact yx
            replace sp:insZ l x=l.take (k)++x :: l.drop (k):=sp.2 (fun e=>yx (by rw [← hy];exact e.2));clear hy yx;obtain ⟨w1,hw1⟩:∃ w1:World,wr.alloc (.cells #[] 3)=w1:=⟨_,rfl⟩;have O1:Hid (w1.ownsRow wr.heap.size 3 1 (.slice (some ⟨wr.heap.size,0,none⟩) 0 0) 0 []):=by rw [← hw1];exact World.ownsRow_lit wr #[] 0 (Nat.le_refl _) (by unfold maxLen;omega) rfl
            have A1:Hid (Below wr.heap.size wr w1):=by rw [← hw1];exact grow (here wr) _
            have Cw1:Hid (∀ j,j<n→w1.cell? ⟨g,j,none⟩=some (.int .i64 (l.getD j 0))):=fun j hj=>(A1.out.cell (p:=⟨g,j,none⟩) lad).trans (CL.out j hj);go_wp2_with (at_builtin;refine app_any _ rfl _ _ 129 rfl wr.heap.size 3 i0 (.int .i64 0) 1 8 Tryz.underlying129 hi hz0 hz1 hz2 rfl (by decide) (.slice (some ⟨wr.heap.size,0,none⟩) 0 0) 0 [] rfl O1.out (some ⟨g,0,none⟩) (k) cap ((ints l).take (k)) rfl ?c1 (fun e=>by cases e) ?c3 ?c4 ?c5 ?c6 ?c7 ?_)
            case c1=>simp [hl];try omega
            case c3=>intro ad e j u hu;cases e;rw [Addr.add_lit,Nat.zero_add];exact take_at hl Cw1.out hu
            case c4=>intro u hu;obtain ⟨a,-,rfl⟩:=List.mem_map.1 (List.mem_of_mem_take hu);rfl
            case c5=>unfold maxLen;omega
            case c6=>omega
            case c7=>have:=A1.out.size;omega
            intro v2 w2 hown hgrow;have A2:Hid (Below wr.heap.size wr w2):=A1.out.grown hgrow A1.out.size (own_ge O1.out);have O2:Hid (w2.ownsRow wr.heap.size 3 1 v2 (k) ((ints l).take (k))):=by show World.ownsRow _ _ _ _ _ _ _;simpa using hown
            clear hown hgrow O1 Cw1;have Cw2:Hid (∀ j,j<n→w2.cell? ⟨g,j,none⟩=some (.int .i64 (l.getD j 0))):=fun j hj=>(A2.out.cell (p:=⟨g,j,none⟩) lad).trans (CL.out j hj);go_wp2_with (at_builtin;refine app_any _ rfl _ _ 129 rfl wr.heap.size 3 i0 (.int .i64 0) 1 8 Tryz.underlying129 hi hz0 hz1 hz2 rfl (by decide) v2 (k) ((ints l).take (k)) rfl (O2.out.alloc _) (some ⟨w2.heap.size,0,none⟩) 1 1 [.int .i64 x] rfl ?c1 (fun e=>by cases e) ?c3 ?c4 ?c5 ?c6 ?c7 ?_)
            case c1=>simp
            case c3=>intro ad e j u hu;cases e;rw [Addr.add_lit,Nat.zero_add,World.cell?_alloc_new];simpa using hu
            case c4=>intro u hu;simp at hu;subst hu;rfl
            case c5=>unfold maxLen;omega
            case c6=>omega
            case c7=>have:=A2.out.size;simp;omega
            intro v3 w3 hown hgrow;have A3:Hid (Below wr.heap.size wr w3):=(A2.out.alloc A2.out.size _).grown hgrow (by have:=A2.out.size;simp;omega) (own_ge O2.out);have O3:Hid (w3.ownsRow wr.heap.size 3 1 v3 (k+1) ((ints l).take (k)++[.int .i64 x])):=hown;clear hown hgrow O2 Cw2 A1;have Cw3:Hid (∀ j,j<n→w3.cell? ⟨g,j,none⟩=some (.int .i64 (l.getD j 0))):=fun j hj=>(A3.out.cell (p:=⟨g,j,none⟩) lad).trans (CL.out j hj);go_wp2_with (at_builtin;refine app_any _ rfl _ _ 129 rfl wr.heap.size 3 i0 (.int .i64 0) 1 8 Tryz.underlying129 hi hz0 hz1 hz2 rfl (by decide) v3 (k+1) ((ints l).take (k)++[.int .i64 x]) rfl O3.out (some ⟨g,(k),none⟩) (n - (k)) (cap - (k)) ((ints l).drop (k)) rfl ?c1 (fun e=>by cases e) ?c3 ?c4 ?c5 ?c6 ?c7 ?_)
            case c1=>simp [hl];try omega
            case c3=>intro ad e j u hu;cases e;rw [Addr.add_lit];exact drop_at2 hl Cw3.out hu
            case c4=>intro u hu;obtain ⟨a,-,rfl⟩:=List.mem_map.1 (List.mem_of_mem_drop hu);rfl
            case c5=>unfold maxLen;omega
            case c6=>omega
            case c7=>have:=A3.out.size;omega
            intro v4 w4 hown hgrow;have A4:Hid (Below wr.heap.size wr w4):=A3.out.grown hgrow A3.out.size (own_ge O3.out);have ln:(insZ l x).length=k+1+(n - (k)):=by rw [sp];simp;omega
            have vl:ints (insZ l x)=(ints l).take (k)++.int .i64 x :: ((ints l).drop (k)):=by rw [sp];simp [ints]
            have O4:Hid (w4.ownsRow B 3 1 v4 (insZ l x).length (ints (insZ l x))):=by show World.ownsRow _ _ _ _ _ _ _;rw [ln,vl];exact own_weak hown hB
            clear hown hgrow O3 Cw3 A2 A3 ln vl sp;go_wp2
            go_ret
            exact ⟨⟨_,rfl,O4.out⟩,A4.out⟩
        · have kq:decide (((k:Nat):Int)<(n:Int))=false:=zdf (by omega);replace sp:insZ l x=l.take (k)++x :: l.drop (k):=sp.2 (fun e=>q e.1)
          by_cases cc:k=cap
          · subst cc;obtain ⟨w1,hw1⟩:∃ w1:World,wr.alloc (.cells #[] 3)=w1:=⟨_,rfl⟩;have O1:Hid (w1.ownsRow wr.heap.size 3 1 (.slice (some ⟨wr.heap.size,0,none⟩) 0 0) 0 []):=by rw [← hw1];exact World.ownsRow_lit wr #[] 0 (Nat.le_refl _) (by unfold maxLen;omega) rfl
            have A1:Hid (Below wr.heap.size wr w1):=by rw [← hw1];exact grow (here wr) _
            have Cw1:Hid (∀ j,j<n→w1.cell? ⟨g,j,none⟩=some (.int .i64 (l.getD j 0))):=fun j hj=>(A1.out.cell (p:=⟨g,j,none⟩) lad).trans (CL.out j hj);go_wp2_with (at_builtin;refine app_any _ rfl _ _ 129 rfl wr.heap.size 3 i0 (.int .i64 0) 1 8 Tryz.underlying129 hi hz0 hz1 hz2 rfl (by decide) (.slice (some ⟨wr.heap.size,0,none⟩) 0 0) 0 [] rfl O1.out (some ⟨g,0,none⟩) (k) k ((ints l).take (k)) rfl ?c1 (fun e=>by cases e) ?c3 ?c4 ?c5 ?c6 ?c7 ?_)
            case c1=>simp [hl];try omega
            case c3=>intro ad e j u hu;cases e;rw [Addr.add_lit,Nat.zero_add];exact take_at hl Cw1.out hu
            case c4=>intro u hu;obtain ⟨a,-,rfl⟩:=List.mem_map.1 (List.mem_of_mem_take hu);rfl
            case c5=>unfold maxLen;omega
            case c6=>omega
            case c7=>have:=A1.out.size;omega
            intro v2 w2 hown hgrow;have A2:Hid (Below wr.heap.size wr w2):=A1.out.grown hgrow A1.out.size (own_ge O1.out);have O2:Hid (w2.ownsRow wr.heap.size 3 1 v2 (k) ((ints l).take (k))):=by show World.ownsRow _ _ _ _ _ _ _;simpa using hown
            clear hown hgrow O1 Cw1;have Cw2:Hid (∀ j,j<n→w2.cell? ⟨g,j,none⟩=some (.int .i64 (l.getD j 0))):=fun j hj=>(A2.out.cell (p:=⟨g,j,none⟩) lad).trans (CL.out j hj);go_wp2_with (at_builtin;refine app_any _ rfl _ _ 129 rfl wr.heap.size 3 i0 (.int .i64 0) 1 8 Tryz.underlying129 hi hz0 hz1 hz2 rfl (by decide) v2 (k) ((ints l).take (k)) rfl (O2.out.alloc _) (some ⟨w2.heap.size,0,none⟩) 1 1 [.int .i64 x] rfl ?c1 (fun e=>by cases e) ?c3 ?c4 ?c5 ?c6 ?c7 ?_)
            case c1=>simp
            case c3=>intro ad e j u hu;cases e;rw [Addr.add_lit,Nat.zero_add,World.cell?_alloc_new];simpa using hu
            case c4=>intro u hu;simp at hu;subst hu;rfl
            case c5=>unfold maxLen;omega
            case c6=>omega
            case c7=>have:=A2.out.size;simp;omega
            intro v3 w3 hown hgrow;have A3:Hid (Below wr.heap.size wr w3):=(A2.out.alloc A2.out.size _).grown hgrow (by have:=A2.out.size;simp;omega) (own_ge O2.out);have O3:Hid (w3.ownsRow wr.heap.size 3 1 v3 (k+1) ((ints l).take (k)++[.int .i64 x])):=hown;clear hown hgrow O2 Cw2 A1;have Cw3:Hid (∀ j,j<n→w3.cell? ⟨g,j,none⟩=some (.int .i64 (l.getD j 0))):=fun j hj=>(A3.out.cell (p:=⟨g,j,none⟩) lad).trans (CL.out j hj);go_wp2_with (at_builtin;refine app_any _ rfl _ _ 129 rfl wr.heap.size 3 i0 (.int .i64 0) 1 8 Tryz.underlying129 hi hz0 hz1 hz2 rfl (by decide) v3 (k+1) ((ints l).take (k)++[.int .i64 x]) rfl O3.out (some ⟨g,0,none⟩) 0 0 [] rfl ?c1 (fun e=>by cases e) ?c3 ?c4 ?c5 ?c6 ?c7 ?_)
            case c1=>simp
            case c3=>intro ad e j u hu;simp at hu
            case c4=>intro u hu;cases hu
            case c5=>unfold maxLen;omega
            case c6=>omega
            case c7=>have:=A3.out.size;omega
            intro v4 w4 hown hgrow;have A4:Hid (Below wr.heap.size wr w4):=A3.out.grown hgrow A3.out.size (own_ge O3.out);have ln:(insZ l x).length=k+1+0:=by rw [sp];simp;omega
            have vl:ints (insZ l x)=(ints l).take (k)++.int .i64 x :: []:=by rw [sp];simp [ints];omega
            have O4:Hid (w4.ownsRow B 3 1 v4 (insZ l x).length (ints (insZ l x))):=by show World.ownsRow _ _ _ _ _ _ _;rw [ln,vl];exact own_weak hown hB
            clear hown hgrow O3 Cw3 A2 A3 ln vl sp;go_wp2
            go_ret
            exact ⟨⟨_,rfl,O4.out⟩,A4.out⟩
          · have cc2:¬ cap=k:=fun e=>cc e.symm;obtain ⟨w1,hw1⟩:∃ w1:World,wr.alloc (.cells #[] 3)=w1:=⟨_,rfl⟩;have O1:Hid (w1.ownsRow wr.heap.size 3 1 (.slice (some ⟨wr.heap.size,0,none⟩) 0 0) 0 []):=by rw [← hw1];exact World.ownsRow_lit wr #[] 0 (Nat.le_refl _) (by unfold maxLen;omega) rfl
            have A1:Hid (Below wr.heap.size wr w1):=by rw [← hw1];exact grow (here wr) _
            have Cw1:Hid (∀ j,j<n→w1.cell? ⟨g,j,none⟩=some (.int .i64 (l.getD j 0))):=fun j hj=>(A1.out.cell (p:=⟨g,j,none⟩) lad).trans (CL.out j hj);go_wp2_with (at_builtin;refine app_any _ rfl _ _ 129 rfl wr.heap.size 3 i0 (.int .i64 0) 1 8 Tryz.underlying129 hi hz0 hz1 hz2 rfl (by decide) (.slice (some ⟨wr.heap.size,0,none⟩) 0 0) 0 [] rfl O1.out (some ⟨g,0,none⟩) (k) cap ((ints l).take (k)) rfl ?c1 (fun e=>by cases e) ?c3 ?c4 ?c5 ?c6 ?c7 ?_)
            case c1=>simp [hl];try omega
            case c3=>intro ad e j u hu;cases e;rw [Addr.add_lit,Nat.zero_add];exact take_at hl Cw1.out hu
            case c4=>intro u hu;obtain ⟨a,-,rfl⟩:=List.mem_map.1 (List.mem_of_mem_take hu);rfl
            case c5=>unfold maxLen;omega
            case c6=>omega
            case c7=>have:=A1.out.size;omega
            intro v2 w2 hown hgrow;have A2:Hid (Below wr.heap.size wr w2):=A1.out.grown hgrow A1.out.size (own_ge O1.out);have O2:Hid (w2.ownsRow wr.heap.size 3 1 v2 (k) ((ints l).take (k))):=by show World.ownsRow _ _ _ _ _ _ _;simpa using hown
            clear hown hgrow O1 Cw1;have Cw2:Hid (∀ j,j<n→w2.cell? ⟨g,j,none⟩=some (.int .i64 (l.getD j 0))):=fun j hj=>(A2.out.cell (p:=⟨g,j,none⟩) lad).trans (CL.out j hj);go_wp2_with (at_builtin;refine app_any _ rfl _ _ 129 rfl wr.heap.size 3 i0 (.int .i64 0) 1 8 Tryz.underlying129 hi hz0 hz1 hz2 rfl (by decide) v2 (k) ((ints l).take (k)) rfl (O2.out.alloc _) (some ⟨w2.heap.size,0,none⟩) 1 1 [.int .i64 x] rfl ?c1 (fun e=>by cases e) ?c3 ?c4 ?c5 ?c6 ?c7 ?_)
            case c1=>simp
            case c3=>intro ad e j u hu;cases e;rw [Addr.add_lit,Nat.zero_add,World.cell?_alloc_new];simpa using hu
            case c4=>intro u hu;simp at hu;subst hu;rfl
            case c5=>unfold maxLen;omega
            case c6=>omega
            case c7=>have:=A2.out.size;simp;omega
            intro v3 w3 hown hgrow;have A3:Hid (Below wr.heap.size wr w3):=(A2.out.alloc A2.out.size _).grown hgrow (by have:=A2.out.size;simp;omega) (own_ge O2.out);have O3:Hid (w3.ownsRow wr.heap.size 3 1 v3 (k+1) ((ints l).take (k)++[.int .i64 x])):=hown;clear hown hgrow O2 Cw2 A1;have Cw3:Hid (∀ j,j<n→w3.cell? ⟨g,j,none⟩=some (.int .i64 (l.getD j 0))):=fun j hj=>(A3.out.cell (p:=⟨g,j,none⟩) lad).trans (CL.out j hj);go_wp2_with (at_builtin;refine app_any _ rfl _ _ 129 rfl wr.heap.size 3 i0 (.int .i64 0) 1 8 Tryz.underlying129 hi hz0 hz1 hz2 rfl (by decide) v3 (k+1) ((ints l).take (k)++[.int .i64 x]) rfl O3.out (some ⟨g,(k),none⟩) (n - (k)) (cap - (k)) ((ints l).drop (k)) rfl ?c1 (fun e=>by cases e) ?c3 ?c4 ?c5 ?c6 ?c7 ?_)
            case c1=>simp [hl];try omega
            case c3=>intro ad e j u hu;cases e;rw [Addr.add_lit];exact drop_at2 hl Cw3.out hu
            case c4=>intro u hu;obtain ⟨a,-,rfl⟩:=List.mem_map.1 (List.mem_of_mem_drop hu);rfl
            case c5=>unfold maxLen;omega
            case c6=>omega
            case c7=>have:=A3.out.size;omega
            intro v4 w4 hown hgrow;have A4:Hid (Below wr.heap.size wr w4):=A3.out.grown hgrow A3.out.size (own_ge O3.out);have ln:(insZ l x).length=k+1+(n - (k)):=by rw [sp];simp;omega
            have vl:ints (insZ l x)=(ints l).take (k)++.int .i64 x :: ((ints l).drop (k)):=by rw [sp];simp [ints]
            have O4:Hid (w4.ownsRow B 3 1 v4 (insZ l x).length (ints (insZ l x))):=by show World.ownsRow _ _ _ _ _ _ _;rw [ln,vl];exact own_weak hown hB
            clear hown hgrow O3 Cw3 A2 A3 ln vl sp;go_wp2
            go_ret
            exact ⟨⟨_,rfl,O4.out⟩,A4.out⟩
set_option maxRecDepth 100000 in
set_option maxHeartbeats 1000000 in
theorem rnends (v:Value) (L:List Sp) (hn:L.length≤100000) {base:Nat} (w:World) (h:PairS base w v L) :
    Calls Tryz.prog 151 #[v] w fun e w'=>(∃ v',e=.returned v'∧w'.ownsRow w.heap.size 3 1 v' (enL L).length (ints (enL L)))∧Below w.heap.size w w':=by
  obtain ⟨o,c,rfl⟩:=prs_shape h;have HP:=zh h;have A0:Hid (Below w.heap.size w w):=here w;have I0:Hid (w.ownsRow w.heap.size 3 1 (.slice none 0 0) (enK L 0).length (ints (enK L 0))):=World.ownsRow_nil _ _ _ _;have HI:=zh (fun l a b x v W hb ho=>rninsert l a b x w.heap.size v W hb ho);obtain ⟨n,hl⟩:∃ n,L.length=n:=⟨_,rfl⟩;have en:Hid (enL L=enK L n):=by show _=_;rw [← hl];rfl
  rw [hl] at hn HP ⊢;generalize enL L=R at *
  go_enter Tryz.func151,Tryz.ntmps151
  go_wp2
  go_loopw [3,4] (fun s i wr=>∃ (k:Nat) (s':Value),s'=s∧k≤n∧i=.int .i64 k∧Hid (wr.ownsRow w.heap.size 3 1 s (enK L k).length (ints (enK L k)))∧Hid (Below w.heap.size w wr)∧Hid (PairS base wr (.slice o n c) L)) (fun _ i _=>n - (intOf i).toNat)
  case atStart=>exact ⟨0,_,rfl,Nat.zero_le _,rfl,I0,A0,HP⟩
  case round =>
    obtain ⟨k,s,rfl,hk,rfl,HO,HA,HP⟩:=hrel;clear A0 I0
    by_cases z:k<n
    · have kz:decide ((k:Int)<(n:Int))=true:=zdt (by omega);obtain ⟨b,off,rfl,bl,cs⟩:=prs_here HP.out (show k<L.length by omega);obtain ⟨c0,c1⟩:=cs k (by omega);have l1:=enK_len L k;have l2:=ins_len (L.getD k (0,0)).1 (enK L k);have as1:=zh (enK_asc L k);have as2:=zh (ins_asc as1.out (L.getD k (0,0)).1);have st:Hid (enK L (k+1)=insZ (insZ (enK L k) (L.getD k (0,0)).1) (L.getD k (0,0)).2):=rfl;clear cs;have N:=HI.out (enK L k) as1.out (by omega) (L.getD k (0,0)).1 _ wr HA.out.size HO.out;have N2:=zh (fun v W hb ho=>HI.out (insZ (enK L k) (L.getD k (0,0)).1) as2.out (by omega) (L.getD k (0,0)).2 v W hb ho);clear as1 as2 l1 l2 HI HO;generalize insZ (enK L k) (L.getD k (0,0)).1=l3 at *;generalize hq:L.getD k (0,0)=p at *;go_wp2_with fail
      refine N.mono ?_;rintro e w1 ⟨⟨v1,rfl,O1⟩,hb⟩;have A1:=zd HA hb;have P1:=zh (HP.out.keep hb);have N3:=N2.out v1 w1 A1.out.size O1;have d0:=(hb.cell (p:=⟨b,off+k * 2,none⟩) bl).trans c0;have d1:=(hb.cell (p:=⟨b,off+k * 2+1,none⟩) bl).trans c1;clear O1 hb c0 c1 HP HA N N2;go_wp2_with fail
      refine N3.mono ?_;rintro e w2 ⟨⟨v2,rfl,O2⟩,hb⟩;have A2:=zd A1 hb;have P2:=zh (P1.out.keep hb);replace O2:Hid (w2.ownsRow w.heap.size 3 1 v2 (enK L (k+1)).length (ints (enK L (k+1)))):=by show World.ownsRow _ _ _ _ _ _ _;rw [st.out];exact O2
      clear hb d0 d1 P1 A1 N3 st;go_wp2
      go_roundw
      case rel=>exact ⟨k+1,_,rfl,by omega,by go_num,O2,A2,P2⟩
      case measure=>simp [intOf];omega
    · obtain rfl:k=n:=by omega
      have kz:decide ((k:Int)<(k:Int))=false:=zdf (by omega);clear HI;replace HO:=HO.out;rw [← en.out] at HO;go_wp2
      go_ret
      exact ⟨⟨_,rfl,HO⟩,HA.out⟩
end Go.Proofs.YtmamlgaogpkagaaGreat
