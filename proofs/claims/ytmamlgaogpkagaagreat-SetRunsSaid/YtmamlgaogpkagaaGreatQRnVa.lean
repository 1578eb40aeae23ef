/- RnVa RnWa RnXb. -/
import Derived.Test.YtmamlgaogpkagaaGreatQLPlain
import Derived.Test.YtmamlgaogpkagaaGreatQLGen
import Derived.Test.YtmamlgaogpkagaaGreatQLGenb
import Derived.Test.YtmamlgaogpkagaaGreatQLSl
import Derived.Test.YtmamlgaogpkagaaGreatQLSla
import Derived.Test.YtmamlgaogpkagaaGreatQRnRb
import Derived.Test.YtmamlgaogpkagaaGreatQRnT
import Derived.Test.YtmamlgaogpkagaaGreatQRnTb
import Derived.Test.YtmamlgaogpkagaaGreatQRnV
import Derived.Test.YtmamlgaogpkagaaGreatQRnXa
import Derived.Deep.RegionWith
import Derived.Deep.RegionHeld3
namespace Go.Proofs.YtmamlgaogpkagaaGreat
open Go.RowKit
set_option linter.unusedVariables false
set_option linter.unusedSimpArgs false
set_option maxRecDepth 100000 in
set_option maxHeartbeats 1000000 in
theorem rnadd (l:List Sp) (hn:l.length≤1000000) (s:Sp) (B:Nat) (v:Value) (w:World) (hB:B≤w.heap.size) (h:w.ownsRow B 40 2 v l.length (pairs l)) :
    Calls Tryz.prog 153 #[v,.agg #[.int .i64 s.1,.int .i64 s.2]] w fun e w'=>(∃ v',e=.returned v'∧w'.ownsRow B 40 2 v' (addL l s).length (pairs (addL l s)))∧Below B w w':=by
  obtain ⟨i0,hi,hz0,hz1,hz2⟩:=info_parts infoS;obtain ⟨x,y⟩:=s;have W1:=grow (here w) (.cells #[.int .i64 x,.int .i64 y] 40);obtain ⟨x0,x1,xl⟩:=Two.new (here (w.alloc (.cells #[.int .i64 x,.int .i64 y] 40)));replace W1:=zh W1
  rcases snoc_cases l with rfl | ⟨R,q,rfl⟩
  · replace h:w.ownsRow B 40 2 v 0 []:=h;have H1:=zh (h.alloc (.cells #[.int .i64 x,.int .i64 y] 40));obtain ⟨ao,cp,rfl⟩:=(Sl.owns h).shape;clear h
    go_enter Tryz.func153,Tryz.ntmps153
    go_wp2
    go_quiet (fail)
    refine at_world (G:=fun W'=>Exit.then _ _ Exit.normal _ W') (fun W'=>Below w.heap.size w W'∧Two W' w.heap.size (.int .i64 x) (.int .i64 y)∧W'.ownsRow B 40 2 (.slice ao 0 cp) 0 []) ⟨below_drewN W1.out _,Two.drewN ⟨x0,x1,xl⟩ _,H1.out⟩ ?_;rintro W ⟨AW,⟨y0,y1,yl⟩,OW⟩;replace AW:=zh AW;replace OW:=zh OW;clear x0 x1 xl W1 H1;go_wp2_with (at_builtin;refine wpList_append_own _ rfl _ _ 22 rfl B 40 i0 (.agg #[.int .i64 0,.int .i64 0]) 2 16 Tryz.underlying22 hi hz0 hz1 hz2 rfl (by decide) (.slice ao 0 cp) 0 [] rfl (OW.out.alloc _) ⟨W.heap.size,0,none⟩ 1 1 [.int .i64 x,.int .i64 y] rfl rfl ?c1 ?c2 ?c3 ?c4 ?c5 ?_)
    case c1=>intro j u hj;rw [Addr.add_lit,Nat.zero_add,World.cell?_alloc_new];simpa using hj
    case c2=>intro u hu;simp at hu;rcases hu with rfl | rfl <;> rfl
    case c3=>unfold maxLen;omega
    case c4=>omega
    case c5=>have:=AW.out.size;simp;omega
    intro v3 w3 hown hgrow _;have A3:Hid (Below B w w3):=((AW.out.mono hB).alloc (by have:=AW.out.size;omega) _).grown hgrow (by have:=AW.out.size;simp;omega) (own_ge OW.out);have O3:Hid (w3.ownsRow B 40 2 v3 (addL [] (x,y)).length (pairs (addL [] (x,y)))):=by
      exact hown
    clear hown hgrow OW AW;go_wp2
    go_ret
    exact ⟨⟨_,rfl,O3.out⟩,A3.out⟩
  · have H1:=h.alloc (.cells #[.int .i64 x,.int .i64 y] 40);obtain ⟨g,cp,rfl⟩:∃ g cp,v=.slice (some ⟨g,0,none⟩) (R.length+1) cp:=by
      rcases h.2 with ⟨-,h0⟩ | ⟨g,cp,cur,e,-⟩
      · simp at h0
      · exact ⟨g,cp,by rw [e];simp⟩
    have len:(R++[q]).length=R.length+1:=by simp
    clear h;rw [len] at H1 hn;have gl:=H1.lt g rfl;have c0:(w.alloc (.cells #[.int .i64 x,.int .i64 y] 40)).cell? ⟨g,R.length * 2,none⟩=some (.int .i64 q.1):=by
      have:=(pairs_get (R++[q]) R.length (by simp)).1;rw [H1.cellAt _ (by omega),Nat.mul_comm,this];simp
    have c1:(w.alloc (.cells #[.int .i64 x,.int .i64 y] 40)).cell? ⟨g,R.length * 2+1,none⟩=some (.int .i64 q.2):=by
      have:=(pairs_get (R++[q]) R.length (by simp)).2;rw [H1.cellAt _ (by omega),Nat.mul_comm,this];simp
    have f1:=H1.frozenAt (R.length * 2+1);have ST:=zh (fun n=>World.ownsRow.stored (w:=(w.alloc (.cells #[.int .i64 x,.int .i64 y] 40)).drewN n) H1 (R.length * 2+1) (.int .i64 y));replace H1:=zh H1;obtain ⟨m,hm⟩:∃ m,R.length=m:=⟨_,rfl⟩;rw [hm] at c0 c1 f1 hn H1 ST ⊢;obtain ⟨K,hK⟩:∃ K:Nat,m+1=K:=⟨_,rfl⟩;rw [hK] at H1 hn ST ⊢;have kz:decide (0<(K:Int))=true:=zdt (by omega);have kz2:decide (0<K)=true:=zdt (by omega);have k1:(K:Int) - 1=m:=by omega
    have km:((m:Nat):Int)<(K:Int):=by omega
    by_cases z:q.2=x
    · have kq:(q.2==x)=true:=beq_iff_eq.2 z
      go_enter Tryz.func153,Tryz.ntmps153
      have vl:addL (R++[q]) (x,y)=R++[(q.1,y)]:=by rw [add_snoc,if_pos z]
      have ln:(R++[(q.1,y)]).length=K:=by simp;omega
      have ps:=pairs_set R q y;rw [hm] at ps;rw [ps] at ST;rw [vl,ln];replace W1:=zh (W1.out.mono hB);clear ps vl ln;go_wp2
      go_quiet (fail)
      go_wp2
      go_ret
      exact ⟨⟨_,rfl,(ST.out _).1⟩,(below_drewN W1.out _).setCell (p:=⟨g,m * 2+1,none⟩) gl.1 _⟩
    · have kq:(q.2==x)=false:=by rw [beq_eq_false_iff_ne];exact z
      go_enter Tryz.func153,Tryz.ntmps153
      go_wp2
      go_quiet (fail)
      refine at_world (G:=fun W'=>Exit.then _ _ Exit.normal _ W') (fun W'=>Below w.heap.size w W'∧Two W' w.heap.size (.int .i64 x) (.int .i64 y)∧W'.ownsRow B 40 2 (.slice (some ⟨g,0,none⟩) K cp) K (pairs (R++[q]))) ⟨below_drewN W1.out _,Two.drewN ⟨x0,x1,xl⟩ _,H1.out⟩ ?_;rintro W ⟨AW,⟨y0,y1,yl⟩,OW⟩;replace AW:=zh AW;replace OW:=zh OW;clear x0 x1 xl W1 H1 c0 c1 f1 ST;go_wp2_with (at_builtin;refine wpList_append_own _ rfl _ _ 22 rfl B 40 i0 (.agg #[.int .i64 0,.int .i64 0]) 2 16 Tryz.underlying22 hi hz0 hz1 hz2 rfl (by decide) (.slice (some ⟨g,0,none⟩) K cp) K (pairs (R++[q])) rfl (OW.out.alloc _) ⟨W.heap.size,0,none⟩ 1 1 [.int .i64 x,.int .i64 y] rfl rfl ?c1 ?c2 ?c3 ?c4 ?c5 ?_)
      case c1=>intro j u hj;rw [Addr.add_lit,Nat.zero_add,World.cell?_alloc_new];simpa using hj
      case c2=>intro u hu;simp at hu;rcases hu with rfl | rfl <;> rfl
      case c3=>unfold maxLen;omega
      case c4=>omega
      case c5=>have:=AW.out.size;simp;omega
      intro v3 w3 hown hgrow _;have A3:Hid (Below B w w3):=((AW.out.mono hB).alloc (by have:=AW.out.size;omega) _).grown hgrow (by have:=AW.out.size;simp;omega) (own_ge OW.out);have O3:Hid (w3.ownsRow B 40 2 v3 (addL (R++[q]) (x,y)).length (pairs (addL (R++[q]) (x,y)))):=by
        show World.ownsRow _ _ _ _ _ _ _;rw [add_snoc,if_neg z,pairs_append,show (R++[q]++[(x,y)]).length=K+1 by simp;omega];exact hown
      clear hown hgrow OW AW;go_wp2
      go_ret
      exact ⟨⟨_,rfl,O3.out⟩,A3.out⟩
theorem prs_news {base:Nat} {w:World} {o:Option Addr} {n c:Nat} {L:List Sp} (h:PairS base w (.slice o n c) L) :
    (o=none→n=0)∧n=L.length∧∀ ad,o=some ad→∀ j u,(pairs L)[j]?=some u→w.cell? (ad.add j)=some u:=by
  rcases h with ⟨h0,a,c',e⟩ | ⟨b,off,c',e,-,l⟩
  · injection e with e1 e2 e3
    obtain rfl:L=[]:=List.eq_nil_of_length_eq_zero h0;exact ⟨fun _=>e2,by rw [e2];rfl,fun ad _ j u hu=>(by simp [pairs] at hu)⟩
  · injection e with e1 e2 e3
    refine ⟨fun q=>(by rw [q] at e1;cases e1),e2,fun ad q j u hu=>?_⟩;rw [q] at e1
    cases e1
    rw [Addr.add_lit];exact l.cell j u hu
theorem ins_here {base:Nat} {w:World} {o:Option Addr} {n c:Nat} {L:List Int} (h:IntS base w (.slice o n c) L) {i:Nat} (hi:i<L.length) :
    ∃ b off,o=some ⟨b,off,none⟩∧b<w.heap.size∧∀ j,j<L.length→w.cell? ⟨b,off+j,none⟩=some (.int .i64 (L.getD j 0)):=by
  rcases h with ⟨h0,-⟩ | ⟨b,off,c',e,-,l⟩
  · omega
  · injection e with e1 e2 e3
    exact ⟨b,off,e1,l.lt,fun j hj=>ints_at l j hj⟩
theorem cb_step (k:Int) (A B:List Sp) (E:List Int) (i:Nat):cbK k A B E (i+1)=if kpB k (inB A (E.getD i 0)) (inB B (E.getD i 0)) then addL (cbK k A B E i) (E.getD i 0,E.getD (i+1) 0) else cbK k A B E i:=rfl
set_option maxRecDepth 100000 in
set_option maxHeartbeats 2000000 in
theorem rncomb (kind:Int) (va vb:Value) (A B:List Sp) (hA:A.length≤20000) (hB:B.length≤20000) {ba bb:Nat} (w:World) (ha:PairS ba w va A) (hb:PairS bb w vb B) :
    Calls Tryz.prog 107 #[.int .i64 kind,va,vb] w fun e w'=>(∃ v',e=.returned v'∧w'.ownsRow w.heap.size 40 2 v' (cbL kind A B).length (pairs (cbL kind A B)))∧Below w.heap.size w w':=by
  obtain ⟨i0,hi,hz0,hz1,hz2⟩:=info_parts infoS;obtain ⟨oa,ca,rfl⟩:=prs_shape ha;obtain ⟨ob,cb,rfl⟩:=prs_shape hb;have EN:=zh (fun v W (h:PairS w.heap.size W v (A++B))=>rnends v (A++B) (by simp;omega) W h);have AL:=zh (enK_asc (A++B) (A++B).length);have EL:=enK_len (A++B) (A++B).length;have ec:Hid (cbL kind A B=cbK kind A B (enL (A++B)) ((enL (A++B)).length - 1)):=rfl;have ab:(A++B).length=A.length+B.length:=by simp
  obtain ⟨n,hl⟩:∃ n,A.length=n:=⟨_,rfl⟩;obtain ⟨m,hm⟩:∃ m,B.length=m:=⟨_,rfl⟩;rw [hl] at hA ab ha ⊢;rw [hm] at hB ab hb ⊢;replace EL:(enL (A++B)).length≤2 * (A++B).length:=EL;rw [ab] at EL;have HA:=zh ha;have HB:=zh hb;obtain ⟨w1,hw1⟩:∃ w1:World,w.alloc (.cells #[] 40)=w1:=⟨_,rfl⟩;have O1:Hid (w1.ownsRow w.heap.size 40 2 (.slice (some ⟨w.heap.size,0,none⟩) 0 0) 0 []):=by rw [← hw1];exact World.ownsRow_lit w #[] 0 (Nat.le_refl _) (by unfold maxLen;omega) rfl
  have A1:Hid (Below w.heap.size w w1):=by rw [← hw1];exact grow (here w) _
  have N1:=zh (prs_news (HA.out.keep A1.out));clear ha hb
  go_enter Tryz.func107,Tryz.ntmps107
  go_wp2_with (at_builtin;refine app_any _ rfl _ _ 22 rfl w.heap.size 40 i0 (.agg #[.int .i64 0,.int .i64 0]) 2 16 Tryz.underlying22 hi hz0 hz1 hz2 rfl (by decide) (.slice (some ⟨w.heap.size,0,none⟩) 0 0) 0 [] rfl O1.out oa n ca (pairs A) rfl ?c1 N1.out.1 ?c3 ?c4 ?c5 ?c6 ?c7 ?_)
  case c1=>rw [pairs_length];omega
  case c3=>exact N1.out.2.2
  case c4=>exact pairs_one _
  case c5=>unfold maxLen;omega
  case c6=>omega
  case c7=>have:=A1.out.size;omega
  intro v2 w2 hown hgrow;have A2:Hid (Below w.heap.size w w2):=A1.out.grown hgrow A1.out.size (own_ge O1.out);have O2:Hid (w2.ownsRow w.heap.size 40 2 v2 n (pairs A)):=by show World.ownsRow _ _ _ _ _ _ _;simpa using hown
  have N2:=zh (prs_news (HB.out.keep A2.out));clear hown hgrow O1 N1 A1;go_wp2_with (at_builtin;refine app_any _ rfl _ _ 22 rfl w.heap.size 40 i0 (.agg #[.int .i64 0,.int .i64 0]) 2 16 Tryz.underlying22 hi hz0 hz1 hz2 rfl (by decide) v2 n (pairs A) rfl O2.out ob m cb (pairs B) rfl ?c1 N2.out.1 ?c3 ?c4 ?c5 ?c6 ?c7 ?_)
  case c1=>rw [pairs_length];omega
  case c3=>exact N2.out.2.2
  case c4=>exact pairs_one _
  case c5=>unfold maxLen;omega
  case c6=>omega
  case c7=>have:=A2.out.size;omega
  intro v3 w3 hown hgrow;have A3:Hid (Below w.heap.size w w3):=A2.out.grown hgrow A2.out.size (own_ge O2.out);have P3:PairS w.heap.size w3 v3 (A++B):=by
    have:=Sl.owns hown;rw [← pairs_append,← ab] at this;exact this
  have C3:=EN.out v3 w3 P3;clear hown hgrow O2 N2 A2 EN P3;go_wp2_with fail
  refine C3.mono ?_;rintro e w4 ⟨⟨v4,rfl,O4⟩,hb4⟩;have A4:=zd A3 hb4;have PA:=zh (HA.out.keep A4.out);have PB:=zh (HB.out.keep A4.out);have PE:Hid (IntS w3.heap.size w4 v4 (enL (A++B))):=Sl.owns O4;obtain ⟨oe,ce,rfl⟩:=(Sl.owns O4).shape;clear O4 hb4 C3 A3;obtain ⟨E,hE⟩:∃ E,enL (A++B)=E:=⟨_,rfl⟩;have EL2:E.length≤2 * (n+m):=by rw [← hE];exact EL
  rw [hE] at PE ec ⊢;clear EL hE;obtain ⟨K,hK⟩:∃ K,E.length=K:=⟨_,rfl⟩;rw [hK] at EL2 ec ⊢;have I0:Hid (w4.ownsRow w4.heap.size 40 2 (.slice none 0 0) (cbK kind A B E 0).length (pairs (cbK kind A B E 0))):=World.ownsRow_nil _ _ _ _;have B0:Hid (Below w4.heap.size w4 w4):=here w4;go_wp2
  go_loopw [8,9] (fun s i wr=>∃ (k:Nat) (s':Value),s'=s∧(k=0∨k+1≤K)∧i=.int .i64 k∧Hid (wr.ownsRow w4.heap.size 40 2 s (cbK kind A B E k).length (pairs (cbK kind A B E k)))∧Hid (Below w4.heap.size w4 wr)) (fun _ i _=>K - (intOf i).toNat)
  case atStart=>exact ⟨0,_,rfl,.inl rfl,rfl,I0,B0⟩
  case round =>
    obtain ⟨k,s',rfl,hk,rfl,HO,HW⟩:=hrel;clear I0 B0
    by_cases z:k+1<K
    · obtain ⟨k1,hk1⟩:∃ k1,k+1=k1:=⟨_,rfl⟩;rw [hk1] at z;have kz:decide ((k1:Int)<(K:Int))=true:=zdt (by omega);have kz2:decide (k1<K)=true:=zdt z;have PW:=PE.out.keep HW.out;rw [hK] at PW;obtain ⟨b,off,rfl,bl,cs⟩:=ins_here PW (show k<E.length by omega);have c0:=cs k (by omega);have c1:=cs k1 (by omega);have st:=cb_step kind A B E k;rw [hk1] at st;replace st:=zh st;have ln:=cbK_len kind A B E k;have FA:=zh (fun n'=>rnin (.slice oa n ca) A (by unfold maxLen;omega) (E.getD k 0) (wr.drewN n') ((PA.out.keep HW.out).keep (below_drewN (here _) n')));have FB:=zh (fun n'=>rnin (.slice ob m cb) B (by unfold maxLen;omega) (E.getD k 0) (wr.drewN n') ((PB.out.keep HW.out).keep (below_drewN (here _) n')));have FK:=zh (fun n'=>rnkeep kind (inB A (E.getD k 0)) (inB B (E.getD k 0)) (wr.drewN n'));have km:(k:Int)+1=(k1:Int):=by omega
      have kK:k<K:=by omega
      have wk:IntKind.i64.wrap (k1:Int)=(k1:Int):=by rw [IntKind.wrap_i64];omega
      have k0:(0:Int)≤(k1:Int):=by omega
      have kK1:(k1:Int)<(K:Int):=by omega
      clear PW cs;generalize E.getD k 0=x at *;generalize E.getD k1 0=y at *;generalize inB A x=ia at *;generalize inB B x=ib at *;generalize hl0:cbK kind A B E k=l0 at *
      cases t:kpB kind ia ib
      all_goals
        rw [t] at FK st;clear t hl0;go_wp2
        go_quiet (first | (go_at_call 54;first | (with_reducible exact qleft (FA.out _)) | exact qleft (FB.out _)) | (go_at_call 152;exact qleft (FK.out _)))
        refine at_world (G:=fun W'=>Exit.then _ _ Exit.normal _ W') (fun W'=>Below wr.heap.size wr W') (below_drewN (here _) _) ?_;intro W AW;have OW:=zh (owns_below HO.out AW);have BW:=zd HW AW;replace c0:=(AW.cell (p:=⟨b,off+k,none⟩) bl).trans c0;replace c1:=(AW.cell (p:=⟨b,off+k1,none⟩) bl).trans c1;have AW2:=AW.size;clear FA FB FK AW HW HO
      · have st2:Hid (cbK kind A B E k1=l0):=by show _=_;rw [st.out];rfl
        replace OW:Hid (W.ownsRow w4.heap.size 40 2 s' (cbK kind A B E k1).length (pairs (cbK kind A B E k1))):=by show World.ownsRow _ _ _ _ _ _ _;rw [st2.out];exact OW.out
        clear c0 c1 st st2;go_wp2
        go_roundw
        case rel=>exact ⟨k1,_,rfl,.inr (by omega),by first | rfl | go_num | (simp;omega),OW,BW⟩
        case measure=>simp [intOf];omega
      · have st2:Hid (cbK kind A B E k1=addL l0 (x,y)):=by show _=_;rw [st.out];rfl
        have HADD:Calls Tryz.prog 153 #[s',.agg #[.int .i64 x,.int .i64 y]] W.drew _:=rnadd l0 (by omega) (x,y) w4.heap.size s' W.drew BW.out.size OW.out;have bz:b<W.heap.size:=by have:=AW2;omega
        replace HADD:=zh HADD;clear st;go_wp2
        go_region_with (go_at_call 153;(with_reducible refine HADD.out.mono ?_);rintro e w5 ⟨⟨v5,rfl,O5⟩,hb5⟩)
        all_goals
          replace O5:Hid (w5.ownsRow w4.heap.size 40 2 v5 (cbK kind A B E k1).length (pairs (cbK kind A B E k1))):=by show World.ownsRow _ _ _ _ _ _ _;rw [st2.out];exact O5
          have B5:Hid (Below w4.heap.size w4 w5):=(Below.drew BW.out).trans hb5;clear hb5 st2 c0 c1 OW BW;go_wp2
          go_roundw
          case rel=>exact ⟨k1,_,rfl,.inr (by omega),by first | rfl | go_num | (simp;omega),O5,B5⟩
          case measure=>simp [intOf];omega
    · obtain rfl:k=K - 1:=by omega
      have kz:decide (((K - 1:Nat):Int)+1<(K:Int))=false:=zdf (by omega);obtain ⟨k,hk0⟩:∃ k,K - 1=k:=⟨_,rfl⟩;rw [hk0] at HO ec kz ⊢;have kz2:decide (k+1<K)=false:=zdf (by omega);have AW:=down A4.out (HW.out.mono (Nat.le_refl _));replace HO:=own_weak HO.out A4.out.size;rw [← ec.out] at HO;replace HO:=zh HO;clear HW ec PE PA PB HA HB AL A4;go_wp2
      go_ret
      exact ⟨⟨_,rfl,HO.out⟩,AW⟩
set_option maxRecDepth 100000 in
set_option maxHeartbeats 1000000 in
theorem rnof (v:Value) (L:List Sp) (hn:L.length≤20000) {base:Nat} (w:World) (h:PairS base w v L) :
    Calls Tryz.prog 51 #[v] w fun e w'=>(∃ v',e=.returned (.tuple #[v',.int .i64 (ruOf L).2])∧PairS w.heap.size w' v' (ruOf L).1)∧Below w.heap.size w w':=by
  have HS:=rnspans v L (by unfold maxLen;omega) w h;have HL:=zh h
  cases s:spsB L
  · rw [s] at HS;have r2:Hid (ruOf L=([],1)):=by show _=_;unfold ruOf;rw [s];rfl
    clear h s
    go_enter Tryz.func51,Tryz.ntmps51
    go_wp2_with fail
    refine HS.mono ?_;rintro e w1 ⟨rfl,hb⟩;go_wp2
    go_ret2
    rw [r2.out];exact ⟨⟨_,rfl,prs_nil _ _⟩,hb⟩
  · rw [s] at HS;have RU:ruOf L=ruFull (cbL 1 L []):=by unfold ruOf;rw [s];rfl
    have lc0:=(cb_spec 1 L []).2.2.2;have lc1:([]:List Sp).length=0:=rfl;clear h s
    go_enter Tryz.func51,Tryz.ntmps51
    go_wp2_with fail
    refine HS.mono ?_;rintro e w1 ⟨rfl,hb⟩;have A1:=zh hb;have HC:=rncomb 1 v (.slice none 0 0) L [] hn (by rw [lc1];omega) w1 (HL.out.keep hb) (prs_nil 0 w1);generalize cbL 1 L []=C at *;clear hb HS;go_wp2_with fail
    refine HC.mono ?_;rintro e w2 ⟨⟨v2,rfl,OC⟩,hbc⟩;clear HC HL;have PC:=zh (own_prs OC);obtain ⟨oc,cc,rfl⟩:=prs_shape PC.out;have AC:=zd A1 hbc;have rf:Hid (ruOf L=ruFull C):=RU;clear OC hbc RU;have lc:C.length≤maxLen:=by unfold maxLen;omega
    obtain ⟨N,hN⟩:∃ N,C.length=N:=⟨_,rfl⟩;have FU:=zh (fun w=>rnfull oc N cc (by rw [← hN];exact lc) w);rw [hN] at PC
    by_cases big:2000<N
    · have r2:Hid (ruOf L=([],5)):=by show _=_;rw [rf.out];unfold ruFull;rw [hN,if_pos big]
      rw [if_pos big] at FU;go_wp2_with fail
      refine (FU.out _).mono ?_;rintro e w3 ⟨rfl,rfl⟩;go_wp2
      go_ret2
      rw [r2.out];exact ⟨⟨_,rfl,prs_nil _ _⟩,AC.out⟩
    · have r2:Hid (ruOf L=(C,0)):=by show _=_;rw [rf.out];unfold ruFull;rw [hN,if_neg big]
      rw [if_neg big] at FU;go_wp2_with fail
      refine (FU.out _).mono ?_;rintro e w3 ⟨rfl,rfl⟩;go_wp2
      go_ret2
      rw [r2.out];have PZ:=PC.out;rw [← hN] at PZ ⊢;exact ⟨⟨_,rfl,PZ.weak A1.out.size⟩,AC.out⟩
end Go.Proofs.YtmamlgaogpkagaaGreat
