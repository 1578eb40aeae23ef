/- PeGI TsRa. -/
import Derived.Test.YtmamlgaogpkagaaGreatQLPlain
import Derived.Test.YtmamlgaogpkagaaGreatQLGen
import Derived.Test.YtmamlgaogpkagaaGreatQLSl
import Derived.Test.YtmamlgaogpkagaaGreatQPeB
import Derived.Test.YtmamlgaogpkagaaGreatQRnKF
import Derived.Test.YtmamlgaogpkagaaGreatQPeKD
import Derived.Test.YtmamlgaogpkagaaGreatQPeGC
import Derived.Test.YtmamlgaogpkagaaGreatQPeKI
import Derived.Test.YtmamlgaogpkagaaGreatQPeKJ
import Derived.Test.YtmamlgaogpkagaaGreatQPeGD
import Derived.Test.YtmamlgaogpkagaaGreatQPeGEa
import Derived.Deep.RegionWith
namespace Go.Proofs.YtmamlgaogpkagaaGreat
open Go.RowKit
set_option linter.unusedVariables false
set_option linter.unusedSimpArgs false
set_option maxRecDepth 100000 in
set_option maxHeartbeats 4000000 in
theorem rpcombine (K:Int) (K0:0≤K) (K2:K≤2) (va vb:Value) (P Q:Int) (A B:List Sp) (hA:A.length≤maxLen) (hB:B.length≤maxLen) (hP:I64 P) (hQ:I64 Q) {ba bb:Nat} (w:World) (a:PairS ba w va A) (b:PairS bb w vb B) :
    Calls Tryz.prog 57 #[.agg #[.int .i64 P,va],.agg #[.int .i64 Q,vb],.int .i64 K] w fun e w'=>(∃ v',e=.returned (.tuple #[.agg #[.int .i64 (coR (K+1) P A Q B).1.1,v'],.int .i64 (coR (K+1) P A Q B).2])∧PairS w.heap.size w' v' (coR (K+1) P A Q B).1.2)∧Below w.heap.size w w':=by
  have s1:=size_two w (.cells #[.int .i64 P,va] 24);have s2:=size_two (w.alloc (.cells #[.int .i64 P,va] 24)) (.cells #[.int .i64 Q,vb] 24);have A1:=zh (grow (grow (grow (here w) (.cells #[.int .i64 P,va] 24)) (.cells #[.int .i64 Q,vb] 24)) (.cells #[.int .i64 0,.slice none 0 0] 24));have TA:=zh (Two.fst3 (here (((w.alloc (.cells #[.int .i64 P,va] 24)).alloc (.cells #[.int .i64 Q,vb] 24)).alloc (.cells #[.int .i64 0,.slice none 0 0] 24))));have TB:=zh (Two.snd3 (here (((w.alloc (.cells #[.int .i64 P,va] 24)).alloc (.cells #[.int .i64 Q,vb] 24)).alloc (.cells #[.int .i64 0,.slice none 0 0] 24))));have TR:=Tuo.new ((w.alloc (.cells #[.int .i64 P,va] 24)).alloc (.cells #[.int .i64 Q,vb] 24)) (.int .i64 0) (.slice none 0 0) 24;rw [s2,s1] at TR;replace TR:=zh TR;have a2:=zh (a.keep A1.out);have b2:=zh (b.keep A1.out);have HV:=zh (rpvalid va P A hA hP _ a2.out);obtain ⟨t0,t1,tl⟩:=TA.out;obtain ⟨u0,u1,ul⟩:=TB.out;clear a b
  cases p:pvB P A
  · have r:Hid (coR (K+1) P A Q B=((0,[]),1)):=by show _=_;unfold coR;rw [p];rfl
    rw [p] at HV;clear p s1 s2
    go_enter Tryz.func57,Tryz.ntmps57
    go_wp2_with fail
    refine HV.out.mono ?_;rintro e w4 ⟨rfl,hb⟩;have B9:=zd A1 hb;replace TR:=zh (TR.out.keep hb);clear hb A1 HV a2 b2 TA TB t0 t1 tl u0 u1 ul;have FI:Hid (Two ((w4.setCell ⟨w.heap.size+1+1,0,none⟩ (.int .i64 0)).setCell ⟨w.heap.size+1+1,1,none⟩ (.slice none 0 0)) (w.heap.size+1+1) (.int .i64 0) (.slice none 0 0)∧Below w.heap.size w ((w4.setCell ⟨w.heap.size+1+1,0,none⟩ (.int .i64 0)).setCell ⟨w.heap.size+1+1,1,none⟩ (.slice none 0 0))∧PairS w.heap.size ((w4.setCell ⟨w.heap.size+1+1,0,none⟩ (.int .i64 0)).setCell ⟨w.heap.size+1+1,1,none⟩ (.slice none 0 0)) (.slice none 0 0) []) :=
      ⟨TR.out.put _ _,(B9.out.setCell (p:=⟨w.heap.size+1+1,0,none⟩) (by show w.heap.size≤w.heap.size+1+1;omega) _).setCell (p:=⟨w.heap.size+1+1,1,none⟩) (by show w.heap.size≤w.heap.size+1+1;omega) _,Sl.none _ _⟩
    obtain ⟨⟨ri0,ri1,ri2⟩,rf0,rf1⟩:=TR.out;go_wp2
    have q0:=FI.out.1.c0;have q1:=FI.out.1.c1;generalize (w4.setCell ⟨w.heap.size+1+1,0,none⟩ (.int .i64 0)).setCell ⟨w.heap.size+1+1,1,none⟩ (.slice none 0 0)=w13 at *;refine bodyPost_ret (v:=.tuple #[.agg #[.int .i64 0,.slice none 0 0],.int .i64 1]) (by simp [results,Tryz.results57,go_sem,q0,q1]) rfl ?_;rw [r.out];exact ⟨⟨_,rfl,FI.out.2.2⟩,FI.out.2.1⟩
  · rw [p] at HV
    cases q:pvB Q B
    · have r:Hid (coR (K+1) P A Q B=((0,[]),1)):=by show _=_;unfold coR;rw [p,q];rfl
      have HW:Hid (∀ W,PairS bb W vb B→Calls Tryz.prog 56 #[.agg #[.int .i64 Q,vb]] W fun e w'=>e=.returned (.bool false)∧Below W.heap.size W w'):=fun W h=>by have:=rpvalid vb Q B hB hQ W h;rwa [q] at this
      clear p q s1 s2
      go_enter Tryz.func57,Tryz.ntmps57
      go_wp2_with fail
      refine HV.out.mono ?_;rintro e w3 ⟨rfl,hb⟩;have A3:=zd A1 hb;replace TA:=zh (TA.out.keep hb);replace TB:=zh (TB.out.keep hb);replace TR:=zh (TR.out.keep hb);replace a2:=zh (a2.out.keep hb);replace b2:=zh (b2.out.keep hb);clear hb A1 HV t0 t1 tl u0 u1 ul;obtain ⟨t0,t1,tl⟩:=TA.out;obtain ⟨u0,u1,ul⟩:=TB.out;go_wp2_with fail
      refine (HW.out _ b2.out).mono ?_;rintro e w4 ⟨rfl,hb⟩;have B9:=zd A3 hb;replace TR:=zh (TR.out.keep hb);clear hb A3 HW a2 b2 TA TB t0 t1 tl u0 u1 ul;have FI:Hid (Two ((w4.setCell ⟨w.heap.size+1+1,0,none⟩ (.int .i64 0)).setCell ⟨w.heap.size+1+1,1,none⟩ (.slice none 0 0)) (w.heap.size+1+1) (.int .i64 0) (.slice none 0 0)∧Below w.heap.size w ((w4.setCell ⟨w.heap.size+1+1,0,none⟩ (.int .i64 0)).setCell ⟨w.heap.size+1+1,1,none⟩ (.slice none 0 0))∧PairS w.heap.size ((w4.setCell ⟨w.heap.size+1+1,0,none⟩ (.int .i64 0)).setCell ⟨w.heap.size+1+1,1,none⟩ (.slice none 0 0)) (.slice none 0 0) []) :=
        ⟨TR.out.put _ _,(B9.out.setCell (p:=⟨w.heap.size+1+1,0,none⟩) (by show w.heap.size≤w.heap.size+1+1;omega) _).setCell (p:=⟨w.heap.size+1+1,1,none⟩) (by show w.heap.size≤w.heap.size+1+1;omega) _,Sl.none _ _⟩
      obtain ⟨⟨ri0,ri1,ri2⟩,rf0,rf1⟩:=TR.out;go_wp2
      have q0:=FI.out.1.c0;have q1:=FI.out.1.c1;generalize (w4.setCell ⟨w.heap.size+1+1,0,none⟩ (.int .i64 0)).setCell ⟨w.heap.size+1+1,1,none⟩ (.slice none 0 0)=w13 at *;refine bodyPost_ret (v:=.tuple #[.agg #[.int .i64 0,.slice none 0 0],.int .i64 1]) (by simp [results,Tryz.results57,go_sem,q0,q1]) rfl ?_;rw [r.out];exact ⟨⟨_,rfl,FI.out.2.2⟩,FI.out.2.1⟩
    · have pv:=pv_iff.1 p;have qv:=pv_iff.1 q;have HW:Hid (∀ W,PairS bb W vb B→Calls Tryz.prog 56 #[.agg #[.int .i64 Q,vb]] W fun e w'=>e=.returned (.bool true)∧Below W.heap.size W w'):=fun W h=>by have:=rpvalid vb Q B hB hQ W h;rwa [q] at this
      have HP:Hid (∀ W,PairS ba W va A→PairS bb W vb B→Calls Tryz.prog 110 #[.agg #[.int .i64 P,va],.agg #[.int .i64 Q,vb]] W fun e w'=>e=.returned (.tuple #[.int .i64 (prR P Q A.length B.length).1,.int .i64 (prR P Q A.length B.length).2])∧Below W.heap.size W w'):=fun W h1 h2=>rppair va vb P Q A B pv.len qv.len pv.p0 pv.p1 qv.p0 qv.p1 W h1 h2;have CR:coR (K+1) P A Q B=if (prR P Q A.length B.length).2=0 then pfR (prR P Q A.length B.length).1 (fun x=>kpB (K+1) (hsP P A x) (hsP Q B x)) else ((0,[]),(prR P Q A.length B.length).2):=by unfold coR;rw [p,q];rfl
      have PF:=fun h=>pr_ok (P:=P) (Q:=Q) (n:=A.length) (m:=B.length) h;have CF:=fun h=>co_facts (k:=K+1) (by omega) (by omega) pv qv h;have DV:(prR P Q A.length B.length).2=0→P ∣ (prR P Q A.length B.length).1∧Q ∣ (prR P Q A.length B.length).1:=fun h=>by
        obtain ⟨e1,e2,-,-⟩:=pr_ok h;obtain ⟨f1,f2,f3⟩:=pr_facts pv.p0 pv.p1 qv.p0 e1;rw [e2];exact ⟨f1,f2⟩
      generalize prR P Q A.length B.length=PR at *;obtain ⟨M,E⟩:=PR;replace HP:Hid (∀ W,PairS ba W va A→PairS bb W vb B→Calls Tryz.prog 110 #[.agg #[.int .i64 P,va],.agg #[.int .i64 Q,vb]] W fun e w'=>e=.returned (.tuple #[.int .i64 M,.int .i64 E])∧Below W.heap.size W w'):=HP;replace CR:coR (K+1) P A Q B=if E=0 then pfR M (fun x=>kpB (K+1) (hsP P A x) (hsP Q B x)) else ((0,[]),E):=CR;replace CF:E=0→CoF (K+1) P A Q B M:=CF;replace DV:E=0→P ∣ M∧Q ∣ M:=DV;clear p q s1 s2 PF
      by_cases e0:E=0
      · have ke:(E != 0)=false:=by rw [e0];rfl
        rw [if_pos e0] at CR;obtain ⟨m0,m1,pm,qm,la,lb,-,lc,ec,ci⟩:=CF e0;obtain ⟨dP,dQ⟩:=DV e0;clear CF DV;have coP:Per (fun x=>kpB (K+1) (hsP P A x) (hsP Q B x)) M:=fun x=>by show kpB (K+1) (hsP P A (x+M)) (hsP Q B (x+M))=_;rw [pm,qm]
        have LL:=lea_of m0 m1 coP (by rw [← ec];omega);have SPA0:Hid (∀ W,PairS ba W va A→Calls Tryz.prog 112 #[.agg #[.int .i64 P,va],.int .i64 M] W fun e w'=>(∃ v',e=.returned v'∧PairS 0 w' v' (caL (hsP P A) 0 M))∧Below W.heap.size W w'):=fun W h=>rpspread va P A pv M m0 m1 dP la W h;have SPB0:Hid (∀ W,PairS bb W vb B→Calls Tryz.prog 112 #[.agg #[.int .i64 Q,vb],.int .i64 M] W fun e w'=>(∃ v',e=.returned v'∧PairS 0 w' v' (caL (hsP Q B) 0 M))∧Below W.heap.size W w'):=fun W h=>rpspread vb Q B qv M m0 m1 dQ lb W h;have LS:Hid (∀ W v1 v2,PairS 0 W v1 (caL (hsP P A) 0 M)→PairS 0 W v2 (caL (hsP Q B) 0 M)→Calls Tryz.prog 83 #[v1,v2,.int .i64 K] W fun e w'=>(∃ v',e=.returned v'∧PairS W.heap.size w' v' (cbL (K+1) (caL (hsP P A) 0 M) (caL (hsP Q B) 0 M)))∧Below W.heap.size W w'):=fun W v1 v2 h1 h2=>rplists v1 v2 _ _ (by omega) (by omega) (ca_cn _ _ _) (ca_cn _ _ _) K K0 K2 W h1 h2;have LE:Hid (∀ W v1,∀ {b1:Nat},PairS b1 W v1 (cbL (K+1) (caL (hsP P A) 0 M) (caL (hsP Q B) 0 M))→Calls Tryz.prog 109 #[.int .i64 M,v1] W fun e w'=>(∃ v',e=.returned (.agg #[.int .i64 (fmP M (fun x=>kpB (K+1) (hsP P A x) (hsP Q B x))).1,v'])∧PairS W.heap.size w' v' (fmP M (fun x=>kpB (K+1) (hsP P A x) (hsP Q B x))).2)∧Below W.heap.size W w'):=fun W v1 _ h=>LL.le v1 _ W ec (by omega) h;have LI:=zh (fun W v1 {b1:Nat} hb (h:PairS b1 W v1 (fmP M (fun x=>kpB (K+1) (hsP P A x) (hsP Q B x))).2)=>LL.li v1 W hb h);have r:=zh CR;clear LL coP pv qv CR pm qm la lb lc ec ci dP dQ m0 m1;generalize fmP M (fun x=>kpB (K+1) (hsP P A x) (hsP Q B x))=FM at *;generalize pfR M (fun x=>kpB (K+1) (hsP P A x) (hsP Q B x))=RR at *;generalize cbL (K+1) (caL (hsP P A) 0 M) (caL (hsP Q B) 0 M)=LC at *;generalize caL (hsP P A) 0 M=LA at *;generalize caL (hsP Q B) 0 M=LB at *
        go_enter Tryz.func57,Tryz.ntmps57
        go_wp2_with fail
        refine HV.out.mono ?_;rintro e w3 ⟨rfl,hb⟩;have A3:=zd A1 hb;replace TA:=zh (TA.out.keep hb);replace TB:=zh (TB.out.keep hb);replace TR:=zh (TR.out.keep hb);replace a2:=zh (a2.out.keep hb);replace b2:=zh (b2.out.keep hb);clear hb A1 HV t0 t1 tl u0 u1 ul;obtain ⟨t0,t1,tl⟩:=TA.out;obtain ⟨u0,u1,ul⟩:=TB.out;go_wp2_with fail
        refine (HW.out _ b2.out).mono ?_;rintro e w5 ⟨rfl,hb⟩;have A5:=zd A3 hb;replace TA:=zh (TA.out.keep hb);replace TB:=zh (TB.out.keep hb);replace TR:=zh (TR.out.keep hb);replace a2:=zh (a2.out.keep hb);replace b2:=zh (b2.out.keep hb);clear hb A3 HW t0 t1 tl u0 u1 ul;obtain ⟨t0,t1,tl⟩:=TA.out;obtain ⟨u0,u1,ul⟩:=TB.out;go_wp2_with fail
        refine (HP.out _ a2.out b2.out).mono ?_;rintro e w6 ⟨rfl,hb⟩;have A6:=zd A5 hb;replace TA:=zh (TA.out.keep hb);replace TB:=zh (TB.out.keep hb);replace TR:=zh (TR.out.keep hb);replace a2:=zh (a2.out.keep hb);replace b2:=zh (b2.out.keep hb);clear hb A5 HP t0 t1 tl u0 u1 ul;obtain ⟨t0,t1,tl⟩:=TA.out;obtain ⟨u0,u1,ul⟩:=TB.out;have SPA:=zh (fun W (h:Below w6.heap.size w6 W)=>SPA0.out W (a2.out.keep h));have SPB:=zh (fun W (h:Below w6.heap.size w6 W)=>SPB0.out W (b2.out.keep h));clear SPA0 SPB0;have tr6:=TR.out.t.lt;go_wp2
        go_region_with (first
         | (go_at_call 112;(with_reducible refine (SPA.out _ (Below.drew (here _))).mono ?_);rintro e w4 ⟨⟨v4,rfl,P4⟩,hb⟩;have hB4:=zh (down (Below.drew (here w6)) hb);have ta:=(TA.out.keep hB4.out).c0;have tb:=(TA.out.keep hB4.out).c1;have ua:=(TB.out.keep hB4.out).c0;have ub:=(TB.out.keep hB4.out).c1;replace P4:=zh P4;clear hb)
         | (go_at_call 112;(with_reducible refine (SPB.out _ hB4.out).mono ?_);rintro e w5 ⟨⟨v5,rfl,P5⟩,hb⟩;have hB5:=zd hB4 hb;(replace P4:=zh (PairS.keep P4.out hb));have ta:=(TA.out.keep hB5.out).c0;have tb:=(TA.out.keep hB5.out).c1;have ua:=(TB.out.keep hB5.out).c0;have ub:=(TB.out.keep hB5.out).c1;replace P5:=zh P5;clear hb)
         | (go_at_call 83;(with_reducible refine (LS.out _ _ _ P4.out P5.out).mono ?_);rintro e w7 ⟨⟨v7,rfl,P7⟩,hb⟩;have hB7:=zd hB5 hb;have ta:=(TA.out.keep hB7.out).c0;have tb:=(TA.out.keep hB7.out).c1;have ua:=(TB.out.keep hB7.out).c0;have ub:=(TB.out.keep hB7.out).c1;replace P7:=zh P7;clear hb)
         | (go_at_call 109;(with_reducible refine (LE.out _ _ P7.out).mono ?_);rintro e w8 ⟨⟨v8,rfl,P8⟩,hb⟩;have hB8:=zd hB7 hb;have s8:=zh hb.size;have s7:=hB7.out.size;replace P8:=zh P8;have ta:=(TA.out.keep hB8.out).c0;have tb:=(TA.out.keep hB8.out).c1;clear hb)
         | (go_at_call 111;(with_reducible refine (LI.out _ _ s8.out P8.out).mono ?_);rintro e w9 ⟨⟨v9,rfl,P9⟩,hb⟩;have hB9:=zd hB8 hb;obtain ⟨o9,c9,rfl⟩:=Sl.shape P9;have tr9:w.heap.size+1+1<w7.heap.size:=(by omega);have TR9:=TR.out.keep hB9.out;have FI:Hid (Two ((w9.setCell ⟨w.heap.size+1+1,0,none⟩ (.int .i64 RR.1.1)).setCell ⟨w.heap.size+1+1,1,none⟩ (.slice o9 RR.1.2.length c9)) (w.heap.size+1+1) (.int .i64 RR.1.1) (.slice o9 RR.1.2.length c9)∧Below w.heap.size w ((w9.setCell ⟨w.heap.size+1+1,0,none⟩ (.int .i64 RR.1.1)).setCell ⟨w.heap.size+1+1,1,none⟩ (.slice o9 RR.1.2.length c9))∧PairS w.heap.size ((w9.setCell ⟨w.heap.size+1+1,0,none⟩ (.int .i64 RR.1.1)).setCell ⟨w.heap.size+1+1,1,none⟩ (.slice o9 RR.1.2.length c9)) (.slice o9 RR.1.2.length c9) RR.1.2):=⟨TR9.put _ _,((down A6.out hB9.out).setCell (p:=⟨w.heap.size+1+1,0,none⟩) (by show w.heap.size≤w.heap.size+1+1;omega) _).setCell (p:=⟨w.heap.size+1+1,1,none⟩) (by show w.heap.size≤w.heap.size+1+1;omega) _,Sl.weak (Sl.far (Sl.far P9 tr9 _) tr9 _) (by omega)⟩;have ri0:=TR9.t.c0;have ri1:=TR9.t.c1;have rf0:=TR9.f0;have rf1:=TR9.f1;clear hb TR9 P9))
        all_goals
          go_wp2
          have q0:=FI.out.1.c0;have q1:=FI.out.1.c1;generalize (w9.setCell ⟨w.heap.size+1+1,0,none⟩ (.int .i64 RR.1.1)).setCell ⟨w.heap.size+1+1,1,none⟩ (.slice o9 RR.1.2.length c9)=w13 at *;refine bodyPost_ret (v:=.tuple #[.agg #[.int .i64 RR.1.1,.slice o9 RR.1.2.length c9],.int .i64 RR.2]) (by simp [results,Tryz.results57,go_sem,q0,q1]) rfl ?_;rw [r.out];exact ⟨⟨_,rfl,FI.out.2.2⟩,FI.out.2.1⟩
      · have ke:(E != 0)=true:=by rw [bne_iff_ne];exact e0
        rw [if_neg e0] at CR;have r:=zh CR;clear CR CF DV e0 pv qv
        go_enter Tryz.func57,Tryz.ntmps57
        go_wp2_with fail
        refine HV.out.mono ?_;rintro e w3 ⟨rfl,hb⟩;have A3:=zd A1 hb;replace TA:=zh (TA.out.keep hb);replace TB:=zh (TB.out.keep hb);replace TR:=zh (TR.out.keep hb);replace a2:=zh (a2.out.keep hb);replace b2:=zh (b2.out.keep hb);clear hb A1 HV t0 t1 tl u0 u1 ul;obtain ⟨t0,t1,tl⟩:=TA.out;obtain ⟨u0,u1,ul⟩:=TB.out;go_wp2_with fail
        refine (HW.out _ b2.out).mono ?_;rintro e w5 ⟨rfl,hb⟩;have A5:=zd A3 hb;replace TA:=zh (TA.out.keep hb);replace TB:=zh (TB.out.keep hb);replace TR:=zh (TR.out.keep hb);replace a2:=zh (a2.out.keep hb);replace b2:=zh (b2.out.keep hb);clear hb A3 HW t0 t1 tl u0 u1 ul;obtain ⟨t0,t1,tl⟩:=TA.out;obtain ⟨u0,u1,ul⟩:=TB.out;go_wp2_with fail
        refine (HP.out _ a2.out b2.out).mono ?_;rintro e w4 ⟨rfl,hb⟩;have B9:=zd A5 hb;replace TR:=zh (TR.out.keep hb);clear hb A5 HP a2 b2 TA TB t0 t1 tl u0 u1 ul;have FI:Hid (Two ((w4.setCell ⟨w.heap.size+1+1,0,none⟩ (.int .i64 0)).setCell ⟨w.heap.size+1+1,1,none⟩ (.slice none 0 0)) (w.heap.size+1+1) (.int .i64 0) (.slice none 0 0)∧Below w.heap.size w ((w4.setCell ⟨w.heap.size+1+1,0,none⟩ (.int .i64 0)).setCell ⟨w.heap.size+1+1,1,none⟩ (.slice none 0 0))∧PairS w.heap.size ((w4.setCell ⟨w.heap.size+1+1,0,none⟩ (.int .i64 0)).setCell ⟨w.heap.size+1+1,1,none⟩ (.slice none 0 0)) (.slice none 0 0) []) :=
          ⟨TR.out.put _ _,(B9.out.setCell (p:=⟨w.heap.size+1+1,0,none⟩) (by show w.heap.size≤w.heap.size+1+1;omega) _).setCell (p:=⟨w.heap.size+1+1,1,none⟩) (by show w.heap.size≤w.heap.size+1+1;omega) _,Sl.none _ _⟩
        obtain ⟨⟨ri0,ri1,ri2⟩,rf0,rf1⟩:=TR.out;go_wp2
        have q0:=FI.out.1.c0;have q1:=FI.out.1.c1;generalize (w4.setCell ⟨w.heap.size+1+1,0,none⟩ (.int .i64 0)).setCell ⟨w.heap.size+1+1,1,none⟩ (.slice none 0 0)=w13 at *;refine bodyPost_ret (v:=.tuple #[.agg #[.int .i64 0,.slice none 0 0],.int .i64 E]) (by simp [results,Tryz.results57,go_sem,q0,q1]) rfl ?_;rw [r.out];exact ⟨⟨_,rfl,FI.out.2.2⟩,FI.out.2.1⟩
theorem cb_list {k:Int} {s t:TS} {x y:Int} (xy:x≤y):cbL k (caL (hsT s) x y) (caL (hsT t) x y)=caL (fun z=>kpB k (hsT s z) (hsT t z)) x y∨¬ (1≤k∧k≤3):=by
 by_cases kk:1≤k∧k≤3
 ·left
  refine ca_eq (cb_spec k _ _).1 fun z=>?_;rw [(cb_spec k _ _).2.1,ca_in,ca_in]
  by_cases h:x≤z∧z<y
  ·rw [zdt h.1,zdt h.2];rfl
  ·have e:(decide (x≤z)&&decide (z<y))=false:=by
    rw [← Bool.not_eq_true];simp only [Bool.and_eq_true,decide_eq_true_eq];exact h
   rw [e]
   rcases (show k=1∨k=2∨k=3 by omega) with rfl | rfl | rfl <;> rfl
 ·exact .inr kk
end Go.Proofs.YtmamlgaogpkagaaGreat
