/- PeKJ1 PeKKa TsUa TsCa. -/
import Derived.Test.YtmamlgaogpkagaaGreatQLPlain
import Derived.Test.YtmamlgaogpkagaaGreatQLGen
import Derived.Test.YtmamlgaogpkagaaGreatQLSl
import Derived.Test.YtmamlgaogpkagaaGreatQRnKF
import Derived.Test.YtmamlgaogpkagaaGreatQPeKD
import Derived.Test.YtmamlgaogpkagaaGreatQPeKI
import Derived.Test.YtmamlgaogpkagaaGreatQRnKHa
import Derived.Test.YtmamlgaogpkagaaGreatQPeKJ
import Derived.Deep.RegionHeld3
namespace Go.Proofs.YtmamlgaogpkagaaGreat
open Go.RowKit
set_option linter.unusedVariables false
set_option linter.unusedSimpArgs false
set_option maxRecDepth 100000 in
set_option maxHeartbeats 2000000 in
theorem upcombine1 (RL:Rule 1 147) (va vb:Value) (P Q:Int) (A B:List Sp) (hA:A.length≤maxLen) (hB:B.length≤maxLen) (hP:I64 P) (hQ:I64 Q) {ba bb:Nat} (w:World) (a:PairS ba w va A) (b:PairS bb w vb B) :
    Calls Tryz.prog 146 #[.agg #[.int .i64 P,va],.agg #[.int .i64 Q,vb],.func (.func 147) #[] #[]] w fun e w'=>(∃ v',e=.returned (.tuple #[.agg #[.int .i64 (coR 1 P A Q B).1.1,v'],.int .i64 (coR 1 P A Q B).2])∧PairS w.heap.size w' v' (coR 1 P A Q B).1.2)∧Below w.heap.size w w':=by
  have s1:=size_two w (.cells #[.int .i64 P,va] 24);have s2:=size_two (w.alloc (.cells #[.int .i64 P,va] 24)) (.cells #[.int .i64 Q,vb] 24);have A1:=zh (grow (grow (grow (here w) (.cells #[.int .i64 P,va] 24)) (.cells #[.int .i64 Q,vb] 24)) (.cells #[.int .i64 0,.slice none 0 0] 24));have TA:=zh (Two.fst3 (here (((w.alloc (.cells #[.int .i64 P,va] 24)).alloc (.cells #[.int .i64 Q,vb] 24)).alloc (.cells #[.int .i64 0,.slice none 0 0] 24))));have TB:=zh (Two.snd3 (here (((w.alloc (.cells #[.int .i64 P,va] 24)).alloc (.cells #[.int .i64 Q,vb] 24)).alloc (.cells #[.int .i64 0,.slice none 0 0] 24))));have TR:=Tuo.new ((w.alloc (.cells #[.int .i64 P,va] 24)).alloc (.cells #[.int .i64 Q,vb] 24)) (.int .i64 0) (.slice none 0 0) 24;rw [s2,s1] at TR;replace TR:=zh TR;have a2:=zh (a.keep A1.out);have b2:=zh (b.keep A1.out);have HC:=zh (upcommon va vb P Q A B hA hB hP hQ _ a2.out b2.out);have k1:(1:Int)≤1:=by omega
  have k3:(1:Int)≤3:=by omega
  have FA:∀ c:Int × Int,c=(if pvB P A&&pvB Q B then prR P Q A.length B.length else (0,1))→(c.2≠0→coR 1 P A Q B=((0,[]),c.2))∧(c.2=0→PV P A∧PV Q B∧CoF 1 P A Q B c.1∧coR 1 P A Q B=pfR c.1 (fun x=>kpB 1 (hsP P A x) (hsP Q B x))):=fun c hc=>by
    unfold coR
    cases q:(pvB P A&&pvB Q B)
    · rw [q] at hc;rw [hc];exact ⟨fun _=>rfl,fun z=>by cases z⟩
    · rw [q] at hc;rw [if_pos rfl] at hc;rw [if_pos rfl,hc];rw [Bool.and_eq_true] at q;refine ⟨fun z=>by rw [if_neg z],fun z=>⟨pv_iff.1 q.1,pv_iff.1 q.2,co_facts k1 k3 (pv_iff.1 q.1) (pv_iff.1 q.2) z,by rw [if_pos z]⟩⟩
  obtain ⟨c,hc⟩:∃ c,(if pvB P A&&pvB Q B then prR P Q A.length B.length else (0,1))=c:=⟨_,rfl⟩;replace FA:=zh (FA c hc.symm);rw [hc] at HC;clear hc a b;obtain ⟨M,E⟩:=c;replace HC:Hid (Calls Tryz.prog 173 #[.agg #[.int .i64 P,va],.agg #[.int .i64 Q,vb]] (((w.alloc (.cells #[.int .i64 P,va] 24)).alloc (.cells #[.int .i64 Q,vb] 24)).alloc (.cells #[.int .i64 0,.slice none 0 0] 24)) fun e w'=>e=.returned (.tuple #[.int .i64 M,.int .i64 E])∧Below (((w.alloc (.cells #[.int .i64 P,va] 24)).alloc (.cells #[.int .i64 Q,vb] 24)).alloc (.cells #[.int .i64 0,.slice none 0 0] 24)).heap.size (((w.alloc (.cells #[.int .i64 P,va] 24)).alloc (.cells #[.int .i64 Q,vb] 24)).alloc (.cells #[.int .i64 0,.slice none 0 0] 24)) w'):=HC;obtain ⟨t0,t1,tl⟩:=TA.out;obtain ⟨u0,u1,ul⟩:=TB.out
  by_cases e0:E=0
  · subst e0;have FF:=FA.out.2 rfl;obtain ⟨pv,qv,CF,r⟩:=FF;replace r:=zh r;replace CF:=zh CF;replace r:Hid (coR 1 P A Q B=pfR M (fun x=>kpB 1 (hsP P A x) (hsP Q B x))):=r;replace CF:Hid (CoF 1 P A Q B M):=CF;have M0:=CF.out.m0;have M1:=CF.out.m1;clear FA s1 s2
    go_enter Tryz.func146,Tryz.ntmps146
    go_wp2_with fail
    refine HC.out.mono ?_;rintro e w4 ⟨rfl,hb⟩;have A4:=zd A1 hb;replace TA:=zh (TA.out.keep hb);replace TB:=zh (TB.out.keep hb);replace TR:=zh (TR.out.keep hb);replace a2:=zh (a2.out.keep hb);replace b2:=zh (b2.out.keep hb);clear hb A1 HC t0 t1 tl u0 u1 ul;obtain ⟨t0,t1,tl⟩:=TA.out;obtain ⟨u0,u1,ul⟩:=TB.out;go_wp2
    obtain ⟨w6,hw6⟩:∃ w6,w4.alloc (.cells #[.int .i64 0,.int .i64 M] 40)=w6:=⟨_,rfl⟩;rw [hw6];have A6:Hid (Below w.heap.size w w6):=by show Below _ _ _;rw [← hw6];exact grow A4.out _
    have hb:Below w4.heap.size w4 w6:=by rw [← hw6];exact grow (here w4) _
    have TI:Hid (Two w6 w4.heap.size (.int .i64 0) (.int .i64 M)):=by show Two _ _ _ _;rw [← hw6];exact Two.new (here _)
    replace TA:=zh (TA.out.keep hb);replace TB:=zh (TB.out.keep hb);replace TR:=zh (TR.out.keep hb);replace a2:=zh (a2.out.keep hb);replace b2:=zh (b2.out.keep hb);clear hb t0 t1 tl u0 u1 ul A4 hw6;obtain ⟨t0,t1,tl⟩:=TA.out;obtain ⟨u0,u1,ul⟩:=TB.out;obtain ⟨i0,i1,il⟩:=TI.out;have sm:spB (0,M)=true:=spB_iff.2 ⟨by show (-4398046511104:Int)≤0;omega,by show M≤4398046511104;omega,M0⟩;have ONE:∀ {f:Int→Bool} {R:List Sp},(caL f 0 M).length≤2000→LsD f 0 M R→R=caL f 0 M:=fun l h=>by
      rcases h with h | h
      · exact h
      · omega
    have LA:Hid (∀ W,Below w6.heap.size w6 W→Calls Tryz.prog 174 #[.agg #[.int .i64 P,va],.agg #[.int .i64 0,.int .i64 M]] W fun e w'=>(∃ v',e=.returned v'∧PairS W.heap.size w' v' (caL (hsP P A) 0 M))∧Below W.heap.size W w'):=fun W h=>(uplisted va P A pv 0 M sm W (a2.out.keep h)).mono (by rintro e w' ⟨⟨v',R,a,b,c,d⟩,hb⟩;exact ⟨⟨v',a,by rw [← ONE CF.out.la d];exact b⟩,hb⟩);have LB:Hid (∀ W,Below w6.heap.size w6 W→Calls Tryz.prog 174 #[.agg #[.int .i64 Q,vb],.agg #[.int .i64 0,.int .i64 M]] W fun e w'=>(∃ v',e=.returned v'∧PairS W.heap.size w' v' (caL (hsP Q B) 0 M))∧Below W.heap.size W w'):=fun W h=>(uplisted vb Q B qv 0 M sm W (b2.out.keep h)).mono (by rintro e w' ⟨⟨v',R,a,b,c,d⟩,hb⟩;exact ⟨⟨v',a,by rw [← ONE CF.out.lb d];exact b⟩,hb⟩);have RU:Hid (∀ W v1 v2,∀ {b1 b2:Nat},PairS b1 W v1 (caL (hsP P A) 0 M)→PairS b2 W v2 (caL (hsP Q B) 0 M)→Calls Tryz.prog 147 #[v1,v2] W fun e w'=>(∃ v',e=.returned (.tuple #[v',.int .i64 0])∧PairS W.heap.size w' v' (cbL 1 (caL (hsP P A) 0 M) (caL (hsP Q B) 0 M)))∧Below W.heap.size W w'):=fun W v1 v2 _ _ h1 h2=>by
      have q:=RL v1 v2 _ _ (by have:=CF.out.la;unfold maxLen;omega) (by have:=CF.out.lb;unfold maxLen;omega) W h1 h2;rw [CF.out.ru] at q;exact q.mono (by rintro e w' ⟨⟨v',a,b,c⟩,hb⟩;exact ⟨⟨v',a,b⟩,hb⟩)
    have HF:Hid (∀ W v1,∀ {b1:Nat},PairS b1 W v1 (cbL 1 (caL (hsP P A) 0 M) (caL (hsP Q B) 0 M))→Calls Tryz.prog 171 #[.int .i64 M,v1] W fun e w'=>(∃ v',e=.returned (.tuple #[.agg #[.int .i64 (pfR M (fun x=>kpB 1 (hsP P A x) (hsP Q B x))).1.1,v'],.int .i64 (pfR M (fun x=>kpB 1 (hsP P A x) (hsP Q B x))).2])∧PairS W.heap.size w' v' (pfR M (fun x=>kpB 1 (hsP P A x) (hsP Q B x))).1.2)∧Below W.heap.size W w'):=fun W v1 _ h=>upform v1 M _ _ CF.out.ci (by have:=CF.out.lc;omega) M1 W h;clear pv qv ONE sm RL CF a2 b2 hA hB;generalize pfR M (fun x=>kpB 1 (hsP P A x) (hsP Q B x))=RR at *;generalize cbL 1 (caL (hsP P A) 0 M) (caL (hsP Q B) 0 M)=LC at *;generalize caL (hsP P A) 0 M=CA at *;generalize caL (hsP Q B) 0 M=CB at *;have mk:∀ W',Below w6.heap.size w6 W'→Below w6.heap.size w6 W'∧W'.cell? ⟨w.heap.size,0,none⟩=some (.int .i64 P)∧W'.cell? ⟨w.heap.size,1,none⟩=some (va)∧W'.cell? ⟨w.heap.size+1,0,none⟩=some (.int .i64 Q)∧W'.cell? ⟨w.heap.size+1,1,none⟩=some (vb)∧W'.cell? ⟨w4.heap.size,0,none⟩=some (.int .i64 0)∧W'.cell? ⟨w4.heap.size,1,none⟩=some (.int .i64 M):=fun W' q=>⟨q,(TA.out.keep q).c0,(TA.out.keep q).c1,(TB.out.keep q).c0,(TB.out.keep q).c1,(TI.out.keep q).c0,(TI.out.keep q).c1⟩;have s6:=mk w6 (here w6);clear TI TB TA t0 t1 tl u0 u1 ul i0 i1 il
    go_region_held3 (fun W'=>Below w6.heap.size w6 W'∧W'.cell? ⟨w.heap.size,0,none⟩=some (.int .i64 P)∧W'.cell? ⟨w.heap.size,1,none⟩=some (va)∧W'.cell? ⟨w.heap.size+1,0,none⟩=some (.int .i64 Q)∧W'.cell? ⟨w.heap.size+1,1,none⟩=some (vb)∧W'.cell? ⟨w4.heap.size,0,none⟩=some (.int .i64 0)∧W'.cell? ⟨w4.heap.size,1,none⟩=some (.int .i64 M)) (first | assumption | (exact mk _ (grow (And.left (by assumption)) _)) | (exact mk _ (Below.drew (And.left (by assumption)))) | (exact mk _ (below_drewN (And.left (by assumption)) _)))
      (first
       | (go_at_call 174;(with_reducible refine (LA.out _ (And.left (by assumption))).mono ?_);rintro e w' ⟨⟨v7,rfl,P7⟩,hb⟩;obtain ⟨o7,c7,rfl⟩:=Sl.shape P7;have hS:=mk w' (down (And.left (by assumption)) hb))
       | (go_at_call 174;(with_reducible refine (LB.out _ (And.left (by assumption))).mono ?_);rintro e w' ⟨⟨v8,rfl,P8⟩,hb⟩;(replace P7:=PairS.keep P7 hb);obtain ⟨o8,c8,rfl⟩:=Sl.shape P8;have hS:=mk w' (down (And.left (by assumption)) hb))
       | (go_at_call 147;(with_reducible refine (RU.out _ _ _ P7 P8).mono ?_);rintro e w' ⟨⟨v9,rfl,P9⟩,hb⟩;obtain ⟨o9,c9,rfl⟩:=Sl.shape P9;have hS:=mk w' (down (And.left (by assumption)) hb)))
    have B7:=zh (down A6.out hS.1);have HM:=zh (HF.out _ _ P9);replace TR:=zh (TR.out.keep hS.1);have sz9:=B7.out.size;have tr9:=TR.out.t.lt;clear P7 P8 P9 LA LB RU HF mk hS s6 A6;go_wp2_with fail
    refine HM.out.mono ?_;rintro e w10 ⟨⟨v10,rfl,P10⟩,hb⟩;have B9:=zd B7 hb;replace TR:=zh (TR.out.keep hb);obtain ⟨o10,c10,rfl⟩:=Sl.shape P10;replace P10:=zh P10;clear HM hb B7;have FI:Hid (Two ((w10.setCell ⟨w.heap.size+1+1,0,none⟩ (.int .i64 RR.1.1)).setCell ⟨w.heap.size+1+1,1,none⟩ (.slice o10 RR.1.2.length c10)) (w.heap.size+1+1) (.int .i64 RR.1.1) (.slice o10 RR.1.2.length c10)∧Below w.heap.size w ((w10.setCell ⟨w.heap.size+1+1,0,none⟩ (.int .i64 RR.1.1)).setCell ⟨w.heap.size+1+1,1,none⟩ (.slice o10 RR.1.2.length c10))∧PairS w.heap.size ((w10.setCell ⟨w.heap.size+1+1,0,none⟩ (.int .i64 RR.1.1)).setCell ⟨w.heap.size+1+1,1,none⟩ (.slice o10 RR.1.2.length c10)) (.slice o10 RR.1.2.length c10) RR.1.2) :=
      ⟨TR.out.put _ _,(B9.out.setCell (p:=⟨w.heap.size+1+1,0,none⟩) (by show w.heap.size≤w.heap.size+1+1;omega) _).setCell (p:=⟨w.heap.size+1+1,1,none⟩) (by show w.heap.size≤w.heap.size+1+1;omega) _,Sl.weak (Sl.far (Sl.far P10.out tr9 _) tr9 _) sz9⟩
    obtain ⟨⟨ri0,ri1,ri2⟩,rf0,rf1⟩:=TR.out;go_wp2
    have q0:=FI.out.1.c0;have q1:=FI.out.1.c1;generalize (w10.setCell ⟨w.heap.size+1+1,0,none⟩ (.int .i64 RR.1.1)).setCell ⟨w.heap.size+1+1,1,none⟩ (.slice o10 RR.1.2.length c10)=w13 at *;refine bodyPost_ret (v:=.tuple #[.agg #[.int .i64 RR.1.1,.slice o10 RR.1.2.length c10],.int .i64 RR.2]) (by simp [results,Tryz.results146,go_sem,q0,q1]) rfl ?_;rw [r.out];exact ⟨⟨_,rfl,FI.out.2.2⟩,FI.out.2.1⟩
  · have ke:(E != 0)=true:=by rw [bne_iff_ne];exact e0
    have r:=zh (FA.out.1 e0);clear FA e0 s1 s2 RL
    go_enter Tryz.func146,Tryz.ntmps146
    go_wp2_with fail
    refine HC.out.mono ?_;rintro e w4 ⟨rfl,hb⟩;have B9:=zd A1 hb;replace TR:=zh (TR.out.keep hb);clear hb A1 HC a2 b2 TA TB t0 t1 tl u0 u1 ul;have FI:Hid (Two ((w4.setCell ⟨w.heap.size+1+1,0,none⟩ (.int .i64 0)).setCell ⟨w.heap.size+1+1,1,none⟩ (.slice none 0 0)) (w.heap.size+1+1) (.int .i64 0) (.slice none 0 0)∧Below w.heap.size w ((w4.setCell ⟨w.heap.size+1+1,0,none⟩ (.int .i64 0)).setCell ⟨w.heap.size+1+1,1,none⟩ (.slice none 0 0))∧PairS w.heap.size ((w4.setCell ⟨w.heap.size+1+1,0,none⟩ (.int .i64 0)).setCell ⟨w.heap.size+1+1,1,none⟩ (.slice none 0 0)) (.slice none 0 0) []) :=
      ⟨TR.out.put _ _,(B9.out.setCell (p:=⟨w.heap.size+1+1,0,none⟩) (by show w.heap.size≤w.heap.size+1+1;omega) _).setCell (p:=⟨w.heap.size+1+1,1,none⟩) (by show w.heap.size≤w.heap.size+1+1;omega) _,Sl.none _ _⟩
    obtain ⟨⟨ri0,ri1,ri2⟩,rf0,rf1⟩:=TR.out;go_wp2
    have q0:=FI.out.1.c0;have q1:=FI.out.1.c1;generalize (w4.setCell ⟨w.heap.size+1+1,0,none⟩ (.int .i64 0)).setCell ⟨w.heap.size+1+1,1,none⟩ (.slice none 0 0)=w13 at *;refine bodyPost_ret (v:=.tuple #[.agg #[.int .i64 0,.slice none 0 0],.int .i64 E]) (by simp [results,Tryz.results146,go_sem,q0,q1]) rfl ?_;rw [r.out];exact ⟨⟨_,rfl,FI.out.2.2⟩,FI.out.2.1⟩
theorem rule1:Rule 1 147:=fun va vb A B hA hB _ _ w a b=>ruunion va vb A B hA hB w a b
set_option maxRecDepth 100000 in
set_option maxHeartbeats 2000000 in
theorem upunion (va vb:Value) (P Q:Int) (A B:List Sp) (hA:A.length≤maxLen) (hB:B.length≤maxLen) (hP:I64 P) (hQ:I64 Q) {ba bb:Nat} (w:World) (a:PairS ba w va A) (b:PairS bb w vb B) :
    Calls Tryz.prog 99 #[.agg #[.int .i64 P,va],.agg #[.int .i64 Q,vb]] w fun e w'=>(∃ v',e=.returned (.tuple #[.agg #[.int .i64 (coR 1 P A Q B).1.1,v'],.int .i64 (coR 1 P A Q B).2])∧PairS w.heap.size w' v' (coR 1 P A Q B).1.2)∧Below w.heap.size w w':=by
  have s1:=size_two w (.cells #[.int .i64 P,va] 24);have s2:=size_two (w.alloc (.cells #[.int .i64 P,va] 24)) (.cells #[.int .i64 Q,vb] 24);have A1:=zh (grow (grow (grow (here w) (.cells #[.int .i64 P,va] 24)) (.cells #[.int .i64 Q,vb] 24)) (.cells #[.int .i64 0,.slice none 0 0] 24));have TA:=zh (Two.fst3 (here (((w.alloc (.cells #[.int .i64 P,va] 24)).alloc (.cells #[.int .i64 Q,vb] 24)).alloc (.cells #[.int .i64 0,.slice none 0 0] 24))));have TB:=zh (Two.snd3 (here (((w.alloc (.cells #[.int .i64 P,va] 24)).alloc (.cells #[.int .i64 Q,vb] 24)).alloc (.cells #[.int .i64 0,.slice none 0 0] 24))));have TR:=Tuo.new ((w.alloc (.cells #[.int .i64 P,va] 24)).alloc (.cells #[.int .i64 Q,vb] 24)) (.int .i64 0) (.slice none 0 0) 24;rw [s2,s1] at TR;replace TR:=zh TR;have HC:=zh (upcombine1 rule1 va vb P Q A B hA hB hP hQ _ (a.keep A1.out) (b.keep A1.out));generalize coR 1 P A Q B=RR at *;clear a b hA hB s1 s2;obtain ⟨t0,t1,tl⟩:=TA.out;obtain ⟨u0,u1,ul⟩:=TB.out
  go_enter Tryz.func99,Tryz.ntmps99
  go_wp2_with fail
  refine HC.out.mono ?_;rintro e w10 ⟨⟨v10,rfl,P10⟩,hb⟩;have B9:=zd A1 hb;replace TR:=zh (TR.out.keep hb);have sz9:=A1.out.size;have tr9:w.heap.size+1+1<(((w.alloc (.cells #[.int .i64 P,va] 24)).alloc (.cells #[.int .i64 Q,vb] 24)).alloc (.cells #[.int .i64 0,.slice none 0 0] 24)).heap.size:=by simp
  obtain ⟨o10,c10,rfl⟩:=Sl.shape P10;replace P10:=zh P10;clear HC hb A1 TA TB t0 t1 tl u0 u1 ul;have FI:Hid (Two ((w10.setCell ⟨w.heap.size+1+1,0,none⟩ (.int .i64 RR.1.1)).setCell ⟨w.heap.size+1+1,1,none⟩ (.slice o10 RR.1.2.length c10)) (w.heap.size+1+1) (.int .i64 RR.1.1) (.slice o10 RR.1.2.length c10)∧Below w.heap.size w ((w10.setCell ⟨w.heap.size+1+1,0,none⟩ (.int .i64 RR.1.1)).setCell ⟨w.heap.size+1+1,1,none⟩ (.slice o10 RR.1.2.length c10))∧PairS w.heap.size ((w10.setCell ⟨w.heap.size+1+1,0,none⟩ (.int .i64 RR.1.1)).setCell ⟨w.heap.size+1+1,1,none⟩ (.slice o10 RR.1.2.length c10)) (.slice o10 RR.1.2.length c10) RR.1.2) :=
    ⟨TR.out.put _ _,(B9.out.setCell (p:=⟨w.heap.size+1+1,0,none⟩) (by show w.heap.size≤w.heap.size+1+1;omega) _).setCell (p:=⟨w.heap.size+1+1,1,none⟩) (by show w.heap.size≤w.heap.size+1+1;omega) _,Sl.weak (Sl.far (Sl.far P10.out tr9 _) tr9 _) sz9⟩
  obtain ⟨⟨ri0,ri1,ri2⟩,rf0,rf1⟩:=TR.out;go_wp2
  have q0:=FI.out.1.c0;have q1:=FI.out.1.c1;generalize (w10.setCell ⟨w.heap.size+1+1,0,none⟩ (.int .i64 RR.1.1)).setCell ⟨w.heap.size+1+1,1,none⟩ (.slice o10 RR.1.2.length c10)=w13 at *;refine bodyPost_ret (v:=.tuple #[.agg #[.int .i64 RR.1.1,.slice o10 RR.1.2.length c10],.int .i64 RR.2]) (by simp [results,Tryz.results99,go_sem,q0,q1]) rfl ?_;exact ⟨⟨_,rfl,FI.out.2.2⟩,FI.out.2.1⟩
theorem cb_vs {k:Int} (k1:1≤k) (k3:k≤3) {s t:TS} (h:(cbT k s t).2=0):VS s∧VS t∧VS (cbT k s t).1∧(∀ x,hsT (cbT k s t).1 x=kpB k (hsT s x) (hsT t x)):=by
 unfold cbT at h ⊢
 by_cases v:(vsB s&&vsB t)=true
 rotate_left
 ·rw [if_pos (by simpa using v)] at h;cases h
 rw [if_neg (by rw [v];simp)] at h ⊢;obtain ⟨v1,v2⟩:=Bool.and_eq_true_iff.1 v;have s1:=vs_ok.1 v1;have s2:=vs_ok.1 v2
 by_cases e1:(coR k s.P s.A t.P t.A).2=0
 rotate_left
 ·rw [if_pos e1] at h;exact absurd h e1
 rw [if_neg (by rw [e1];exact fun c=>c rfl)] at h ⊢
 by_cases e2:(coR k s.Q s.B t.Q t.B).2=0
 rotate_left
 ·rw [if_pos e2] at h;exact absurd h e2
 rw [if_neg (by rw [e2];exact fun c=>c rfl)] at h ⊢
 by_cases e3:pqE (coR k s.P s.A t.P t.A).1.1 (coR k s.P s.A t.P t.A).1.2 (coR k s.Q s.B t.Q t.B).1.1 (coR k s.Q s.B t.Q t.B).1.2=0
 rotate_left
 ·rw [if_pos e3] at h;exact absurd h e3
 rw [if_neg (by rw [e3];exact fun c=>c rfl)] at h ⊢
 by_cases few:2000<(caL (hsT s) (wnT s t).1 (wnT s t).2).length+(caL (hsT t) (wnT s t).1 (wnT s t).2).length
 ·rw [if_pos few] at h;cases h
 rw [if_neg few] at h ⊢;obtain ⟨g,ge⟩:=cb_giv k1 k3 s1 s2 e1 e2 (by omega);rw [← ge] at h ⊢;obtain ⟨a,b⟩:=fr_vs g h;exact ⟨s1,s2,a,fun x=>by rw [b,ge]⟩
theorem cb_zt (k:Int) (s t:TS):(cbT k s t).2=0∨(cbT k s t).1=tsZ:=by
 unfold cbT
 (repeat' split) <;> first | exact Or.inr rfl | exact fr_zt _ _ _ _ _
theorem cb_ti {k:Int} (k1:1≤k) (k3:k≤3) (s t:TS):TsI (cbT k s t).1:=ti_res (cb_zt k s t) fun h=>(cb_vs k1 k3 h).2.2.1
end Go.Proofs.YtmamlgaogpkagaaGreat
