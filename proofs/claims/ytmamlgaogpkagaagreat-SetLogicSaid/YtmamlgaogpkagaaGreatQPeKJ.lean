/- PeKJ PeKJ3 PeKK PeKM PeGE PeGF PeHA PeHE PeHF TsM TsN TsO TsP TsQ TsR TsG TsH TsS TsT TsW TvA TsU TsK TsC TsAw. -/
import Derived.Test.YtmamlgaogpkagaaGreatQLPlain
import Derived.Test.YtmamlgaogpkagaaGreatQLGen
import Derived.Test.YtmamlgaogpkagaaGreatQLSl
import Derived.Test.YtmamlgaogpkagaaGreatQRnKD
import Derived.Test.YtmamlgaogpkagaaGreatQRnKF
import Derived.Test.YtmamlgaogpkagaaGreatQPeKD
import Derived.Test.YtmamlgaogpkagaaGreatQPeLm
import Derived.Test.YtmamlgaogpkagaaGreatQPeKI
import Derived.Test.YtmamlgaogpkagaaGreatQRnKH
import Derived.Test.YtmamlgaogpkagaaGreatQLSrch
import Derived.Deep.RegionHeld3
import Derived.Deep.RegionWith
import Derived.StillTailTactics
import Derived.BigQuiet
import Derived.Deep.QuietTactic
namespace Go.Proofs.YtmamlgaogpkagaaGreat
open Go.RowKit
set_option linter.unusedVariables false
set_option linter.unusedSimpArgs false
noncomputable def coR (k:Int) (P:Int) (A:List Sp) (Q:Int) (B:List Sp):(Int × List Sp) × Int :=
 if pvB P A&&pvB Q B then (if (prR P Q A.length B.length).2=0 then pfR (prR P Q A.length B.length).1 (fun x=>kpB k (hsP P A x) (hsP Q B x)) else ((0,[]),(prR P Q A.length B.length).2)) else ((0,[]),1)
theorem per_dvd {f:Int→Bool} {P M:Int} (h:Per f P) (d:P ∣ M):Per f M:=by
 obtain ⟨c,rfl⟩:=d;exact h.mul c
theorem spread_len {P M:Int} {A:List Sp} (pv:PV P A) (M0:0<M) (d:P ∣ M):((caL (hsP P A) 0 M).length:Int)≤M / P * A.length:=by
 have P0:0<P:=by have:=pv.p0;omega
 obtain ⟨s,hs,s0⟩:=dvd_nat M0 P0 d;have h:=per_len P0 (hs_per (L:=A)) s;rw [← hs,← ca_self pv.cn pv.ip] at h;have e:M / P=s:=by rw [hs];exact Int.mul_ediv_cancel _ (by omega)
 rw [e];exact_mod_cast h
theorem pr_ok {P Q:Int} {n m:Nat} (h:(prR P Q n m).2=0):lE P Q=0∧(prR P Q n m).1=lR P Q∧lR P Q≤12622780800∧lR P Q / P * n+lR P Q / Q * m≤2000:=by
 unfold prR at h ⊢
 by_cases a:lE P Q=0∧lR P Q≤12622780800
 ·rw [if_pos a] at h ⊢
  by_cases b:2000<lR P Q / P * n+lR P Q / Q * m
  ·rw [if_pos b] at h;cases h
  ·rw [if_neg b];exact ⟨a.1,rfl,a.2,by omega⟩
 ·rw [if_neg a] at h;cases h
structure CoF (k P:Int) (A:List Sp) (Q:Int) (B:List Sp) (M:Int):Prop where
 m0:0<M
 m1:M≤12622780800
 pm:Per (hsP P A) M
 qm:Per (hsP Q B) M
 la:(caL (hsP P A) 0 M).length≤2000
 lb:(caL (hsP Q B) 0 M).length≤2000
 ru:ruAp k (caL (hsP P A) 0 M) (caL (hsP Q B) 0 M)=(cbL k (caL (hsP P A) 0 M) (caL (hsP Q B) 0 M),0)
 lc:(cbL k (caL (hsP P A) 0 M) (caL (hsP Q B) 0 M)).length≤2000
 ec:cbL k (caL (hsP P A) 0 M) (caL (hsP Q B) 0 M)=caL (fun x=>kpB k (hsP P A x) (hsP Q B x)) 0 M
 ci:Cir M (fun x=>kpB k (hsP P A x) (hsP Q B x)) (cbL k (caL (hsP P A) 0 M) (caL (hsP Q B) 0 M))
theorem ca_va {f:Int→Bool} {M:Int} (m1:M≤12622780800) (l:(caL f 0 M).length≤2000):vaB (caL f 0 M)=true :=
 vaB_iff.2 ⟨l,fun p hp=>by have:=ca_ends f 0 M p hp;omega,ca_cn f 0 M⟩
theorem co_facts {k P Q:Int} {A B:List Sp} (k1:1≤k) (k3:k≤3) (pv:PV P A) (qv:PV Q B) (h:(prR P Q A.length B.length).2=0):CoF k P A Q B (prR P Q A.length B.length).1:=by
 obtain ⟨a,b,c,d⟩:=pr_ok h;obtain ⟨f1,f2,f3⟩:=pr_facts pv.p0 pv.p1 qv.p0 a;rw [b];have la:=spread_len pv f3 f1;have lb:=spread_len qv f3 f2;generalize lR P Q=M at *;have pm:Per (hsP P A) M:=per_dvd hs_per f1;have qm:Per (hsP Q B) M:=per_dvd hs_per f2;have la0:(0:Int)≤(caL (hsP P A) 0 M).length:=by omega
 have lb0:(0:Int)≤(caL (hsP Q B) 0 M).length:=by omega
 have la1:(caL (hsP P A) 0 M).length≤2000:=by omega
 have lb1:(caL (hsP Q B) 0 M).length≤2000:=by omega
 have va:=ca_va c la1;have vb:=ca_va c lb1;have lc:=len_cb k1 k3 f3 (ca_cn (hsP P A) 0 M) (ca_cn (hsP Q B) 0 M) (ca_inp (hsP P A) M) (ca_inp (hsP Q B) M);have ec:cbL k (caL (hsP P A) 0 M) (caL (hsP Q B) 0 M)=caL (fun x=>kpB k (hsP P A x) (hsP Q B x)) 0 M:=by
  rw [cb_ca f3 (ca_inp (hsP P A) M) (ca_inp (hsP Q B) M) k];exact ca_congr fun x _ _=>by rw [ca_hs f3 pm,ca_hs f3 qm]
 refine ⟨f3,c,pm,qm,la1,lb1,?_,by omega,ec,?_⟩
 ·unfold ruAp ruFull
  rw [va,vb,if_neg (show ¬ 2000<(cbL k (caL (hsP P A) 0 M) (caL (hsP Q B) 0 M)).length by omega)];rfl
 ·rw [ec];have:=cir_in f3 (ca_cn (fun x=>kpB k (hsP P A x) (hsP Q B x)) 0 M) (ca_inp _ M);have e:hsP M (caL (fun x=>kpB k (hsP P A x) (hsP Q B x)) 0 M)=fun x=>kpB k (hsP P A x) (hsP Q B x):=funext fun x=>ca_hs f3 (fun y=>by show kpB k (hsP P A (y+M)) (hsP Q B (y+M))=_;rw [pm,qm]) x;rwa [e] at this
def Rule (k:Int) (g:FuncId):Prop:=∀ (va vb:Value) (A B:List Sp),A.length≤maxLen→B.length≤maxLen→∀ {ba bb:Nat} (w:World),PairS ba w va A→PairS bb w vb B →
 Calls Tryz.prog g #[va,vb] w fun e w'=>(∃ v',e=.returned (.tuple #[v',.int .i64 (ruAp k A B).2])∧PairS w.heap.size w' v' (ruAp k A B).1∧CapS v')∧Below w.heap.size w w'
set_option maxRecDepth 100000 in
set_option maxHeartbeats 2000000 in
theorem upcombine3 (RL:Rule 3 149) (va vb:Value) (P Q:Int) (A B:List Sp) (hA:A.length≤maxLen) (hB:B.length≤maxLen) (hP:I64 P) (hQ:I64 Q) {ba bb:Nat} (w:World) (a:PairS ba w va A) (b:PairS bb w vb B) :
    Calls Tryz.prog 146 #[.agg #[.int .i64 P,va],.agg #[.int .i64 Q,vb],.func (.func 149) #[] #[]] w fun e w'=>(∃ v',e=.returned (.tuple #[.agg #[.int .i64 (coR 3 P A Q B).1.1,v'],.int .i64 (coR 3 P A Q B).2])∧PairS w.heap.size w' v' (coR 3 P A Q B).1.2)∧Below w.heap.size w w':=by
  have s1:=size_two w (.cells #[.int .i64 P,va] 24);have s2:=size_two (w.alloc (.cells #[.int .i64 P,va] 24)) (.cells #[.int .i64 Q,vb] 24);have A1:=zh (grow (grow (grow (here w) (.cells #[.int .i64 P,va] 24)) (.cells #[.int .i64 Q,vb] 24)) (.cells #[.int .i64 0,.slice none 0 0] 24));have TA:=zh (Two.fst3 (here (((w.alloc (.cells #[.int .i64 P,va] 24)).alloc (.cells #[.int .i64 Q,vb] 24)).alloc (.cells #[.int .i64 0,.slice none 0 0] 24))));have TB:=zh (Two.snd3 (here (((w.alloc (.cells #[.int .i64 P,va] 24)).alloc (.cells #[.int .i64 Q,vb] 24)).alloc (.cells #[.int .i64 0,.slice none 0 0] 24))));have TR:=Tuo.new ((w.alloc (.cells #[.int .i64 P,va] 24)).alloc (.cells #[.int .i64 Q,vb] 24)) (.int .i64 0) (.slice none 0 0) 24;rw [s2,s1] at TR;replace TR:=zh TR;have a2:=zh (a.keep A1.out);have b2:=zh (b.keep A1.out);have HC:=zh (upcommon va vb P Q A B hA hB hP hQ _ a2.out b2.out);have k1:(1:Int)≤3:=by omega
  have k3:(3:Int)≤3:=by omega
  have FA:∀ c:Int × Int,c=(if pvB P A&&pvB Q B then prR P Q A.length B.length else (0,1))→(c.2≠0→coR 3 P A Q B=((0,[]),c.2))∧(c.2=0→PV P A∧PV Q B∧CoF 3 P A Q B c.1∧coR 3 P A Q B=pfR c.1 (fun x=>kpB 3 (hsP P A x) (hsP Q B x))):=fun c hc=>by
    unfold coR
    cases q:(pvB P A&&pvB Q B)
    · rw [q] at hc;rw [hc];exact ⟨fun _=>rfl,fun z=>by cases z⟩
    · rw [q] at hc;rw [if_pos rfl] at hc;rw [if_pos rfl,hc];rw [Bool.and_eq_true] at q;refine ⟨fun z=>by rw [if_neg z],fun z=>⟨pv_iff.1 q.1,pv_iff.1 q.2,co_facts k1 k3 (pv_iff.1 q.1) (pv_iff.1 q.2) z,by rw [if_pos z]⟩⟩
  obtain ⟨c,hc⟩:∃ c,(if pvB P A&&pvB Q B then prR P Q A.length B.length else (0,1))=c:=⟨_,rfl⟩;replace FA:=zh (FA c hc.symm);rw [hc] at HC;clear hc a b;obtain ⟨M,E⟩:=c;replace HC:Hid (Calls Tryz.prog 173 #[.agg #[.int .i64 P,va],.agg #[.int .i64 Q,vb]] (((w.alloc (.cells #[.int .i64 P,va] 24)).alloc (.cells #[.int .i64 Q,vb] 24)).alloc (.cells #[.int .i64 0,.slice none 0 0] 24)) fun e w'=>e=.returned (.tuple #[.int .i64 M,.int .i64 E])∧Below (((w.alloc (.cells #[.int .i64 P,va] 24)).alloc (.cells #[.int .i64 Q,vb] 24)).alloc (.cells #[.int .i64 0,.slice none 0 0] 24)).heap.size (((w.alloc (.cells #[.int .i64 P,va] 24)).alloc (.cells #[.int .i64 Q,vb] 24)).alloc (.cells #[.int .i64 0,.slice none 0 0] 24)) w'):=HC;obtain ⟨t0,t1,tl⟩:=TA.out;obtain ⟨u0,u1,ul⟩:=TB.out
  by_cases e0:E=0
  · subst e0;have FF:=FA.out.2 rfl;obtain ⟨pv,qv,CF,r⟩:=FF;replace r:=zh r;replace CF:=zh CF;replace r:Hid (coR 3 P A Q B=pfR M (fun x=>kpB 3 (hsP P A x) (hsP Q B x))):=r;replace CF:Hid (CoF 3 P A Q B M):=CF;have M0:=CF.out.m0;have M1:=CF.out.m1;clear FA s1 s2
    go_enter Tryz.func146,Tryz.ntmps146
    go_wp2_with fail
    refine HC.out.mono ?_;rintro e w4 ⟨rfl,hb⟩;have A4:=zd A1 hb;replace TA:=zh (TA.out.keep hb);replace TB:=zh (TB.out.keep hb);replace TR:=zh (TR.out.keep hb);replace a2:=zh (a2.out.keep hb);replace b2:=zh (b2.out.keep hb);clear hb A1 HC t0 t1 tl u0 u1 ul;obtain ⟨t0,t1,tl⟩:=TA.out;obtain ⟨u0,u1,ul⟩:=TB.out;go_wp2
    obtain ⟨w6,hw6⟩:∃ w6,w4.alloc (.cells #[.int .i64 0,.int .i64 M] 40)=w6:=⟨_,rfl⟩;rw [hw6];have A6:Hid (Below w.heap.size w w6):=by show Below _ _ _;rw [← hw6];exact grow A4.out _
    have hb:Below w4.heap.size w4 w6:=by rw [← hw6];exact grow (here w4) _
    have TI:Hid (Two w6 w4.heap.size (.int .i64 0) (.int .i64 M)):=by show Two _ _ _ _;rw [← hw6];exact Two.new (here _)
    replace TA:=zh (TA.out.keep hb);replace TB:=zh (TB.out.keep hb);replace TR:=zh (TR.out.keep hb);replace a2:=zh (a2.out.keep hb);replace b2:=zh (b2.out.keep hb);clear hb t0 t1 tl u0 u1 ul A4 hw6;obtain ⟨t0,t1,tl⟩:=TA.out;obtain ⟨u0,u1,ul⟩:=TB.out;obtain ⟨i0,i1,il⟩:=TI.out;have sm:spB (0,M)=true:=spB_iff.2 ⟨by show (-4398046511104:Int)≤0;omega,by show M≤4398046511104;omega,M0⟩;have ONE:∀ {f:Int→Bool} {R:List Sp},(caL f 0 M).length≤2000→LsD f 0 M R→R=caL f 0 M:=fun l h=>by
      rcases h with h | h
      · exact h
      · omega
    have LA:Hid (∀ W,Below w6.heap.size w6 W→Calls Tryz.prog 174 #[.agg #[.int .i64 P,va],.agg #[.int .i64 0,.int .i64 M]] W fun e w'=>(∃ v',e=.returned v'∧PairS W.heap.size w' v' (caL (hsP P A) 0 M))∧Below W.heap.size W w'):=fun W h=>(uplisted va P A pv 0 M sm W (a2.out.keep h)).mono (by rintro e w' ⟨⟨v',R,a,b,c,d⟩,hb⟩;exact ⟨⟨v',a,by rw [← ONE CF.out.la d];exact b⟩,hb⟩);have LB:Hid (∀ W,Below w6.heap.size w6 W→Calls Tryz.prog 174 #[.agg #[.int .i64 Q,vb],.agg #[.int .i64 0,.int .i64 M]] W fun e w'=>(∃ v',e=.returned v'∧PairS W.heap.size w' v' (caL (hsP Q B) 0 M))∧Below W.heap.size W w'):=fun W h=>(uplisted vb Q B qv 0 M sm W (b2.out.keep h)).mono (by rintro e w' ⟨⟨v',R,a,b,c,d⟩,hb⟩;exact ⟨⟨v',a,by rw [← ONE CF.out.lb d];exact b⟩,hb⟩);have RU:Hid (∀ W v1 v2,∀ {b1 b2:Nat},PairS b1 W v1 (caL (hsP P A) 0 M)→PairS b2 W v2 (caL (hsP Q B) 0 M)→Calls Tryz.prog 149 #[v1,v2] W fun e w'=>(∃ v',e=.returned (.tuple #[v',.int .i64 0])∧PairS W.heap.size w' v' (cbL 3 (caL (hsP P A) 0 M) (caL (hsP Q B) 0 M)))∧Below W.heap.size W w'):=fun W v1 v2 _ _ h1 h2=>by
      have q:=RL v1 v2 _ _ (by have:=CF.out.la;unfold maxLen;omega) (by have:=CF.out.lb;unfold maxLen;omega) W h1 h2;rw [CF.out.ru] at q;exact q.mono (by rintro e w' ⟨⟨v',a,b,c⟩,hb⟩;exact ⟨⟨v',a,b⟩,hb⟩)
    have HF:Hid (∀ W v1,∀ {b1:Nat},PairS b1 W v1 (cbL 3 (caL (hsP P A) 0 M) (caL (hsP Q B) 0 M))→Calls Tryz.prog 171 #[.int .i64 M,v1] W fun e w'=>(∃ v',e=.returned (.tuple #[.agg #[.int .i64 (pfR M (fun x=>kpB 3 (hsP P A x) (hsP Q B x))).1.1,v'],.int .i64 (pfR M (fun x=>kpB 3 (hsP P A x) (hsP Q B x))).2])∧PairS W.heap.size w' v' (pfR M (fun x=>kpB 3 (hsP P A x) (hsP Q B x))).1.2)∧Below W.heap.size W w'):=fun W v1 _ h=>upform v1 M _ _ CF.out.ci (by have:=CF.out.lc;omega) M1 W h;clear pv qv ONE sm RL CF a2 b2 hA hB;generalize pfR M (fun x=>kpB 3 (hsP P A x) (hsP Q B x))=RR at *;generalize cbL 3 (caL (hsP P A) 0 M) (caL (hsP Q B) 0 M)=LC at *;generalize caL (hsP P A) 0 M=CA at *;generalize caL (hsP Q B) 0 M=CB at *;have mk:∀ W',Below w6.heap.size w6 W'→Below w6.heap.size w6 W'∧W'.cell? ⟨w.heap.size,0,none⟩=some (.int .i64 P)∧W'.cell? ⟨w.heap.size,1,none⟩=some (va)∧W'.cell? ⟨w.heap.size+1,0,none⟩=some (.int .i64 Q)∧W'.cell? ⟨w.heap.size+1,1,none⟩=some (vb)∧W'.cell? ⟨w4.heap.size,0,none⟩=some (.int .i64 0)∧W'.cell? ⟨w4.heap.size,1,none⟩=some (.int .i64 M):=fun W' q=>⟨q,(TA.out.keep q).c0,(TA.out.keep q).c1,(TB.out.keep q).c0,(TB.out.keep q).c1,(TI.out.keep q).c0,(TI.out.keep q).c1⟩;have s6:=mk w6 (here w6);clear TI TB TA t0 t1 tl u0 u1 ul i0 i1 il
    go_region_held3 (fun W'=>Below w6.heap.size w6 W'∧W'.cell? ⟨w.heap.size,0,none⟩=some (.int .i64 P)∧W'.cell? ⟨w.heap.size,1,none⟩=some (va)∧W'.cell? ⟨w.heap.size+1,0,none⟩=some (.int .i64 Q)∧W'.cell? ⟨w.heap.size+1,1,none⟩=some (vb)∧W'.cell? ⟨w4.heap.size,0,none⟩=some (.int .i64 0)∧W'.cell? ⟨w4.heap.size,1,none⟩=some (.int .i64 M)) (first | assumption | (exact mk _ (grow (And.left (by assumption)) _)) | (exact mk _ (Below.drew (And.left (by assumption)))) | (exact mk _ (below_drewN (And.left (by assumption)) _)))
      (first
       | (go_at_call 174;(with_reducible refine (LA.out _ (And.left (by assumption))).mono ?_);rintro e w' ⟨⟨v7,rfl,P7⟩,hb⟩;obtain ⟨o7,c7,rfl⟩:=Sl.shape P7;have hS:=mk w' (down (And.left (by assumption)) hb))
       | (go_at_call 174;(with_reducible refine (LB.out _ (And.left (by assumption))).mono ?_);rintro e w' ⟨⟨v8,rfl,P8⟩,hb⟩;(replace P7:=PairS.keep P7 hb);obtain ⟨o8,c8,rfl⟩:=Sl.shape P8;have hS:=mk w' (down (And.left (by assumption)) hb))
       | (go_at_call 149;(with_reducible refine (RU.out _ _ _ P7 P8).mono ?_);rintro e w' ⟨⟨v9,rfl,P9⟩,hb⟩;obtain ⟨o9,c9,rfl⟩:=Sl.shape P9;have hS:=mk w' (down (And.left (by assumption)) hb)))
    have B7:=zh (down A6.out hS.1);have HM:=zh (HF.out _ _ P9);replace TR:=zh (TR.out.keep hS.1);have sz9:=B7.out.size;have tr9:=TR.out.t.lt;clear P7 P8 P9 LA LB RU HF mk hS s6 A6;go_wp2_with fail
    refine HM.out.mono ?_;rintro e w10 ⟨⟨v10,rfl,P10⟩,hb⟩;have B9:=zd B7 hb;replace TR:=zh (TR.out.keep hb);obtain ⟨o10,c10,rfl⟩:=Sl.shape P10;replace P10:=zh P10;clear HM hb B7;have FI:Hid (Two ((w10.setCell ⟨w.heap.size+1+1,0,none⟩ (.int .i64 RR.1.1)).setCell ⟨w.heap.size+1+1,1,none⟩ (.slice o10 RR.1.2.length c10)) (w.heap.size+1+1) (.int .i64 RR.1.1) (.slice o10 RR.1.2.length c10)∧Below w.heap.size w ((w10.setCell ⟨w.heap.size+1+1,0,none⟩ (.int .i64 RR.1.1)).setCell ⟨w.heap.size+1+1,1,none⟩ (.slice o10 RR.1.2.length c10))∧PairS w.heap.size ((w10.setCell ⟨w.heap.size+1+1,0,none⟩ (.int .i64 RR.1.1)).setCell ⟨w.heap.size+1+1,1,none⟩ (.slice o10 RR.1.2.length c10)) (.slice o10 RR.1.2.length c10) RR.1.2) :=
      ⟨TR.out.put _ _,(B9.out.setCell (p:=⟨w.heap.size+1+1,0,none⟩) (by show w.heap.size≤w.heap.size+1+1;omega) _).setCell (p:=⟨w.heap.size+1+1,1,none⟩) (by show w.heap.size≤w.heap.size+1+1;omega) _,Sl.weak (Sl.far (Sl.far P10.out tr9 _) tr9 _) sz9⟩
    obtain ⟨⟨ri0,ri1,ri2⟩,rf0,rf1⟩:=TR.out;go_wp2
    have q0:=FI.out.1.c0;have q1:=FI.out.1.c1;generalize (w10.setCell ⟨w.heap.size+1+1,0,none⟩ (.int .i64 RR.1.1)).setCell ⟨w.heap.size+1+1,1,none⟩ (.slice o10 RR.1.2.length c10)=w13 at *;refine bodyPost_ret (v:=.tuple #[.agg #[.int .i64 RR.1.1,.slice o10 RR.1.2.length c10],.int .i64 RR.2]) (by simp [results,Tryz.results146,go_sem,q0,q1]) rfl ?_;rw [r.out];exact ⟨⟨_,rfl,FI.out.2.2⟩,FI.out.2.1⟩
  · have ke:(E != 0)=true:=by rw [bne_iff_ne];exact e0
    have r:=zh (FA.out.1 e0);clear FA e0 s1 s2 RL
    go_enter Tryz.func146,Tryz.ntmps146
    go_wp2_with fail
    refine HC.out.mono ?_;rintro e w4 ⟨rfl,hb⟩;have B9:=zd A1 hb;replace TR:=zh (TR.out.keep hb);clear hb A1 HC a2 b2 TA TB t0 t1 tl u0 u1 ul;have FI:Hid (Two ((w4.setCell ⟨w.heap.size+1+1,0,none⟩ (.int .i64 0)).setCell ⟨w.heap.size+1+1,1,none⟩ (.slice none 0 0)) (w.heap.size+1+1) (.int .i64 0) (.slice none 0 0)∧Below w.heap.size w ((w4.setCell ⟨w.heap.size+1+1,0,none⟩ (.int .i64 0)).setCell ⟨w.heap.size+1+1,1,none⟩ (.slice none 0 0))∧PairS w.heap.size ((w4.setCell ⟨w.heap.size+1+1,0,none⟩ (.int .i64 0)).setCell ⟨w.heap.size+1+1,1,none⟩ (.slice none 0 0)) (.slice none 0 0) []) :=
      ⟨TR.out.put _ _,(B9.out.setCell (p:=⟨w.heap.size+1+1,0,none⟩) (by show w.heap.size≤w.heap.size+1+1;omega) _).setCell (p:=⟨w.heap.size+1+1,1,none⟩) (by show w.heap.size≤w.heap.size+1+1;omega) _,Sl.none _ _⟩
    obtain ⟨⟨ri0,ri1,ri2⟩,rf0,rf1⟩:=TR.out;go_wp2
    have q0:=FI.out.1.c0;have q1:=FI.out.1.c1;generalize (w4.setCell ⟨w.heap.size+1+1,0,none⟩ (.int .i64 0)).setCell ⟨w.heap.size+1+1,1,none⟩ (.slice none 0 0)=w13 at *;refine bodyPost_ret (v:=.tuple #[.agg #[.int .i64 0,.slice none 0 0],.int .i64 E]) (by simp [results,Tryz.results146,go_sem,q0,q1]) rfl ?_;rw [r.out];exact ⟨⟨_,rfl,FI.out.2.2⟩,FI.out.2.1⟩
theorem rule3:Rule 3 149:=fun va vb A B hA hB _ _ w a b=>ruminus va vb A B hA hB w a b
set_option maxRecDepth 100000 in
set_option maxHeartbeats 2000000 in
theorem upminus (va vb:Value) (P Q:Int) (A B:List Sp) (hA:A.length≤maxLen) (hB:B.length≤maxLen) (hP:I64 P) (hQ:I64 Q) {ba bb:Nat} (w:World) (a:PairS ba w va A) (b:PairS bb w vb B) :
    Calls Tryz.prog 103 #[.agg #[.int .i64 P,va],.agg #[.int .i64 Q,vb]] w fun e w'=>(∃ v',e=.returned (.tuple #[.agg #[.int .i64 (coR 3 P A Q B).1.1,v'],.int .i64 (coR 3 P A Q B).2])∧PairS w.heap.size w' v' (coR 3 P A Q B).1.2)∧Below w.heap.size w w':=by
  have s1:=size_two w (.cells #[.int .i64 P,va] 24);have s2:=size_two (w.alloc (.cells #[.int .i64 P,va] 24)) (.cells #[.int .i64 Q,vb] 24);have A1:=zh (grow (grow (grow (here w) (.cells #[.int .i64 P,va] 24)) (.cells #[.int .i64 Q,vb] 24)) (.cells #[.int .i64 0,.slice none 0 0] 24));have TA:=zh (Two.fst3 (here (((w.alloc (.cells #[.int .i64 P,va] 24)).alloc (.cells #[.int .i64 Q,vb] 24)).alloc (.cells #[.int .i64 0,.slice none 0 0] 24))));have TB:=zh (Two.snd3 (here (((w.alloc (.cells #[.int .i64 P,va] 24)).alloc (.cells #[.int .i64 Q,vb] 24)).alloc (.cells #[.int .i64 0,.slice none 0 0] 24))));have TR:=Tuo.new ((w.alloc (.cells #[.int .i64 P,va] 24)).alloc (.cells #[.int .i64 Q,vb] 24)) (.int .i64 0) (.slice none 0 0) 24;rw [s2,s1] at TR;replace TR:=zh TR;have HC:=zh (upcombine3 rule3 va vb P Q A B hA hB hP hQ _ (a.keep A1.out) (b.keep A1.out));generalize coR 3 P A Q B=RR at *;clear a b hA hB s1 s2;obtain ⟨t0,t1,tl⟩:=TA.out;obtain ⟨u0,u1,ul⟩:=TB.out
  go_enter Tryz.func103,Tryz.ntmps103
  go_wp2_with fail
  refine HC.out.mono ?_;rintro e w10 ⟨⟨v10,rfl,P10⟩,hb⟩;have B9:=zd A1 hb;replace TR:=zh (TR.out.keep hb);have sz9:=A1.out.size;have tr9:w.heap.size+1+1<(((w.alloc (.cells #[.int .i64 P,va] 24)).alloc (.cells #[.int .i64 Q,vb] 24)).alloc (.cells #[.int .i64 0,.slice none 0 0] 24)).heap.size:=by simp
  obtain ⟨o10,c10,rfl⟩:=Sl.shape P10;replace P10:=zh P10;clear HC hb A1 TA TB t0 t1 tl u0 u1 ul;have FI:Hid (Two ((w10.setCell ⟨w.heap.size+1+1,0,none⟩ (.int .i64 RR.1.1)).setCell ⟨w.heap.size+1+1,1,none⟩ (.slice o10 RR.1.2.length c10)) (w.heap.size+1+1) (.int .i64 RR.1.1) (.slice o10 RR.1.2.length c10)∧Below w.heap.size w ((w10.setCell ⟨w.heap.size+1+1,0,none⟩ (.int .i64 RR.1.1)).setCell ⟨w.heap.size+1+1,1,none⟩ (.slice o10 RR.1.2.length c10))∧PairS w.heap.size ((w10.setCell ⟨w.heap.size+1+1,0,none⟩ (.int .i64 RR.1.1)).setCell ⟨w.heap.size+1+1,1,none⟩ (.slice o10 RR.1.2.length c10)) (.slice o10 RR.1.2.length c10) RR.1.2) :=
    ⟨TR.out.put _ _,(B9.out.setCell (p:=⟨w.heap.size+1+1,0,none⟩) (by show w.heap.size≤w.heap.size+1+1;omega) _).setCell (p:=⟨w.heap.size+1+1,1,none⟩) (by show w.heap.size≤w.heap.size+1+1;omega) _,Sl.weak (Sl.far (Sl.far P10.out tr9 _) tr9 _) sz9⟩
  obtain ⟨⟨ri0,ri1,ri2⟩,rf0,rf1⟩:=TR.out;go_wp2
  have q0:=FI.out.1.c0;have q1:=FI.out.1.c1;generalize (w10.setCell ⟨w.heap.size+1+1,0,none⟩ (.int .i64 RR.1.1)).setCell ⟨w.heap.size+1+1,1,none⟩ (.slice o10 RR.1.2.length c10)=w13 at *;refine bodyPost_ret (v:=.tuple #[.agg #[.int .i64 RR.1.1,.slice o10 RR.1.2.length c10],.int .i64 RR.2]) (by simp [results,Tryz.results103,go_sem,q0,q1]) rfl ?_;exact ⟨⟨_,rfl,FI.out.2.2⟩,FI.out.2.1⟩
set_option maxRecDepth 100000 in
set_option maxHeartbeats 2000000 in
theorem upwithin (va vb:Value) (P Q:Int) (A B:List Sp) (hA:A.length≤maxLen) (hB:B.length≤maxLen) (hP:I64 P) (hQ:I64 Q) {ba bb:Nat} (w:World) (a:PairS ba w va A) (b:PairS bb w vb B) :
    Calls Tryz.prog 115 #[.agg #[.int .i64 P,va],.agg #[.int .i64 Q,vb]] w fun e w'=>e=.returned (.tuple #[.bool (decide ((coR 3 P A Q B).2=0)&&decide ((coR 3 P A Q B).1.2.length=0)),.int .i64 (coR 3 P A Q B).2])∧Below w.heap.size w w':=by
  have s1:=size_two w (.cells #[.int .i64 P,va] 24);have A1:=zh (grow (grow (here w) (.cells #[.int .i64 P,va] 24)) (.cells #[.int .i64 Q,vb] 24));have TA:=zh (Two.fst (here ((w.alloc (.cells #[.int .i64 P,va] 24)).alloc (.cells #[.int .i64 Q,vb] 24))));have TB:=zh (Two.snd (here ((w.alloc (.cells #[.int .i64 P,va] 24)).alloc (.cells #[.int .i64 Q,vb] 24))));have HC:=zh (upminus va vb P Q A B hA hB hP hQ _ (a.keep A1.out) (b.keep A1.out));generalize coR 3 P A Q B=RR at *;clear a b hA hB s1;obtain ⟨⟨D,R⟩,E⟩:=RR;obtain ⟨bv,hbv⟩:∃ bv,(decide (E=0)&&decide (R.length=0))=bv:=⟨_,rfl⟩
  show Calls _ _ _ _ fun e w'=>e=.returned (.tuple #[.bool (decide (E=0)&&decide (R.length=0)),.int .i64 E])∧_
  rw [hbv];replace hbv:=zh hbv;obtain ⟨t0,t1,tl⟩:=TA.out;obtain ⟨u0,u1,ul⟩:=TB.out
  go_enter Tryz.func115,Tryz.ntmps115
  go_wp2_with fail
  refine HC.out.mono ?_;rintro e w10 ⟨⟨v10,rfl,P10⟩,hb⟩;have B9:=zd A1 hb;obtain ⟨o10,c10,rfl⟩:=Sl.shape P10;clear HC hb A1 TA TB t0 t1 tl u0 u1 ul P10;replace hbv:(decide (E=0)&&decide (R.length=0))=bv:=hbv.out;obtain ⟨n,hn⟩:∃ n,R.length=n:=⟨_,rfl⟩;have en:((D,R),E).1.2.length=n:=hn;rw [en];rw [hn] at hbv;obtain ⟨r0,r1,rl⟩:=Two.new (here (w10.alloc (.cells #[.int .i64 D,.slice o10 n c10] 24)));have B10:=zh (grow B9.out (.cells #[.int .i64 D,.slice o10 n c10] 24));clear en hn
  cases ke:(E==0)
  · have e1:decide (E=0)=false:=zdf (by rw [beq_eq_false_iff_ne] at ke;exact ke);rw [e1,Bool.false_and] at hbv;subst hbv;clear e1;go_wp2
    go_ret2
    exact ⟨rfl,B10.out⟩
  · have e1:decide (E=0)=true:=zdt (by rwa [beq_iff_eq] at ke);rw [e1,Bool.true_and] at hbv;have e2:((n:Int)==0)=bv:=by rw [← hbv,Bool.eq_iff_iff,beq_iff_eq,decide_eq_true_iff];omega
    clear e1 hbv;go_wp2
    go_ret2
    exact ⟨rfl,B10.out⟩
theorem OwnS.put {B:Nat} {w:World} {b off c m:Nat} {M:List Sp} (h:OwnS B w (.slice (some ⟨b,off,none⟩) m c) M) {k:Nat} (hk:k<M.length) (x y:Int):OwnS B ((w.setCell ⟨b,off+k * 2,none⟩ (.int .i64 x)).setCell ⟨b,off+k * 2+1,none⟩ (.int .i64 y)) (.slice (some ⟨b,off,none⟩) m c) (M.set k (x,y)):=by
 obtain ⟨o,c',e,l,q⟩:=h.sh
 injection e with e1 e2 e3
 subst e3;subst e2;obtain ⟨b',off',e1',e2',e3',e4',e5'⟩:=q (by omega);rw [← e1] at e1'
 injection e1' with e1'
 injection e1' with x1 x2
 subst x1;subst x2;have ln:(M.set k (x,y)).length=M.length:=List.length_set;refine ⟨_,_,by rw [ln],by rw [ln];exact l,fun _=>⟨b,off,rfl,e2',by rw [size_set,size_set];exact e3',fun j hj=>?_,fun j=>by rw [World.frozen?_setCell,World.frozen?_setCell];exact e5' j⟩⟩;rw [ln] at hj;have q4:=e4' j hj;have gs:(M.set k (x,y)).getD j (0,0)=if k=j then (x,y) else M.getD j (0,0):=by
  rw [gD (by rw [ln];exact hj),List.getElem_set]
  split
  ·rfl
  ·rw [gD hj]
 rw [gs];have o:∀ i j:Nat,i≠j→(⟨b,i,none⟩:Addr)≠⟨b,j,none⟩:=fun i j n e=>n (by injection e)
 by_cases z:k=j
 ·subst z;rw [if_pos rfl];have c0:(w.setCell ⟨b,off+k * 2,none⟩ (.int .i64 x)).cell? ⟨b,off+k * 2+1,none⟩=some (.int .i64 (M.getD k (0,0)).2):=by
   rw [zco (h:=o _ _ (by omega))];exact q4.2
  exact ⟨by rw [zco (h:=o _ _ (by omega))];exact World.cell?_setCell_same w _ _ q4.1,World.cell?_setCell_same _ _ _ c0⟩
 ·rw [if_neg z];refine ⟨?_,?_⟩
  ·rw [zco (h:=o _ _ (by omega)),World.cell?_setCell_other (h:=o _ _ (by omega))];exact q4.1
  ·rw [zco (h:=o _ _ (by omega)),World.cell?_setCell_other (h:=o _ _ (by omega))];exact q4.2
theorem prs_lit1 (w:World) (a b:Int):PairS 0 (w.alloc (.cells #[.int .i64 a,.int .i64 b] 40)) (.slice (some ⟨w.heap.size,0,none⟩) 1 1) [(a,b)]:=by
 refine .inr ⟨w.heap.size,0,1,rfl,Nat.zero_le _,by simp,fun j u hj=>?_⟩;rw [World.cell?_alloc_new]
 simpa [pairs] using hj
def OffS (B:Nat) (w:World) (v:Value) (L:List Sp):Prop:=(L.length=0∧∃ ao c,v=.slice ao 0 c)∨∃ b off c,v=.slice (some ⟨b,off,none⟩) L.length c∧b≠B∧Lies w b off (pairs L)
theorem OffS.set {B:Nat} {w:World} {v:Value} {L:List Sp} (h:OffS B w v L) (o:Nat) (u:Value):OffS B (w.setCell ⟨B,o,none⟩ u) v L:=by
 rcases h with h | ⟨b,off,c,e,ne,l⟩
 ·exact .inl h
 ·refine .inr ⟨b,off,c,e,ne,by rw [size_set];exact l.lt,fun j x hj=>?_⟩;rw [zco (h:=fun q=>ne (by have:=congrArg Addr.block q;exact this.symm))];exact l.cell j x hj
theorem OffS.keep {B:Nat} {w w':World} {v:Value} {L:List Sp} (h:OffS B w v L) (hb:Below w.heap.size w w'):OffS B w' v L:=by
 rcases h with h | ⟨b,off,c,e,ne,l⟩
 ·exact .inl h
 ·exact .inr ⟨b,off,c,e,ne,l.keep hb⟩
theorem dv_cases {e m:Int} (e0:0<e) (m0:0<m) (d:e ∣ m):e≤m:=Int.le_of_dvd m0 d
theorem lst2:Lst (hsP 2 [(0,1)]) 2 2:=⟨by omega,Int.dvd_refl 2,hs_per,fun e e0 dv per=>by
 have le:=dv_cases e0 (by omega) dv
 rcases (show e=1∨e=2 by omega) with rfl | rfl
 ·exact absurd (per 0) (by decide)
 ·omega⟩
theorem pv2:PV 2 [(0,1)]:=⟨by omega,by omega,by decide,fun q hq=>by rw [List.mem_singleton.1 hq];exact ⟨by decide,by decide⟩,lst2⟩
theorem le_mx {n:Nat} (h:n≤1000000):n≤maxLen:=by unfold maxLen;omega
theorem pf_pv {P:Int} {f:Int→Bool} (P0:0<P) (P1:P≤12622780800) (per:Per f P) (h:(pfR P f).2=0):PV (pfR P f).1.1 (pfR P f).1.2∧∀ x,hsP (pfR P f).1.1 (pfR P f).1.2 x=f x:=by
 unfold pfR at h ⊢
 by_cases b:2000<(fmP P f).2.length
 ·rw [if_pos b] at h;cases h
 ·rw [if_neg b];have l:=le_lst P0 per;have le:=Int.le_of_dvd P0 l.dvd;have b':(caL f 0 (leF P f)).length≤2000:=by show (fmP P f).2.length≤2000;omega
  have p0:=l.pos;exact ⟨⟨by show 1≤leF P f;omega,by show leF P f≤_;omega,ca_va (by omega) b',ca_inp _ _,fm_lst P0 per⟩,fm_hs P0 per⟩
theorem co_ok {k P:Int} {A:List Sp} {Q:Int} {B:List Sp} (k1:1≤k) (k3:k≤3) (h:(coR k P A Q B).2=0):PV P A∧PV Q B∧PV (coR k P A Q B).1.1 (coR k P A Q B).1.2∧∀ x,hsP (coR k P A Q B).1.1 (coR k P A Q B).1.2 x=kpB k (hsP P A x) (hsP Q B x):=by
 unfold coR at h ⊢
 by_cases v:(pvB P A&&pvB Q B)=true
 ·rw [if_pos v] at h ⊢;obtain ⟨a,b⟩:=Bool.and_eq_true_iff.1 v
  by_cases p:(prR P Q A.length B.length).2=0
  ·rw [if_pos p] at h ⊢;have c:=co_facts k1 k3 (pv_iff.1 a) (pv_iff.1 b) p;have per:Per (fun x=>kpB k (hsP P A x) (hsP Q B x)) (prR P Q A.length B.length).1:=fun x=>by
    show kpB k (hsP P A (x+_)) (hsP Q B (x+_))=_
    rw [c.pm,c.qm]
   exact ⟨pv_iff.1 a,pv_iff.1 b,pf_pv c.m0 c.m1 per h⟩
  ·rw [if_neg p] at h;exact absurd h p
 ·rw [if_neg v] at h;cases h
theorem nv_bd {x:Int} (h:nvB x=true):-4398046511104≤x∧x≤4398046511104:=by
 unfold nvB at h
 rwa [Bool.and_eq_true,decide_eq_true_iff,decide_eq_true_iff] at h
structure TS where
 P:Int
 A:List Sp
 Q:Int
 B:List Sp
 a:Int
 b:Int
 L:List Sp
def tsZ:TS:=⟨0,[],0,[],0,0,[]⟩
def pcS (g m h:Int→Bool) (lo hi x:Int):Bool:=if x<lo then g x else if x<hi then m x else h x
def hsT (s:TS):Int→Bool:=pcS (hsP s.P s.A) (inB s.L) (hsP s.Q s.B) s.a s.b
structure EdB (f g:Int→Bool) (b:Int):Prop where
 on:∀ x,b≤x→f x=g x
 no:f (b - 1)≠g (b - 1)
structure EdA (f g:Int→Bool) (a:Int):Prop where
 on:∀ x,x<a→f x=g x
 no:f a≠g a
theorem EdB.unique {f g:Int→Bool} {b c:Int} (h:EdB f g b) (k:EdB f g c):b=c:=by
 rcases Int.lt_trichotomy b c with z | z | z
 ·exact absurd (h.on (c - 1) (by omega)) k.no
 ·exact z
 ·exact absurd (k.on (b - 1) (by omega)) h.no
theorem EdA.unique {f g:Int→Bool} {b c:Int} (h:EdA f g b) (k:EdA f g c):b=c:=by
 rcases Int.lt_trichotomy b c with z | z | z
 ·exact absurd (k.on b z) h.no
 ·exact z
 ·exact absurd (h.on c z) k.no
theorem edB_go {f g:Int→Bool} {x:Int} (no:f x≠g x):∀ (n:Nat) (hi:Int),hi≤x+n→(∀ y,hi≤y→f y=g y)→∃ b,EdB f g b
  | 0,hi,h,on=>absurd (on x (by omega)) no
  | n+1,hi,h,on=>by
    by_cases e:f (hi - 1)=g (hi - 1)
    · refine edB_go no n (hi - 1) (by omega) fun y hy=>?_
      by_cases z:hi≤y
      · exact on y z
      · rw [show y=hi - 1 by omega];exact e
    · exact ⟨hi,on,e⟩
theorem edB_ex {f g:Int→Bool} {hi x:Int} (on:∀ y,hi≤y→f y=g y) (no:f x≠g x):∃ b,EdB f g b:=edB_go no (hi - x).toNat hi (by omega) on
theorem edA_go {f g:Int→Bool} {x:Int} (no:f x≠g x):∀ (n:Nat) (lo:Int),x≤lo+n→(∀ y,y<lo→f y=g y)→∃ a,EdA f g a
  | 0,lo,h,on=>by
    by_cases e:x<lo
    · exact absurd (on x e) no
    · exact ⟨x,fun y hy=>on y (by omega),no⟩
  | n+1,lo,h,on=>by
    by_cases e:f lo=g lo
    · refine edA_go no n (lo+1) (by omega) fun y hy=>?_
      by_cases z:y<lo
      · exact on y z
      · rw [show y=lo by omega];exact e
    · exact ⟨lo,on,e⟩
theorem edA_ex {f g:Int→Bool} {lo x:Int} (on:∀ y,y<lo→f y=g y) (no:f x≠g x):∃ a,EdA f g a:=edA_go no (x - lo).toNat lo (by omega) on
open Classical in
noncomputable def edB (f g:Int→Bool):Int:=if h:∃ b,EdB f g b then h.choose else 0
open Classical in
noncomputable def edA (f g:Int→Bool):Int:=if h:∃ a,EdA f g a then h.choose else 0
theorem edB_eq {f g:Int→Bool} {b:Int} (h:EdB f g b):edB f g=b:=by
 have e:∃ b,EdB f g b:=⟨b,h⟩
 unfold edB
 rw [dif_pos e];exact e.choose_spec.unique h
theorem edA_eq {f g:Int→Bool} {b:Int} (h:EdA f g b):edA f g=b:=by
 have e:∃ b,EdA f g b:=⟨b,h⟩
 unfold edA
 rw [dif_pos e];exact e.choose_spec.unique h
def pqE (P:Int) (A:List Sp) (Q:Int) (B:List Sp):Int:=if P=Q∧A=B then 0 else (prR P Q A.length B.length).2
noncomputable def loT (f g h:Int→Bool):Int:=if edA f g≤edB f h then edA f g else edB f h
open Classical in
noncomputable def frT (P:Int) (A:List Sp) (Q:Int) (B:List Sp) (f:Int→Bool):TS × Int :=
 if pqE P A Q B≠0 then (tsZ,pqE P A Q B)
 else if P=Q∧A=B∧f=hsP P A then (⟨P,A,Q,B,0,0,[]⟩,0)
 else if nvB (loT f (hsP P A) (hsP Q B))&&nvB (edB f (hsP Q B)) then (⟨P,A,Q,B,loT f (hsP P A) (hsP Q B),edB f (hsP Q B),caL f (loT f (hsP P A) (hsP Q B)) (edB f (hsP Q B))⟩,0)
 else (tsZ,9)
structure Mid (f g h:Int→Bool) (lo hi:Int):Prop where
 low:∀ x,x<lo→f x=g x
 high:∀ x,hi≤x→f x=h x
theorem pc_mid (g m h:Int→Bool) {lo hi:Int} (le:lo≤hi):Mid (pcS g m h lo hi) g h lo hi :=
 ⟨fun x hx=>if_pos hx,fun x hx=>by unfold pcS;rw [if_neg (by omega),if_neg (by omega)]⟩
theorem pv_ext {P Q:Int} {A B:List Sp} (p:PV P A) (q:PV Q B) (h:hsP P A=hsP Q B):P=Q∧A=B:=by
 have p0:=p.p0;have q0:=q.p0;have a:=p.fm;have b:=q.fm;have pq:Per (hsP P A) Q:=by rw [h];exact hs_per
 rw [← h,fm_any (n:=P) (by omega) (by omega) pq hs_per,a] at b
 injection b with b1 b2
 exact ⟨b1,b2⟩
theorem per_far {g h:Int→Bool} {m:Int} (m0:0<m) (pg:Per g m) (ph:Per h m) {x:Int} (no:g x≠h x) (lo hi:Int):(∃ y,y<lo∧g y≠h y)∧∃ y,hi≤y∧g y≠h y:=by
 have sh:∀ k:Int,g (x+m * k)≠h (x+m * k):=fun k=>by rw [pg.mul k x,ph.mul k x];exact no
 constructor
 ·refine ⟨x+m * (-(x - lo).natAbs - 1),?_,sh _⟩;have a:m * ((x - lo).natAbs+1)≥1 * ((x - lo).natAbs+1):=Int.mul_le_mul_of_nonneg_right (by omega) (by omega);rw [show -((x - lo).natAbs:Int) - 1=-(((x - lo).natAbs:Int)+1) by omega,Int.mul_neg];omega
 ·refine ⟨x+m * ((x - hi).natAbs+1),?_,sh _⟩;have a:m * ((x - hi).natAbs+1)≥1 * ((x - hi).natAbs+1):=Int.mul_le_mul_of_nonneg_right (by omega) (by omega);omega
theorem ends_ex {P Q:Int} {A B:List Sp} (p:PV P A) (q:PV Q B) {f:Int→Bool} {lo hi:Int} (m:Mid f (hsP P A) (hsP Q B) lo hi) (no:¬ (P=Q∧A=B∧f=hsP P A)):(∃ a,EdA f (hsP P A) a)∧∃ b,EdB f (hsP Q B) b:=by
 have p0:=p.p0;have q0:=q.p0
 by_cases e:P=Q∧A=B
 ·obtain ⟨rfl,rfl⟩:=e;have d:∃ x,f x≠hsP P A x:=by
   refine Classical.byContradiction fun c=>no ⟨rfl,rfl,funext fun x=>Classical.byContradiction fun h=>c ⟨x,h⟩⟩
  obtain ⟨x,hx⟩:=d;exact ⟨edA_ex m.low hx,edB_ex m.high hx⟩
 ·have d:∃ x,hsP P A x≠hsP Q B x:=by
   refine Classical.byContradiction fun c=>e (pv_ext p q (funext fun x=>Classical.byContradiction fun h=>c ⟨x,h⟩))
  obtain ⟨x,hx⟩:=d;have pm:Per (hsP P A) (P * Q):=(hs_per (P:=P) (L:=A)).mul Q;have qm:Per (hsP Q B) (P * Q):=by have:=(hs_per (P:=Q) (L:=B)).mul P;rwa [Int.mul_comm] at this
  obtain ⟨⟨y,y0,y1⟩,⟨z,z0,z1⟩⟩:=per_far (Int.mul_pos (show 0<P by omega) (show 0<Q by omega)) pm qm hx lo hi;exact ⟨edA_ex (x:=z) m.low (by rw [m.high z z0];exact fun h=>z1 h.symm),edB_ex (x:=y) m.high (by rw [m.low y y0];exact y1)⟩
theorem lo_le (f g h:Int→Bool):loT f g h≤edB f h:=by
 unfold loT;split
 ·assumption
 ·exact Int.le_refl _
theorem fr_has {P Q:Int} {A B:List Sp} (p:PV P A) (q:PV Q B) {f:Int→Bool} {lo hi:Int} (m:Mid f (hsP P A) (hsP Q B) lo hi) (h:(frT P A Q B f).2=0):hsT (frT P A Q B f).1=f:=by
 unfold frT at h ⊢
 by_cases e:pqE P A Q B=0
 rotate_left
 ·rw [if_pos e] at h;exact absurd h e
 rw [if_neg (by rw [e];exact fun c=>c rfl)] at h ⊢
 by_cases c:P=Q∧A=B∧f=hsP P A
 ·rw [if_pos c];obtain ⟨rfl,rfl,rfl⟩:=c;exact funext fun x=>by
   show (if x<0 then hsP P A x else if x<0 then inB [] x else hsP P A x)=hsP P A x
   split <;> simp_all
 ·rw [if_neg c] at h ⊢
  by_cases n:(nvB (loT f (hsP P A) (hsP Q B))&&nvB (edB f (hsP Q B)))=true
  rotate_left
  ·rw [if_neg n] at h;cases h
  rw [if_pos n];obtain ⟨⟨a,ha⟩,b,hb⟩:=ends_ex p q m c
  funext x
  show (if x<loT f (hsP P A) (hsP Q B) then hsP P A x else if x<edB f (hsP Q B) then inB (caL f (loT f (hsP P A) (hsP Q B)) (edB f (hsP Q B))) x else hsP Q B x)=f x
  have la:loT f (hsP P A) (hsP Q B)≤a:=by unfold loT;rw [edA_eq ha];split <;> omega
  by_cases z:x<loT f (hsP P A) (hsP Q B)
  ·rw [if_pos z];exact (ha.on x (by omega)).symm
  ·rw [if_neg z]
   by_cases y:x<edB f (hsP Q B)
   ·rw [if_pos y,ca_in,zdt (show loT f (hsP P A) (hsP Q B)≤x by omega),zdt y];rfl
   ·rw [if_neg y];rw [edB_eq hb] at y;exact (hb.on x (by omega)).symm
def cpS (a b:Int) (q:Sp):Sp:=(if q.1<a then a else q.1,if b<q.2 then b else q.2)
def clL (L:List Sp) (a b:Int):List Sp:=(L.map (cpS a b)).filter fun q=>decide (q.1<q.2)
theorem cp_in (a b:Int) (q:Sp) (x:Int):(decide ((cpS a b q).1≤x)&&decide (x<(cpS a b q).2))=(decide (a≤x)&&decide (x<b)&&(decide (q.1≤x)&&decide (x<q.2))):=by
 unfold cpS
 rw [Bool.eq_iff_iff]
 simp only [Bool.and_eq_true,decide_eq_true_eq]
 split <;> split <;> omega
theorem cl_in (L:List Sp) (a b x:Int):inB (clL L a b) x=(decide (a≤x)&&decide (x<b)&&inB L x):=by
 rw [Bool.eq_iff_iff,inB_iff,Bool.and_eq_true,inB_iff]
 unfold clL
 constructor
 ·rintro ⟨p,hp,h⟩;obtain ⟨hp,-⟩:=List.mem_filter.1 hp;obtain ⟨q,hq,rfl⟩:=List.mem_map.1 hp;have e:=cp_in a b q x;rw [zdt h.1,zdt h.2] at e;have e:=e.symm
  simp only [Bool.and_eq_true,Bool.true_and,decide_eq_true_eq] at e
  exact ⟨by simp only [Bool.and_eq_true,decide_eq_true_eq];exact e.1,q,hq,e.2⟩
 ·rintro ⟨h,q,hq,k⟩;have e:=cp_in a b q x;rw [h,zdt k.1,zdt k.2] at e
  simp only [Bool.and_eq_true,Bool.true_and,decide_eq_true_eq] at e
  exact ⟨_,List.mem_filter.2 ⟨List.mem_map.2 ⟨q,hq,rfl⟩,by simp only [decide_eq_true_eq];omega⟩,e⟩
theorem cl_cn:∀ {L:List Sp} (a b:Int),Cn L→Cn (clL L a b)
  | [],_,_,_=>trivial
  | p :: L,a,b,c=>by
    have ih:=cl_cn a b c.2.2
    by_cases z:(cpS a b p).1<(cpS a b p).2
    · have e:clL (p :: L) a b=cpS a b p :: clL L a b:=by unfold clL;rw [List.map_cons,List.filter_cons_of_pos (by simpa using z)]
      rw [e];refine ⟨z,fun q hq=>?_,ih⟩;obtain ⟨hq,-⟩:=List.mem_filter.1 hq;obtain ⟨r,hr,rfl⟩:=List.mem_map.1 hq;have:=c.2.1 r hr
      unfold cpS
      show (if b<p.2 then b else p.2)<(if r.1<a then a else r.1)
      split <;> split <;> omega
    · have e:clL (p :: L) a b=clL L a b:=by unfold clL;rw [List.map_cons,List.filter_cons_of_neg (by simpa using z)]
      rw [e];exact ih
theorem cl_ca {L:List Sp} (c:Cn L) (a b:Int):clL L a b=caL (inB L) a b:=ca_eq (cl_cn a b c) fun x=>cl_in L a b x
theorem cl_len (L:List Sp) (a b:Int):(clL L a b).length≤L.length:=by
 unfold clL
 exact Nat.le_trans (List.length_filter_le _ _) (by rw [List.length_map];exact Nat.le_refl _)
def Chg (f:Int→Bool) (x:Int):Prop:=f x≠f (x - 1)
theorem in_chg {L:List Sp} {x:Int} (h:Chg (inB L) x):∃ q,q∈L∧(x=q.1∨x=q.2):=by
 unfold Chg at h
 cases a:inB L x
 ·have b:inB L (x - 1)=true:=by rw [a] at h;cases c:inB L (x - 1) <;> simp_all
  obtain ⟨q,hq,h1,h2⟩:=inB_iff.1 b;refine ⟨q,hq,.inr ?_⟩
  by_cases z:x<q.2
  ·rw [inB_iff.2 ⟨q,hq,by omega,z⟩] at a;cases a
  ·omega
 ·have b:inB L (x - 1)=false:=by rw [a] at h;cases c:inB L (x - 1) <;> simp_all
  obtain ⟨q,hq,h1,h2⟩:=inB_iff.1 a;refine ⟨q,hq,.inl ?_⟩
  by_cases z:q.1≤x - 1
  ·rw [inB_iff.2 ⟨q,hq,z,by omega⟩] at b;cases b
  ·omega
def chS (P:Int) (A:List Sp) (q:Sp):List Int :=
 (if hsP P A q.1≠hsP P A (q.1 - 1) then [q.1] else [])++(if hsP P A (q.2 % P)≠hsP P A (q.2 % P - 1) then [q.2 % P] else [])
def chL (P:Int) (A:List Sp):List Sp→List Int
  | []=>[]
  | q :: M=>chS P A q++chL P A M
theorem ch_mem {P:Int} {A:List Sp} {c:Int}:∀ {M:List Sp},c∈chL P A M↔∃ q,q∈M∧c∈chS P A q
  | []=>by constructor;exact fun h=>(by cases h);rintro ⟨q,hq,-⟩;cases hq
  | q :: M=>by
    show c∈chS P A q++chL P A M↔_
    rw [List.mem_append,ch_mem]
    constructor
    · rintro (h | ⟨r,hr,h⟩)
      · exact ⟨q,List.mem_cons_self,h⟩
      · exact ⟨r,List.mem_cons_of_mem _ hr,h⟩
    · rintro ⟨r,hr,h⟩
      rcases List.mem_cons.1 hr with rfl | hr
      · exact .inl h
      · exact .inr ⟨r,hr,h⟩
theorem chs_mem {P:Int} {A:List Sp} {c:Int} {q:Sp}:c∈chS P A q↔(c=q.1∨c=q.2 % P)∧Chg (hsP P A) c:=by
 unfold chS Chg
 rw [List.mem_append]
 constructor
 ·rintro (h | h)
  ·split at h
   ·rw [List.mem_singleton.1 h];exact ⟨.inl rfl,by assumption⟩
   ·cases h
  ·split at h
   ·rw [List.mem_singleton.1 h];exact ⟨.inr rfl,by assumption⟩
   ·cases h
 ·rintro ⟨rfl | rfl,h⟩
  ·left;rw [if_pos h];exact List.mem_cons_self
  ·right;rw [if_pos h];exact List.mem_cons_self
theorem ch_in {P:Int} {A:List Sp} (pv:PV P A) {c:Int} (h:c∈chL P A A):0≤c∧c<P∧Chg (hsP P A) c:=by
 have p0:=pv.p0;obtain ⟨q,hq,k⟩:=ch_mem.1 h;obtain ⟨e,d⟩:=chs_mem.1 k;have ip:=pv.ip q hq;have lt:=pv.cn.lt q hq
 rcases e with rfl | rfl
 ·exact ⟨ip.1,by omega,d⟩
 ·exact ⟨Int.emod_nonneg _ (by omega),Int.emod_lt_of_pos _ (by omega),d⟩
theorem chg_per {f:Int→Bool} {P:Int} (per:Per f P) (x k:Int):Chg f (x+P * k)↔Chg f x:=by
 unfold Chg
 rw [per.mul k x,show x+P * k - 1=(x - 1)+P * k by omega,per.mul k (x - 1)]
theorem ch_all {P:Int} {A:List Sp} (pv:PV P A) {x:Int} (h:Chg (hsP P A) x):x % P∈chL P A A:=by
 have p0:=pv.p0;have m0:=Int.emod_nonneg x (show P≠0 by omega);have m1:=Int.emod_lt_of_pos x (show 0<P by omega);have dm:=Int.emod_add_mul_ediv x P;have hr:Chg (hsP P A) (x % P):=by
  have:=(chg_per (hs_per (P:=P) (L:=A)) (x % P) (x / P)).1 (by rw [dm];exact h);exact this
 generalize x % P=r at *;have here:hsP P A r=inB A r:=hs_in m0 m1
 by_cases r0:r=0
 ·subst r0;have bk:hsP P A (0 - 1)=inB A (P - 1):=by
   rw [← hs_in (P:=P) (L:=A) (x:=P - 1) (by omega) (by omega)];have:=(hs_per (P:=P) (L:=A)) (0 - 1);rw [← this,show (0:Int) - 1+P=P - 1 by omega]
  have hr':=hr
  unfold Chg at hr
  rw [here,bk] at hr
  cases a:inB A 0
  ·have b:inB A (P - 1)=true:=by rw [a] at hr;cases c:inB A (P - 1) <;> simp_all
   obtain ⟨q,hq,h1,h2⟩:=inB_iff.1 b;have ip:=pv.ip q hq;refine ch_mem.2 ⟨q,hq,chs_mem.2 ⟨.inr ?_,hr'⟩⟩;rw [show q.2=P by omega,Int.emod_self]
  ·obtain ⟨q,hq,h1,h2⟩:=inB_iff.1 a;have ip:=pv.ip q hq;exact ch_mem.2 ⟨q,hq,chs_mem.2 ⟨.inl (by omega),hr'⟩⟩
 ·have bk:hsP P A (r - 1)=inB A (r - 1):=hs_in (by omega) (by omega);have ci:Chg (inB A) r:=by unfold Chg at hr ⊢;rw [here,bk] at hr;exact hr
  obtain ⟨q,hq,e⟩:=in_chg ci;refine ch_mem.2 ⟨q,hq,chs_mem.2 ⟨?_,hr⟩⟩
  rcases e with e | e
  ·exact .inl e
  ·exact .inr (by rw [← e,Int.emod_eq_of_lt m0 m1])
structure BfS (f:Int→Bool) (x:Int) (o:Bool) (b:Int):Prop where
 yes:o=true→b<x∧Chg f b∧∀ y,b<y→y<x→¬ Chg f y
 no:o=false→∀ y,¬ Chg f y
structure AfS (f:Int→Bool) (x:Int) (o:Bool) (b:Int):Prop where
 yes:o=true→x<b∧Chg f b∧∀ y,x<y→y<b→¬ Chg f y
 no:o=false→∀ y,¬ Chg f y
def caB (P x r:Int):Int:=if x≤x - x % P+r then x - x % P+r - P else x - x % P+r
def caA (P x r:Int):Int:=if x - x % P+r≤x then x - x % P+r+P else x - x % P+r
structure BfI (P x:Int) (l:List Int) (i:Nat) (o:Bool) (b:Int):Prop where
 ok:o=decide (0<i)
 is:0<i→∃ j,j<i∧b=caB P x (l.getD j 0)
 top:∀ j,j<i→caB P x (l.getD j 0)≤b
structure AfI (P x:Int) (l:List Int) (i:Nat) (o:Bool) (b:Int):Prop where
 ok:o=decide (0<i)
 is:0<i→∃ j,j<i∧b=caA P x (l.getD j 0)
 top:∀ j,j<i→b≤caA P x (l.getD j 0)
theorem ints_mem {l:List Int} {j:Nat} (h:j<l.length):l.getD j 0∈l:=by
 rw [List.getD_eq_getElem?_getD,List.getElem?_eq_getElem h];exact List.getElem_mem h
theorem mem_ints {l:List Int} {c:Int} (h:c∈l):∃ j,j<l.length∧l.getD j 0=c:=by
 obtain ⟨j,hj,rfl⟩:=List.getElem_of_mem h;exact ⟨j,hj,by rw [List.getD_eq_getElem?_getD,List.getElem?_eq_getElem hj];rfl⟩
theorem near_mod {P y c:Int} (p0:0<P) (e:y % P=c % P):∃ k,y=c+P * k:=by
 have a:=Int.emod_add_mul_ediv y P;have b:=Int.emod_add_mul_ediv c P;exact ⟨y / P - c / P,by rw [Int.mul_sub];omega⟩
theorem cb_facts {P:Int} {A:List Sp} (pv:PV P A) {x r:Int} (h:r∈chL P A A):caB P x r<x∧x - P≤caB P x r∧caB P x r % P=r∧Chg (hsP P A) (caB P x r):=by
 have p0:=pv.p0;obtain ⟨r0,r1,r2⟩:=ch_in pv h;have m0:=Int.emod_nonneg x (show P≠0 by omega);have m1:=Int.emod_lt_of_pos x (show 0<P by omega);have dm:=Int.emod_add_mul_ediv x P;have e:x - x % P=P * (x / P):=by omega
 unfold caB
 split
 ·have q:x - x % P+r - P=r+P * (x / P - 1):=by rw [Int.mul_sub,Int.mul_one];omega
  refine ⟨by omega,by omega,?_,?_⟩
  ·rw [q,Int.add_mul_emod_self_left,Int.emod_eq_of_lt r0 r1]
  ·rw [q];exact (chg_per hs_per r _).2 r2
 ·have q:x - x % P+r=r+P * (x / P):=by omega
  refine ⟨by omega,by omega,?_,?_⟩
  ·rw [q,Int.add_mul_emod_self_left,Int.emod_eq_of_lt r0 r1]
  ·rw [q];exact (chg_per hs_per r _).2 r2
theorem ca_facts {P:Int} {A:List Sp} (pv:PV P A) {x r:Int} (h:r∈chL P A A):x<caA P x r∧caA P x r≤x+P∧caA P x r % P=r∧Chg (hsP P A) (caA P x r):=by
 have p0:=pv.p0;obtain ⟨r0,r1,r2⟩:=ch_in pv h;have m0:=Int.emod_nonneg x (show P≠0 by omega);have m1:=Int.emod_lt_of_pos x (show 0<P by omega);have dm:=Int.emod_add_mul_ediv x P
 unfold caA
 split
 ·have q:x - x % P+r+P=r+P * (x / P+1):=by rw [Int.mul_add,Int.mul_one];omega
  refine ⟨by omega,by omega,?_,?_⟩
  ·rw [q,Int.add_mul_emod_self_left,Int.emod_eq_of_lt r0 r1]
  ·rw [q];exact (chg_per hs_per r _).2 r2
 ·have q:x - x % P+r=r+P * (x / P):=by omega
  refine ⟨by omega,by omega,?_,?_⟩
  ·rw [q,Int.add_mul_emod_self_left,Int.emod_eq_of_lt r0 r1]
  ·rw [q];exact (chg_per hs_per r _).2 r2
theorem one_turn {P k d:Int} (p0:0<P) (h:d=P * k) (lo:-P<d) (z:k≠0):P≤d:=by
 rcases Int.lt_trichotomy k 0 with c | c | c
 ·have:=Int.mul_le_mul_of_nonneg_left (show k≤-1 by omega) (show 0≤P by omega);rw [Int.mul_neg,Int.mul_one] at this;omega
 ·exact absurd c z
 ·have:=Int.mul_le_mul_of_nonneg_left (show 1≤k by omega) (show 0≤P by omega);rw [Int.mul_one] at this;omega
theorem BfI.fin {P x:Int} {A:List Sp} {o:Bool} {b:Int} (pv:PV P A) (h:BfI P x (chL P A A) (chL P A A).length o b):BfS (hsP P A) x o b:=by
 have p0:=pv.p0
 constructor
 ·intro ho;have z:0<(chL P A A).length:=by have:=h.ok;rw [ho] at this;exact of_decide_eq_true this.symm
  obtain ⟨j,hj,rfl⟩:=h.is z;obtain ⟨f1,f2,f3,f4⟩:=cb_facts pv (x:=x) (ints_mem hj);refine ⟨f1,f4,fun y y1 y2 hc=>?_⟩;obtain ⟨i,hi,e⟩:=mem_ints (ch_all pv hc);obtain ⟨g1,g2,g3,g4⟩:=cb_facts pv (x:=x) (ints_mem hi);have t:=h.top i hi;obtain ⟨k,hk⟩:=near_mod (y:=y) (c:=caB P x ((chL P A A).getD i 0)) (show 0<P by omega) (by rw [g3,e])
  by_cases k0:k=0
  ·rw [k0,Int.mul_zero] at hk;omega
  ·have:=one_turn (show 0<P by omega) (d:=y - caB P x ((chL P A A).getD i 0)) (k:=k) (by omega) (by omega) k0;omega
 ·intro ho y hc;have z:¬ 0<(chL P A A).length:=by have:=h.ok;rw [ho] at this;exact of_decide_eq_false this.symm
  obtain ⟨i,hi,-⟩:=mem_ints (ch_all pv hc);omega
theorem AfI.fin {P x:Int} {A:List Sp} {o:Bool} {b:Int} (pv:PV P A) (h:AfI P x (chL P A A) (chL P A A).length o b):AfS (hsP P A) x o b:=by
 have p0:=pv.p0
 constructor
 ·intro ho;have z:0<(chL P A A).length:=by have:=h.ok;rw [ho] at this;exact of_decide_eq_true this.symm
  obtain ⟨j,hj,rfl⟩:=h.is z;obtain ⟨f1,f2,f3,f4⟩:=ca_facts pv (x:=x) (ints_mem hj);refine ⟨f1,f4,fun y y1 y2 hc=>?_⟩;obtain ⟨i,hi,e⟩:=mem_ints (ch_all pv hc);obtain ⟨g1,g2,g3,g4⟩:=ca_facts pv (x:=x) (ints_mem hi);have t:=h.top i hi;obtain ⟨k,hk⟩:=near_mod (y:=caA P x ((chL P A A).getD i 0)) (c:=y) (show 0<P by omega) (by rw [g3,e])
  by_cases k0:k=0
  ·rw [k0,Int.mul_zero] at hk;omega
  ·have:=one_turn (show 0<P by omega) (d:=caA P x ((chL P A A).getD i 0) - y) (k:=k) (by omega) (by omega) k0;omega
 ·intro ho y hc;have z:¬ 0<(chL P A A).length:=by have:=h.ok;rw [ho] at this;exact of_decide_eq_false this.symm
  obtain ⟨i,hi,-⟩:=mem_ints (ch_all pv hc);omega
structure Giv (P:Int) (A:List Sp) (Q:Int) (B:List Sp) (lo hi:Int) (l:List Sp):Prop where
 p:PV P A
 q:PV Q B
 le:lo≤hi
 lo0:-4398046511104≤lo
 hi0:hi≤4398046511104
 va:vaB l=true
 low:∀ s,s∈l→lo≤s.1∧s.2≤hi
abbrev gvF (P:Int) (A:List Sp) (Q:Int) (B:List Sp) (lo hi:Int) (l:List Sp):Int→Bool:=pcS (hsP P A) (inB l) (hsP Q B) lo hi
theorem gv_mid {P Q lo hi:Int} {A B l:List Sp} {x:Int} (a:lo≤x) (b:x<hi):gvF P A Q B lo hi l x=inB l x:=by
 show pcS _ _ _ _ _ _=_;unfold pcS;rw [if_neg (by omega),if_pos b]
theorem gv_low {P Q lo hi:Int} {A B l:List Sp} {x:Int} (a:x<lo):gvF P A Q B lo hi l x=hsP P A x:=by
 show pcS _ _ _ _ _ _=_;unfold pcS;rw [if_pos a]
theorem gv_high {P Q lo hi:Int} {A B l:List Sp} {x:Int} (le:lo≤hi) (a:hi≤x):gvF P A Q B lo hi l x=hsP Q B x:=by
 show pcS _ _ _ _ _ _=_;unfold pcS;rw [if_neg (by omega),if_neg (by omega)]
theorem fr_ends {P Q lo hi a b:Int} {A B l:List Sp} (g:Giv P A Q B lo hi l) (e:pqE P A Q B=0) (ha:EdA (gvF P A Q B lo hi l) (hsP P A) a) (hb:EdB (gvF P A Q B lo hi l) (hsP Q B) b) (ab:a<b→lo≤a∧b≤hi) :
    frT P A Q B (gvF P A Q B lo hi l)=if nvB (if a≤b then a else b)&&nvB b then (⟨P,A,Q,B,(if a≤b then a else b),b,(if a≤b then clL l a b else [])⟩,0) else (tsZ,9):=by
  have np:¬ (P=Q∧A=B∧gvF P A Q B lo hi l=hsP P A):=fun c=>ha.no (by rw [c.2.2]);have lt:loT (gvF P A Q B lo hi l) (hsP P A) (hsP Q B)=if a≤b then a else b:=by unfold loT;rw [edA_eq ha,edB_eq hb]
  have L:caL (gvF P A Q B lo hi l) (if a≤b then a else b) b=if a≤b then clL l a b else []:=by
    by_cases z:a≤b
    · rw [if_pos z,if_pos z]
      by_cases y:a<b
      · obtain ⟨y1,y2⟩:=ab y;rw [cl_ca (vaB_iff.1 g.va).2.2];exact ca_congr fun x x0 x1=>gv_mid (by omega) (by omega)
      · rw [show a=b by omega,ca_none _ (Int.le_refl b),cl_ca (vaB_iff.1 g.va).2.2,ca_none _ (Int.le_refl b)]
    · rw [if_neg z,if_neg z,ca_none _ (Int.le_refl b)]
  unfold frT
  rw [if_neg (by rw [e];exact fun c=>c rfl),if_neg np,lt,edB_eq hb,L]
theorem fr_pure {P:Int} {A:List Sp} {f:Int→Bool} (h:f=hsP P A):frT P A P A f=(⟨P,A,P,A,0,0,[]⟩,0):=by
 have e:pqE P A P A=0:=by unfold pqE;rw [if_pos ⟨rfl,rfl⟩]
 unfold frT
 rw [if_neg (by rw [e];exact fun c=>c rfl),if_pos ⟨rfl,rfl,h⟩]
theorem fr_pair {P Q:Int} {A B:List Sp} {f:Int→Bool} (e:pqE P A Q B≠0):frT P A Q B f=(tsZ,pqE P A Q B):=by
 unfold frT;rw [if_pos e]
def givB (P:Int) (A:List Sp) (Q:Int) (B:List Sp) (lo hi:Int) (l:List Sp):Prop:=lo≤hi∧nvB lo=true∧nvB hi=true∧pvB P A=true∧pvB Q B=true∧vaB l=true∧(l.length=0∨(lo≤(l.getD 0 (0,0)).1∧(l.getD (l.length - 1) (0,0)).2≤hi))
theorem giv_iff {P Q lo hi:Int} {A B l:List Sp}:givB P A Q B lo hi l↔Giv P A Q B lo hi l:=by
 constructor
 ·rintro ⟨h1,h2,h3,h4,h5,h6,h7⟩;refine ⟨pv_iff.1 h4,pv_iff.1 h5,h1,(nv_bd h2).1,(nv_bd h3).2,h6,fun s hs=>?_⟩;have c:=(vaB_iff.1 h6).2.2;obtain ⟨j,hj,rfl⟩:=mem_getD hs
  rcases h7 with z | ⟨z1,z2⟩
  ·omega
  ·have a:=(cn_lo c (Nat.zero_le j) hj).1;have b:=(cn_lo c (show j≤l.length - 1 by omega) (by omega)).2;omega
 ·rintro ⟨h1,h2,h3,h4,h5,h6,h7⟩;have n1:nvB lo=true:=by unfold nvB;rw [zdt h4,zdt (show lo≤4398046511104 by omega)];rfl
  have n2:nvB hi=true:=by unfold nvB;rw [zdt h5,zdt (show -4398046511104≤hi by omega)];rfl
  refine ⟨h3,n1,n2,pv_iff.2 h1,pv_iff.2 h2,h6,?_⟩
  rcases Nat.eq_zero_or_pos l.length with z | z
  ·exact .inl z
  ·exact .inr ⟨(h7 _ (getD_mem z)).1,(h7 _ (getD_mem (show l.length - 1<l.length by omega))).2⟩
open Classical in
noncomputable def toR (P:Int) (A:List Sp) (Q:Int) (B:List Sp) (lo hi:Int) (l:List Sp):TS × Int:=if givB P A Q B lo hi l then frT P A Q B (gvF P A Q B lo hi l) else (tsZ,1)
noncomputable def ofT (s:TS):TS × Int:=toR s.P s.A s.Q s.B s.a s.b s.L
open Classical in
noncomputable def vsB (s:TS):Bool:=decide (ofT s=(s,0))
open Classical in
theorem vs_iff {s:TS}:vsB s=true↔ofT s=(s,0):=by unfold vsB;rw [decide_eq_true_iff]
structure VS (s:TS):Prop where
 g:Giv s.P s.A s.Q s.B s.a s.b s.L
 fr:frT s.P s.A s.Q s.B (hsT s)=(s,0)
theorem vs_ok {s:TS}:vsB s=true↔VS s:=by
 rw [vs_iff]
 unfold ofT toR
 constructor
 ·intro h
  by_cases c:givB s.P s.A s.Q s.B s.a s.b s.L
  ·rw [if_pos c] at h;exact ⟨giv_iff.1 c,h⟩
  ·rw [if_neg c] at h;have h2:=congrArg Prod.snd h;cases h2
 ·rintro ⟨g,fr⟩;rw [if_pos (giv_iff.2 g)];exact fr
theorem VS.pq {s:TS} (h:VS s):pqE s.P s.A s.Q s.B=0:=by
 have f:=h.fr
 unfold frT at f
 by_cases e:pqE s.P s.A s.Q s.B=0
 ·exact e
 ·rw [if_pos e] at f;exact absurd (congrArg Prod.snd f) e
def puB (s:TS):Bool:=decide (s.a=0)&&decide (s.b=0)&&decide (s.P=s.Q)&&decide (s.A=s.B)
theorem pu_iff {s:TS}:puB s=true↔s.a=0∧s.b=0∧s.P=s.Q∧s.A=s.B:=by
 unfold puB
 simp only [Bool.and_eq_true,decide_eq_true_eq,and_assoc]
theorem pu_has {s:TS} (h:puB s=true) (x:Int):hsT s x=hsP s.P s.A x∧hsT s x=hsP s.Q s.B x:=by
 obtain ⟨a,b,c,d⟩:=pu_iff.1 h;have e:hsT s x=hsP s.P s.A x:=by
  show (if x<s.a then _ else if x<s.b then _ else hsP s.Q s.B x)=_
  rw [a,b,← c,← d]
  split
  ·rfl
  ·rfl
 exact ⟨e,by rw [e,c,d]⟩
theorem hs_low {s:TS} {x:Int} (h:x<s.a):hsT s x=hsP s.P s.A x:=gv_low h
theorem hs_high {s:TS} (le:s.a≤s.b) {x:Int} (h:s.b≤x):hsT s x=hsP s.Q s.B x:=gv_high le h
def wnT (s t:TS):Int × Int:=if puB s then (t.a,t.b) else if puB t then (s.a,s.b) else (if t.a<s.a then t.a else s.a,if s.b<t.b then t.b else s.b)
theorem wn_ok2 {s t:TS} (hs:VS s) (ht:VS t):(wnT s t).1≤(wnT s t).2∧-4398046511104≤(wnT s t).1∧(wnT s t).2≤4398046511104∧(∀ x,x<(wnT s t).1→hsT s x=hsP s.P s.A x∧hsT t x=hsP t.P t.A x)∧∀ x,(wnT s t).2≤x→hsT s x=hsP s.Q s.B x∧hsT t x=hsP t.Q t.B x:=by
 have gs:=hs.g;have gt:=ht.g;have l1:=gs.le;have l2:=gt.le;have b1:=gs.lo0;have b2:=gs.hi0;have b3:=gt.lo0;have b4:=gt.hi0
 unfold wnT
 by_cases p:puB s=true
 ·rw [if_pos p];exact ⟨l2,b3,b4,fun x hx=>⟨(pu_has p x).1,hs_low hx⟩,fun x hx=>⟨(pu_has p x).2,hs_high l2 hx⟩⟩
 ·rw [if_neg p]
  by_cases q:puB t=true
  ·rw [if_pos q];exact ⟨l1,b1,b2,fun x hx=>⟨hs_low hx,(pu_has q x).1⟩,fun x hx=>⟨hs_high l1 hx,(pu_has q x).2⟩⟩
  ·rw [if_neg q];refine ⟨by show (if t.a<s.a then t.a else s.a)≤(if s.b<t.b then t.b else s.b);split <;> split <;> omega,by show _≤(if t.a<s.a then t.a else s.a);split <;> omega,by show (if s.b<t.b then t.b else s.b)≤_;split <;> omega,fun x hx=>?_,fun x hx=>?_⟩
   ·have hx':x<(if t.a<s.a then t.a else s.a):=hx;exact ⟨hs_low (by split at hx' <;> omega),hs_low (by split at hx' <;> omega)⟩
   ·have hx':(if s.b<t.b then t.b else s.b)≤x:=hx;exact ⟨hs_high l1 (by split at hx' <;> omega),hs_high l2 (by split at hx' <;> omega)⟩
noncomputable def cbT (k:Int) (s t:TS):TS × Int :=
 if (vsB s&&vsB t)=false then (tsZ,1)
 else if (coR k s.P s.A t.P t.A).2≠0 then (tsZ,(coR k s.P s.A t.P t.A).2)
 else if (coR k s.Q s.B t.Q t.B).2≠0 then (tsZ,(coR k s.Q s.B t.Q t.B).2)
 else if pqE (coR k s.P s.A t.P t.A).1.1 (coR k s.P s.A t.P t.A).1.2 (coR k s.Q s.B t.Q t.B).1.1 (coR k s.Q s.B t.Q t.B).1.2≠0 then (tsZ,pqE (coR k s.P s.A t.P t.A).1.1 (coR k s.P s.A t.P t.A).1.2 (coR k s.Q s.B t.Q t.B).1.1 (coR k s.Q s.B t.Q t.B).1.2)
 else if 2000<(caL (hsT s) (wnT s t).1 (wnT s t).2).length+(caL (hsT t) (wnT s t).1 (wnT s t).2).length then (tsZ,5)
 else frT (coR k s.P s.A t.P t.A).1.1 (coR k s.P s.A t.P t.A).1.2 (coR k s.Q s.B t.Q t.B).1.1 (coR k s.Q s.B t.Q t.B).1.2 (fun x=>kpB k (hsT s x) (hsT t x))
theorem pc_congr {g m m' h f:Int→Bool} {lo hi:Int} (low:∀ x,x<lo→f x=g x) (mid:∀ x,lo≤x→x<hi→f x=m x) (high:∀ x,hi≤x→f x=h x) (le:lo≤hi):pcS g m h lo hi=f:=funext fun x=>by
 unfold pcS
 by_cases a:x<lo
 ·rw [if_pos a,low x a]
 ·rw [if_neg a]
  by_cases b:x<hi
  ·rw [if_pos b,mid x (by omega) b]
  ·rw [if_neg b,high x (by omega)]
theorem cb_giv {k:Int} (k1:1≤k) (k3:k≤3) {s t:TS} (hs:VS s) (ht:VS t) (e1:(coR k s.P s.A t.P t.A).2=0) (e2:(coR k s.Q s.B t.Q t.B).2=0) (few:(caL (hsT s) (wnT s t).1 (wnT s t).2).length+(caL (hsT t) (wnT s t).1 (wnT s t).2).length≤2000) :
    Giv (coR k s.P s.A t.P t.A).1.1 (coR k s.P s.A t.P t.A).1.2 (coR k s.Q s.B t.Q t.B).1.1 (coR k s.Q s.B t.Q t.B).1.2 (wnT s t).1 (wnT s t).2 (caL (fun x=>kpB k (hsT s x) (hsT t x)) (wnT s t).1 (wnT s t).2) ∧
    gvF (coR k s.P s.A t.P t.A).1.1 (coR k s.P s.A t.P t.A).1.2 (coR k s.Q s.B t.Q t.B).1.1 (coR k s.Q s.B t.Q t.B).1.2 (wnT s t).1 (wnT s t).2 (caL (fun x=>kpB k (hsT s x) (hsT t x)) (wnT s t).1 (wnT s t).2)=fun x=>kpB k (hsT s x) (hsT t x):=by
  obtain ⟨w1,w2,w3,w4,w5⟩:=wn_ok2 hs ht;obtain ⟨-,-,pl,fl⟩:=co_ok k1 k3 e1;obtain ⟨-,-,pr,fr⟩:=co_ok k1 k3 e2;have len:=len_comb k1 k3 (hsT s) (hsT t) (wnT s t).1 ((wnT s t).2 - (wnT s t).1).toNat;rw [show (wnT s t).1+((((wnT s t).2 - (wnT s t).1).toNat:Nat):Int)=(wnT s t).2 by omega] at len;refine ⟨⟨pl,pr,w1,w2,w3,vaB_iff.2 ⟨by omega,fun p hp=>by have:=ca_ends _ _ _ p hp;omega,ca_cn _ _ _⟩,fun p hp=>ca_ends _ _ _ p hp⟩,?_⟩;refine pc_congr (m':=fun _=>true) (fun x hx=>?_) (fun x h1 h2=>?_) (fun x hx=>?_) w1
  · rw [fl,(w4 x hx).1,(w4 x hx).2]
  · rw [ca_in,zdt h1,zdt h2];rfl
  · rw [fr,(w5 x hx).1,(w5 x hx).2]
structure SS3 (w:World) (s:TS) (va vb vl:Value):Prop where
 a:PairS 0 w va s.A
 b:PairS 0 w vb s.B
 l:PairS 0 w vl s.L
theorem SS3.keep {w w':World} {s:TS} {va vb vl:Value} (h:SS3 w s va vb vl) (hb:Below w.heap.size w w'):SS3 w' s va vb vl:=⟨h.a.keep hb,h.b.keep hb,h.l.keep hb⟩
structure TsI (s:TS):Prop where
 P:I64 s.P
 Q:I64 s.Q
 a:I64 s.a
 b:I64 s.b
 A:s.A.length≤maxLen
 B:s.B.length≤maxLen
 L:s.L.length≤maxLen
theorem VS.ti {s:TS} (h:VS s):TsI s:=by
 have g:=h.g;have p0:=g.p.p0;have p1:=g.p.p1;have q0:=g.q.p0;have q1:=g.q.p1;have l1:=g.p.len;have l2:=g.q.len;have l3:=(vaB_iff.1 g.va).1;have le:=g.le;have b1:=g.lo0;have b2:=g.hi0;exact ⟨⟨by omega,by omega⟩,⟨by omega,by omega⟩,⟨by omega,by omega⟩,⟨by omega,by omega⟩,le_mx (by omega),le_mx (by omega),le_mx (by omega)⟩
theorem Bxs.old {w:World} {b:Nat} {us:List Value} (h:Bxs w b us) (o:Obj):Bxs (w.alloc o) b us:=h.keep (grow (here w) o)
theorem Bxs.snd {w:World} {o:Obj} (us:List Value) (t:TypeId):Bxs ((w.alloc o).alloc (.cells us.toArray t)) (w.heap.size+1) us:=by
 have h:=Bxs.new (w:=w.alloc o) us t;rw [size_two] at h;exact h
theorem VS.ends {s:TS} (h:VS s) (np:¬ (s.P=s.Q∧s.A=s.B∧hsT s=hsP s.P s.A)):s.a=loT (hsT s) (hsP s.P s.A) (hsP s.Q s.B)∧s.b=edB (hsT s) (hsP s.Q s.B)∧s.L=caL (hsT s) s.a s.b∧(∃ a,EdA (hsT s) (hsP s.P s.A) a)∧∃ b,EdB (hsT s) (hsP s.Q s.B) b:=by
 have f:=h.fr;have ex:=ends_ex h.g.p h.g.q (pc_mid _ _ _ h.g.le) np
 unfold frT at f
 rw [if_neg (by rw [h.pq];exact fun c=>c rfl),if_neg np] at f
 by_cases c:(nvB (loT (hsT s) (hsP s.P s.A) (hsP s.Q s.B))&&nvB (edB (hsT s) (hsP s.Q s.B)))=true
 ·rw [if_pos c] at f;have f':=congrArg Prod.fst f;have e1:loT (hsT s) (hsP s.P s.A) (hsP s.Q s.B)=s.a:=congrArg TS.a f';have e2:edB (hsT s) (hsP s.Q s.B)=s.b:=congrArg TS.b f';have e3:caL (hsT s) (loT (hsT s) (hsP s.P s.A) (hsP s.Q s.B)) (edB (hsT s) (hsP s.Q s.B))=s.L:=congrArg TS.L f';rw [e1,e2] at e3;exact ⟨e1.symm,e2.symm,e3.symm,ex⟩
 ·rw [if_neg c] at f;exact absurd (show (9:Int)=0 from congrArg Prod.snd f) (by decide)
theorem VS.pure {s:TS} (h:VS s) (p:s.P=s.Q∧s.A=s.B∧hsT s=hsP s.P s.A):s=⟨s.P,s.A,s.P,s.A,0,0,[]⟩:=by
 have f:=h.fr
 unfold frT at f
 rw [if_neg (by rw [h.pq];exact fun c=>c rfl),if_pos p] at f;have f':=(congrArg Prod.fst f).symm;have f':s=⟨s.P,s.A,s.Q,s.B,0,0,[]⟩:=f';rw [← p.1,← p.2.1] at f';exact f'
structure NxC (f:Int→Bool) (x:Int) (y:Int) (o:Bool):Prop where
 yes:o=true→x<y∧y≤4398046511104∧Chg f y∧∀ z,x<z→z<y→¬ Chg f z
 no:o=false→y=0∧∀ z,x<z→z≤4398046511104→¬ Chg f z
structure NxN (f:Int→Bool) (x:Int) (y:Int) (o:Bool):Prop where
 yes:o=true→x≤y∧y≤4398046511104∧f y=true∧∀ z,x≤z→z<y→f z=false
 no:o=false→y=0∧∀ z,x≤z→z≤4398046511104→f z=false
structure NxP (f:Int→Bool) (x:Int) (y:Int) (o:Bool):Prop where
 yes:o=true→y≤x∧-4398046511104≤y∧f y=true∧∀ z,y<z→z≤x→f z=false
 no:o=false→y=0∧∀ z,-4398046511104≤z→z≤x→f z=false
theorem NxC.unique {f:Int→Bool} {x y y':Int} {o o':Bool} (h:NxC f x y o) (k:NxC f x y' o'):y=y'∧o=o':=by
 cases o <;> cases o'
 ·exact ⟨(h.no rfl).1.trans (k.no rfl).1.symm,rfl⟩
 ·obtain ⟨a,b,c,-⟩:=k.yes rfl;exact absurd c ((h.no rfl).2 _ a b)
 ·obtain ⟨a,b,c,-⟩:=h.yes rfl;exact absurd c ((k.no rfl).2 _ a b)
 ·obtain ⟨a,b,c,d⟩:=h.yes rfl;obtain ⟨a',b',c',d'⟩:=k.yes rfl
  rcases Int.lt_trichotomy y y' with z | z | z
  ·exact absurd c (d' y a z)
  ·exact ⟨z,rfl⟩
  ·exact absurd c' (d y' a' z)
theorem NxN.unique {f:Int→Bool} {x y y':Int} {o o':Bool} (h:NxN f x y o) (k:NxN f x y' o'):y=y'∧o=o':=by
 cases o <;> cases o'
 ·exact ⟨(h.no rfl).1.trans (k.no rfl).1.symm,rfl⟩
 ·obtain ⟨a,b,c,-⟩:=k.yes rfl;rw [(h.no rfl).2 _ a b] at c;cases c
 ·obtain ⟨a,b,c,-⟩:=h.yes rfl;rw [(k.no rfl).2 _ a b] at c;cases c
 ·obtain ⟨a,b,c,d⟩:=h.yes rfl;obtain ⟨a',b',c',d'⟩:=k.yes rfl
  rcases Int.lt_trichotomy y y' with z | z | z
  ·rw [d' y a z] at c;cases c
  ·exact ⟨z,rfl⟩
  ·rw [d y' a' z] at c';cases c'
theorem NxP.unique {f:Int→Bool} {x y y':Int} {o o':Bool} (h:NxP f x y o) (k:NxP f x y' o'):y=y'∧o=o':=by
 cases o <;> cases o'
 ·exact ⟨(h.no rfl).1.trans (k.no rfl).1.symm,rfl⟩
 ·obtain ⟨a,b,c,-⟩:=k.yes rfl;rw [(h.no rfl).2 _ b a] at c;cases c
 ·obtain ⟨a,b,c,-⟩:=h.yes rfl;rw [(k.no rfl).2 _ b a] at c;cases c
 ·obtain ⟨a,b,c,d⟩:=h.yes rfl;obtain ⟨a',b',c',d'⟩:=k.yes rfl
  rcases Int.lt_trichotomy y y' with z | z | z
  ·rw [d y' z a'] at c';cases c'
  ·exact ⟨z,rfl⟩
  ·rw [d' y z a] at c;cases c
end Go.Proofs.YtmamlgaogpkagaaGreat
namespace Go.Proofs.YtmamlgaogpkagaaGreat
set_option linter.unusedVariables false
set_option linter.unusedSimpArgs false
structure NxV (f:Int→Bool) (x n:Int):Prop where
 lt:x<n
 on:∀ y,x≤y→y<n→f y=f x
abbrev farI:Int:=9223372036854775807
theorem NxV.congr {f g:Int→Bool} {x n m:Int} (h:NxV f x n) (mn:m≤n) (xm:x<m) (e:∀ y,x≤y→y<m→g y=f y):NxV g x m :=
 ⟨xm,fun y a b=>by rw [e y a b,e x (Int.le_refl x) xm];exact h.on y a (by omega)⟩
def mnI (a b:Int):Int:=if b<a then b else a
theorem mnI_le (a b:Int):mnI a b≤a∧mnI a b≤b:=by unfold mnI;split <;> omega
theorem mn_min (a b:Int):min a b=mnI a b:=by unfold mnI;split <;> omega
theorem mnI_or (a b:Int):mnI a b=a∨mnI a b=b:=by unfold mnI;split <;> omega
def nxL (L:List Sp) (x:Int):Int:=if fdN L x=L.length then farI else if x<(L.getD (fdN L x) (0,0)).1 then (L.getD (fdN L x) (0,0)).1 else (L.getD (fdN L x) (0,0)).2
theorem nxL_ok {L:List Sp} (c:Cn L) {x:Int} (xf:x<farI):NxV (inB L) x (nxL L x):=by
 have key:∀ y,x≤y→y<nxL L x→fdN L y=fdN L x:=fun y a b=>by
  refine (fd_eq c (fd_le L x) (fun j hj=>?_) (fun j hj hl=>?_)).symm
  ·have:=(fd_iff c (x:=x) (j:=j) (by have:=fd_le L x;omega)).2 hj;omega
  ·have h1:¬ (L.getD (fdN L x) (0,0)).2≤y:=by
    unfold nxL at b
    rw [if_neg (by omega)] at b;have:=c.lt _ (getD_mem (L:=L) (j:=fdN L x) (by omega))
    split at b <;> omega
   have h2:=(cn_lo c hj hl).2;omega
 have lt:x<nxL L x:=by
  unfold nxL
  by_cases e:fdN L x=L.length
  ·rw [if_pos e];exact xf
  ·rw [if_neg e];have hl:fdN L x<L.length:=by have:=fd_le L x;omega
   have h3:¬ (L.getD (fdN L x) (0,0)).2≤x:=fun h=>Nat.lt_irrefl _ ((fd_iff c (x:=x) hl).1 h)
   split <;> omega
 refine ⟨lt,fun y a b=>?_⟩;rw [← fd_in c y,← fd_in c x]
 unfold fdH
 rw [key y a b]
 unfold nxL at b
 by_cases e:fdN L x=L.length
 ·rw [e];simp
 ·rw [if_neg e] at b
  split at b
  ·rw [zdf (p:=(L.getD (fdN L x) (0,0)).1≤y) (by omega),zdf (p:=(L.getD (fdN L x) (0,0)).1≤x) (by omega)]
  ·rw [zdt (p:=(L.getD (fdN L x) (0,0)).1≤y) (by omega),zdt (p:=(L.getD (fdN L x) (0,0)).1≤x) (by omega)]
def nxP (P:Int) (A:List Sp) (x:Int):Int:=if P=1 then farI else x - x % P+mnI (nxL A (x % P)) P
theorem nxP_ok {P:Int} {A:List Sp} (p0:1≤P) (p1:P≤12622780800) (c:Cn A) {x:Int} (xf:x<farI):NxV (hsP P A) x (nxP P A x):=by
 by_cases e:P=1
 ·subst e
  unfold nxP;rw [if_pos rfl]
  exact ⟨xf,fun y _ _=>by unfold hsP;rw [Int.emod_one,Int.emod_one]⟩
 ·unfold nxP;rw [if_neg e]
  have r0:=Int.emod_nonneg x (show P≠0 by omega);have r1:=Int.emod_lt_of_pos x (show 0<P by omega);have h:=nxL_ok c (x:=x % P) (show _<farI by unfold farI;omega);have hl:=h.lt;have m:=mnI_le (nxL A (x % P)) P;have o:=mnI_or (nxL A (x % P)) P;refine ⟨by omega,fun y a b=>?_⟩;have ey:y % P=y - (x - x % P):=by
   have d:P * (x / P)=x - x % P:=by have:=Int.mul_ediv_add_emod x P;omega
   rw [← d];have:y=(y - P * (x / P))+P * (x / P):=by omega
   conv=>lhs;rw [this]
   rw [Int.add_mul_emod_self_left];exact Int.emod_eq_of_lt (by omega) (by omega)
  show inB A (y % P)=inB A (x % P)
  rw [ey];exact h.on _ (by omega) (by omega)
structure PW (P:Int) (A:List Sp):Prop where
 p0:1≤P
 p1:P≤12622780800
 cn:Cn A
 ip:InP P A
 len:A.length≤2000
 var:P≠1→∀ u,∃ y,u≤y∧y<u+P∧hsP P A y≠hsP P A u
theorem per_all {f:Int→Bool} {P u:Int} (P0:0<P) (per:Per f P) (h:∀ y,u≤y→y<u+P→f y=f u):∀ x,f x=f u:=fun x=>by
 have r0:=Int.emod_nonneg (x - u) (show P≠0 by omega);have r1:=Int.emod_lt_of_pos (x - u) P0;have e:=per.mul (-((x - u) / P)) x;have d:=Int.mul_ediv_add_emod (x - u) P;rw [← e,Int.mul_neg];exact h _ (by omega) (by omega)
theorem PV.pw {P:Int} {A:List Sp} (h:PV P A):PW P A:=by
 have p0:=h.p0;refine ⟨h.p0,h.p1,(vaB_iff.1 h.va).2.2,h.ip,(vaB_iff.1 h.va).1,fun ne u=>?_⟩
 by_cases e:∃ y,u≤y∧y<u+P∧hsP P A y≠hsP P A u
 ·exact e
 ·have all:=per_all (f:=hsP P A) (u:=u) (show 0<P by omega) hs_per fun y a b=>by
   by_cases z:hsP P A y=hsP P A u
   ·exact z
   ·exact absurd ⟨y,a,b,z⟩ e
  have d:=h.ls.dvd_of (e:=1) (by omega) fun x=>by rw [all (x+1),all x]
  have:=Int.le_of_dvd (by omega) d;omega
def mrL (L:List Sp) (e:Int):List Sp:=(L.map fun q=>(e - q.2,e - q.1)).reverse
theorem mr_len (L:List Sp) (e:Int):(mrL L e).length=L.length:=by simp [mrL]
theorem mr_cons (q:Sp) (L:List Sp) (e:Int):mrL (q :: L) e=mrL L e++[(e - q.2,e - q.1)]:=by simp [mrL]
theorem mr_mem {L:List Sp} {e:Int} {q:Sp}:q∈mrL L e↔∃ p,p∈L∧(e - p.2,e - p.1)=q:=by simp [mrL]
theorem mr_in (e x:Int):∀ L:List Sp,inB (mrL L e) x=inB L (e - 1 - x)
  | []=>rfl
  | q :: L=>by
    rw [mr_cons,inB_app,mr_in e x L,inB_one,inB_cons,Bool.or_comm]
    congr 1
    rw [Bool.and_comm]
    congr 1
    · exact decide_eq_decide.2 (by constructor <;> (intro h;omega))
    · exact decide_eq_decide.2 (by constructor <;> (intro h;omega))
theorem cn_after:∀ {q:Sp} {L:List Sp},Cn (q :: L)→∀ p,p∈L→q.2<p.1:=fun {q L} h p hp=>by
 obtain ⟨j,hj,rfl⟩:=mem_getD hp;have:=cn_gt (L:=q :: L) (j:=0) (k:=j+1) h (by omega) (by simp;omega);rw [getD_zero,getD_succ] at this;exact this
theorem cn_tail {q:Sp} {L:List Sp} (h:Cn (q :: L)):Cn L:=cn_drop 1 h
theorem cn_single {q:Sp} (h:q.1<q.2):Cn [q]:=by
 have:=cn_of (L:=[q]) (fun p hp=>by simp at hp;subst hp;exact h) rfl;exact this
theorem mr_cn (e:Int):∀ {L:List Sp},Cn L→Cn (mrL L e)
  | [],h=>h
  | q :: L,h=>by
    rw [mr_cons];refine cn_app (mr_cn e (cn_tail h)) (cn_single ?_) fun p hp r hr=>?_
    · have:=h.lt q (List.mem_cons_self ..);show e - q.2<e - q.1;omega
    · obtain ⟨s,hs,rfl⟩:=mr_mem.1 hp
      simp at hr;subst hr
      have:=cn_after h s hs
      show e - s.1<e - q.2;omega
theorem mr_ip {P:Int} {A:List Sp} (h:InP P A):InP P (mrL A P):=fun q hq=>by
 obtain ⟨s,hs,rfl⟩:=mr_mem.1 hq;have:=h s hs
 show 0≤P - s.2∧P - s.1≤P;omega
theorem mr_ln {L:List Sp} (h:Ln L):Ln (mrL L 0):=fun q hq=>by
 obtain ⟨s,hs,rfl⟩:=mr_mem.1 hq;have:=h s hs
 show -4398046511104≤0 - s.2∧0 - s.1≤4398046511104;omega
theorem mr_hs {P:Int} {A:List Sp} (p0:1≤P) (x:Int):hsP P (mrL A P) x=hsP P A (-1 - x):=by
 unfold hsP
 rw [mr_in]
 congr 1
 have r0:=Int.emod_nonneg x (show P≠0 by omega);have r1:=Int.emod_lt_of_pos x (show 0<P by omega);have d:=Int.mul_ediv_add_emod x P;rw [show (-1 - x:Int)=(P - 1 - x % P)+P * (-(x / P) - 1) by rw [Int.mul_sub,Int.mul_neg];omega,Int.add_mul_emod_self_left];exact (Int.emod_eq_of_lt (by omega) (by omega)).symm
theorem PW.mirror {P:Int} {A:List Sp} (h:PW P A):PW P (mrL A P):=by
 have p0:=h.p0;refine ⟨h.p0,h.p1,mr_cn P h.cn,mr_ip h.ip,by rw [mr_len];exact h.len,fun ne u=>?_⟩
 by_cases e:∃ y,u≤y∧y<u+P∧hsP P (mrL A P) y≠hsP P (mrL A P) u
 ·exact e
 ·have all:=per_all (f:=hsP P (mrL A P)) (u:=u) (show 0<P by omega) hs_per fun y a b=>by
   by_cases z:hsP P (mrL A P) y=hsP P (mrL A P) u
   ·exact z
   ·exact absurd ⟨y,a,b,z⟩ e
  obtain ⟨y,-,-,no⟩:=h.var ne 0;refine absurd ?_ no;have h1:=mr_hs (A:=A) h.p0 (-1 - y);have h2:=mr_hs (A:=A) h.p0 (-1 - 0);rw [all] at h1 h2;rw [show (-1 - (-1 - y):Int)=y by omega] at h1;rw [show (-1 - (-1 - 0):Int)=0 by omega] at h2;rw [← h1,← h2]
structure GW (s:TS):Prop where
 p:PW s.P s.A
 q:PW s.Q s.B
 le:s.a≤s.b
 lo0:-4398046511104≤s.a
 hi0:s.b≤4398046511104
 cn:Cn s.L
 ln:Ln s.L
 len:s.L.length≤2000
theorem Giv.gw {s:TS} (h:Giv s.P s.A s.Q s.B s.a s.b s.L):GW s :=
 ⟨h.p.pw,h.q.pw,h.le,h.lo0,h.hi0,(vaB_iff.1 h.va).2.2,(vaB_iff.1 h.va).2.1,(vaB_iff.1 h.va).1⟩
def mrT (s:TS):TS:=⟨s.Q,mrL s.B s.Q,s.P,mrL s.A s.P,-s.b,-s.a,mrL s.L 0⟩
theorem GW.mirror {s:TS} (h:GW s):GW (mrT s):=by
 have a:=h.le;have b:=h.lo0;have c:=h.hi0;exact ⟨h.q.mirror,h.p.mirror,(by show -s.b≤-s.a;omega),(by show _≤-s.b;omega),(by show -s.a≤_;omega),mr_cn 0 h.cn,mr_ln h.ln,(by show (mrL s.L 0).length≤_;rw [mr_len];exact h.len)⟩
theorem mr_has {s:TS} (h:GW s) (x:Int):hsT (mrT s) x=hsT s (-1 - x):=by
 have a:=h.le
 show pcS (hsP s.Q (mrL s.B s.Q)) (inB (mrL s.L 0)) (hsP s.P (mrL s.A s.P)) (-s.b) (-s.a) x=pcS (hsP s.P s.A) (inB s.L) (hsP s.Q s.B) s.a s.b (-1 - x)
 unfold pcS
 by_cases c:x < -s.b
 ·rw [if_pos c,if_neg (by omega),if_neg (by omega),mr_hs h.q.p0]
 ·rw [if_neg c]
  by_cases d:x < -s.a
  ·rw [if_pos d,if_neg (by omega),if_pos (by omega),mr_in]
   congr 1
  ·rw [if_neg d,if_pos (by omega),mr_hs h.p.p0]
def nxT (s:TS) (x:Int):Int:=if x<s.a then mnI (nxP s.P s.A x) s.a else if x<s.b then mnI (nxL s.L x) s.b else nxP s.Q s.B x
theorem nxT_ok {s:TS} (h:GW s) {x:Int} (xf:x<farI):NxV (hsT s) x (nxT s x):=by
 have le:=h.le
 unfold nxT
 by_cases c:x<s.a
 ·rw [if_pos c];have n:=nxP_ok h.p.p0 h.p.p1 h.p.cn xf;have m:=mnI_le (nxP s.P s.A x) s.a;have o:=mnI_or (nxP s.P s.A x) s.a;have l:=n.lt;exact n.congr m.1 (by omega) fun y _ b=>gv_low (by omega)
 ·rw [if_neg c]
  by_cases d:x<s.b
  ·rw [if_pos d];have n:=nxL_ok h.cn xf;have m:=mnI_le (nxL s.L x) s.b;have o:=mnI_or (nxL s.L x) s.b;have l:=n.lt;exact n.congr m.1 (by omega) fun y a b=>gv_mid (by omega) (by omega)
  ·rw [if_neg d];have n:=nxP_ok h.q.p0 h.q.p1 h.q.cn xf;exact n.congr (Int.le_refl _) n.lt fun y a b=>gv_high h.le (by omega)
theorem nxP_far {P:Int} (p0:1≤P) (p1:P≤12622780800) (A:List Sp) (x:Int) (x1:x≤1152921504606846976):nxP P A x≤farI:=by
 unfold nxP
 by_cases e:P=1
 ·rw [if_pos e];exact Int.le_refl _
 ·rw [if_neg e];have r0:=Int.emod_nonneg x (show P≠0 by omega);have m:=(mnI_le (nxL A (x % P)) P).2
  unfold farI;omega
theorem nxT_far {s:TS} (h:GW s) (x:Int) (x1:x≤1152921504606846976):nxT s x≤farI:=by
 have hi:=h.hi0;have lo:=h.lo0;have le:=h.le
 unfold nxT
 split
 ·have:=(mnI_le (nxP s.P s.A x) s.a).2;unfold farI;omega
 ·split
  ·have:=(mnI_le (nxL s.L x) s.b).2;unfold farI;omega
  ·exact nxP_far h.q.p0 h.q.p1 s.B x x1
def ChW (f:Int→Bool) (x y:Int):Prop:=(y=farI∧∀ z,x≤z→z<farI→f z=f x)∨(y<farI∧x<y∧f y≠f x∧∀ z,x≤z→z<y→f z=f x)
theorem ChW.no {f:Int→Bool} {x y:Int} (h:ChW f x y) {z:Int} (z0:x<z) (z1:z<y):¬ Chg f z:=fun n=>by
 rcases h with ⟨c,d⟩ | ⟨-,a,b,c⟩
 ·exact n (by rw [d z (by omega) (by omega),d (z - 1) (by omega) (by omega)])
 ·exact n (by rw [c z (by omega) z1,c (z - 1) (by omega) (by omega)])
def ruS (l:List Sp) (i:Bool) (x n:Int):List Sp:=if i=false then l else if 0<l.length∧(l.getD (l.length - 1) (0,0)).2=x then l.dropLast++[((l.getD (l.length - 1) (0,0)).1,n)] else l++[(x,n)]
theorem ru_step {f:Int→Bool} {a x n m:Int} (ax:a≤x) (h:NxV f x n) (mn:m≤n) (xm:x<m):ruS (caL f a x) (f x) x m=caL f a m:=by
 unfold ruS
 by_cases i:f x=false
 ·rw [if_pos i];exact ca_skip (by omega) fun z z0 z1=>by rw [h.on z z0 (by omega)];exact i
 ·rw [if_neg i];have fx:f x=true:=by cases e:f x <;> simp_all
  have yes:∀ z,x≤z→z<m→f z=true:=fun z z0 z1=>by rw [h.on z z0 (by omega)];exact fx
  have cn:=ca_cn f a x;have en:=ca_ends f a x
  by_cases c:0<(caL f a x).length∧((caL f a x).getD ((caL f a x).length - 1) (0,0)).2=x
  ·rw [if_pos c];obtain ⟨l0,q,e⟩:∃ l0 q,caL f a x=l0++[q]:=⟨_,_,(List.dropLast_concat_getLast (List.ne_nil_of_length_pos c.1)).symm⟩;have q2:=c.2;have ins:=ca_in f a x;rw [e] at q2 cn en ins ⊢;rw [last_snoc] at q2;have ql:=cn.lt q (by simp);rw [last_snoc,List.dropLast_concat]
   show l0++[(q.1,m)]=_
   refine ca_eq ?_ fun z=>?_
   ·refine cn_app ?_ (cn_single (show q.1<m by omega)) fun p hp r hr=>?_
    ·have:=cn_take l0.length cn;rwa [List.take_left' rfl] at this
    ·simp at hr;subst hr
     obtain ⟨j,hj,rfl⟩:=mem_getD hp;have:=cn_gt cn (j:=j) (k:=l0.length) hj (by simp);rw [app_left _ _ hj] at this;have e2:=app_right l0 [q] 0;rw [Nat.add_zero] at e2;rw [e2] at this;exact this
   ·have iz:=ins z;rw [inB_app,inB_one] at iz ⊢
    show (inB l0 z || (decide (q.1≤z)&&decide (z<m)))=_
    by_cases zx:z<x
    ·rw [zdt (p:=z<m) (by omega),Bool.and_true];rw [zdt (p:=z<x) zx,Bool.and_true,zdt (p:=z<q.2) (by omega),Bool.and_true] at iz;rw [iz,Bool.and_true]
    ·have n0:inB l0 z=false:=by
      rw [zdf (p:=z<x) zx,Bool.and_false,Bool.false_and] at iz
      cases e3:inB l0 z
      ·rfl
      ·rw [e3] at iz;cases iz
     rw [n0,Bool.false_or,zdt (p:=q.1≤z) (by omega),Bool.true_and,zdt (p:=a≤z) (by omega),Bool.true_and]
     by_cases zm:z<m
     ·rw [zdt zm,yes z (by omega) zm];rfl
     ·rw [zdf zm];rfl
  ·rw [if_neg c];have below:∀ q,q∈caL f a x→q.2<x:=fun q hq=>by
    obtain ⟨j,hj,rfl⟩:=mem_getD hq;have h1:=(cn_lo cn (i:=j) (j:=(caL f a x).length - 1) (by omega) (by omega)).2;have h2:=(en _ (getD_mem (L:=caL f a x) (j:=(caL f a x).length - 1) (by omega))).2;have h3:((caL f a x).getD ((caL f a x).length - 1) (0,0)).2≠x:=fun k=>c ⟨by omega,k⟩;omega
   refine ca_eq ?_ fun z=>?_
   ·exact cn_app cn (cn_single (show x<m from xm)) fun p hp r hr=>by simp at hr;subst hr;exact below p hp
   ·rw [inB_app,inB_one,ca_in]
    show (_ || (decide (x≤z)&&decide (z<m)))=_
    by_cases zx:z<x
    ·rw [zdf (p:=x≤z) (by omega),Bool.false_and,Bool.or_false,zdt zx,zdt (p:=z<m) (by omega)]
    ·rw [zdf zx,Bool.and_false,Bool.false_and,Bool.false_or,zdt (p:=x≤z) (by omega),Bool.true_and,zdt (p:=a≤z) (by omega),Bool.true_and]
     by_cases zm:z<m
     ·rw [zdt zm,yes z (by omega) zm];rfl
     ·rw [zdf zm];rfl
structure RuW (f:Int→Bool) (a b:Int) (R:List Sp):Prop where
 few:R.length≤2000→R=caL f a b
 many:2000<R.length→2000<(caL f a b).length
 len:R.length≤2001
theorem RuW.eq {f:Int→Bool} {a b:Int} {R:List Sp} (h:RuW f a b R) (k:(caL f a b).length≤2000):R=caL f a b:=by
 by_cases c:R.length≤2000
 ·exact h.few c
 ·have:=h.many (by omega);omega
theorem RuW.two {f g:Int→Bool} {a b:Int} {R S:List Sp} (h:RuW f a b R) (k:RuW g a b S):2000<R.length+S.length↔2000<(caL f a b).length+(caL g a b).length:=by
 by_cases c:R.length≤2000
 ·by_cases d:S.length≤2000
  ·rw [← h.few c,← k.few d]
  ·have:=k.many (by omega);constructor <;> (intro;omega)
 ·have:=h.many (by omega);constructor <;> (intro;omega)
theorem RuW.one {f:Int→Bool} {a b:Int} {R:List Sp} (h:RuW f a b R):2000<R.length↔2000<(caL f a b).length:=by
 by_cases c:R.length≤2000
 ·rw [← h.few c]
 ·have:=h.many (by omega);constructor <;> (intro;omega)
end Go.Proofs.YtmamlgaogpkagaaGreat
namespace Go.Proofs.YtmamlgaogpkagaaGreat
open Go.RowKit
set_option linter.unusedVariables false
set_option linter.unusedSimpArgs false
structure Far (X:Nat→Prop) (w w':World):Prop where
 os:w'.os=w.os
 tape:w'.tape=w.tape
 output:w'.output=w.output
 size:w.heap.size≤w'.heap.size
 block:∀ k,k<w.heap.size→¬ X k→w'.heap[k]?=w.heap[k]?
theorem Far.of {X:Nat→Prop} {w w':World} (h:Below w.heap.size w w'):Far X w w':=⟨h.os,h.tape,h.output,h.size,fun k hk _=>h.block k hk⟩
theorem Far.below {w w':World} (h:Far (fun _=>False) w w'):Below w.heap.size w w':=⟨h.os,h.tape,h.output,h.size,fun k hk=>h.block k hk (fun c=>c)⟩
theorem Far.trans {X:Nat→Prop} {a b c:World} (h:Far X a b) (k:Far X b c):Far X a c :=
 ⟨k.os.trans h.os,k.tape.trans h.tape,k.output.trans h.output,Nat.le_trans h.size k.size,fun i hi hx=>(k.block i (zll hi h.size) hx).trans (h.block i hi hx)⟩
theorem Far.on {X:Nat→Prop} {a b c:World} (h:Below a.heap.size a b) (k:Far X b c) (hX:∀ i,X i→a.heap.size≤i):Below a.heap.size a c :=
 ⟨k.os.trans h.os,k.tape.trans h.tape,k.output.trans h.output,Nat.le_trans h.size k.size,fun i hi=>(k.block i (zll hi h.size) (fun c=>by have:=hX i c;omega)).trans (h.block i hi)⟩
theorem Far.one {X:Nat→Prop} {w w':World} {b:Nat} {v:Value} (h:One w b v) (k:Far X w w') (hx:¬ X b):One w' b v :=
 ⟨by rw [World.cell?_of_block (w:=w) (a:=⟨b,0,none⟩) (k.block b h.lt hx)];exact h.c,zll h.lt k.size⟩
theorem Far.bxs {X:Nat→Prop} {w w':World} {b:Nat} {us:List Value} (h:Bxs w b us) (k:Far X w w') (hx:¬ X b):Bxs w' b us :=
 ⟨fun i u e=>by rw [World.cell?_of_block (w:=w) (a:=⟨b,i,none⟩) (k.block b h.lt hx)];exact h.c i u e,zll h.lt k.size⟩
theorem Far.setCell {X:Nat→Prop} {a w:World} (h:Far X a w) {p:Addr} (hp:X p.block∨a.heap.size≤p.block) (u:Value):Far X a (w.setCell p u) :=
 ⟨h.os,h.tape,h.output,by rw [size_set];exact h.size,fun k hk hx=>by
  rw [Below.heap_setCell _ _ _ _ (fun e=>by subst e;rcases hp with c | c;exact hx c;omega)];exact h.block k hk hx⟩
def VwX (X:Nat→Prop) (w:World) (v:Value) (f:Int→Bool) (nx:Int→Int):Prop :=
 ∃ g caps,v=.func (.func g) #[] caps∧(∀ args w,(callFunc g args).run Tryz.prog w=.ok (.enter g args) w) ∧
  ∀ W,Far X w W→∀ x,I64 x→Calls Tryz.prog g (#[.int .i64 x]++caps) W fun e W'=>(∃ n,e=.returned (.tuple #[.bool (f x),.int .i64 n])∧(-1152921504606846976≤x→x≤1152921504606846976→n=nx x))∧Below W.heap.size W W'
abbrev Vw:=VwX (fun _=>False)
theorem VwX.keep {X:Nat→Prop} {w w':World} {v:Value} {f:Int→Bool} {nx:Int→Int} (h:VwX X w v f nx) (hb:Below w.heap.size w w'):VwX X w' v f nx:=by
 obtain ⟨g,caps,e,eg,k⟩:=h;exact ⟨g,caps,e,eg,fun W hW x hx=>k W ((Far.of hb).trans hW) x hx⟩
theorem VwX.at {X:Nat→Prop} {w w':World} {v:Value} {f:Int→Bool} {nx:Int→Int} (h:VwX X w v f nx) (hb:Far X w w'):Vw w' v f nx:=by
 obtain ⟨g,caps,e,eg,k⟩:=h;exact ⟨g,caps,e,eg,fun W hW x hx=>k W (hb.trans (Far.of hW.below)) x hx⟩
theorem VwX.more {X Y:Nat→Prop} {w:World} {v:Value} {f:Int→Bool} {nx:Int→Int} (h:VwX X w v f nx) (hY:∀ b,Y b→X b∨w.heap.size≤b):VwX Y w v f nx:=by
 obtain ⟨g,caps,e,eg,k⟩:=h;exact ⟨g,caps,e,eg,fun W hW x hx=>k W ⟨hW.os,hW.tape,hW.output,hW.size,fun i hi hx=>hW.block i hi (fun c=>by rcases hY i c with z | z;exact hx z;omega)⟩ x hx⟩
theorem VwX.shape {X:Nat→Prop} {w:World} {v:Value} {f:Int→Bool} {nx:Int→Int} (h:VwX X w v f nx):∃ g caps,v=.func (.func g) #[] caps:=by
 obtain ⟨g,caps,e,-⟩:=h;exact ⟨g,caps,e⟩
set_option maxRecDepth 100000 in
set_option maxHeartbeats 1000000 in
theorem tvless (L:List Sp) (x:Int) (i:Nat) (hi:i<L.length) (hl:L.length≤100000) (v:Value) (b c:Nat) {ba:Nat} (w:World) (hb:One w b v) (hc:One w c (.int .i64 x)) (h:PairS ba w v L) :
    Calls Tryz.prog 160 #[.int .i64 i,.pointer (some ⟨c,0,none⟩),.pointer (some ⟨b,0,none⟩)] w fun e w'=>e=.returned (.bool (decide (x<(L.getD i (0,0)).2)))∧Below w.heap.size w w':=by
  obtain ⟨ao,cp,rfl⟩:=prs_shape h;obtain ⟨d,off,rfl,dl,cs⟩:=prs_here h hi;obtain ⟨c0,c1⟩:=cs i hi;obtain ⟨bx,blt⟩:=hb;obtain ⟨cx,clt⟩:=hc;clear cs h;generalize (L.getD i (0,0)).1=y at *;generalize (L.getD i (0,0)).2=z at *;generalize L.length=n at *
  go_enter Tryz.func160,Tryz.ntmps160
  go_wp2
  go_quiet (fail)
  go_wp2
  go_ret
  exact ⟨rfl,below_drewN (here w) _⟩
set_option maxRecDepth 100000 in
set_option maxHeartbeats 2000000 in
theorem tvlist1 (L:List Sp) (cn:Cn L) (hl:L.length≤100000) (x:Int) (hx:I64 x) (v:Value) (b:Nat) {ba:Nat} (w:World) (hb:One w b v) (h:PairS ba w v L) :
    Calls Tryz.prog 158 #[.int .i64 x,.pointer (some ⟨b,0,none⟩)] w fun e w'=>e=.returned (.tuple #[.bool (inB L x),.int .i64 (nxL L x)])∧Below w.heap.size w w':=by
  obtain ⟨ao,cp,rfl⟩:=prs_shape h;obtain ⟨w1,hw1⟩:∃ w1:World,w.alloc (.cells #[.int .i64 x] 3)=w1:=⟨_,rfl⟩;have B1:One w1 b (.slice ao L.length cp):=by rw [← hw1];exact hb.old _
  have C1:One w1 w.heap.size (.int .i64 x):=by rw [← hw1];exact One.new (here _)
  have A1:Below w.heap.size w w1:=by rw [← hw1];exact grow (here w) _
  have L1:=h.keep A1;have HS:=zh (search_all L.length (fdN L x) (fun i=>decide (x<(L.getD i (0,0)).2)) 160 #[.pointer (some ⟨w.heap.size,0,none⟩),.pointer (some ⟨b,0,none⟩)] (by omega) w1 (fun _ _=>rfl) (fd_le L x)
    (fun i hi=>zdf (by have:=(fd_iff cn (x:=x) (j:=i) (by have:=fd_le L x;omega)).2 hi;omega)) (fun i h0 h1=>zdt (by have h3:¬ (L.getD i (0,0)).2≤x:=fun h=>absurd ((fd_iff cn (x:=x) h1).1 h) (by omega);omega))
    (fun i w' hi hb=>tvless L x i hi hl _ _ _ w' (B1.keep hb) (C1.keep hb) (L1.keep hb)))
  have hmf:∀ (fn:Fn) (first cap:Array Value) (w:World),(Instr.makeFunc fn first cap).run Tryz.prog w=.ok (.func fn first cap) w:=fun _ _ _ _=>rfl;have bx:=B1.c;have blt:=B1.lt;have B1':=zh B1;have L1':=zh L1;have C1':=zh C1;replace A1:=zh A1;have fi:=fd_in cn x
  unfold fdH at fi
  have fl:=fd_le L x;have nx:nxL L x=if fdN L x=L.length then farI else if x<(L.getD (fdN L x) (0,0)).1 then (L.getD (fdN L x) (0,0)).1 else (L.getD (fdN L x) (0,0)).2:=rfl;rw [← fi,nx];clear nx fi B1 L1 C1 h hb cn;generalize fdN L x=J at *
  by_cases e:J=L.length
  · have ke:((J:Int)==(L.length:Int))=true:=by rw [beq_iff_eq];omega
    rw [if_pos e,zdf (by omega),Bool.false_and];clear e
    go_enter Tryz.func158,Tryz.ntmps158
    go_wp2_with fail
    refine HS.out.mono ?_;rintro e w3 ⟨rfl,hb⟩;have A3:=zd A1 hb;have B3:=B1'.out.keep hb;have C3:=C1'.out.keep hb;have L3:=L1'.out.keep hb;clear hb B1' C1' L1' HS bx blt A1;have bx:=B3.c;have blt:=B3.lt;have cx:=C3.c;have clt:=C3.lt;clear B3 C3 hw1;clear L3;go_wp2
    go_ret2
    exact ⟨rfl,A3.out⟩
  · have ke:((J:Int)==(L.length:Int))=false:=by rw [beq_eq_false_iff_ne];omega
    have jl:J<L.length:=by omega
    rw [if_neg e,zdt jl,Bool.true_and];clear e;obtain ⟨y,hy⟩:∃ y,(L.getD J (0,0)).1=y:=⟨_,rfl⟩;obtain ⟨z,hz⟩:∃ z,(L.getD J (0,0)).2=z:=⟨_,rfl⟩;rw [hy,hz];replace hy:=zh hy;replace hz:=zh hz
    by_cases k:x<y
    · have kk:decide (x<y)=true:=zdt k;rw [if_pos k,zdf (by omega)]
      go_enter Tryz.func158,Tryz.ntmps158
      go_wp2_with fail
      refine HS.out.mono ?_;rintro e w3 ⟨rfl,hb⟩;have A3:=zd A1 hb;have B3:=B1'.out.keep hb;have C3:=C1'.out.keep hb;have L3:=L1'.out.keep hb;clear hb B1' C1' L1' HS bx blt A1;have bx:=B3.c;have blt:=B3.lt;have cx:=C3.c;have clt:=C3.lt;clear B3 C3 hw1;obtain ⟨d,off,rfl,dl,cs⟩:=prs_here L3 jl;obtain ⟨c0,c1⟩:=cs J jl;rw [hy.out] at c0;rw [hz.out] at c1;clear cs L3 hy hz;generalize L.length=n at *;go_wp2
      go_quiet (fail)
      go_wp2
      go_quiet (fail)
      go_wp2
      go_ret2
      exact ⟨rfl,below_drewN (below_drewN A3.out _) _⟩
    · have kk:decide (x<y)=false:=zdf k;rw [if_neg k,zdt (by omega)]
      go_enter Tryz.func158,Tryz.ntmps158
      go_wp2_with fail
      refine HS.out.mono ?_;rintro e w3 ⟨rfl,hb⟩;have A3:=zd A1 hb;have B3:=B1'.out.keep hb;have C3:=C1'.out.keep hb;have L3:=L1'.out.keep hb;clear hb B1' C1' L1' HS bx blt A1;have bx:=B3.c;have blt:=B3.lt;have cx:=C3.c;have clt:=C3.lt;clear B3 C3 hw1;obtain ⟨d,off,rfl,dl,cs⟩:=prs_here L3 jl;obtain ⟨c0,c1⟩:=cs J jl;rw [hy.out] at c0;rw [hz.out] at c1;clear cs L3 hy hz;generalize L.length=n at *;go_wp2
      go_quiet (fail)
      go_wp2
      go_quiet (fail)
      go_wp2
      go_ret2
      exact ⟨rfl,below_drewN (below_drewN A3.out _) _⟩
set_option maxRecDepth 100000 in
set_option maxHeartbeats 1000000 in
theorem tvlist (L:List Sp) (cn:Cn L) (hl:L.length≤100000) (v:Value) {ba:Nat} (w0 w:World) (h:PairS ba w0 v L) (A0:Below w0.heap.size w0 w) (X:Nat→Prop) (hX:∀ b,X b→w0.heap.size≤b∧b<w.heap.size) :
    Calls Tryz.prog 124 #[v] w fun e w'=>(∃ v',e=.returned v'∧VwX X w' v' (inB L) (nxL L))∧Below w.heap.size w w':=by
  obtain ⟨ao,cp,rfl⟩:=prs_shape h;obtain ⟨w1,hw1⟩:∃ w1:World,w.alloc (.cells #[.slice ao L.length cp] 22)=w1:=⟨_,rfl⟩;have B1:One w1 w.heap.size (.slice ao L.length cp):=by rw [← hw1];exact One.new (here _)
  have A1:Below w.heap.size w w1:=by rw [← hw1];exact grow (here w) _
  have V:=zh (show VwX X w1 (.func (.func 158) #[] #[.pointer (some ⟨w.heap.size,0,none⟩)]) (inB L) (nxL L) from
    ⟨_,_,rfl,fun _ _=>rfl,fun W hW x hx=>(tvlist1 L cn hl x hx _ _ W (Far.one B1 hW (fun c=>Nat.lt_irrefl _ (hX _ c).2)) (h.keep (Far.on (down A0 A1) hW (fun i c=>(hX i c).1)))).mono fun e w' k=>⟨⟨_,k.1,fun _ _=>rfl⟩,k.2⟩⟩)
  have hmf:∀ (fn:Fn) (first cap:Array Value) (w:World),(Instr.makeFunc fn first cap).run Tryz.prog w=.ok (.func fn first cap) w:=fun _ _ _ _=>rfl;have bx:=B1.c;have blt:=B1.lt;replace A1:=zh A1;clear B1 h cn
  go_enter Tryz.func124,Tryz.ntmps124
  go_wp2
  go_ret
  exact ⟨⟨_,rfl,V.out⟩,A1.out⟩
theorem fr_parts {P Q:Int} {A B:List Sp} {f:Int→Bool} (h:(frT P A Q B f).2=0):(frT P A Q B f).1.P=P∧(frT P A Q B f).1.A=A∧(frT P A Q B f).1.Q=Q∧(frT P A Q B f).1.B=B:=by
 unfold frT at h ⊢
 by_cases e:pqE P A Q B=0
 rotate_left
 ·rw [if_pos e] at h;exact absurd h e
 rw [if_neg (by rw [e];exact fun c=>c rfl)] at h ⊢
 by_cases c:P=Q∧A=B∧f=hsP P A
 ·rw [if_pos c];exact ⟨rfl,rfl,rfl,rfl⟩
 ·rw [if_neg c] at h ⊢
  by_cases n:(nvB (loT f (hsP P A) (hsP Q B))&&nvB (edB f (hsP Q B)))=true
  ·rw [if_pos n];exact ⟨rfl,rfl,rfl,rfl⟩
  ·rw [if_neg n] at h;cases h
theorem fr_vs {P Q lo hi:Int} {A B l:List Sp} (g:Giv P A Q B lo hi l) (h:(frT P A Q B (gvF P A Q B lo hi l)).2=0) :
    VS (frT P A Q B (gvF P A Q B lo hi l)).1∧hsT (frT P A Q B (gvF P A Q B lo hi l)).1=gvF P A Q B lo hi l:=by
  have has:=fr_has g.p g.q (pc_mid _ _ _ g.le) h;obtain ⟨e1,e2,e3,e4⟩:=fr_parts h;have gg:Giv (frT P A Q B (gvF P A Q B lo hi l)).1.P (frT P A Q B (gvF P A Q B lo hi l)).1.A (frT P A Q B (gvF P A Q B lo hi l)).1.Q (frT P A Q B (gvF P A Q B lo hi l)).1.B (frT P A Q B (gvF P A Q B lo hi l)).1.a (frT P A Q B (gvF P A Q B lo hi l)).1.b (frT P A Q B (gvF P A Q B lo hi l)).1.L:=by
    rw [e1,e2,e3,e4];clear e1 e2 e3 e4 has;have le:=g.le;have mid:=pc_mid (hsP P A) (inB l) (hsP Q B) g.le;have fm:∀ x,lo≤x→x<hi→gvF P A Q B lo hi l x=inB l x:=fun x a b=>gv_mid a b;generalize hf:gvF P A Q B lo hi l=f at *;replace mid:Mid f (hsP P A) (hsP Q B) lo hi:=by rw [← hf];exact mid
    unfold frT at h ⊢
    by_cases e:pqE P A Q B=0
    rotate_left
    · rw [if_pos e] at h;exact absurd h e
    rw [if_neg (by rw [e];exact fun c=>c rfl)] at h ⊢
    by_cases c:P=Q∧A=B∧f=hsP P A
    · rw [if_pos c];exact ⟨g.p,g.q,Int.le_refl 0,by show (-4398046511104:Int)≤0;decide,by show (0:Int)≤4398046511104;decide,rfl,fun s h=>by cases h⟩
    · rw [if_neg c] at h ⊢
      by_cases n:(nvB (loT f (hsP P A) (hsP Q B))&&nvB (edB f (hsP Q B)))=true
      rotate_left
      · rw [if_neg n] at h;cases h
      rw [if_pos n];obtain ⟨n1,n2⟩:=Bool.and_eq_true_iff.1 n;obtain ⟨⟨a,ha⟩,b,hb⟩:=ends_ex g.p g.q mid c;have ea:lo≤a:=by
        by_cases z:a<lo
        · exact absurd (mid.low a z) ha.no
        · omega
      have eb:b≤hi:=by
        by_cases z:hi≤b - 1
        · exact absurd (mid.high _ z) hb.no
        · omega
      have ll:=lo_le f (hsP P A) (hsP Q B);have n3:=(nvB_iff.1 n1).1;have n4:=(nvB_iff.1 n2).2;refine ⟨g.p,g.q,ll,n3,n4,vaB_iff.2 ⟨?_,fun q hq=>?_,ca_cn _ _ _⟩,ca_ends _ _ _⟩
      · show (caL f (loT f (hsP P A) (hsP Q B)) (edB f (hsP Q B))).length≤2000
        by_cases z:loT f (hsP P A) (hsP Q B)<edB f (hsP Q B)
        · have el:loT f (hsP P A) (hsP Q B)=a:=by
            have:edA f (hsP P A)=a:=edA_eq ha
            unfold loT at z ⊢
            rw [this] at z ⊢
            split at z
            · rename_i c1;rw [if_pos c1]
            · exact absurd z (by omega)
          have:=edB_eq hb;rw [el,this] at z ⊢;rw [show caL f a b=clL l a b by rw [cl_ca (vaB_iff.1 g.va).2.2];exact ca_congr fun y y0 y1=>fm y (by omega) (by omega)];have:=cl_len l a b;have:=(vaB_iff.1 g.va).1;omega
        · rw [ca_none _ (by omega)];exact Nat.zero_le _
      · have:=ca_ends f _ _ q hq;omega
  refine ⟨⟨gg,?_⟩,has⟩;rw [has,e1,e2,e3,e4];exact Prod.ext rfl h
theorem to_vs {P Q lo hi:Int} {A B l:List Sp} (h:(toR P A Q B lo hi l).2=0):Giv P A Q B lo hi l∧VS (toR P A Q B lo hi l).1∧hsT (toR P A Q B lo hi l).1=gvF P A Q B lo hi l:=by
 unfold toR at h ⊢
 by_cases g:givB P A Q B lo hi l
 ·rw [if_pos g] at h ⊢;have g':=giv_iff.1 g;exact ⟨g',fr_vs g' h⟩
 ·rw [if_neg g] at h;cases h
noncomputable def faT (l:List Sp):TS × Int:=if (ruOf l).2≠0 then (tsZ,(ruOf l).2) else frT 1 [] 1 [] (inB (ruOf l).1)
theorem hs_none (x:Int):hsP 1 [] x=false:=rfl
theorem pv_none:PV 1 []:=⟨Int.le_refl 1,by decide,rfl,fun q h=>(by cases h),⟨by decide,Int.dvd_refl 1,fun x=>rfl,fun e h _ _=>by omega⟩⟩
def fiL (k:List Sp):Int:=(k.getD 0 (0,0)).1
def laL (k:List Sp):Int:=(k.getD (k.length - 1) (0,0)).2
theorem fa_giv {k:List Sp} (v:vaB k=true):Giv 1 [] 1 [] (fiL k) (laL k) k∧gvF 1 [] 1 [] (fiL k) (laL k) k=inB k:=by
 have cn:=(vaB_iff.1 v).2.2;have ln:=(vaB_iff.1 v).2.1
 by_cases e:k.length=0
 ·have:k=[]:=List.eq_nil_of_length_eq_zero e;subst this;refine ⟨⟨pv_none,pv_none,Int.le_refl 0,by decide,by decide,rfl,fun s h=>by cases h⟩,funext fun x=>?_⟩
  show pcS _ _ _ 0 0 x=_
  unfold pcS
  split
  ·rfl
  ·first | rfl | (rw [if_neg (by omega)];rfl)
 ·have m0:k.getD 0 (0,0)∈k:=getD_mem (by omega);have m1:k.getD (k.length - 1) (0,0)∈k:=getD_mem (by omega);have l0:=ln _ m0;have l1:=ln _ m1;have lt:=cn.lt _ m0;have lu:=cn.lt _ m1;have lo:=(cn_lo cn (Nat.zero_le (k.length - 1)) (by omega)).2;have le:fiL k≤laL k:=by unfold fiL laL;omega
  have g:Giv 1 [] 1 [] (fiL k) (laL k) k:=giv_iff.1 ⟨le,nvB_iff.2 (by unfold fiL;omega),nvB_iff.2 (by unfold laL;omega),pv_iff.2 pv_none,pv_iff.2 pv_none,v,Or.inr ⟨Int.le_refl _,Int.le_refl _⟩⟩;have low:=g.low;refine ⟨g,funext fun x=>?_⟩
  ·have out:∀ y,inB k y=true→fiL k≤y∧y<laL k:=fun y h=>by
    obtain ⟨p,hp,a,b⟩:=inB_iff.1 h;have:=low p hp;omega
   show pcS _ _ _ (fiL k) (laL k) x=_
   unfold pcS
   by_cases a:x<fiL k
   ·rw [if_pos a,hs_none]
    cases q:inB k x
    ·rfl
    ·have:=out x q;omega
   ·rw [if_neg a]
    by_cases b:x<laL k
    ·rw [if_pos b]
    ·rw [if_neg b,hs_none]
     cases q:inB k x
     ·rfl
     ·have:=out x q;omega
theorem fa_form {k:List Sp} (v:vaB k=true):frT 1 [] 1 [] (inB k)=(⟨1,[],1,[],fiL k,laL k,k⟩,0):=by
 have cn:=(vaB_iff.1 v).2.2;have ln:=(vaB_iff.1 v).2.1;obtain ⟨g,ge⟩:=fa_giv v
 by_cases e:k.length=0
 ·have:k=[]:=List.eq_nil_of_length_eq_zero e;subst this;exact fr_pure (funext fun x=>rfl)
 ·have m0:k.getD 0 (0,0)∈k:=getD_mem (by omega);have m1:k.getD (k.length - 1) (0,0)∈k:=getD_mem (by omega);have t0:=cn.lt _ m0;have t1:=cn.lt _ m1;have ea:EdA (inB k) (hsP 1 []) (fiL k):=by
   refine ⟨fun x hx=>by rw [← ge];exact gv_low hx,?_⟩;rw [hs_none,show inB k (fiL k)=true from inB_iff.2 ⟨_,m0,Int.le_refl _,t0⟩];decide
  have eb:EdB (inB k) (hsP 1 []) (laL k):=by
   refine ⟨fun x hx=>by rw [← ge];exact gv_high g.le hx,?_⟩;rw [hs_none,show inB k (laL k - 1)=true from inB_iff.2 ⟨_,m1,by show _≤(k.getD (k.length - 1) (0,0)).2 - 1;omega,by show (k.getD (k.length - 1) (0,0)).2 - 1<_;omega⟩];decide
  have lt:fiL k<laL k:=by have:=(g.low _ m0).2;show (k.getD 0 (0,0)).1<_;omega
  have ep:pqE 1 [] 1 []=0:=by unfold pqE;rw [if_pos ⟨rfl,rfl⟩]
  have f:=fr_ends g ep (by rw [ge];exact ea) (by rw [ge];exact eb) (fun _=>⟨Int.le_refl _,Int.le_refl _⟩);rw [ge] at f;have n0:=nvB_iff.2 ⟨g.lo0,by have:=g.hi0;omega⟩;have n1:=nvB_iff.2 ⟨by have:=g.lo0;omega,g.hi0⟩;have le:fiL k≤laL k:=by omega
  rw [f,if_pos le,if_pos le,n0,n1,if_pos (by rfl)];have:clL k (fiL k) (laL k)=k:=by
   rw [cl_ca cn];refine (ca_eq cn fun x=>?_).symm
   cases q:inB k x
   ·rw [Bool.and_false]
   ·obtain ⟨p,hp,a,b⟩:=inB_iff.1 q;have:=g.low p hp;rw [zdt (show fiL k≤x by omega),zdt (show x<laL k by omega)];rfl
  rw [this]
theorem fa_eq {l:List Sp} (e:(ruOf l).2=0):faT l=(⟨1,[],1,[],fiL (ruOf l).1,laL (ruOf l).1,(ruOf l).1⟩,0):=by
 unfold faT
 rw [if_neg (by rw [e];exact fun c=>c rfl),fa_form (of_ok e).2.1]
theorem fa_vs {l:List Sp} (e:(faT l).2=0):VS (faT l).1∧hsT (faT l).1=inB l:=by
 have e':(ruOf l).2=0:=by
  unfold faT at e
  by_cases z:(ruOf l).2=0
  ·exact z
  ·rw [if_pos z] at e;exact e
 obtain ⟨-,v,m⟩:=of_ok e';obtain ⟨g,ge⟩:=fa_giv v;have k:=fa_form v;have h:faT l=frT 1 [] 1 [] (gvF 1 [] 1 [] (fiL (ruOf l).1) (laL (ruOf l).1) (ruOf l).1):=by rw [ge];unfold faT;rw [if_neg (by rw [e'];exact fun c=>c rfl)]
 obtain ⟨a,b⟩:=fr_vs g (by rw [← h];exact e);rw [h];exact ⟨a,by rw [b,ge];exact funext m⟩
theorem of_va {l:List Sp} (v:vaB l=true):ruOf l=(l,0):=by
 have e:cbL 1 l []=l:=by
  obtain ⟨c,m,-,-⟩:=cb_spec 1 l [];refine cn_ext c (vaB_iff.1 v).2.2 fun x=>?_;rw [m];show (inB l x || inB [] x)=_;rw [inB_nil,Bool.or_false]
 unfold ruOf
 rw [if_pos (va_sps v),e]
 unfold ruFull
 rw [if_neg (by have:=(vaB_iff.1 v).1;omega)]
theorem fr_zt (P:Int) (A:List Sp) (Q:Int) (B:List Sp) (f:Int→Bool):(frT P A Q B f).2=0∨(frT P A Q B f).1=tsZ:=by
 unfold frT
 split
 ·exact Or.inr rfl
 ·split
  ·exact Or.inl rfl
  ·split
   ·exact Or.inl rfl
   ·exact Or.inr rfl
theorem to_zt (P:Int) (A:List Sp) (Q:Int) (B:List Sp) (lo hi:Int) (l:List Sp):(toR P A Q B lo hi l).2=0∨(toR P A Q B lo hi l).1=tsZ:=by
 unfold toR
 split
 ·exact fr_zt _ _ _ _ _
 ·exact Or.inr rfl
theorem fa_zt (l:List Sp):(faT l).2=0∨(faT l).1=tsZ:=by
 unfold faT
 split
 ·exact Or.inr rfl
 ·exact fr_zt _ _ _ _ _
theorem ti_z:TsI tsZ:=⟨⟨by decide,by decide⟩,⟨by decide,by decide⟩,⟨by decide,by decide⟩,⟨by decide,by decide⟩,Nat.zero_le _,Nat.zero_le _,Nat.zero_le _⟩
theorem ti_res {R:TS × Int} (z:R.2=0∨R.1=tsZ) (v:R.2=0→VS R.1):TsI R.1:=by
 rcases z with z | z
 ·exact (v z).ti
 ·rw [z];exact ti_z
theorem to_ti (P:Int) (A:List Sp) (Q:Int) (B:List Sp) (lo hi:Int) (l:List Sp):TsI (toR P A Q B lo hi l).1:=ti_res (to_zt _ _ _ _ _ _ _) fun h=>(to_vs h).2.1
theorem fa_ti (l:List Sp):TsI (faT l).1:=ti_res (fa_zt l) fun h=>(fa_vs h).1
abbrev puT (P:Int) (A:List Sp):TS:=⟨P,A,P,A,0,0,[]⟩
theorem pu_vs {P:Int} {A:List Sp} (p:PV P A):VS (puT P A)∧hsT (puT P A)=hsP P A:=by
 have e:hsT (puT P A)=hsP P A:=funext fun x=>(pu_has (s:=puT P A) (pu_iff.2 ⟨rfl,rfl,rfl,rfl⟩) x).1;refine ⟨⟨⟨p,p,Int.le_refl 0,by show (-4398046511104:Int)≤0;decide,by show (0:Int)≤4398046511104;decide,rfl,fun s h=>by cases h⟩,?_⟩,e⟩;rw [e];exact fr_pure rfl
theorem lst7b:Lst (hsP 7 [(0,1)]) 7 7:=⟨by omega,Int.dvd_refl 7,hs_per,fun e e0 dv per=>by
 have le:=dv_cases e0 (by omega) dv;obtain ⟨c,hc⟩:=dv
 rcases (show e=1∨e=2∨e=3∨e=4∨e=5∨e=6∨e=7 by omega) with rfl | rfl | rfl | rfl | rfl | rfl | rfl
 ·exact absurd (per 0) (by decide)
 all_goals omega⟩
theorem lst4:Lst (hsP 4 [(0,1)]) 4 4:=⟨by omega,Int.dvd_refl 4,hs_per,fun e e0 dv per=>by
 have le:=dv_cases e0 (by omega) dv;obtain ⟨c,hc⟩:=dv
 rcases (show e=1∨e=2∨e=3∨e=4 by omega) with rfl | rfl | rfl | rfl
 ·exact absurd (per 0) (by decide)
 ·exact absurd (per 0) (by decide)
 all_goals omega⟩
theorem pv7:PV 7 [(0,1)]:=⟨by omega,by omega,by decide,fun q hq=>by rw [List.mem_singleton.1 hq];exact ⟨by decide,by decide⟩,lst7b⟩
theorem pv4:PV 4 [(0,1)]:=⟨by omega,by omega,by decide,fun q hq=>by rw [List.mem_singleton.1 hq];exact ⟨by decide,by decide⟩,lst4⟩
theorem aw_hole:faT [(7,8)]=(⟨1,[],1,[],7,8,[(7,8)]⟩,0):=by
 have v:vaB [((7:Int),(8:Int))]=true:=by decide
 rw [fa_eq (by rw [of_va v]),of_va v];rfl
theorem aw_co:coR 3 7 [(0,1)] 1 []=((7,[(0,1)]),0):=by
 have f:(fun x=>kpB 3 (hsP 7 [(0,1)] x) (hsP 1 [] x))=hsP 7 [(0,1)]:=funext fun x=>by
  show (hsP 7 [(0,1)] x&&!hsP 1 [] x)=_
  rw [hs_none];simp
 have pr:prR 7 1 1 0=(7,0):=by decide
 have e:fmP 7 (hsP 7 [(0,1)])=(7,[(0,1)]):=fm_self ⟨by decide,fun q hq=>(by cases hq),trivial⟩ pv7.ip lst7b
 unfold coR
 rw [pv_iff.2 pv7,pv_iff.2 pv_none,f]
 show (if true=true then (if (prR 7 1 1 0).2=0 then pfR (prR 7 1 1 0).1 _ else _) else _)=_
 rw [pr]
 unfold pfR
 show (if true=true then (if (0:Int)=0 then (if 2000<(fmP 7 _).2.length then _ else _) else _) else _)=_
 rw [e];rfl
theorem ca_short {f:Int→Bool} {a:Int}:(caL f a (a+1)).length≤1:=by
 cases h:f a
 ·rw [show caL f a (a+1)=[] from (ca_eq (show Cn [] from trivial) fun x=>by
   rw [inB_nil];symm;rw [← Bool.not_eq_true]
   simp only [Bool.and_eq_true,decide_eq_true_eq]
   rintro ⟨⟨h1,h2⟩,h3⟩;obtain rfl:x=a:=by omega
   rw [h] at h3;cases h3).symm]
  exact Nat.zero_le _
 ·rw [ca_tight (fun x h1 h2=>by have e:x=a:=(by omega);rw [e];exact h) (show a<a+1 by omega)];exact Nat.le_refl _
theorem aw_minus:cbT 3 ⟨7,[(0,1)],7,[(0,1)],0,0,[]⟩ ⟨1,[],1,[],7,8,[(7,8)]⟩=(⟨7,[(0,1)],7,[(0,1)],7,8,[]⟩,0):=by
 obtain ⟨vs,hs⟩:=pu_vs pv7;have vt:VS ⟨1,[],1,[],7,8,[(7,8)]⟩∧hsT ⟨1,[],1,[],7,8,[(7,8)]⟩=inB [(7,8)]:=by
  have h:=fa_vs (l:=[(7,8)]) (by rw [aw_hole]);rw [aw_hole] at h;exact h
 obtain ⟨vt,ht⟩:=vt;have wn:wnT ⟨7,[(0,1)],7,[(0,1)],0,0,[]⟩ ⟨1,[],1,[],7,8,[(7,8)]⟩=(7,8):=by
  unfold wnT;rw [if_pos (pu_iff.2 ⟨rfl,rfl,rfl,rfl⟩)]
 have f:(fun x=>kpB 3 (hsT ⟨7,[(0,1)],7,[(0,1)],0,0,[]⟩ x) (hsT ⟨1,[],1,[],7,8,[(7,8)]⟩ x))=fun x=>hsP 7 [(0,1)] x&&!inB [(7,8)] x:=funext fun x=>by
  rw [show hsT ⟨7,[(0,1)],7,[(0,1)],0,0,[]⟩=hsP 7 [(0,1)] from hs,ht];rfl
 have l1:=ca_short (f:=hsT ⟨7,[(0,1)],7,[(0,1)],0,0,[]⟩) (a:=7);have l2:=ca_short (f:=hsT ⟨1,[],1,[],7,8,[(7,8)]⟩) (a:=7);have out:∀ x,(x<7∨8≤x)→(hsP 7 [(0,1)] x&&!inB [(7,8)] x)=hsP 7 [(0,1)] x:=fun x h=>by
  have:inB [((7:Int),(8:Int))] x=false:=by
   rw [← Bool.not_eq_true];intro c;obtain ⟨p,hp,a,b⟩:=inB_iff.1 c;rw [List.mem_singleton.1 hp] at a b;have a:(7:Int)≤x:=a;have b:x<(8:Int):=b;omega
  rw [this];simp
 have ea:EdA (fun x=>hsP 7 [(0,1)] x&&!inB [(7,8)] x) (hsP 7 [(0,1)]) 7:=⟨fun x hx=>out x (Or.inl hx),by decide⟩;have eb:EdB (fun x=>hsP 7 [(0,1)] x&&!inB [(7,8)] x) (hsP 7 [(0,1)]) 8:=⟨fun x hx=>out x (Or.inr hx),by decide⟩;have np:¬ ((7:Int)=7∧[((0:Int),(1:Int))]=[(0,1)]∧(fun x=>hsP 7 [(0,1)] x&&!inB [(7,8)] x)=hsP 7 [(0,1)]):=fun c=>ea.no (congrFun c.2.2 7);have lo:loT (fun x=>hsP 7 [(0,1)] x&&!inB [(7,8)] x) (hsP 7 [(0,1)]) (hsP 7 [(0,1)])=7:=by unfold loT;rw [edA_eq ea,edB_eq eb,if_pos (by omega)]
 have ep:pqE 7 [(0,1)] 7 [(0,1)]=0:=by unfold pqE;rw [if_pos ⟨rfl,rfl⟩]
 have cl:caL (fun x=>hsP 7 [(0,1)] x&&!inB [(7,8)] x) 7 8=[]:=(ca_eq (show Cn [] from trivial) fun x=>by
  rw [inB_nil];symm;rw [← Bool.not_eq_true]
  simp only [Bool.and_eq_true,decide_eq_true_eq]
  rintro ⟨⟨h1,h2⟩,h3⟩;obtain rfl:x=7:=by omega
  exact absurd h3.2 (by decide)).symm
 unfold cbT
 rw [if_neg (by rw [vs_ok.2 vs,vs_ok.2 vt];simp),wn,f]
 show (if (coR 3 7 [(0,1)] 1 []).2≠0 then _ else if (coR 3 7 [(0,1)] 1 []).2≠0 then _ else if pqE (coR 3 7 [(0,1)] 1 []).1.1 (coR 3 7 [(0,1)] 1 []).1.2 (coR 3 7 [(0,1)] 1 []).1.1 (coR 3 7 [(0,1)] 1 []).1.2≠0 then _ else if 2000<(caL _ 7 8).length+(caL _ 7 8).length then _ else frT (coR 3 7 [(0,1)] 1 []).1.1 (coR 3 7 [(0,1)] 1 []).1.2 (coR 3 7 [(0,1)] 1 []).1.1 (coR 3 7 [(0,1)] 1 []).1.2 _)=_
 rw [aw_co,if_neg (fun c=>c rfl),if_neg (fun c=>c rfl),if_neg (by show ¬ (pqE 7 [(0,1)] 7 [(0,1)]≠0);rw [ep];exact fun c=>c rfl),if_neg (by have l1:(caL (hsT ⟨7,[(0,1)],7,[(0,1)],0,0,[]⟩) 7 8).length≤1:=l1;have l2:(caL (hsT ⟨1,[],1,[],7,8,[(7,8)]⟩) 7 8).length≤1:=l2;omega)]
 show frT 7 [(0,1)] 7 [(0,1)] _=_
 unfold frT
 rw [if_neg (by rw [ep];exact fun c=>c rfl),if_neg np,lo,edB_eq eb,if_pos (by decide),cl]
theorem aw_pair:toR 2 [(0,1)] 4 [(0,1)] 10 10 []=(⟨2,[(0,1)],4,[(0,1)],7,7,[]⟩,0):=by
 have g:Giv 2 [(0,1)] 4 [(0,1)] 10 10 []:=⟨pv2,pv4,Int.le_refl _,by decide,by decide,rfl,fun s h=>by cases h⟩;have ep:pqE 2 [(0,1)] 4 [(0,1)]=0:=by decide
 have mod2:∀ x,hsP 2 [(0,1)] x=decide (x % 2=0):=fun x=>by
  show ((decide ((0:Int)≤x % 2)&&decide (x % 2<1)) || false)=_
  rw [Bool.eq_iff_iff];simp only [Bool.or_eq_true,Bool.and_eq_true,decide_eq_true_iff,Bool.false_eq_true,or_false];omega
 have mod4:∀ x,hsP 4 [(0,1)] x=decide (x % 4=0):=fun x=>by
  show ((decide ((0:Int)≤x % 4)&&decide (x % 4<1)) || false)=_
  rw [Bool.eq_iff_iff];simp only [Bool.or_eq_true,Bool.and_eq_true,decide_eq_true_iff,Bool.false_eq_true,or_false];omega
 have low:∀ x,x<10→gvF 2 [(0,1)] 4 [(0,1)] 10 10 [] x=hsP 2 [(0,1)] x:=fun x h=>gv_low h;have high:∀ x,10≤x→gvF 2 [(0,1)] 4 [(0,1)] 10 10 [] x=hsP 4 [(0,1)] x:=fun x h=>gv_high (Int.le_refl _) h;have ea:EdA (gvF 2 [(0,1)] 4 [(0,1)] 10 10 []) (hsP 2 [(0,1)]) 10:=⟨fun x hx=>low x hx,by rw [high 10 (Int.le_refl _)];decide⟩;have eb:EdB (gvF 2 [(0,1)] 4 [(0,1)] 10 10 []) (hsP 4 [(0,1)]) 7:=by
  refine ⟨fun x hx=>?_,by rw [low (7 - 1) (by omega)];decide⟩
  by_cases z:x<10
  ·rw [low x z,mod2,mod4]
   rcases (show x=7∨x=8∨x=9 by omega) with rfl | rfl | rfl <;> decide
  ·exact high x (by omega)
 have f:=fr_ends g ep ea eb (fun h=>by omega)
 unfold toR
 rw [if_pos (giv_iff.2 g),f,if_neg (show ¬ (10:Int)≤7 by omega),if_neg (show ¬ (10:Int)≤7 by omega)];exact if_pos (by decide)
theorem aw_has (x:Int):(vsB (⟨2,[(0,1)],4,[(0,1)],7,7,[]⟩:TS)&&hsT ⟨2,[(0,1)],4,[(0,1)],7,7,[]⟩ x)=gvF 2 [(0,1)] 4 [(0,1)] 10 10 [] x:=by
 obtain ⟨-,v,h⟩:=to_vs (P:=2) (A:=[(0,1)]) (Q:=4) (B:=[(0,1)]) (lo:=10) (hi:=10) (l:=[]) (by rw [aw_pair]);rw [aw_pair] at v h;rw [vs_ok.2 v,← h];rfl
theorem aw_8:(vsB (⟨2,[(0,1)],4,[(0,1)],7,7,[]⟩:TS)&&hsT ⟨2,[(0,1)],4,[(0,1)],7,7,[]⟩ 8)=true:=by rw [aw_has];decide
theorem aw_10:(vsB (⟨2,[(0,1)],4,[(0,1)],7,7,[]⟩:TS)&&hsT ⟨2,[(0,1)],4,[(0,1)],7,7,[]⟩ 10)=false:=by rw [aw_has];decide
end Go.Proofs.YtmamlgaogpkagaaGreat
