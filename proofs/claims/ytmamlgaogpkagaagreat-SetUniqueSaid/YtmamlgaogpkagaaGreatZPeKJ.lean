/- PeKJ PeKJ1 PeGE PeGG PeHA PeHE PeHF. -/
import Derived.Test.YtmamlgaogpkagaaGreatZLPlain
import Derived.Test.YtmamlgaogpkagaaGreatZLGen
import Derived.Test.YtmamlgaogpkagaaGreatZLSl
import Derived.Test.YtmamlgaogpkagaaGreatZLOwn
import Derived.Test.YtmamlgaogpkagaaGreatZRnP
import Derived.Test.YtmamlgaogpkagaaGreatZPeR
import Derived.Test.YtmamlgaogpkagaaGreatZPeB
import Derived.Test.YtmamlgaogpkagaaGreatZPeF
import Derived.Test.YtmamlgaogpkagaaGreatZPeT
import Derived.Test.YtmamlgaogpkagaaGreatZRnKD
import Derived.Test.YtmamlgaogpkagaaGreatZPeKD
import Derived.Test.YtmamlgaogpkagaaGreatZPeKE
import Derived.Test.YtmamlgaogpkagaaGreatZPeKH
import Derived.Test.YtmamlgaogpkagaaGreatZPeLm
import Derived.Test.YtmamlgaogpkagaaGreatZPeKI
import Derived.Deep.RegionHeld3
import Derived.Deep.RegionWith
import Derived.Lay
namespace Go.Proofs.YtmamlgaogpkagaaGreat
open Go.RowKit
set_option linter.unusedVariables false
set_option linter.unusedSimpArgs false
noncomputable def coR (k:Int) (P:Int) (A:List Sp) (Q:Int) (B:List Sp):(Int × List Sp) × Int :=
 if pvB P A&&pvB Q B then (if (prR P Q A.length B.length).2=0 then pfR (prR P Q A.length B.length).1 (fun x=>kpB k (hsP P A x) (hsP Q B x)) else ((0,[]),(prR P Q A.length B.length).2)) else ((0,[]),1)
theorem per_dvd {f:Int→Bool} {P M:Int} (h:Per f P) (d:P ∣ M):Per f M:=by
 obtain ⟨c,rfl⟩:=d;exact h.mul c
theorem spread_len {P M:Int} {A:List Sp} (pv:PV P A) (M0:0<M) (d:P ∣ M):((caL (hsP P A) 0 M).length:Int)≤M / P * A.length:=by
 have P0:0<P:=by have:=pv.p0;omega
 obtain ⟨s,hs,s0⟩:=dvd_nat M0 P0 d;have h:=per_len P0 (hs_per (L:=A)) s;rw [← hs,← ca_self pv.cn pv.ip] at h;have e:M / P=s:=by rw [hs];exact Int.mul_ediv_cancel _ (by omega)
 rw [e];exact_mod_cast h
theorem pr_ok {P Q:Int} {n m:Nat} (h:(prR P Q n m).2=0):lE P Q=0∧(prR P Q n m).1=lR P Q∧lR P Q≤12622780800∧lR P Q / P * n+lR P Q / Q * m≤2000:=by
 unfold prR at h ⊢
 by_cases a:lE P Q=0∧lR P Q≤12622780800
 ·rw [if_pos a] at h ⊢
  by_cases b:2000<lR P Q / P * n+lR P Q / Q * m
  ·rw [if_pos b] at h;cases h
  ·rw [if_neg b];exact ⟨a.1,rfl,a.2,by omega⟩
 ·rw [if_neg a] at h;cases h
structure CoF (k P:Int) (A:List Sp) (Q:Int) (B:List Sp) (M:Int):Prop where
 m0:0<M
 m1:M≤12622780800
 pm:Per (hsP P A) M
 qm:Per (hsP Q B) M
 la:(caL (hsP P A) 0 M).length≤2000
 lb:(caL (hsP Q B) 0 M).length≤2000
 ru:ruAp k (caL (hsP P A) 0 M) (caL (hsP Q B) 0 M)=(cbL k (caL (hsP P A) 0 M) (caL (hsP Q B) 0 M),0)
 lc:(cbL k (caL (hsP P A) 0 M) (caL (hsP Q B) 0 M)).length≤2000
 ec:cbL k (caL (hsP P A) 0 M) (caL (hsP Q B) 0 M)=caL (fun x=>kpB k (hsP P A x) (hsP Q B x)) 0 M
 ci:Cir M (fun x=>kpB k (hsP P A x) (hsP Q B x)) (cbL k (caL (hsP P A) 0 M) (caL (hsP Q B) 0 M))
theorem ca_va {f:Int→Bool} {M:Int} (m1:M≤12622780800) (l:(caL f 0 M).length≤2000):vaB (caL f 0 M)=true :=
 vaB_iff.2 ⟨l,fun p hp=>by have:=ca_ends f 0 M p hp;omega,ca_cn f 0 M⟩
theorem co_facts {k P Q:Int} {A B:List Sp} (k1:1≤k) (k3:k≤3) (pv:PV P A) (qv:PV Q B) (h:(prR P Q A.length B.length).2=0):CoF k P A Q B (prR P Q A.length B.length).1:=by
 obtain ⟨a,b,c,d⟩:=pr_ok h;obtain ⟨f1,f2,f3⟩:=pr_facts pv.p0 pv.p1 qv.p0 a;rw [b];have la:=spread_len pv f3 f1;have lb:=spread_len qv f3 f2;generalize lR P Q=M at *;have pm:Per (hsP P A) M:=per_dvd hs_per f1;have qm:Per (hsP Q B) M:=per_dvd hs_per f2;have la0:(0:Int)≤(caL (hsP P A) 0 M).length:=by omega
 have lb0:(0:Int)≤(caL (hsP Q B) 0 M).length:=by omega
 have la1:(caL (hsP P A) 0 M).length≤2000:=by omega
 have lb1:(caL (hsP Q B) 0 M).length≤2000:=by omega
 have va:=ca_va c la1;have vb:=ca_va c lb1;have lc:=len_cb k1 k3 f3 (ca_cn (hsP P A) 0 M) (ca_cn (hsP Q B) 0 M) (ca_inp (hsP P A) M) (ca_inp (hsP Q B) M);have ec:cbL k (caL (hsP P A) 0 M) (caL (hsP Q B) 0 M)=caL (fun x=>kpB k (hsP P A x) (hsP Q B x)) 0 M:=by
  rw [cb_ca f3 (ca_inp (hsP P A) M) (ca_inp (hsP Q B) M) k];exact ca_congr fun x _ _=>by rw [ca_hs f3 pm,ca_hs f3 qm]
 refine ⟨f3,c,pm,qm,la1,lb1,?_,by omega,ec,?_⟩
 ·unfold ruAp ruFull
  rw [va,vb,if_neg (show ¬ 2000<(cbL k (caL (hsP P A) 0 M) (caL (hsP Q B) 0 M)).length by omega)];rfl
 ·rw [ec];have:=cir_in f3 (ca_cn (fun x=>kpB k (hsP P A x) (hsP Q B x)) 0 M) (ca_inp _ M);have e:hsP M (caL (fun x=>kpB k (hsP P A x) (hsP Q B x)) 0 M)=fun x=>kpB k (hsP P A x) (hsP Q B x):=funext fun x=>ca_hs f3 (fun y=>by show kpB k (hsP P A (y+M)) (hsP Q B (y+M))=_;rw [pm,qm]) x;rwa [e] at this
def Rule (k:Int) (g:FuncId):Prop:=∀ (va vb:Value) (A B:List Sp),A.length≤maxLen→B.length≤maxLen→∀ {ba bb:Nat} (w:World),PairS ba w va A→PairS bb w vb B →
 Calls Tryz.prog g #[va,vb] w fun e w'=>(∃ v',e=.returned (.tuple #[v',.int .i64 (ruAp k A B).2])∧PairS w.heap.size w' v' (ruAp k A B).1∧CapS v')∧Below w.heap.size w w'
set_option maxRecDepth 100000 in
set_option maxHeartbeats 2000000 in
theorem upcombine1 (RL:Rule 1 147) (va vb:Value) (P Q:Int) (A B:List Sp) (hA:A.length≤maxLen) (hB:B.length≤maxLen) (hP:I64 P) (hQ:I64 Q) {ba bb:Nat} (w:World) (a:PairS ba w va A) (b:PairS bb w vb B) :
  Calls Tryz.prog 146 #[.agg #[.int .i64 P,va],.agg #[.int .i64 Q,vb],.func (.func 147) #[] #[]] w fun e w'=>(∃ v',e=.returned (.tuple #[.agg #[.int .i64 (coR 1 P A Q B).1.1,v'],.int .i64 (coR 1 P A Q B).2])∧PairS w.heap.size w' v' (coR 1 P A Q B).1.2)∧Below w.heap.size w w':=by
 have s1:=size_two w (.cells #[.int .i64 P,va] 24);have s2:=size_two (w.alloc (.cells #[.int .i64 P,va] 24)) (.cells #[.int .i64 Q,vb] 24);have A1:=zh (grow (grow (grow (here w) (.cells #[.int .i64 P,va] 24)) (.cells #[.int .i64 Q,vb] 24)) (.cells #[.int .i64 0,.slice none 0 0] 24));have TA:=zh (Two.fst3 (here (((w.alloc (.cells #[.int .i64 P,va] 24)).alloc (.cells #[.int .i64 Q,vb] 24)).alloc (.cells #[.int .i64 0,.slice none 0 0] 24))));have TB:=zh (Two.snd3 (here (((w.alloc (.cells #[.int .i64 P,va] 24)).alloc (.cells #[.int .i64 Q,vb] 24)).alloc (.cells #[.int .i64 0,.slice none 0 0] 24))));have TR:=Tuo.new ((w.alloc (.cells #[.int .i64 P,va] 24)).alloc (.cells #[.int .i64 Q,vb] 24)) (.int .i64 0) (.slice none 0 0) 24;rw [s2,s1] at TR;replace TR:=zh TR;have a2:=zh (a.keep A1.out);have b2:=zh (b.keep A1.out);have HC:=zh (upcommon va vb P Q A B hA hB hP hQ _ a2.out b2.out);have k1:(1:Int)≤1:=by omega
 have k3:(1:Int)≤3:=by omega
 have FA:∀ c:Int × Int,c=(if pvB P A&&pvB Q B then prR P Q A.length B.length else (0,1))→(c.2≠0→coR 1 P A Q B=((0,[]),c.2))∧(c.2=0→PV P A∧PV Q B∧CoF 1 P A Q B c.1∧coR 1 P A Q B=pfR c.1 (fun x=>kpB 1 (hsP P A x) (hsP Q B x))):=fun c hc=>by
  unfold coR
  cases q:(pvB P A&&pvB Q B)
  ·rw [q] at hc;rw [hc];exact ⟨fun _=>rfl,fun z=>by cases z⟩
  ·rw [q] at hc;rw [if_pos rfl] at hc;rw [if_pos rfl,hc];rw [Bool.and_eq_true] at q;refine ⟨fun z=>by rw [if_neg z],fun z=>⟨pv_iff.1 q.1,pv_iff.1 q.2,co_facts k1 k3 (pv_iff.1 q.1) (pv_iff.1 q.2) z,by rw [if_pos z]⟩⟩
 obtain ⟨c,hc⟩:∃ c,(if pvB P A&&pvB Q B then prR P Q A.length B.length else (0,1))=c:=⟨_,rfl⟩;replace FA:=zh (FA c hc.symm);rw [hc] at HC;clear hc a b;obtain ⟨M,E⟩:=c;replace HC:Hid (Calls Tryz.prog 173 #[.agg #[.int .i64 P,va],.agg #[.int .i64 Q,vb]] (((w.alloc (.cells #[.int .i64 P,va] 24)).alloc (.cells #[.int .i64 Q,vb] 24)).alloc (.cells #[.int .i64 0,.slice none 0 0] 24)) fun e w'=>e=.returned (.tuple #[.int .i64 M,.int .i64 E])∧Below (((w.alloc (.cells #[.int .i64 P,va] 24)).alloc (.cells #[.int .i64 Q,vb] 24)).alloc (.cells #[.int .i64 0,.slice none 0 0] 24)).heap.size (((w.alloc (.cells #[.int .i64 P,va] 24)).alloc (.cells #[.int .i64 Q,vb] 24)).alloc (.cells #[.int .i64 0,.slice none 0 0] 24)) w'):=HC;obtain ⟨t0,t1,tl⟩:=TA.out;obtain ⟨u0,u1,ul⟩:=TB.out
 by_cases e0:E=0
 ·subst e0;have FF:=FA.out.2 rfl;obtain ⟨pv,qv,CF,r⟩:=FF;replace r:=zh r;replace CF:=zh CF;replace r:Hid (coR 1 P A Q B=pfR M (fun x=>kpB 1 (hsP P A x) (hsP Q B x))):=r;replace CF:Hid (CoF 1 P A Q B M):=CF;have M0:=CF.out.m0;have M1:=CF.out.m1;clear FA s1 s2
  go_enter Tryz.func146,Tryz.ntmps146
  go_wp2_with fail
  refine HC.out.mono ?_;rintro e w4 ⟨rfl,hb⟩;have A4:=zd A1 hb;replace TA:=zh (TA.out.keep hb);replace TB:=zh (TB.out.keep hb);replace TR:=zh (TR.out.keep hb);replace a2:=zh (a2.out.keep hb);replace b2:=zh (b2.out.keep hb);clear hb A1 HC t0 t1 tl u0 u1 ul;obtain ⟨t0,t1,tl⟩:=TA.out;obtain ⟨u0,u1,ul⟩:=TB.out;go_wp2
  obtain ⟨w6,hw6⟩:∃ w6,w4.alloc (.cells #[.int .i64 0,.int .i64 M] 40)=w6:=⟨_,rfl⟩;rw [hw6];have A6:Hid (Below w.heap.size w w6):=by show Below _ _ _;rw [← hw6];exact grow A4.out _
  have hb:Below w4.heap.size w4 w6:=by rw [← hw6];exact grow (here w4) _
  have TI:Hid (Two w6 w4.heap.size (.int .i64 0) (.int .i64 M)):=by show Two _ _ _ _;rw [← hw6];exact Two.new (here _)
  replace TA:=zh (TA.out.keep hb);replace TB:=zh (TB.out.keep hb);replace TR:=zh (TR.out.keep hb);replace a2:=zh (a2.out.keep hb);replace b2:=zh (b2.out.keep hb);clear hb t0 t1 tl u0 u1 ul A4 hw6;obtain ⟨t0,t1,tl⟩:=TA.out;obtain ⟨u0,u1,ul⟩:=TB.out;obtain ⟨i0,i1,il⟩:=TI.out;have sm:spB (0,M)=true:=spB_iff.2 ⟨by show (-4398046511104:Int)≤0;omega,by show M≤4398046511104;omega,M0⟩;have ONE:∀ {f:Int→Bool} {R:List Sp},(caL f 0 M).length≤2000→LsD f 0 M R→R=caL f 0 M:=fun l h=>by
   rcases h with h | h
   ·exact h
   ·omega
  have LA:Hid (∀ W,Below w6.heap.size w6 W→Calls Tryz.prog 174 #[.agg #[.int .i64 P,va],.agg #[.int .i64 0,.int .i64 M]] W fun e w'=>(∃ v',e=.returned v'∧PairS W.heap.size w' v' (caL (hsP P A) 0 M))∧Below W.heap.size W w'):=fun W h=>(uplisted va P A pv 0 M sm W (a2.out.keep h)).mono (by rintro e w' ⟨⟨v',R,a,b,c,d⟩,hb⟩;exact ⟨⟨v',a,by rw [← ONE CF.out.la d];exact b⟩,hb⟩);have LB:Hid (∀ W,Below w6.heap.size w6 W→Calls Tryz.prog 174 #[.agg #[.int .i64 Q,vb],.agg #[.int .i64 0,.int .i64 M]] W fun e w'=>(∃ v',e=.returned v'∧PairS W.heap.size w' v' (caL (hsP Q B) 0 M))∧Below W.heap.size W w'):=fun W h=>(uplisted vb Q B qv 0 M sm W (b2.out.keep h)).mono (by rintro e w' ⟨⟨v',R,a,b,c,d⟩,hb⟩;exact ⟨⟨v',a,by rw [← ONE CF.out.lb d];exact b⟩,hb⟩);have RU:Hid (∀ W v1 v2,∀ {b1 b2:Nat},PairS b1 W v1 (caL (hsP P A) 0 M)→PairS b2 W v2 (caL (hsP Q B) 0 M)→Calls Tryz.prog 147 #[v1,v2] W fun e w'=>(∃ v',e=.returned (.tuple #[v',.int .i64 0])∧PairS W.heap.size w' v' (cbL 1 (caL (hsP P A) 0 M) (caL (hsP Q B) 0 M)))∧Below W.heap.size W w'):=fun W v1 v2 _ _ h1 h2=>by
   have q:=RL v1 v2 _ _ (by have:=CF.out.la;unfold maxLen;omega) (by have:=CF.out.lb;unfold maxLen;omega) W h1 h2;rw [CF.out.ru] at q;exact q.mono (by rintro e w' ⟨⟨v',a,b,c⟩,hb⟩;exact ⟨⟨v',a,b⟩,hb⟩)
  have HF:Hid (∀ W v1,∀ {b1:Nat},PairS b1 W v1 (cbL 1 (caL (hsP P A) 0 M) (caL (hsP Q B) 0 M))→Calls Tryz.prog 171 #[.int .i64 M,v1] W fun e w'=>(∃ v',e=.returned (.tuple #[.agg #[.int .i64 (pfR M (fun x=>kpB 1 (hsP P A x) (hsP Q B x))).1.1,v'],.int .i64 (pfR M (fun x=>kpB 1 (hsP P A x) (hsP Q B x))).2])∧PairS W.heap.size w' v' (pfR M (fun x=>kpB 1 (hsP P A x) (hsP Q B x))).1.2)∧Below W.heap.size W w'):=fun W v1 _ h=>upform v1 M _ _ CF.out.ci (by have:=CF.out.lc;omega) M1 W h;clear pv qv ONE sm RL CF a2 b2 hA hB;generalize pfR M (fun x=>kpB 1 (hsP P A x) (hsP Q B x))=RR at *;generalize cbL 1 (caL (hsP P A) 0 M) (caL (hsP Q B) 0 M)=LC at *;generalize caL (hsP P A) 0 M=CA at *;generalize caL (hsP Q B) 0 M=CB at *;have mk:∀ W',Below w6.heap.size w6 W'→Below w6.heap.size w6 W'∧W'.cell? ⟨w.heap.size,0,none⟩=some (.int .i64 P)∧W'.cell? ⟨w.heap.size,1,none⟩=some (va)∧W'.cell? ⟨w.heap.size+1,0,none⟩=some (.int .i64 Q)∧W'.cell? ⟨w.heap.size+1,1,none⟩=some (vb)∧W'.cell? ⟨w4.heap.size,0,none⟩=some (.int .i64 0)∧W'.cell? ⟨w4.heap.size,1,none⟩=some (.int .i64 M):=fun W' q=>⟨q,(TA.out.keep q).c0,(TA.out.keep q).c1,(TB.out.keep q).c0,(TB.out.keep q).c1,(TI.out.keep q).c0,(TI.out.keep q).c1⟩;have s6:=mk w6 (here w6);clear TI TB TA t0 t1 tl u0 u1 ul i0 i1 il
  go_region_held3 (fun W'=>Below w6.heap.size w6 W'∧W'.cell? ⟨w.heap.size,0,none⟩=some (.int .i64 P)∧W'.cell? ⟨w.heap.size,1,none⟩=some (va)∧W'.cell? ⟨w.heap.size+1,0,none⟩=some (.int .i64 Q)∧W'.cell? ⟨w.heap.size+1,1,none⟩=some (vb)∧W'.cell? ⟨w4.heap.size,0,none⟩=some (.int .i64 0)∧W'.cell? ⟨w4.heap.size,1,none⟩=some (.int .i64 M)) (first | assumption | (exact mk _ (grow (And.left (by assumption)) _)) | (exact mk _ (Below.drew (And.left (by assumption)))) | (exact mk _ (below_drewN (And.left (by assumption)) _)))
   (first
   | (go_at_call 174;(with_reducible refine (LA.out _ (And.left (by assumption))).mono ?_);rintro e w' ⟨⟨v7,rfl,P7⟩,hb⟩;obtain ⟨o7,c7,rfl⟩:=Sl.shape P7;have hS:=mk w' (down (And.left (by assumption)) hb))
   | (go_at_call 174;(with_reducible refine (LB.out _ (And.left (by assumption))).mono ?_);rintro e w' ⟨⟨v8,rfl,P8⟩,hb⟩;(replace P7:=PairS.keep P7 hb);obtain ⟨o8,c8,rfl⟩:=Sl.shape P8;have hS:=mk w' (down (And.left (by assumption)) hb))
   | (go_at_call 147;(with_reducible refine (RU.out _ _ _ P7 P8).mono ?_);rintro e w' ⟨⟨v9,rfl,P9⟩,hb⟩;obtain ⟨o9,c9,rfl⟩:=Sl.shape P9;have hS:=mk w' (down (And.left (by assumption)) hb)))
  have B7:=zh (down A6.out hS.1);have HM:=zh (HF.out _ _ P9);replace TR:=zh (TR.out.keep hS.1);have sz9:=B7.out.size;have tr9:=TR.out.t.lt;clear P7 P8 P9 LA LB RU HF mk hS s6 A6;go_wp2_with fail
  refine HM.out.mono ?_;rintro e w10 ⟨⟨v10,rfl,P10⟩,hb⟩;have B9:=zd B7 hb;replace TR:=zh (TR.out.keep hb);obtain ⟨o10,c10,rfl⟩:=Sl.shape P10;replace P10:=zh P10;clear HM hb B7;have FI:Hid (Two ((w10.setCell ⟨w.heap.size+1+1,0,none⟩ (.int .i64 RR.1.1)).setCell ⟨w.heap.size+1+1,1,none⟩ (.slice o10 RR.1.2.length c10)) (w.heap.size+1+1) (.int .i64 RR.1.1) (.slice o10 RR.1.2.length c10)∧Below w.heap.size w ((w10.setCell ⟨w.heap.size+1+1,0,none⟩ (.int .i64 RR.1.1)).setCell ⟨w.heap.size+1+1,1,none⟩ (.slice o10 RR.1.2.length c10))∧PairS w.heap.size ((w10.setCell ⟨w.heap.size+1+1,0,none⟩ (.int .i64 RR.1.1)).setCell ⟨w.heap.size+1+1,1,none⟩ (.slice o10 RR.1.2.length c10)) (.slice o10 RR.1.2.length c10) RR.1.2) :=
   ⟨TR.out.put _ _,(B9.out.setCell (p:=⟨w.heap.size+1+1,0,none⟩) (by show w.heap.size≤w.heap.size+1+1;omega) _).setCell (p:=⟨w.heap.size+1+1,1,none⟩) (by show w.heap.size≤w.heap.size+1+1;omega) _,Sl.weak (Sl.far (Sl.far P10.out tr9 _) tr9 _) sz9⟩
  obtain ⟨⟨ri0,ri1,ri2⟩,rf0,rf1⟩:=TR.out;go_wp2
  have q0:=FI.out.1.c0;have q1:=FI.out.1.c1;generalize (w10.setCell ⟨w.heap.size+1+1,0,none⟩ (.int .i64 RR.1.1)).setCell ⟨w.heap.size+1+1,1,none⟩ (.slice o10 RR.1.2.length c10)=w13 at *;refine bodyPost_ret (v:=.tuple #[.agg #[.int .i64 RR.1.1,.slice o10 RR.1.2.length c10],.int .i64 RR.2]) (by simp [results,Tryz.results146,go_sem,q0,q1]) rfl ?_;rw [r.out];exact ⟨⟨_,rfl,FI.out.2.2⟩,FI.out.2.1⟩
 ·have ke:(E != 0)=true:=by rw [bne_iff_ne];exact e0
  have r:=zh (FA.out.1 e0);clear FA e0 s1 s2 RL
  go_enter Tryz.func146,Tryz.ntmps146
  go_wp2_with fail
  refine HC.out.mono ?_;rintro e w4 ⟨rfl,hb⟩;have B9:=zd A1 hb;replace TR:=zh (TR.out.keep hb);clear hb A1 HC a2 b2 TA TB t0 t1 tl u0 u1 ul;have FI:Hid (Two ((w4.setCell ⟨w.heap.size+1+1,0,none⟩ (.int .i64 0)).setCell ⟨w.heap.size+1+1,1,none⟩ (.slice none 0 0)) (w.heap.size+1+1) (.int .i64 0) (.slice none 0 0)∧Below w.heap.size w ((w4.setCell ⟨w.heap.size+1+1,0,none⟩ (.int .i64 0)).setCell ⟨w.heap.size+1+1,1,none⟩ (.slice none 0 0))∧PairS w.heap.size ((w4.setCell ⟨w.heap.size+1+1,0,none⟩ (.int .i64 0)).setCell ⟨w.heap.size+1+1,1,none⟩ (.slice none 0 0)) (.slice none 0 0) []) :=
   ⟨TR.out.put _ _,(B9.out.setCell (p:=⟨w.heap.size+1+1,0,none⟩) (by show w.heap.size≤w.heap.size+1+1;omega) _).setCell (p:=⟨w.heap.size+1+1,1,none⟩) (by show w.heap.size≤w.heap.size+1+1;omega) _,Sl.none _ _⟩
  obtain ⟨⟨ri0,ri1,ri2⟩,rf0,rf1⟩:=TR.out;go_wp2
  have q0:=FI.out.1.c0;have q1:=FI.out.1.c1;generalize (w4.setCell ⟨w.heap.size+1+1,0,none⟩ (.int .i64 0)).setCell ⟨w.heap.size+1+1,1,none⟩ (.slice none 0 0)=w13 at *;refine bodyPost_ret (v:=.tuple #[.agg #[.int .i64 0,.slice none 0 0],.int .i64 E]) (by simp [results,Tryz.results146,go_sem,q0,q1]) rfl ?_;rw [r.out];exact ⟨⟨_,rfl,FI.out.2.2⟩,FI.out.2.1⟩
theorem prs_lit1 (w:World) (a b:Int):PairS 0 (w.alloc (.cells #[.int .i64 a,.int .i64 b] 40)) (.slice (some ⟨w.heap.size,0,none⟩) 1 1) [(a,b)]:=by
 refine .inr ⟨w.heap.size,0,1,rfl,Nat.zero_le _,by simp,fun j u hj=>?_⟩;rw [World.cell?_alloc_new]
 simpa [pairs] using hj
theorem ca_add {f:Int→Bool} {a e u v:Int} (au:a≤u) (eu:e≤u) (uv:u<v) (no:∀ x,e≤x→x<u→f x=false) (yes:∀ x,u≤x→x<v→f x=true):caL f a v=addL (caL f a e) (u,v):=by
 obtain ⟨c,m,-,-⟩:=add_ok (s:=(u,v)) (ca_cn f a e) (fun q hq=>by have:=(ca_ends f a e q hq).2;show q.2≤u;omega) uv;refine (ca_eq c fun x=>?_).symm;rw [m,ca_in]
 show ((decide (a≤x)&&decide (x<e)&&f x) || (decide (u≤x)&&decide (x<v)))=_
 by_cases x0:x<e
 ·rw [zdt x0,zdf (show ¬ u≤x by omega),zdt (show x<v by omega),Bool.false_and,Bool.or_false]
 ·by_cases x1:x<u
  ·rw [no x (by omega) x1,Bool.and_false,Bool.and_false,zdf (show ¬ u≤x by omega)];rfl
  ·by_cases x2:x<v
   ·rw [yes x (by omega) x2,zdf x0,zdt x2,zdt (show u≤x by omega),zdt (show a≤x by omega)];rfl
   ·rw [zdf x0,zdf x2];simp
def eN (A:List Sp):Nat→Int
 | 0=>0
 | i+1=>(A.getD i (0,0)).2
structure Sps (P:Int) (A:List Sp) (at':Int):Prop where
 bd:∀ i,i<A.length→0≤eN A i∧eN A i≤(A.getD i (0,0)).1∧(A.getD i (0,0)).1<(A.getD i (0,0)).2∧(A.getD i (0,0)).2≤P
 no:∀ i,i<A.length→∀ x,at'+eN A i≤x→x<at'+(A.getD i (0,0)).1→hsP P A x=false
 yes:∀ i,i<A.length→∀ x,at'+(A.getD i (0,0)).1≤x→x<at'+(A.getD i (0,0)).2→hsP P A x=true
 last:∀ x,at'+eN A A.length≤x→x<at'+P→hsP P A x=false
 lp:0≤eN A A.length∧eN A A.length≤P
theorem sps {P:Int} {A:List Sp} (pv:PV P A) {at':Int} (d:P ∣ at'):Sps P A at':=by
 have P0:0<P:=by have:=pv.p0;omega
 have bd:∀ i,i<A.length→0≤(A.getD i (0,0)).1∧(A.getD i (0,0)).1<(A.getD i (0,0)).2∧(A.getD i (0,0)).2≤P:=fun i hi=>pe_at pv.cn pv.ip hi;have e0:∀ i,i≤A.length→0≤eN A i∧eN A i≤P:=fun i hi=>by
  cases i with
  | zero=>exact ⟨Int.le_refl _,by show (0:Int)≤P;omega⟩
  | succ i=>have:=bd i hi;exact ⟨by show 0≤(A.getD i (0,0)).2;omega,this.2.2⟩
 have up:∀ i,i<A.length→eN A i≤(A.getD i (0,0)).1:=fun i hi=>by
  cases i with
  | zero=>exact (bd 0 hi).1
  | succ i=>have:=cn_gt pv.cn (show i<i+1 by omega) (show i+1<A.length from hi);show (A.getD i (0,0)).2≤(A.getD (i+1) (0,0)).1;omega
 have mo:∀ i,i≤A.length→∀ j,j<i→(A.getD j (0,0)).2≤eN A i:=fun i hi j hj=>by
  cases i with
  | zero=>omega
  | succ i=>exact (cn_lo pv.cn (show j≤i by omega) hi).2
 have hh:∀ x,at'≤x→x<at'+P→hsP P A x=inB A (x - at'):=fun x x0 x1=>by
  obtain ⟨k,rfl⟩:=d
  show inB A (x % P)=_
  congr 1
  rw [show x=(x - P * k)+P * k by omega,Int.add_mul_emod_self_left,Int.emod_eq_of_lt (by omega) (by omega)];omega
 refine ⟨fun i hi=>⟨(e0 i (by omega)).1,up i hi,(bd i hi).2⟩,fun i hi x x0 x1=>?_,fun i hi x x0 x1=>?_,fun x x0 x1=>?_,e0 _ (Nat.le_refl _)⟩
 ·have b:=bd i hi;have e:=e0 i (by omega);rw [hh x (by omega) (by omega),scan_mid pv.cn hi (fun j hj=>by have:=mo i (by omega) j hj;omega) (by omega)];exact zdf (by omega)
 ·have b:=bd i hi;rw [hh x (by omega) (by omega)];exact inB_iff.2 ⟨_,getD_mem hi,by omega,by omega⟩
 ·have e:=e0 _ (Nat.le_refl A.length);rw [hh x (by omega) x1];exact scan_end fun j hj=>by have:=mo _ (Nat.le_refl _) j hj;omega
theorem sp_add {P:Int} {A:List Sp} {t:Int} (s:Sps P A t) (t0:0≤t) {i:Nat} (hi:i<A.length):caL (hsP P A) 0 (t+eN A (i+1))=addL (caL (hsP P A) 0 (t+eN A i)) ((A.getD i (0,0)).1+t,(A.getD i (0,0)).2+t):=by
 have b:=s.bd i hi;rw [Int.add_comm (A.getD i (0,0)).1,Int.add_comm (A.getD i (0,0)).2]
 show caL _ 0 (t+(A.getD i (0,0)).2)=_
 exact ca_add (by omega) (by omega) (by omega) (s.no i hi) (s.yes i hi)
theorem sp_last {P:Int} {A:List Sp} {t:Int} (s:Sps P A t):caL (hsP P A) 0 (t+eN A A.length)=caL (hsP P A) 0 (t+P) :=
 ca_skip (by have:=s.lp;omega) s.last
theorem dv_cases {e m:Int} (e0:0<e) (m0:0<m) (d:e ∣ m):e≤m:=Int.le_of_dvd m0 d
theorem lst2:Lst (hsP 2 [(0,1)]) 2 2:=⟨by omega,Int.dvd_refl 2,hs_per,fun e e0 dv per=>by
 have le:=dv_cases e0 (by omega) dv
 rcases (show e=1∨e=2 by omega) with rfl | rfl
 ·exact absurd (per 0) (by decide)
 ·omega⟩
theorem pv2:PV 2 [(0,1)]:=⟨by omega,by omega,by decide,fun q hq=>by rw [List.mem_singleton.1 hq];exact ⟨by decide,by decide⟩,lst2⟩
theorem le_mx {n:Nat} (h:n≤1000000):n≤maxLen:=by unfold maxLen;omega
theorem pf_pv {P:Int} {f:Int→Bool} (P0:0<P) (P1:P≤12622780800) (per:Per f P) (h:(pfR P f).2=0):PV (pfR P f).1.1 (pfR P f).1.2∧∀ x,hsP (pfR P f).1.1 (pfR P f).1.2 x=f x:=by
 unfold pfR at h ⊢
 by_cases b:2000<(fmP P f).2.length
 ·rw [if_pos b] at h;cases h
 ·rw [if_neg b];have l:=le_lst P0 per;have le:=Int.le_of_dvd P0 l.dvd;have b':(caL f 0 (leF P f)).length≤2000:=by show (fmP P f).2.length≤2000;omega
  have p0:=l.pos;exact ⟨⟨by show 1≤leF P f;omega,by show leF P f≤_;omega,ca_va (by omega) b',ca_inp _ _,fm_lst P0 per⟩,fm_hs P0 per⟩
theorem pr_er (P Q:Int) (n m:Nat):0≤(prR P Q n m).2∧(prR P Q n m).2≤9:=by
 unfold prR;split
 ·split <;> simp
 ·simp
theorem co_ok {k P:Int} {A:List Sp} {Q:Int} {B:List Sp} (k1:1≤k) (k3:k≤3) (h:(coR k P A Q B).2=0):PV P A∧PV Q B∧PV (coR k P A Q B).1.1 (coR k P A Q B).1.2∧∀ x,hsP (coR k P A Q B).1.1 (coR k P A Q B).1.2 x=kpB k (hsP P A x) (hsP Q B x):=by
 unfold coR at h ⊢
 by_cases v:(pvB P A&&pvB Q B)=true
 ·rw [if_pos v] at h ⊢;obtain ⟨a,b⟩:=Bool.and_eq_true_iff.1 v
  by_cases p:(prR P Q A.length B.length).2=0
  ·rw [if_pos p] at h ⊢;have c:=co_facts k1 k3 (pv_iff.1 a) (pv_iff.1 b) p;have per:Per (fun x=>kpB k (hsP P A x) (hsP Q B x)) (prR P Q A.length B.length).1:=fun x=>by
    show kpB k (hsP P A (x+_)) (hsP Q B (x+_))=_
    rw [c.pm,c.qm]
   exact ⟨pv_iff.1 a,pv_iff.1 b,pf_pv c.m0 c.m1 per h⟩
  ·rw [if_neg p] at h;exact absurd h p
 ·rw [if_neg v] at h;cases h
theorem nv_bd {x:Int} (h:nvB x=true):-4398046511104≤x∧x≤4398046511104:=by
 unfold nvB at h
 rwa [Bool.and_eq_true,decide_eq_true_iff,decide_eq_true_iff] at h
end Go.Proofs.YtmamlgaogpkagaaGreat
