/- PeKJ3 PeGH. -/
import Derived.Test.YtmamlgaogpkagaaGreatZLPlain
import Derived.Test.YtmamlgaogpkagaaGreatZLGen
import Derived.Test.YtmamlgaogpkagaaGreatZLSl
import Derived.Test.YtmamlgaogpkagaaGreatZLOwn
import Derived.Test.YtmamlgaogpkagaaGreatZRnP
import Derived.Test.YtmamlgaogpkagaaGreatZPeR
import Derived.Test.YtmamlgaogpkagaaGreatZRnT
import Derived.Test.YtmamlgaogpkagaaGreatZRnV
import Derived.Test.YtmamlgaogpkagaaGreatZRnKD
import Derived.Test.YtmamlgaogpkagaaGreatZPeKD
import Derived.Test.YtmamlgaogpkagaaGreatZPeKE
import Derived.Test.YtmamlgaogpkagaaGreatZPeKH
import Derived.Test.YtmamlgaogpkagaaGreatZPeKI
import Derived.Test.YtmamlgaogpkagaaGreatZPeKJ
import Derived.Deep.RegionHeld3
namespace Go.Proofs.YtmamlgaogpkagaaGreat
open Go.RowKit
set_option linter.unusedVariables false
set_option linter.unusedSimpArgs false
set_option maxRecDepth 100000 in
set_option maxHeartbeats 2000000 in
theorem upcombine3 (RL:Rule 3 149) (va vb:Value) (P Q:Int) (A B:List Sp) (hA:A.length≤maxLen) (hB:B.length≤maxLen) (hP:I64 P) (hQ:I64 Q) {ba bb:Nat} (w:World) (a:PairS ba w va A) (b:PairS bb w vb B) :
  Calls Tryz.prog 146 #[.agg #[.int .i64 P,va],.agg #[.int .i64 Q,vb],.func (.func 149) #[] #[]] w fun e w'=>(∃ v',e=.returned (.tuple #[.agg #[.int .i64 (coR 3 P A Q B).1.1,v'],.int .i64 (coR 3 P A Q B).2])∧PairS w.heap.size w' v' (coR 3 P A Q B).1.2)∧Below w.heap.size w w':=by
 have s1:=size_two w (.cells #[.int .i64 P,va] 24);have s2:=size_two (w.alloc (.cells #[.int .i64 P,va] 24)) (.cells #[.int .i64 Q,vb] 24);have A1:=zh (grow (grow (grow (here w) (.cells #[.int .i64 P,va] 24)) (.cells #[.int .i64 Q,vb] 24)) (.cells #[.int .i64 0,.slice none 0 0] 24));have TA:=zh (Two.fst3 (here (((w.alloc (.cells #[.int .i64 P,va] 24)).alloc (.cells #[.int .i64 Q,vb] 24)).alloc (.cells #[.int .i64 0,.slice none 0 0] 24))));have TB:=zh (Two.snd3 (here (((w.alloc (.cells #[.int .i64 P,va] 24)).alloc (.cells #[.int .i64 Q,vb] 24)).alloc (.cells #[.int .i64 0,.slice none 0 0] 24))));have TR:=Tuo.new ((w.alloc (.cells #[.int .i64 P,va] 24)).alloc (.cells #[.int .i64 Q,vb] 24)) (.int .i64 0) (.slice none 0 0) 24;rw [s2,s1] at TR;replace TR:=zh TR;have a2:=zh (a.keep A1.out);have b2:=zh (b.keep A1.out);have HC:=zh (upcommon va vb P Q A B hA hB hP hQ _ a2.out b2.out);have k1:(1:Int)≤3:=by omega
 have k3:(3:Int)≤3:=by omega
 have FA:∀ c:Int × Int,c=(if pvB P A&&pvB Q B then prR P Q A.length B.length else (0,1))→(c.2≠0→coR 3 P A Q B=((0,[]),c.2))∧(c.2=0→PV P A∧PV Q B∧CoF 3 P A Q B c.1∧coR 3 P A Q B=pfR c.1 (fun x=>kpB 3 (hsP P A x) (hsP Q B x))):=fun c hc=>by
  unfold coR
  cases q:(pvB P A&&pvB Q B)
  ·rw [q] at hc;rw [hc];exact ⟨fun _=>rfl,fun z=>by cases z⟩
  ·rw [q] at hc;rw [if_pos rfl] at hc;rw [if_pos rfl,hc];rw [Bool.and_eq_true] at q;refine ⟨fun z=>by rw [if_neg z],fun z=>⟨pv_iff.1 q.1,pv_iff.1 q.2,co_facts k1 k3 (pv_iff.1 q.1) (pv_iff.1 q.2) z,by rw [if_pos z]⟩⟩
 obtain ⟨c,hc⟩:∃ c,(if pvB P A&&pvB Q B then prR P Q A.length B.length else (0,1))=c:=⟨_,rfl⟩;replace FA:=zh (FA c hc.symm);rw [hc] at HC;clear hc a b;obtain ⟨M,E⟩:=c;replace HC:Hid (Calls Tryz.prog 173 #[.agg #[.int .i64 P,va],.agg #[.int .i64 Q,vb]] (((w.alloc (.cells #[.int .i64 P,va] 24)).alloc (.cells #[.int .i64 Q,vb] 24)).alloc (.cells #[.int .i64 0,.slice none 0 0] 24)) fun e w'=>e=.returned (.tuple #[.int .i64 M,.int .i64 E])∧Below (((w.alloc (.cells #[.int .i64 P,va] 24)).alloc (.cells #[.int .i64 Q,vb] 24)).alloc (.cells #[.int .i64 0,.slice none 0 0] 24)).heap.size (((w.alloc (.cells #[.int .i64 P,va] 24)).alloc (.cells #[.int .i64 Q,vb] 24)).alloc (.cells #[.int .i64 0,.slice none 0 0] 24)) w'):=HC;obtain ⟨t0,t1,tl⟩:=TA.out;obtain ⟨u0,u1,ul⟩:=TB.out
 by_cases e0:E=0
 ·subst e0;have FF:=FA.out.2 rfl;obtain ⟨pv,qv,CF,r⟩:=FF;replace r:=zh r;replace CF:=zh CF;replace r:Hid (coR 3 P A Q B=pfR M (fun x=>kpB 3 (hsP P A x) (hsP Q B x))):=r;replace CF:Hid (CoF 3 P A Q B M):=CF;have M0:=CF.out.m0;have M1:=CF.out.m1;clear FA s1 s2
  go_enter Tryz.func146,Tryz.ntmps146
  go_wp2_with fail
  refine HC.out.mono ?_;rintro e w4 ⟨rfl,hb⟩;have A4:=zd A1 hb;replace TA:=zh (TA.out.keep hb);replace TB:=zh (TB.out.keep hb);replace TR:=zh (TR.out.keep hb);replace a2:=zh (a2.out.keep hb);replace b2:=zh (b2.out.keep hb);clear hb A1 HC t0 t1 tl u0 u1 ul;obtain ⟨t0,t1,tl⟩:=TA.out;obtain ⟨u0,u1,ul⟩:=TB.out;go_wp2
  obtain ⟨w6,hw6⟩:∃ w6,w4.alloc (.cells #[.int .i64 0,.int .i64 M] 40)=w6:=⟨_,rfl⟩;rw [hw6];have A6:Hid (Below w.heap.size w w6):=by show Below _ _ _;rw [← hw6];exact grow A4.out _
  have hb:Below w4.heap.size w4 w6:=by rw [← hw6];exact grow (here w4) _
  have TI:Hid (Two w6 w4.heap.size (.int .i64 0) (.int .i64 M)):=by show Two _ _ _ _;rw [← hw6];exact Two.new (here _)
  replace TA:=zh (TA.out.keep hb);replace TB:=zh (TB.out.keep hb);replace TR:=zh (TR.out.keep hb);replace a2:=zh (a2.out.keep hb);replace b2:=zh (b2.out.keep hb);clear hb t0 t1 tl u0 u1 ul A4 hw6;obtain ⟨t0,t1,tl⟩:=TA.out;obtain ⟨u0,u1,ul⟩:=TB.out;obtain ⟨i0,i1,il⟩:=TI.out;have sm:spB (0,M)=true:=spB_iff.2 ⟨by show (-4398046511104:Int)≤0;omega,by show M≤4398046511104;omega,M0⟩;have ONE:∀ {f:Int→Bool} {R:List Sp},(caL f 0 M).length≤2000→LsD f 0 M R→R=caL f 0 M:=fun l h=>by
   rcases h with h | h
   ·exact h
   ·omega
  have LA:Hid (∀ W,Below w6.heap.size w6 W→Calls Tryz.prog 174 #[.agg #[.int .i64 P,va],.agg #[.int .i64 0,.int .i64 M]] W fun e w'=>(∃ v',e=.returned v'∧PairS W.heap.size w' v' (caL (hsP P A) 0 M))∧Below W.heap.size W w'):=fun W h=>(uplisted va P A pv 0 M sm W (a2.out.keep h)).mono (by rintro e w' ⟨⟨v',R,a,b,c,d⟩,hb⟩;exact ⟨⟨v',a,by rw [← ONE CF.out.la d];exact b⟩,hb⟩);have LB:Hid (∀ W,Below w6.heap.size w6 W→Calls Tryz.prog 174 #[.agg #[.int .i64 Q,vb],.agg #[.int .i64 0,.int .i64 M]] W fun e w'=>(∃ v',e=.returned v'∧PairS W.heap.size w' v' (caL (hsP Q B) 0 M))∧Below W.heap.size W w'):=fun W h=>(uplisted vb Q B qv 0 M sm W (b2.out.keep h)).mono (by rintro e w' ⟨⟨v',R,a,b,c,d⟩,hb⟩;exact ⟨⟨v',a,by rw [← ONE CF.out.lb d];exact b⟩,hb⟩);have RU:Hid (∀ W v1 v2,∀ {b1 b2:Nat},PairS b1 W v1 (caL (hsP P A) 0 M)→PairS b2 W v2 (caL (hsP Q B) 0 M)→Calls Tryz.prog 149 #[v1,v2] W fun e w'=>(∃ v',e=.returned (.tuple #[v',.int .i64 0])∧PairS W.heap.size w' v' (cbL 3 (caL (hsP P A) 0 M) (caL (hsP Q B) 0 M)))∧Below W.heap.size W w'):=fun W v1 v2 _ _ h1 h2=>by
   have q:=RL v1 v2 _ _ (by have:=CF.out.la;unfold maxLen;omega) (by have:=CF.out.lb;unfold maxLen;omega) W h1 h2;rw [CF.out.ru] at q;exact q.mono (by rintro e w' ⟨⟨v',a,b,c⟩,hb⟩;exact ⟨⟨v',a,b⟩,hb⟩)
  have HF:Hid (∀ W v1,∀ {b1:Nat},PairS b1 W v1 (cbL 3 (caL (hsP P A) 0 M) (caL (hsP Q B) 0 M))→Calls Tryz.prog 171 #[.int .i64 M,v1] W fun e w'=>(∃ v',e=.returned (.tuple #[.agg #[.int .i64 (pfR M (fun x=>kpB 3 (hsP P A x) (hsP Q B x))).1.1,v'],.int .i64 (pfR M (fun x=>kpB 3 (hsP P A x) (hsP Q B x))).2])∧PairS W.heap.size w' v' (pfR M (fun x=>kpB 3 (hsP P A x) (hsP Q B x))).1.2)∧Below W.heap.size W w'):=fun W v1 _ h=>upform v1 M _ _ CF.out.ci (by have:=CF.out.lc;omega) M1 W h;clear pv qv ONE sm RL CF a2 b2 hA hB;generalize pfR M (fun x=>kpB 3 (hsP P A x) (hsP Q B x))=RR at *;generalize cbL 3 (caL (hsP P A) 0 M) (caL (hsP Q B) 0 M)=LC at *;generalize caL (hsP P A) 0 M=CA at *;generalize caL (hsP Q B) 0 M=CB at *;have mk:∀ W',Below w6.heap.size w6 W'→Below w6.heap.size w6 W'∧W'.cell? ⟨w.heap.size,0,none⟩=some (.int .i64 P)∧W'.cell? ⟨w.heap.size,1,none⟩=some (va)∧W'.cell? ⟨w.heap.size+1,0,none⟩=some (.int .i64 Q)∧W'.cell? ⟨w.heap.size+1,1,none⟩=some (vb)∧W'.cell? ⟨w4.heap.size,0,none⟩=some (.int .i64 0)∧W'.cell? ⟨w4.heap.size,1,none⟩=some (.int .i64 M):=fun W' q=>⟨q,(TA.out.keep q).c0,(TA.out.keep q).c1,(TB.out.keep q).c0,(TB.out.keep q).c1,(TI.out.keep q).c0,(TI.out.keep q).c1⟩;have s6:=mk w6 (here w6);clear TI TB TA t0 t1 tl u0 u1 ul i0 i1 il
  go_region_held3 (fun W'=>Below w6.heap.size w6 W'∧W'.cell? ⟨w.heap.size,0,none⟩=some (.int .i64 P)∧W'.cell? ⟨w.heap.size,1,none⟩=some (va)∧W'.cell? ⟨w.heap.size+1,0,none⟩=some (.int .i64 Q)∧W'.cell? ⟨w.heap.size+1,1,none⟩=some (vb)∧W'.cell? ⟨w4.heap.size,0,none⟩=some (.int .i64 0)∧W'.cell? ⟨w4.heap.size,1,none⟩=some (.int .i64 M)) (first | assumption | (exact mk _ (grow (And.left (by assumption)) _)) | (exact mk _ (Below.drew (And.left (by assumption)))) | (exact mk _ (below_drewN (And.left (by assumption)) _)))
   (first
   | (go_at_call 174;(with_reducible refine (LA.out _ (And.left (by assumption))).mono ?_);rintro e w' ⟨⟨v7,rfl,P7⟩,hb⟩;obtain ⟨o7,c7,rfl⟩:=Sl.shape P7;have hS:=mk w' (down (And.left (by assumption)) hb))
   | (go_at_call 174;(with_reducible refine (LB.out _ (And.left (by assumption))).mono ?_);rintro e w' ⟨⟨v8,rfl,P8⟩,hb⟩;(replace P7:=PairS.keep P7 hb);obtain ⟨o8,c8,rfl⟩:=Sl.shape P8;have hS:=mk w' (down (And.left (by assumption)) hb))
   | (go_at_call 149;(with_reducible refine (RU.out _ _ _ P7 P8).mono ?_);rintro e w' ⟨⟨v9,rfl,P9⟩,hb⟩;obtain ⟨o9,c9,rfl⟩:=Sl.shape P9;have hS:=mk w' (down (And.left (by assumption)) hb)))
  have B7:=zh (down A6.out hS.1);have HM:=zh (HF.out _ _ P9);replace TR:=zh (TR.out.keep hS.1);have sz9:=B7.out.size;have tr9:=TR.out.t.lt;clear P7 P8 P9 LA LB RU HF mk hS s6 A6;go_wp2_with fail
  refine HM.out.mono ?_;rintro e w10 ⟨⟨v10,rfl,P10⟩,hb⟩;have B9:=zd B7 hb;replace TR:=zh (TR.out.keep hb);obtain ⟨o10,c10,rfl⟩:=Sl.shape P10;replace P10:=zh P10;clear HM hb B7;have FI:Hid (Two ((w10.setCell ⟨w.heap.size+1+1,0,none⟩ (.int .i64 RR.1.1)).setCell ⟨w.heap.size+1+1,1,none⟩ (.slice o10 RR.1.2.length c10)) (w.heap.size+1+1) (.int .i64 RR.1.1) (.slice o10 RR.1.2.length c10)∧Below w.heap.size w ((w10.setCell ⟨w.heap.size+1+1,0,none⟩ (.int .i64 RR.1.1)).setCell ⟨w.heap.size+1+1,1,none⟩ (.slice o10 RR.1.2.length c10))∧PairS w.heap.size ((w10.setCell ⟨w.heap.size+1+1,0,none⟩ (.int .i64 RR.1.1)).setCell ⟨w.heap.size+1+1,1,none⟩ (.slice o10 RR.1.2.length c10)) (.slice o10 RR.1.2.length c10) RR.1.2) :=
   ⟨TR.out.put _ _,(B9.out.setCell (p:=⟨w.heap.size+1+1,0,none⟩) (by show w.heap.size≤w.heap.size+1+1;omega) _).setCell (p:=⟨w.heap.size+1+1,1,none⟩) (by show w.heap.size≤w.heap.size+1+1;omega) _,Sl.weak (Sl.far (Sl.far P10.out tr9 _) tr9 _) sz9⟩
  obtain ⟨⟨ri0,ri1,ri2⟩,rf0,rf1⟩:=TR.out;go_wp2
  have q0:=FI.out.1.c0;have q1:=FI.out.1.c1;generalize (w10.setCell ⟨w.heap.size+1+1,0,none⟩ (.int .i64 RR.1.1)).setCell ⟨w.heap.size+1+1,1,none⟩ (.slice o10 RR.1.2.length c10)=w13 at *;refine bodyPost_ret (v:=.tuple #[.agg #[.int .i64 RR.1.1,.slice o10 RR.1.2.length c10],.int .i64 RR.2]) (by simp [results,Tryz.results146,go_sem,q0,q1]) rfl ?_;rw [r.out];exact ⟨⟨_,rfl,FI.out.2.2⟩,FI.out.2.1⟩
 ·have ke:(E != 0)=true:=by rw [bne_iff_ne];exact e0
  have r:=zh (FA.out.1 e0);clear FA e0 s1 s2 RL
  go_enter Tryz.func146,Tryz.ntmps146
  go_wp2_with fail
  refine HC.out.mono ?_;rintro e w4 ⟨rfl,hb⟩;have B9:=zd A1 hb;replace TR:=zh (TR.out.keep hb);clear hb A1 HC a2 b2 TA TB t0 t1 tl u0 u1 ul;have FI:Hid (Two ((w4.setCell ⟨w.heap.size+1+1,0,none⟩ (.int .i64 0)).setCell ⟨w.heap.size+1+1,1,none⟩ (.slice none 0 0)) (w.heap.size+1+1) (.int .i64 0) (.slice none 0 0)∧Below w.heap.size w ((w4.setCell ⟨w.heap.size+1+1,0,none⟩ (.int .i64 0)).setCell ⟨w.heap.size+1+1,1,none⟩ (.slice none 0 0))∧PairS w.heap.size ((w4.setCell ⟨w.heap.size+1+1,0,none⟩ (.int .i64 0)).setCell ⟨w.heap.size+1+1,1,none⟩ (.slice none 0 0)) (.slice none 0 0) []) :=
   ⟨TR.out.put _ _,(B9.out.setCell (p:=⟨w.heap.size+1+1,0,none⟩) (by show w.heap.size≤w.heap.size+1+1;omega) _).setCell (p:=⟨w.heap.size+1+1,1,none⟩) (by show w.heap.size≤w.heap.size+1+1;omega) _,Sl.none _ _⟩
  obtain ⟨⟨ri0,ri1,ri2⟩,rf0,rf1⟩:=TR.out;go_wp2
  have q0:=FI.out.1.c0;have q1:=FI.out.1.c1;generalize (w4.setCell ⟨w.heap.size+1+1,0,none⟩ (.int .i64 0)).setCell ⟨w.heap.size+1+1,1,none⟩ (.slice none 0 0)=w13 at *;refine bodyPost_ret (v:=.tuple #[.agg #[.int .i64 0,.slice none 0 0],.int .i64 E]) (by simp [results,Tryz.results146,go_sem,q0,q1]) rfl ?_;rw [r.out];exact ⟨⟨_,rfl,FI.out.2.2⟩,FI.out.2.1⟩
theorem sp_none {P m:Int}:caL (hsP P []) 0 m=[]:=(ca_eq (show Cn [] from trivial) fun x=>by rw [inB_nil];show _=(_&&inB [] _);rw [inB_nil,Bool.and_false]).symm
theorem sp_one {A:List Sp} {m:Int} (pv:PV 1 A) (ne:0<A.length) (m0:0<m):caL (hsP 1 A) 0 m=[(0,m)]:=by
 have all:∀ x,hsP 1 A x=true:=fun x=>by
  have s:=sps pv (at':=x) ⟨x,by omega⟩;have b:=s.bd 0 ne;have e:eN A 0=0:=rfl;exact s.yes 0 ne x (by omega) (by omega)
 rw [ca_add (Int.le_refl 0) (Int.le_refl 0) m0 (fun x x0 x1=>by omega) (fun x _ _=>all x),ca_none _ (Int.le_refl 0)];rfl
theorem sp_len {f:Int→Bool} {m e:Int} {l:Nat} (h:(caL f 0 m).length≤l) (em:e≤m):(caL f 0 e).length≤l:=Nat.le_trans (len_mono' f em) h
theorem dvd_room {P m t:Int} (d:P ∣ m) (e:P ∣ t) (lt:t<m):t+P≤m:=by
 obtain ⟨a,rfl⟩:=d;obtain ⟨b,rfl⟩:=e
 by_cases z:0≤P
 ·by_cases y:a≤b
  ·have:=Int.mul_le_mul_of_nonneg_left y z;omega
  ·have:=Int.mul_le_mul_of_nonneg_left (show b+1≤a by omega) z;rw [Int.mul_add,Int.mul_one] at this;exact this
 ·by_cases y:P * b+P≤P * a
  ·exact y
  ·exfalso;omega
set_option maxRecDepth 100000 in
set_option maxHeartbeats 2000000 in
theorem rpspread (va:Value) (P:Int) (A:List Sp) (pv:PV P A) (m:Int) (m0:0<m) (m1:m≤12622780800) (d:P ∣ m) (l:(caL (hsP P A) 0 m).length≤2000) {ba:Nat} (w:World) (a:PairS ba w va A) :
  Calls Tryz.prog 112 #[.agg #[.int .i64 P,va],.int .i64 m] w fun e w'=>(∃ v',e=.returned v'∧PairS 0 w' v' (caL (hsP P A) 0 m))∧Below w.heap.size w w':=by
 obtain ⟨i0,hi,hz0,hz1,hz2⟩:=info_parts infoS;have A1:=zh (grow (here w) (.cells #[.int .i64 P,va] 24));have TA:=zh (Two.new (t:=24) (x:=.int .i64 P) (y:=va) (here (w.alloc (.cells #[.int .i64 P,va] 24))));have a2:=zh (a.keep A1.out);obtain ⟨oa,ca,rfl⟩:=prs_shape a;obtain ⟨t0,t1,tl⟩:=TA.out;have p0:=pv.p0;have p1:=pv.p1;have alen:=pv.len;obtain ⟨n,hn⟩:∃ n,A.length=n:=⟨_,rfl⟩;rw [hn] at a2 alen TA t0 t1 tl A1 ⊢;clear a
 by_cases n0:n=0
 ·obtain rfl:A=[]:=List.length_eq_zero_iff.1 (by omega);obtain rfl:n=0:=n0;rw [sp_none];clear pv l hn alen
  go_enter Tryz.func112,Tryz.ntmps112
  go_wp2
  go_ret
  exact ⟨⟨_,rfl,Sl.none _ _⟩,A1.out⟩
 ·have k0:((n:Int)==0)=false:=by rw [beq_eq_false_iff_ne];omega
  by_cases q1:P=1
  ·subst q1;rw [sp_one pv (by omega) m0];clear pv l d n0 alen;have FI:=prs_lit1 (w.alloc (.cells #[.int .i64 1,.slice oa n ca] 24)) 0 m;rw [show (w.alloc (.cells #[.int .i64 1,.slice oa n ca] 24)).heap.size=w.heap.size+1 by simp] at FI;replace FI:=zh FI;have A2:=zh (grow A1.out (.cells #[.int .i64 0,.int .i64 m] 40))
   go_enter Tryz.func112,Tryz.ntmps112
   go_wp2
   go_ret
   exact ⟨⟨_,rfl,FI.out⟩,A2.out⟩
  ·have k1:(P==1)=false:=by rw [beq_eq_false_iff_ne];exact q1
   have pv:=zh pv;have d:=zh d;have l:=zh l
   go_enter Tryz.func112,Tryz.ntmps112
   go_wp2
   generalize (w.alloc (.cells #[.int .i64 P,.slice oa n ca] 24))=w1 at *;have TA1:=TA.out;have PA1:=a2.out;have L0:=zh (here w1);have I0:Hid (w1.ownsRow w1.heap.size 40 2 (.slice none 0 0) ([]:List Sp).length (pairs [])):=World.ownsRow_nil _ _ _ _;have S0:Hid (caL (hsP P A) 0 0=[]):=ca_none _ (Int.le_refl 0);clear TA1 PA1
   go_loopw [5,6] (fun v t wr=>∃ (at':Int) (v':Value) (RR:List Sp),v'=v∧0≤at'∧at'<m+P∧t=.int .i64 at'∧Hid (P ∣ at'∧at'≤m∧RR=caL (hsP P A) 0 at')∧Hid (wr.ownsRow w1.heap.size 40 2 v RR.length (pairs RR))∧Hid (Below w1.heap.size w1 wr)) (fun _ t _=>(m - intOf t).toNat)
   case atStart=>exact ⟨0,_,[],rfl,Int.le_refl _,by omega,rfl,⟨Int.dvd_zero P,by omega,S0.out.symm⟩,I0,L0⟩
   case round =>
    obtain ⟨t,v',RR,rfl,t0,t1,rfl,ST,O1,B1⟩:=hrel;clear I0 L0 S0;have TA2:=zh (TA.out.keep B1.out);obtain ⟨ta,tb,tl⟩:=TA2.out
    by_cases z:t<m
    ·have kz:=zdt z;have SS:=zh (sps pv.out ST.out.1);have tm:=dvd_room d.out ST.out.1 z;have I1:Hid (RR=caL (hsP P A) 0 (t+eN A 0)):=by show _=_;rw [show t+eN A 0=t by show t+0=t;omega];exact ST.out.2.2
     have B1':=B1;have O1':=O1;clear TA2 O1 B1;go_wp2
     go_loopw [5,7] (fun v i wr=>∃ (k:Nat) (v':Value) (RR:List Sp),v'=v∧k≤n∧RR.length≤2000∧i=.int .i64 k∧Hid (RR=caL (hsP P A) 0 (t+eN A k))∧Hid (wr.ownsRow w1.heap.size 40 2 v RR.length (pairs RR))∧Hid (Below w1.heap.size w1 wr)) (fun _ i _=>n - (intOf i).toNat)
     case atStart=>exact ⟨0,_,RR,rfl,Nat.zero_le _,by rw [ST.out.2.2];exact sp_len l.out (by omega),rfl,I1,O1',B1'⟩
     case round =>
      obtain ⟨i,v',R,rfl,hi',rl,rfl,SI,OI,BI⟩:=hrel;clear O1' B1' I1 ta tb tl;have TA3:=zh (TA.out.keep BI.out);have PA3:=zh (a2.out.keep BI.out);obtain ⟨ta,tb,tl⟩:=TA3.out
      by_cases y:i<n
      ·have ky:decide ((i:Int)<(n:Int))=true:=zdt (by omega);have bd:=SS.out.bd i (by omega);have e0:=SS.out.bd i (by omega);have SA:=sp_add SS.out t0 (show i<A.length by omega);obtain ⟨b,off,rfl,bl,cs⟩:=prs_here PA3.out (show i<A.length by omega);obtain ⟨c0,c1⟩:=cs i (by omega);rw [← SI.out] at SA;obtain ⟨i1,hi1⟩:∃ i1,i+1=i1:=⟨_,rfl⟩;have SL:(caL (hsP P A) 0 (t+eN A (i+1))).length≤2000:=sp_len l.out (by show t+(A.getD i (0,0)).2≤m;omega);rw [hi1] at SA SL;rw [SA] at SL;generalize A.getD i (0,0)=q at *;obtain ⟨qx,qy⟩:=q;replace c0:wr.cell? ⟨b,off+i * 2,none⟩=some (.int .i64 qx):=c0;replace c1:wr.cell? ⟨b,off+i * 2+1,none⟩=some (.int .i64 qy):=c1;have b0:0≤qx:=by have:=e0.1;have:=e0.2.1;show 0≤(qx,qy).1;omega
       have b1:qx<qy:=e0.2.2.1;have b2:qy≤P:=e0.2.2.2;obtain ⟨f,hf⟩:∃ f,qx+t=f:=⟨_,rfl⟩;obtain ⟨g,hg⟩:∃ g,qy+t=g:=⟨_,rfl⟩;replace SA:caL (hsP P A) 0 (t+eN A i1)=addL R (qx+t,qy+t):=SA;replace SL:(addL R (qx+t,qy+t)).length≤2000:=SL;rw [hf,hg] at SA SL;have STL:=SL;have STE:=zh SA.symm;replace STE:Hid (addL R (f,g)=caL (hsP P A) 0 (t+eN A i1)):=STE;have xb:-1<f∧f<25245561600∧-1<g∧g<25245561600:=by omega
       clear SA SL bd e0 cs TA3;go_wp2
       go_region
       refine at_world (G:=fun W'=>Exit.then _ _ Exit.normal _ W') (fun W'=>Below wr.heap.size wr W'∧Two W' wr.heap.size (.int .i64 f) (.int .i64 g)∧W'.ownsRow w1.heap.size 40 2 v' R.length (pairs R)) ⟨(grow (here wr) _).drew,Two.new (Below.drew (here _)),OI.out.alloc _⟩ ?_;rintro w5 ⟨W5,X5,O5⟩;have A5:=zd BI W5;obtain ⟨x0,x1,xl⟩:=X5;replace O5:=zh O5;have X5:=zh (show Two w5 wr.heap.size (.int .i64 f) (.int .i64 g) from ⟨x0,x1,xl⟩);clear W5 BI OI SI c0 c1 bl ta tb tl PA3
       rcases snoc_cases R with rfl | ⟨R',q,rfl⟩
       ·replace O5:Hid (w5.ownsRow w1.heap.size 40 2 v' 0 []):=O5;obtain ⟨ao,cp,rfl⟩:=(Sl.owns O5.out).shape;go_wp2
        go_quiet (fail)
        obtain ⟨w6,hw6⟩:∃ w6:World,w5.drewN nq=w6:=⟨_,rfl⟩;rw [hw6];have A6:=zh (show Below w1.heap.size w1 w6 by rw [← hw6];exact below_drewN A5.out _);clear x0 x1 xl;obtain ⟨x0,x1,xl⟩:Two w6 wr.heap.size (.int .i64 f) (.int .i64 g):=by rw [← hw6];exact Two.drewN X5.out _
        have O6:Hid (w6.ownsRow w1.heap.size 40 2 (.slice ao 0 cp) 0 []):=by show World.ownsRow _ _ _ _ _ _ _;rw [← hw6];exact O5.out
        clear hw6 O5 A5 X5;go_wp2_with (at_builtin;refine wpList_append_own _ rfl _ _ 22 rfl w1.heap.size 40 i0 (.agg #[.int .i64 0,.int .i64 0]) 2 16 Tryz.underlying22 hi hz0 hz1 hz2 rfl (by decide) (.slice ao 0 cp) 0 [] rfl (O6.out.alloc _) ⟨w6.heap.size,0,none⟩ 1 1 [.int .i64 f,.int .i64 g] rfl rfl (fun j u hj=>by rw [Addr.add_lit,Nat.zero_add,World.cell?_alloc_new];simpa using hj) (fun u hu=>by simp at hu;rcases hu with rfl | rfl <;> rfl) (by unfold maxLen;omega) (by omega) (by have:=A6.out.size;simp;omega) ?_)
        intro v7 w7 hown hgrow _;have A7:Hid (Below w1.heap.size w1 w7):=(A6.out.alloc A6.out.size _).grown hgrow (by have:=A6.out.size;simp;omega) (own_ge O6.out);have O7:Hid (w7.ownsRow w1.heap.size 40 2 v7 (addL [] (f,g)).length (pairs (addL [] (f,g)))):=by
         show World.ownsRow _ _ _ _ _ _ _;exact hown
        clear hown hgrow O6 A6;go_wp2
        go_roundw
        case rel=>exact ⟨i1,_,_,rfl,by omega,STL,by first | rfl | go_num,STE,O7,A7⟩
        case measure=>simp [intOf];omega
       ·have len:(R'++[q]).length=R'.length+1:=by simp
        obtain ⟨gb,cp,rfl⟩:∃ gb cp,v'=.slice (some ⟨gb,0,none⟩) (R'.length+1) cp:=by
         rcases O5.out.2 with ⟨-,h0⟩ | ⟨gb,cp,cur,e,-⟩
         ·simp at h0
         ·exact ⟨gb,cp,by rw [e];simp⟩
        rw [len] at O5 rl;have sn:=add_snoc R' q (f,g);obtain ⟨m0',hm0⟩:∃ m0,R'.length=m0:=⟨_,rfl⟩;have ps:=pairs_set R' q g;have CE:∀ w':World,w'.ownsRow w1.heap.size 40 2 (.slice (some ⟨gb,0,none⟩) (R'.length+1) cp) (R'.length+1) (pairs (R'++[q]))→w'.cell? ⟨gb,R'.length * 2+1,none⟩=some (.int .i64 q.2):=fun w' h=>by
         have:=(pairs_get (R'++[q]) R'.length (by simp)).2;rw [h.cellAt _ (by omega),Nat.mul_comm,this];simp
        rw [hm0] at O5 ps rl CE ⊢;replace CE:=zh CE;have c2:=CE.out w5 O5.out;have gl5:=O5.out.lt gb rfl;obtain ⟨KK,hKK⟩:∃ KK:Nat,m0'+1=KK:=⟨_,rfl⟩;rw [hKK] at O5 rl CE ⊢;have kz3:decide (0<(KK:Int))=true:=zdt (by omega);have kz4:decide (0<KK)=true:=zdt (by omega);have kk1:(KK:Int) - 1=m0':=by omega
        have km:((m0':Nat):Int)<(KK:Int):=by omega
        have f5:=O5.out.frozenAt (m0' * 2+1)
        by_cases zq:q.2=f
        ·have kq:(q.2==f)=true:=beq_iff_eq.2 zq;go_wp2
         go_quiet (fail)
         obtain ⟨w6,hw6⟩:∃ w6:World,w5.drewN nq=w6:=⟨_,rfl⟩;rw [hw6];have A6:=zh (show Below w1.heap.size w1 w6 by rw [← hw6];exact below_drewN A5.out _);clear x0 x1 xl;obtain ⟨x0,x1,xl⟩:Two w6 wr.heap.size (.int .i64 f) (.int .i64 g):=by rw [← hw6];exact Two.drewN X5.out _
         have O6:Hid (w6.ownsRow w1.heap.size 40 2 (.slice (some ⟨gb,0,none⟩) KK cp) KK (pairs (R'++[q]))):=by show World.ownsRow _ _ _ _ _ _ _;rw [← hw6];exact O5.out
         clear hw6 O5 A5 X5 c2 gl5 f5;have c2:=CE.out w6 O6.out;have gl:=O6.out.lt gb rfl;have f6:=O6.out.frozenAt (m0' * 2+1);have STO:=zh (World.ownsRow.stored O6.out (m0' * 2+1) (.int .i64 g));rw [ps] at STO;have O7:Hid ((w6.setCell ⟨gb,m0' * 2+1,none⟩ (.int .i64 g)).ownsRow w1.heap.size 40 2 (.slice (some ⟨gb,0,none⟩) KK cp) (addL (R'++[q]) (f,g)).length (pairs (addL (R'++[q]) (f,g)))):=by
          show World.ownsRow _ _ _ _ _ _ _;rw [add_snoc,if_pos zq,show (R'++[(q.1,g)]).length=KK by simp;omega];exact STO.out.1
         have A7:=zh (A6.out.setCell (p:=⟨gb,m0' * 2+1,none⟩) gl.1 (.int .i64 g));clear ps STO;go_wp2
         go_roundw
         case rel=>exact ⟨i1,_,_,rfl,by omega,STL,by first | rfl | go_num,STE,O7,A7⟩
         case measure=>simp [intOf];omega
        ·have kq:(q.2==f)=false:=by rw [beq_eq_false_iff_ne];exact zq
         go_wp2
         go_quiet (fail)
         obtain ⟨w6,hw6⟩:∃ w6:World,w5.drewN nq=w6:=⟨_,rfl⟩;rw [hw6];have A6:=zh (show Below w1.heap.size w1 w6 by rw [← hw6];exact below_drewN A5.out _);clear x0 x1 xl;obtain ⟨x0,x1,xl⟩:Two w6 wr.heap.size (.int .i64 f) (.int .i64 g):=by rw [← hw6];exact Two.drewN X5.out _
         have O6:Hid (w6.ownsRow w1.heap.size 40 2 (.slice (some ⟨gb,0,none⟩) KK cp) KK (pairs (R'++[q]))):=by show World.ownsRow _ _ _ _ _ _ _;rw [← hw6];exact O5.out
         clear hw6 O5 A5 X5 c2 gl5 f5 ps CE;go_wp2_with (at_builtin;refine wpList_append_own _ rfl _ _ 22 rfl w1.heap.size 40 i0 (.agg #[.int .i64 0,.int .i64 0]) 2 16 Tryz.underlying22 hi hz0 hz1 hz2 rfl (by decide) (.slice (some ⟨gb,0,none⟩) KK cp) KK (pairs (R'++[q])) rfl (O6.out.alloc _) ⟨w6.heap.size,0,none⟩ 1 1 [.int .i64 f,.int .i64 g] rfl rfl (fun j u hj=>by rw [Addr.add_lit,Nat.zero_add,World.cell?_alloc_new];simpa using hj) (fun u hu=>by simp at hu;rcases hu with rfl | rfl <;> rfl) (by unfold maxLen;omega) (by omega) (by have:=A6.out.size;simp;omega) ?_)
         intro v7 w7 hown hgrow _;have A7:Hid (Below w1.heap.size w1 w7):=(A6.out.alloc A6.out.size _).grown hgrow (by have:=A6.out.size;simp;omega) (own_ge O6.out);have O7:Hid (w7.ownsRow w1.heap.size 40 2 v7 (addL (R'++[q]) (f,g)).length (pairs (addL (R'++[q]) (f,g)))):=by
          show World.ownsRow _ _ _ _ _ _ _;rw [add_snoc,if_neg zq,pairs_append,show (R'++[q]++[(f,g)]).length=KK+1 by simp;omega];exact hown
         clear hown hgrow O6 A6;go_wp2
         go_roundw
         case rel=>exact ⟨i1,_,_,rfl,by omega,STL,by first | rfl | go_num,STE,O7,A7⟩
         case measure=>simp [intOf];omega
      ·have ky:decide ((i:Int)<(n:Int))=false:=zdf (by omega);obtain rfl:i=n:=by omega
       have ST2:Hid (P ∣ t+P∧t+P≤m∧R=caL (hsP P A) 0 (t+P)):=⟨by obtain ⟨j,hj⟩:=ST.out.1;exact ⟨j+1,by rw [hj,Int.mul_add,Int.mul_one]⟩,tm,by rw [← sp_last SS.out,hn];exact SI.out⟩;clear ST SI PA3 TA3;go_wp2
       go_roundw
       case rel=>exact ⟨t+P,_,R,rfl,by omega,by omega,by first | rfl | go_num,ST2,OI,BI⟩
       case measure=>simp [intOf];omega
    ·have kz:=zdf z;have e:t=m:=by have:=ST.out.2.1;omega
     have PF:Hid (PairS 0 wr v' (caL (hsP P A) 0 m)):=by show PairS _ _ _ _;rw [← e,← ST.out.2.2];exact Sl.owns (own_weak O1.out (Nat.zero_le _))
     have A9:=zh (down A1.out B1.out);clear ST O1 B1 TA2;go_wp2
     go_ret
     exact ⟨⟨_,rfl,PF.out⟩,A9.out⟩
end Go.Proofs.YtmamlgaogpkagaaGreat
