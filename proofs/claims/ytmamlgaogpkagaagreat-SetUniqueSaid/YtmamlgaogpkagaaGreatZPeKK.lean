/- PeKK TsM TsN TsO. -/
import Derived.Test.YtmamlgaogpkagaaGreatZLPlain
import Derived.Test.YtmamlgaogpkagaaGreatZLGen
import Derived.Test.YtmamlgaogpkagaaGreatZLSl
import Derived.Test.YtmamlgaogpkagaaGreatZLOwn
import Derived.Test.YtmamlgaogpkagaaGreatZRnP
import Derived.Test.YtmamlgaogpkagaaGreatZPeKE
import Derived.Test.YtmamlgaogpkagaaGreatZPeKI
import Derived.Test.YtmamlgaogpkagaaGreatZRnKH
import Derived.Test.YtmamlgaogpkagaaGreatZPeKJ
import Derived.Test.YtmamlgaogpkagaaGreatZPeKJ3
namespace Go.Proofs.YtmamlgaogpkagaaGreat
open Go.RowKit
set_option linter.unusedVariables false
set_option linter.unusedSimpArgs false
theorem rule1:Rule 1 147:=fun va vb A B hA hB _ _ w a b=>ruunion va vb A B hA hB w a b
set_option maxRecDepth 100000 in
set_option maxHeartbeats 2000000 in
theorem upunion (va vb:Value) (P Q:Int) (A B:List Sp) (hA:A.length≤maxLen) (hB:B.length≤maxLen) (hP:I64 P) (hQ:I64 Q) {ba bb:Nat} (w:World) (a:PairS ba w va A) (b:PairS bb w vb B) :
  Calls Tryz.prog 99 #[.agg #[.int .i64 P,va],.agg #[.int .i64 Q,vb]] w fun e w'=>(∃ v',e=.returned (.tuple #[.agg #[.int .i64 (coR 1 P A Q B).1.1,v'],.int .i64 (coR 1 P A Q B).2])∧PairS w.heap.size w' v' (coR 1 P A Q B).1.2)∧Below w.heap.size w w':=by
 have s1:=size_two w (.cells #[.int .i64 P,va] 24);have s2:=size_two (w.alloc (.cells #[.int .i64 P,va] 24)) (.cells #[.int .i64 Q,vb] 24);have A1:=zh (grow (grow (grow (here w) (.cells #[.int .i64 P,va] 24)) (.cells #[.int .i64 Q,vb] 24)) (.cells #[.int .i64 0,.slice none 0 0] 24));have TA:=zh (Two.fst3 (here (((w.alloc (.cells #[.int .i64 P,va] 24)).alloc (.cells #[.int .i64 Q,vb] 24)).alloc (.cells #[.int .i64 0,.slice none 0 0] 24))));have TB:=zh (Two.snd3 (here (((w.alloc (.cells #[.int .i64 P,va] 24)).alloc (.cells #[.int .i64 Q,vb] 24)).alloc (.cells #[.int .i64 0,.slice none 0 0] 24))));have TR:=Tuo.new ((w.alloc (.cells #[.int .i64 P,va] 24)).alloc (.cells #[.int .i64 Q,vb] 24)) (.int .i64 0) (.slice none 0 0) 24;rw [s2,s1] at TR;replace TR:=zh TR;have HC:=zh (upcombine1 rule1 va vb P Q A B hA hB hP hQ _ (a.keep A1.out) (b.keep A1.out));generalize coR 1 P A Q B=RR at *;clear a b hA hB s1 s2;obtain ⟨t0,t1,tl⟩:=TA.out;obtain ⟨u0,u1,ul⟩:=TB.out
 go_enter Tryz.func99,Tryz.ntmps99
 go_wp2_with fail
 refine HC.out.mono ?_;rintro e w10 ⟨⟨v10,rfl,P10⟩,hb⟩;have B9:=zd A1 hb;replace TR:=zh (TR.out.keep hb);have sz9:=A1.out.size;have tr9:w.heap.size+1+1<(((w.alloc (.cells #[.int .i64 P,va] 24)).alloc (.cells #[.int .i64 Q,vb] 24)).alloc (.cells #[.int .i64 0,.slice none 0 0] 24)).heap.size:=by simp
 obtain ⟨o10,c10,rfl⟩:=Sl.shape P10;replace P10:=zh P10;clear HC hb A1 TA TB t0 t1 tl u0 u1 ul;have FI:Hid (Two ((w10.setCell ⟨w.heap.size+1+1,0,none⟩ (.int .i64 RR.1.1)).setCell ⟨w.heap.size+1+1,1,none⟩ (.slice o10 RR.1.2.length c10)) (w.heap.size+1+1) (.int .i64 RR.1.1) (.slice o10 RR.1.2.length c10)∧Below w.heap.size w ((w10.setCell ⟨w.heap.size+1+1,0,none⟩ (.int .i64 RR.1.1)).setCell ⟨w.heap.size+1+1,1,none⟩ (.slice o10 RR.1.2.length c10))∧PairS w.heap.size ((w10.setCell ⟨w.heap.size+1+1,0,none⟩ (.int .i64 RR.1.1)).setCell ⟨w.heap.size+1+1,1,none⟩ (.slice o10 RR.1.2.length c10)) (.slice o10 RR.1.2.length c10) RR.1.2) :=
  ⟨TR.out.put _ _,(B9.out.setCell (p:=⟨w.heap.size+1+1,0,none⟩) (by show w.heap.size≤w.heap.size+1+1;omega) _).setCell (p:=⟨w.heap.size+1+1,1,none⟩) (by show w.heap.size≤w.heap.size+1+1;omega) _,Sl.weak (Sl.far (Sl.far P10.out tr9 _) tr9 _) sz9⟩
 obtain ⟨⟨ri0,ri1,ri2⟩,rf0,rf1⟩:=TR.out;go_wp2
 have q0:=FI.out.1.c0;have q1:=FI.out.1.c1;generalize (w10.setCell ⟨w.heap.size+1+1,0,none⟩ (.int .i64 RR.1.1)).setCell ⟨w.heap.size+1+1,1,none⟩ (.slice o10 RR.1.2.length c10)=w13 at *;refine bodyPost_ret (v:=.tuple #[.agg #[.int .i64 RR.1.1,.slice o10 RR.1.2.length c10],.int .i64 RR.2]) (by simp [results,Tryz.results99,go_sem,q0,q1]) rfl ?_;exact ⟨⟨_,rfl,FI.out.2.2⟩,FI.out.2.1⟩
theorem rule3:Rule 3 149:=fun va vb A B hA hB _ _ w a b=>ruminus va vb A B hA hB w a b
set_option maxRecDepth 100000 in
set_option maxHeartbeats 2000000 in
theorem upminus (va vb:Value) (P Q:Int) (A B:List Sp) (hA:A.length≤maxLen) (hB:B.length≤maxLen) (hP:I64 P) (hQ:I64 Q) {ba bb:Nat} (w:World) (a:PairS ba w va A) (b:PairS bb w vb B) :
  Calls Tryz.prog 103 #[.agg #[.int .i64 P,va],.agg #[.int .i64 Q,vb]] w fun e w'=>(∃ v',e=.returned (.tuple #[.agg #[.int .i64 (coR 3 P A Q B).1.1,v'],.int .i64 (coR 3 P A Q B).2])∧PairS w.heap.size w' v' (coR 3 P A Q B).1.2)∧Below w.heap.size w w':=by
 have s1:=size_two w (.cells #[.int .i64 P,va] 24);have s2:=size_two (w.alloc (.cells #[.int .i64 P,va] 24)) (.cells #[.int .i64 Q,vb] 24);have A1:=zh (grow (grow (grow (here w) (.cells #[.int .i64 P,va] 24)) (.cells #[.int .i64 Q,vb] 24)) (.cells #[.int .i64 0,.slice none 0 0] 24));have TA:=zh (Two.fst3 (here (((w.alloc (.cells #[.int .i64 P,va] 24)).alloc (.cells #[.int .i64 Q,vb] 24)).alloc (.cells #[.int .i64 0,.slice none 0 0] 24))));have TB:=zh (Two.snd3 (here (((w.alloc (.cells #[.int .i64 P,va] 24)).alloc (.cells #[.int .i64 Q,vb] 24)).alloc (.cells #[.int .i64 0,.slice none 0 0] 24))));have TR:=Tuo.new ((w.alloc (.cells #[.int .i64 P,va] 24)).alloc (.cells #[.int .i64 Q,vb] 24)) (.int .i64 0) (.slice none 0 0) 24;rw [s2,s1] at TR;replace TR:=zh TR;have HC:=zh (upcombine3 rule3 va vb P Q A B hA hB hP hQ _ (a.keep A1.out) (b.keep A1.out));generalize coR 3 P A Q B=RR at *;clear a b hA hB s1 s2;obtain ⟨t0,t1,tl⟩:=TA.out;obtain ⟨u0,u1,ul⟩:=TB.out
 go_enter Tryz.func103,Tryz.ntmps103
 go_wp2_with fail
 refine HC.out.mono ?_;rintro e w10 ⟨⟨v10,rfl,P10⟩,hb⟩;have B9:=zd A1 hb;replace TR:=zh (TR.out.keep hb);have sz9:=A1.out.size;have tr9:w.heap.size+1+1<(((w.alloc (.cells #[.int .i64 P,va] 24)).alloc (.cells #[.int .i64 Q,vb] 24)).alloc (.cells #[.int .i64 0,.slice none 0 0] 24)).heap.size:=by simp
 obtain ⟨o10,c10,rfl⟩:=Sl.shape P10;replace P10:=zh P10;clear HC hb A1 TA TB t0 t1 tl u0 u1 ul;have FI:Hid (Two ((w10.setCell ⟨w.heap.size+1+1,0,none⟩ (.int .i64 RR.1.1)).setCell ⟨w.heap.size+1+1,1,none⟩ (.slice o10 RR.1.2.length c10)) (w.heap.size+1+1) (.int .i64 RR.1.1) (.slice o10 RR.1.2.length c10)∧Below w.heap.size w ((w10.setCell ⟨w.heap.size+1+1,0,none⟩ (.int .i64 RR.1.1)).setCell ⟨w.heap.size+1+1,1,none⟩ (.slice o10 RR.1.2.length c10))∧PairS w.heap.size ((w10.setCell ⟨w.heap.size+1+1,0,none⟩ (.int .i64 RR.1.1)).setCell ⟨w.heap.size+1+1,1,none⟩ (.slice o10 RR.1.2.length c10)) (.slice o10 RR.1.2.length c10) RR.1.2) :=
  ⟨TR.out.put _ _,(B9.out.setCell (p:=⟨w.heap.size+1+1,0,none⟩) (by show w.heap.size≤w.heap.size+1+1;omega) _).setCell (p:=⟨w.heap.size+1+1,1,none⟩) (by show w.heap.size≤w.heap.size+1+1;omega) _,Sl.weak (Sl.far (Sl.far P10.out tr9 _) tr9 _) sz9⟩
 obtain ⟨⟨ri0,ri1,ri2⟩,rf0,rf1⟩:=TR.out;go_wp2
 have q0:=FI.out.1.c0;have q1:=FI.out.1.c1;generalize (w10.setCell ⟨w.heap.size+1+1,0,none⟩ (.int .i64 RR.1.1)).setCell ⟨w.heap.size+1+1,1,none⟩ (.slice o10 RR.1.2.length c10)=w13 at *;refine bodyPost_ret (v:=.tuple #[.agg #[.int .i64 RR.1.1,.slice o10 RR.1.2.length c10],.int .i64 RR.2]) (by simp [results,Tryz.results103,go_sem,q0,q1]) rfl ?_;exact ⟨⟨_,rfl,FI.out.2.2⟩,FI.out.2.1⟩
set_option maxRecDepth 100000 in
set_option maxHeartbeats 2000000 in
theorem upwithin (va vb:Value) (P Q:Int) (A B:List Sp) (hA:A.length≤maxLen) (hB:B.length≤maxLen) (hP:I64 P) (hQ:I64 Q) {ba bb:Nat} (w:World) (a:PairS ba w va A) (b:PairS bb w vb B) :
  Calls Tryz.prog 115 #[.agg #[.int .i64 P,va],.agg #[.int .i64 Q,vb]] w fun e w'=>e=.returned (.tuple #[.bool (decide ((coR 3 P A Q B).2=0)&&decide ((coR 3 P A Q B).1.2.length=0)),.int .i64 (coR 3 P A Q B).2])∧Below w.heap.size w w':=by
 have s1:=size_two w (.cells #[.int .i64 P,va] 24);have A1:=zh (grow (grow (here w) (.cells #[.int .i64 P,va] 24)) (.cells #[.int .i64 Q,vb] 24));have TA:=zh (Two.fst (here ((w.alloc (.cells #[.int .i64 P,va] 24)).alloc (.cells #[.int .i64 Q,vb] 24))));have TB:=zh (Two.snd (here ((w.alloc (.cells #[.int .i64 P,va] 24)).alloc (.cells #[.int .i64 Q,vb] 24))));have HC:=zh (upminus va vb P Q A B hA hB hP hQ _ (a.keep A1.out) (b.keep A1.out));generalize coR 3 P A Q B=RR at *;clear a b hA hB s1;obtain ⟨⟨D,R⟩,E⟩:=RR;obtain ⟨bv,hbv⟩:∃ bv,(decide (E=0)&&decide (R.length=0))=bv:=⟨_,rfl⟩
 show Calls _ _ _ _ fun e w'=>e=.returned (.tuple #[.bool (decide (E=0)&&decide (R.length=0)),.int .i64 E])∧_
 rw [hbv];replace hbv:=zh hbv;obtain ⟨t0,t1,tl⟩:=TA.out;obtain ⟨u0,u1,ul⟩:=TB.out
 go_enter Tryz.func115,Tryz.ntmps115
 go_wp2_with fail
 refine HC.out.mono ?_;rintro e w10 ⟨⟨v10,rfl,P10⟩,hb⟩;have B9:=zd A1 hb;obtain ⟨o10,c10,rfl⟩:=Sl.shape P10;clear HC hb A1 TA TB t0 t1 tl u0 u1 ul P10;replace hbv:(decide (E=0)&&decide (R.length=0))=bv:=hbv.out;obtain ⟨n,hn⟩:∃ n,R.length=n:=⟨_,rfl⟩;have en:((D,R),E).1.2.length=n:=hn;rw [en];rw [hn] at hbv;obtain ⟨r0,r1,rl⟩:=Two.new (here (w10.alloc (.cells #[.int .i64 D,.slice o10 n c10] 24)));have B10:=zh (grow B9.out (.cells #[.int .i64 D,.slice o10 n c10] 24));clear en hn
 cases ke:(E==0)
 ·have e1:decide (E=0)=false:=zdf (by rw [beq_eq_false_iff_ne] at ke;exact ke);rw [e1,Bool.false_and] at hbv;subst hbv;clear e1;go_wp2
  go_ret2
  exact ⟨rfl,B10.out⟩
 ·have e1:decide (E=0)=true:=zdt (by rwa [beq_iff_eq] at ke);rw [e1,Bool.true_and] at hbv;have e2:((n:Int)==0)=bv:=by rw [← hbv,Bool.eq_iff_iff,beq_iff_eq,decide_eq_true_iff];omega
  clear e1 hbv;go_wp2
  go_ret2
  exact ⟨rfl,B10.out⟩
structure TS where
 P:Int
 A:List Sp
 Q:Int
 B:List Sp
 a:Int
 b:Int
 L:List Sp
def tsZ:TS:=⟨0,[],0,[],0,0,[]⟩
def pcS (g m h:Int→Bool) (lo hi x:Int):Bool:=if x<lo then g x else if x<hi then m x else h x
def hsT (s:TS):Int→Bool:=pcS (hsP s.P s.A) (inB s.L) (hsP s.Q s.B) s.a s.b
structure EdB (f g:Int→Bool) (b:Int):Prop where
 on:∀ x,b≤x→f x=g x
 no:f (b - 1)≠g (b - 1)
structure EdA (f g:Int→Bool) (a:Int):Prop where
 on:∀ x,x<a→f x=g x
 no:f a≠g a
theorem EdB.unique {f g:Int→Bool} {b c:Int} (h:EdB f g b) (k:EdB f g c):b=c:=by
 rcases Int.lt_trichotomy b c with z | z | z
 ·exact absurd (h.on (c - 1) (by omega)) k.no
 ·exact z
 ·exact absurd (k.on (b - 1) (by omega)) h.no
theorem EdA.unique {f g:Int→Bool} {b c:Int} (h:EdA f g b) (k:EdA f g c):b=c:=by
 rcases Int.lt_trichotomy b c with z | z | z
 ·exact absurd (k.on b z) h.no
 ·exact z
 ·exact absurd (h.on c z) k.no
theorem edB_go {f g:Int→Bool} {x:Int} (no:f x≠g x):∀ (n:Nat) (hi:Int),hi≤x+n→(∀ y,hi≤y→f y=g y)→∃ b,EdB f g b
  | 0,hi,h,on=>absurd (on x (by omega)) no
  | n+1,hi,h,on=>by
    by_cases e:f (hi - 1)=g (hi - 1)
    · refine edB_go no n (hi - 1) (by omega) fun y hy=>?_
      by_cases z:hi≤y
      · exact on y z
      · rw [show y=hi - 1 by omega];exact e
    · exact ⟨hi,on,e⟩
theorem edB_ex {f g:Int→Bool} {hi x:Int} (on:∀ y,hi≤y→f y=g y) (no:f x≠g x):∃ b,EdB f g b:=edB_go no (hi - x).toNat hi (by omega) on
theorem edA_go {f g:Int→Bool} {x:Int} (no:f x≠g x):∀ (n:Nat) (lo:Int),x≤lo+n→(∀ y,y<lo→f y=g y)→∃ a,EdA f g a
  | 0,lo,h,on=>by
    by_cases e:x<lo
    · exact absurd (on x e) no
    · exact ⟨x,fun y hy=>on y (by omega),no⟩
  | n+1,lo,h,on=>by
    by_cases e:f lo=g lo
    · refine edA_go no n (lo+1) (by omega) fun y hy=>?_
      by_cases z:y<lo
      · exact on y z
      · rw [show y=lo by omega];exact e
    · exact ⟨lo,on,e⟩
theorem edA_ex {f g:Int→Bool} {lo x:Int} (on:∀ y,y<lo→f y=g y) (no:f x≠g x):∃ a,EdA f g a:=edA_go no (x - lo).toNat lo (by omega) on
open Classical in
noncomputable def edB (f g:Int→Bool):Int:=if h:∃ b,EdB f g b then h.choose else 0
open Classical in
noncomputable def edA (f g:Int→Bool):Int:=if h:∃ a,EdA f g a then h.choose else 0
theorem edB_eq {f g:Int→Bool} {b:Int} (h:EdB f g b):edB f g=b:=by
 have e:∃ b,EdB f g b:=⟨b,h⟩
 unfold edB
 rw [dif_pos e];exact e.choose_spec.unique h
theorem edA_eq {f g:Int→Bool} {b:Int} (h:EdA f g b):edA f g=b:=by
 have e:∃ b,EdA f g b:=⟨b,h⟩
 unfold edA
 rw [dif_pos e];exact e.choose_spec.unique h
def pqE (P:Int) (A:List Sp) (Q:Int) (B:List Sp):Int:=if P=Q∧A=B then 0 else (prR P Q A.length B.length).2
theorem pqE_er (P:Int) (A:List Sp) (Q:Int) (B:List Sp):0≤pqE P A Q B∧pqE P A Q B≤9:=by
 unfold pqE;split
 ·exact ⟨by decide,by decide⟩
 ·exact pr_er _ _ _ _
noncomputable def loT (f g h:Int→Bool):Int:=if edA f g≤edB f h then edA f g else edB f h
open Classical in
noncomputable def frT (P:Int) (A:List Sp) (Q:Int) (B:List Sp) (f:Int→Bool):TS × Int :=
 if pqE P A Q B≠0 then (tsZ,pqE P A Q B)
 else if P=Q∧A=B∧f=hsP P A then (⟨P,A,Q,B,0,0,[]⟩,0)
 else if nvB (loT f (hsP P A) (hsP Q B))&&nvB (edB f (hsP Q B)) then (⟨P,A,Q,B,loT f (hsP P A) (hsP Q B),edB f (hsP Q B),caL f (loT f (hsP P A) (hsP Q B)) (edB f (hsP Q B))⟩,0)
 else (tsZ,9)
structure Mid (f g h:Int→Bool) (lo hi:Int):Prop where
 low:∀ x,x<lo→f x=g x
 high:∀ x,hi≤x→f x=h x
theorem pc_mid (g m h:Int→Bool) {lo hi:Int} (le:lo≤hi):Mid (pcS g m h lo hi) g h lo hi :=
 ⟨fun x hx=>if_pos hx,fun x hx=>by unfold pcS;rw [if_neg (by omega),if_neg (by omega)]⟩
theorem pv_ext {P Q:Int} {A B:List Sp} (p:PV P A) (q:PV Q B) (h:hsP P A=hsP Q B):P=Q∧A=B:=by
 have p0:=p.p0;have q0:=q.p0;have a:=p.fm;have b:=q.fm;have pq:Per (hsP P A) Q:=by rw [h];exact hs_per
 rw [← h,fm_any (n:=P) (by omega) (by omega) pq hs_per,a] at b
 injection b with b1 b2
 exact ⟨b1,b2⟩
theorem per_far {g h:Int→Bool} {m:Int} (m0:0<m) (pg:Per g m) (ph:Per h m) {x:Int} (no:g x≠h x) (lo hi:Int):(∃ y,y<lo∧g y≠h y)∧∃ y,hi≤y∧g y≠h y:=by
 have sh:∀ k:Int,g (x+m * k)≠h (x+m * k):=fun k=>by rw [pg.mul k x,ph.mul k x];exact no
 constructor
 ·refine ⟨x+m * (-(x - lo).natAbs - 1),?_,sh _⟩;have a:m * ((x - lo).natAbs+1)≥1 * ((x - lo).natAbs+1):=Int.mul_le_mul_of_nonneg_right (by omega) (by omega);rw [show -((x - lo).natAbs:Int) - 1=-(((x - lo).natAbs:Int)+1) by omega,Int.mul_neg];omega
 ·refine ⟨x+m * ((x - hi).natAbs+1),?_,sh _⟩;have a:m * ((x - hi).natAbs+1)≥1 * ((x - hi).natAbs+1):=Int.mul_le_mul_of_nonneg_right (by omega) (by omega);omega
theorem ends_ex {P Q:Int} {A B:List Sp} (p:PV P A) (q:PV Q B) {f:Int→Bool} {lo hi:Int} (m:Mid f (hsP P A) (hsP Q B) lo hi) (no:¬ (P=Q∧A=B∧f=hsP P A)):(∃ a,EdA f (hsP P A) a)∧∃ b,EdB f (hsP Q B) b:=by
 have p0:=p.p0;have q0:=q.p0
 by_cases e:P=Q∧A=B
 ·obtain ⟨rfl,rfl⟩:=e;have d:∃ x,f x≠hsP P A x:=by
   refine Classical.byContradiction fun c=>no ⟨rfl,rfl,funext fun x=>Classical.byContradiction fun h=>c ⟨x,h⟩⟩
  obtain ⟨x,hx⟩:=d;exact ⟨edA_ex m.low hx,edB_ex m.high hx⟩
 ·have d:∃ x,hsP P A x≠hsP Q B x:=by
   refine Classical.byContradiction fun c=>e (pv_ext p q (funext fun x=>Classical.byContradiction fun h=>c ⟨x,h⟩))
  obtain ⟨x,hx⟩:=d;have pm:Per (hsP P A) (P * Q):=(hs_per (P:=P) (L:=A)).mul Q;have qm:Per (hsP Q B) (P * Q):=by have:=(hs_per (P:=Q) (L:=B)).mul P;rwa [Int.mul_comm] at this
  obtain ⟨⟨y,y0,y1⟩,⟨z,z0,z1⟩⟩:=per_far (Int.mul_pos (show 0<P by omega) (show 0<Q by omega)) pm qm hx lo hi;exact ⟨edA_ex (x:=z) m.low (by rw [m.high z z0];exact fun h=>z1 h.symm),edB_ex (x:=y) m.high (by rw [m.low y y0];exact y1)⟩
theorem lo_le (f g h:Int→Bool):loT f g h≤edB f h:=by
 unfold loT;split
 ·assumption
 ·exact Int.le_refl _
theorem fr_has {P Q:Int} {A B:List Sp} (p:PV P A) (q:PV Q B) {f:Int→Bool} {lo hi:Int} (m:Mid f (hsP P A) (hsP Q B) lo hi) (h:(frT P A Q B f).2=0):hsT (frT P A Q B f).1=f:=by
 unfold frT at h ⊢
 by_cases e:pqE P A Q B=0
 rotate_left
 ·rw [if_pos e] at h;exact absurd h e
 rw [if_neg (by rw [e];exact fun c=>c rfl)] at h ⊢
 by_cases c:P=Q∧A=B∧f=hsP P A
 ·rw [if_pos c];obtain ⟨rfl,rfl,rfl⟩:=c;exact funext fun x=>by
   show (if x<0 then hsP P A x else if x<0 then inB [] x else hsP P A x)=hsP P A x
   split <;> simp_all
 ·rw [if_neg c] at h ⊢
  by_cases n:(nvB (loT f (hsP P A) (hsP Q B))&&nvB (edB f (hsP Q B)))=true
  rotate_left
  ·rw [if_neg n] at h;cases h
  rw [if_pos n];obtain ⟨⟨a,ha⟩,b,hb⟩:=ends_ex p q m c
  funext x
  show (if x<loT f (hsP P A) (hsP Q B) then hsP P A x else if x<edB f (hsP Q B) then inB (caL f (loT f (hsP P A) (hsP Q B)) (edB f (hsP Q B))) x else hsP Q B x)=f x
  have la:loT f (hsP P A) (hsP Q B)≤a:=by unfold loT;rw [edA_eq ha];split <;> omega
  by_cases z:x<loT f (hsP P A) (hsP Q B)
  ·rw [if_pos z];exact (ha.on x (by omega)).symm
  ·rw [if_neg z]
   by_cases y:x<edB f (hsP Q B)
   ·rw [if_pos y,ca_in,zdt (show loT f (hsP P A) (hsP Q B)≤x by omega),zdt y];rfl
   ·rw [if_neg y];rw [edB_eq hb] at y;exact (hb.on x (by omega)).symm
def cpS (a b:Int) (q:Sp):Sp:=(if q.1<a then a else q.1,if b<q.2 then b else q.2)
def clL (L:List Sp) (a b:Int):List Sp:=(L.map (cpS a b)).filter fun q=>decide (q.1<q.2)
theorem cl_snoc (L:List Sp) (q:Sp) (a b:Int):clL (L++[q]) a b=clL L a b++(if (cpS a b q).1<(cpS a b q).2 then [cpS a b q] else []):=by
 unfold clL
 rw [List.map_append,List.filter_append]
 congr 1
 show List.filter _ [cpS a b q]=_
 by_cases z:(cpS a b q).1<(cpS a b q).2
 ·rw [if_pos z,List.filter_cons_of_pos (by simpa using z)];rfl
 ·rw [if_neg z,List.filter_cons_of_neg (by simpa using z)];rfl
theorem cp_in (a b:Int) (q:Sp) (x:Int):(decide ((cpS a b q).1≤x)&&decide (x<(cpS a b q).2))=(decide (a≤x)&&decide (x<b)&&(decide (q.1≤x)&&decide (x<q.2))):=by
 unfold cpS
 rw [Bool.eq_iff_iff]
 simp only [Bool.and_eq_true,decide_eq_true_eq]
 split <;> split <;> omega
theorem cl_in (L:List Sp) (a b x:Int):inB (clL L a b) x=(decide (a≤x)&&decide (x<b)&&inB L x):=by
 rw [Bool.eq_iff_iff,inB_iff,Bool.and_eq_true,inB_iff]
 unfold clL
 constructor
 ·rintro ⟨p,hp,h⟩;obtain ⟨hp,-⟩:=List.mem_filter.1 hp;obtain ⟨q,hq,rfl⟩:=List.mem_map.1 hp;have e:=cp_in a b q x;rw [zdt h.1,zdt h.2] at e;have e:=e.symm
  simp only [Bool.and_eq_true,Bool.true_and,decide_eq_true_eq] at e
  exact ⟨by simp only [Bool.and_eq_true,decide_eq_true_eq];exact e.1,q,hq,e.2⟩
 ·rintro ⟨h,q,hq,k⟩;have e:=cp_in a b q x;rw [h,zdt k.1,zdt k.2] at e
  simp only [Bool.and_eq_true,Bool.true_and,decide_eq_true_eq] at e
  exact ⟨_,List.mem_filter.2 ⟨List.mem_map.2 ⟨q,hq,rfl⟩,by simp only [decide_eq_true_eq];omega⟩,e⟩
theorem cl_cn:∀ {L:List Sp} (a b:Int),Cn L→Cn (clL L a b)
  | [],_,_,_=>trivial
  | p :: L,a,b,c=>by
    have ih:=cl_cn a b c.2.2
    by_cases z:(cpS a b p).1<(cpS a b p).2
    · have e:clL (p :: L) a b=cpS a b p :: clL L a b:=by unfold clL;rw [List.map_cons,List.filter_cons_of_pos (by simpa using z)]
      rw [e];refine ⟨z,fun q hq=>?_,ih⟩;obtain ⟨hq,-⟩:=List.mem_filter.1 hq;obtain ⟨r,hr,rfl⟩:=List.mem_map.1 hq;have:=c.2.1 r hr
      unfold cpS
      show (if b<p.2 then b else p.2)<(if r.1<a then a else r.1)
      split <;> split <;> omega
    · have e:clL (p :: L) a b=clL L a b:=by unfold clL;rw [List.map_cons,List.filter_cons_of_neg (by simpa using z)]
      rw [e];exact ih
theorem cl_ca {L:List Sp} (c:Cn L) (a b:Int):clL L a b=caL (inB L) a b:=ca_eq (cl_cn a b c) fun x=>cl_in L a b x
theorem cl_len (L:List Sp) (a b:Int):(clL L a b).length≤L.length:=by
 unfold clL
 exact Nat.le_trans (List.length_filter_le _ _) (by rw [List.length_map];exact Nat.le_refl _)
def Chg (f:Int→Bool) (x:Int):Prop:=f x≠f (x - 1)
theorem no_chg {f:Int→Bool} {u:Int}:∀ (n:Nat),(∀ c,u<c→c≤u+n→¬ Chg f c)→∀ y,u≤y→y≤u+n→f y=f u
  | 0,_,y,h1,h2=>by rw [show y=u by omega]
  | n+1,h,y,h1,h2=>by
    by_cases z:y≤u+n
    · exact no_chg n (fun c a b=>h c a (by omega)) y h1 z
    · have a:=no_chg n (fun c a b=>h c a (by omega)) (y - 1) (by omega) (by omega);have b:¬ Chg f y:=h y (by omega) (by omega);rw [← a];exact Classical.byContradiction fun c=>b c
theorem no_chg' {f:Int→Bool} {u v:Int} (h:∀ c,u<c→c<v→¬ Chg f c) {y:Int} (h1:u≤y) (h2:y<v):f y=f u:=no_chg (v - 1 - u).toNat (fun c a b=>h c a (by omega)) y h1 (by omega)
theorem in_chg {L:List Sp} {x:Int} (h:Chg (inB L) x):∃ q,q∈L∧(x=q.1∨x=q.2):=by
 unfold Chg at h
 cases a:inB L x
 ·have b:inB L (x - 1)=true:=by rw [a] at h;cases c:inB L (x - 1) <;> simp_all
  obtain ⟨q,hq,h1,h2⟩:=inB_iff.1 b;refine ⟨q,hq,.inr ?_⟩
  by_cases z:x<q.2
  ·rw [inB_iff.2 ⟨q,hq,by omega,z⟩] at a;cases a
  ·omega
 ·have b:inB L (x - 1)=false:=by rw [a] at h;cases c:inB L (x - 1) <;> simp_all
  obtain ⟨q,hq,h1,h2⟩:=inB_iff.1 a;refine ⟨q,hq,.inl ?_⟩
  by_cases z:q.1≤x - 1
  ·rw [inB_iff.2 ⟨q,hq,z,by omega⟩] at b;cases b
  ·omega
def chS (P:Int) (A:List Sp) (q:Sp):List Int :=
 (if hsP P A q.1≠hsP P A (q.1 - 1) then [q.1] else [])++(if hsP P A (q.2 % P)≠hsP P A (q.2 % P - 1) then [q.2 % P] else [])
def chL (P:Int) (A:List Sp):List Sp→List Int
 | []=>[]
 | q :: M=>chS P A q++chL P A M
theorem ch_app (P:Int) (A:List Sp):∀ (M N:List Sp),chL P A (M++N)=chL P A M++chL P A N
 | [],N=>rfl
 | q :: M,N=>by show chS P A q++chL P A (M++N)=_;rw [ch_app P A M N,← List.append_assoc];rfl
theorem ch_len (P:Int) (A:List Sp):∀ (M:List Sp),(chL P A M).length≤2 * M.length
  | []=>Nat.le_refl _
  | q :: M=>by
    have ih:=ch_len P A M
    show (chS P A q++chL P A M).length≤_
    rw [List.length_append];have:(chS P A q).length≤2:=by unfold chS;rw [List.length_append];split <;> split <;> simp
    simp only [List.length_cons];omega
theorem ch_mem {P:Int} {A:List Sp} {c:Int}:∀ {M:List Sp},c∈chL P A M↔∃ q,q∈M∧c∈chS P A q
  | []=>by constructor;exact fun h=>(by cases h);rintro ⟨q,hq,-⟩;cases hq
  | q :: M=>by
    show c∈chS P A q++chL P A M↔_
    rw [List.mem_append,ch_mem]
    constructor
    · rintro (h | ⟨r,hr,h⟩)
      · exact ⟨q,List.mem_cons_self,h⟩
      · exact ⟨r,List.mem_cons_of_mem _ hr,h⟩
    · rintro ⟨r,hr,h⟩
      rcases List.mem_cons.1 hr with rfl | hr
      · exact .inl h
      · exact .inr ⟨r,hr,h⟩
theorem chs_mem {P:Int} {A:List Sp} {c:Int} {q:Sp}:c∈chS P A q↔(c=q.1∨c=q.2 % P)∧Chg (hsP P A) c:=by
 unfold chS Chg
 rw [List.mem_append]
 constructor
 ·rintro (h | h)
  ·split at h
   ·rw [List.mem_singleton.1 h];exact ⟨.inl rfl,by assumption⟩
   ·cases h
  ·split at h
   ·rw [List.mem_singleton.1 h];exact ⟨.inr rfl,by assumption⟩
   ·cases h
 ·rintro ⟨rfl | rfl,h⟩
  ·left;rw [if_pos h];exact List.mem_cons_self
  ·right;rw [if_pos h];exact List.mem_cons_self
theorem ch_in {P:Int} {A:List Sp} (pv:PV P A) {c:Int} (h:c∈chL P A A):0≤c∧c<P∧Chg (hsP P A) c:=by
 have p0:=pv.p0;obtain ⟨q,hq,k⟩:=ch_mem.1 h;obtain ⟨e,d⟩:=chs_mem.1 k;have ip:=pv.ip q hq;have lt:=pv.cn.lt q hq
 rcases e with rfl | rfl
 ·exact ⟨ip.1,by omega,d⟩
 ·exact ⟨Int.emod_nonneg _ (by omega),Int.emod_lt_of_pos _ (by omega),d⟩
theorem chg_per {f:Int→Bool} {P:Int} (per:Per f P) (x k:Int):Chg f (x+P * k)↔Chg f x:=by
 unfold Chg
 rw [per.mul k x,show x+P * k - 1=(x - 1)+P * k by omega,per.mul k (x - 1)]
theorem ch_all {P:Int} {A:List Sp} (pv:PV P A) {x:Int} (h:Chg (hsP P A) x):x % P∈chL P A A:=by
 have p0:=pv.p0;have m0:=Int.emod_nonneg x (show P≠0 by omega);have m1:=Int.emod_lt_of_pos x (show 0<P by omega);have dm:=Int.emod_add_mul_ediv x P;have hr:Chg (hsP P A) (x % P):=by
  have:=(chg_per (hs_per (P:=P) (L:=A)) (x % P) (x / P)).1 (by rw [dm];exact h);exact this
 generalize x % P=r at *;have here:hsP P A r=inB A r:=hs_in m0 m1
 by_cases r0:r=0
 ·subst r0;have bk:hsP P A (0 - 1)=inB A (P - 1):=by
   rw [← hs_in (P:=P) (L:=A) (x:=P - 1) (by omega) (by omega)];have:=(hs_per (P:=P) (L:=A)) (0 - 1);rw [← this,show (0:Int) - 1+P=P - 1 by omega]
  have hr':=hr
  unfold Chg at hr
  rw [here,bk] at hr
  cases a:inB A 0
  ·have b:inB A (P - 1)=true:=by rw [a] at hr;cases c:inB A (P - 1) <;> simp_all
   obtain ⟨q,hq,h1,h2⟩:=inB_iff.1 b;have ip:=pv.ip q hq;refine ch_mem.2 ⟨q,hq,chs_mem.2 ⟨.inr ?_,hr'⟩⟩;rw [show q.2=P by omega,Int.emod_self]
  ·obtain ⟨q,hq,h1,h2⟩:=inB_iff.1 a;have ip:=pv.ip q hq;exact ch_mem.2 ⟨q,hq,chs_mem.2 ⟨.inl (by omega),hr'⟩⟩
 ·have bk:hsP P A (r - 1)=inB A (r - 1):=hs_in (by omega) (by omega);have ci:Chg (inB A) r:=by unfold Chg at hr ⊢;rw [here,bk] at hr;exact hr
  obtain ⟨q,hq,e⟩:=in_chg ci;refine ch_mem.2 ⟨q,hq,chs_mem.2 ⟨?_,hr⟩⟩
  rcases e with e | e
  ·exact .inl e
  ·exact .inr (by rw [← e,Int.emod_eq_of_lt m0 m1])
structure BfS (f:Int→Bool) (x:Int) (o:Bool) (b:Int):Prop where
 yes:o=true→b<x∧Chg f b∧∀ y,b<y→y<x→¬ Chg f y
 no:o=false→∀ y,¬ Chg f y
structure AfS (f:Int→Bool) (x:Int) (o:Bool) (b:Int):Prop where
 yes:o=true→x<b∧Chg f b∧∀ y,x<y→y<b→¬ Chg f y
 no:o=false→∀ y,¬ Chg f y
def caB (P x r:Int):Int:=if x≤x - x % P+r then x - x % P+r - P else x - x % P+r
def caA (P x r:Int):Int:=if x - x % P+r≤x then x - x % P+r+P else x - x % P+r
structure BfI (P x:Int) (l:List Int) (i:Nat) (o:Bool) (b:Int):Prop where
 ok:o=decide (0<i)
 is:0<i→∃ j,j<i∧b=caB P x (l.getD j 0)
 top:∀ j,j<i→caB P x (l.getD j 0)≤b
structure AfI (P x:Int) (l:List Int) (i:Nat) (o:Bool) (b:Int):Prop where
 ok:o=decide (0<i)
 is:0<i→∃ j,j<i∧b=caA P x (l.getD j 0)
 top:∀ j,j<i→b≤caA P x (l.getD j 0)
theorem bf_start (P x:Int) (l:List Int):BfI P x l 0 false 0:=⟨rfl,fun h=>absurd h (Nat.lt_irrefl 0),fun j h=>absurd h (Nat.not_lt_zero j)⟩
theorem af_start (P x:Int) (l:List Int):AfI P x l 0 false 0:=⟨rfl,fun h=>absurd h (Nat.lt_irrefl 0),fun j h=>absurd h (Nat.not_lt_zero j)⟩
theorem BfI.up {P x:Int} {l:List Int} {i:Nat} {o:Bool} {b:Int} (h:BfI P x l i o b) (k:o=false∨b<caB P x (l.getD i 0)):BfI P x l (i+1) true (caB P x (l.getD i 0)):=by
 refine ⟨(zdt (Nat.succ_pos i)).symm,fun _=>⟨i,Nat.lt_succ_self i,rfl⟩,fun j hj=>?_⟩
 by_cases e:j=i
 ·rw [e];exact Int.le_refl _
 ·rcases k with k | k
  ·have:=h.ok;rw [k] at this;have:=of_decide_eq_false this.symm;omega
  ·have:=h.top j (by omega);omega
theorem BfI.stay {P x:Int} {l:List Int} {i:Nat} {o:Bool} {b:Int} (h:BfI P x l i o b) (k1:o=true) (k2:caB P x (l.getD i 0)≤b):BfI P x l (i+1) true b:=by
 have z:0<i:=by have:=h.ok;rw [k1] at this;exact of_decide_eq_true this.symm
 refine ⟨(zdt (Nat.succ_pos i)).symm,fun _=>by obtain ⟨j,hj,e⟩:=h.is z;exact ⟨j,by omega,e⟩,fun j hj=>?_⟩
 by_cases e:j=i
 ·rw [e];exact k2
 ·exact h.top j (by omega)
theorem AfI.up {P x:Int} {l:List Int} {i:Nat} {o:Bool} {b:Int} (h:AfI P x l i o b) (k:o=false∨caA P x (l.getD i 0)<b):AfI P x l (i+1) true (caA P x (l.getD i 0)):=by
 refine ⟨(zdt (Nat.succ_pos i)).symm,fun _=>⟨i,Nat.lt_succ_self i,rfl⟩,fun j hj=>?_⟩
 by_cases e:j=i
 ·rw [e];exact Int.le_refl _
 ·rcases k with k | k
  ·have:=h.ok;rw [k] at this;have:=of_decide_eq_false this.symm;omega
  ·have:=h.top j (by omega);omega
theorem AfI.stay {P x:Int} {l:List Int} {i:Nat} {o:Bool} {b:Int} (h:AfI P x l i o b) (k1:o=true) (k2:b≤caA P x (l.getD i 0)):AfI P x l (i+1) true b:=by
 have z:0<i:=by have:=h.ok;rw [k1] at this;exact of_decide_eq_true this.symm
 refine ⟨(zdt (Nat.succ_pos i)).symm,fun _=>by obtain ⟨j,hj,e⟩:=h.is z;exact ⟨j,by omega,e⟩,fun j hj=>?_⟩
 by_cases e:j=i
 ·rw [e];exact k2
 ·exact h.top j (by omega)
theorem ints_mem {l:List Int} {j:Nat} (h:j<l.length):l.getD j 0∈l:=by
 rw [List.getD_eq_getElem?_getD,List.getElem?_eq_getElem h];exact List.getElem_mem h
theorem mem_ints {l:List Int} {c:Int} (h:c∈l):∃ j,j<l.length∧l.getD j 0=c:=by
 obtain ⟨j,hj,rfl⟩:=List.getElem_of_mem h;exact ⟨j,hj,by rw [List.getD_eq_getElem?_getD,List.getElem?_eq_getElem hj];rfl⟩
theorem near_mod {P y c:Int} (p0:0<P) (e:y % P=c % P):∃ k,y=c+P * k:=by
 have a:=Int.emod_add_mul_ediv y P;have b:=Int.emod_add_mul_ediv c P;exact ⟨y / P - c / P,by rw [Int.mul_sub];omega⟩
theorem cb_facts {P:Int} {A:List Sp} (pv:PV P A) {x r:Int} (h:r∈chL P A A):caB P x r<x∧x - P≤caB P x r∧caB P x r % P=r∧Chg (hsP P A) (caB P x r):=by
 have p0:=pv.p0;obtain ⟨r0,r1,r2⟩:=ch_in pv h;have m0:=Int.emod_nonneg x (show P≠0 by omega);have m1:=Int.emod_lt_of_pos x (show 0<P by omega);have dm:=Int.emod_add_mul_ediv x P;have e:x - x % P=P * (x / P):=by omega
 unfold caB
 split
 ·have q:x - x % P+r - P=r+P * (x / P - 1):=by rw [Int.mul_sub,Int.mul_one];omega
  refine ⟨by omega,by omega,?_,?_⟩
  ·rw [q,Int.add_mul_emod_self_left,Int.emod_eq_of_lt r0 r1]
  ·rw [q];exact (chg_per hs_per r _).2 r2
 ·have q:x - x % P+r=r+P * (x / P):=by omega
  refine ⟨by omega,by omega,?_,?_⟩
  ·rw [q,Int.add_mul_emod_self_left,Int.emod_eq_of_lt r0 r1]
  ·rw [q];exact (chg_per hs_per r _).2 r2
theorem ca_facts {P:Int} {A:List Sp} (pv:PV P A) {x r:Int} (h:r∈chL P A A):x<caA P x r∧caA P x r≤x+P∧caA P x r % P=r∧Chg (hsP P A) (caA P x r):=by
 have p0:=pv.p0;obtain ⟨r0,r1,r2⟩:=ch_in pv h;have m0:=Int.emod_nonneg x (show P≠0 by omega);have m1:=Int.emod_lt_of_pos x (show 0<P by omega);have dm:=Int.emod_add_mul_ediv x P
 unfold caA
 split
 ·have q:x - x % P+r+P=r+P * (x / P+1):=by rw [Int.mul_add,Int.mul_one];omega
  refine ⟨by omega,by omega,?_,?_⟩
  ·rw [q,Int.add_mul_emod_self_left,Int.emod_eq_of_lt r0 r1]
  ·rw [q];exact (chg_per hs_per r _).2 r2
 ·have q:x - x % P+r=r+P * (x / P):=by omega
  refine ⟨by omega,by omega,?_,?_⟩
  ·rw [q,Int.add_mul_emod_self_left,Int.emod_eq_of_lt r0 r1]
  ·rw [q];exact (chg_per hs_per r _).2 r2
theorem one_turn {P k d:Int} (p0:0<P) (h:d=P * k) (lo:-P<d) (z:k≠0):P≤d:=by
 rcases Int.lt_trichotomy k 0 with c | c | c
 ·have:=Int.mul_le_mul_of_nonneg_left (show k≤-1 by omega) (show 0≤P by omega);rw [Int.mul_neg,Int.mul_one] at this;omega
 ·exact absurd c z
 ·have:=Int.mul_le_mul_of_nonneg_left (show 1≤k by omega) (show 0≤P by omega);rw [Int.mul_one] at this;omega
theorem BfI.fin {P x:Int} {A:List Sp} {o:Bool} {b:Int} (pv:PV P A) (h:BfI P x (chL P A A) (chL P A A).length o b):BfS (hsP P A) x o b:=by
 have p0:=pv.p0
 constructor
 ·intro ho;have z:0<(chL P A A).length:=by have:=h.ok;rw [ho] at this;exact of_decide_eq_true this.symm
  obtain ⟨j,hj,rfl⟩:=h.is z;obtain ⟨f1,f2,f3,f4⟩:=cb_facts pv (x:=x) (ints_mem hj);refine ⟨f1,f4,fun y y1 y2 hc=>?_⟩;obtain ⟨i,hi,e⟩:=mem_ints (ch_all pv hc);obtain ⟨g1,g2,g3,g4⟩:=cb_facts pv (x:=x) (ints_mem hi);have t:=h.top i hi;obtain ⟨k,hk⟩:=near_mod (y:=y) (c:=caB P x ((chL P A A).getD i 0)) (show 0<P by omega) (by rw [g3,e])
  by_cases k0:k=0
  ·rw [k0,Int.mul_zero] at hk;omega
  ·have:=one_turn (show 0<P by omega) (d:=y - caB P x ((chL P A A).getD i 0)) (k:=k) (by omega) (by omega) k0;omega
 ·intro ho y hc;have z:¬ 0<(chL P A A).length:=by have:=h.ok;rw [ho] at this;exact of_decide_eq_false this.symm
  obtain ⟨i,hi,-⟩:=mem_ints (ch_all pv hc);omega
theorem AfI.fin {P x:Int} {A:List Sp} {o:Bool} {b:Int} (pv:PV P A) (h:AfI P x (chL P A A) (chL P A A).length o b):AfS (hsP P A) x o b:=by
 have p0:=pv.p0
 constructor
 ·intro ho;have z:0<(chL P A A).length:=by have:=h.ok;rw [ho] at this;exact of_decide_eq_true this.symm
  obtain ⟨j,hj,rfl⟩:=h.is z;obtain ⟨f1,f2,f3,f4⟩:=ca_facts pv (x:=x) (ints_mem hj);refine ⟨f1,f4,fun y y1 y2 hc=>?_⟩;obtain ⟨i,hi,e⟩:=mem_ints (ch_all pv hc);obtain ⟨g1,g2,g3,g4⟩:=ca_facts pv (x:=x) (ints_mem hi);have t:=h.top i hi;obtain ⟨k,hk⟩:=near_mod (y:=caA P x ((chL P A A).getD i 0)) (c:=y) (show 0<P by omega) (by rw [g3,e])
  by_cases k0:k=0
  ·rw [k0,Int.mul_zero] at hk;omega
  ·have:=one_turn (show 0<P by omega) (d:=caA P x ((chL P A A).getD i 0) - y) (k:=k) (by omega) (by omega) k0;omega
 ·intro ho y hc;have z:¬ 0<(chL P A A).length:=by have:=h.ok;rw [ho] at this;exact of_decide_eq_false this.symm
  obtain ⟨i,hi,-⟩:=mem_ints (ch_all pv hc);omega
structure LsR (f g:Int→Bool) (lo hi:Int) (o:Bool) (b:Int):Prop where
 yes:o=true→lo<b∧b≤hi∧f (b - 1)≠g (b - 1)∧∀ y,b≤y→y<hi→f y=g y
 no:o=false→∀ y,lo≤y→y<hi→f y=g y
structure FiR (f g:Int→Bool) (lo hi:Int) (o:Bool) (a:Int):Prop where
 yes:o=true→lo≤a∧a<hi∧f a≠g a∧∀ y,lo≤y→y<a→f y=g y
 no:o=false→∀ y,lo≤y→y<hi→f y=g y
theorem ls_step {P:Int} {A l:List Sp} {x n c:Int} {o:Bool} (e:inB l (x - 1)=hsP P A (x - 1)) (ends:∀ q,q∈l→(q.1<x→q.1≤n)∧(q.2<x→q.2≤n)) (bf:BfS (hsP P A) x o c) (cn:o=true→c≤n) {y:Int} (y1:n≤y) (y2:y<x):inB l y=hsP P A y:=by
 have h1:∀ c,n<c→c<x→¬ Chg (inB l) c:=fun c a b hc=>by
  obtain ⟨q,hq,k⟩:=in_chg hc;have:=ends q hq
  rcases k with rfl | rfl
  ·have:=this.1 b;omega
  ·have:=this.2 b;omega
 have h2:∀ d,n<d→d<x→¬ Chg (hsP P A) d:=fun d a b hc=>by
  cases ho:o
  ·exact bf.no ho d hc
  ·have:=cn ho;exact (bf.yes ho).2.2 d (by omega) b hc
 rw [no_chg' h1 y1 y2,no_chg' h2 y1 y2];have a:=no_chg' h1 (y:=x - 1) (by omega) (by omega);have b:=no_chg' h2 (y:=x - 1) (by omega) (by omega);rw [← a,← b,e]
theorem fi_step {P:Int} {A l:List Sp} {x n c:Int} {o:Bool} (e:inB l x=hsP P A x) (ends:∀ q,q∈l→(x<q.1→n≤q.1)∧(x<q.2→n≤q.2)) (af:AfS (hsP P A) x o c) (cn:o=true→n≤c) {y:Int} (y1:x≤y) (y2:y<n):inB l y=hsP P A y:=by
 have h1:∀ c,x<c→c<n→¬ Chg (inB l) c:=fun c a b hc=>by
  obtain ⟨q,hq,k⟩:=in_chg hc;have:=ends q hq
  rcases k with rfl | rfl
  ·have:=this.1 a;omega
  ·have:=this.2 a;omega
 have h2:∀ d,x<d→d<n→¬ Chg (hsP P A) d:=fun d a b hc=>by
  cases ho:o
  ·exact af.no ho d hc
  ·have:=cn ho;exact (af.yes ho).2.2 d a (by omega) hc
 rw [no_chg' h1 y1 y2,no_chg' h2 y1 y2,e]
end Go.Proofs.YtmamlgaogpkagaaGreat
