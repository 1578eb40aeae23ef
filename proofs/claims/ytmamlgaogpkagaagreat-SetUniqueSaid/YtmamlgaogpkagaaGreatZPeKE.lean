/- PeKE PeGC PeKF. -/
import Derived.Test.YtmamlgaogpkagaaGreatZLPlain
import Derived.Test.YtmamlgaogpkagaaGreatZLGen
import Derived.Test.YtmamlgaogpkagaaGreatZLSl
import Derived.Test.YtmamlgaogpkagaaGreatZLOwn
import Derived.Test.YtmamlgaogpkagaaGreatZRnP
import Derived.Test.YtmamlgaogpkagaaGreatZPeR
import Derived.Test.YtmamlgaogpkagaaGreatZPeA
import Derived.Test.YtmamlgaogpkagaaGreatZPeB
import Derived.Test.YtmamlgaogpkagaaGreatZPeT
import Derived.Test.YtmamlgaogpkagaaGreatZPeGA
import Derived.Test.YtmamlgaogpkagaaGreatZRnKF
import Derived.Test.YtmamlgaogpkagaaGreatZPeKB
import Derived.Deep.RegionHeld3
namespace Go.Proofs.YtmamlgaogpkagaaGreat
open Go.RowKit
set_option linter.unusedVariables false
set_option linter.unusedSimpArgs false
def ipB (P:Int) (L:List Sp):Bool:=L.all fun q=>decide (0≤q.1)&&decide (q.2≤P)
theorem ip_iff {P:Int} {L:List Sp}:ipB P L=true↔InP P L:=by
 unfold ipB InP
 simp [List.all_eq_true]
noncomputable def pvB (P:Int) (L:List Sp):Bool:=decide (1≤P)&&decide (P≤12622780800)&&vaB L&&ipB P L&&decide (leF P (hsP P L)=P)
structure PV (P:Int) (L:List Sp):Prop where
 p0:1≤P
 p1:P≤12622780800
 va:vaB L=true
 ip:InP P L
 ls:Lst (hsP P L) P P
theorem pv_iff {P:Int} {L:List Sp}:pvB P L=true↔PV P L:=by
 unfold pvB
 simp only [Bool.and_eq_true,decide_eq_true_eq,ip_iff]
 constructor
 ·rintro ⟨⟨⟨⟨a,b⟩,c⟩,d⟩,e⟩;refine ⟨a,b,c,d,?_⟩;have:=le_lst (f:=hsP P L) (show 0<P by omega) hs_per;rwa [e] at this
 ·rintro ⟨a,b,c,d,e⟩;exact ⟨⟨⟨⟨a,b⟩,c⟩,d⟩,le_eq e⟩
theorem PV.len {P:Int} {L:List Sp} (h:PV P L):L.length≤2000:=(vaB_iff.1 h.va).1
theorem PV.cn {P:Int} {L:List Sp} (h:PV P L):Cn L:=(vaB_iff.1 h.va).2.2
theorem PV.fm {P:Int} {L:List Sp} (h:PV P L):fmP P (hsP P L)=(P,L):=fm_self h.cn h.ip h.ls
theorem ip_ends {P:Int} {L:List Sp} (c:Cn L) (n:0<L.length):InP P L↔0≤(L.getD 0 (0,0)).1∧(L.getD (L.length - 1) (0,0)).2≤P:=by
 constructor
 ·intro h;exact ⟨(h _ (getD_mem n)).1,(h _ (getD_mem (by omega))).2⟩
 ·rintro ⟨a,b⟩ q hq;obtain ⟨j,hj,rfl⟩:=mem_getD hq;have l0:=cn_lo c (Nat.zero_le j) hj;have l1:=cn_lo c (show j≤L.length - 1 by omega) (by omega);omega
set_option maxRecDepth 100000 in
set_option maxHeartbeats 3000000 in
theorem upvalid (va:Value) (P:Int) (L:List Sp) (hL:L.length≤maxLen) (hP:I64 P) {ba:Nat} (w:World) (h:PairS ba w va L) :
  Calls Tryz.prog 131 #[.agg #[.int .i64 P,va]] w fun e w'=>e=.returned (.bool (pvB P L))∧Below w.heap.size w w':=by
 have mx:L.length≤9223372036854775807:=by unfold maxLen at hL;omega
 have T1:=Two.new (here (w.alloc (.cells #[.int .i64 P,va] 24)));have A1:=zh (grow (here w) (.cells #[.int .i64 P,va] 24));have HP:=zh (h.keep A1.out);have HI:=zh (fun W=>upisper P W);have HV:=zh (ruvalid va L hL _ HP.out);replace T1:=zh T1;obtain ⟨o,c,rfl⟩:=prs_shape h;have t0:=T1.out.c0;have t1:=T1.out.c1;have tl:=T1.out.lt;have bad:(decide (1≤P)&&decide (P≤12622780800))=false∨vaB L=false∨ipB P L=false→Hid (pvB P L=false):=fun x=>by
  show _=_
  unfold pvB
  rcases x with x | x | x
  ·rw [x];rfl
  ·rw [x];simp
  ·rw [x];simp
 clear h
 cases i:(decide (1≤P)&&decide (P≤12622780800))
 ·have r:=bad (.inl i);rw [i] at HI;clear HV bad i hP
  go_enter Tryz.func131,Tryz.ntmps131
  go_wp2_with fail
  refine (HI.out _).mono ?_;rintro e w2 ⟨rfl,rfl⟩;go_wp2
  go_ret
  exact ⟨by rw [r.out];rfl,A1.out⟩
 ·rw [i] at HI;rw [Bool.and_eq_true,decide_eq_true_iff,decide_eq_true_iff] at i;obtain ⟨P0',P1⟩:=i;have P0:0<P:=by omega
  cases u:vaB L
  ·have r:=bad (.inr (.inl u));rw [u] at HV;clear bad u hP
   go_enter Tryz.func131,Tryz.ntmps131
   go_wp2_with fail
   refine (HI.out _).mono ?_;rintro e w2 ⟨rfl,rfl⟩;go_wp2_with fail
   refine HV.out.mono ?_;rintro e w3 ⟨rfl,hb⟩;have A3:=zd A1 hb;clear hb A1 HP HI HV;go_wp2
   go_ret
   exact ⟨by rw [r.out];rfl,A3.out⟩
  ·rw [u] at HV;obtain ⟨ln,-,cn⟩:=vaB_iff.1 u;have cc:=zh cn;obtain ⟨n,hl⟩:∃ n,L.length=n:=⟨_,rfl⟩;have YES:InP P L→Hid (pvB P L=decide (leF P (hsP P L)=P)):=fun x=>by
    show _=_
    unfold pvB
    rw [u,ip_iff.2 x,zdt P0',zdt P1];simp
   have CIf:InP P L→Hid (Cir P (hsP P L) L):=fun x=>cir_in P0 cn x;have IE:=fun x=>@ip_ends P L cn x;have VA:=fun k (hk:k<L.length)=>va_at u hk;rw [hl] at HV HP ln IE VA A1 T1 t0 t1 tl ⊢
   go_enter Tryz.func131,Tryz.ntmps131
   go_wp2_with fail
   refine (HI.out _).mono ?_;rintro e w2 ⟨rfl,rfl⟩;go_wp2_with fail
   refine HV.out.mono ?_;rintro e w2 ⟨rfl,hb⟩;have A2:=zd A1 hb;have T2:=zh (T1.out.keep hb);replace HP:=zh (HP.out.keep hb);clear hb A1 HI HV T1 u cn;have t0:=T2.out.c0;have t1:=T2.out.c1;have tl:=T2.out.lt
   rcases Nat.eq_zero_or_pos n with z | z
   ·have e0:L=[]:=List.eq_nil_of_length_eq_zero (by omega);have kz:decide (0<(n:Int))=false:=zdf (by omega);have kz2:decide (0<n)=false:=zdf (by omega);replace hl:=zh hl;replace z:=zh z;have ipx:InP P L:=by rw [e0];intro q hq;cases hq
    have CI:=CIf ipx;have r:=YES ipx;clear CIf YES IE VA bad e0 ipx;go_wp2
    go_quiet (fail)
    replace A2:=zh (below_drewN A2.out nq);replace HP:=zh (HP.out.keep (below_drewN (here w2) nq));replace T2:=zh (T2.out.keep (below_drewN (here w2) nq));clear t0 t1 tl;generalize w2.drewN nq=w2 at *;have t0:=T2.out.c0;have t1:=T2.out.c1;have tl:=T2.out.lt;have HC:Hid (∀ W,PairS ba W (.slice o n c) L→Calls Tryz.prog 166 #[.int .i64 P,.slice o n c] W fun e w'=>(∃ Q v' M,e=.returned (.tuple #[.int .i64 Q,v'])∧OwnS W.heap.size w' v' M∧CrV P (hsP P L) Q M∧M.length≤n+1)∧Below W.heap.size W w'):=fun W h=>(upcircle _ P L _ CI.out (by rw [hl.out];omega) P1 W h).mono (by rintro e w ⟨⟨Q,v,M,a,b,c,d⟩,hb⟩;exact ⟨⟨Q,v,M,a,b,c,by rw [hl.out] at d;exact d⟩,hb⟩);have HL:Hid (∀ Q (M:List Sp) v,CrV P (hsP P L) Q M→M.length≤100000→∀ B W,OwnS B W v M→Calls Tryz.prog 165 #[.int .i64 Q,v] W fun e w'=>e=.returned (.int .i64 (leF P (hsP P L)))∧Below W.heap.size W w'):=fun Q M v C ml B W h=>upleast v P Q M _ C (by omega) (CrV.same C P0) (by rcases C.len with ⟨a,-⟩ | ⟨a,-⟩ <;> omega) W h;generalize leF P (hsP P L)=D at *;go_wp2
    go_region_with (first | (go_at_call 166;(with_reducible refine (HC.out _ (by first | exact HP.out.keep (Below.drew (here _)) | exact HP.out)).mono ?_);rintro e w5 ⟨⟨Q,v5,M,rfl,O5,C5,m5⟩,hb⟩;have hB:=zh (down (Below.drew (here w2)) hb);have hT:=(T2.out.keep hB.out).c0;replace O5:=zh O5;replace C5:=zh C5;clear hb) | (go_at_call 165;(with_reducible refine (HL.out _ M _ C5.out (by omega) _ _ O5.out).mono ?_);rintro e w6 ⟨rfl,hb⟩;have hB6:=zd hB hb;have hT6:=(T2.out.keep hB6.out).c0;clear hb))
    all_goals go_wp2
    all_goals go_ret
    all_goals exact ⟨by rw [r.out];rfl,down A2.out hB6.out⟩
   ·have kz:decide (0<(n:Int))=true:=zdt (by omega);have kz2:decide (0<n)=true:=zdt z;obtain ⟨K,hK⟩:∃ K,n - 1=K:=⟨_,rfl⟩;have k1:(n:Int) - 1=K:=by omega
    have k2:decide (0≤(K:Int))=true:=zdt (by omega);have k3:decide (0≤K)=true:=zdt (by omega);have km:(K:Int)<(n:Int):=by omega
    have km':K<n:=by omega
    have zi:(0:Int)<(n:Int):=by omega
    obtain ⟨b,off,rfl,bl,cs⟩:=prs_here HP.out (show 0<L.length by omega);obtain ⟨c0,-⟩:=cs 0 (by omega);obtain ⟨-,d1⟩:=cs K (by omega);rw [Nat.zero_mul,Nat.add_zero] at c0;have IE:=IE z;rw [hK] at IE;have v0:=VA 0 z;have v1:=VA K km';obtain ⟨x,hx⟩:∃ x,(L.getD 0 (0,0)).1=x:=⟨_,rfl⟩;obtain ⟨y,hy⟩:∃ y,(L.getD K (0,0)).2=y:=⟨_,rfl⟩;rw [hx] at c0 IE;rw [hy] at d1 IE;replace hl:=zh hl;clear cs hx hy VA hK
    by_cases e0:x<0
    ·have ke:decide (x<0)=true:=zdt e0;have r:=bad (.inr (.inr (by rw [← Bool.not_eq_true,ip_iff];intro q;have:=(IE.1 q).1;omega)));clear IE bad YES CIf e0;go_wp2
     go_quiet (fail)
     go_wp2
     go_ret
     exact ⟨by rw [r.out];rfl,below_drewN A2.out nq⟩
    ·have ke:decide (x<0)=false:=zdf e0
     by_cases e1:P<y
     ·have kf:decide (P<y)=true:=zdt e1;have r:=bad (.inr (.inr (by rw [← Bool.not_eq_true,ip_iff];intro q;have:=(IE.1 q).2;omega)));clear IE bad YES CIf e0 e1;go_wp2
      go_quiet (fail)
      go_wp2
      go_ret
      exact ⟨by rw [r.out];rfl,below_drewN A2.out nq⟩
     ·have kf:decide (P<y)=false:=zdf e1;have ipx:InP P L:=IE.2 ⟨by omega,by omega⟩;have CI:=CIf ipx;have r:=YES ipx;clear CIf YES IE bad ipx e0 e1;go_wp2
      go_quiet (fail)
      clear c0 d1 ke kf bl v0 v1 k1 k2 k3 km km' zi kz kz2;obtain ⟨o,ho⟩:∃ o,some (⟨b,off,none⟩:Addr)=o:=⟨_,rfl⟩;rw [ho] at HP T2 ⊢;clear ho;replace A2:=zh (below_drewN A2.out nq);replace HP:=zh (HP.out.keep (below_drewN (here w2) nq));replace T2:=zh (T2.out.keep (below_drewN (here w2) nq));clear t0 t1 tl;generalize w2.drewN nq=w2 at *;have t0:=T2.out.c0;have t1:=T2.out.c1;have tl:=T2.out.lt;have HC:Hid (∀ W,PairS ba W (.slice o n c) L→Calls Tryz.prog 166 #[.int .i64 P,.slice o n c] W fun e w'=>(∃ Q v' M,e=.returned (.tuple #[.int .i64 Q,v'])∧OwnS W.heap.size w' v' M∧CrV P (hsP P L) Q M∧M.length≤n+1)∧Below W.heap.size W w'):=fun W h=>(upcircle _ P L _ CI.out (by rw [hl.out];omega) P1 W h).mono (by rintro e w ⟨⟨Q,v,M,a,b,c,d⟩,hb⟩;exact ⟨⟨Q,v,M,a,b,c,by rw [hl.out] at d;exact d⟩,hb⟩);have HL:Hid (∀ Q (M:List Sp) v,CrV P (hsP P L) Q M→M.length≤100000→∀ B W,OwnS B W v M→Calls Tryz.prog 165 #[.int .i64 Q,v] W fun e w'=>e=.returned (.int .i64 (leF P (hsP P L)))∧Below W.heap.size W w'):=fun Q M v C ml B W h=>upleast v P Q M _ C (by omega) (CrV.same C P0) (by rcases C.len with ⟨a,-⟩ | ⟨a,-⟩ <;> omega) W h;generalize leF P (hsP P L)=D at *;go_wp2
      go_region_with (first | (go_at_call 166;(with_reducible refine (HC.out _ (by first | exact HP.out.keep (Below.drew (here _)) | exact HP.out)).mono ?_);rintro e w5 ⟨⟨Q,v5,M,rfl,O5,C5,m5⟩,hb⟩;have hB:=zh (down (Below.drew (here w2)) hb);have hT:=(T2.out.keep hB.out).c0;replace O5:=zh O5;replace C5:=zh C5;clear hb) | (go_at_call 165;(with_reducible refine (HL.out _ M _ C5.out (by omega) _ _ O5.out).mono ?_);rintro e w6 ⟨rfl,hb⟩;have hB6:=zd hB hb;have hT6:=(T2.out.keep hB6.out).c0;clear hb))
      all_goals go_wp2
      all_goals go_ret
      all_goals exact ⟨by rw [r.out];rfl,down A2.out hB6.out⟩
theorem va_rn {L:List Sp} (h:L.length≤2000):vaB L=rnB L:=by
 rw [Bool.eq_iff_iff,vaB_iff,rn_iff];exact ⟨fun x=>x.2,fun x=>⟨h,x⟩⟩
set_option maxRecDepth 100000 in
set_option maxHeartbeats 2000000 in
theorem rpvalid (va:Value) (P:Int) (L:List Sp) (hL:L.length≤maxLen) (hP:I64 P) {ba:Nat} (w:World) (h:PairS ba w va L) :
  Calls Tryz.prog 56 #[.agg #[.int .i64 P,va]] w fun e w'=>e=.returned (.bool (pvB P L))∧Below w.heap.size w w':=by
 have mx:L.length≤9223372036854775807:=by unfold maxLen at hL;omega
 obtain ⟨o,c,rfl⟩:=prs_shape h;have T1:=zh (Two.new (here (w.alloc (.cells #[.int .i64 P,.slice o L.length c] 24))));have A1:=zh (grow (here w) (.cells #[.int .i64 P,.slice o L.length c] 24));have HP:=zh (h.keep A1.out);have HV:=zh (rpruns (.slice o L.length c) L hL _ HP.out);have bad:(decide (1≤P)&&decide (P≤12622780800))=false∨vaB L=false∨ipB P L=false→Hid (pvB P L=false):=fun x=>by
  show _=_
  unfold pvB
  rcases x with x | x | x
  ·rw [x];rfl
  ·rw [x];simp
  ·rw [x];simp
 clear h;obtain ⟨n,hl⟩:∃ n,L.length=n:=⟨_,rfl⟩;obtain ⟨t0,t1,tl⟩:=T1.out;rw [hl] at mx HV HP A1 T1 t0 t1 tl ⊢
 by_cases i0:P<1
 ·have k0:decide (P<1)=true:=zdt i0;have r:=bad (.inl (by rw [zdf (show ¬ 1≤P by omega)];rfl));clear bad i0 HV HP hl
  go_enter Tryz.func56,Tryz.ntmps56
  go_wp2
  go_ret
  exact ⟨by rw [r.out];rfl,A1.out⟩
 ·have k0:decide (P<1)=false:=zdf i0
  by_cases i1:12622780800<P
  ·have k1:decide (12622780800<P)=true:=zdt i1;have r:=bad (.inl (by rw [zdf (show ¬ P≤12622780800 by omega),Bool.and_false]));clear bad i1 i0 HV HP hl
   go_enter Tryz.func56,Tryz.ntmps56
   go_wp2
   go_ret
   exact ⟨by rw [r.out];rfl,A1.out⟩
  ·have k1:decide (12622780800<P)=false:=zdf i1
   by_cases i2:2000<n
   ·have k2:decide (2000<(n:Int))=true:=zdt (by omega);have k2':decide (2000<n)=true:=zdt i2;have r:=bad (.inr (.inl (by rw [← Bool.not_eq_true,vaB_iff];intro q;omega)));clear bad i1 i0 i2 HV HP hl
    go_enter Tryz.func56,Tryz.ntmps56
    go_wp2
    go_ret
    exact ⟨by rw [r.out];rfl,A1.out⟩
   ·have k2:decide (2000<(n:Int))=false:=zdf (by omega);have k2':decide (2000<n)=false:=zdf i2;have vr:=va_rn (show L.length≤2000 by omega);rw [← vr] at HV
    cases u:vaB L
    ·have r:=bad (.inr (.inl u));rw [u] at HV;clear bad i1 i0 i2 HP hl u vr
     go_enter Tryz.func56,Tryz.ntmps56
     go_wp2_with fail
     refine HV.out.mono ?_;rintro e w3 ⟨rfl,hb⟩;have A3:=zd A1 hb;clear hb A1 HV;go_wp2
     go_ret
     exact ⟨by rw [r.out];rfl,A3.out⟩
    ·rw [u] at HV;obtain ⟨ln,-,cn⟩:=vaB_iff.1 u;have P0':1≤P:=by omega
     have P0:0<P:=by omega
     have P1:P≤12622780800:=by omega
     have cc:=zh cn;have YES:InP P L→Hid (pvB P L=decide (leF P (hsP P L)=P)):=fun x=>by
      show _=_
      unfold pvB
      rw [u,ip_iff.2 x,zdt P0',zdt P1];simp
     have IE:=fun x=>@ip_ends P L cn x;have VA:=fun k (hk:k<L.length)=>va_at u hk;rw [hl] at IE VA ln;clear vr u cn i2
     go_enter Tryz.func56,Tryz.ntmps56
     go_wp2_with fail
     refine HV.out.mono ?_;rintro e w2 ⟨rfl,hb⟩;have A2:=zd A1 hb;have T2:=zh (T1.out.keep hb);replace HP:=zh (HP.out.keep hb);clear hb A1 HV T1 t0 t1 tl;obtain ⟨t0,t1,tl⟩:=T2.out
     rcases Nat.eq_zero_or_pos n with z | z
     ·have e0:L=[]:=List.eq_nil_of_length_eq_zero (by omega);have kz:decide (0<(n:Int))=false:=zdf (by omega);have kz2:decide (0<n)=false:=zdf (by omega);replace hl:=zh hl;replace z:=zh z;have CI:Hid (InP P L):=by show InP _ _;rw [e0];intro q hq;cases hq
      have r:=YES CI.out;clear YES IE VA bad e0;go_wp2
      go_quiet (fail)
      replace A2:=zh (below_drewN A2.out nq);replace HP:=zh (HP.out.keep (below_drewN (here w2) nq));replace T2:=zh (T2.out.keep (below_drewN (here w2) nq));clear t0 t1 tl;generalize w2.drewN nq=w2 at *;obtain ⟨t0,t1,tl⟩:=T2.out;have HL:Hid (∀ W,Below w2.heap.size w2 W→Calls Tryz.prog 109 #[.int .i64 P,.slice o n c] W fun e w'=>(∃ v',e=.returned (.agg #[.int .i64 (leF P (hsP P L)),v'])∧PairS W.heap.size w' v' (caL (hsP P L) 0 (leF P (hsP P L))))∧Below W.heap.size W w'):=fun W h=>rpleast _ P L (by rw [hl.out];omega) cc.out CI.out P0 P1 W (HP.out.keep h);have mk:∀ W',Below w2.heap.size w2 W'→Below w2.heap.size w2 W'∧W'.cell? ⟨w.heap.size,0,none⟩=some (.int .i64 P)∧W'.cell? ⟨w.heap.size,1,none⟩=some (.slice o n c):=fun W' q=>⟨q,(T2.out.keep q).c0,(T2.out.keep q).c1⟩;have s6:=mk w2 (here w2);clear T2 t0 t1 tl;generalize caL (hsP P L) 0 (leF P (hsP P L))=CL at *;generalize leF P (hsP P L)=D at *;have FE:∀ (q:Value) (W:World),(Instr.field 24 (.agg #[.int .i64 D,q]) 0).run Tryz.prog W=.ok (.int .i64 D) W:=fun q W=>by kernel_rfl
      go_wp2
      go_region_held3 (fun W'=>Below w2.heap.size w2 W'∧W'.cell? ⟨w.heap.size,0,none⟩=some (.int .i64 P)∧W'.cell? ⟨w.heap.size,1,none⟩=some (.slice o n c)) (first | assumption | (exact mk _ (grow (And.left (by assumption)) _)) | (exact mk _ (Below.drew (And.left (by assumption)))) | (exact mk _ (below_drewN (And.left (by assumption)) _)))
       (first
       | (go_at_call 109;(with_reducible refine (HL.out _ (And.left (by assumption))).mono ?_);rintro e w' ⟨⟨v8,rfl,P8⟩,hb⟩;obtain ⟨o8,c8,rfl⟩:=Sl.shape P8;have hS:=mk w' (down (And.left (by assumption)) hb)))
      all_goals
       go_wp2
       go_ret
       exact ⟨by rw [r.out];rfl,down A2.out (And.left (by assumption))⟩
     ·have kz:decide (0<(n:Int))=true:=zdt (by omega);have kz2:decide (0<n)=true:=zdt z;obtain ⟨K,hK⟩:∃ K,n - 1=K:=⟨_,rfl⟩;have kk1:(n:Int) - 1=K:=by omega
      have kk2:decide (0≤(K:Int))=true:=zdt (by omega);have kk3:decide (0≤K)=true:=zdt (by omega);have km:(K:Int)<(n:Int):=by omega
      have km':K<n:=by omega
      have zi:(0:Int)<(n:Int):=by omega
      obtain ⟨b,off,rfl,bl,cs⟩:=prs_here HP.out (show 0<L.length by omega);obtain ⟨c0,-⟩:=cs 0 (by omega);obtain ⟨-,d1⟩:=cs K (by omega);rw [Nat.zero_mul,Nat.add_zero] at c0;have IE:=IE z;rw [hK] at IE;have v0:=VA 0 z;have v1:=VA K km';obtain ⟨x,hx⟩:∃ x,(L.getD 0 (0,0)).1=x:=⟨_,rfl⟩;obtain ⟨y,hy⟩:∃ y,(L.getD K (0,0)).2=y:=⟨_,rfl⟩;rw [hx] at c0 IE;rw [hy] at d1 IE;replace hl:=zh hl;clear cs hx hy VA hK
      by_cases e0:x<0
      ·have ke:decide (x<0)=true:=zdt e0;have r:=bad (.inr (.inr (by rw [← Bool.not_eq_true,ip_iff];intro q;have:=(IE.1 q).1;omega)));clear IE bad YES e0;go_wp2
       go_quiet (fail)
       have A3:=zh (below_drewN A2.out nq);go_wp2
       go_ret
       exact ⟨by rw [r.out];rfl,A3.out⟩
      ·have ke:decide (x<0)=false:=zdf e0
       by_cases e1:P<y
       ·have kf:decide (P<y)=true:=zdt e1;have r:=bad (.inr (.inr (by rw [← Bool.not_eq_true,ip_iff];intro q;have:=(IE.1 q).2;omega)));clear IE bad YES e0 e1;go_wp2
        go_quiet (fail)
        have A3:=zh (below_drewN A2.out nq);go_wp2
        go_ret
        exact ⟨by rw [r.out];rfl,A3.out⟩
       ·have kf:decide (P<y)=false:=zdf e1;have CI:Hid (InP P L):=IE.2 ⟨by omega,by omega⟩;have r:=YES CI.out;clear YES IE bad e0 e1;go_wp2
        go_quiet (fail)
        clear c0 d1 ke kf bl v0 v1 kk1 kk2 kk3 km km' zi kz kz2;obtain ⟨o,ho⟩:∃ o,some (⟨b,off,none⟩:Addr)=o:=⟨_,rfl⟩;rw [ho] at HP T2 ⊢;clear ho;replace A2:=zh (below_drewN A2.out nq);replace HP:=zh (HP.out.keep (below_drewN (here w2) nq));replace T2:=zh (T2.out.keep (below_drewN (here w2) nq));clear t0 t1 tl;generalize w2.drewN nq=w2 at *;obtain ⟨t0,t1,tl⟩:=T2.out;have HL:Hid (∀ W,Below w2.heap.size w2 W→Calls Tryz.prog 109 #[.int .i64 P,.slice o n c] W fun e w'=>(∃ v',e=.returned (.agg #[.int .i64 (leF P (hsP P L)),v'])∧PairS W.heap.size w' v' (caL (hsP P L) 0 (leF P (hsP P L))))∧Below W.heap.size W w'):=fun W h=>rpleast _ P L (by rw [hl.out];omega) cc.out CI.out P0 P1 W (HP.out.keep h);have mk:∀ W',Below w2.heap.size w2 W'→Below w2.heap.size w2 W'∧W'.cell? ⟨w.heap.size,0,none⟩=some (.int .i64 P)∧W'.cell? ⟨w.heap.size,1,none⟩=some (.slice o n c):=fun W' q=>⟨q,(T2.out.keep q).c0,(T2.out.keep q).c1⟩;have s6:=mk w2 (here w2);clear T2 t0 t1 tl;generalize caL (hsP P L) 0 (leF P (hsP P L))=CL at *;generalize leF P (hsP P L)=D at *;have FE:∀ (q:Value) (W:World),(Instr.field 24 (.agg #[.int .i64 D,q]) 0).run Tryz.prog W=.ok (.int .i64 D) W:=fun q W=>by kernel_rfl
        go_wp2
        go_region_held3 (fun W'=>Below w2.heap.size w2 W'∧W'.cell? ⟨w.heap.size,0,none⟩=some (.int .i64 P)∧W'.cell? ⟨w.heap.size,1,none⟩=some (.slice o n c)) (first | assumption | (exact mk _ (grow (And.left (by assumption)) _)) | (exact mk _ (Below.drew (And.left (by assumption)))) | (exact mk _ (below_drewN (And.left (by assumption)) _)))
         (first
         | (go_at_call 109;(with_reducible refine (HL.out _ (And.left (by assumption))).mono ?_);rintro e w' ⟨⟨v8,rfl,P8⟩,hb⟩;obtain ⟨o8,c8,rfl⟩:=Sl.shape P8;have hS:=mk w' (down (And.left (by assumption)) hb)))
        all_goals
         go_wp2
         go_ret
         exact ⟨by rw [r.out];rfl,down A2.out (And.left (by assumption))⟩
set_option maxRecDepth 100000 in
set_option maxHeartbeats 2000000 in
theorem rpequal (va vb:Value) (P Q:Int) (A B:List Sp) (hA:A.length≤maxLen) (hB:B.length≤maxLen) {ba bb:Nat} (w:World) (a:PairS ba w va A) (b:PairS bb w vb B) :
  Calls Tryz.prog 71 #[.agg #[.int .i64 P,va],.agg #[.int .i64 Q,vb]] w fun e w'=>e=.returned (.bool (decide (P=Q)&&decide (A=B)))∧Below w.heap.size w w':=by
 have s1:=size_two w (.cells #[.int .i64 P,va] 24);have A1:=zh (grow (grow (here w) (.cells #[.int .i64 P,va] 24)) (.cells #[.int .i64 Q,vb] 24));have TA:=zh (Two.fst (here ((w.alloc (.cells #[.int .i64 P,va] 24)).alloc (.cells #[.int .i64 Q,vb] 24))));have TB:=zh (Two.snd (here ((w.alloc (.cells #[.int .i64 P,va] 24)).alloc (.cells #[.int .i64 Q,vb] 24))));have HS:=zh (rpsame va vb A B hA hB _ (a.keep A1.out) (b.keep A1.out));clear a b s1;obtain ⟨t0,t1,tl⟩:=TA.out;obtain ⟨u0,u1,ul⟩:=TB.out
 by_cases q:P=Q
 ·have kq:(P==Q)=true:=by rw [beq_iff_eq];exact q
  rw [zdt q,Bool.true_and];generalize decide (A=B)=D at *;clear q
  go_enter Tryz.func71,Tryz.ntmps71
  go_wp2_with fail
  refine HS.out.mono ?_;rintro e w4 ⟨rfl,hb⟩;have A4:=zd A1 hb;go_wp2
  go_ret
  exact ⟨rfl,A4.out⟩
 ·have kq:(P==Q)=false:=by rw [beq_eq_false_iff_ne];exact q
  rw [zdf q,Bool.false_and];clear q
  go_enter Tryz.func71,Tryz.ntmps71
  go_wp2
  go_ret
  exact ⟨rfl,A1.out⟩
theorem cmodP (a b:Int) (ha:I64 a) (b0:0<b) (b1:b≤12622780800) (w:World) :
  Calls Tryz.prog 136 #[.int .i64 a,.int .i64 b] w fun e w'=>e=.returned (.int .i64 (a % b))∧∃ n,w'=w.drewN n:=by
 have h:=mod_all a b ha.1 ha.2 (by omega) (by omega) w;rw [dR_pos b0] at h;exact h
theorem cfloorP (a b:Int) (ha:I64 a) (b0:0<b) (b1:b≤12622780800) (w:World) :
  Calls Tryz.prog 196 #[.int .i64 a,.int .i64 b] w fun e w'=>e=.returned (.int .i64 (a / b))∧∃ n,w'=w.drewN n:=by
 have h:=floor_all a b ha.1 ha.2 (by omega) (by omega) w;rw [dQ_pos b0] at h;exact h
theorem pv_big {P:Int} {L:List Sp} (h:pvB P L=true):0<P∧P≤12622780800∧L.length≤2000:=by
 have p:=pv_iff.1 h;exact ⟨by have:=p.p0;omega,p.p1,p.len⟩
set_option maxRecDepth 100000 in
set_option maxHeartbeats 1000000 in
theorem upequal (va vb:Value) (P Q:Int) (A B:List Sp) (hA:A.length≤maxLen) (hP:I64 P) (hQ:I64 Q) {ba bb:Nat} (w:World) (a:PairS ba w va A) (b:PairS bb w vb B) :
  Calls Tryz.prog 114 #[.agg #[.int .i64 P,va],.agg #[.int .i64 Q,vb]] w fun e w'=>e=.returned (.bool (pvB P A&&decide (P=Q)&&(A==B)))∧Below w.heap.size w w':=by
 have s1:=size_two w (.cells #[.int .i64 P,va] 24);have A1:=zh (grow (grow (here w) (.cells #[.int .i64 P,va] 24)) (.cells #[.int .i64 Q,vb] 24));have TA:=zh (Two.fst (here ((w.alloc (.cells #[.int .i64 P,va] 24)).alloc (.cells #[.int .i64 Q,vb] 24))));have TB:=zh (Two.snd (here ((w.alloc (.cells #[.int .i64 P,va] 24)).alloc (.cells #[.int .i64 Q,vb] 24))));have a2:=zh (a.keep A1.out);have b2:=zh (b.keep A1.out);have HV:=zh (upvalid va P A hA hP _ a2.out);clear a b;obtain ⟨t0,t1,tl⟩:=TA.out;obtain ⟨u0,u1,ul⟩:=TB.out
 cases p:pvB P A
 ·rw [p] at HV;rw [Bool.false_and,Bool.false_and];clear p s1
  go_enter Tryz.func114,Tryz.ntmps114
  go_wp2_with fail
  refine HV.out.mono ?_;rintro e w3 ⟨rfl,hb⟩;have A3:=zd A1 hb;clear hb A1 HV a2 b2;go_wp2
  go_ret
  exact ⟨rfl,A3.out⟩
 ·rw [p] at HV;rw [Bool.true_and];have lA:=(pv_big p).2.2
  by_cases q:P=Q
  ·have kq:(P==Q)=true:=by rw [beq_iff_eq];exact q
   rw [zdt q,Bool.true_and];have EQ:=zh (fun w3 (x:PairS ba w3 va A) (y:PairS bb w3 vb B)=>eq_pairs A B va vb (by omega) w3 x y);generalize (A==B)=R at *;clear p s1 q
   go_enter Tryz.func114,Tryz.ntmps114
   go_wp2_with fail
   refine HV.out.mono ?_;rintro e w3 ⟨rfl,hb⟩;have A3:=zd A1 hb;replace TA:=zh (TA.out.keep hb);replace TB:=zh (TB.out.keep hb);replace a2:=zh (a2.out.keep hb);replace b2:=zh (b2.out.keep hb);clear hb A1 HV t0 t1 tl u0 u1 ul;obtain ⟨t0,t1,tl⟩:=TA.out;obtain ⟨u0,u1,ul⟩:=TB.out;go_wp2_with fail
   refine (EQ.out _ a2.out b2.out).mono ?_;rintro e w4 ⟨rfl,n,rfl⟩;have A4:=zh (below_drewN A3.out n);clear A3 EQ a2 b2;go_wp2
   go_ret
   exact ⟨rfl,A4.out⟩
  ·have kq:(P==Q)=false:=by rw [beq_eq_false_iff_ne];exact q
   rw [zdf q,Bool.false_and];clear p s1 q
   go_enter Tryz.func114,Tryz.ntmps114
   go_wp2_with fail
   refine HV.out.mono ?_;rintro e w3 ⟨rfl,hb⟩;have A3:=zd A1 hb;replace TA:=zh (TA.out.keep hb);replace TB:=zh (TB.out.keep hb);clear hb A1 HV t0 t1 tl u0 u1 ul a2 b2;obtain ⟨t0,t1,tl⟩:=TA.out;obtain ⟨u0,u1,ul⟩:=TB.out;go_wp2
   go_ret
   exact ⟨rfl,A3.out⟩
end Go.Proofs.YtmamlgaogpkagaaGreat
