/- PeGC PeGCa. -/
import Derived.Test.YtmamlgaogpkagaaGreatQLPlain
import Derived.Test.YtmamlgaogpkagaaGreatQLGen
import Derived.Test.YtmamlgaogpkagaaGreatQLSl
import Derived.Test.YtmamlgaogpkagaaGreatQPeA
import Derived.Test.YtmamlgaogpkagaaGreatQPeB
import Derived.Test.YtmamlgaogpkagaaGreatQRnKF
import Derived.Test.YtmamlgaogpkagaaGreatQPeKD
import Derived.Deep.RegionHeld3
namespace Go.Proofs.YtmamlgaogpkagaaGreat
open Go.RowKit
set_option linter.unusedVariables false
set_option linter.unusedSimpArgs false
theorem va_rn {L:List Sp} (h:L.length≤2000):vaB L=rnB L:=by
 rw [Bool.eq_iff_iff,vaB_iff,rn_iff];exact ⟨fun x=>x.2,fun x=>⟨h,x⟩⟩
set_option maxRecDepth 100000 in
set_option maxHeartbeats 2000000 in
theorem rpvalid (va:Value) (P:Int) (L:List Sp) (hL:L.length≤maxLen) (hP:I64 P) {ba:Nat} (w:World) (h:PairS ba w va L) :
    Calls Tryz.prog 56 #[.agg #[.int .i64 P,va]] w fun e w'=>e=.returned (.bool (pvB P L))∧Below w.heap.size w w':=by
  have mx:L.length≤9223372036854775807:=by unfold maxLen at hL;omega
  obtain ⟨o,c,rfl⟩:=prs_shape h;have T1:=zh (Two.new (here (w.alloc (.cells #[.int .i64 P,.slice o L.length c] 24))));have A1:=zh (grow (here w) (.cells #[.int .i64 P,.slice o L.length c] 24));have HP:=zh (h.keep A1.out);have HV:=zh (rpruns (.slice o L.length c) L hL _ HP.out);have bad:(decide (1≤P)&&decide (P≤12622780800))=false∨vaB L=false∨ipB P L=false→Hid (pvB P L=false):=fun x=>by
    show _=_
    unfold pvB
    rcases x with x | x | x
    · rw [x];rfl
    · rw [x];simp
    · rw [x];simp
  clear h;obtain ⟨n,hl⟩:∃ n,L.length=n:=⟨_,rfl⟩;obtain ⟨t0,t1,tl⟩:=T1.out;rw [hl] at mx HV HP A1 T1 t0 t1 tl ⊢
  by_cases i0:P<1
  · have k0:decide (P<1)=true:=zdt i0;have r:=bad (.inl (by rw [zdf (show ¬ 1≤P by omega)];rfl));clear bad i0 HV HP hl
    go_enter Tryz.func56,Tryz.ntmps56
    go_wp2
    go_ret
    exact ⟨by rw [r.out];rfl,A1.out⟩
  · have k0:decide (P<1)=false:=zdf i0
    by_cases i1:12622780800<P
    · have k1:decide (12622780800<P)=true:=zdt i1;have r:=bad (.inl (by rw [zdf (show ¬ P≤12622780800 by omega),Bool.and_false]));clear bad i1 i0 HV HP hl
      go_enter Tryz.func56,Tryz.ntmps56
      go_wp2
      go_ret
      exact ⟨by rw [r.out];rfl,A1.out⟩
    · have k1:decide (12622780800<P)=false:=zdf i1
      by_cases i2:2000<n
      · have k2:decide (2000<(n:Int))=true:=zdt (by omega);have k2':decide (2000<n)=true:=zdt i2;have r:=bad (.inr (.inl (by rw [← Bool.not_eq_true,vaB_iff];intro q;omega)));clear bad i1 i0 i2 HV HP hl
        go_enter Tryz.func56,Tryz.ntmps56
        go_wp2
        go_ret
        exact ⟨by rw [r.out];rfl,A1.out⟩
      · have k2:decide (2000<(n:Int))=false:=zdf (by omega);have k2':decide (2000<n)=false:=zdf i2;have vr:=va_rn (show L.length≤2000 by omega);rw [← vr] at HV
        cases u:vaB L
        · have r:=bad (.inr (.inl u));rw [u] at HV;clear bad i1 i0 i2 HP hl u vr
          go_enter Tryz.func56,Tryz.ntmps56
          go_wp2_with fail
          refine HV.out.mono ?_;rintro e w3 ⟨rfl,hb⟩;have A3:=zd A1 hb;clear hb A1 HV;go_wp2
          go_ret
          exact ⟨by rw [r.out];rfl,A3.out⟩
        · rw [u] at HV;obtain ⟨ln,-,cn⟩:=vaB_iff.1 u;have P0':1≤P:=by omega
          have P0:0<P:=by omega
          have P1:P≤12622780800:=by omega
          have cc:=zh cn;have YES:InP P L→Hid (pvB P L=decide (leF P (hsP P L)=P)):=fun x=>by
            show _=_
            unfold pvB
            rw [u,ip_iff.2 x,zdt P0',zdt P1];simp
          have IE:=fun x=>@ip_ends P L cn x;have VA:=fun k (hk:k<L.length)=>va_at u hk;rw [hl] at IE VA ln;clear vr u cn i2
          go_enter Tryz.func56,Tryz.ntmps56
          go_wp2_with fail
          refine HV.out.mono ?_;rintro e w2 ⟨rfl,hb⟩;have A2:=zd A1 hb;have T2:=zh (T1.out.keep hb);replace HP:=zh (HP.out.keep hb);clear hb A1 HV T1 t0 t1 tl;obtain ⟨t0,t1,tl⟩:=T2.out
          rcases Nat.eq_zero_or_pos n with z | z
          · have e0:L=[]:=List.eq_nil_of_length_eq_zero (by omega);have kz:decide (0<(n:Int))=false:=zdf (by omega);have kz2:decide (0<n)=false:=zdf (by omega);replace hl:=zh hl;replace z:=zh z;have CI:Hid (InP P L):=by show InP _ _;rw [e0];intro q hq;cases hq
            have r:=YES CI.out;clear YES IE VA bad e0;go_wp2
            go_quiet (fail)
            replace A2:=zh (below_drewN A2.out nq);replace HP:=zh (HP.out.keep (below_drewN (here w2) nq));replace T2:=zh (T2.out.keep (below_drewN (here w2) nq));clear t0 t1 tl;generalize w2.drewN nq=w2 at *;obtain ⟨t0,t1,tl⟩:=T2.out;have HL:Hid (∀ W,Below w2.heap.size w2 W→Calls Tryz.prog 109 #[.int .i64 P,.slice o n c] W fun e w'=>(∃ v',e=.returned (.agg #[.int .i64 (leF P (hsP P L)),v'])∧PairS W.heap.size w' v' (caL (hsP P L) 0 (leF P (hsP P L))))∧Below W.heap.size W w'):=fun W h=>rpleast _ P L (by rw [hl.out];omega) cc.out CI.out P0 P1 W (HP.out.keep h);have mk:∀ W',Below w2.heap.size w2 W'→Below w2.heap.size w2 W'∧W'.cell? ⟨w.heap.size,0,none⟩=some (.int .i64 P)∧W'.cell? ⟨w.heap.size,1,none⟩=some (.slice o n c):=fun W' q=>⟨q,(T2.out.keep q).c0,(T2.out.keep q).c1⟩;have s6:=mk w2 (here w2);clear T2 t0 t1 tl;generalize caL (hsP P L) 0 (leF P (hsP P L))=CL at *;generalize leF P (hsP P L)=D at *;have FE:∀ (q:Value) (W:World),(Instr.field 24 (.agg #[.int .i64 D,q]) 0).run Tryz.prog W=.ok (.int .i64 D) W:=fun q W=>by kernel_rfl
            go_wp2
            go_region_held3 (fun W'=>Below w2.heap.size w2 W'∧W'.cell? ⟨w.heap.size,0,none⟩=some (.int .i64 P)∧W'.cell? ⟨w.heap.size,1,none⟩=some (.slice o n c)) (first | assumption | (exact mk _ (grow (And.left (by assumption)) _)) | (exact mk _ (Below.drew (And.left (by assumption)))) | (exact mk _ (below_drewN (And.left (by assumption)) _)))
              (first
               | (go_at_call 109;(with_reducible refine (HL.out _ (And.left (by assumption))).mono ?_);rintro e w' ⟨⟨v8,rfl,P8⟩,hb⟩;obtain ⟨o8,c8,rfl⟩:=Sl.shape P8;have hS:=mk w' (down (And.left (by assumption)) hb)))
            all_goals
              go_wp2
              go_ret
              exact ⟨by rw [r.out];rfl,down A2.out (And.left (by assumption))⟩
          · have kz:decide (0<(n:Int))=true:=zdt (by omega);have kz2:decide (0<n)=true:=zdt z;obtain ⟨K,hK⟩:∃ K,n - 1=K:=⟨_,rfl⟩;have kk1:(n:Int) - 1=K:=by omega
            have kk2:decide (0≤(K:Int))=true:=zdt (by omega);have kk3:decide (0≤K)=true:=zdt (by omega);have km:(K:Int)<(n:Int):=by omega
            have km':K<n:=by omega
            have zi:(0:Int)<(n:Int):=by omega
            obtain ⟨b,off,rfl,bl,cs⟩:=prs_here HP.out (show 0<L.length by omega);obtain ⟨c0,-⟩:=cs 0 (by omega);obtain ⟨-,d1⟩:=cs K (by omega);rw [Nat.zero_mul,Nat.add_zero] at c0;have IE:=IE z;rw [hK] at IE;have v0:=VA 0 z;have v1:=VA K km';obtain ⟨x,hx⟩:∃ x,(L.getD 0 (0,0)).1=x:=⟨_,rfl⟩;obtain ⟨y,hy⟩:∃ y,(L.getD K (0,0)).2=y:=⟨_,rfl⟩;rw [hx] at c0 IE;rw [hy] at d1 IE;replace hl:=zh hl;clear cs hx hy VA hK
            by_cases e0:x<0
            · have ke:decide (x<0)=true:=zdt e0;have r:=bad (.inr (.inr (by rw [← Bool.not_eq_true,ip_iff];intro q;have:=(IE.1 q).1;omega)));clear IE bad YES e0;go_wp2
              go_quiet (fail)
              have A3:=zh (below_drewN A2.out nq);go_wp2
              go_ret
              exact ⟨by rw [r.out];rfl,A3.out⟩
            · have ke:decide (x<0)=false:=zdf e0
              by_cases e1:P<y
              · have kf:decide (P<y)=true:=zdt e1;have r:=bad (.inr (.inr (by rw [← Bool.not_eq_true,ip_iff];intro q;have:=(IE.1 q).2;omega)));clear IE bad YES e0 e1;go_wp2
                go_quiet (fail)
                have A3:=zh (below_drewN A2.out nq);go_wp2
                go_ret
                exact ⟨by rw [r.out];rfl,A3.out⟩
              · have kf:decide (P<y)=false:=zdf e1;have CI:Hid (InP P L):=IE.2 ⟨by omega,by omega⟩;have r:=YES CI.out;clear YES IE bad e0 e1;go_wp2
                go_quiet (fail)
                clear c0 d1 ke kf bl v0 v1 kk1 kk2 kk3 km km' zi kz kz2;obtain ⟨o,ho⟩:∃ o,some (⟨b,off,none⟩:Addr)=o:=⟨_,rfl⟩;rw [ho] at HP T2 ⊢;clear ho;replace A2:=zh (below_drewN A2.out nq);replace HP:=zh (HP.out.keep (below_drewN (here w2) nq));replace T2:=zh (T2.out.keep (below_drewN (here w2) nq));clear t0 t1 tl;generalize w2.drewN nq=w2 at *;obtain ⟨t0,t1,tl⟩:=T2.out;have HL:Hid (∀ W,Below w2.heap.size w2 W→Calls Tryz.prog 109 #[.int .i64 P,.slice o n c] W fun e w'=>(∃ v',e=.returned (.agg #[.int .i64 (leF P (hsP P L)),v'])∧PairS W.heap.size w' v' (caL (hsP P L) 0 (leF P (hsP P L))))∧Below W.heap.size W w'):=fun W h=>rpleast _ P L (by rw [hl.out];omega) cc.out CI.out P0 P1 W (HP.out.keep h);have mk:∀ W',Below w2.heap.size w2 W'→Below w2.heap.size w2 W'∧W'.cell? ⟨w.heap.size,0,none⟩=some (.int .i64 P)∧W'.cell? ⟨w.heap.size,1,none⟩=some (.slice o n c):=fun W' q=>⟨q,(T2.out.keep q).c0,(T2.out.keep q).c1⟩;have s6:=mk w2 (here w2);clear T2 t0 t1 tl;generalize caL (hsP P L) 0 (leF P (hsP P L))=CL at *;generalize leF P (hsP P L)=D at *;have FE:∀ (q:Value) (W:World),(Instr.field 24 (.agg #[.int .i64 D,q]) 0).run Tryz.prog W=.ok (.int .i64 D) W:=fun q W=>by kernel_rfl
                go_wp2
                go_region_held3 (fun W'=>Below w2.heap.size w2 W'∧W'.cell? ⟨w.heap.size,0,none⟩=some (.int .i64 P)∧W'.cell? ⟨w.heap.size,1,none⟩=some (.slice o n c)) (first | assumption | (exact mk _ (grow (And.left (by assumption)) _)) | (exact mk _ (Below.drew (And.left (by assumption)))) | (exact mk _ (below_drewN (And.left (by assumption)) _)))
                  (first
                   | (go_at_call 109;(with_reducible refine (HL.out _ (And.left (by assumption))).mono ?_);rintro e w' ⟨⟨v8,rfl,P8⟩,hb⟩;obtain ⟨o8,c8,rfl⟩:=Sl.shape P8;have hS:=mk w' (down (And.left (by assumption)) hb)))
                all_goals
                  go_wp2
                  go_ret
                  exact ⟨by rw [r.out];rfl,down A2.out (And.left (by assumption))⟩
set_option maxRecDepth 100000 in
set_option maxHeartbeats 2000000 in
theorem rpequal (va vb:Value) (P Q:Int) (A B:List Sp) (hA:A.length≤maxLen) (hB:B.length≤maxLen) {ba bb:Nat} (w:World) (a:PairS ba w va A) (b:PairS bb w vb B) :
    Calls Tryz.prog 71 #[.agg #[.int .i64 P,va],.agg #[.int .i64 Q,vb]] w fun e w'=>e=.returned (.bool (decide (P=Q)&&decide (A=B)))∧Below w.heap.size w w':=by
  have s1:=size_two w (.cells #[.int .i64 P,va] 24);have A1:=zh (grow (grow (here w) (.cells #[.int .i64 P,va] 24)) (.cells #[.int .i64 Q,vb] 24));have TA:=zh (Two.fst (here ((w.alloc (.cells #[.int .i64 P,va] 24)).alloc (.cells #[.int .i64 Q,vb] 24))));have TB:=zh (Two.snd (here ((w.alloc (.cells #[.int .i64 P,va] 24)).alloc (.cells #[.int .i64 Q,vb] 24))));have HS:=zh (rpsame va vb A B hA hB _ (a.keep A1.out) (b.keep A1.out));clear a b s1;obtain ⟨t0,t1,tl⟩:=TA.out;obtain ⟨u0,u1,ul⟩:=TB.out
  by_cases q:P=Q
  · have kq:(P==Q)=true:=by rw [beq_iff_eq];exact q
    rw [zdt q,Bool.true_and];generalize decide (A=B)=D at *;clear q
    go_enter Tryz.func71,Tryz.ntmps71
    go_wp2_with fail
    refine HS.out.mono ?_;rintro e w4 ⟨rfl,hb⟩;have A4:=zd A1 hb;go_wp2
    go_ret
    exact ⟨rfl,A4.out⟩
  · have kq:(P==Q)=false:=by rw [beq_eq_false_iff_ne];exact q
    rw [zdf q,Bool.false_and];clear q
    go_enter Tryz.func71,Tryz.ntmps71
    go_wp2
    go_ret
    exact ⟨rfl,A1.out⟩
end Go.Proofs.YtmamlgaogpkagaaGreat
