/- PeGGa PeGJ TsQa TsEa TrB. -/
import Derived.Test.YtmamlgaogpkagaaGreatQLPlain
import Derived.Test.YtmamlgaogpkagaaGreatQLGen
import Derived.Test.YtmamlgaogpkagaaGreatQLSl
import Derived.Test.YtmamlgaogpkagaaGreatQLSla
import Derived.Test.YtmamlgaogpkagaaGreatQPeA
import Derived.Test.YtmamlgaogpkagaaGreatQRnT
import Derived.Test.YtmamlgaogpkagaaGreatQRnV
import Derived.Test.YtmamlgaogpkagaaGreatQPeB
import Derived.Test.YtmamlgaogpkagaaGreatQRnKF
import Derived.Test.YtmamlgaogpkagaaGreatQPeKD
import Derived.Test.YtmamlgaogpkagaaGreatQPeGC
import Derived.Test.YtmamlgaogpkagaaGreatQPeKIa
import Derived.Test.YtmamlgaogpkagaaGreatQPeKJ
import Derived.Test.YtmamlgaogpkagaaGreatQPeGD
import Derived.Test.YtmamlgaogpkagaaGreatQPeHEa
import Derived.StillTailTactics
import Derived.Deep.AppendLies
import Derived.BigQuiet
import Derived.Deep.QuietTactic
namespace Go.Proofs.YtmamlgaogpkagaaGreat
open Go.RowKit
set_option linter.unusedVariables false
set_option linter.unusedSimpArgs false
theorem wi_add {P:Int} {A:List Sp} {t a b:Int} (ab:a<b) (s:Sps P A t) {i:Nat} (hi:i<A.length) {f g:Int} (hf:f=if (A.getD i (0,0)).1+t<a then a else (A.getD i (0,0)).1+t) (hg:g=if b<(A.getD i (0,0)).2+t then b else (A.getD i (0,0)).2+t) :
    caL (hsP P A) a (clZ b (t+eN A (i+1)))=if f<g then addL (caL (hsP P A) a (clZ b (t+eN A i))) (f,g) else caL (hsP P A) a (clZ b (t+eN A i)):=by
  have c:=s.bd i hi;have n:=s.no i hi;have y:=s.yes i hi
  show caL (hsP P A) a (clZ b (t+(A.getD i (0,0)).2))=_
  generalize A.getD i (0,0)=q at *;generalize eN A i=E at *;have hf':f=a∧q.1+t<a∨f=q.1+t∧a≤q.1+t:=by rw [hf];split <;> omega
  have hg':g=b∧b<q.2+t∨g=q.2+t∧q.2+t≤b:=by rw [hg];split <;> omega
  have ce:clZ b (t+E)=b∧b<t+E∨clZ b (t+E)=t+E∧t+E≤b:=by unfold clZ;split <;> omega
  have cv:clZ b (t+q.2)=b∧b<t+q.2∨clZ b (t+q.2)=t+q.2∧t+q.2≤b:=by unfold clZ;split <;> omega
  clear hf hg;generalize clZ b (t+E)=X at *;generalize clZ b (t+q.2)=Y at *
  by_cases z:f<g
  · rw [if_pos z,show Y=g by omega]
    by_cases k:f=a
    · have e:caL (hsP P A) a X=caL (hsP P A) a a:=by
        rcases Int.le_total X a with h | h
        · rw [ca_none _ h,ca_none _ (Int.le_refl a)]
        · exact (ca_skip h fun x x0 x1=>n x (by omega) (by omega)).symm
      rw [e];exact ca_add (by omega) (by omega) z (fun x x0 x1=>by omega) (fun x x0 x1=>y x (by omega) (by omega))
    · exact ca_add (by omega) (by omega) z (fun x x0 x1=>n x (by omega) (by omega)) (fun x x0 x1=>y x (by omega) (by omega))
  · rw [if_neg z]
    rcases Int.lt_or_le a Y with h | h
    rotate_left
    · rw [ca_none _ h,ca_none _ (show X≤a by omega)]
    · exact (ca_skip (by omega) fun x x0 x1=>n x (by omega) (by omega)).symm
theorem wi_last {P:Int} {A:List Sp} {t a b:Int} (s:Sps P A t):caL (hsP P A) a (clZ b (t+eN A A.length))=caL (hsP P A) a (clZ b (t+P)):=by
 have l:=s.lp;have ce:clZ b (t+eN A A.length)=b∧b<t+eN A A.length∨clZ b (t+eN A A.length)=t+eN A A.length∧t+eN A A.length≤b:=by unfold clZ;split <;> omega
 have cv:clZ b (t+P)=b∧b<t+P∨clZ b (t+P)=t+P∧t+P≤b:=by unfold clZ;split <;> omega
 have n:=s.last;generalize clZ b (t+eN A A.length)=X at *;generalize clZ b (t+P)=Y at *;exact ca_skip (by omega) fun x x0 x1=>n x (by omega) (by omega)
theorem wi_none {P a b:Int}:caL (hsP P []) a b=[]:=(ca_eq (show Cn [] from trivial) fun x=>by rw [inB_nil];show _=(_&&inB [] _);rw [inB_nil,Bool.and_false]).symm
theorem wi_one {A:List Sp} {a b:Int} (pv:PV 1 A) (ne:0<A.length) (ab:a<b):caL (hsP 1 A) a b=[(a,b)]:=by
 have all:∀ x,hsP 1 A x=true:=fun x=>by
  have s:=sps pv (at':=x) ⟨x,by omega⟩;have b:=s.bd 0 ne;have e:eN A 0=0:=rfl;exact s.yes 0 ne x (by omega) (by omega)
 rw [ca_add (Int.le_refl a) (Int.le_refl a) ab (fun x x0 x1=>by omega) (fun x _ _=>all x),ca_none _ (Int.le_refl a)];rfl
theorem cl_le (b e:Int):clZ b e≤b:=by unfold clZ;split <;> omega
theorem wi_full {f:Int→Bool} {a b e:Int} (h:2000<(caL f a (clZ b e)).length):wiR f a b=([],5):=by
 have:=len_mono' f (a:=a) (cl_le b e)
 unfold wiR
 rw [if_pos (by omega)]
theorem wi_done {f:Int→Bool} {a b e:Int} (be:b≤e) (h:(caL f a (clZ b e)).length≤2000):wiR f a b=(caL f a (clZ b e),0):=by
 have c:clZ b e=b:=by unfold clZ;split <;> omega
 rw [c] at h ⊢
 unfold wiR
 rw [if_neg (by omega)]
noncomputable def wvR (P:Int) (A:List Sp) (x y:Int):List Sp × Int:=if pvB P A&&spB (x,y) then wiR (hsP P A) x y else ([],1)
set_option maxRecDepth 100000 in
set_option maxHeartbeats 4000000 in
theorem rpwindow (va:Value) (P:Int) (A:List Sp) (hA:A.length≤maxLen) (hP:I64 P) (xa yb:Int) (hx:I64 xa) (hy:I64 yb) {ba:Nat} (w:World) (a:PairS ba w va A) :
    Calls Tryz.prog 90 #[.agg #[.int .i64 P,va],.agg #[.int .i64 xa,.int .i64 yb]] w fun e w'=>(∃ v',e=.returned (.tuple #[v',.int .i64 (wvR P A xa yb).2])∧PairS 0 w' v' (wvR P A xa yb).1)∧Below w.heap.size w w':=by
  obtain ⟨i0,hi,hz0,hz1,hz2⟩:=info_parts infoS;have A2:=zh (grow (grow (here w) (.cells #[.int .i64 P,va] 24)) (.cells #[.int .i64 xa,.int .i64 yb] 40));have TA:=zh (Two.fst (here ((w.alloc (.cells #[.int .i64 P,va] 24)).alloc (.cells #[.int .i64 xa,.int .i64 yb] 40))));have TB:=zh (Two.snd (here ((w.alloc (.cells #[.int .i64 P,va] 24)).alloc (.cells #[.int .i64 xa,.int .i64 yb] 40))));have a2:=zh (a.keep A2.out);have HV:=zh (rpvalid va P A hA hP _ a2.out);have HSp:=zh (fun w=>rpspan xa yb w);obtain ⟨oa,ca,rfl⟩:=prs_shape a;obtain ⟨n,hn⟩:∃ n,A.length=n:=⟨_,rfl⟩;rw [hn] at a2 TA TB A2 HV ⊢;obtain ⟨t0,t1,tl⟩:=TA.out;obtain ⟨u0,u1,ul⟩:=TB.out;clear a
  cases p:pvB P A
  · have r:Hid (wvR P A xa yb=([],1)):=by show _=_;unfold wvR;rw [p];rfl
    rw [p] at HV
    go_enter Tryz.func90,Tryz.ntmps90
    go_wp2_with fail
    refine HV.out.mono ?_;rintro e w3 ⟨rfl,hb⟩;have A3:=zd A2 hb;replace TA:=zh (TA.out.keep hb);replace TB:=zh (TB.out.keep hb);replace a2:=zh (a2.out.keep hb);clear hb A2 HV t0 t1 tl u0 u1 ul;obtain ⟨t0,t1,tl⟩:=TA.out;obtain ⟨u0,u1,ul⟩:=TB.out;go_wp2
    go_ret2
    rw [r.out];exact ⟨⟨_,rfl,Sl.none _ _⟩,A3.out⟩
  · rw [p] at HV
    cases s:spB (xa,yb)
    · have r:Hid (wvR P A xa yb=([],1)):=by show _=_;unfold wvR;rw [p,s];rfl
      rw [s] at HSp
      go_enter Tryz.func90,Tryz.ntmps90
      go_wp2_with fail
      refine HV.out.mono ?_;rintro e w3 ⟨rfl,hb⟩;have A3:=zd A2 hb;replace TA:=zh (TA.out.keep hb);replace TB:=zh (TB.out.keep hb);replace a2:=zh (a2.out.keep hb);clear hb A2 HV t0 t1 tl u0 u1 ul;obtain ⟨t0,t1,tl⟩:=TA.out;obtain ⟨u0,u1,ul⟩:=TB.out;go_wp2_with fail
      refine (HSp.out _).mono ?_;rintro e w4 ⟨rfl,hb⟩;have A4:=zd A3 hb;replace TA:=zh (TA.out.keep hb);replace TB:=zh (TB.out.keep hb);replace a2:=zh (a2.out.keep hb);clear hb A3 HSp t0 t1 tl u0 u1 ul;obtain ⟨t0,t1,tl⟩:=TA.out;obtain ⟨u0,u1,ul⟩:=TB.out;go_wp2
      go_ret2
      rw [r.out];exact ⟨⟨_,rfl,Sl.none _ _⟩,A4.out⟩
    · have pv:=pv_iff.1 p;have rv:Hid (wvR P A xa yb=wiR (hsP P A) xa yb):=by show _=_;unfold wvR;rw [p,s];rfl
      obtain ⟨x0,y1,xy⟩:-4398046511104≤xa∧yb≤4398046511104∧xa<yb:=by
        have:=spB_iff.1 s;simp only at this;omega
      have p0:=pv.p0;have p1:=pv.p1;have alen:=pv.len;rw [hn] at alen;have P0:0<P:=by omega
      rw [s] at HSp;clear p s
      by_cases n0:n=0
      · obtain rfl:A=[]:=List.length_eq_zero_iff.1 (by omega);obtain rfl:n=0:=n0;have r:Hid (wvR P [] xa yb=([],0)):=by show _=_;rw [rv.out];unfold wiR;rw [wi_none];rfl
        clear rv pv
        go_enter Tryz.func90,Tryz.ntmps90
        go_wp2_with fail
        refine HV.out.mono ?_;rintro e w3 ⟨rfl,hb⟩;have A3:=zd A2 hb;replace TA:=zh (TA.out.keep hb);replace TB:=zh (TB.out.keep hb);replace a2:=zh (a2.out.keep hb);clear hb A2 HV t0 t1 tl u0 u1 ul;obtain ⟨t0,t1,tl⟩:=TA.out;obtain ⟨u0,u1,ul⟩:=TB.out;go_wp2_with fail
        refine (HSp.out _).mono ?_;rintro e w4 ⟨rfl,hb⟩;have A4:=zd A3 hb;replace TA:=zh (TA.out.keep hb);replace TB:=zh (TB.out.keep hb);replace a2:=zh (a2.out.keep hb);clear hb A3 HSp t0 t1 tl u0 u1 ul;obtain ⟨t0,t1,tl⟩:=TA.out;obtain ⟨u0,u1,ul⟩:=TB.out;go_wp2
        go_ret2
        rw [r.out];exact ⟨⟨_,rfl,Sl.none _ _⟩,A4.out⟩
      · have k0:((n:Int)==0)=false:=by rw [beq_eq_false_iff_ne];omega
        by_cases q1:P=1
        · subst q1;have r:Hid (wvR 1 A xa yb=([(xa,yb)],0)):=by show _=_;rw [rv.out];unfold wiR;rw [wi_one pv (by omega) xy];rfl
          clear rv pv n0
          go_enter Tryz.func90,Tryz.ntmps90
          go_wp2_with fail
          refine HV.out.mono ?_;rintro e w3 ⟨rfl,hb⟩;have A3:=zd A2 hb;replace TA:=zh (TA.out.keep hb);replace TB:=zh (TB.out.keep hb);replace a2:=zh (a2.out.keep hb);clear hb A2 HV t0 t1 tl u0 u1 ul;obtain ⟨t0,t1,tl⟩:=TA.out;obtain ⟨u0,u1,ul⟩:=TB.out;go_wp2_with fail
          refine (HSp.out _).mono ?_;rintro e w4 ⟨rfl,hb⟩;have A4:=zd A3 hb;replace TA:=zh (TA.out.keep hb);replace TB:=zh (TB.out.keep hb);replace a2:=zh (a2.out.keep hb);clear hb A3 HSp t0 t1 tl u0 u1 ul;obtain ⟨t0,t1,tl⟩:=TA.out;obtain ⟨u0,u1,ul⟩:=TB.out;have FI:=zh (prs_lit1 w4 xa yb);have A5:=zh (grow A4.out (.cells #[.int .i64 xa,.int .i64 yb] 40));go_wp2
          go_ret2
          rw [r.out];exact ⟨⟨_,rfl,FI.out⟩,A5.out⟩
        · have k1:(P==1)=false:=by rw [beq_eq_false_iff_ne];exact q1
          have pv:=zh pv
          go_enter Tryz.func90,Tryz.ntmps90
          go_wp2_with fail
          refine HV.out.mono ?_;rintro e w3 ⟨rfl,hb⟩;have A3:=zd A2 hb;replace TA:=zh (TA.out.keep hb);replace TB:=zh (TB.out.keep hb);replace a2:=zh (a2.out.keep hb);clear hb A2 HV t0 t1 tl u0 u1 ul;obtain ⟨t0,t1,tl⟩:=TA.out;obtain ⟨u0,u1,ul⟩:=TB.out;go_wp2_with fail
          refine (HSp.out _).mono ?_;rintro e w4 ⟨rfl,hb⟩;have A4:=zd A3 hb;replace TA:=zh (TA.out.keep hb);replace TB:=zh (TB.out.keep hb);replace a2:=zh (a2.out.keep hb);clear hb A3 HSp t0 t1 tl u0 u1 ul;obtain ⟨t0,t1,tl⟩:=TA.out;obtain ⟨u0,u1,ul⟩:=TB.out;have HM:=zh (fun w=>(refmod_all xa P hx.1 hx.2 (by omega) (by omega) w).mono (fun e w' h=>(⟨h.1,by obtain ⟨d,hd⟩:=h.2;rw [hd];exact below_drewN (here w) d⟩:e=_∧Below w.heap.size w w')));rw [dR_pos P0] at HM;have m0:=Int.emod_nonneg xa (show P≠0 by omega);have m1:=Int.emod_lt_of_pos xa P0;have D0:P ∣ xa - xa % P:=⟨xa / P,by have:=Int.emod_add_mul_ediv xa P;omega⟩;obtain ⟨r0,hr0⟩:∃ r0,xa % P=r0:=⟨_,rfl⟩;rw [hr0] at HM m0 m1 D0;replace D0:=zh D0;clear hr0;have q0:∀ x':Kept w4,x'.wd.cell? ⟨w.heap.size,0,none⟩=some (.int .i64 P):=fun x'=>(TA.out.keep x'.ok).c0;have q1:∀ x':Kept w4,x'.wd.cell? ⟨w.heap.size+1,0,none⟩=some (.int .i64 xa):=fun x'=>(TB.out.keep x'.ok).c0;go_wp2
          refine wp_region_kept (by kernel_rfl) (by kernel_rfl) ?_
          repeat (go_big_quiet_step ((go_at_call 122;exact kept_call _ (HM.out _))))
          refine wpQuiet_nil ?_;intro w1 hx3;obtain ⟨⟨x3,hb3⟩,hw⟩:=hx3;replace hw:w1=x3:=hw;subst x3;have A1:=zd A4 hb3;replace TA:=zh (TA.out.keep hb3);replace TB:=zh (TB.out.keep hb3);replace a2:=zh (a2.out.keep hb3);clear q0 q1 hb3 A4 HM t0 t1 tl u0 u1 ul;have L0:=zh (here w1);have I0:Hid (w1.ownsRow w1.heap.size 40 2 (.slice none 0 0) ([]:List Sp).length (pairs [])):=World.ownsRow_nil _ _ _ _;have S0:Hid (P ∣ xa - r0∧[]=caL (hsP P A) xa (clZ yb (xa - r0))):=⟨D0.out,(ca_none _ (by unfold clZ;split <;> omega)).symm⟩;clear D0;go_wp2
          go_loopw [6,7] (fun v t wr=>∃ (at':Int) (v':Value) (RR:List Sp),v'=v∧RR.length≤2000∧xa - P<at'∧at'<yb+P∧t=.int .i64 at'∧Hid (P ∣ at'∧RR=caL (hsP P A) xa (clZ yb at'))∧Hid (wr.ownsRow w1.heap.size 40 2 v RR.length (pairs RR))∧Hid (Below w1.heap.size w1 wr)) (fun _ t _=>(yb - intOf t).toNat)
          case atStart=>exact ⟨xa - r0,_,[],rfl,Nat.zero_le _,by omega,by omega,by first | rfl | go_num,S0,I0,L0⟩
          case round =>
            obtain ⟨t,v',RR,rfl,rl0,t0,t1,rfl,ST,O1,B1⟩:=hrel;clear I0 L0 S0;have TA2:=zh (TA.out.keep B1.out);have TB2:=zh (TB.out.keep B1.out);obtain ⟨ta,tb,tl⟩:=TA2.out;obtain ⟨ua,ub,ul⟩:=TB2.out
            by_cases z:t<yb
            · have kz:=zdt z;have SS:=zh (sps pv.out ST.out.1);have I1:Hid (RR=caL (hsP P A) xa (clZ yb (t+eN A 0))):=by show _=_;rw [show t+eN A 0=t by show t+0=t;omega];exact ST.out.2
              have B1':=B1;have O1':=O1;clear TA2 TB2 O1 B1;go_wp2
              go_loopw [6,8] (fun v i wr=>∃ (k:Nat) (v':Value) (RR:List Sp),v'=v∧k≤n∧RR.length≤2000+k∧i=.int .i64 k∧Hid (RR=caL (hsP P A) xa (clZ yb (t+eN A k)))∧Hid (wr.ownsRow w1.heap.size 40 2 v RR.length (pairs RR))∧Hid (Below w1.heap.size w1 wr)) (fun _ i _=>n - (intOf i).toNat)
              case atStart=>exact ⟨0,_,RR,rfl,Nat.zero_le _,by omega,rfl,I1,O1',B1'⟩
              case round =>
                obtain ⟨i,v',R,rfl,hi',rl,rfl,SI,OI,BI⟩:=hrel;clear O1' B1' I1 ta tb tl ua ub ul;have TA3:=zh (TA.out.keep BI.out);have TB3:=zh (TB.out.keep BI.out);have PA3:=zh (a2.out.keep BI.out);obtain ⟨ta,tb,tl⟩:=TA3.out;obtain ⟨ua,ub,ul⟩:=TB3.out
                by_cases y:i<n
                · have ky:decide ((i:Int)<(n:Int))=true:=zdt (by omega);have e0:=SS.out.bd i (by omega);have SA:=fun f g hf hg=>wi_add xy SS.out (show i<A.length by omega) (f:=f) (g:=g) hf hg;obtain ⟨b,off,rfl,bl,cs⟩:=prs_here PA3.out (show i<A.length by omega);obtain ⟨c0,c1⟩:=cs i (by omega);rw [← SI.out] at SA;obtain ⟨i1,hi1⟩:∃ i1,i+1=i1:=⟨_,rfl⟩;rw [hi1] at SA;generalize A.getD i (0,0)=q at *;obtain ⟨qx,qy⟩:=q;replace c0:wr.cell? ⟨b,off+i * 2,none⟩=some (.int .i64 qx):=c0;replace c1:wr.cell? ⟨b,off+i * 2+1,none⟩=some (.int .i64 qy):=c1;have b0:0≤qx:=by have:=e0.1;have:=e0.2.1;show 0≤(qx,qy).1;omega
                  have b1:qx<qy:=e0.2.2.1;have b2:qy≤P:=e0.2.2.2;obtain ⟨X,hX⟩:∃ X,qx+t=X:=⟨_,rfl⟩;obtain ⟨Y,hY⟩:∃ Y,qy+t=Y:=⟨_,rfl⟩;replace SA:∀ f g,(f=if qx+t<xa then xa else qx+t)→(g=if yb<qy+t then yb else qy+t)→caL (hsP P A) xa (clZ yb (t+eN A i1))=if f<g then addL R (f,g) else R:=SA;rw [hX,hY] at SA;obtain ⟨f,hf⟩:∃ f,max X xa=f:=⟨_,rfl⟩;obtain ⟨g,hg⟩:∃ g,min Y yb=g:=⟨_,rfl⟩;replace SA:=zh (SA f g (by rw [← hf];split <;> omega) (by rw [← hg];split <;> omega));have xb:X<25245561600+4398046511104∧Y<25245561600+4398046511104∧-17020827311904<X∧-17020827311904<Y:=by omega
                  have fb:xa≤f∧g≤yb∧f<25245561600+4398046511104∧-17020827311904<g:=by
                    omega
                  clear e0 cs TA3 TB3;go_wp2
                  go_quiet (fail)
                  obtain ⟨w6,hw6⟩:∃ w6:World,wr.drewN nq=w6:=⟨_,rfl⟩;rw [hw6];have A6:=zh (show Below w1.heap.size w1 w6 by rw [← hw6];exact below_drewN BI.out _);have O6:Hid (w6.ownsRow w1.heap.size 40 2 v' R.length (pairs R)):=by show World.ownsRow _ _ _ _ _ _ _;rw [← hw6];exact OI.out
                  clear hw6 BI OI c0 c1 bl ta tb tl ua ub ul PA3 SI hf hg hX hY
                  by_cases fg:f<g
                  · have kg1:decide (g≤f)=false:=zdf (by omega);have STE:Hid (addL R (f,g)=caL (hsP P A) xa (clZ yb (t+eN A i1))):=by show _=_;rw [SA.out,if_pos fg]
                    have STL:(addL R (f,g)).length≤2000+i1:=by have:=addL_len R (f,g);omega
                    clear SA
                    rcases snoc_cases R with rfl | ⟨R',q,rfl⟩
                    · replace O6:Hid (w6.ownsRow w1.heap.size 40 2 v' 0 []):=O6;obtain ⟨ao,cp,rfl⟩:=(Sl.owns O6.out).shape;go_wp2_with (at_builtin;refine wpList_append_own _ rfl _ _ 22 rfl w1.heap.size 40 i0 (.agg #[.int .i64 0,.int .i64 0]) 2 16 Tryz.underlying22 hi hz0 hz1 hz2 rfl (by decide) (.slice ao 0 cp) 0 [] rfl (O6.out.alloc _) ⟨w6.heap.size,0,none⟩ 1 1 [.int .i64 f,.int .i64 g] rfl rfl (fun j u hj=>by rw [Addr.add_lit,Nat.zero_add,World.cell?_alloc_new];simpa using hj) (fun u hu=>by simp at hu;rcases hu with rfl | rfl <;> rfl) (by unfold maxLen;omega) (by omega) (by have:=A6.out.size;simp;omega) ?_)
                      intro v7 w7 hown hgrow _;have A7:Hid (Below w1.heap.size w1 w7):=(A6.out.alloc A6.out.size _).grown hgrow (by have:=A6.out.size;simp;omega) (own_ge O6.out);have O7:Hid (w7.ownsRow w1.heap.size 40 2 v7 (addL [] (f,g)).length (pairs (addL [] (f,g)))):=by
                        show World.ownsRow _ _ _ _ _ _ _;exact hown
                      clear hown hgrow O6 A6;go_wp2
                      go_roundw
                      case rel=>exact ⟨i1,_,(addL [] (f,g)),rfl,by omega,STL,by first | rfl | go_num,STE,O7,A7⟩
                      case measure=>simp [intOf];omega
                    · have len:(R'++[q]).length=R'.length+1:=by simp
                      obtain ⟨gb,cp,rfl⟩:∃ gb cp,v'=.slice (some ⟨gb,0,none⟩) (R'.length+1) cp:=by
                        rcases O6.out.2 with ⟨-,h0⟩ | ⟨gb,cp,cur,e,-⟩
                        · simp at h0
                        · exact ⟨gb,cp,by rw [e];simp⟩
                      rw [len] at O6 rl;have gl:=O6.out.lt gb rfl;have c2:w6.cell? ⟨gb,R'.length * 2+1,none⟩=some (.int .i64 q.2):=by
                        have:=(pairs_get (R'++[q]) R'.length (by simp)).2;rw [O6.out.cellAt _ (by omega),Nat.mul_comm,this];simp
                      have f6:=O6.out.frozenAt (R'.length * 2+1);have STO:=zh (World.ownsRow.stored O6.out (R'.length * 2+1) (.int .i64 g));obtain ⟨m0',hm0⟩:∃ m0,R'.length=m0:=⟨_,rfl⟩;have ps:=pairs_set R' q g;rw [hm0] at O6 ps rl c2 f6 STO ⊢;rw [ps] at STO;obtain ⟨KK,hKK⟩:∃ KK:Nat,m0'+1=KK:=⟨_,rfl⟩;rw [hKK] at O6 rl STO ⊢;have kz3:decide (0<(KK:Int))=true:=zdt (by omega);have kz4:decide (0<KK)=true:=zdt (by omega);have kk1:(KK:Int) - 1=m0':=by omega
                      have km:((m0':Nat):Int)<(KK:Int):=by omega
                      clear ps
                      by_cases zq:q.2=f
                      · have kq:(q.2==f)=true:=beq_iff_eq.2 zq;have O7:Hid ((w6.setCell ⟨gb,m0' * 2+1,none⟩ (.int .i64 g)).ownsRow w1.heap.size 40 2 (.slice (some ⟨gb,0,none⟩) KK cp) (addL (R'++[q]) (f,g)).length (pairs (addL (R'++[q]) (f,g)))):=by
                          show World.ownsRow _ _ _ _ _ _ _;rw [add_snoc,if_pos zq,show (R'++[(q.1,g)]).length=KK by simp;omega];exact STO.out.1
                        have A7:=zh (A6.out.setCell (p:=⟨gb,m0' * 2+1,none⟩) gl.1 (.int .i64 g));clear STO;go_wp2
                        go_roundw
                        case rel=>exact ⟨i1,_,(addL (R'++[q]) (f,g)),rfl,by omega,STL,by first | rfl | go_num,STE,O7,A7⟩
                        case measure=>simp [intOf];omega
                      · have kq:(q.2==f)=false:=by rw [beq_eq_false_iff_ne];exact zq
                        clear STO;go_wp2_with (at_builtin;refine wpList_append_own _ rfl _ _ 22 rfl w1.heap.size 40 i0 (.agg #[.int .i64 0,.int .i64 0]) 2 16 Tryz.underlying22 hi hz0 hz1 hz2 rfl (by decide) (.slice (some ⟨gb,0,none⟩) KK cp) KK (pairs (R'++[q])) rfl (O6.out.alloc _) ⟨w6.heap.size,0,none⟩ 1 1 [.int .i64 f,.int .i64 g] rfl rfl (fun j u hj=>by rw [Addr.add_lit,Nat.zero_add,World.cell?_alloc_new];simpa using hj) (fun u hu=>by simp at hu;rcases hu with rfl | rfl <;> rfl) (by unfold maxLen;omega) (by omega) (by have:=A6.out.size;simp;omega) ?_)
                        intro v7 w7 hown hgrow _;have A7:Hid (Below w1.heap.size w1 w7):=(A6.out.alloc A6.out.size _).grown hgrow (by have:=A6.out.size;simp;omega) (own_ge O6.out);have O7:Hid (w7.ownsRow w1.heap.size 40 2 v7 (addL (R'++[q]) (f,g)).length (pairs (addL (R'++[q]) (f,g)))):=by
                          show World.ownsRow _ _ _ _ _ _ _;rw [add_snoc,if_neg zq,pairs_append,show (R'++[q]++[(f,g)]).length=KK+1 by simp;omega];exact hown
                        clear hown hgrow O6 A6;go_wp2
                        go_roundw
                        case rel=>exact ⟨i1,_,(addL (R'++[q]) (f,g)),rfl,by omega,STL,by first | rfl | go_num,STE,O7,A7⟩
                        case measure=>simp [intOf];omega
                  · have kg1:decide (g≤f)=true:=zdt (by omega);have STE:Hid (R=caL (hsP P A) xa (clZ yb (t+eN A i1))):=by show _=_;rw [SA.out,if_neg fg]
                    have STL:R.length≤2000+i1:=by omega
                    clear SA;go_wp2
                    go_roundw
                    case rel=>exact ⟨i1,_,R,rfl,by omega,STL,by first | rfl | go_num,STE,O6,A6⟩
                    case measure=>simp [intOf];omega
                · have ky:decide ((i:Int)<(n:Int))=false:=zdf (by omega);obtain rfl:i=n:=by omega
                  have ST2:Hid (P ∣ t+P∧R=caL (hsP P A) xa (clZ yb (t+P))):=⟨by obtain ⟨j,hj⟩:=ST.out.1;exact ⟨j+1,by rw [hj,Int.mul_add,Int.mul_one]⟩,by rw [← wi_last SS.out,hn];exact SI.out⟩;clear ST SI PA3 TA3 TB3
                  by_cases big:2000<R.length
                  · have kb1:decide (2000<(R.length:Int))=true:=zdt (by omega);have r:Hid (wvR P A xa yb=([],5)):=by show _=_;rw [rv.out];exact wi_full (e:=t+P) (by rw [← ST2.out.2];exact big)
                    have A9:=zh (down A1.out BI.out);obtain ⟨o5,c5,rfl⟩:=(Sl.owns OI.out).shape;clear OI BI ST2;go_wp2
                    go_ret2
                    rw [r.out];exact ⟨⟨_,rfl,Sl.none _ _⟩,A9.out⟩
                  · have kb1:decide (2000<(R.length:Int))=false:=zdf (by omega);obtain ⟨o5,c5,rfl⟩:=(Sl.owns OI.out).shape;go_wp2
                    go_roundw
                    case rel=>exact ⟨t+P,_,R,rfl,by omega,by omega,by omega,by first | rfl | go_num,ST2,OI,BI⟩
                    case measure=>simp [intOf];omega
            · have kz:=zdf z;have r:Hid (wvR P A xa yb=(RR,0)):=by
                show _=_
                rw [rv.out];have:=wi_done (f:=hsP P A) (a:=xa) (b:=yb) (e:=t) (by omega) (by rw [← ST.out.2];exact rl0);rw [← ST.out.2] at this;exact this
              have PF:Hid (PairS 0 wr v' RR):=by show PairS _ _ _ _;exact Sl.owns (own_weak O1.out (Nat.zero_le _))
              have A9:=zh (down A1.out B1.out);clear ST O1 B1 TA2 TB2;go_wp2
              go_ret2
              rw [r.out];exact ⟨⟨_,rfl,PF.out⟩,A9.out⟩
theorem len_left (f:Int→Bool) {a c:Int} (ac:a≤c):∀ n:Nat,(caL f c (c+n)).length≤(caL f a (c+n)).length∧(0<n→f c=true→1≤(caL f a (c+n)).length)
  | 0=>⟨by rw [ca_none f (show c+((0:Nat):Int)≤c by omega)];exact Nat.zero_le _,fun h=>absurd h (Nat.lt_irrefl 0)⟩
  | n+1=>by
    obtain ⟨i1,i2⟩:=len_left f ac n;have s1:=len_step f (a:=a) (c:=c+n) (by omega);have s2:=len_step f (a:=c) (c:=c+n) (by omega);rw [show c+((n+1:Nat):Int)=c+(n:Int)+1 by omega];have one:f c=true→1≤(caL f a (c+(n:Int)+1)).length:=fun h=>by
      have m:inB (caL f a (c+(n:Int)+1)) c=true:=by rw [ca_in,zdt ac,zdt (show c<c+(n:Int)+1 by omega),h];rfl
      rcases Nat.eq_zero_or_pos (caL f a (c+(n:Int)+1)).length with z | z
      · rw [List.length_eq_zero_iff.1 z] at m;cases m
      · exact z
    refine ⟨?_,fun _ h=>one h⟩
    by_cases n0:n=0
    · subst n0;rw [ca_none f (show c+((0:Nat):Int)≤c by omega)] at s2;have z0:([]:List Sp).length=0:=rfl
      by_cases h:f c=true
      · have o:=one h;have u:(if f (c+((0:Nat):Int))=true∧¬ (c<c+((0:Nat):Int)∧f (c+((0:Nat):Int) - 1)=true) then 1 else 0)≤1:=by split <;> omega
        omega
      · rw [if_neg (fun k=>h (by have:=k.1;rwa [show c+((0:Nat):Int)=c by omega] at this))] at s2;omega
    · rw [s1,s2]
      by_cases k:f (c+n)=true∧¬ (c<c+(n:Int)∧f (c+n - 1)=true)
      · rw [if_pos k,if_pos ⟨k.1,fun h=>k.2 ⟨by omega,h.2⟩⟩];omega
      · rw [if_neg k]
        split <;> omega
theorem len_left' (f:Int→Bool) {a c d:Int} (ac:a≤c) (cd:c≤d):(caL f c d).length≤(caL f a d).length:=by
 have h:=(len_left f ac (d - c).toNat).1;rwa [show c+(((d - c).toNat:Nat):Int)=d by omega] at h
def wnA (P:Int) (A:List Sp) (a x y:Int):List Sp:=if x<a then caL (hsP P A) x (if y<a then y else a) else []
def wnB (Q:Int) (B:List Sp) (b x y:Int):List Sp:=if b<y then caL (hsP Q B) (if x<b then b else x) y else []
theorem wn_a_in {P:Int} {A:List Sp} {a x y:Int} (xy:x<y) (z:Int):inB (wnA P A a x y) z=(decide (x≤z)&&decide (z<y)&&decide (z<a)&&hsP P A z):=by
 unfold wnA
 by_cases h:x<a
 ·rw [if_pos h,ca_in,Bool.eq_iff_iff]
  simp only [Bool.and_eq_true,decide_eq_true_eq]
  split <;> constructor <;> (rintro ⟨h1,h2⟩;refine ⟨?_,h2⟩;omega)
 ·rw [if_neg h,inB_nil]
  symm
  rw [← Bool.not_eq_true]
  simp only [Bool.and_eq_true,decide_eq_true_eq]
  omega
theorem wn_b_in {Q:Int} {B:List Sp} {b x y:Int} (xy:x<y) (z:Int):inB (wnB Q B b x y) z=(decide (x≤z)&&decide (z<y)&&decide (b≤z)&&hsP Q B z):=by
 unfold wnB
 by_cases h:b<y
 ·rw [if_pos h,ca_in,Bool.eq_iff_iff]
  simp only [Bool.and_eq_true,decide_eq_true_eq]
  split <;> constructor <;> (rintro ⟨h1,h2⟩;refine ⟨?_,h2⟩;omega)
 ·rw [if_neg h,inB_nil]
  symm
  rw [← Bool.not_eq_true]
  simp only [Bool.and_eq_true,decide_eq_true_eq]
  omega
theorem wn_a_cn (P:Int) (A:List Sp) (a x y:Int):Cn (wnA P A a x y):=by
 unfold wnA;split
 ·exact ca_cn _ _ _
 ·trivial
theorem wn_b_cn (Q:Int) (B:List Sp) (b x y:Int):Cn (wnB Q B b x y):=by
 unfold wnB;split
 ·exact ca_cn _ _ _
 ·trivial
theorem or_in (X Y:List Sp) (z:Int):inB (cbL 1 X Y) z=(inB X z || inB Y z):=by
 rw [(cb_spec 1 X Y).2.1];unfold kpB;rw [if_pos rfl]
theorem wn_ok {P Q a b:Int} {A B L:List Sp} (g:Giv P A Q B a b L) {x y:Int} (xy:x<y):cbL 1 (cbL 1 (wnA P A a x y) (clL L x y)) (wnB Q B b x y)=caL (gvF P A Q B a b L) x y:=by
 refine ca_eq (cb_spec 1 _ _).1 fun z=>?_;rw [or_in,or_in,wn_a_in xy,wn_b_in xy,cl_in];have le:=g.le;have out:(z<a∨b≤z)→inB L z=false:=fun h=>by
  rw [← Bool.not_eq_true];intro i;obtain ⟨q,hq,h1,h2⟩:=inB_iff.1 i;have:=g.low q hq;omega
 by_cases h1:z<a
 ·rw [gv_low h1,out (.inl h1),zdt h1,zdf (show ¬ b≤z by omega)];simp
 ·by_cases h2:z<b
  ·rw [gv_mid (by omega) h2,zdf h1,zdf (show ¬ b≤z by omega)];simp
  ·rw [gv_high le (by omega),out (.inr (by omega)),zdf h1,zdt (show b≤z by omega)];simp
theorem wn_ok' {P Q a b:Int} {A B L:List Sp} (g:Giv P A Q B a b L) {x y:Int} (xy:x<y) (yb:y≤b):cbL 1 (wnA P A a x y) (clL L x y)=caL (gvF P A Q B a b L) x y:=by
 rw [← wn_ok g xy,show wnB Q B b x y=[] by unfold wnB;rw [if_neg (by omega)]];refine cn_ext (cb_spec 1 _ _).1 (cb_spec 1 _ _).1 fun z=>?_;rw [or_in _ [],inB_nil,Bool.or_false]
theorem wn_a_len {P Q a b:Int} {A B L:List Sp} (g:Giv P A Q B a b L) {x y:Int} (xy:x<y):(wnA P A a x y).length≤(caL (gvF P A Q B a b L) x y).length:=by
 unfold wnA
 split
 ·have e:caL (hsP P A) x (if y<a then y else a)=caL (gvF P A Q B a b L) x (if y<a then y else a):=ca_congr fun z _ h=>(gv_low (by split at h <;> omega)).symm;rw [e];exact len_mono' _ (by split <;> omega)
 ·exact Nat.zero_le _
theorem wn_b_len {P Q a b:Int} {A B L:List Sp} (g:Giv P A Q B a b L) {x y:Int} (xy:x<y):(wnB Q B b x y).length≤(caL (gvF P A Q B a b L) x y).length:=by
 have le:=g.le
 unfold wnB
 split
 ·have e:caL (hsP Q B) (if x<b then b else x) y=caL (gvF P A Q B a b L) (if x<b then b else x) y:=ca_congr fun z h _=>(gv_high le (by split at h <;> omega)).symm;rw [e];exact len_left' _ (by split <;> omega) (by split <;> omega)
 ·exact Nat.zero_le _
set_option maxRecDepth 100000 in
set_option maxHeartbeats 2000000 in
theorem rtival (a b:Int) (w:World) :
    Calls Tryz.prog 34 #[.agg #[.int .i64 a,.int .i64 b]] w fun e w'=>e=.returned (.bool (spB (a,b)))∧Below w.heap.size w w':=by
  have HA:=zh (fun w=>rtline a w);have HB:=zh (fun w=>rtline b w);have T:=zh (Two.new (here (w.alloc (.cells #[.int .i64 a,.int .i64 b] 40))));have A1:=zh (grow (here w) (.cells #[.int .i64 a,.int .i64 b] 40));have e:spB (a,b)=(nvB a&&nvB b&&decide (a<b)):=rfl;rw [e];clear e;generalize nvB a=p at *;generalize nvB b=q at *
  cases p
  · obtain ⟨x0,x1,xl⟩:=T.out
    go_enter Tryz.func34,Tryz.ntmps34
    go_wp2_with fail
    refine (HA.out _).mono ?_;rintro e w1 ⟨rfl,rfl⟩;go_wp2
    go_ret
    exact ⟨rfl,A1.out⟩
  · cases q
    · obtain ⟨x0,x1,xl⟩:=T.out
      go_enter Tryz.func34,Tryz.ntmps34
      go_wp2_with fail
      refine (HA.out _).mono ?_;rintro e w1 ⟨rfl,rfl⟩;go_wp2_with fail
      refine (HB.out _).mono ?_;rintro e w1 ⟨rfl,rfl⟩;go_wp2
      go_ret
      exact ⟨rfl,A1.out⟩
    · cases r:decide (a<b)
      all_goals
        obtain ⟨x0,x1,xl⟩:=T.out
        go_enter Tryz.func34,Tryz.ntmps34
        go_wp2_with fail
        refine (HA.out _).mono ?_;rintro e w1 ⟨rfl,rfl⟩;go_wp2_with fail
        refine (HB.out _).mono ?_;rintro e w1 ⟨rfl,rfl⟩;go_wp2
        go_ret
        exact ⟨rfl,A1.out⟩
def wrL (L:List Sp):List Sp × Int:=if 2000<L.length then ([],5) else (L,0)
theorem wr_big {L:List Sp} (h:2000<L.length):wrL L=([],5):=if_pos h
theorem wr_few {L:List Sp} (h:¬ 2000<L.length):wrL L=(L,0):=if_neg h
def wnR (s:TS) (x y:Int):List Sp × Int:=wrL (caL (hsT s) x y)
set_option maxRecDepth 100000 in
set_option maxHeartbeats 4000000 in
theorem rtwindow (s:TS) (vs:VS s) (x y:Int) (sp:spB (x,y)=true) (va vb vl:Value) (w:World) (h:SS3 w s va vb vl) :
    Calls Tryz.prog 35 #[.agg #[.int .i64 s.P,va,.int .i64 s.Q,vb,.int .i64 s.a,.int .i64 s.b,vl],.agg #[.int .i64 x,.int .i64 y]] w fun e w'=>(∃ v',e=.returned (.tuple #[v',.int .i64 (wnR s x y).2])∧PairS 0 w' v' (wnR s x y).1)∧Below w.heap.size w w':=by
  obtain ⟨osa,csa,rfl⟩:=prs_shape h.a;obtain ⟨osb,csb,rfl⟩:=prs_shape h.b;obtain ⟨osl,csl,rfl⟩:=prs_shape h.l;have AF_0:=zh (grow (grow (here w) (.cells #[.int .i64 s.P,.slice osa s.A.length csa,.int .i64 s.Q,.slice osb s.B.length csb,.int .i64 s.a,.int .i64 s.b,.slice osl s.L.length csl] 26)) (.cells #[.int .i64 x,.int .i64 y] 40));have T_0:=zh ((Bxs.new (w:=w) [.int .i64 s.P,.slice osa s.A.length csa,.int .i64 s.Q,.slice osb s.B.length csb,.int .i64 s.a,.int .i64 s.b,.slice osl s.L.length csl] 26).old (.cells #[.int .i64 x,.int .i64 y] 40));have U_0:=zh (Bxs.snd (w:=w) (o:=(.cells #[.int .i64 s.P,.slice osa s.A.length csa,.int .i64 s.Q,.slice osb s.B.length csb,.int .i64 s.a,.int .i64 s.b,.slice osl s.L.length csl] 26)) [.int .i64 x,.int .i64 y] 40);have S_0:=zh (h.keep AF_0.out);have g:=vs.g;have ti:=vs.ti;obtain ⟨s0,s1,xy⟩:=spB_iff.1 sp;have lo0:=g.lo0;have hi0:=g.hi0;have le:=g.le;have s0:-4398046511104≤x:=s0;have s1:y≤4398046511104:=s1;have xy:x<y:=xy;obtain ⟨m1,hm1⟩:∃ m1,(if y<s.a then y else s.a)=m1:=⟨_,rfl⟩;obtain ⟨m2,hm2⟩:∃ m2,(if x<s.b then s.b else x)=m2:=⟨_,rfl⟩;have em:min y s.a=m1:=by rw [← hm1];split <;> omega
  have en:max x s.b=m2:=by rw [← hm2];split <;> omega
  have R10:x<s.a→Hid (∀ W,PairS 0 W (.slice osa s.A.length csa) s.A→Calls Tryz.prog 90 #[.agg #[.int .i64 s.P,.slice osa s.A.length csa],.agg #[.int .i64 x,.int .i64 m1]] W fun e w'=>(∃ v',e=.returned (.tuple #[v',.int .i64 (wrL (wnA s.P s.A s.a x y)).2])∧PairS 0 w' v' (wrL (wnA s.P s.A s.a x y)).1)∧Below W.heap.size W w'):=fun xa W h=>by
    have b:m1≤y∧m1≤s.a∧x<m1:=by rw [← hm1];split <;> omega
    have k:=rpwindow _ s.P s.A ti.A ti.P x m1 ⟨by omega,by omega⟩ ⟨by omega,by omega⟩ W h;have e:wvR s.P s.A x m1=wrL (wnA s.P s.A s.a x y):=by
      unfold wvR wnA
      rw [if_pos (by rw [pv_iff.2 g.p,spB_iff.2 ⟨s0,by show m1≤_;omega,b.2.2⟩];rfl),if_pos xa,hm1];rfl
    rw [e] at k;exact k
  have R20:s.b<y→Hid (∀ W,PairS 0 W (.slice osb s.B.length csb) s.B→Calls Tryz.prog 90 #[.agg #[.int .i64 s.Q,.slice osb s.B.length csb],.agg #[.int .i64 m2,.int .i64 y]] W fun e w'=>(∃ v',e=.returned (.tuple #[v',.int .i64 (wrL (wnB s.Q s.B s.b x y)).2])∧PairS 0 w' v' (wrL (wnB s.Q s.B s.b x y)).1)∧Below W.heap.size W w'):=fun yb W h=>by
    have b:x≤m2∧s.b≤m2∧m2<y:=by rw [← hm2];split <;> omega
    have k:=rpwindow _ s.Q s.B ti.B ti.Q m2 y ⟨by omega,by omega⟩ ⟨by omega,by omega⟩ W h;have e:wvR s.Q s.B m2 y=wrL (wnB s.Q s.B s.b x y):=by
      unfold wvR wnB
      rw [if_pos (by rw [pv_iff.2 g.q,spB_iff.2 ⟨by show _≤m2;omega,s1,b.2.2⟩];rfl),if_pos yb,hm2];rfl
    rw [e] at k;exact k
  have CL0:=zh (fun W (h:PairS 0 W (.slice osl s.L.length csl) s.L)=>rtclip _ s.L (by have:=(vaB_iff.1 g.va).1;omega) x y ⟨by omega,by omega⟩ ⟨by omega,by omega⟩ (fun q hq=>by have:=(vaB_iff.1 g.va).2.1 q hq;have:=(vaB_iff.1 g.va).2.2.lt q hq;unfold I64;omega) W h);have wk:=wn_ok g xy;have wk0:¬ s.b<y→cbL 1 (wnA s.P s.A s.a x y) (clL s.L x y)=caL (gvF s.P s.A s.Q s.B s.a s.b s.L) x y:=fun yb=>wn_ok' g xy (by omega);have l1:=wn_a_len g xy;have l2:=wn_b_len g xy;have ka:¬ x<s.a→wnA s.P s.A s.a x y=[]:=fun xa=>by unfold wnA;rw [if_neg xa]
  have kb:¬ s.b<y→wnB s.Q s.B s.b x y=[]:=fun yb=>by unfold wnB;rw [if_neg yb]
  have c1:=wn_a_cn s.P s.A s.a x y;have c2:=wn_b_cn s.Q s.B s.b x y;have cM:=cl_cn x y (vaB_iff.1 g.va).2.2;have lM:(clL s.L x y).length≤2000:=by have:=cl_len s.L x y;have:=(vaB_iff.1 g.va).1;omega
  unfold wnR
  obtain ⟨C,hC⟩:∃ C,caL (hsT s) x y=C:=⟨_,rfl⟩;rw [show caL (gvF s.P s.A s.Q s.B s.a s.b s.L) x y=C from hC] at wk wk0 l1 l2;rw [hC];generalize wnA s.P s.A s.a x y=L1 at *;generalize wnB s.Q s.B s.b x y=L2 at *;generalize clL s.L x y=M at *;have LI1:¬ 2000<L1.length→Hid (∀ W {b1 b2:Nat} {v1 v2:Value},PairS b1 W v1 L1→PairS b2 W v2 M→Calls Tryz.prog 83 #[v1,v2,.int .i64 0] W fun e w'=>(∃ v',e=.returned v'∧PairS W.heap.size w' v' (cbL 1 L1 M))∧Below W.heap.size W w'):=fun k=>by show ∀ _,_;intro W b1 b2 v1 v2 h1 h2;exact rplists v1 v2 L1 M (by omega) (by omega) c1 cM 0 (by decide) (by decide) W h1 h2
  have cb:=cb_spec 1 L1 M;have LI2:¬ 2000<L1.length→¬ 2000<L2.length→Hid (∀ W {b1 b2:Nat} {v1 v2:Value},PairS b1 W v1 (cbL 1 L1 M)→PairS b2 W v2 L2→Calls Tryz.prog 83 #[v1,v2,.int .i64 0] W fun e w'=>(∃ v',e=.returned v'∧PairS W.heap.size w' v' C)∧Below W.heap.size W w'):=fun k k2=>by show ∀ _,_;intro W b1 b2 v1 v2 h1 h2;have z:=rplists v1 v2 (cbL 1 L1 M) L2 (by have:=cb.2.2.2;omega) (by omega) cb.1 c2 0 (by decide) (by decide) W h1 h2;rw [show (0:Int)+1=1 from rfl,wk] at z;exact z
  have CL:=CL0;clear CL0 hC hm1 hm2 h g ti vs cb c1 c2 cM lM sp
  by_cases xa:x<s.a
  · have R1:=R10 xa;clear R10 ka
    by_cases b1:2000<L1.length
    · rw [wr_big b1] at R1;have fin1:=wr_big (show 2000<C.length by omega);rw [fin1];clear fin1 l1 l2 LI1 LI2 wk wk0 kb R20 b1
      go_enter Tryz.func35,Tryz.ntmps35
      obtain ⟨aa,ab,ac,ad,ae,af,ag,ah⟩:=T_0.out.z7;obtain ⟨ai,aj,ak⟩:=U_0.out.z2;go_wp2_with fail
      clear aa ab ac ad ae af ag ai aj ah ak;generalize ((w.alloc (.cells #[.int .i64 s.P,.slice osa s.A.length csa,.int .i64 s.Q,.slice osb s.B.length csb,.int .i64 s.a,.int .i64 s.b,.slice osl s.L.length csl] 26)).alloc (.cells #[.int .i64 x,.int .i64 y] 40))=w0 at *;refine (R1.out _ S_0.out.a).mono ?_;rintro e w1 ⟨⟨v1,rfl,p⟩,hb⟩;obtain ⟨o1,c1,rfl⟩:=Sl.shape p;have AF_1:=zd AF_0 hb;have T_1:=zh (T_0.out.keep hb);have U_1:=zh (U_0.out.keep hb);have S_1:=zh (S_0.out.keep hb);clear hb AF_0 T_0 U_0 S_0;have P1_1:=zh p;clear p;obtain ⟨aa,ab,ac,ad,ae,af,ag,ah⟩:=T_1.out.z7;obtain ⟨ai,aj,ak⟩:=U_1.out.z2;go_wp2
      go_ret2
      exact ⟨⟨_,rfl,Or.inl ⟨rfl,_,_,rfl⟩⟩,AF_1.out⟩
    · rw [wr_few b1] at R1;replace LI1:=LI1 b1;replace LI2:=LI2 b1;clear b1;generalize cbL 1 L1 M=L3 at *
      by_cases yb:s.b<y
      · have R2:=R20 yb;clear R20 wk0 kb
        by_cases b2:2000<L2.length
        · rw [wr_big b2] at R2;have fin1:=wr_big (show 2000<C.length by omega);rw [fin1];clear fin1 l1 l2 LI2 wk b2
          go_enter Tryz.func35,Tryz.ntmps35
          obtain ⟨aa,ab,ac,ad,ae,af,ag,ah⟩:=T_0.out.z7;obtain ⟨ai,aj,ak⟩:=U_0.out.z2;go_wp2_with fail
          clear aa ab ac ad ae af ag ai aj ah ak;generalize ((w.alloc (.cells #[.int .i64 s.P,.slice osa s.A.length csa,.int .i64 s.Q,.slice osb s.B.length csb,.int .i64 s.a,.int .i64 s.b,.slice osl s.L.length csl] 26)).alloc (.cells #[.int .i64 x,.int .i64 y] 40))=w0 at *;refine (R1.out _ S_0.out.a).mono ?_;rintro e w1 ⟨⟨v1,rfl,p⟩,hb⟩;obtain ⟨o1,c1,rfl⟩:=Sl.shape p;have AF_1:=zd AF_0 hb;have T_1:=zh (T_0.out.keep hb);have U_1:=zh (U_0.out.keep hb);have S_1:=zh (S_0.out.keep hb);clear hb AF_0 T_0 U_0 S_0;have P1_1:=zh p;clear p;obtain ⟨aa,ab,ac,ad,ae,af,ag,ah⟩:=T_1.out.z7;obtain ⟨ai,aj,ak⟩:=U_1.out.z2;go_wp2_with fail
          clear aa ab ac ad ae af ag ai aj ah ak;refine (CL.out _ S_1.out.l).mono ?_;rintro e w2 ⟨⟨v2,rfl,p⟩,hb⟩;obtain ⟨o2,c2,rfl⟩:=Sl.shape p;have AF_2:=zd AF_1 hb;have T_2:=zh (T_1.out.keep hb);have U_2:=zh (U_1.out.keep hb);have S_2:=zh (S_1.out.keep hb);have P1_2:=zh (P1_1.out.keep hb);clear hb AF_1 T_1 U_1 S_1 P1_1;have P2_2:=zh p;clear p;obtain ⟨aa,ab,ac,ad,ae,af,ag,ah⟩:=T_2.out.z7;obtain ⟨ai,aj,ak⟩:=U_2.out.z2;go_wp2_with fail
          clear aa ab ac ad ae af ag ai aj ah ak;refine (LI1.out _ P1_2.out P2_2.out).mono ?_;rintro e w3 ⟨⟨v3,rfl,p⟩,hb⟩;obtain ⟨o3,c3,rfl⟩:=Sl.shape p;have AF_3:=zd AF_2 hb;have T_3:=zh (T_2.out.keep hb);have U_3:=zh (U_2.out.keep hb);have S_3:=zh (S_2.out.keep hb);have P1_3:=zh (P1_2.out.keep hb);have P2_3:=zh (P2_2.out.keep hb);clear hb AF_2 T_2 U_2 S_2 P1_2 P2_2;have P3_3:=zh p;clear p;obtain ⟨aa,ab,ac,ad,ae,af,ag,ah⟩:=T_3.out.z7;obtain ⟨ai,aj,ak⟩:=U_3.out.z2;go_wp2_with fail
          clear aa ab ac ad ae af ag ai aj ah ak;refine (R2.out _ S_3.out.b).mono ?_;rintro e w4 ⟨⟨v4,rfl,p⟩,hb⟩;obtain ⟨o4,c4,rfl⟩:=Sl.shape p;have AF_4:=zd AF_3 hb;have T_4:=zh (T_3.out.keep hb);have U_4:=zh (U_3.out.keep hb);have S_4:=zh (S_3.out.keep hb);have P1_4:=zh (P1_3.out.keep hb);have P2_4:=zh (P2_3.out.keep hb);have P3_4:=zh (P3_3.out.keep hb);clear hb AF_3 T_3 U_3 S_3 P1_3 P2_3 P3_3;have P4_4:=zh p;clear p;obtain ⟨aa,ab,ac,ad,ae,af,ag,ah⟩:=T_4.out.z7;obtain ⟨ai,aj,ak⟩:=U_4.out.z2;go_wp2
          go_ret2
          exact ⟨⟨_,rfl,Or.inl ⟨rfl,_,_,rfl⟩⟩,AF_4.out⟩
        · rw [wr_few b2] at R2;replace LI2:=LI2 b2
          by_cases b3:2000<C.length
          · have fin1:=wr_big b3;rw [fin1];have big:decide (2000<(C.length:Int))=true:=zdt (by omega);clear fin1 l1 l2 wk b2 b3
            go_enter Tryz.func35,Tryz.ntmps35
            obtain ⟨aa,ab,ac,ad,ae,af,ag,ah⟩:=T_0.out.z7;obtain ⟨ai,aj,ak⟩:=U_0.out.z2;go_wp2_with fail
            clear aa ab ac ad ae af ag ai aj ah ak;generalize ((w.alloc (.cells #[.int .i64 s.P,.slice osa s.A.length csa,.int .i64 s.Q,.slice osb s.B.length csb,.int .i64 s.a,.int .i64 s.b,.slice osl s.L.length csl] 26)).alloc (.cells #[.int .i64 x,.int .i64 y] 40))=w0 at *;refine (R1.out _ S_0.out.a).mono ?_;rintro e w1 ⟨⟨v1,rfl,p⟩,hb⟩;obtain ⟨o1,c1,rfl⟩:=Sl.shape p;have AF_1:=zd AF_0 hb;have T_1:=zh (T_0.out.keep hb);have U_1:=zh (U_0.out.keep hb);have S_1:=zh (S_0.out.keep hb);clear hb AF_0 T_0 U_0 S_0;have P1_1:=zh p;clear p;obtain ⟨aa,ab,ac,ad,ae,af,ag,ah⟩:=T_1.out.z7;obtain ⟨ai,aj,ak⟩:=U_1.out.z2;go_wp2_with fail
            clear aa ab ac ad ae af ag ai aj ah ak;refine (CL.out _ S_1.out.l).mono ?_;rintro e w2 ⟨⟨v2,rfl,p⟩,hb⟩;obtain ⟨o2,c2,rfl⟩:=Sl.shape p;have AF_2:=zd AF_1 hb;have T_2:=zh (T_1.out.keep hb);have U_2:=zh (U_1.out.keep hb);have S_2:=zh (S_1.out.keep hb);have P1_2:=zh (P1_1.out.keep hb);clear hb AF_1 T_1 U_1 S_1 P1_1;have P2_2:=zh p;clear p;obtain ⟨aa,ab,ac,ad,ae,af,ag,ah⟩:=T_2.out.z7;obtain ⟨ai,aj,ak⟩:=U_2.out.z2;go_wp2_with fail
            clear aa ab ac ad ae af ag ai aj ah ak;refine (LI1.out _ P1_2.out P2_2.out).mono ?_;rintro e w3 ⟨⟨v3,rfl,p⟩,hb⟩;obtain ⟨o3,c3,rfl⟩:=Sl.shape p;have AF_3:=zd AF_2 hb;have T_3:=zh (T_2.out.keep hb);have U_3:=zh (U_2.out.keep hb);have S_3:=zh (S_2.out.keep hb);have P1_3:=zh (P1_2.out.keep hb);have P2_3:=zh (P2_2.out.keep hb);clear hb AF_2 T_2 U_2 S_2 P1_2 P2_2;have P3_3:=zh p;clear p;obtain ⟨aa,ab,ac,ad,ae,af,ag,ah⟩:=T_3.out.z7;obtain ⟨ai,aj,ak⟩:=U_3.out.z2;go_wp2_with fail
            clear aa ab ac ad ae af ag ai aj ah ak;refine (R2.out _ S_3.out.b).mono ?_;rintro e w4 ⟨⟨v4,rfl,p⟩,hb⟩;obtain ⟨o4,c4,rfl⟩:=Sl.shape p;have AF_4:=zd AF_3 hb;have T_4:=zh (T_3.out.keep hb);have U_4:=zh (U_3.out.keep hb);have S_4:=zh (S_3.out.keep hb);have P1_4:=zh (P1_3.out.keep hb);have P2_4:=zh (P2_3.out.keep hb);have P3_4:=zh (P3_3.out.keep hb);clear hb AF_3 T_3 U_3 S_3 P1_3 P2_3 P3_3;have P4_4:=zh p;clear p;obtain ⟨aa,ab,ac,ad,ae,af,ag,ah⟩:=T_4.out.z7;obtain ⟨ai,aj,ak⟩:=U_4.out.z2;go_wp2_with fail
            clear aa ab ac ad ae af ag ai aj ah ak;refine (LI2.out _ P3_4.out P4_4.out).mono ?_;rintro e w5 ⟨⟨v5,rfl,p⟩,hb⟩;obtain ⟨o5,c5,rfl⟩:=Sl.shape p;have AF_5:=zd AF_4 hb;have T_5:=zh (T_4.out.keep hb);have U_5:=zh (U_4.out.keep hb);have S_5:=zh (S_4.out.keep hb);have P1_5:=zh (P1_4.out.keep hb);have P2_5:=zh (P2_4.out.keep hb);have P3_5:=zh (P3_4.out.keep hb);have P4_5:=zh (P4_4.out.keep hb);clear hb AF_4 T_4 U_4 S_4 P1_4 P2_4 P3_4 P4_4;have P5_5:=zh p;clear p;obtain ⟨aa,ab,ac,ad,ae,af,ag,ah⟩:=T_5.out.z7;obtain ⟨ai,aj,ak⟩:=U_5.out.z2;go_wp2
            go_ret2
            exact ⟨⟨_,rfl,Or.inl ⟨rfl,_,_,rfl⟩⟩,AF_5.out⟩
          · have fin1:=wr_few b3;rw [fin1];have big:decide (2000<(C.length:Int))=false:=zdf (by omega);clear fin1 l1 l2 wk b2 b3
            go_enter Tryz.func35,Tryz.ntmps35
            obtain ⟨aa,ab,ac,ad,ae,af,ag,ah⟩:=T_0.out.z7;obtain ⟨ai,aj,ak⟩:=U_0.out.z2;go_wp2_with fail
            clear aa ab ac ad ae af ag ai aj ah ak;generalize ((w.alloc (.cells #[.int .i64 s.P,.slice osa s.A.length csa,.int .i64 s.Q,.slice osb s.B.length csb,.int .i64 s.a,.int .i64 s.b,.slice osl s.L.length csl] 26)).alloc (.cells #[.int .i64 x,.int .i64 y] 40))=w0 at *;refine (R1.out _ S_0.out.a).mono ?_;rintro e w1 ⟨⟨v1,rfl,p⟩,hb⟩;obtain ⟨o1,c1,rfl⟩:=Sl.shape p;have AF_1:=zd AF_0 hb;have T_1:=zh (T_0.out.keep hb);have U_1:=zh (U_0.out.keep hb);have S_1:=zh (S_0.out.keep hb);clear hb AF_0 T_0 U_0 S_0;have P1_1:=zh p;clear p;obtain ⟨aa,ab,ac,ad,ae,af,ag,ah⟩:=T_1.out.z7;obtain ⟨ai,aj,ak⟩:=U_1.out.z2;go_wp2_with fail
            clear aa ab ac ad ae af ag ai aj ah ak;refine (CL.out _ S_1.out.l).mono ?_;rintro e w2 ⟨⟨v2,rfl,p⟩,hb⟩;obtain ⟨o2,c2,rfl⟩:=Sl.shape p;have AF_2:=zd AF_1 hb;have T_2:=zh (T_1.out.keep hb);have U_2:=zh (U_1.out.keep hb);have S_2:=zh (S_1.out.keep hb);have P1_2:=zh (P1_1.out.keep hb);clear hb AF_1 T_1 U_1 S_1 P1_1;have P2_2:=zh p;clear p;obtain ⟨aa,ab,ac,ad,ae,af,ag,ah⟩:=T_2.out.z7;obtain ⟨ai,aj,ak⟩:=U_2.out.z2;go_wp2_with fail
            clear aa ab ac ad ae af ag ai aj ah ak;refine (LI1.out _ P1_2.out P2_2.out).mono ?_;rintro e w3 ⟨⟨v3,rfl,p⟩,hb⟩;obtain ⟨o3,c3,rfl⟩:=Sl.shape p;have AF_3:=zd AF_2 hb;have T_3:=zh (T_2.out.keep hb);have U_3:=zh (U_2.out.keep hb);have S_3:=zh (S_2.out.keep hb);have P1_3:=zh (P1_2.out.keep hb);have P2_3:=zh (P2_2.out.keep hb);clear hb AF_2 T_2 U_2 S_2 P1_2 P2_2;have P3_3:=zh p;clear p;obtain ⟨aa,ab,ac,ad,ae,af,ag,ah⟩:=T_3.out.z7;obtain ⟨ai,aj,ak⟩:=U_3.out.z2;go_wp2_with fail
            clear aa ab ac ad ae af ag ai aj ah ak;refine (R2.out _ S_3.out.b).mono ?_;rintro e w4 ⟨⟨v4,rfl,p⟩,hb⟩;obtain ⟨o4,c4,rfl⟩:=Sl.shape p;have AF_4:=zd AF_3 hb;have T_4:=zh (T_3.out.keep hb);have U_4:=zh (U_3.out.keep hb);have S_4:=zh (S_3.out.keep hb);have P1_4:=zh (P1_3.out.keep hb);have P2_4:=zh (P2_3.out.keep hb);have P3_4:=zh (P3_3.out.keep hb);clear hb AF_3 T_3 U_3 S_3 P1_3 P2_3 P3_3;have P4_4:=zh p;clear p;obtain ⟨aa,ab,ac,ad,ae,af,ag,ah⟩:=T_4.out.z7;obtain ⟨ai,aj,ak⟩:=U_4.out.z2;go_wp2_with fail
            clear aa ab ac ad ae af ag ai aj ah ak;refine (LI2.out _ P3_4.out P4_4.out).mono ?_;rintro e w5 ⟨⟨v5,rfl,p⟩,hb⟩;obtain ⟨o5,c5,rfl⟩:=Sl.shape p;have AF_5:=zd AF_4 hb;have T_5:=zh (T_4.out.keep hb);have U_5:=zh (U_4.out.keep hb);have S_5:=zh (S_4.out.keep hb);have P1_5:=zh (P1_4.out.keep hb);have P2_5:=zh (P2_4.out.keep hb);have P3_5:=zh (P3_4.out.keep hb);have P4_5:=zh (P4_4.out.keep hb);clear hb AF_4 T_4 U_4 S_4 P1_4 P2_4 P3_4 P4_4;have P5_5:=zh p;clear p;obtain ⟨aa,ab,ac,ad,ae,af,ag,ah⟩:=T_5.out.z7;obtain ⟨ai,aj,ak⟩:=U_5.out.z2;go_wp2
            go_ret2
            exact ⟨⟨_,rfl,Sl.weak P5_5.out (Nat.zero_le _)⟩,AF_5.out⟩
      · have e3:=wk0 yb;have kx:=kb yb;clear R20 LI2 wk kb;rw [e3] at LI1
        by_cases b3:2000<C.length
        · have fin1:=wr_big b3;rw [fin1];have big:decide (2000<(C.length:Int))=true:=zdt (by omega);clear fin1 l1 l2 b3 wk0 e3
          go_enter Tryz.func35,Tryz.ntmps35
          obtain ⟨aa,ab,ac,ad,ae,af,ag,ah⟩:=T_0.out.z7;obtain ⟨ai,aj,ak⟩:=U_0.out.z2;go_wp2_with fail
          clear aa ab ac ad ae af ag ai aj ah ak;generalize ((w.alloc (.cells #[.int .i64 s.P,.slice osa s.A.length csa,.int .i64 s.Q,.slice osb s.B.length csb,.int .i64 s.a,.int .i64 s.b,.slice osl s.L.length csl] 26)).alloc (.cells #[.int .i64 x,.int .i64 y] 40))=w0 at *;refine (R1.out _ S_0.out.a).mono ?_;rintro e w1 ⟨⟨v1,rfl,p⟩,hb⟩;obtain ⟨o1,c1,rfl⟩:=Sl.shape p;have AF_1:=zd AF_0 hb;have T_1:=zh (T_0.out.keep hb);have U_1:=zh (U_0.out.keep hb);have S_1:=zh (S_0.out.keep hb);clear hb AF_0 T_0 U_0 S_0;have P1_1:=zh p;clear p;obtain ⟨aa,ab,ac,ad,ae,af,ag,ah⟩:=T_1.out.z7;obtain ⟨ai,aj,ak⟩:=U_1.out.z2;go_wp2_with fail
          clear aa ab ac ad ae af ag ai aj ah ak;refine (CL.out _ S_1.out.l).mono ?_;rintro e w2 ⟨⟨v2,rfl,p⟩,hb⟩;obtain ⟨o2,c2,rfl⟩:=Sl.shape p;have AF_2:=zd AF_1 hb;have T_2:=zh (T_1.out.keep hb);have U_2:=zh (U_1.out.keep hb);have S_2:=zh (S_1.out.keep hb);have P1_2:=zh (P1_1.out.keep hb);clear hb AF_1 T_1 U_1 S_1 P1_1;have P2_2:=zh p;clear p;obtain ⟨aa,ab,ac,ad,ae,af,ag,ah⟩:=T_2.out.z7;obtain ⟨ai,aj,ak⟩:=U_2.out.z2;go_wp2_with fail
          clear aa ab ac ad ae af ag ai aj ah ak;refine (LI1.out _ P1_2.out P2_2.out).mono ?_;rintro e w3 ⟨⟨v3,rfl,p⟩,hb⟩;obtain ⟨o3,c3,rfl⟩:=Sl.shape p;have AF_3:=zd AF_2 hb;have T_3:=zh (T_2.out.keep hb);have U_3:=zh (U_2.out.keep hb);have S_3:=zh (S_2.out.keep hb);have P1_3:=zh (P1_2.out.keep hb);have P2_3:=zh (P2_2.out.keep hb);clear hb AF_2 T_2 U_2 S_2 P1_2 P2_2;have P3_3:=zh p;clear p;obtain ⟨aa,ab,ac,ad,ae,af,ag,ah⟩:=T_3.out.z7;obtain ⟨ai,aj,ak⟩:=U_3.out.z2;go_wp2
          go_ret2
          exact ⟨⟨_,rfl,Or.inl ⟨rfl,_,_,rfl⟩⟩,AF_3.out⟩
        · have fin1:=wr_few b3;rw [fin1];have big:decide (2000<(C.length:Int))=false:=zdf (by omega);clear fin1 l1 l2 b3 wk0 e3
          go_enter Tryz.func35,Tryz.ntmps35
          obtain ⟨aa,ab,ac,ad,ae,af,ag,ah⟩:=T_0.out.z7;obtain ⟨ai,aj,ak⟩:=U_0.out.z2;go_wp2_with fail
          clear aa ab ac ad ae af ag ai aj ah ak;generalize ((w.alloc (.cells #[.int .i64 s.P,.slice osa s.A.length csa,.int .i64 s.Q,.slice osb s.B.length csb,.int .i64 s.a,.int .i64 s.b,.slice osl s.L.length csl] 26)).alloc (.cells #[.int .i64 x,.int .i64 y] 40))=w0 at *;refine (R1.out _ S_0.out.a).mono ?_;rintro e w1 ⟨⟨v1,rfl,p⟩,hb⟩;obtain ⟨o1,c1,rfl⟩:=Sl.shape p;have AF_1:=zd AF_0 hb;have T_1:=zh (T_0.out.keep hb);have U_1:=zh (U_0.out.keep hb);have S_1:=zh (S_0.out.keep hb);clear hb AF_0 T_0 U_0 S_0;have P1_1:=zh p;clear p;obtain ⟨aa,ab,ac,ad,ae,af,ag,ah⟩:=T_1.out.z7;obtain ⟨ai,aj,ak⟩:=U_1.out.z2;go_wp2_with fail
          clear aa ab ac ad ae af ag ai aj ah ak;refine (CL.out _ S_1.out.l).mono ?_;rintro e w2 ⟨⟨v2,rfl,p⟩,hb⟩;obtain ⟨o2,c2,rfl⟩:=Sl.shape p;have AF_2:=zd AF_1 hb;have T_2:=zh (T_1.out.keep hb);have U_2:=zh (U_1.out.keep hb);have S_2:=zh (S_1.out.keep hb);have P1_2:=zh (P1_1.out.keep hb);clear hb AF_1 T_1 U_1 S_1 P1_1;have P2_2:=zh p;clear p;obtain ⟨aa,ab,ac,ad,ae,af,ag,ah⟩:=T_2.out.z7;obtain ⟨ai,aj,ak⟩:=U_2.out.z2;go_wp2_with fail
          clear aa ab ac ad ae af ag ai aj ah ak;refine (LI1.out _ P1_2.out P2_2.out).mono ?_;rintro e w3 ⟨⟨v3,rfl,p⟩,hb⟩;obtain ⟨o3,c3,rfl⟩:=Sl.shape p;have AF_3:=zd AF_2 hb;have T_3:=zh (T_2.out.keep hb);have U_3:=zh (U_2.out.keep hb);have S_3:=zh (S_2.out.keep hb);have P1_3:=zh (P1_2.out.keep hb);have P2_3:=zh (P2_2.out.keep hb);clear hb AF_2 T_2 U_2 S_2 P1_2 P2_2;have P3_3:=zh p;clear p;obtain ⟨aa,ab,ac,ad,ae,af,ag,ah⟩:=T_3.out.z7;obtain ⟨ai,aj,ak⟩:=U_3.out.z2;go_wp2
          go_ret2
          exact ⟨⟨_,rfl,Sl.weak P3_3.out (Nat.zero_le _)⟩,AF_3.out⟩
  · have e1:=ka xa;subst e1;clear R10 ka;replace LI1:=LI1 (by simp);replace LI2:=LI2 (by simp);generalize cbL 1 [] M=L3 at *
    by_cases yb:s.b<y
    · have R2:=R20 yb;clear R20 wk0 kb
      by_cases b2:2000<L2.length
      · rw [wr_big b2] at R2;have fin1:=wr_big (show 2000<C.length by omega);rw [fin1];clear fin1 l1 l2 LI2 wk b2
        go_enter Tryz.func35,Tryz.ntmps35
        obtain ⟨aa,ab,ac,ad,ae,af,ag,ah⟩:=T_0.out.z7;obtain ⟨ai,aj,ak⟩:=U_0.out.z2;go_wp2_with fail
        clear aa ab ac ad ae af ag ai aj ah ak;generalize ((w.alloc (.cells #[.int .i64 s.P,.slice osa s.A.length csa,.int .i64 s.Q,.slice osb s.B.length csb,.int .i64 s.a,.int .i64 s.b,.slice osl s.L.length csl] 26)).alloc (.cells #[.int .i64 x,.int .i64 y] 40))=w0 at *;refine (CL.out _ S_0.out.l).mono ?_;rintro e w1 ⟨⟨v2,rfl,p⟩,hb⟩;obtain ⟨o2,c2,rfl⟩:=Sl.shape p;have AF_1:=zd AF_0 hb;have T_1:=zh (T_0.out.keep hb);have U_1:=zh (U_0.out.keep hb);have S_1:=zh (S_0.out.keep hb);clear hb AF_0 T_0 U_0 S_0;have P2_1:=zh p;clear p;obtain ⟨aa,ab,ac,ad,ae,af,ag,ah⟩:=T_1.out.z7;obtain ⟨ai,aj,ak⟩:=U_1.out.z2;go_wp2_with fail
        clear aa ab ac ad ae af ag ai aj ah ak;refine (LI1.out _ (b1:=0) (Or.inl ⟨rfl,_,_,rfl⟩) P2_1.out).mono ?_;rintro e w2 ⟨⟨v3,rfl,p⟩,hb⟩;obtain ⟨o3,c3,rfl⟩:=Sl.shape p;have AF_2:=zd AF_1 hb;have T_2:=zh (T_1.out.keep hb);have U_2:=zh (U_1.out.keep hb);have S_2:=zh (S_1.out.keep hb);have P2_2:=zh (P2_1.out.keep hb);clear hb AF_1 T_1 U_1 S_1 P2_1;have P3_2:=zh p;clear p;obtain ⟨aa,ab,ac,ad,ae,af,ag,ah⟩:=T_2.out.z7;obtain ⟨ai,aj,ak⟩:=U_2.out.z2;go_wp2_with fail
        clear aa ab ac ad ae af ag ai aj ah ak;refine (R2.out _ S_2.out.b).mono ?_;rintro e w3 ⟨⟨v4,rfl,p⟩,hb⟩;obtain ⟨o4,c4,rfl⟩:=Sl.shape p;have AF_3:=zd AF_2 hb;have T_3:=zh (T_2.out.keep hb);have U_3:=zh (U_2.out.keep hb);have S_3:=zh (S_2.out.keep hb);have P2_3:=zh (P2_2.out.keep hb);have P3_3:=zh (P3_2.out.keep hb);clear hb AF_2 T_2 U_2 S_2 P2_2 P3_2;have P4_3:=zh p;clear p;obtain ⟨aa,ab,ac,ad,ae,af,ag,ah⟩:=T_3.out.z7;obtain ⟨ai,aj,ak⟩:=U_3.out.z2;go_wp2
        go_ret2
        exact ⟨⟨_,rfl,Or.inl ⟨rfl,_,_,rfl⟩⟩,AF_3.out⟩
      · rw [wr_few b2] at R2;replace LI2:=LI2 b2
        by_cases b3:2000<C.length
        · have fin1:=wr_big b3;rw [fin1];have big:decide (2000<(C.length:Int))=true:=zdt (by omega);clear fin1 l1 l2 wk b2 b3
          go_enter Tryz.func35,Tryz.ntmps35
          obtain ⟨aa,ab,ac,ad,ae,af,ag,ah⟩:=T_0.out.z7;obtain ⟨ai,aj,ak⟩:=U_0.out.z2;go_wp2_with fail
          clear aa ab ac ad ae af ag ai aj ah ak;generalize ((w.alloc (.cells #[.int .i64 s.P,.slice osa s.A.length csa,.int .i64 s.Q,.slice osb s.B.length csb,.int .i64 s.a,.int .i64 s.b,.slice osl s.L.length csl] 26)).alloc (.cells #[.int .i64 x,.int .i64 y] 40))=w0 at *;refine (CL.out _ S_0.out.l).mono ?_;rintro e w1 ⟨⟨v2,rfl,p⟩,hb⟩;obtain ⟨o2,c2,rfl⟩:=Sl.shape p;have AF_1:=zd AF_0 hb;have T_1:=zh (T_0.out.keep hb);have U_1:=zh (U_0.out.keep hb);have S_1:=zh (S_0.out.keep hb);clear hb AF_0 T_0 U_0 S_0;have P2_1:=zh p;clear p;obtain ⟨aa,ab,ac,ad,ae,af,ag,ah⟩:=T_1.out.z7;obtain ⟨ai,aj,ak⟩:=U_1.out.z2;go_wp2_with fail
          clear aa ab ac ad ae af ag ai aj ah ak;refine (LI1.out _ (b1:=0) (Or.inl ⟨rfl,_,_,rfl⟩) P2_1.out).mono ?_;rintro e w2 ⟨⟨v3,rfl,p⟩,hb⟩;obtain ⟨o3,c3,rfl⟩:=Sl.shape p;have AF_2:=zd AF_1 hb;have T_2:=zh (T_1.out.keep hb);have U_2:=zh (U_1.out.keep hb);have S_2:=zh (S_1.out.keep hb);have P2_2:=zh (P2_1.out.keep hb);clear hb AF_1 T_1 U_1 S_1 P2_1;have P3_2:=zh p;clear p;obtain ⟨aa,ab,ac,ad,ae,af,ag,ah⟩:=T_2.out.z7;obtain ⟨ai,aj,ak⟩:=U_2.out.z2;go_wp2_with fail
          clear aa ab ac ad ae af ag ai aj ah ak;refine (R2.out _ S_2.out.b).mono ?_;rintro e w3 ⟨⟨v4,rfl,p⟩,hb⟩;obtain ⟨o4,c4,rfl⟩:=Sl.shape p;have AF_3:=zd AF_2 hb;have T_3:=zh (T_2.out.keep hb);have U_3:=zh (U_2.out.keep hb);have S_3:=zh (S_2.out.keep hb);have P2_3:=zh (P2_2.out.keep hb);have P3_3:=zh (P3_2.out.keep hb);clear hb AF_2 T_2 U_2 S_2 P2_2 P3_2;have P4_3:=zh p;clear p;obtain ⟨aa,ab,ac,ad,ae,af,ag,ah⟩:=T_3.out.z7;obtain ⟨ai,aj,ak⟩:=U_3.out.z2;go_wp2_with fail
          clear aa ab ac ad ae af ag ai aj ah ak;refine (LI2.out _ P3_3.out P4_3.out).mono ?_;rintro e w4 ⟨⟨v5,rfl,p⟩,hb⟩;obtain ⟨o5,c5,rfl⟩:=Sl.shape p;have AF_4:=zd AF_3 hb;have T_4:=zh (T_3.out.keep hb);have U_4:=zh (U_3.out.keep hb);have S_4:=zh (S_3.out.keep hb);have P2_4:=zh (P2_3.out.keep hb);have P3_4:=zh (P3_3.out.keep hb);have P4_4:=zh (P4_3.out.keep hb);clear hb AF_3 T_3 U_3 S_3 P2_3 P3_3 P4_3;have P5_4:=zh p;clear p;obtain ⟨aa,ab,ac,ad,ae,af,ag,ah⟩:=T_4.out.z7;obtain ⟨ai,aj,ak⟩:=U_4.out.z2;go_wp2
          go_ret2
          exact ⟨⟨_,rfl,Or.inl ⟨rfl,_,_,rfl⟩⟩,AF_4.out⟩
        · have fin1:=wr_few b3;rw [fin1];have big:decide (2000<(C.length:Int))=false:=zdf (by omega);clear fin1 l1 l2 wk b2 b3
          go_enter Tryz.func35,Tryz.ntmps35
          obtain ⟨aa,ab,ac,ad,ae,af,ag,ah⟩:=T_0.out.z7;obtain ⟨ai,aj,ak⟩:=U_0.out.z2;go_wp2_with fail
          clear aa ab ac ad ae af ag ai aj ah ak;generalize ((w.alloc (.cells #[.int .i64 s.P,.slice osa s.A.length csa,.int .i64 s.Q,.slice osb s.B.length csb,.int .i64 s.a,.int .i64 s.b,.slice osl s.L.length csl] 26)).alloc (.cells #[.int .i64 x,.int .i64 y] 40))=w0 at *;refine (CL.out _ S_0.out.l).mono ?_;rintro e w1 ⟨⟨v2,rfl,p⟩,hb⟩;obtain ⟨o2,c2,rfl⟩:=Sl.shape p;have AF_1:=zd AF_0 hb;have T_1:=zh (T_0.out.keep hb);have U_1:=zh (U_0.out.keep hb);have S_1:=zh (S_0.out.keep hb);clear hb AF_0 T_0 U_0 S_0;have P2_1:=zh p;clear p;obtain ⟨aa,ab,ac,ad,ae,af,ag,ah⟩:=T_1.out.z7;obtain ⟨ai,aj,ak⟩:=U_1.out.z2;go_wp2_with fail
          clear aa ab ac ad ae af ag ai aj ah ak;refine (LI1.out _ (b1:=0) (Or.inl ⟨rfl,_,_,rfl⟩) P2_1.out).mono ?_;rintro e w2 ⟨⟨v3,rfl,p⟩,hb⟩;obtain ⟨o3,c3,rfl⟩:=Sl.shape p;have AF_2:=zd AF_1 hb;have T_2:=zh (T_1.out.keep hb);have U_2:=zh (U_1.out.keep hb);have S_2:=zh (S_1.out.keep hb);have P2_2:=zh (P2_1.out.keep hb);clear hb AF_1 T_1 U_1 S_1 P2_1;have P3_2:=zh p;clear p;obtain ⟨aa,ab,ac,ad,ae,af,ag,ah⟩:=T_2.out.z7;obtain ⟨ai,aj,ak⟩:=U_2.out.z2;go_wp2_with fail
          clear aa ab ac ad ae af ag ai aj ah ak;refine (R2.out _ S_2.out.b).mono ?_;rintro e w3 ⟨⟨v4,rfl,p⟩,hb⟩;obtain ⟨o4,c4,rfl⟩:=Sl.shape p;have AF_3:=zd AF_2 hb;have T_3:=zh (T_2.out.keep hb);have U_3:=zh (U_2.out.keep hb);have S_3:=zh (S_2.out.keep hb);have P2_3:=zh (P2_2.out.keep hb);have P3_3:=zh (P3_2.out.keep hb);clear hb AF_2 T_2 U_2 S_2 P2_2 P3_2;have P4_3:=zh p;clear p;obtain ⟨aa,ab,ac,ad,ae,af,ag,ah⟩:=T_3.out.z7;obtain ⟨ai,aj,ak⟩:=U_3.out.z2;go_wp2_with fail
          clear aa ab ac ad ae af ag ai aj ah ak;refine (LI2.out _ P3_3.out P4_3.out).mono ?_;rintro e w4 ⟨⟨v5,rfl,p⟩,hb⟩;obtain ⟨o5,c5,rfl⟩:=Sl.shape p;have AF_4:=zd AF_3 hb;have T_4:=zh (T_3.out.keep hb);have U_4:=zh (U_3.out.keep hb);have S_4:=zh (S_3.out.keep hb);have P2_4:=zh (P2_3.out.keep hb);have P3_4:=zh (P3_3.out.keep hb);have P4_4:=zh (P4_3.out.keep hb);clear hb AF_3 T_3 U_3 S_3 P2_3 P3_3 P4_3;have P5_4:=zh p;clear p;obtain ⟨aa,ab,ac,ad,ae,af,ag,ah⟩:=T_4.out.z7;obtain ⟨ai,aj,ak⟩:=U_4.out.z2;go_wp2
          go_ret2
          exact ⟨⟨_,rfl,Sl.weak P5_4.out (Nat.zero_le _)⟩,AF_4.out⟩
    · have e3:=wk0 yb;have kx:=kb yb;clear R20 LI2 wk kb;rw [e3] at LI1
      by_cases b3:2000<C.length
      · have fin1:=wr_big b3;rw [fin1];have big:decide (2000<(C.length:Int))=true:=zdt (by omega);clear fin1 l1 l2 b3 wk0 e3
        go_enter Tryz.func35,Tryz.ntmps35
        obtain ⟨aa,ab,ac,ad,ae,af,ag,ah⟩:=T_0.out.z7;obtain ⟨ai,aj,ak⟩:=U_0.out.z2;go_wp2_with fail
        clear aa ab ac ad ae af ag ai aj ah ak;generalize ((w.alloc (.cells #[.int .i64 s.P,.slice osa s.A.length csa,.int .i64 s.Q,.slice osb s.B.length csb,.int .i64 s.a,.int .i64 s.b,.slice osl s.L.length csl] 26)).alloc (.cells #[.int .i64 x,.int .i64 y] 40))=w0 at *;refine (CL.out _ S_0.out.l).mono ?_;rintro e w1 ⟨⟨v2,rfl,p⟩,hb⟩;obtain ⟨o2,c2,rfl⟩:=Sl.shape p;have AF_1:=zd AF_0 hb;have T_1:=zh (T_0.out.keep hb);have U_1:=zh (U_0.out.keep hb);have S_1:=zh (S_0.out.keep hb);clear hb AF_0 T_0 U_0 S_0;have P2_1:=zh p;clear p;obtain ⟨aa,ab,ac,ad,ae,af,ag,ah⟩:=T_1.out.z7;obtain ⟨ai,aj,ak⟩:=U_1.out.z2;go_wp2_with fail
        clear aa ab ac ad ae af ag ai aj ah ak;refine (LI1.out _ (b1:=0) (Or.inl ⟨rfl,_,_,rfl⟩) P2_1.out).mono ?_;rintro e w2 ⟨⟨v3,rfl,p⟩,hb⟩;obtain ⟨o3,c3,rfl⟩:=Sl.shape p;have AF_2:=zd AF_1 hb;have T_2:=zh (T_1.out.keep hb);have U_2:=zh (U_1.out.keep hb);have S_2:=zh (S_1.out.keep hb);have P2_2:=zh (P2_1.out.keep hb);clear hb AF_1 T_1 U_1 S_1 P2_1;have P3_2:=zh p;clear p;obtain ⟨aa,ab,ac,ad,ae,af,ag,ah⟩:=T_2.out.z7;obtain ⟨ai,aj,ak⟩:=U_2.out.z2;go_wp2
        go_ret2
        exact ⟨⟨_,rfl,Or.inl ⟨rfl,_,_,rfl⟩⟩,AF_2.out⟩
      · have fin1:=wr_few b3;rw [fin1];have big:decide (2000<(C.length:Int))=false:=zdf (by omega);clear fin1 l1 l2 b3 wk0 e3
        go_enter Tryz.func35,Tryz.ntmps35
        obtain ⟨aa,ab,ac,ad,ae,af,ag,ah⟩:=T_0.out.z7;obtain ⟨ai,aj,ak⟩:=U_0.out.z2;go_wp2_with fail
        clear aa ab ac ad ae af ag ai aj ah ak;generalize ((w.alloc (.cells #[.int .i64 s.P,.slice osa s.A.length csa,.int .i64 s.Q,.slice osb s.B.length csb,.int .i64 s.a,.int .i64 s.b,.slice osl s.L.length csl] 26)).alloc (.cells #[.int .i64 x,.int .i64 y] 40))=w0 at *;refine (CL.out _ S_0.out.l).mono ?_;rintro e w1 ⟨⟨v2,rfl,p⟩,hb⟩;obtain ⟨o2,c2,rfl⟩:=Sl.shape p;have AF_1:=zd AF_0 hb;have T_1:=zh (T_0.out.keep hb);have U_1:=zh (U_0.out.keep hb);have S_1:=zh (S_0.out.keep hb);clear hb AF_0 T_0 U_0 S_0;have P2_1:=zh p;clear p;obtain ⟨aa,ab,ac,ad,ae,af,ag,ah⟩:=T_1.out.z7;obtain ⟨ai,aj,ak⟩:=U_1.out.z2;go_wp2_with fail
        clear aa ab ac ad ae af ag ai aj ah ak;refine (LI1.out _ (b1:=0) (Or.inl ⟨rfl,_,_,rfl⟩) P2_1.out).mono ?_;rintro e w2 ⟨⟨v3,rfl,p⟩,hb⟩;obtain ⟨o3,c3,rfl⟩:=Sl.shape p;have AF_2:=zd AF_1 hb;have T_2:=zh (T_1.out.keep hb);have U_2:=zh (U_1.out.keep hb);have S_2:=zh (S_1.out.keep hb);have P2_2:=zh (P2_1.out.keep hb);clear hb AF_1 T_1 U_1 S_1 P2_1;have P3_2:=zh p;clear p;obtain ⟨aa,ab,ac,ad,ae,af,ag,ah⟩:=T_2.out.z7;obtain ⟨ai,aj,ak⟩:=U_2.out.z2;go_wp2
        go_ret2
        exact ⟨⟨_,rfl,Sl.weak P3_2.out (Nat.zero_le _)⟩,AF_2.out⟩
end Go.Proofs.YtmamlgaogpkagaaGreat
