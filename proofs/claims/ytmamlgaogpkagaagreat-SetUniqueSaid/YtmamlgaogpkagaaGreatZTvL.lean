/- TvL. -/
import Derived.Test.YtmamlgaogpkagaaGreatZLPlain
import Derived.Test.YtmamlgaogpkagaaGreatZLGen
import Derived.Test.YtmamlgaogpkagaaGreatZLSl
import Derived.Test.YtmamlgaogpkagaaGreatZLOwn
import Derived.Test.YtmamlgaogpkagaaGreatZRnP
import Derived.Test.YtmamlgaogpkagaaGreatZPeKE
import Derived.Test.YtmamlgaogpkagaaGreatZPeKK
import Derived.Test.YtmamlgaogpkagaaGreatZPeGD
import Derived.Test.YtmamlgaogpkagaaGreatZTsR
import Derived.Test.YtmamlgaogpkagaaGreatZTsG
import Derived.Test.YtmamlgaogpkagaaGreatZTsE
import Derived.Test.YtmamlgaogpkagaaGreatZTsH
import Derived.Test.YtmamlgaogpkagaaGreatZTsA
import Derived.Test.YtmamlgaogpkagaaGreatZTsI
import Derived.Test.YtmamlgaogpkagaaGreatZTsZ
import Derived.Test.YtmamlgaogpkagaaGreatZTvB
import Derived.Test.YtmamlgaogpkagaaGreatZTvE
import Derived.Test.YtmamlgaogpkagaaGreatZTvF
import Derived.Test.YtmamlgaogpkagaaGreatZTvK
import Derived.StillTailTactics
import Derived.BigQuiet
import Derived.Deep.QuietTactic
import Derived.Laws.EntriesVeiled
namespace Go.Proofs.YtmamlgaogpkagaaGreat
open Go.RowKit
set_option linter.unusedVariables false
set_option linter.unusedSimpArgs false
set_option maxRecDepth 100000 in
set_option maxHeartbeats 4000000 in
theorem tvof (P Q:Int) (va vb vl:Value) (A B l:List Sp) (hA:A.length≤maxLen) (hB:B.length≤maxLen) (hl:l.length≤maxLen) (hP:I64 P) (hQ:I64 Q) (lo hi:Int) (h1:I64 lo) (h2:I64 hi) {ba bb bl:Nat} (w:World) (a:PairS ba w va A) (b:PairS bb w vb B) (pl:PairS bl w vl l) :
  Calls Tryz.prog 17 #[.agg #[.int .i64 P,va],.agg #[.int .i64 Q,vb],.int .i64 lo,.int .i64 hi,vl] w (TsO w (toR P A Q B lo hi l)):=by
 obtain ⟨oa,ca,rfl⟩:=prs_shape a;obtain ⟨ob,cb,rfl⟩:=prs_shape b;obtain ⟨ol,cl,rfl⟩:=prs_shape pl;have aA:=zh (grow (grow (grow (here w) (.cells #[.int .i64 P,.slice oa A.length ca] 24)) (.cells #[.int .i64 Q,.slice ob B.length cb] 24)) (.cells #[.int .i64 0,.slice none 0 0,.int .i64 0,.slice none 0 0,.int .i64 0,.int .i64 0,.slice none 0 0] 26));have T_0:=zh (((Bxs.new (w:=w) [.int .i64 P,.slice oa A.length ca] 24).old (.cells #[.int .i64 Q,.slice ob B.length cb] 24)).old (.cells #[.int .i64 0,.slice none 0 0,.int .i64 0,.slice none 0 0,.int .i64 0,.int .i64 0,.slice none 0 0] 26));have U_0:=zh ((Bxs.snd (w:=w) (o:=(.cells #[.int .i64 P,.slice oa A.length ca] 24)) [.int .i64 Q,.slice ob B.length cb] 24).old (.cells #[.int .i64 0,.slice none 0 0,.int .i64 0,.slice none 0 0,.int .i64 0,.int .i64 0,.slice none 0 0] 26));have R_0:=zh (Bxo.trd (w:=w) (o:=(.cells #[.int .i64 P,.slice oa A.length ca] 24)) (o':=(.cells #[.int .i64 Q,.slice ob B.length cb] 24)) [.int .i64 0,.slice none 0 0,.int .i64 0,.slice none 0 0,.int .i64 0,.int .i64 0,.slice none 0 0] 26);have ax:=zh (a.keep aA.out);have ay:=zh (b.keep aA.out);have aE:=zh (pl.keep aA.out);clear a b pl;have PR:=zh (fun W (h:PairS ba W (.slice oa A.length ca) A) (k:PairS bb W (.slice ob B.length cb) B)=>tvpair P Q _ _ A B hA hB hP hQ W h k);have IL:=zh (fun W (h:PairS bl W (.slice ol l.length cl) l)=>tvislist _ l hl lo hi h1 h2 W h);have FO0:Hid (∀ W (h:PairS ba W (.slice oa A.length ca) A) (k:PairS bb W (.slice ob B.length cb) B) (m:PairS bl W (.slice ol l.length cl) l),Giv P A Q B lo hi l→pqE P A Q B=0→Calls Tryz.prog 63 #[.agg #[.int .i64 P,.slice oa A.length ca,.int .i64 Q,.slice ob B.length cb,.int .i64 lo,.int .i64 hi,.slice ol l.length cl]] W (TsO W (frT P A Q B (gvF P A Q B lo hi l)))):=fun W h k m g e=>tvform ⟨P,A,Q,B,lo,hi,l⟩ g e _ _ _ W ⟨Sl.weak h (Nat.zero_le _),Sl.weak k (Nat.zero_le _),Sl.weak m (Nat.zero_le _)⟩;obtain ⟨R,hR⟩:∃ R,toR P A Q B lo hi l=R:=⟨_,rfl⟩;have TL:Hid (TsL R.1):=by show TsL R.1;rw [← hR];exact to_tl P A Q B lo hi l
 have pc:=paE_cases P A Q B;have te:=to_eq P A Q B lo hi l;have gl:=giv_il (P:=P) (A:=A) (Q:=Q) (B:=B) (lo:=lo) (hi:=hi) (l:=l);have g1:=paE_1 (P:=P) (A:=A) (Q:=Q) (B:=B);rw [hR] at te ⊢;clear hA hB hl hP hQ h1 h2 hR
 by_cases c1:paE P A Q B=1
 ·rw [if_pos (Or.inl c1)] at te;have hR:=zh te;rw [c1] at PR;clear te c1 pc FO0 IL gl g1 TL;have fin:R=(tsZ,1):=hR.out
  go_enter Tryz.func17,Tryz.ntmps17
  refine T_0.out.k2 fun aa ab ac=>?_;refine U_0.out.k2 fun ad ae af=>?_;go_wp2_with fail
  clear aa ab ad ae ac af;generalize (((w.alloc (.cells #[.int .i64 P,.slice oa A.length ca] 24)).alloc (.cells #[.int .i64 Q,.slice ob B.length cb] 24)).alloc (.cells #[.int .i64 0,.slice none 0 0,.int .i64 0,.slice none 0 0,.int .i64 0,.int .i64 0,.slice none 0 0] 26))=w0 at *;refine (PR.out _ ax.out ay.out).mono ?_;rintro e w1 ⟨rfl,hb⟩;have aB:=zd aA hb;have T_1:=zh (T_0.out.keep hb);have U_1:=zh (U_0.out.keep hb);have aC:=zh (ax.out.keep hb);have aD:=zh (ay.out.keep hb);have az:=zh (aE.out.keep hb);have R_1:=zh (R_0.out.keep hb);clear hb aA T_0 U_0 ax ay aE R_0;refine T_1.out.k2 fun aa ab ac=>?_;refine U_1.out.k2 fun ad ae af=>?_;refine R_1.out.k7 fun ag ah ai aj ak al am an ao ap aq ar au av rl=>?_;go_wp2
  have FB:=R_1.out.put7 (.int .i64 0) (.slice none 0 0) (.int .i64 0) (.slice none 0 0) (.int .i64 0) (.int .i64 0) (.slice none 0 0);have AF:=below_put7 aB.out (show w.heap.size≤w.heap.size+1+1 by omega) (.int .i64 0) (.slice none 0 0) (.int .i64 0) (.slice none 0 0) (.int .i64 0) (.int .i64 0) (.slice none 0 0);refine FB.k7 fun q0 q1 q2 q3 q4 q5 q6 aw=>?_;clear aw;refine bodyPost_ret (v:=.tuple #[.agg #[.int .i64 0,.slice none 0 0,.int .i64 0,.slice none 0 0,.int .i64 0,.int .i64 0,.slice none 0 0],.int .i64 1]) (by simp [results,Tryz.results17,go_sem,q0,q1,q2,q3,q4,q5,q6]) rfl ?_;rw [hR.out];exact TsO.zero _ AF
 ·cases i:ilB l lo hi
  ·rw [if_pos (Or.inr i)] at te;have hR:=zh te;rw [i] at IL;clear te gl g1 TL FO0 i;have kx:(paE P A Q B==1)=false:=by rw [beq_eq_false_iff_ne];exact c1
   generalize paE P A Q B=x at *;clear c1
   go_enter Tryz.func17,Tryz.ntmps17
   refine T_0.out.k2 fun aa ab ac=>?_;refine U_0.out.k2 fun ad ae af=>?_;go_wp2_with fail
   clear aa ab ad ae ac af;generalize (((w.alloc (.cells #[.int .i64 P,.slice oa A.length ca] 24)).alloc (.cells #[.int .i64 Q,.slice ob B.length cb] 24)).alloc (.cells #[.int .i64 0,.slice none 0 0,.int .i64 0,.slice none 0 0,.int .i64 0,.int .i64 0,.slice none 0 0] 26))=w0 at *;refine (PR.out _ ax.out ay.out).mono ?_;rintro e w1 ⟨rfl,hb⟩;have aB:=zd aA hb;have T_1:=zh (T_0.out.keep hb);have U_1:=zh (U_0.out.keep hb);have aC:=zh (ax.out.keep hb);have aD:=zh (ay.out.keep hb);have az:=zh (aE.out.keep hb);have R_1:=zh (R_0.out.keep hb);clear hb aA T_0 U_0 ax ay aE R_0;refine T_1.out.k2 fun aa ab ac=>?_;refine U_1.out.k2 fun ad ae af=>?_;go_wp2_with fail
   clear aa ab ad ae ac af;refine (IL.out _ az.out).mono ?_;rintro e w2 ⟨rfl,hb⟩;have aF:=zd aB hb;have T_2:=zh (T_1.out.keep hb);have U_2:=zh (U_1.out.keep hb);have aG:=zh (aC.out.keep hb);have aH:=zh (aD.out.keep hb);have aJ:=zh (az.out.keep hb);have R_2:=zh (R_1.out.keep hb);clear hb aB T_1 U_1 aC aD az R_1;refine T_2.out.k2 fun aa ab ac=>?_;refine U_2.out.k2 fun ad ae af=>?_;refine R_2.out.k7 fun ag ah ai aj ak al am an ao ap aq ar au av rl=>?_;go_wp2
   have FB:=R_2.out.put7 (.int .i64 0) (.slice none 0 0) (.int .i64 0) (.slice none 0 0) (.int .i64 0) (.int .i64 0) (.slice none 0 0);have AF:=below_put7 aF.out (show w.heap.size≤w.heap.size+1+1 by omega) (.int .i64 0) (.slice none 0 0) (.int .i64 0) (.slice none 0 0) (.int .i64 0) (.int .i64 0) (.slice none 0 0);refine FB.k7 fun q0 q1 q2 q3 q4 q5 q6 aw=>?_;clear aw;refine bodyPost_ret (v:=.tuple #[.agg #[.int .i64 0,.slice none 0 0,.int .i64 0,.slice none 0 0,.int .i64 0,.int .i64 0,.slice none 0 0],.int .i64 1]) (by simp [results,Tryz.results17,go_sem,q0,q1,q2,q3,q4,q5,q6]) rfl ?_;rw [hR.out];exact TsO.zero _ AF
  ·rw [if_neg (by rintro (h | h);exact c1 h;rw [i] at h;cases h)] at te;rw [i] at IL;have g:=gl.2 ⟨c1,i⟩;have kx:(paE P A Q B==1)=false:=by rw [beq_eq_false_iff_ne];exact c1
   by_cases c0:paE P A Q B=0
   ·rw [if_neg (by rw [c0];exact fun h=>h rfl)] at te;have FO:=zh (fun W h k m=>FO0.out W h k m g (by rw [← paE_pq g.p g.q];exact c0));rw [← te] at FO;have k0:(paE P A Q B==0)=true:=by rw [beq_iff_eq];exact c0
    generalize paE P A Q B=x at *;clear te c0 c1 pc gl g1 i g FO0
    go_enter Tryz.func17,Tryz.ntmps17
    refine T_0.out.k2 fun aa ab ac=>?_;refine U_0.out.k2 fun ad ae af=>?_;go_wp2_with fail
    clear aa ab ad ae ac af;generalize (((w.alloc (.cells #[.int .i64 P,.slice oa A.length ca] 24)).alloc (.cells #[.int .i64 Q,.slice ob B.length cb] 24)).alloc (.cells #[.int .i64 0,.slice none 0 0,.int .i64 0,.slice none 0 0,.int .i64 0,.int .i64 0,.slice none 0 0] 26))=w0 at *;refine (PR.out _ ax.out ay.out).mono ?_;rintro e w1 ⟨rfl,hb⟩;have aB:=zd aA hb;have T_1:=zh (T_0.out.keep hb);have U_1:=zh (U_0.out.keep hb);have aC:=zh (ax.out.keep hb);have aD:=zh (ay.out.keep hb);have az:=zh (aE.out.keep hb);have R_1:=zh (R_0.out.keep hb);clear hb aA T_0 U_0 ax ay aE R_0;refine T_1.out.k2 fun aa ab ac=>?_;refine U_1.out.k2 fun ad ae af=>?_;go_wp2_with fail
    clear aa ab ad ae ac af;refine (IL.out _ az.out).mono ?_;rintro e w2 ⟨rfl,hb⟩;have aF:=zd aB hb;have T_2:=zh (T_1.out.keep hb);have U_2:=zh (U_1.out.keep hb);have aG:=zh (aC.out.keep hb);have aH:=zh (aD.out.keep hb);have aJ:=zh (az.out.keep hb);have R_2:=zh (R_1.out.keep hb);clear hb aB T_1 U_1 aC aD az R_1;refine T_2.out.k2 fun aa ab ac=>?_;refine U_2.out.k2 fun ad ae af=>?_;go_wp2_with fail
    clear aa ab ad ae ac af;refine (FO.out _ aG.out aH.out aJ.out).mono ?_;rintro e w3 ⟨⟨ua,ub,ul,rfl,ss⟩,hb⟩;obtain ⟨ora,cra,rfl⟩:=prs_shape ss.a;obtain ⟨orb,crb,rfl⟩:=prs_shape ss.b;obtain ⟨orl,crl,rfl⟩:=prs_shape ss.l;have aK:=zd aF hb;have T_3:=zh (T_2.out.keep hb);have U_3:=zh (U_2.out.keep hb);have Sa_3:=zh (aG.out.keep hb);have Sb_3:=zh (aH.out.keep hb);have Sl_3:=zh (aJ.out.keep hb);have R_3:=zh (R_2.out.keep hb);clear hb aF T_2 U_2 aG aH aJ R_2;have aL:=zh ss;clear ss;refine R_3.out.k7 fun ag ah ai aj ak al am an ao ap aq ar au av rl=>?_;go_wp2
    have FB:=R_3.out.put7 (.int .i64 R.1.P) (.slice ora R.1.A.length cra) (.int .i64 R.1.Q) (.slice orb R.1.B.length crb) (.int .i64 R.1.a) (.int .i64 R.1.b) (.slice orl R.1.L.length crl);have AF:=below_put7 aK.out (show w.heap.size≤w.heap.size+1+1 by omega) (.int .i64 R.1.P) (.slice ora R.1.A.length cra) (.int .i64 R.1.Q) (.slice orb R.1.B.length crb) (.int .i64 R.1.a) (.int .i64 R.1.b) (.slice orl R.1.L.length crl);refine FB.k7 fun q0 q1 q2 q3 q4 q5 q6 aw=>?_;clear aw;refine bodyPost_ret (v:=.tuple #[.agg #[.int .i64 R.1.P,.slice ora R.1.A.length cra,.int .i64 R.1.Q,.slice orb R.1.B.length crb,.int .i64 R.1.a,.int .i64 R.1.b,.slice orl R.1.L.length crl],.int .i64 R.2]) (by simp [results,Tryz.results17,go_sem,q0,q1,q2,q3,q4,q5,q6]) rfl ?_;exact ⟨⟨_,_,_,rfl,aL.out.stray TL.out R_3.out (.int .i64 R.1.P) (.slice ora R.1.A.length cra) (.int .i64 R.1.Q) (.slice orb R.1.B.length crb) (.int .i64 R.1.a) (.int .i64 R.1.b) (.slice orl R.1.L.length crl)⟩,AF⟩
   ·rw [if_pos c0] at te;have hR:=zh te;have k0:(paE P A Q B==0)=false:=by rw [beq_eq_false_iff_ne];exact c0
    generalize paE P A Q B=x at *;clear te c0 c1 gl g1 i g FO0 TL
    go_enter Tryz.func17,Tryz.ntmps17
    refine T_0.out.k2 fun aa ab ac=>?_;refine U_0.out.k2 fun ad ae af=>?_;go_wp2_with fail
    clear aa ab ad ae ac af;generalize (((w.alloc (.cells #[.int .i64 P,.slice oa A.length ca] 24)).alloc (.cells #[.int .i64 Q,.slice ob B.length cb] 24)).alloc (.cells #[.int .i64 0,.slice none 0 0,.int .i64 0,.slice none 0 0,.int .i64 0,.int .i64 0,.slice none 0 0] 26))=w0 at *;refine (PR.out _ ax.out ay.out).mono ?_;rintro e w1 ⟨rfl,hb⟩;have aB:=zd aA hb;have T_1:=zh (T_0.out.keep hb);have U_1:=zh (U_0.out.keep hb);have aC:=zh (ax.out.keep hb);have aD:=zh (ay.out.keep hb);have az:=zh (aE.out.keep hb);have R_1:=zh (R_0.out.keep hb);clear hb aA T_0 U_0 ax ay aE R_0;refine T_1.out.k2 fun aa ab ac=>?_;refine U_1.out.k2 fun ad ae af=>?_;go_wp2_with fail
    clear aa ab ad ae ac af;refine (IL.out _ az.out).mono ?_;rintro e w2 ⟨rfl,hb⟩;have aF:=zd aB hb;have T_2:=zh (T_1.out.keep hb);have U_2:=zh (U_1.out.keep hb);have aG:=zh (aC.out.keep hb);have aH:=zh (aD.out.keep hb);have aJ:=zh (az.out.keep hb);have R_2:=zh (R_1.out.keep hb);clear hb aB T_1 U_1 aC aD az R_1;refine T_2.out.k2 fun aa ab ac=>?_;refine U_2.out.k2 fun ad ae af=>?_;refine R_2.out.k7 fun ag ah ai aj ak al am an ao ap aq ar au av rl=>?_;go_wp2
    have FB:=R_2.out.put7 (.int .i64 0) (.slice none 0 0) (.int .i64 0) (.slice none 0 0) (.int .i64 0) (.int .i64 0) (.slice none 0 0);have AF:=below_put7 aF.out (show w.heap.size≤w.heap.size+1+1 by omega) (.int .i64 0) (.slice none 0 0) (.int .i64 0) (.slice none 0 0) (.int .i64 0) (.int .i64 0) (.slice none 0 0);refine FB.k7 fun q0 q1 q2 q3 q4 q5 q6 aw=>?_;clear aw;refine bodyPost_ret (v:=.tuple #[.agg #[.int .i64 0,.slice none 0 0,.int .i64 0,.slice none 0 0,.int .i64 0,.int .i64 0,.slice none 0 0],.int .i64 x]) (by simp [results,Tryz.results17,go_sem,q0,q1,q2,q3,q4,q5,q6]) rfl ?_;rw [hR.out];exact TsO.zero _ AF
set_option maxRecDepth 100000 in
set_option maxHeartbeats 4000000 in
theorem tvvalid (s:TS) (va vb vl:Value) (ti:TsI s) (w:World) (h:SS3 w s va vb vl) :
  Calls Tryz.prog 20 #[.agg #[.int .i64 s.P,va,.int .i64 s.Q,vb,.int .i64 s.a,.int .i64 s.b,vl]] w fun e w'=>e=.returned (.bool (vsB s))∧Below w.heap.size w w':=by
 obtain ⟨osa,csa,rfl⟩:=prs_shape h.a;obtain ⟨osb,csb,rfl⟩:=prs_shape h.b;obtain ⟨osl,csl,rfl⟩:=prs_shape h.l;have ak:=zh (grow (here w) (.cells #[.int .i64 s.P,.slice osa s.A.length csa,.int .i64 s.Q,.slice osb s.B.length csb,.int .i64 s.a,.int .i64 s.b,.slice osl s.L.length csl] 26));have T_0:=zh (Bxs.new (w:=w) [.int .i64 s.P,.slice osa s.A.length csa,.int .i64 s.Q,.slice osb s.B.length csb,.int .i64 s.a,.int .i64 s.b,.slice osl s.L.length csl] 26);have S_0:=zh (h.keep ak.out);have PR:=zh (fun W (h:PairS 0 W (.slice osa s.A.length csa) s.A) (k:PairS 0 W (.slice osb s.B.length csb) s.B)=>tvpair s.P s.Q _ _ s.A s.B ti.A ti.B ti.P ti.Q W h k);have IL:=zh (fun W (h:PairS 0 W (.slice osl s.L.length csl) s.L)=>tvislist _ s.L ti.L s.a s.b ti.a ti.b W h);have PU0:Hid (∀ W,GW s→SS3 W s (.slice osa s.A.length csa) (.slice osb s.B.length csb) (.slice osl s.L.length csl)→Calls Tryz.prog 66 #[.agg #[.int .i64 s.P,.slice osa s.A.length csa,.int .i64 s.Q,.slice osb s.B.length csb,.int .i64 s.a,.int .i64 s.b,.slice osl s.L.length csl]] W fun e w'=>e=.returned (.bool (decide (s.a=s.b∧smP s)))∧Below W.heap.size W w'):=fun W gw h=>tvispure s _ _ _ (by have:=gw.p.len;omega) ti.a ti.b W h;have D10:Hid (∀ W,GW s→SS3 W s (.slice osa s.A.length csa) (.slice osb s.B.length csb) (.slice osl s.L.length csl)→PairS 0 W (.slice osb s.B.length csb) s.B→Calls Tryz.prog 67 #[.agg #[.int .i64 s.P,.slice osa s.A.length csa,.int .i64 s.Q,.slice osb s.B.length csb,.int .i64 s.a,.int .i64 s.b,.slice osl s.L.length csl],.agg #[.int .i64 s.Q,.slice osb s.B.length csb],.int .i64 (s.b - 1)] W fun e w'=>e=.returned (.bool (hsT s (s.b - 1) != hsP s.Q s.B (s.b - 1)))∧Below W.heap.size W w'):=fun W gw h k=>tvdiffer s gw _ _ _ _ s.Q s.B gw.q (s.b - 1) (by have:=gw.lo0;have:=gw.hi0;have:=gw.le;unfold I64;omega) W h k;have D20:Hid (∀ W,GW s→SS3 W s (.slice osa s.A.length csa) (.slice osb s.B.length csb) (.slice osl s.L.length csl)→PairS 0 W (.slice osa s.A.length csa) s.A→Calls Tryz.prog 67 #[.agg #[.int .i64 s.P,.slice osa s.A.length csa,.int .i64 s.Q,.slice osb s.B.length csb,.int .i64 s.a,.int .i64 s.b,.slice osl s.L.length csl],.agg #[.int .i64 s.P,.slice osa s.A.length csa],.int .i64 s.a] W fun e w'=>e=.returned (.bool (hsT s s.a != hsP s.P s.A s.a))∧Below W.heap.size W w'):=fun W gw h k=>tvdiffer s gw _ _ _ _ s.P s.A gw.p s.a (by have:=gw.lo0;have:=gw.hi0;have:=gw.le;unfold I64;omega) W h k;rw [vs_eq];have gl:=giv_il (P:=s.P) (A:=s.A) (Q:=s.Q) (B:=s.B) (lo:=s.a) (hi:=s.b) (l:=s.L);clear h ti
 by_cases c0:paE s.P s.A s.Q s.B=0
 ·rw [zdt c0,Bool.true_and];rw [c0] at PR
  cases i:ilB s.L s.a s.b
  ·rw [i] at IL;rw [Bool.false_and];clear gl i PU0 D10 D20 c0
   go_enter Tryz.func20,Tryz.ntmps20
   refine T_0.out.k7 fun aa ab ac ad ae af ag ah=>?_;go_wp2_with fail
   clear aa ab ac ad ae af ag ah;generalize (w.alloc (.cells #[.int .i64 s.P,.slice osa s.A.length csa,.int .i64 s.Q,.slice osb s.B.length csb,.int .i64 s.a,.int .i64 s.b,.slice osl s.L.length csl] 26))=w0 at *;refine (PR.out _ S_0.out.a S_0.out.b).mono ?_;rintro e w1 ⟨rfl,hb⟩;have ai:=zd ak hb;have T_1:=zh (T_0.out.keep hb);have S_1:=zh (S_0.out.keep hb);clear hb ak T_0 S_0;refine T_1.out.k7 fun aa ab ac ad ae af ag ah=>?_;go_wp2_with fail
   clear aa ab ac ad ae af ag ah;refine (IL.out _ S_1.out.l).mono ?_;rintro e w2 ⟨rfl,hb⟩;have aj:=zd ai hb;have T_2:=zh (T_1.out.keep hb);have S_2:=zh (S_1.out.keep hb);clear hb ai T_1 S_1;refine T_2.out.k7 fun aa ab ac ad ae af ag ah=>?_;go_wp2
   go_ret
   exact ⟨rfl,aj.out⟩
  ·rw [i] at IL;rw [Bool.true_and];have gw:=(gl.2 ⟨by omega,i⟩).gw;have lo0:=gw.lo0;have hi0:=gw.hi0;have le:=gw.le;have PU:=zh (fun W h=>PU0.out W gw h);have D1:=zh (fun W h k=>D10.out W gw h k);have D2:=zh (fun W h k=>D20.out W gw h k)
   unfold vdB
   clear gl i PU0 D10 D20 c0 gw
   by_cases p:s.a=s.b∧smP s
   ·rw [if_pos p];rw [zdt p] at PU;clear p D1 D2
    by_cases z:s.a=0
    ·have kz:(s.a==0)=true:=beq_iff_eq.2 z;rw [zdt z];clear z
     go_enter Tryz.func20,Tryz.ntmps20
     refine T_0.out.k7 fun aa ab ac ad ae af ag ah=>?_;go_wp2_with fail
     clear aa ab ac ad ae af ag ah;generalize (w.alloc (.cells #[.int .i64 s.P,.slice osa s.A.length csa,.int .i64 s.Q,.slice osb s.B.length csb,.int .i64 s.a,.int .i64 s.b,.slice osl s.L.length csl] 26))=w0 at *;refine (PR.out _ S_0.out.a S_0.out.b).mono ?_;rintro e w1 ⟨rfl,hb⟩;have ai:=zd ak hb;have T_1:=zh (T_0.out.keep hb);have S_1:=zh (S_0.out.keep hb);clear hb ak T_0 S_0;refine T_1.out.k7 fun aa ab ac ad ae af ag ah=>?_;go_wp2_with fail
     clear aa ab ac ad ae af ag ah;refine (IL.out _ S_1.out.l).mono ?_;rintro e w2 ⟨rfl,hb⟩;have aj:=zd ai hb;have T_2:=zh (T_1.out.keep hb);have S_2:=zh (S_1.out.keep hb);clear hb ai T_1 S_1;refine T_2.out.k7 fun aa ab ac ad ae af ag ah=>?_;go_wp2_with fail
     clear aa ab ac ad ae af ag ah;refine (PU.out _ S_2.out).mono ?_;rintro e w3 ⟨rfl,hb⟩;have al:=zd aj hb;have T_3:=zh (T_2.out.keep hb);have S_3:=zh (S_2.out.keep hb);clear hb aj T_2 S_2;refine T_3.out.k7 fun aa ab ac ad ae af ag ah=>?_;go_wp2
     go_ret
     exact ⟨rfl,al.out⟩
    ·have kz:(s.a==0)=false:=by rw [beq_eq_false_iff_ne];exact z
     rw [zdf z];clear z
     go_enter Tryz.func20,Tryz.ntmps20
     refine T_0.out.k7 fun aa ab ac ad ae af ag ah=>?_;go_wp2_with fail
     clear aa ab ac ad ae af ag ah;generalize (w.alloc (.cells #[.int .i64 s.P,.slice osa s.A.length csa,.int .i64 s.Q,.slice osb s.B.length csb,.int .i64 s.a,.int .i64 s.b,.slice osl s.L.length csl] 26))=w0 at *;refine (PR.out _ S_0.out.a S_0.out.b).mono ?_;rintro e w1 ⟨rfl,hb⟩;have ai:=zd ak hb;have T_1:=zh (T_0.out.keep hb);have S_1:=zh (S_0.out.keep hb);clear hb ak T_0 S_0;refine T_1.out.k7 fun aa ab ac ad ae af ag ah=>?_;go_wp2_with fail
     clear aa ab ac ad ae af ag ah;refine (IL.out _ S_1.out.l).mono ?_;rintro e w2 ⟨rfl,hb⟩;have aj:=zd ai hb;have T_2:=zh (T_1.out.keep hb);have S_2:=zh (S_1.out.keep hb);clear hb ai T_1 S_1;refine T_2.out.k7 fun aa ab ac ad ae af ag ah=>?_;go_wp2_with fail
     clear aa ab ac ad ae af ag ah;refine (PU.out _ S_2.out).mono ?_;rintro e w3 ⟨rfl,hb⟩;have al:=zd aj hb;have T_3:=zh (T_2.out.keep hb);have S_3:=zh (S_2.out.keep hb);clear hb aj T_2 S_2;refine T_3.out.k7 fun aa ab ac ad ae af ag ah=>?_;go_wp2
     go_ret
     exact ⟨rfl,al.out⟩
   ·rw [if_neg p];rw [zdf p] at PU;clear p
    cases d:(hsT s (s.b - 1) != hsP s.Q s.B (s.b - 1))
    ·rw [d] at D1;rw [Bool.false_and];clear d D2
     go_enter Tryz.func20,Tryz.ntmps20
     refine T_0.out.k7 fun aa ab ac ad ae af ag ah=>?_;go_wp2_with fail
     clear aa ab ac ad ae af ag ah;generalize (w.alloc (.cells #[.int .i64 s.P,.slice osa s.A.length csa,.int .i64 s.Q,.slice osb s.B.length csb,.int .i64 s.a,.int .i64 s.b,.slice osl s.L.length csl] 26))=w0 at *;refine (PR.out _ S_0.out.a S_0.out.b).mono ?_;rintro e w1 ⟨rfl,hb⟩;have ai:=zd ak hb;have T_1:=zh (T_0.out.keep hb);have S_1:=zh (S_0.out.keep hb);clear hb ak T_0 S_0;refine T_1.out.k7 fun aa ab ac ad ae af ag ah=>?_;go_wp2_with fail
     clear aa ab ac ad ae af ag ah;refine (IL.out _ S_1.out.l).mono ?_;rintro e w2 ⟨rfl,hb⟩;have aj:=zd ai hb;have T_2:=zh (T_1.out.keep hb);have S_2:=zh (S_1.out.keep hb);clear hb ai T_1 S_1;refine T_2.out.k7 fun aa ab ac ad ae af ag ah=>?_;go_wp2_with fail
     clear aa ab ac ad ae af ag ah;refine (PU.out _ S_2.out).mono ?_;rintro e w3 ⟨rfl,hb⟩;have al:=zd aj hb;have T_3:=zh (T_2.out.keep hb);have S_3:=zh (S_2.out.keep hb);clear hb aj T_2 S_2;refine T_3.out.k7 fun aa ab ac ad ae af ag ah=>?_;go_wp2_with fail
     clear aa ab ac ad ae af ag ah;refine (D1.out _ S_3.out S_3.out.b).mono ?_;rintro e w4 ⟨rfl,hb⟩;have am:=zd al hb;have T_4:=zh (T_3.out.keep hb);have S_4:=zh (S_3.out.keep hb);clear hb al T_3 S_3;refine T_4.out.k7 fun aa ab ac ad ae af ag ah=>?_;go_wp2
     go_ret
     exact ⟨rfl,am.out⟩
    ·rw [d] at D1;rw [Bool.true_and];clear d
     by_cases q:s.a=s.b
     ·have kq:(s.a==s.b)=true:=beq_iff_eq.2 q;rw [zdt q,Bool.true_or];clear q D2
      go_enter Tryz.func20,Tryz.ntmps20
      refine T_0.out.k7 fun aa ab ac ad ae af ag ah=>?_;go_wp2_with fail
      clear aa ab ac ad ae af ag ah;generalize (w.alloc (.cells #[.int .i64 s.P,.slice osa s.A.length csa,.int .i64 s.Q,.slice osb s.B.length csb,.int .i64 s.a,.int .i64 s.b,.slice osl s.L.length csl] 26))=w0 at *;refine (PR.out _ S_0.out.a S_0.out.b).mono ?_;rintro e w1 ⟨rfl,hb⟩;have ai:=zd ak hb;have T_1:=zh (T_0.out.keep hb);have S_1:=zh (S_0.out.keep hb);clear hb ak T_0 S_0;refine T_1.out.k7 fun aa ab ac ad ae af ag ah=>?_;go_wp2_with fail
      clear aa ab ac ad ae af ag ah;refine (IL.out _ S_1.out.l).mono ?_;rintro e w2 ⟨rfl,hb⟩;have aj:=zd ai hb;have T_2:=zh (T_1.out.keep hb);have S_2:=zh (S_1.out.keep hb);clear hb ai T_1 S_1;refine T_2.out.k7 fun aa ab ac ad ae af ag ah=>?_;go_wp2_with fail
      clear aa ab ac ad ae af ag ah;refine (PU.out _ S_2.out).mono ?_;rintro e w3 ⟨rfl,hb⟩;have al:=zd aj hb;have T_3:=zh (T_2.out.keep hb);have S_3:=zh (S_2.out.keep hb);clear hb aj T_2 S_2;refine T_3.out.k7 fun aa ab ac ad ae af ag ah=>?_;go_wp2_with fail
      clear aa ab ac ad ae af ag ah;refine (D1.out _ S_3.out S_3.out.b).mono ?_;rintro e w4 ⟨rfl,hb⟩;have am:=zd al hb;have T_4:=zh (T_3.out.keep hb);have S_4:=zh (S_3.out.keep hb);clear hb al T_3 S_3;refine T_4.out.k7 fun aa ab ac ad ae af ag ah=>?_;go_wp2
      go_ret
      exact ⟨rfl,am.out⟩
     ·have kq:(s.a==s.b)=false:=by rw [beq_eq_false_iff_ne];exact q
      rw [zdf q,Bool.false_or];clear q;generalize (hsT s s.a != hsP s.P s.A s.a)=dd at *
      go_enter Tryz.func20,Tryz.ntmps20
      refine T_0.out.k7 fun aa ab ac ad ae af ag ah=>?_;go_wp2_with fail
      clear aa ab ac ad ae af ag ah;generalize (w.alloc (.cells #[.int .i64 s.P,.slice osa s.A.length csa,.int .i64 s.Q,.slice osb s.B.length csb,.int .i64 s.a,.int .i64 s.b,.slice osl s.L.length csl] 26))=w0 at *;refine (PR.out _ S_0.out.a S_0.out.b).mono ?_;rintro e w1 ⟨rfl,hb⟩;have ai:=zd ak hb;have T_1:=zh (T_0.out.keep hb);have S_1:=zh (S_0.out.keep hb);clear hb ak T_0 S_0;refine T_1.out.k7 fun aa ab ac ad ae af ag ah=>?_;go_wp2_with fail
      clear aa ab ac ad ae af ag ah;refine (IL.out _ S_1.out.l).mono ?_;rintro e w2 ⟨rfl,hb⟩;have aj:=zd ai hb;have T_2:=zh (T_1.out.keep hb);have S_2:=zh (S_1.out.keep hb);clear hb ai T_1 S_1;refine T_2.out.k7 fun aa ab ac ad ae af ag ah=>?_;go_wp2_with fail
      clear aa ab ac ad ae af ag ah;refine (PU.out _ S_2.out).mono ?_;rintro e w3 ⟨rfl,hb⟩;have al:=zd aj hb;have T_3:=zh (T_2.out.keep hb);have S_3:=zh (S_2.out.keep hb);clear hb aj T_2 S_2;refine T_3.out.k7 fun aa ab ac ad ae af ag ah=>?_;go_wp2_with fail
      clear aa ab ac ad ae af ag ah;refine (D1.out _ S_3.out S_3.out.b).mono ?_;rintro e w4 ⟨rfl,hb⟩;have am:=zd al hb;have T_4:=zh (T_3.out.keep hb);have S_4:=zh (S_3.out.keep hb);clear hb al T_3 S_3;refine T_4.out.k7 fun aa ab ac ad ae af ag ah=>?_;go_wp2_with fail
      clear aa ab ac ad ae af ag ah;refine (D2.out _ S_4.out S_4.out.a).mono ?_;rintro e w5 ⟨rfl,hb⟩;have an:=zd am hb;have T_5:=zh (T_4.out.keep hb);have S_5:=zh (S_4.out.keep hb);clear hb am T_4 S_4;refine T_5.out.k7 fun aa ab ac ad ae af ag ah=>?_;go_wp2
      go_ret
      exact ⟨rfl,an.out⟩
 ·rw [zdf c0,Bool.false_and,Bool.false_and];have k0:(paE s.P s.A s.Q s.B==0)=false:=by rw [beq_eq_false_iff_ne];exact c0
  generalize paE s.P s.A s.Q s.B=x at *;clear gl IL PU0 D10 D20
  go_enter Tryz.func20,Tryz.ntmps20
  refine T_0.out.k7 fun aa ab ac ad ae af ag ah=>?_;go_wp2_with fail
  clear aa ab ac ad ae af ag ah;generalize (w.alloc (.cells #[.int .i64 s.P,.slice osa s.A.length csa,.int .i64 s.Q,.slice osb s.B.length csb,.int .i64 s.a,.int .i64 s.b,.slice osl s.L.length csl] 26))=w0 at *;refine (PR.out _ S_0.out.a S_0.out.b).mono ?_;rintro e w1 ⟨rfl,hb⟩;have ai:=zd ak hb;have T_1:=zh (T_0.out.keep hb);have S_1:=zh (S_0.out.keep hb);clear hb ak T_0 S_0;refine T_1.out.k7 fun aa ab ac ad ae af ag ah=>?_;go_wp2
  go_ret
  exact ⟨rfl,ai.out⟩
set_option maxRecDepth 100000 in
set_option maxHeartbeats 3000000 in
theorem tvhas (s:TS) (va vb vl:Value) (ti:TsI s) (x:Int) (hx:I64 x) (w:World) (h:SS3 w s va vb vl) :
  Calls Tryz.prog 21 #[.agg #[.int .i64 s.P,va,.int .i64 s.Q,vb,.int .i64 s.a,.int .i64 s.b,vl],.int .i64 x] w fun e w'=>e=.returned (.bool (vsB s&&hsT s x))∧Below w.heap.size w w':=by
 obtain ⟨osa,csa,rfl⟩:=prs_shape h.a;obtain ⟨osb,csb,rfl⟩:=prs_shape h.b;obtain ⟨osl,csl,rfl⟩:=prs_shape h.l;have ai:=zh (grow (here w) (.cells #[.int .i64 s.P,.slice osa s.A.length csa,.int .i64 s.Q,.slice osb s.B.length csb,.int .i64 s.a,.int .i64 s.b,.slice osl s.L.length csl] 26));have T_0:=zh (Bxs.new (w:=w) [.int .i64 s.P,.slice osa s.A.length csa,.int .i64 s.Q,.slice osb s.B.length csb,.int .i64 s.a,.int .i64 s.b,.slice osl s.L.length csl] 26);have S_0:=zh (h.keep ai.out);have VA:=zh (fun W (h:SS3 W s (.slice osa s.A.length csa) (.slice osb s.B.length csb) (.slice osl s.L.length csl))=>tvvalid s _ _ _ ti W h);have VS0:Hid (∀ W,GW s→SS3 W s (.slice osa s.A.length csa) (.slice osb s.B.length csb) (.slice osl s.L.length csl)→Calls Tryz.prog 68 #[.agg #[.int .i64 s.P,.slice osa s.A.length csa,.int .i64 s.Q,.slice osb s.B.length csb,.int .i64 s.a,.int .i64 s.b,.slice osl s.L.length csl]] W fun e w'=>(∃ v',e=.returned v'∧Vw w' v' (hsT s) (nxT s))∧Below W.heap.size W w'):=fun W gw h=>tvset s gw _ _ _ W h;have gl:=vs_ok (s:=s);clear h ti
 cases v:vsB s
 ·rw [v] at VA;rw [Bool.false_and];clear v gl VS0
  go_enter Tryz.func21,Tryz.ntmps21
  refine T_0.out.k7 fun aa ab ac ad ae af ag ah=>?_;go_wp2_with fail
  clear aa ab ac ad ae af ag ah;generalize (w.alloc (.cells #[.int .i64 s.P,.slice osa s.A.length csa,.int .i64 s.Q,.slice osb s.B.length csb,.int .i64 s.a,.int .i64 s.b,.slice osl s.L.length csl] 26))=w0 at *;refine (VA.out _ S_0.out).mono ?_;rintro e w1 ⟨rfl,hb⟩;have aj:=zd ai hb;have T_1:=zh (T_0.out.keep hb);have S_1:=zh (S_0.out.keep hb);clear hb ai T_0 S_0;refine T_1.out.k7 fun aa ab ac ad ae af ag ah=>?_;go_wp2
  go_ret
  exact ⟨rfl,aj.out⟩
 ·rw [v] at VA;rw [Bool.true_and];have VS:=zh (fun W h=>VS0.out W (gl.1 v).g.gw h);clear v gl VS0;generalize hsT s=f1 at *
  go_enter Tryz.func21,Tryz.ntmps21
  refine T_0.out.k7 fun aa ab ac ad ae af ag ah=>?_;go_wp2_with fail
  clear aa ab ac ad ae af ag ah;generalize (w.alloc (.cells #[.int .i64 s.P,.slice osa s.A.length csa,.int .i64 s.Q,.slice osb s.B.length csb,.int .i64 s.a,.int .i64 s.b,.slice osl s.L.length csl] 26))=w0 at *;refine (VA.out _ S_0.out).mono ?_;rintro e w1 ⟨rfl,hb⟩;have aj:=zd ai hb;have T_1:=zh (T_0.out.keep hb);have S_1:=zh (S_0.out.keep hb);clear hb ai T_0 S_0;refine T_1.out.k7 fun aa ab ac ad ae af ag ah=>?_;go_wp2_with fail
  clear aa ab ac ad ae af ag ah;refine (VS.out _ S_1.out).mono ?_;rintro e w2 ⟨⟨v,rfl,V⟩,hb⟩;have ak:=zd aj hb;have T_2:=zh (T_1.out.keep hb);have S_2:=zh (S_1.out.keep hb);clear hb aj T_1 S_1;obtain ⟨g,caps,rfl,eg,hg⟩:=V;have HG:=zh (hg w2 (Far.of (here w2)) x hx);clear hg;refine T_2.out.k7 fun aa ab ac ad ae af ag ah=>?_;go_wp2_with fail
  clear aa ab ac ad ae af ag ah
  go_at_fn g
  refine HG.out.mono ?_;rintro e w3 ⟨⟨n1,rfl,-⟩,hb⟩;clear HG eg;have al:=zd ak hb;have T_3:=zh (T_2.out.keep hb);have S_3:=zh (S_2.out.keep hb);clear hb ak T_2 S_2;refine T_3.out.k7 fun aa ab ac ad ae af ag ah=>?_;go_wp2
  go_ret
  exact ⟨rfl,al.out⟩
set_option maxRecDepth 100000 in
set_option maxHeartbeats 4000000 in
theorem tvequal (s t:TS) (va vb vl ua ub ul:Value) (ti:TsI s) (w:World) (h:SS3 w s va vb vl) (k:SS3 w t ua ub ul) :
  Calls Tryz.prog 23 #[.agg #[.int .i64 s.P,va,.int .i64 s.Q,vb,.int .i64 s.a,.int .i64 s.b,vl],.agg #[.int .i64 t.P,ua,.int .i64 t.Q,ub,.int .i64 t.a,.int .i64 t.b,ul]] w fun e w'=>e=.returned (.bool (vsB s&&smT s t))∧Below w.heap.size w w':=by
 obtain ⟨osa,csa,rfl⟩:=prs_shape h.a;obtain ⟨osb,csb,rfl⟩:=prs_shape h.b;obtain ⟨osl,csl,rfl⟩:=prs_shape h.l;obtain ⟨ota,cta,rfl⟩:=prs_shape k.a;obtain ⟨otb,ctb,rfl⟩:=prs_shape k.b;obtain ⟨otl,ctl,rfl⟩:=prs_shape k.l;have aq:=zh (grow (grow (here w) (.cells #[.int .i64 s.P,.slice osa s.A.length csa,.int .i64 s.Q,.slice osb s.B.length csb,.int .i64 s.a,.int .i64 s.b,.slice osl s.L.length csl] 26)) (.cells #[.int .i64 t.P,.slice ota t.A.length cta,.int .i64 t.Q,.slice otb t.B.length ctb,.int .i64 t.a,.int .i64 t.b,.slice otl t.L.length ctl] 26));have T_0:=zh ((Bxs.new (w:=w) [.int .i64 s.P,.slice osa s.A.length csa,.int .i64 s.Q,.slice osb s.B.length csb,.int .i64 s.a,.int .i64 s.b,.slice osl s.L.length csl] 26).old (.cells #[.int .i64 t.P,.slice ota t.A.length cta,.int .i64 t.Q,.slice otb t.B.length ctb,.int .i64 t.a,.int .i64 t.b,.slice otl t.L.length ctl] 26));have U_0:=zh (Bxs.snd (w:=w) (o:=(.cells #[.int .i64 s.P,.slice osa s.A.length csa,.int .i64 s.Q,.slice osb s.B.length csb,.int .i64 s.a,.int .i64 s.b,.slice osl s.L.length csl] 26)) [.int .i64 t.P,.slice ota t.A.length cta,.int .i64 t.Q,.slice otb t.B.length ctb,.int .i64 t.a,.int .i64 t.b,.slice otl t.L.length ctl] 26);have S_0:=zh (h.keep aq.out);have R_0:=zh (k.keep aq.out);have VA:=zh (fun W (h:SS3 W s (.slice osa s.A.length csa) (.slice osb s.B.length csb) (.slice osl s.L.length csl))=>tvvalid s _ _ _ ti W h);have E10:Hid (∀ W,GW s→PairS 0 W (.slice osl s.L.length csl) s.L→PairS 0 W (.slice otl t.L.length ctl) t.L→Calls Tryz.prog 36 #[.slice osl s.L.length csl,.slice otl t.L.length ctl] W fun e w'=>e=.returned (.bool (s.L==t.L))∧Below W.heap.size W w'):=fun W gw h k=>eq_below (eq_pairs s.L t.L _ _ (by have:=gw.len;omega) W h k);have E20:Hid (∀ W,GW s→PairS 0 W (.slice osa s.A.length csa) s.A→PairS 0 W (.slice ota t.A.length cta) t.A→Calls Tryz.prog 70 #[.agg #[.int .i64 s.P,.slice osa s.A.length csa],.agg #[.int .i64 t.P,.slice ota t.A.length cta]] W fun e w'=>e=.returned (.bool (decide (s.P=t.P∧s.A=t.A)))∧Below W.heap.size W w'):=fun W gw h k=>tvsame s.P t.P _ _ s.A t.A (by have:=gw.p.len;omega) W h k;have E30:Hid (∀ W,GW s→PairS 0 W (.slice osb s.B.length csb) s.B→PairS 0 W (.slice otb t.B.length ctb) t.B→Calls Tryz.prog 70 #[.agg #[.int .i64 s.Q,.slice osb s.B.length csb],.agg #[.int .i64 t.Q,.slice otb t.B.length ctb]] W fun e w'=>e=.returned (.bool (decide (s.Q=t.Q∧s.B=t.B)))∧Below W.heap.size W w'):=fun W gw h k=>tvsame s.Q t.Q _ _ s.B t.B (by have:=gw.q.len;omega) W h k;have gl:=vs_ok (s:=s);have sm:smT s t=(decide (s.a=t.a)&&(decide (s.b=t.b)&&((s.L==t.L)&&(decide (s.P=t.P∧s.A=t.A)&&decide (s.Q=t.Q∧s.B=t.B))))):=by
  unfold smT
  rw [Bool.eq_iff_iff]
  simp only [Bool.and_eq_true,decide_eq_true_eq,beq_iff_eq]
  constructor
  ·rintro ⟨⟨⟨⟨⟨h1,h2⟩,h3,h4⟩,h5⟩,h6⟩,h7⟩;exact ⟨h5,h6,h7,⟨h1,h2⟩,h3,h4⟩
  ·rintro ⟨h5,h6,h7,⟨h1,h2⟩,h3,h4⟩;exact ⟨⟨⟨⟨⟨h1,h2⟩,h3,h4⟩,h5⟩,h6⟩,h7⟩
 rw [sm];clear h k ti sm
 cases v:vsB s
 ·rw [v] at VA;rw [Bool.false_and];clear v gl E10 E20 E30
  go_enter Tryz.func23,Tryz.ntmps23
  refine T_0.out.k7 fun aa ab ac ad ae af ag ah=>?_;refine U_0.out.k7 fun ai aj ak al am an ao ap=>?_;go_wp2_with fail
  clear aa ab ac ad ae af ag ai aj ak al am an ao ah ap;generalize ((w.alloc (.cells #[.int .i64 s.P,.slice osa s.A.length csa,.int .i64 s.Q,.slice osb s.B.length csb,.int .i64 s.a,.int .i64 s.b,.slice osl s.L.length csl] 26)).alloc (.cells #[.int .i64 t.P,.slice ota t.A.length cta,.int .i64 t.Q,.slice otb t.B.length ctb,.int .i64 t.a,.int .i64 t.b,.slice otl t.L.length ctl] 26))=w0 at *;refine (VA.out _ S_0.out).mono ?_;rintro e w1 ⟨rfl,hb⟩;have ar:=zd aq hb;have T_1:=zh (T_0.out.keep hb);have U_1:=zh (U_0.out.keep hb);have S_1:=zh (S_0.out.keep hb);have R_1:=zh (R_0.out.keep hb);clear hb aq T_0 U_0 S_0 R_0;refine T_1.out.k7 fun aa ab ac ad ae af ag ah=>?_;refine U_1.out.k7 fun ai aj ak al am an ao ap=>?_;go_wp2
  go_ret
  exact ⟨rfl,ar.out⟩
 ·rw [v] at VA;rw [Bool.true_and];have gw:=(gl.1 v).g.gw;have E1:=zh (fun W h k=>E10.out W gw h k);have E2:=zh (fun W h k=>E20.out W gw h k);have E3:=zh (fun W h k=>E30.out W gw h k);clear v gl E10 E20 E30 gw
  by_cases c:s.a=t.a
  ·have kc:(s.a==t.a)=true:=beq_iff_eq.2 c;rw [zdt c,Bool.true_and];clear c
   by_cases d:s.b=t.b
   ·have kd:(s.b==t.b)=true:=beq_iff_eq.2 d;rw [zdt d,Bool.true_and];clear d
    cases q:(s.L==t.L)
    ·rw [q] at E1;rw [Bool.false_and];clear q E2 E3
     go_enter Tryz.func23,Tryz.ntmps23
     refine T_0.out.k7 fun aa ab ac ad ae af ag ah=>?_;refine U_0.out.k7 fun ai aj ak al am an ao ap=>?_;go_wp2_with fail
     clear aa ab ac ad ae af ag ai aj ak al am an ao ah ap;generalize ((w.alloc (.cells #[.int .i64 s.P,.slice osa s.A.length csa,.int .i64 s.Q,.slice osb s.B.length csb,.int .i64 s.a,.int .i64 s.b,.slice osl s.L.length csl] 26)).alloc (.cells #[.int .i64 t.P,.slice ota t.A.length cta,.int .i64 t.Q,.slice otb t.B.length ctb,.int .i64 t.a,.int .i64 t.b,.slice otl t.L.length ctl] 26))=w0 at *;refine (VA.out _ S_0.out).mono ?_;rintro e w1 ⟨rfl,hb⟩;have ar:=zd aq hb;have T_1:=zh (T_0.out.keep hb);have U_1:=zh (U_0.out.keep hb);have S_1:=zh (S_0.out.keep hb);have R_1:=zh (R_0.out.keep hb);clear hb aq T_0 U_0 S_0 R_0;refine T_1.out.k7 fun aa ab ac ad ae af ag ah=>?_;refine U_1.out.k7 fun ai aj ak al am an ao ap=>?_;go_wp2_with fail
     clear aa ab ac ad ae af ag ai aj ak al am an ao ah ap;refine (E1.out _ S_1.out.l R_1.out.l).mono ?_;rintro e w2 ⟨rfl,hb⟩;have au:=zd ar hb;have T_2:=zh (T_1.out.keep hb);have U_2:=zh (U_1.out.keep hb);have S_2:=zh (S_1.out.keep hb);have R_2:=zh (R_1.out.keep hb);clear hb ar T_1 U_1 S_1 R_1;refine T_2.out.k7 fun aa ab ac ad ae af ag ah=>?_;refine U_2.out.k7 fun ai aj ak al am an ao ap=>?_;go_wp2
     go_ret
     exact ⟨rfl,au.out⟩
    ·rw [q] at E1;rw [Bool.true_and];clear q
     cases r:decide (s.P=t.P∧s.A=t.A)
     ·rw [r] at E2;rw [Bool.false_and];clear r E3
      go_enter Tryz.func23,Tryz.ntmps23
      refine T_0.out.k7 fun aa ab ac ad ae af ag ah=>?_;refine U_0.out.k7 fun ai aj ak al am an ao ap=>?_;go_wp2_with fail
      clear aa ab ac ad ae af ag ai aj ak al am an ao ah ap;generalize ((w.alloc (.cells #[.int .i64 s.P,.slice osa s.A.length csa,.int .i64 s.Q,.slice osb s.B.length csb,.int .i64 s.a,.int .i64 s.b,.slice osl s.L.length csl] 26)).alloc (.cells #[.int .i64 t.P,.slice ota t.A.length cta,.int .i64 t.Q,.slice otb t.B.length ctb,.int .i64 t.a,.int .i64 t.b,.slice otl t.L.length ctl] 26))=w0 at *;refine (VA.out _ S_0.out).mono ?_;rintro e w1 ⟨rfl,hb⟩;have ar:=zd aq hb;have T_1:=zh (T_0.out.keep hb);have U_1:=zh (U_0.out.keep hb);have S_1:=zh (S_0.out.keep hb);have R_1:=zh (R_0.out.keep hb);clear hb aq T_0 U_0 S_0 R_0;refine T_1.out.k7 fun aa ab ac ad ae af ag ah=>?_;refine U_1.out.k7 fun ai aj ak al am an ao ap=>?_;go_wp2_with fail
      clear aa ab ac ad ae af ag ai aj ak al am an ao ah ap;refine (E1.out _ S_1.out.l R_1.out.l).mono ?_;rintro e w2 ⟨rfl,hb⟩;have au:=zd ar hb;have T_2:=zh (T_1.out.keep hb);have U_2:=zh (U_1.out.keep hb);have S_2:=zh (S_1.out.keep hb);have R_2:=zh (R_1.out.keep hb);clear hb ar T_1 U_1 S_1 R_1;refine T_2.out.k7 fun aa ab ac ad ae af ag ah=>?_;refine U_2.out.k7 fun ai aj ak al am an ao ap=>?_;go_wp2_with fail
      clear aa ab ac ad ae af ag ai aj ak al am an ao ah ap;refine (E2.out _ S_2.out.a R_2.out.a).mono ?_;rintro e w3 ⟨rfl,hb⟩;have av:=zd au hb;have T_3:=zh (T_2.out.keep hb);have U_3:=zh (U_2.out.keep hb);have S_3:=zh (S_2.out.keep hb);have R_3:=zh (R_2.out.keep hb);clear hb au T_2 U_2 S_2 R_2;refine T_3.out.k7 fun aa ab ac ad ae af ag ah=>?_;refine U_3.out.k7 fun ai aj ak al am an ao ap=>?_;go_wp2
      go_ret
      exact ⟨rfl,av.out⟩
     ·rw [r] at E2;rw [Bool.true_and];clear r;generalize decide (s.Q=t.Q∧s.B=t.B)=z at *
      go_enter Tryz.func23,Tryz.ntmps23
      refine T_0.out.k7 fun aa ab ac ad ae af ag ah=>?_;refine U_0.out.k7 fun ai aj ak al am an ao ap=>?_;go_wp2_with fail
      clear aa ab ac ad ae af ag ai aj ak al am an ao ah ap;generalize ((w.alloc (.cells #[.int .i64 s.P,.slice osa s.A.length csa,.int .i64 s.Q,.slice osb s.B.length csb,.int .i64 s.a,.int .i64 s.b,.slice osl s.L.length csl] 26)).alloc (.cells #[.int .i64 t.P,.slice ota t.A.length cta,.int .i64 t.Q,.slice otb t.B.length ctb,.int .i64 t.a,.int .i64 t.b,.slice otl t.L.length ctl] 26))=w0 at *;refine (VA.out _ S_0.out).mono ?_;rintro e w1 ⟨rfl,hb⟩;have ar:=zd aq hb;have T_1:=zh (T_0.out.keep hb);have U_1:=zh (U_0.out.keep hb);have S_1:=zh (S_0.out.keep hb);have R_1:=zh (R_0.out.keep hb);clear hb aq T_0 U_0 S_0 R_0;refine T_1.out.k7 fun aa ab ac ad ae af ag ah=>?_;refine U_1.out.k7 fun ai aj ak al am an ao ap=>?_;go_wp2_with fail
      clear aa ab ac ad ae af ag ai aj ak al am an ao ah ap;refine (E1.out _ S_1.out.l R_1.out.l).mono ?_;rintro e w2 ⟨rfl,hb⟩;have au:=zd ar hb;have T_2:=zh (T_1.out.keep hb);have U_2:=zh (U_1.out.keep hb);have S_2:=zh (S_1.out.keep hb);have R_2:=zh (R_1.out.keep hb);clear hb ar T_1 U_1 S_1 R_1;refine T_2.out.k7 fun aa ab ac ad ae af ag ah=>?_;refine U_2.out.k7 fun ai aj ak al am an ao ap=>?_;go_wp2_with fail
      clear aa ab ac ad ae af ag ai aj ak al am an ao ah ap;refine (E2.out _ S_2.out.a R_2.out.a).mono ?_;rintro e w3 ⟨rfl,hb⟩;have av:=zd au hb;have T_3:=zh (T_2.out.keep hb);have U_3:=zh (U_2.out.keep hb);have S_3:=zh (S_2.out.keep hb);have R_3:=zh (R_2.out.keep hb);clear hb au T_2 U_2 S_2 R_2;refine T_3.out.k7 fun aa ab ac ad ae af ag ah=>?_;refine U_3.out.k7 fun ai aj ak al am an ao ap=>?_;go_wp2_with fail
      clear aa ab ac ad ae af ag ai aj ak al am an ao ah ap;refine (E3.out _ S_3.out.b R_3.out.b).mono ?_;rintro e w4 ⟨rfl,hb⟩;have aw:=zd av hb;have T_4:=zh (T_3.out.keep hb);have U_4:=zh (U_3.out.keep hb);have S_4:=zh (S_3.out.keep hb);have R_4:=zh (R_3.out.keep hb);clear hb av T_3 U_3 S_3 R_3;refine T_4.out.k7 fun aa ab ac ad ae af ag ah=>?_;refine U_4.out.k7 fun ai aj ak al am an ao ap=>?_;go_wp2
      go_ret
      exact ⟨rfl,aw.out⟩
   ·have kd:(s.b==t.b)=false:=by rw [beq_eq_false_iff_ne];exact d
    rw [zdf d,Bool.false_and];clear d E1 E2 E3
    go_enter Tryz.func23,Tryz.ntmps23
    refine T_0.out.k7 fun aa ab ac ad ae af ag ah=>?_;refine U_0.out.k7 fun ai aj ak al am an ao ap=>?_;go_wp2_with fail
    clear aa ab ac ad ae af ag ai aj ak al am an ao ah ap;generalize ((w.alloc (.cells #[.int .i64 s.P,.slice osa s.A.length csa,.int .i64 s.Q,.slice osb s.B.length csb,.int .i64 s.a,.int .i64 s.b,.slice osl s.L.length csl] 26)).alloc (.cells #[.int .i64 t.P,.slice ota t.A.length cta,.int .i64 t.Q,.slice otb t.B.length ctb,.int .i64 t.a,.int .i64 t.b,.slice otl t.L.length ctl] 26))=w0 at *;refine (VA.out _ S_0.out).mono ?_;rintro e w1 ⟨rfl,hb⟩;have ar:=zd aq hb;have T_1:=zh (T_0.out.keep hb);have U_1:=zh (U_0.out.keep hb);have S_1:=zh (S_0.out.keep hb);have R_1:=zh (R_0.out.keep hb);clear hb aq T_0 U_0 S_0 R_0;refine T_1.out.k7 fun aa ab ac ad ae af ag ah=>?_;refine U_1.out.k7 fun ai aj ak al am an ao ap=>?_;go_wp2
    go_ret
    exact ⟨rfl,ar.out⟩
  ·have kc:(s.a==t.a)=false:=by rw [beq_eq_false_iff_ne];exact c
   rw [zdf c,Bool.false_and];clear c E1 E2 E3
   go_enter Tryz.func23,Tryz.ntmps23
   refine T_0.out.k7 fun aa ab ac ad ae af ag ah=>?_;refine U_0.out.k7 fun ai aj ak al am an ao ap=>?_;go_wp2_with fail
   clear aa ab ac ad ae af ag ai aj ak al am an ao ah ap;generalize ((w.alloc (.cells #[.int .i64 s.P,.slice osa s.A.length csa,.int .i64 s.Q,.slice osb s.B.length csb,.int .i64 s.a,.int .i64 s.b,.slice osl s.L.length csl] 26)).alloc (.cells #[.int .i64 t.P,.slice ota t.A.length cta,.int .i64 t.Q,.slice otb t.B.length ctb,.int .i64 t.a,.int .i64 t.b,.slice otl t.L.length ctl] 26))=w0 at *;refine (VA.out _ S_0.out).mono ?_;rintro e w1 ⟨rfl,hb⟩;have ar:=zd aq hb;have T_1:=zh (T_0.out.keep hb);have U_1:=zh (U_0.out.keep hb);have S_1:=zh (S_0.out.keep hb);have R_1:=zh (R_0.out.keep hb);clear hb aq T_0 U_0 S_0 R_0;refine T_1.out.k7 fun aa ab ac ad ae af ag ah=>?_;refine U_1.out.k7 fun ai aj ak al am an ao ap=>?_;go_wp2
   go_ret
   exact ⟨rfl,ar.out⟩
end Go.Proofs.YtmamlgaogpkagaaGreat
