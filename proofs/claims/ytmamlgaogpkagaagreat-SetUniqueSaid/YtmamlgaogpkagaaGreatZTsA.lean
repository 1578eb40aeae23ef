/- TsA TsX TvA. -/
import Derived.Test.YtmamlgaogpkagaaGreatZLPlain
import Derived.Test.YtmamlgaogpkagaaGreatZLGen
import Derived.Test.YtmamlgaogpkagaaGreatZLSl
import Derived.Test.YtmamlgaogpkagaaGreatZLOwn
import Derived.Test.YtmamlgaogpkagaaGreatZRnP
import Derived.Test.YtmamlgaogpkagaaGreatZPeR
import Derived.Test.YtmamlgaogpkagaaGreatZRnT
import Derived.Test.YtmamlgaogpkagaaGreatZPeB
import Derived.Test.YtmamlgaogpkagaaGreatZPeKE
import Derived.Test.YtmamlgaogpkagaaGreatZPeKI
import Derived.Test.YtmamlgaogpkagaaGreatZPeKJ
import Derived.Test.YtmamlgaogpkagaaGreatZPeKK
import Derived.Test.YtmamlgaogpkagaaGreatZPeGD
import Derived.Test.YtmamlgaogpkagaaGreatZTsR
import Derived.Test.YtmamlgaogpkagaaGreatZLSrch
import Derived.StillTailTactics
import Derived.Deep.AppendLies
import Derived.BigQuiet
import Derived.Deep.QuietTactic
namespace Go.Proofs.YtmamlgaogpkagaaGreat
open Go.RowKit
set_option linter.unusedVariables false
set_option linter.unusedSimpArgs false
theorem ch_snoc {P:Int} {A:List Sp} {k:Nat} (h:k<A.length):chL P A (A.take (k+1))=chL P A (A.take k)++chS P A (A.getD k (0,0)):=by
 rw [tak_snoc A h,ch_app]
 show _++(chS P A (A.getD k (0,0))++[])=_
 rw [List.append_nil]
theorem ch_parts {P:Int} {A:List Sp} {q:Sp} {a b c d:Bool} (ha:hsP P A q.1=a) (hb:hsP P A (q.1 - 1)=b) (hc:hsP P A (q.2 % P)=c) (hd:hsP P A (q.2 % P - 1)=d) :
  chS P A q=(if (a != b)=true then [q.1] else [])++(if (c != d)=true then [q.2 % P] else []):=by
 unfold chS
 rw [ha,hb,hc,hd]
 simp only [bne_iff_ne,ne_eq]
set_option maxRecDepth 100000 in
set_option maxHeartbeats 4000000 in
theorem rtchanges (va:Value) (P:Int) (A:List Sp) (pv:PV P A) {ba:Nat} (w:World) (a:PairS ba w va A) :
  Calls Tryz.prog 143 #[.agg #[.int .i64 P,va]] w fun e w'=>(∃ v',e=.returned v'∧IntS w.heap.size w' v' (chL P A A))∧Below w.heap.size w w':=by
 obtain ⟨i0,hi,hz0,hz1,hz2⟩:=info_parts infoI;obtain ⟨oa,ca,rfl⟩:=prs_shape a;have A1:=zh (grow (here w) (.cells #[.int .i64 P,.slice oa A.length ca] 24));have TA:=zh (Two.new (t:=24) (x:=.int .i64 P) (y:=.slice oa A.length ca) (here (w.alloc (.cells #[.int .i64 P,.slice oa A.length ca] 24))));have PA1:=zh (a.keep A1.out);have p0:=pv.p0;have p1:=pv.p1;have alen:=pv.len;have HS:=zh (fun W x (hx:I64 x) (h:PairS ba W (.slice oa A.length ca) A)=>rphas _ P A (le_mx (by omega)) (by omega) (by omega) x hx W h);obtain ⟨n,hn⟩:∃ n,A.length=n:=⟨_,rfl⟩;rw [hn] at A1 TA PA1 HS alen ⊢;clear a
 go_enter Tryz.func143,Tryz.ntmps143
 go_wp2
 generalize (w.alloc (.cells #[.int .i64 P,.slice oa n ca] 24))=w1 at *;have L0:=zh (here w1);have I0:Hid (w1.ownsRow w1.heap.size 3 1 (.slice none 0 0) ([]:List Int).length (ints [])):=World.ownsRow_nil _ _ _ _;have S0:Hid ([]=chL P A (A.take 0)):=rfl
 go_loopw [3,4] (fun v t wr=>∃ (k:Nat) (v':Value) (M:List Int),v'=v∧k≤n∧M.length≤2 * k∧t=.int .i64 k∧Hid (M=chL P A (A.take k))∧Hid (wr.ownsRow w1.heap.size 3 1 v M.length (ints M))∧Hid (Below w1.heap.size w1 wr)) (fun _ t _=>n - (intOf t).toNat)
 case atStart=>exact ⟨0,_,[],rfl,Nat.zero_le _,by simp,rfl,S0,I0,L0⟩
 case round =>
  obtain ⟨k,v',M,rfl,hk,lM,rfl,SM,OM,AM⟩:=hrel;clear L0 I0 S0;have TR:=zh (TA.out.keep AM.out);obtain ⟨ta,tb,tl⟩:=TR.out
  by_cases y:k<n
  ·have ky:decide ((k:Int)<(n:Int))=true:=zdt (by omega);have PR:=zh (PA1.out.keep AM.out);obtain ⟨b,off,rfl,bl,cs⟩:=prs_here PR.out (show k<A.length by omega);obtain ⟨c0,c1⟩:=cs k (by omega);have SN:Hid (chL P A (A.take (k+1))=M++chS P A (A.getD k (0,0))):=by show _=_;rw [ch_snoc (by omega),SM.out]
   have b0:=(pv.ip _ (getD_mem (show k<A.length by omega))).1;have b1:=pv.cn.lt _ (getD_mem (show k<A.length by omega));have b2:=(pv.ip _ (getD_mem (show k<A.length by omega))).2;clear cs;obtain ⟨k1,hk1⟩:∃ k1,k+1=k1:=⟨_,rfl⟩;rw [hk1] at SN;generalize A.getD k (0,0)=q at *;obtain ⟨f,g⟩:=q;replace c0:wr.cell? ⟨b,off+k * 2,none⟩=some (.int .i64 f):=c0;replace c1:wr.cell? ⟨b,off+k * 2+1,none⟩=some (.int .i64 g):=c1;replace b0:0≤f:=b0;replace b1:f<g:=b1;replace b2:g≤P:=b2;obtain ⟨t,ht⟩:∃ t,g % P=t:=⟨_,rfl⟩;have t0:=Int.emod_nonneg g (show P≠0 by omega);have t2:=Int.emod_lt_of_pos g (show 0<P by omega);rw [ht] at t0 t2;have tm:g.tmod P=t:=by rw [Int.tmod_eq_emod_of_nonneg (by omega)];exact ht
   obtain ⟨f1,hf1⟩:∃ x,f - 1=x:=⟨_,rfl⟩;obtain ⟨t1,ht1⟩:∃ x,t - 1=x:=⟨_,rfl⟩;obtain ⟨b1',e1⟩:∃ x,hsP P A f=x:=⟨_,rfl⟩;obtain ⟨b2',e2⟩:∃ x,hsP P A f1=x:=⟨_,rfl⟩;obtain ⟨b3,e3⟩:∃ x,hsP P A t=x:=⟨_,rfl⟩;obtain ⟨b4,e4⟩:∃ x,hsP P A t1=x:=⟨_,rfl⟩;have CP:=ch_parts (P:=P) (A:=A) (q:=(f,g)) (show hsP P A f=b1' from e1) (show hsP P A (f - 1)=b2' by rw [hf1];exact e2) (show hsP P A (g % P)=b3 by rw [ht];exact e3) (show hsP P A (g % P - 1)=b4 by rw [ht,ht1];exact e4);rw [CP] at SN;replace SN:Hid (chL P A (A.take k1)=M++((if (b1' != b2')=true then [f] else [])++(if (b3 != b4)=true then [g % P] else []))):=SN;rw [ht] at SN;have Hf:=zh (fun W h=>by have r:=HS.out W f ⟨by omega,by omega⟩ h;rw [e1] at r;exact r);have Hf1:=zh (fun W h=>by have r:=HS.out W f1 ⟨by omega,by omega⟩ h;rw [e2] at r;exact r);have Ht:=zh (fun W h=>by have r:=HS.out W t ⟨by omega,by omega⟩ h;rw [e3] at r;exact r);have Ht1:=zh (fun W h=>by have r:=HS.out W t1 ⟨by omega,by omega⟩ h;rw [e4] at r;exact r);clear CP e1 e2 e3 e4;obtain ⟨m,hm⟩:∃ m,M.length=m:=⟨_,rfl⟩;rw [hm] at OM lM;obtain ⟨ao,cp,rfl⟩:=(Sl.owns OM.out).shape;go_wp2
   go_quiet (fail)
   obtain ⟨w2,hw2⟩:∃ w2:World,wr.drewN nq=w2:=⟨_,rfl⟩;rw [hw2];have A_w2:Hid (Below w1.heap.size w1 w2):=by show Below w1.heap.size w1 w2;rw [← hw2];exact below_drewN AM.out _
   have O_w2:Hid (w2.ownsRow w1.heap.size 3 1 (.slice ao m cp) m (ints M)):=by show w2.ownsRow w1.heap.size 3 1 (.slice ao m cp) m (ints M);rw [← hw2];exact OM.out
   clear hw2;clear AM OM TR PR ta tb tl c0 c1 bl
   by_cases d1':b1'=b2'
   ·have d1:(b1' != b2')=false:=by rw [d1',bne,beq_self_eq_true];rfl
    rw [d1,if_neg (show ¬ (false=true) by decide),List.nil_append] at SN;subst d1';clear d1;have a0:∀ x':Kept w2,x'.wd.cell? ⟨w.heap.size,0,none⟩=some (.int .i64 P):=fun x'=>((TA.out.keep A_w2.out).keep x'.ok).c0;have a1:∀ x':Kept w2,x'.wd.cell? ⟨w.heap.size,1,none⟩=some (.slice (some ⟨b,off,none⟩) n ca):=fun x'=>((TA.out.keep A_w2.out).keep x'.ok).c1;have GA:Hid (∀ x':Kept w2,Calls Tryz.prog 69 #[.agg #[.int .i64 P,.slice (some ⟨b,off,none⟩) n ca],.int .i64 f] x'.wd fun e w'=>e=.returned (.bool (b1'))∧Below x'.wd.heap.size x'.wd w'):=fun x'=>Hf.out x'.wd ((PA1.out.keep A_w2.out).keep x'.ok);have GB:Hid (∀ x':Kept w2,Calls Tryz.prog 69 #[.agg #[.int .i64 P,.slice (some ⟨b,off,none⟩) n ca],.int .i64 f1] x'.wd fun e w'=>e=.returned (.bool (b1'))∧Below x'.wd.heap.size x'.wd w'):=fun x'=>Hf1.out x'.wd ((PA1.out.keep A_w2.out).keep x'.ok);go_wp2
    refine wp_region_kept (by kernel_rfl) (by kernel_rfl) ?_
    repeat (go_big_quiet_step ((go_at_call 69;first | (with_reducible exact kept_call _ (GA.out _)) | (with_reducible exact kept_call _ (GB.out _)))))
    refine wpQuiet_nil ?_;intro w3 hx;obtain ⟨⟨x3,hb⟩,hw⟩:=hx;replace hw:w3=x3:=hw;subst x3;have A_w3:=zd A_w2 hb;have O_w3:Hid (w3.ownsRow w1.heap.size 3 1 (.slice ao m cp) m (ints (M))):=by show World.ownsRow _ _ _ _ _ _ _;exact owns_below O_w2.out hb
    clear hb a0 a1 GA GB
    by_cases d2':b3=b4
    ·have d2:(b3 != b4)=false:=by rw [d2',bne,beq_self_eq_true];rfl
     have EQ:Hid (M=chL P A (A.take k1)):=by show _=_;rw [SN.out,d2,if_neg (show ¬ (false=true) by decide),List.append_nil]
     subst d2';clear d2;have a0:∀ x':Kept w3,x'.wd.cell? ⟨w.heap.size,0,none⟩=some (.int .i64 P):=fun x'=>((TA.out.keep A_w3.out).keep x'.ok).c0;have a1:∀ x':Kept w3,x'.wd.cell? ⟨w.heap.size,1,none⟩=some (.slice (some ⟨b,off,none⟩) n ca):=fun x'=>((TA.out.keep A_w3.out).keep x'.ok).c1;have GA:Hid (∀ x':Kept w3,Calls Tryz.prog 69 #[.agg #[.int .i64 P,.slice (some ⟨b,off,none⟩) n ca],.int .i64 t] x'.wd fun e w'=>e=.returned (.bool (b3))∧Below x'.wd.heap.size x'.wd w'):=fun x'=>Ht.out x'.wd ((PA1.out.keep A_w3.out).keep x'.ok);have GB:Hid (∀ x':Kept w3,Calls Tryz.prog 69 #[.agg #[.int .i64 P,.slice (some ⟨b,off,none⟩) n ca],.int .i64 t1] x'.wd fun e w'=>e=.returned (.bool (b3))∧Below x'.wd.heap.size x'.wd w'):=fun x'=>Ht1.out x'.wd ((PA1.out.keep A_w3.out).keep x'.ok);go_wp2
     refine wp_region_kept (by kernel_rfl) (by kernel_rfl) ?_
     repeat (go_big_quiet_step ((go_at_call 69;first | (with_reducible exact kept_call _ (GA.out _)) | (with_reducible exact kept_call _ (GB.out _)))))
     refine wpQuiet_nil ?_;intro w3c hx;obtain ⟨⟨x3,hb⟩,hw⟩:=hx;replace hw:w3c=x3:=hw;subst x3;have A_w3c:=zd A_w3 hb;have O_w3c:Hid (w3c.ownsRow w1.heap.size 3 1 (.slice ao m cp) m (ints (M))):=by show World.ownsRow _ _ _ _ _ _ _;exact owns_below O_w3.out hb
     clear hb a0 a1 GA GB;go_wp2
     go_roundw
     case rel=>exact ⟨k1,(.slice ao m cp),M,rfl,by omega,by omega,by first | rfl | go_num,EQ,by rw [hm];exact O_w3c,A_w3c⟩
     case measure=>simp [intOf];omega
    ·have d2:(b3 != b4)=true:=bne_iff_ne.2 d2';have EQ:Hid (M++[t]=chL P A (A.take k1)):=by show _=_;rw [SN.out,d2,if_pos rfl]
     obtain rfl:b4=!b3:=by cases b3 <;> cases b4 <;> simp_all
     clear d2 d2';have a0:∀ x':Kept w3,x'.wd.cell? ⟨w.heap.size,0,none⟩=some (.int .i64 P):=fun x'=>((TA.out.keep A_w3.out).keep x'.ok).c0;have a1:∀ x':Kept w3,x'.wd.cell? ⟨w.heap.size,1,none⟩=some (.slice (some ⟨b,off,none⟩) n ca):=fun x'=>((TA.out.keep A_w3.out).keep x'.ok).c1;have GA:Hid (∀ x':Kept w3,Calls Tryz.prog 69 #[.agg #[.int .i64 P,.slice (some ⟨b,off,none⟩) n ca],.int .i64 t] x'.wd fun e w'=>e=.returned (.bool (b3))∧Below x'.wd.heap.size x'.wd w'):=fun x'=>Ht.out x'.wd ((PA1.out.keep A_w3.out).keep x'.ok);have GB:Hid (∀ x':Kept w3,Calls Tryz.prog 69 #[.agg #[.int .i64 P,.slice (some ⟨b,off,none⟩) n ca],.int .i64 t1] x'.wd fun e w'=>e=.returned (.bool ((!b3)))∧Below x'.wd.heap.size x'.wd w'):=fun x'=>Ht1.out x'.wd ((PA1.out.keep A_w3.out).keep x'.ok);go_wp2
     refine wp_region_kept (by kernel_rfl) (by kernel_rfl) ?_
     repeat (go_big_quiet_step ((go_at_call 69;first | (with_reducible exact kept_call _ (GA.out _)) | (with_reducible exact kept_call _ (GB.out _)))))
     refine wpQuiet_nil ?_;intro w3c hx;obtain ⟨⟨x3,hb⟩,hw⟩:=hx;replace hw:w3c=x3:=hw;subst x3;have A_w3c:=zd A_w3 hb;have O_w3c:Hid (w3c.ownsRow w1.heap.size 3 1 (.slice ao m cp) m (ints (M))):=by show World.ownsRow _ _ _ _ _ _ _;exact owns_below O_w3.out hb
     clear hb a0 a1 GA GB;have CM:Hid (m+1≤maxLen):=by show _≤_;unfold maxLen;omega
     have sz:Hid (w1.heap.size≤(w3c.alloc (.cells #[.int .i64 t] 3)).heap.size):=by show _≤_;have:=A_w3c.out.size;simp;omega
     go_wp2_with (at_builtin;refine wpList_append_own _ rfl _ _ 129 rfl w1.heap.size 3 i0 (.int .i64 0) 1 8 Tryz.underlying129 hi hz0 hz1 hz2 rfl (by decide) ((.slice ao m cp)) (m) (ints (M)) rfl (O_w3c.out.alloc _) ⟨w3c.heap.size,0,none⟩ 1 1 [.int .i64 t] rfl rfl (fun j u hj=>by rw [Addr.add_lit,Nat.zero_add,World.cell?_alloc_new];simpa using hj) (fun u hu=>by simp at hu;subst hu;rfl) CM.out (by omega) sz.out ?_)
     intro v8 w8 hown hgrow _;have A_w8:Hid (Below w1.heap.size w1 w8):=(A_w3c.out.alloc A_w3c.out.size _).grown hgrow sz.out (own_ge O_w3c.out);have O_w8:Hid (w8.ownsRow w1.heap.size 3 1 v8 (m+1) (ints (M++[t]))):=by show World.ownsRow _ _ _ _ _ _ _;first | (rw [ints_app];exact hown) | (simpa [ints] using hown)
     clear hown hgrow CM sz;go_wp2
     go_roundw
     case rel=>exact ⟨k1,v8,M++[t],rfl,by omega,by rw [List.length_append,hm];simp;omega,by first | rfl | go_num,EQ,by rw [List.length_append,hm];exact O_w8,A_w8⟩
     case measure=>simp [intOf];omega
   ·have d1:(b1' != b2')=true:=bne_iff_ne.2 d1';rw [d1,if_pos rfl,← List.append_assoc] at SN;obtain rfl:b2'=!b1':=by cases b1' <;> cases b2' <;> simp_all
    clear d1 d1';have a0:∀ x':Kept w2,x'.wd.cell? ⟨w.heap.size,0,none⟩=some (.int .i64 P):=fun x'=>((TA.out.keep A_w2.out).keep x'.ok).c0;have a1:∀ x':Kept w2,x'.wd.cell? ⟨w.heap.size,1,none⟩=some (.slice (some ⟨b,off,none⟩) n ca):=fun x'=>((TA.out.keep A_w2.out).keep x'.ok).c1;have GA:Hid (∀ x':Kept w2,Calls Tryz.prog 69 #[.agg #[.int .i64 P,.slice (some ⟨b,off,none⟩) n ca],.int .i64 f] x'.wd fun e w'=>e=.returned (.bool (b1'))∧Below x'.wd.heap.size x'.wd w'):=fun x'=>Hf.out x'.wd ((PA1.out.keep A_w2.out).keep x'.ok);have GB:Hid (∀ x':Kept w2,Calls Tryz.prog 69 #[.agg #[.int .i64 P,.slice (some ⟨b,off,none⟩) n ca],.int .i64 f1] x'.wd fun e w'=>e=.returned (.bool ((!b1')))∧Below x'.wd.heap.size x'.wd w'):=fun x'=>Hf1.out x'.wd ((PA1.out.keep A_w2.out).keep x'.ok);go_wp2
    refine wp_region_kept (by kernel_rfl) (by kernel_rfl) ?_
    repeat (go_big_quiet_step ((go_at_call 69;first | (with_reducible exact kept_call _ (GA.out _)) | (with_reducible exact kept_call _ (GB.out _)))))
    refine wpQuiet_nil ?_;intro w3 hx;obtain ⟨⟨x3,hb⟩,hw⟩:=hx;replace hw:w3=x3:=hw;subst x3;have A_w3:=zd A_w2 hb;have O_w3:Hid (w3.ownsRow w1.heap.size 3 1 (.slice ao m cp) m (ints (M))):=by show World.ownsRow _ _ _ _ _ _ _;exact owns_below O_w2.out hb
    clear hb a0 a1 GA GB;have CM:Hid (m+1≤maxLen):=by show _≤_;unfold maxLen;omega
    have sz:Hid (w1.heap.size≤(w3.alloc (.cells #[.int .i64 f] 3)).heap.size):=by show _≤_;have:=A_w3.out.size;simp;omega
    go_wp2_with (at_builtin;refine wpList_append_own _ rfl _ _ 129 rfl w1.heap.size 3 i0 (.int .i64 0) 1 8 Tryz.underlying129 hi hz0 hz1 hz2 rfl (by decide) (.slice ao m cp) (m) (ints M) rfl (O_w3.out.alloc _) ⟨w3.heap.size,0,none⟩ 1 1 [.int .i64 f] rfl rfl (fun j u hj=>by rw [Addr.add_lit,Nat.zero_add,World.cell?_alloc_new];simpa using hj) (fun u hu=>by simp at hu;subst hu;rfl) CM.out (by omega) sz.out ?_)
    intro v7 w7 hown hgrow _;have A_w7:Hid (Below w1.heap.size w1 w7):=(A_w3.out.alloc A_w3.out.size _).grown hgrow sz.out (own_ge O_w3.out);have O_w7:Hid (w7.ownsRow w1.heap.size 3 1 v7 (m+1) (ints (M++[f]))):=by show World.ownsRow _ _ _ _ _ _ _;first | (rw [ints_app];exact hown) | (simpa [ints] using hown)
    clear hown hgrow CM sz
    by_cases d2':b3=b4
    ·have d2:(b3 != b4)=false:=by rw [d2',bne,beq_self_eq_true];rfl
     have EQ:Hid ((M++[f])=chL P A (A.take k1)):=by show _=_;rw [SN.out,d2,if_neg (show ¬ (false=true) by decide),List.append_nil]
     subst d2';clear d2;have a0:∀ x':Kept w7,x'.wd.cell? ⟨w.heap.size,0,none⟩=some (.int .i64 P):=fun x'=>((TA.out.keep A_w7.out).keep x'.ok).c0;have a1:∀ x':Kept w7,x'.wd.cell? ⟨w.heap.size,1,none⟩=some (.slice (some ⟨b,off,none⟩) n ca):=fun x'=>((TA.out.keep A_w7.out).keep x'.ok).c1;have GA:Hid (∀ x':Kept w7,Calls Tryz.prog 69 #[.agg #[.int .i64 P,.slice (some ⟨b,off,none⟩) n ca],.int .i64 t] x'.wd fun e w'=>e=.returned (.bool (b3))∧Below x'.wd.heap.size x'.wd w'):=fun x'=>Ht.out x'.wd ((PA1.out.keep A_w7.out).keep x'.ok);have GB:Hid (∀ x':Kept w7,Calls Tryz.prog 69 #[.agg #[.int .i64 P,.slice (some ⟨b,off,none⟩) n ca],.int .i64 t1] x'.wd fun e w'=>e=.returned (.bool (b3))∧Below x'.wd.heap.size x'.wd w'):=fun x'=>Ht1.out x'.wd ((PA1.out.keep A_w7.out).keep x'.ok);go_wp2
     refine wp_region_kept (by kernel_rfl) (by kernel_rfl) ?_
     repeat (go_big_quiet_step ((go_at_call 69;first | (with_reducible exact kept_call _ (GA.out _)) | (with_reducible exact kept_call _ (GB.out _)))))
     refine wpQuiet_nil ?_;intro w7c hx;obtain ⟨⟨x3,hb⟩,hw⟩:=hx;replace hw:w7c=x3:=hw;subst x3;have A_w7c:=zd A_w7 hb;have O_w7c:Hid (w7c.ownsRow w1.heap.size 3 1 v7 (m+1) (ints ((M++[f])))):=by show World.ownsRow _ _ _ _ _ _ _;exact owns_below O_w7.out hb
     clear hb a0 a1 GA GB;go_wp2
     go_roundw
     case rel=>exact ⟨k1,v7,(M++[f]),rfl,by omega,by rw [List.length_append,hm];simp;omega,by first | rfl | go_num,EQ,by rw [List.length_append,hm];exact O_w7c,A_w7c⟩
     case measure=>simp [intOf];omega
    ·have d2:(b3 != b4)=true:=bne_iff_ne.2 d2';have EQ:Hid ((M++[f])++[t]=chL P A (A.take k1)):=by show _=_;rw [SN.out,d2,if_pos rfl]
     obtain rfl:b4=!b3:=by cases b3 <;> cases b4 <;> simp_all
     clear d2 d2';have a0:∀ x':Kept w7,x'.wd.cell? ⟨w.heap.size,0,none⟩=some (.int .i64 P):=fun x'=>((TA.out.keep A_w7.out).keep x'.ok).c0;have a1:∀ x':Kept w7,x'.wd.cell? ⟨w.heap.size,1,none⟩=some (.slice (some ⟨b,off,none⟩) n ca):=fun x'=>((TA.out.keep A_w7.out).keep x'.ok).c1;have GA:Hid (∀ x':Kept w7,Calls Tryz.prog 69 #[.agg #[.int .i64 P,.slice (some ⟨b,off,none⟩) n ca],.int .i64 t] x'.wd fun e w'=>e=.returned (.bool (b3))∧Below x'.wd.heap.size x'.wd w'):=fun x'=>Ht.out x'.wd ((PA1.out.keep A_w7.out).keep x'.ok);have GB:Hid (∀ x':Kept w7,Calls Tryz.prog 69 #[.agg #[.int .i64 P,.slice (some ⟨b,off,none⟩) n ca],.int .i64 t1] x'.wd fun e w'=>e=.returned (.bool ((!b3)))∧Below x'.wd.heap.size x'.wd w'):=fun x'=>Ht1.out x'.wd ((PA1.out.keep A_w7.out).keep x'.ok);go_wp2
     refine wp_region_kept (by kernel_rfl) (by kernel_rfl) ?_
     repeat (go_big_quiet_step ((go_at_call 69;first | (with_reducible exact kept_call _ (GA.out _)) | (with_reducible exact kept_call _ (GB.out _)))))
     refine wpQuiet_nil ?_;intro w7c hx;obtain ⟨⟨x3,hb⟩,hw⟩:=hx;replace hw:w7c=x3:=hw;subst x3;have A_w7c:=zd A_w7 hb;have O_w7c:Hid (w7c.ownsRow w1.heap.size 3 1 v7 (m+1) (ints ((M++[f])))):=by show World.ownsRow _ _ _ _ _ _ _;exact owns_below O_w7.out hb
     clear hb a0 a1 GA GB;have CM:Hid ((m+1)+1≤maxLen):=by show _≤_;unfold maxLen;omega
     have sz:Hid (w1.heap.size≤(w7c.alloc (.cells #[.int .i64 t] 3)).heap.size):=by show _≤_;have:=A_w7c.out.size;simp;omega
     go_wp2_with (at_builtin;refine wpList_append_own _ rfl _ _ 129 rfl w1.heap.size 3 i0 (.int .i64 0) 1 8 Tryz.underlying129 hi hz0 hz1 hz2 rfl (by decide) (v7) ((m+1)) (ints ((M++[f]))) rfl (O_w7c.out.alloc _) ⟨w7c.heap.size,0,none⟩ 1 1 [.int .i64 t] rfl rfl (fun j u hj=>by rw [Addr.add_lit,Nat.zero_add,World.cell?_alloc_new];simpa using hj) (fun u hu=>by simp at hu;subst hu;rfl) CM.out (by omega) sz.out ?_)
     intro v8 w8 hown hgrow _;have A_w8:Hid (Below w1.heap.size w1 w8):=(A_w7c.out.alloc A_w7c.out.size _).grown hgrow sz.out (own_ge O_w7c.out);have O_w8:Hid (w8.ownsRow w1.heap.size 3 1 v8 ((m+1)+1) (ints ((M++[f])++[t]))):=by show World.ownsRow _ _ _ _ _ _ _;first | (rw [ints_app];exact hown) | (simpa [ints] using hown)
     clear hown hgrow CM sz;go_wp2
     go_roundw
     case rel=>exact ⟨k1,v8,(M++[f])++[t],rfl,by omega,by rw [List.length_append,List.length_append,hm];simp;omega,by first | rfl | go_num,EQ,by rw [List.length_append,List.length_append,hm];exact O_w8,A_w8⟩
     case measure=>simp [intOf];omega
  ·have ky:decide ((k:Int)<(n:Int))=false:=zdf (by omega);have PF:Hid (IntS w.heap.size wr v' (chL P A A)):=by
    show IntS _ _ _ _
    have e:M=chL P A A:=by rw [SM.out,List.take_of_length_le (by omega)]
    rw [← e];exact Sl.weak (Sl.owns OM.out) A1.out.size
   have A9:=zh (down A1.out AM.out);clear SM OM AM TR;go_wp2
   go_ret
   exact ⟨⟨_,rfl,PF.out⟩,A9.out⟩
end Go.Proofs.YtmamlgaogpkagaaGreat
namespace Go.Proofs.YtmamlgaogpkagaaGreat
set_option linter.unusedVariables false
set_option linter.unusedSimpArgs false
def smP (s:TS):Prop:=s.P=s.Q∧s.A=s.B
instance (s:TS):Decidable (smP s):=inferInstanceAs (Decidable (_∧_))
structure DfM (s:TS) (M:Int):Prop where
 m0:0<M
 m1:M≤12622780800
 ex:∀ u,∃ y,u≤y∧y<u+M∧hsP s.Q s.B y≠hsP s.P s.A y
theorem per_ne {f g:Int→Bool} {M:Int} (m0:0<M) (pf:Per f M) (pg:Per g M) (ne:f≠g) (u:Int):∃ y,u≤y∧y<u+M∧f y≠g y:=by
 by_cases e:∃ y,u≤y∧y<u+M∧f y≠g y
 ·exact e
 ·refine absurd (funext fun x=>?_) ne;have r0:=Int.emod_nonneg (x - u) (show M≠0 by omega);have r1:=Int.emod_lt_of_pos (x - u) m0;have d:=Int.mul_ediv_add_emod (x - u) M;have e1:=pf.mul (-((x - u) / M)) x;have e2:=pg.mul (-((x - u) / M)) x;rw [← e1,← e2,Int.mul_neg]
  by_cases z:f (x+-(M * ((x - u) / M)))=g (x+-(M * ((x - u) / M)))
  ·exact z
  ·exact absurd ⟨_,by omega,by omega,z⟩ e
theorem df_ex {s:TS} (p:PV s.P s.A) (q:PV s.Q s.B) (e:pqE s.P s.A s.Q s.B=0) (ne:¬ smP s):∃ M,DfM s M:=by
 unfold pqE at e
 rw [if_neg (show ¬ (s.P=s.Q∧s.A=s.B) from ne)] at e;have c:=co_facts (k:=1) (by decide) (by decide) p q e;exact ⟨_,c.m0,c.m1,fun u=>per_ne c.m0 c.qm c.pm (fun h=>ne (pv_ext p q h.symm)) u⟩
theorem df_mirror {s:TS} (h:GW s) {M:Int} (d:DfM s M):DfM (mrT s) M:=by
 refine ⟨d.m0,d.m1,fun u=>?_⟩;obtain ⟨y,y0,y1,y2⟩:=d.ex (-u - M);refine ⟨-1 - y,by omega,by omega,?_⟩
 show hsP s.P (mrL s.A s.P) (-1 - y)≠hsP s.Q (mrL s.B s.Q) (-1 - y)
 rw [mr_hs h.p.p0,mr_hs h.q.p0,show (-1 - (-1 - y):Int)=y by omega];exact fun c=>y2 c.symm
theorem mr_inj {A B:List Sp} {e:Int} (h:mrL A e=mrL B e):A=B:=by
 have h2:=congrArg (fun l=>mrL l e) h;have k:∀ L:List Sp,mrL (mrL L e) e=L:=fun L=>by
  unfold mrL
  rw [List.map_reverse,List.reverse_reverse,List.map_map]
  conv=>rhs;rw [← List.map_id L]
  refine List.map_congr_left fun q _=>?_
  show (e - (e - q.1),e - (e - q.2))=q
  rw [show e - (e - q.1)=q.1 by omega,show e - (e - q.2)=q.2 by omega]
 simp only [k] at h2
 exact h2
theorem sm_mirror {s:TS}:smP (mrT s)↔smP s:=by
 constructor
 ·rintro ⟨a,b⟩;replace a:s.Q=s.P:=a;replace b:mrL s.B s.Q=mrL s.A s.P:=b;rw [a] at b;exact ⟨a.symm,(mr_inj b).symm⟩
 ·rintro ⟨a,b⟩;exact ⟨a.symm,by show mrL s.B s.Q=mrL s.A s.P;rw [a,b]⟩
structure DpR (s:TS) (x:Int) (o:Bool):Prop where
 yes:o=true→s.a≤x∧hsT s x≠hsP s.P s.A x∧(∀ y,s.a≤y→y<x→hsT s y=hsP s.P s.A y)∧(smP s→x<s.b)
 no:o=false→x=0∧smP s∧∀ y,s.a≤y→y<s.b→hsT s y=hsP s.P s.A y
theorem dp_a {s:TS} {x:Int} (h:DpR s x true):EdA (hsT s) (hsP s.P s.A) x:=by
 obtain ⟨a,b,c,d⟩:=h.yes rfl;refine ⟨fun y hy=>?_,b⟩
 by_cases e:y<s.a
 ·exact gv_low e
 ·exact c y (by omega) hy
theorem dp_b {s:TS} (g:GW s) {x:Int} (h:DpR (mrT s) x true):EdB (hsT s) (hsP s.Q s.B) (-x):=by
 have k:=dp_a h;have e:∀ y,hsP (mrT s).P (mrT s).A y=hsP s.Q s.B (-1 - y):=fun y=>mr_hs g.q.p0 y;refine ⟨fun y hy=>?_,?_⟩
 ·have:=k.on (-1 - y) (by omega);rw [mr_has g,e,show (-1 - (-1 - y):Int)=y by omega] at this;exact this
 ·have:=k.no;rw [mr_has g,e] at this;rw [show (-x - 1:Int)=-1 - x by omega];exact this
theorem dp_none {s:TS} (g:Giv s.P s.A s.Q s.B s.a s.b s.L) {x:Int} (h:DpR s x false):frT s.P s.A s.Q s.B (hsT s)=(⟨s.P,s.A,s.P,s.A,0,0,[]⟩,0):=by
 obtain ⟨-,⟨e1,e2⟩,c⟩:=h.no rfl;have f:hsT s=hsP s.P s.A:=funext fun y=>by
  by_cases a:y<s.a
  ·exact gv_low a
  ·by_cases b:y<s.b
   ·exact c y (by omega) b
   ·rw [show hsT s y=hsP s.Q s.B y from gv_high g.le (by omega),e1,e2]
 have k:=fr_pure (P:=s.P) (A:=s.A) f;rw [← e1,← e2];exact k
theorem dp_both {s:TS} (g:GW s) {x z:Int} {o:Bool} (h:DpR s x true) (k:DpR (mrT s) z o):o=true:=by
 cases o
 ·exfalso
  obtain ⟨-,sm,c⟩:=k.no rfl;have sm':=sm_mirror.1 sm;obtain ⟨a,b,-,d⟩:=h.yes rfl;have xb:=d sm';have:=c (-1 - x) (by show -s.b≤_;omega) (by show _ < -s.a;omega);rw [mr_has g,show (-1 - (-1 - x):Int)=x by omega] at this;refine b ?_;rw [this]
  show hsP s.Q (mrL s.B s.Q) (-1 - x)=_
  rw [mr_hs g.q.p0,show (-1 - (-1 - x):Int)=x by omega,sm'.1,sm'.2]
 ·rfl
theorem dp_form {s:TS} (g:Giv s.P s.A s.Q s.B s.a s.b s.L) (e:pqE s.P s.A s.Q s.B=0) {x z:Int} (h:DpR s x true) (k:DpR (mrT s) z true) :
  -z≤4398046511104∧(caL (hsT s) (mnI x (-z)) (-z)).length≤2000 ∧
  frT s.P s.A s.Q s.B (hsT s)=if mnI x (-z) < -4398046511104 then (tsZ,9) else (⟨s.P,s.A,s.Q,s.B,mnI x (-z),-z,caL (hsT s) (mnI x (-z)) (-z)⟩,0):=by
 have gw:=g.gw;have ha:=dp_a h;have hb:=dp_b gw k;have x0:=(h.yes rfl).1;have z0:-s.b≤z:=(k.yes rfl).1;have hi0:=g.hi0;have lo0:=g.lo0;have f:=fr_ends g e ha hb fun _=>⟨x0,by omega⟩;have m:=mnI_le x (-z);have o:=mnI_or x (-z);have em:mnI x (-z)=if x≤-z then x else -z:=by unfold mnI;split <;> split <;> omega
 have el:(if x≤-z then clL s.L x (-z) else [])=caL (hsT s) (mnI x (-z)) (-z):=by
  by_cases c:x < -z
  ·rw [if_pos (by omega),cl_ca gw.cn,show mnI x (-z)=x by omega];exact ca_congr fun y y0 y1=>(gv_mid (by omega) (by omega)).symm
  ·rw [ca_none _ (by omega)]
   split
   ·rw [cl_ca gw.cn,ca_none _ (by omega)]
   ·rfl
 refine ⟨by omega,?_,?_⟩
 ·rw [← el]
  split
  ·have:=cl_len s.L x (-z);have:=gw.len;omega
  ·exact Nat.zero_le _
 ·rw [show frT s.P s.A s.Q s.B (hsT s)=_ from f,el,← em]
  by_cases c:mnI x (-z) < -4398046511104
  ·have n:nvB (mnI x (-z))=false:=by
    cases q:nvB (mnI x (-z))
    ·rfl
    ·have:=(nvB_iff.1 q).1;omega
   rw [if_pos c,n,Bool.false_and,if_neg (by simp)]
  ·rw [if_neg c,if_pos (by rw [nvB_iff.2 ⟨by omega,by omega⟩,nvB_iff.2 ⟨by omega,by omega⟩];rfl)]
def vdB (s:TS):Bool:=if s.a=s.b∧smP s then decide (s.a=0) else (hsT s (s.b - 1) != hsP s.Q s.B (s.b - 1))&&(decide (s.a=s.b) || (hsT s s.a != hsP s.P s.A s.a))
theorem giv_nil {P Q a:Int} {A B L:List Sp} (g:Giv P A Q B a a L):L=[]:=by
  cases L with
  | nil=>rfl
  | cons q L =>
    have:=g.low q (by simp);have:=(vaB_iff.1 g.va).2.2.lt q (by simp);omega
theorem vd_ok {s:TS} (g:Giv s.P s.A s.Q s.B s.a s.b s.L) (e:pqE s.P s.A s.Q s.B=0):vsB s=vdB s:=by
 have gw:=g.gw;have le:=g.le;rw [Bool.eq_iff_iff,vs_ok]
 unfold vdB
 by_cases c:s.a=s.b∧smP s
 ·rw [if_pos c,decide_eq_true_eq];have ln:s.L=[]:=giv_nil (by have:=g;rw [← c.1] at this;exact this);have f:hsT s=hsP s.P s.A:=funext fun y=>by
   by_cases a:y<s.a
   ·exact gv_low a
   ·rw [show hsT s y=hsP s.Q s.B y from gv_high g.le (by omega),c.2.1,c.2.2]
  constructor
  ·intro v;have:=v.pure ⟨c.2.1,c.2.2,f⟩;rw [this]
  ·intro a0;refine ⟨g,?_⟩;have k:=fr_pure (P:=s.P) (A:=s.A) f;have e1:s=⟨s.P,s.A,s.P,s.A,0,0,[]⟩:=by
    obtain ⟨c1,c2,c3⟩:=c
    cases s
    simp only at c1 c2 c3 a0 ln
    subst c2 c3 a0 ln;rw [← c1]
   rw [← c.2.1,← c.2.2]
   conv=>rhs;rw [e1]
   exact k
 ·rw [if_neg c]
  constructor
  ·intro v;have np:¬ (s.P=s.Q∧s.A=s.B∧hsT s=hsP s.P s.A):=fun p=>by
    have k:=v.pure p;exact c ⟨by rw [k],p.1,p.2.1⟩
   obtain ⟨ea,eb,-,⟨a,ha⟩,b,hb⟩:=v.ends np;rw [edB_eq hb] at eb
   unfold loT at ea
   rw [edB_eq hb,edA_eq ha] at ea;have h1:(hsT s (s.b - 1) != hsP s.Q s.B (s.b - 1))=true:=by rw [eb];simpa using hb.no
   rw [h1,Bool.true_and]
   by_cases z:a≤b
   ·rw [if_pos z] at ea;have h2:(hsT s s.a != hsP s.P s.A s.a)=true:=by rw [ea];simpa using ha.no
    rw [h2,Bool.or_true]
   ·rw [if_neg z] at ea;rw [zdt (by omega),Bool.true_or]
  ·intro v;rw [Bool.and_eq_true,Bool.or_eq_true,decide_eq_true_eq] at v;obtain ⟨v1,v2⟩:=v;have hb:EdB (hsT s) (hsP s.Q s.B) s.b:=⟨fun y hy=>gv_high g.le hy,by simpa using v1⟩;have np:¬ (s.P=s.Q∧s.A=s.B∧hsT s=hsP s.P s.A):=fun p=>hb.no (by rw [p.2.2,p.1,p.2.1]);obtain ⟨⟨a,ha⟩,-⟩:=ends_ex g.p g.q (pc_mid _ _ _ g.le) np;have aa:s.a≤a:=by
    by_cases z:s.a≤a
    ·exact z
    ·exact absurd (gv_low (by omega)) ha.no
   have fr:=fr_ends (l:=s.L) g e ha hb fun z=>⟨aa,Int.le_refl _⟩;have na:nvB s.a=true:=nvB_iff.2 ⟨g.lo0,by have:=g.hi0;omega⟩;have nb:nvB s.b=true:=nvB_iff.2 ⟨by have:=g.lo0;omega,g.hi0⟩;refine ⟨g,?_⟩;rw [show frT s.P s.A s.Q s.B (hsT s)=_ from fr]
   by_cases z:s.a=s.b
   ·have ln:s.L=[]:=giv_nil (by have:=g;rw [← z] at this;exact this);have e1:(if a≤s.b then a else s.b)=s.b:=by split <;> omega
    have e2:(if a≤s.b then clL s.L a s.b else [])=[]:=by rw [ln];split <;> rfl
    rw [e1,e2,nb,if_pos (show (true&&true)=true from rfl)];have es:s=⟨s.P,s.A,s.Q,s.B,s.b,s.b,[]⟩:=by
     clear fr e2 e1 nb na aa ha np hb v2 v1 c gw e g le
     cases s
     simp only at z ln
     subst z ln;rfl
    exact congrArg (fun q=>(q,(0:Int))) es.symm
   ·rcases v2 with v2 | v2
    ·exact absurd v2 z
    ·have ha':EdA (hsT s) (hsP s.P s.A) s.a:=⟨fun y hy=>gv_low hy,by simpa using v2⟩;have:=ha.unique ha';subst this;have e2:clL s.L s.a s.b=s.L:=by
      rw [cl_ca gw.cn];exact (ca_eq gw.cn fun y=>by
       cases i:inB s.L y
       ·rw [Bool.and_false]
       ·obtain ⟨q,hq,q1,q2⟩:=inB_iff.1 i;have:=g.low q hq;rw [zdt (by omega),zdt (by omega)];rfl).symm
     rw [if_pos le,if_pos le,na,nb,if_pos (show (true&&true)=true from rfl),e2]
theorem pu_same {s:TS} (v:VS s):puB s=decide (s.a=s.b∧smP s):=by
 rw [Bool.eq_iff_iff,pu_iff,decide_eq_true_eq]
 constructor
 ·rintro ⟨a,b,c,d⟩;exact ⟨by omega,c,d⟩
 ·rintro ⟨a,c,d⟩;have f:hsT s=hsP s.P s.A:=funext fun y=>by
   by_cases z:y<s.a
   ·exact gv_low z
   ·rw [show hsT s y=hsP s.Q s.B y from gv_high v.g.le (by omega),c,d]
  have:=v.pure ⟨c,d,f⟩;exact ⟨by rw [this],by rw [this],c,d⟩
end Go.Proofs.YtmamlgaogpkagaaGreat
namespace Go.Proofs.YtmamlgaogpkagaaGreat
open Go.RowKit
set_option linter.unusedVariables false
set_option linter.unusedSimpArgs false
structure Far (X:Nat→Prop) (w w':World):Prop where
 os:w'.os=w.os
 tape:w'.tape=w.tape
 output:w'.output=w.output
 size:w.heap.size≤w'.heap.size
 block:∀ k,k<w.heap.size→¬ X k→w'.heap[k]?=w.heap[k]?
theorem Far.of {X:Nat→Prop} {w w':World} (h:Below w.heap.size w w'):Far X w w':=⟨h.os,h.tape,h.output,h.size,fun k hk _=>h.block k hk⟩
theorem Far.below {w w':World} (h:Far (fun _=>False) w w'):Below w.heap.size w w':=⟨h.os,h.tape,h.output,h.size,fun k hk=>h.block k hk (fun c=>c)⟩
theorem Far.trans {X:Nat→Prop} {a b c:World} (h:Far X a b) (k:Far X b c):Far X a c :=
 ⟨k.os.trans h.os,k.tape.trans h.tape,k.output.trans h.output,Nat.le_trans h.size k.size,fun i hi hx=>(k.block i (zll hi h.size) hx).trans (h.block i hi hx)⟩
theorem Far.on {X:Nat→Prop} {a b c:World} (h:Below a.heap.size a b) (k:Far X b c) (hX:∀ i,X i→a.heap.size≤i):Below a.heap.size a c :=
 ⟨k.os.trans h.os,k.tape.trans h.tape,k.output.trans h.output,Nat.le_trans h.size k.size,fun i hi=>(k.block i (zll hi h.size) (fun c=>by have:=hX i c;omega)).trans (h.block i hi)⟩
theorem Far.one {X:Nat→Prop} {w w':World} {b:Nat} {v:Value} (h:One w b v) (k:Far X w w') (hx:¬ X b):One w' b v :=
 ⟨by rw [World.cell?_of_block (w:=w) (a:=⟨b,0,none⟩) (k.block b h.lt hx)];exact h.c,zll h.lt k.size⟩
theorem Far.bxs {X:Nat→Prop} {w w':World} {b:Nat} {us:List Value} (h:Bxs w b us) (k:Far X w w') (hx:¬ X b):Bxs w' b us :=
 ⟨fun i u e=>by rw [World.cell?_of_block (w:=w) (a:=⟨b,i,none⟩) (k.block b h.lt hx)];exact h.c i u e,zll h.lt k.size⟩
theorem Far.setCell {X:Nat→Prop} {a w:World} (h:Far X a w) {p:Addr} (hp:X p.block∨a.heap.size≤p.block) (u:Value):Far X a (w.setCell p u) :=
 ⟨h.os,h.tape,h.output,by rw [size_set];exact h.size,fun k hk hx=>by
  rw [Below.heap_setCell _ _ _ _ (fun e=>by subst e;rcases hp with c | c;exact hx c;omega)];exact h.block k hk hx⟩
def VwX (X:Nat→Prop) (w:World) (v:Value) (f:Int→Bool) (nx:Int→Int):Prop :=
 ∃ g caps,v=.func (.func g) #[] caps∧(∀ args w,(callFunc g args).run Tryz.prog w=.ok (.enter g args) w) ∧
  ∀ W,Far X w W→∀ x,I64 x→Calls Tryz.prog g (#[.int .i64 x]++caps) W fun e W'=>(∃ n,e=.returned (.tuple #[.bool (f x),.int .i64 n])∧(-1152921504606846976≤x→x≤1152921504606846976→n=nx x))∧Below W.heap.size W W'
abbrev Vw:=VwX (fun _=>False)
theorem VwX.keep {X:Nat→Prop} {w w':World} {v:Value} {f:Int→Bool} {nx:Int→Int} (h:VwX X w v f nx) (hb:Below w.heap.size w w'):VwX X w' v f nx:=by
 obtain ⟨g,caps,e,eg,k⟩:=h;exact ⟨g,caps,e,eg,fun W hW x hx=>k W ((Far.of hb).trans hW) x hx⟩
theorem VwX.at {X:Nat→Prop} {w w':World} {v:Value} {f:Int→Bool} {nx:Int→Int} (h:VwX X w v f nx) (hb:Far X w w'):Vw w' v f nx:=by
 obtain ⟨g,caps,e,eg,k⟩:=h;exact ⟨g,caps,e,eg,fun W hW x hx=>k W (hb.trans (Far.of hW.below)) x hx⟩
theorem VwX.more {X Y:Nat→Prop} {w:World} {v:Value} {f:Int→Bool} {nx:Int→Int} (h:VwX X w v f nx) (hY:∀ b,Y b→X b∨w.heap.size≤b):VwX Y w v f nx:=by
 obtain ⟨g,caps,e,eg,k⟩:=h;exact ⟨g,caps,e,eg,fun W hW x hx=>k W ⟨hW.os,hW.tape,hW.output,hW.size,fun i hi hx=>hW.block i hi (fun c=>by rcases hY i c with z | z;exact hx z;omega)⟩ x hx⟩
theorem VwX.shape {X:Nat→Prop} {w:World} {v:Value} {f:Int→Bool} {nx:Int→Int} (h:VwX X w v f nx):∃ g caps,v=.func (.func g) #[] caps:=by
 obtain ⟨g,caps,e,-⟩:=h;exact ⟨g,caps,e⟩
set_option maxRecDepth 100000 in
set_option maxHeartbeats 1000000 in
theorem tvless (L:List Sp) (x:Int) (i:Nat) (hi:i<L.length) (hl:L.length≤100000) (v:Value) (b c:Nat) {ba:Nat} (w:World) (hb:One w b v) (hc:One w c (.int .i64 x)) (h:PairS ba w v L) :
  Calls Tryz.prog 160 #[.int .i64 i,.pointer (some ⟨c,0,none⟩),.pointer (some ⟨b,0,none⟩)] w fun e w'=>e=.returned (.bool (decide (x<(L.getD i (0,0)).2)))∧Below w.heap.size w w':=by
 obtain ⟨ao,cp,rfl⟩:=prs_shape h;obtain ⟨d,off,rfl,dl,cs⟩:=prs_here h hi;obtain ⟨c0,c1⟩:=cs i hi;obtain ⟨bx,blt⟩:=hb;obtain ⟨cx,clt⟩:=hc;clear cs h;generalize (L.getD i (0,0)).1=y at *;generalize (L.getD i (0,0)).2=z at *;generalize L.length=n at *
 go_enter Tryz.func160,Tryz.ntmps160
 go_wp2
 go_quiet (fail)
 go_wp2
 go_ret
 exact ⟨rfl,below_drewN (here w) _⟩
set_option maxRecDepth 100000 in
set_option maxHeartbeats 2000000 in
theorem tvlist1 (L:List Sp) (cn:Cn L) (hl:L.length≤100000) (x:Int) (hx:I64 x) (v:Value) (b:Nat) {ba:Nat} (w:World) (hb:One w b v) (h:PairS ba w v L) :
  Calls Tryz.prog 158 #[.int .i64 x,.pointer (some ⟨b,0,none⟩)] w fun e w'=>e=.returned (.tuple #[.bool (inB L x),.int .i64 (nxL L x)])∧Below w.heap.size w w':=by
 obtain ⟨ao,cp,rfl⟩:=prs_shape h;obtain ⟨w1,hw1⟩:∃ w1:World,w.alloc (.cells #[.int .i64 x] 3)=w1:=⟨_,rfl⟩;have B1:One w1 b (.slice ao L.length cp):=by rw [← hw1];exact hb.old _
 have C1:One w1 w.heap.size (.int .i64 x):=by rw [← hw1];exact One.new (here _)
 have A1:Below w.heap.size w w1:=by rw [← hw1];exact grow (here w) _
 have L1:=h.keep A1;have HS:=zh (search_all L.length (fdN L x) (fun i=>decide (x<(L.getD i (0,0)).2)) 160 #[.pointer (some ⟨w.heap.size,0,none⟩),.pointer (some ⟨b,0,none⟩)] (by omega) w1 (fun _ _=>rfl) (fd_le L x)
  (fun i hi=>zdf (by have:=(fd_iff cn (x:=x) (j:=i) (by have:=fd_le L x;omega)).2 hi;omega)) (fun i h0 h1=>zdt (by have h3:¬ (L.getD i (0,0)).2≤x:=fun h=>absurd ((fd_iff cn (x:=x) h1).1 h) (by omega);omega))
  (fun i w' hi hb=>tvless L x i hi hl _ _ _ w' (B1.keep hb) (C1.keep hb) (L1.keep hb)))
 have hmf:∀ (fn:Fn) (first cap:Array Value) (w:World),(Instr.makeFunc fn first cap).run Tryz.prog w=.ok (.func fn first cap) w:=fun _ _ _ _=>rfl;have bx:=B1.c;have blt:=B1.lt;have B1':=zh B1;have L1':=zh L1;have C1':=zh C1;replace A1:=zh A1;have fi:=fd_in cn x
 unfold fdH at fi
 have fl:=fd_le L x;have nx:nxL L x=if fdN L x=L.length then farI else if x<(L.getD (fdN L x) (0,0)).1 then (L.getD (fdN L x) (0,0)).1 else (L.getD (fdN L x) (0,0)).2:=rfl;rw [← fi,nx];clear nx fi B1 L1 C1 h hb cn;generalize fdN L x=J at *
 by_cases e:J=L.length
 ·have ke:((J:Int)==(L.length:Int))=true:=by rw [beq_iff_eq];omega
  rw [if_pos e,zdf (by omega),Bool.false_and];clear e
  go_enter Tryz.func158,Tryz.ntmps158
  go_wp2_with fail
  refine HS.out.mono ?_;rintro e w3 ⟨rfl,hb⟩;have A3:=zd A1 hb;have B3:=B1'.out.keep hb;have C3:=C1'.out.keep hb;have L3:=L1'.out.keep hb;clear hb B1' C1' L1' HS bx blt A1;have bx:=B3.c;have blt:=B3.lt;have cx:=C3.c;have clt:=C3.lt;clear B3 C3 hw1;clear L3;go_wp2
  go_ret2
  exact ⟨rfl,A3.out⟩
 ·have ke:((J:Int)==(L.length:Int))=false:=by rw [beq_eq_false_iff_ne];omega
  have jl:J<L.length:=by omega
  rw [if_neg e,zdt jl,Bool.true_and];clear e;obtain ⟨y,hy⟩:∃ y,(L.getD J (0,0)).1=y:=⟨_,rfl⟩;obtain ⟨z,hz⟩:∃ z,(L.getD J (0,0)).2=z:=⟨_,rfl⟩;rw [hy,hz];replace hy:=zh hy;replace hz:=zh hz
  by_cases k:x<y
  ·have kk:decide (x<y)=true:=zdt k;rw [if_pos k,zdf (by omega)]
   go_enter Tryz.func158,Tryz.ntmps158
   go_wp2_with fail
   refine HS.out.mono ?_;rintro e w3 ⟨rfl,hb⟩;have A3:=zd A1 hb;have B3:=B1'.out.keep hb;have C3:=C1'.out.keep hb;have L3:=L1'.out.keep hb;clear hb B1' C1' L1' HS bx blt A1;have bx:=B3.c;have blt:=B3.lt;have cx:=C3.c;have clt:=C3.lt;clear B3 C3 hw1;obtain ⟨d,off,rfl,dl,cs⟩:=prs_here L3 jl;obtain ⟨c0,c1⟩:=cs J jl;rw [hy.out] at c0;rw [hz.out] at c1;clear cs L3 hy hz;generalize L.length=n at *;go_wp2
   go_quiet (fail)
   go_wp2
   go_quiet (fail)
   go_wp2
   go_ret2
   exact ⟨rfl,below_drewN (below_drewN A3.out _) _⟩
  ·have kk:decide (x<y)=false:=zdf k;rw [if_neg k,zdt (by omega)]
   go_enter Tryz.func158,Tryz.ntmps158
   go_wp2_with fail
   refine HS.out.mono ?_;rintro e w3 ⟨rfl,hb⟩;have A3:=zd A1 hb;have B3:=B1'.out.keep hb;have C3:=C1'.out.keep hb;have L3:=L1'.out.keep hb;clear hb B1' C1' L1' HS bx blt A1;have bx:=B3.c;have blt:=B3.lt;have cx:=C3.c;have clt:=C3.lt;clear B3 C3 hw1;obtain ⟨d,off,rfl,dl,cs⟩:=prs_here L3 jl;obtain ⟨c0,c1⟩:=cs J jl;rw [hy.out] at c0;rw [hz.out] at c1;clear cs L3 hy hz;generalize L.length=n at *;go_wp2
   go_quiet (fail)
   go_wp2
   go_quiet (fail)
   go_wp2
   go_ret2
   exact ⟨rfl,below_drewN (below_drewN A3.out _) _⟩
set_option maxRecDepth 100000 in
set_option maxHeartbeats 1000000 in
theorem tvlist (L:List Sp) (cn:Cn L) (hl:L.length≤100000) (v:Value) {ba:Nat} (w0 w:World) (h:PairS ba w0 v L) (A0:Below w0.heap.size w0 w) (X:Nat→Prop) (hX:∀ b,X b→w0.heap.size≤b∧b<w.heap.size) :
  Calls Tryz.prog 124 #[v] w fun e w'=>(∃ v',e=.returned v'∧VwX X w' v' (inB L) (nxL L))∧Below w.heap.size w w':=by
 obtain ⟨ao,cp,rfl⟩:=prs_shape h;obtain ⟨w1,hw1⟩:∃ w1:World,w.alloc (.cells #[.slice ao L.length cp] 22)=w1:=⟨_,rfl⟩;have B1:One w1 w.heap.size (.slice ao L.length cp):=by rw [← hw1];exact One.new (here _)
 have A1:Below w.heap.size w w1:=by rw [← hw1];exact grow (here w) _
 have V:=zh (show VwX X w1 (.func (.func 158) #[] #[.pointer (some ⟨w.heap.size,0,none⟩)]) (inB L) (nxL L) from
  ⟨_,_,rfl,fun _ _=>rfl,fun W hW x hx=>(tvlist1 L cn hl x hx _ _ W (Far.one B1 hW (fun c=>Nat.lt_irrefl _ (hX _ c).2)) (h.keep (Far.on (down A0 A1) hW (fun i c=>(hX i c).1)))).mono fun e w' k=>⟨⟨_,k.1,fun _ _=>rfl⟩,k.2⟩⟩)
 have hmf:∀ (fn:Fn) (first cap:Array Value) (w:World),(Instr.makeFunc fn first cap).run Tryz.prog w=.ok (.func fn first cap) w:=fun _ _ _ _=>rfl;have bx:=B1.c;have blt:=B1.lt;replace A1:=zh A1;clear B1 h cn
 go_enter Tryz.func124,Tryz.ntmps124
 go_wp2
 go_ret
 exact ⟨⟨_,rfl,V.out⟩,A1.out⟩
end Go.Proofs.YtmamlgaogpkagaaGreat
