/- RnKA. -/
import Derived.Test.YtmamlgaogpkagaaGreatQLPlain
import Derived.Test.YtmamlgaogpkagaaGreatQLGen
import Derived.Test.YtmamlgaogpkagaaGreatQLSl
import Derived.Deep.RegionWith
namespace Go.Proofs.YtmamlgaogpkagaaGreat
open Go.RowKit
set_option linter.unusedVariables false
set_option linter.unusedSimpArgs false
theorem riv (a b:Int) (w:World) :
    Calls Tryz.prog 75 #[.agg #[.int .i64 a,.int .i64 b]] w fun e w'=>e=.returned (.bool (spB (a,b)))∧Below w.heap.size w w':=by
  have e:spB (a,b)=(decide (-4398046511104≤a)&&decide (a<b)&&decide (b≤4398046511104)):=by
    rw [Bool.eq_iff_iff,spB_iff];simp only [Bool.and_eq_true,decide_eq_true_eq];omega
  rw [e];clear e;obtain ⟨x0,x1,xlt⟩:=Two.new (here (w.alloc (.cells #[.int .i64 a,.int .i64 b] 40)))
  cases p:decide (-4398046511104≤a) <;> cases q:decide (a<b) <;> cases r:decide (b≤4398046511104)
  all_goals
    go_enter Tryz.func75,Tryz.ntmps75
    go_wp2
    go_ret
    exact ⟨rfl,grow (here w) _⟩
set_option maxRecDepth 100000 in
set_option maxHeartbeats 1000000 in
theorem ruvalid (va:Value) (A:List Sp) (hA:A.length≤maxLen) {ba:Nat} (w:World) (a:PairS ba w va A) :
    Calls Tryz.prog 116 #[va] w fun e w'=>e=.returned (.bool (vaB A))∧Below w.heap.size w w':=by
  unfold maxLen at hA
  obtain ⟨o,c,rfl⟩:=prs_shape a;have PL:=zh a;have A0:Hid (Below w.heap.size w w):=here w;have no1:Hid (∀ j,j<A.length→spB (A.getD j (0,0))=false→vaB A=false):=fun j hj e=>by
    rw [← Bool.not_eq_true];intro q;rw [spsB_at.1 (va_sps q) j hj] at e;cases e
  have no2:Hid (∀ j,j+1<A.length→(A.getD (j+1) (0,0)).1≤(A.getD j (0,0)).2→vaB A=false):=fun j hj e=>by
    rw [← Bool.not_eq_true];intro q;have:=gpB_at.1 (gp_of_cn (vaB_iff.1 q).2.2) j hj;omega
  have no3:Hid (2000<A.length→vaB A=false):=fun l=>by
    rw [← Bool.not_eq_true];intro q;have:=va_len q;omega
  have yes:Hid (A.length≤2000→(∀ j,j<A.length→spB (A.getD j (0,0))=true)→(∀ j,j+1<A.length→(A.getD j (0,0)).2<(A.getD (j+1) (0,0)).1)→vaB A=true):=fun l s g=>by
    unfold vaB;rw [zdt l,spsB_at.2 s,gpB_at.2 g];rfl
  clear a;obtain ⟨n,hl⟩:∃ n,A.length=n:=⟨_,rfl⟩;rw [hl] at hA no1 no2 no3 yes PL ⊢;generalize vaB A=R at *
  by_cases l:2000<n
  · have kl:decide (2000<(n:Int))=true:=zdt (by omega);have r:Hid (R=false):=no3.out l;clear no1 no2 no3 yes l
    go_enter Tryz.func116,Tryz.ntmps116
    go_wp2
    go_ret
    exact ⟨by rw [r.out];rfl,A0.out⟩
  have kl:decide (2000<(n:Int))=false:=zdf (by omega);replace yes:=zh (yes.out (by omega));clear no3 l
  go_enter Tryz.func116,Tryz.ntmps116
  go_wp2
  go_loopw [10] (fun i wr=>∃ k:Nat,k≤n∧i=.int .i64 k∧Hid (∀ j,j<k→spB (A.getD j (0,0))=true)∧Hid (∀ j,j+1<k→(A.getD j (0,0)).2<(A.getD (j+1) (0,0)).1)∧Hid (Below w.heap.size w wr)) (fun i _=>n - (intOf i).toNat)
  case atStart=>exact ⟨0,Nat.zero_le _,rfl,fun j hj=>absurd hj (Nat.not_lt_zero _),fun j hj=>absurd hj (Nat.not_lt_zero _),A0⟩
  case round =>
    obtain ⟨k,hk,rfl,HU,HV,HA⟩:=hrel;have HP:=zh (PL.out.keep HA.out);clear A0
    by_cases z:k<n
    · have kz:decide ((k:Int)<(n:Int))=true:=zdt (by omega);obtain ⟨b,off,rfl,bl,cs⟩:=prs_here HP.out (show k<A.length by omega);obtain ⟨c0,c1⟩:=cs k (by omega);have HS:=zh (fun w=>riv (A.getD k (0,0)).1 (A.getD k (0,0)).2 w);have ev:((A.getD k (0,0)).1,(A.getD k (0,0)).2)=A.getD k (0,0):=rfl;rw [ev] at HS;clear ev
      cases u:spB (A.getD k (0,0))
      · rw [u] at HS;have r:Hid (R=false):=no1.out k z u;clear u yes no1 no2 HU HV cs;generalize A.getD k (0,0)=q at *;obtain ⟨x,y⟩:=q;replace HS:Hid (∀ w,Calls Tryz.prog 75 #[.agg #[.int .i64 x,.int .i64 y]] w fun e w'=>e=.returned (.bool false)∧Below w.heap.size w w'):=HS;replace c0:wr.cell? ⟨b,off+k * 2,none⟩=some (.int .i64 x):=c0;replace c1:wr.cell? ⟨b,off+k * 2+1,none⟩=some (.int .i64 y):=c1;go_wp2
        obtain ⟨w2,hw2⟩:∃ w':World,wr.alloc (.cells #[.int .i64 x,.int .i64 y] 40)=w':=⟨_,rfl⟩;rw [hw2];have A2:Below w.heap.size w w2:=by rw [← hw2];exact grow HA.out _
        have X2:Two w2 wr.heap.size (.int .i64 x) (.int .i64 y):=by rw [← hw2];exact Two.new (here _)
        have P2:PairS ba w2 (.slice (some ⟨b,off,none⟩) n c) A:=by rw [← hw2];exact HP.out.keep (grow (here _) _)
        clear hw2 HA HP c0 c1 bl;have p0:∀ x':Kept w2,x'.wd.cell? ⟨wr.heap.size,0,none⟩=some (.int .i64 x):=fun x'=>(X2.keep x'.ok).c0;have p1:∀ x':Kept w2,x'.wd.cell? ⟨wr.heap.size,1,none⟩=some (.int .i64 y):=fun x'=>(X2.keep x'.ok).c1;replace A2:=zh A2;clear X2 P2;refine wp_region_kept (by kernel_rfl) (by kernel_rfl) ?_
        repeat (go_big_quiet_step ((go_at_call 75;exact kept_call _ (HS.out _))))
        refine wpQuiet_nil ?_;intro w3 hx;obtain ⟨⟨x3,hb3⟩,hw⟩:=hx;replace hw:w3=x3:=hw;subst x3;have A3:=zd A2 hb3;clear hb3 p0 p1 A2;go_wp2
        go_ret
        exact ⟨by rw [r.out];rfl,A3.out⟩
      rw [u] at HS;have HU2:Hid (∀ j,j<k+1→spB (A.getD j (0,0))=true):=fun j hj=>by
        rcases Nat.lt_or_ge j k with y | y
        · exact HU.out j y
        · obtain rfl:j=k:=by omega
          exact u
      clear u no1 HU
      rcases Nat.eq_zero_or_pos k with k0 | k0
      · subst k0;have HV2:Hid (∀ j,j+1<0+1→(A.getD j (0,0)).2<(A.getD (j+1) (0,0)).1):=fun j hj=>by omega
        clear yes no2 HV cs;generalize A.getD 0 (0,0)=q at c0 c1 HS;obtain ⟨x,y⟩:=q;replace HS:Hid (∀ w,Calls Tryz.prog 75 #[.agg #[.int .i64 x,.int .i64 y]] w fun e w'=>e=.returned (.bool true)∧Below w.heap.size w w'):=HS;replace c0:wr.cell? ⟨b,off,none⟩=some (.int .i64 x):=c0;replace c1:wr.cell? ⟨b,off+1,none⟩=some (.int .i64 y):=c1;go_wp2
        obtain ⟨w2,hw2⟩:∃ w':World,wr.alloc (.cells #[.int .i64 x,.int .i64 y] 40)=w':=⟨_,rfl⟩;rw [hw2];have A2:Below w.heap.size w w2:=by rw [← hw2];exact grow HA.out _
        have X2:Two w2 wr.heap.size (.int .i64 x) (.int .i64 y):=by rw [← hw2];exact Two.new (here _)
        have P2:PairS ba w2 (.slice (some ⟨b,off,none⟩) n c) A:=by rw [← hw2];exact HP.out.keep (grow (here _) _)
        clear hw2 HA HP c0 c1 bl;have p0:∀ x':Kept w2,x'.wd.cell? ⟨wr.heap.size,0,none⟩=some (.int .i64 x):=fun x'=>(X2.keep x'.ok).c0;have p1:∀ x':Kept w2,x'.wd.cell? ⟨wr.heap.size,1,none⟩=some (.int .i64 y):=fun x'=>(X2.keep x'.ok).c1;replace A2:=zh A2;clear X2 P2;refine wp_region_kept (by kernel_rfl) (by kernel_rfl) ?_
        repeat (go_big_quiet_step ((go_at_call 75;exact kept_call _ (HS.out _))))
        refine wpQuiet_nil ?_;intro w3 hx;obtain ⟨⟨x3,hb3⟩,hw⟩:=hx;replace hw:w3=x3:=hw;subst x3;have A3:=zd A2 hb3;clear hb3 p0 p1 A2;go_wp2
        go_roundw
        case rel=>exact ⟨0+1,by omega,by go_num,HU2,HV2,A3⟩
        case measure=>simp [intOf];omega
      · obtain ⟨m,rfl⟩:∃ m,k=m+1:=⟨k - 1,by omega⟩;obtain ⟨d0,d1⟩:=cs m (by omega);have m1:((m+1:Nat):Int) - 1=m:=by omega
        have m2:decide (0<((m+1:Nat):Int))=true:=zdt (by omega);have m3:decide (0<m+1)=true:=zdt (by omega);obtain ⟨g,hg⟩:∃ g,(A.getD m (0,0)).2=g:=⟨_,rfl⟩;rw [hg] at d1;clear d0
        by_cases t:(A.getD (m+1) (0,0)).1≤g
        · have kt:=zdt t;have r:Hid (R=false):=no2.out m (by omega) (by rw [hg];exact t);clear yes no2 HV HU2 t cs;have GP:Hid (∀ w',PairS ba w' (.slice (some ⟨b,off,none⟩) n c) A→w'.cell? ⟨b,off+m * 2+1,none⟩=some (.int .i64 g)):=fun w' q=>by
            obtain ⟨b',off',e,-,cs⟩:=prs_here q (show m<A.length by omega)
            injection e with e;injection e with e1 e2
            subst e1;subst e2;rw [(cs m (by omega)).2,hg]
          clear hg;generalize A.getD (m+1) (0,0)=q at *;obtain ⟨x,y⟩:=q;replace HS:Hid (∀ w,Calls Tryz.prog 75 #[.agg #[.int .i64 x,.int .i64 y]] w fun e w'=>e=.returned (.bool true)∧Below w.heap.size w w'):=HS;replace kt:decide (x≤g)=true:=kt;replace c0:wr.cell? ⟨b,off+(m+1) * 2,none⟩=some (.int .i64 x):=c0;replace c1:wr.cell? ⟨b,off+(m+1) * 2+1,none⟩=some (.int .i64 y):=c1;go_wp2
          obtain ⟨w2,hw2⟩:∃ w':World,wr.alloc (.cells #[.int .i64 x,.int .i64 y] 40)=w':=⟨_,rfl⟩;rw [hw2];have A2:Below w.heap.size w w2:=by rw [← hw2];exact grow HA.out _
          have X2:Two w2 wr.heap.size (.int .i64 x) (.int .i64 y):=by rw [← hw2];exact Two.new (here _)
          have P2:PairS ba w2 (.slice (some ⟨b,off,none⟩) n c) A:=by rw [← hw2];exact HP.out.keep (grow (here _) _)
          clear hw2 HA HP c0 c1 bl;have p0:∀ x':Kept w2,x'.wd.cell? ⟨wr.heap.size,0,none⟩=some (.int .i64 x):=fun x'=>(X2.keep x'.ok).c0;have p1:∀ x':Kept w2,x'.wd.cell? ⟨wr.heap.size,1,none⟩=some (.int .i64 y):=fun x'=>(X2.keep x'.ok).c1;have p2:∀ x':Kept w2,x'.wd.cell? ⟨b,off+m * 2+1,none⟩=some (.int .i64 g):=fun x'=>GP.out _ (P2.keep x'.ok);replace A2:=zh A2;clear X2 P2;refine wp_region_kept (by kernel_rfl) (by kernel_rfl) ?_
          repeat (go_big_quiet_step ((go_at_call 75;exact kept_call _ (HS.out _))))
          refine wpQuiet_nil ?_;intro w3 hx;obtain ⟨⟨x3,hb3⟩,hw⟩:=hx;replace hw:w3=x3:=hw;subst x3;have A3:=zd A2 hb3;clear hb3 p0 p1 A2;go_wp2
          go_ret
          exact ⟨by rw [r.out];rfl,A3.out⟩
        · have kt:=zdf t;have HV2:Hid (∀ j,j+1<m+1+1→(A.getD j (0,0)).2<(A.getD (j+1) (0,0)).1):=fun j hj=>by
            rcases Nat.lt_or_ge (j+1) (m+1) with y | y
            · exact HV.out j y
            · obtain rfl:j=m:=by omega
              omega
          clear yes no2 HV t cs;have GP:Hid (∀ w',PairS ba w' (.slice (some ⟨b,off,none⟩) n c) A→w'.cell? ⟨b,off+m * 2+1,none⟩=some (.int .i64 g)):=fun w' q=>by
            obtain ⟨b',off',e,-,cs⟩:=prs_here q (show m<A.length by omega)
            injection e with e;injection e with e1 e2
            subst e1;subst e2;rw [(cs m (by omega)).2,hg]
          clear hg;generalize A.getD (m+1) (0,0)=q at c0 c1 HS kt;obtain ⟨x,y⟩:=q;replace HS:Hid (∀ w,Calls Tryz.prog 75 #[.agg #[.int .i64 x,.int .i64 y]] w fun e w'=>e=.returned (.bool true)∧Below w.heap.size w w'):=HS;replace kt:decide (x≤g)=false:=kt;replace c0:wr.cell? ⟨b,off+(m+1) * 2,none⟩=some (.int .i64 x):=c0;replace c1:wr.cell? ⟨b,off+(m+1) * 2+1,none⟩=some (.int .i64 y):=c1;go_wp2
          obtain ⟨w2,hw2⟩:∃ w':World,wr.alloc (.cells #[.int .i64 x,.int .i64 y] 40)=w':=⟨_,rfl⟩;rw [hw2];have A2:Below w.heap.size w w2:=by rw [← hw2];exact grow HA.out _
          have X2:Two w2 wr.heap.size (.int .i64 x) (.int .i64 y):=by rw [← hw2];exact Two.new (here _)
          have P2:PairS ba w2 (.slice (some ⟨b,off,none⟩) n c) A:=by rw [← hw2];exact HP.out.keep (grow (here _) _)
          clear hw2 HA HP c0 c1 bl;have p0:∀ x':Kept w2,x'.wd.cell? ⟨wr.heap.size,0,none⟩=some (.int .i64 x):=fun x'=>(X2.keep x'.ok).c0;have p1:∀ x':Kept w2,x'.wd.cell? ⟨wr.heap.size,1,none⟩=some (.int .i64 y):=fun x'=>(X2.keep x'.ok).c1;have p2:∀ x':Kept w2,x'.wd.cell? ⟨b,off+m * 2+1,none⟩=some (.int .i64 g):=fun x'=>GP.out _ (P2.keep x'.ok);replace A2:=zh A2;clear X2 P2;refine wp_region_kept (by kernel_rfl) (by kernel_rfl) ?_
          repeat (go_big_quiet_step ((go_at_call 75;exact kept_call _ (HS.out _))))
          refine wpQuiet_nil ?_;intro w3 hx;obtain ⟨⟨x3,hb3⟩,hw⟩:=hx;replace hw:w3=x3:=hw;subst x3;have A3:=zd A2 hb3;clear hb3 p0 p1 A2;go_wp2
          go_roundw
          case rel=>exact ⟨m+1+1,by omega,by go_num,HU2,HV2,A3⟩
          case measure=>simp [intOf];omega
    · have kz:decide ((k:Int)<(n:Int))=false:=zdf (by omega);obtain rfl:k=n:=by omega
      have r:Hid (R=true):=yes.out HU.out HV.out;clear yes no1 no2 HU HV HP;go_wp2
      go_ret
      exact ⟨by rw [r.out];rfl,HA.out⟩
end Go.Proofs.YtmamlgaogpkagaaGreat
