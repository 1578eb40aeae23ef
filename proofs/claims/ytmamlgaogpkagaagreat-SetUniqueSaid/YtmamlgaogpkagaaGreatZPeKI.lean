/- PeKI. -/
import Derived.Test.YtmamlgaogpkagaaGreatZLPlain
import Derived.Test.YtmamlgaogpkagaaGreatZLGen
import Derived.Test.YtmamlgaogpkagaaGreatZLSl
import Derived.Test.YtmamlgaogpkagaaGreatZPeKE
import Derived.Test.YtmamlgaogpkagaaGreatZPeLm
namespace Go.Proofs.YtmamlgaogpkagaaGreat
open Go.RowKit
set_option linter.unusedVariables false
set_option linter.unusedSimpArgs false
def prR (P Q:Int) (n m:Nat):Int × Int:=if lE P Q=0∧lR P Q≤12622780800 then (if 2000<lR P Q / P * n+lR P Q / Q * m then (0,5) else (lR P Q,0)) else (0,9)
theorem pr_facts {P Q:Int} (P1:1≤P) (P2:P≤12622780800) (Q1:1≤Q) (h:lE P Q=0):P ∣ lR P Q∧Q ∣ lR P Q∧0<lR P Q:=by
 obtain ⟨a,b,c,d⟩:=lE_ok h;rw [c];exact lcm_dvd P1 (by omega) Q1
set_option maxRecDepth 100000 in
set_option maxHeartbeats 1000000 in
theorem upcommon (va vb:Value) (P Q:Int) (A B:List Sp) (hA:A.length≤maxLen) (hB:B.length≤maxLen) (hP:I64 P) (hQ:I64 Q) {ba bb:Nat} (w:World) (a:PairS ba w va A) (b:PairS bb w vb B) :
  Calls Tryz.prog 173 #[.agg #[.int .i64 P,va],.agg #[.int .i64 Q,vb]] w fun e w'=>e=.returned (.tuple #[.int .i64 (if pvB P A&&pvB Q B then prR P Q A.length B.length else (0,1)).1,.int .i64 (if pvB P A&&pvB Q B then prR P Q A.length B.length else (0,1)).2])∧Below w.heap.size w w':=by
 have s1:=size_two w (.cells #[.int .i64 P,va] 24);have A1:=zh (grow (grow (here w) (.cells #[.int .i64 P,va] 24)) (.cells #[.int .i64 Q,vb] 24));have TA:=zh (Two.fst (here ((w.alloc (.cells #[.int .i64 P,va] 24)).alloc (.cells #[.int .i64 Q,vb] 24))));have TB:=zh (Two.snd (here ((w.alloc (.cells #[.int .i64 P,va] 24)).alloc (.cells #[.int .i64 Q,vb] 24))));have a2:=zh (a.keep A1.out);have b2:=zh (b.keep A1.out);have HV:=zh (upvalid va P A hA hP _ a2.out);have HW:=zh (fun W (h:PairS bb W vb B)=>upvalid vb Q B hB hQ W h);clear a b;obtain ⟨t0,t1,tl⟩:=TA.out;obtain ⟨u0,u1,ul⟩:=TB.out
 cases p:pvB P A
 ·rw [p] at HV;rw [Bool.false_and];clear p s1
  go_enter Tryz.func173,Tryz.ntmps173
  go_wp2_with fail
  refine HV.out.mono ?_;rintro e w3 ⟨rfl,hb⟩;have A3:=zd A1 hb;clear hb A1 HV a2 b2 HW;go_wp2
  go_ret2
  exact ⟨rfl,A3.out⟩
 ·rw [p] at HV;rw [Bool.true_and];have pv:=pv_iff.1 p
  cases q:pvB Q B
  ·rw [q] at HW;clear p s1 pv
   go_enter Tryz.func173,Tryz.ntmps173
   go_wp2_with fail
   refine HV.out.mono ?_;rintro e w3 ⟨rfl,hb⟩;have A3:=zd A1 hb;replace TA:=zh (TA.out.keep hb);replace TB:=zh (TB.out.keep hb);replace a2:=zh (a2.out.keep hb);replace b2:=zh (b2.out.keep hb);clear hb A1 HV t0 t1 tl u0 u1 ul;obtain ⟨t0,t1,tl⟩:=TA.out;obtain ⟨u0,u1,ul⟩:=TB.out;go_wp2_with fail
   refine (HW.out _ b2.out).mono ?_;rintro e w4 ⟨rfl,hb⟩;have A4:=zd A3 hb;clear hb A3 HW a2 b2 t0 t1 tl u0 u1 ul TA TB;go_wp2
   go_ret2
   exact ⟨rfl,A4.out⟩
  ·rw [q] at HW;rw [if_pos rfl];have qv:=pv_iff.1 q;have P1:=pv.p0;have P2:=pv.p1;have Q1:=qv.p0;have Q2:=qv.p1;have lA:=pv.len;have lB:=qv.len;have HL:=zh (fun W=>lcm_all P Q (by omega) (by omega) (by omega) (by omega) W);have PF:lE P Q=0→0<lR P Q:=fun h=>(pr_facts P1 P2 Q1 h).2.2;have RF:Hid (prR P Q A.length B.length=if lE P Q=0∧lR P Q≤12622780800 then (if 2000<lR P Q / P * A.length+lR P Q / Q * B.length then (0,5) else (lR P Q,0)) else (0,9)):=rfl;obtain ⟨oa,ca,rfl⟩:=prs_shape a2.out;obtain ⟨ob,cb,rfl⟩:=prs_shape b2.out;obtain ⟨n,hn⟩:∃ n,A.length=n:=⟨_,rfl⟩;obtain ⟨m,hm⟩:∃ m,B.length=m:=⟨_,rfl⟩;rw [hn,hm] at RF ⊢;rw [hn] at lA HV t1 TA TB a2 b2 t0 tl u0 u1 ul A1 s1;rw [hm] at lB HW HV t1 TA TB a2 b2 t0 tl u0 u1 ul A1;generalize lR P Q=M at *;generalize lE P Q=E at *;clear p q pv qv hA hB hn hm
   go_enter Tryz.func173,Tryz.ntmps173
   go_wp2_with fail
   refine HV.out.mono ?_;rintro e w3 ⟨rfl,hb⟩;have A3:=zd A1 hb;replace TA:=zh (TA.out.keep hb);replace TB:=zh (TB.out.keep hb);replace a2:=zh (a2.out.keep hb);replace b2:=zh (b2.out.keep hb);clear hb A1 HV t0 t1 tl u0 u1 ul;obtain ⟨t0,t1,tl⟩:=TA.out;obtain ⟨u0,u1,ul⟩:=TB.out;go_wp2_with fail
   refine (HW.out _ b2.out).mono ?_;rintro e w4 ⟨rfl,hb⟩;have A4:=zd A3 hb;replace TA:=zh (TA.out.keep hb);replace TB:=zh (TB.out.keep hb);clear hb A3 HW t0 t1 tl u0 u1 ul a2 b2;obtain ⟨t0,t1,tl⟩:=TA.out;obtain ⟨u0,u1,ul⟩:=TB.out;go_wp2_with fail
   refine (HL.out _).mono ?_;rintro e w5 ⟨rfl,d,hw5⟩;replace A4:Hid (Below w.heap.size w w5):=by show Below _ _ _;rw [hw5];exact below_drewN A4.out d
   replace TA:=zh (TA.out.drewN d);replace TB:=zh (TB.out.drewN d);rw [← hw5] at TA TB;clear hw5 t0 t1 tl u0 u1 ul;obtain ⟨t0,t1,tl⟩:=TA.out;obtain ⟨u0,u1,ul⟩:=TB.out
   by_cases e0:E=0
   ·have ke:(E != 0)=false:=by rw [e0];rfl
    by_cases mb:M≤12622780800
    ·have km:decide (12622780800<M)=false:=zdf (by omega);rw [if_pos ⟨e0,mb⟩] at RF;have M0:=PF e0;clear PF e0;have P0:¬ (P=0):=by omega
     have Q0:¬ (Q=0):=by omega
     obtain ⟨X,hX⟩:∃ X,M.tdiv P=X:=⟨_,rfl⟩;obtain ⟨Y,hY⟩:∃ Y,M.tdiv Q=Y:=⟨_,rfl⟩;have eX:M / P=X:=by rw [← hX,Int.tdiv_eq_ediv_of_nonneg (by omega)]
     have eY:M / Q=Y:=by rw [← hY,Int.tdiv_eq_ediv_of_nonneg (by omega)]
     have X0:0≤X:=by rw [← eX];exact Int.ediv_nonneg (by omega) (by omega)
     have Y0:0≤Y:=by rw [← eY];exact Int.ediv_nonneg (by omega) (by omega)
     have X1:X≤M:=by rw [← eX];exact Int.ediv_le_self _ (by omega)
     have Y1:Y≤M:=by rw [← eY];exact Int.ediv_le_self _ (by omega)
     rw [eX,eY] at RF;have xn0:0≤X * (n:Int):=Int.mul_nonneg X0 (by omega);have ym0:0≤Y * (m:Int):=Int.mul_nonneg Y0 (by omega);have xn1:X * (n:Int)≤25245561600000:=by
      have:=Int.mul_le_mul (show X≤12622780800 by omega) (show (n:Int)≤2000 by omega) (by omega) (by omega);omega
     have ym1:Y * (m:Int)≤25245561600000:=by
      have:=Int.mul_le_mul (show Y≤12622780800 by omega) (show (m:Int)≤2000 by omega) (by omega) (by omega);omega
     obtain ⟨XN,hXN⟩:∃ z,X * (n:Int)=z:=⟨_,rfl⟩;obtain ⟨YM,hYM⟩:∃ z,Y * (m:Int)=z:=⟨_,rfl⟩;rw [hXN] at xn0 xn1 RF;rw [hYM] at ym0 ym1 RF;clear eX eY
     by_cases fu:2000<XN+YM
     ·have kf:decide (2000<XN+YM)=true:=zdt fu;rw [if_pos fu] at RF;clear fu;go_wp2
      go_quiet (fail)
      have A9:=zh (below_drewN A4.out nq);go_wp2
      go_ret2
      rw [RF.out];exact ⟨rfl,A9.out⟩
     ·have kf:decide (2000<XN+YM)=false:=zdf fu;rw [if_neg fu] at RF;clear fu;go_wp2
      go_quiet (fail)
      have A9:=zh (below_drewN A4.out nq);go_wp2
      go_ret2
      rw [RF.out];exact ⟨rfl,A9.out⟩
    ·have km:decide (12622780800<M)=true:=zdt (by omega);rw [if_neg (fun z=>mb z.2)] at RF;clear PF e0 mb;go_wp2
     go_ret2
     rw [RF.out];exact ⟨rfl,A4.out⟩
   ·have ke:(E != 0)=true:=by rw [bne_iff_ne];exact e0
    rw [if_neg (fun z=>e0 z.1)] at RF;clear PF e0;go_wp2
    go_ret2
    rw [RF.out];exact ⟨rfl,A4.out⟩
end Go.Proofs.YtmamlgaogpkagaaGreat
