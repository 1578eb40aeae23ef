/- TvN. -/
import Derived.Test.YtmamlgaogpkagaaGreatZLPlain
import Derived.Test.YtmamlgaogpkagaaGreatZLGen
import Derived.Test.YtmamlgaogpkagaaGreatZLSl
import Derived.Test.YtmamlgaogpkagaaGreatZLOwn
import Derived.Test.YtmamlgaogpkagaaGreatZPeKK
import Derived.Test.YtmamlgaogpkagaaGreatZPeGD
import Derived.Test.YtmamlgaogpkagaaGreatZTsR
import Derived.Test.YtmamlgaogpkagaaGreatZTsG
import Derived.Test.YtmamlgaogpkagaaGreatZTsH
import Derived.Test.YtmamlgaogpkagaaGreatZTsA
import Derived.Test.YtmamlgaogpkagaaGreatZTsI
import Derived.Test.YtmamlgaogpkagaaGreatZTvC
import Derived.Test.YtmamlgaogpkagaaGreatZTvE
import Derived.Test.YtmamlgaogpkagaaGreatZTvF
import Derived.StillTailTactics
import Derived.BigQuiet
import Derived.Deep.QuietTactic
import Derived.Deep.RegionHeld3
import Derived.Laws.EntriesVeiled
import Derived.LoopIn
import Derived.LoopNIn
import Derived.OwnWalkIn
import Derived.RangeFuncBound
import Derived.RangeFuncNested
import Derived.Shelf.RegionOpen
namespace Go.Proofs.YtmamlgaogpkagaaGreat
open Go.RowKit
set_option linter.unusedVariables false
set_option linter.unusedSimpArgs false
def orE (e f g:Int):Int:=if e=0 then (if f=0 then g else f) else e
set_option maxRecDepth 100000 in
set_option maxHeartbeats 1000000 in
theorem tvor (e f g:Int) (b:Nat) (w:World) (hb:Bxs w b [.int .i64 e,.int .i64 f,.int .i64 g]) :
  Calls Tryz.prog 78 #[.slice (some ⟨b,0,none⟩) 3 3] w fun r w'=>r=.returned (.int .i64 (orE e f g))∧w=w':=by
 refine hb.k3 fun c0 c1 c2 bl=>?_;clear hb;have hr:Hid (∀ r,r=orE e f g→orE e f g=r):=fun r h=>h.symm;obtain ⟨r,hr⟩:∃ r,orE e f g=r:=⟨_,rfl⟩;rw [hr]
 unfold orE at hr
 replace hr:=zh hr
 go_enter Tryz.func78,Tryz.ntmps78
 go_wp2
 go_loopw [8] (fun i wr=>∃ k:Nat,k≤3∧i=.int .i64 k∧wr=w∧Hid (1≤k→e=0)∧Hid (2≤k→f=0)∧Hid (3≤k→g=0)) (fun i _=>3 - (intOf i).toNat)
 case atStart=>exact ⟨0,by omega,rfl,rfl,fun h=>by omega,fun h=>by omega,fun h=>by omega⟩
 case round =>
  obtain ⟨k,k3,rfl,rfl,h1,h2,h3⟩:=hrel;have cs:k=0∨k=1∨k=2∨k=3:=by omega
  rcases cs with rfl | rfl | rfl | rfl
  ·by_cases z:e=0
   ·have kz:(e==0)=true:=by rw [beq_iff_eq];exact z
    replace z:=zh z;go_wp2
    go_roundw
    case rel=>exact ⟨1,by omega,by first | rfl | go_num,by first | rfl | trivial,fun _=>z.out,fun h=>by omega,fun h=>by omega⟩
    case measure=>simp [intOf]
   ·have kz:(e==0)=false:=by rw [beq_eq_false_iff_ne];exact z
    have er:e=r:=by have:=hr.out;rw [if_neg z] at this;exact this
    go_wp2
    go_ret
    exact ⟨by rw [← er];rfl,rfl⟩
  ·have e0:=h1.out (by omega)
   by_cases z:f=0
   ·have kz:(f==0)=true:=by rw [beq_iff_eq];exact z
    replace z:=zh z;replace e0:=zh e0;go_wp2
    go_roundw
    case rel=>exact ⟨2,by omega,by first | rfl | go_num,by first | rfl | trivial,fun _=>e0.out,fun _=>z.out,fun h=>by omega⟩
    case measure=>simp [intOf]
   ·have kz:(f==0)=false:=by rw [beq_eq_false_iff_ne];exact z
    have er:f=r:=by have:=hr.out;rw [if_pos e0,if_neg z] at this;exact this
    replace e0:=zh e0;go_wp2
    go_ret
    exact ⟨by rw [← er];rfl,rfl⟩
  ·have e0:=h1.out (by omega);have f0:=h2.out (by omega);have er:g=r:=by have:=hr.out;rw [if_pos e0,if_pos f0] at this;exact this
   replace e0:=zh e0;replace f0:=zh f0
   by_cases z:g=0
   ·have kz:(g==0)=true:=by rw [beq_iff_eq];exact z
    replace z:=zh z;replace er:=zh er;go_wp2
    go_roundw
    case rel=>exact ⟨3,by omega,by first | rfl | go_num,by first | rfl | trivial,fun _=>e0.out,fun _=>f0.out,fun _=>z.out⟩
    case measure=>simp [intOf]
   ·have kz:(g==0)=false:=by rw [beq_eq_false_iff_ne];exact z
    go_wp2
    go_ret
    exact ⟨by rw [← er];rfl,rfl⟩
  ·have r0:r=0:=by have:=hr.out;rw [if_pos (h1.out (by omega)),if_pos (h2.out (by omega)),h3.out (by omega)] at this;exact this.symm
   replace r0:=zh r0;go_wp2
   go_ret
   exact ⟨by rw [r0.out];rfl,rfl⟩
set_option maxRecDepth 100000 in
set_option maxHeartbeats 3000000 in
theorem tvwin (s t:TS) (hs:VS s) (ht:VS t) (va vb vl ua ub ul:Value) (w:World) (h:SS3 w s va vb vl) (k:SS3 w t ua ub ul) :
  Calls Tryz.prog 144 #[.agg #[.int .i64 s.P,va,.int .i64 s.Q,vb,.int .i64 s.a,.int .i64 s.b,vl],.agg #[.int .i64 t.P,ua,.int .i64 t.Q,ub,.int .i64 t.a,.int .i64 t.b,ul]] w fun e w'=>e=.returned (.agg #[.int .i64 (wnT s t).1,.int .i64 (wnT s t).2])∧Below w.heap.size w w':=by
 obtain ⟨osa,csa,rfl⟩:=prs_shape h.a;obtain ⟨osb,csb,rfl⟩:=prs_shape h.b;obtain ⟨osl,csl,rfl⟩:=prs_shape h.l;obtain ⟨ota,cta,rfl⟩:=prs_shape k.a;obtain ⟨otb,ctb,rfl⟩:=prs_shape k.b;obtain ⟨otl,ctl,rfl⟩:=prs_shape k.l;have ax:=zh (grow (grow (grow (here w) (.cells #[.int .i64 s.P,.slice osa s.A.length csa,.int .i64 s.Q,.slice osb s.B.length csb,.int .i64 s.a,.int .i64 s.b,.slice osl s.L.length csl] 26)) (.cells #[.int .i64 t.P,.slice ota t.A.length cta,.int .i64 t.Q,.slice otb t.B.length ctb,.int .i64 t.a,.int .i64 t.b,.slice otl t.L.length ctl] 26)) (.cells #[.int .i64 0,.int .i64 0] 40));have T_0:=zh (((Bxs.new (w:=w) [.int .i64 s.P,.slice osa s.A.length csa,.int .i64 s.Q,.slice osb s.B.length csb,.int .i64 s.a,.int .i64 s.b,.slice osl s.L.length csl] 26).old (.cells #[.int .i64 t.P,.slice ota t.A.length cta,.int .i64 t.Q,.slice otb t.B.length ctb,.int .i64 t.a,.int .i64 t.b,.slice otl t.L.length ctl] 26)).old (.cells #[.int .i64 0,.int .i64 0] 40));have U_0:=zh ((Bxs.snd (w:=w) (o:=(.cells #[.int .i64 s.P,.slice osa s.A.length csa,.int .i64 s.Q,.slice osb s.B.length csb,.int .i64 s.a,.int .i64 s.b,.slice osl s.L.length csl] 26)) [.int .i64 t.P,.slice ota t.A.length cta,.int .i64 t.Q,.slice otb t.B.length ctb,.int .i64 t.a,.int .i64 t.b,.slice otl t.L.length ctl] 26).old (.cells #[.int .i64 0,.int .i64 0] 40));have R_0:=zh (Bxo.trd (w:=w) (o:=(.cells #[.int .i64 s.P,.slice osa s.A.length csa,.int .i64 s.Q,.slice osb s.B.length csb,.int .i64 s.a,.int .i64 s.b,.slice osl s.L.length csl] 26)) (o':=(.cells #[.int .i64 t.P,.slice ota t.A.length cta,.int .i64 t.Q,.slice otb t.B.length ctb,.int .i64 t.a,.int .i64 t.b,.slice otl t.L.length ctl] 26)) [.int .i64 0,.int .i64 0] 40);have S_0:=zh (h.keep ax.out);have V_0:=zh (k.keep ax.out);have gs:=hs.g.gw;have gt:=ht.g.gw;have P1:Hid (∀ W,SS3 W s (.slice osa s.A.length csa) (.slice osb s.B.length csb) (.slice osl s.L.length csl)→Calls Tryz.prog 66 #[.agg #[.int .i64 s.P,.slice osa s.A.length csa,.int .i64 s.Q,.slice osb s.B.length csb,.int .i64 s.a,.int .i64 s.b,.slice osl s.L.length csl]] W fun e w'=>e=.returned (.bool (decide (s.a=s.b∧smP s)))∧Below W.heap.size W w'):=fun W h=>tvispure s _ _ _ (by have:=gs.p.len;omega) hs.ti.a hs.ti.b W h;have P2:Hid (∀ W,SS3 W t (.slice ota t.A.length cta) (.slice otb t.B.length ctb) (.slice otl t.L.length ctl)→Calls Tryz.prog 66 #[.agg #[.int .i64 t.P,.slice ota t.A.length cta,.int .i64 t.Q,.slice otb t.B.length ctb,.int .i64 t.a,.int .i64 t.b,.slice otl t.L.length ctl]] W fun e w'=>e=.returned (.bool (decide (t.a=t.b∧smP t)))∧Below W.heap.size W w'):=fun W h=>tvispure t _ _ _ (by have:=gt.p.len;omega) ht.ti.a ht.ti.b W h;rw [← pu_same hs] at P1;rw [← pu_same ht] at P2
 unfold wnT
 clear h k hs ht gs gt
 cases p:puB s
 ·rw [p] at P1
  cases q:puB t
  ·rw [q] at P2;obtain ⟨m,hm⟩:∃ m,(if t.a<s.a then t.a else s.a)=m:=⟨_,rfl⟩;obtain ⟨n,hn⟩:∃ n,(if s.b<t.b then t.b else s.b)=n:=⟨_,rfl⟩;have em:min s.a t.a=m:=by rw [← hm];split <;> omega
   have en:max s.b t.b=n:=by rw [← hn];split <;> omega
   show Calls _ _ _ _ fun e w'=>e=.returned (.agg #[.int .i64 (if t.a<s.a then t.a else s.a),.int .i64 (if s.b<t.b then t.b else s.b)])∧Below w.heap.size w w'
   rw [hm,hn];clear p q
   go_enter Tryz.func144,Tryz.ntmps144
   refine T_0.out.k7 fun aa ab ac ad ae af ag ah=>?_;refine U_0.out.k7 fun ai aj ak al am an ao ap=>?_;go_wp2_with fail
   clear aa ab ac ad ae af ag ai aj ak al am an ao ah ap;generalize (((w.alloc (.cells #[.int .i64 s.P,.slice osa s.A.length csa,.int .i64 s.Q,.slice osb s.B.length csb,.int .i64 s.a,.int .i64 s.b,.slice osl s.L.length csl] 26)).alloc (.cells #[.int .i64 t.P,.slice ota t.A.length cta,.int .i64 t.Q,.slice otb t.B.length ctb,.int .i64 t.a,.int .i64 t.b,.slice otl t.L.length ctl] 26)).alloc (.cells #[.int .i64 0,.int .i64 0] 40))=w0 at *;refine (P1.out _ S_0.out).mono ?_;rintro e w1 ⟨rfl,hb⟩;have ay:=zd ax hb;have T_1:=zh (T_0.out.keep hb);have U_1:=zh (U_0.out.keep hb);have S_1:=zh (S_0.out.keep hb);have V_1:=zh (V_0.out.keep hb);have R_1:=zh (R_0.out.keep hb);clear hb ax T_0 U_0 S_0 V_0 R_0;refine T_1.out.k7 fun aa ab ac ad ae af ag ah=>?_;refine U_1.out.k7 fun ai aj ak al am an ao ap=>?_;go_wp2_with fail
   clear aa ab ac ad ae af ag ai aj ak al am an ao ah ap;refine (P2.out _ V_1.out).mono ?_;rintro e w2 ⟨rfl,hb⟩;have az:=zd ay hb;have T_2:=zh (T_1.out.keep hb);have U_2:=zh (U_1.out.keep hb);have S_2:=zh (S_1.out.keep hb);have V_2:=zh (V_1.out.keep hb);have R_2:=zh (R_1.out.keep hb);clear hb ay T_1 U_1 S_1 V_1 R_1;refine T_2.out.k7 fun aa ab ac ad ae af ag ah=>?_;refine U_2.out.k7 fun ai aj ak al am an ao ap=>?_;refine R_2.out.k2 fun aq ar au av aw=>?_;clear aw;go_wp2
   have FB:=R_2.out.put2 (.int .i64 m) (.int .i64 n);have AF:=below_put2 az.out (show w.heap.size≤w.heap.size+1+1 by omega) (.int .i64 m) (.int .i64 n);refine FB.k2 fun q0 q1 aw=>?_;clear aw;refine bodyPost_ret (v:=.agg #[.int .i64 m,.int .i64 n]) (by simp [results,Tryz.results144,go_sem,q0,q1]) rfl ?_;exact ⟨rfl,AF⟩
  ·rw [q] at P2
   show Calls _ _ _ _ fun e w'=>e=.returned (.agg #[.int .i64 s.a,.int .i64 s.b])∧Below w.heap.size w w'
   clear p q
   go_enter Tryz.func144,Tryz.ntmps144
   refine T_0.out.k7 fun aa ab ac ad ae af ag ah=>?_;refine U_0.out.k7 fun ai aj ak al am an ao ap=>?_;go_wp2_with fail
   clear aa ab ac ad ae af ag ai aj ak al am an ao ah ap;generalize (((w.alloc (.cells #[.int .i64 s.P,.slice osa s.A.length csa,.int .i64 s.Q,.slice osb s.B.length csb,.int .i64 s.a,.int .i64 s.b,.slice osl s.L.length csl] 26)).alloc (.cells #[.int .i64 t.P,.slice ota t.A.length cta,.int .i64 t.Q,.slice otb t.B.length ctb,.int .i64 t.a,.int .i64 t.b,.slice otl t.L.length ctl] 26)).alloc (.cells #[.int .i64 0,.int .i64 0] 40))=w0 at *;refine (P1.out _ S_0.out).mono ?_;rintro e w1 ⟨rfl,hb⟩;have ay:=zd ax hb;have T_1:=zh (T_0.out.keep hb);have U_1:=zh (U_0.out.keep hb);have S_1:=zh (S_0.out.keep hb);have V_1:=zh (V_0.out.keep hb);have R_1:=zh (R_0.out.keep hb);clear hb ax T_0 U_0 S_0 V_0 R_0;refine T_1.out.k7 fun aa ab ac ad ae af ag ah=>?_;refine U_1.out.k7 fun ai aj ak al am an ao ap=>?_;go_wp2_with fail
   clear aa ab ac ad ae af ag ai aj ak al am an ao ah ap;refine (P2.out _ V_1.out).mono ?_;rintro e w2 ⟨rfl,hb⟩;have az:=zd ay hb;have T_2:=zh (T_1.out.keep hb);have U_2:=zh (U_1.out.keep hb);have S_2:=zh (S_1.out.keep hb);have V_2:=zh (V_1.out.keep hb);have R_2:=zh (R_1.out.keep hb);clear hb ay T_1 U_1 S_1 V_1 R_1;refine T_2.out.k7 fun aa ab ac ad ae af ag ah=>?_;refine U_2.out.k7 fun ai aj ak al am an ao ap=>?_;refine R_2.out.k2 fun aq ar au av aw=>?_;clear aw;go_wp2
   have FB:=R_2.out.put2 (.int .i64 s.a) (.int .i64 s.b);have AF:=below_put2 az.out (show w.heap.size≤w.heap.size+1+1 by omega) (.int .i64 s.a) (.int .i64 s.b);refine FB.k2 fun q0 q1 aw=>?_;clear aw;refine bodyPost_ret (v:=.agg #[.int .i64 s.a,.int .i64 s.b]) (by simp [results,Tryz.results144,go_sem,q0,q1]) rfl ?_;exact ⟨rfl,AF⟩
 ·rw [p] at P1
  show Calls _ _ _ _ fun e w'=>e=.returned (.agg #[.int .i64 t.a,.int .i64 t.b])∧Below w.heap.size w w'
  clear p P2
  go_enter Tryz.func144,Tryz.ntmps144
  refine T_0.out.k7 fun aa ab ac ad ae af ag ah=>?_;refine U_0.out.k7 fun ai aj ak al am an ao ap=>?_;go_wp2_with fail
  clear aa ab ac ad ae af ag ai aj ak al am an ao ah ap;generalize (((w.alloc (.cells #[.int .i64 s.P,.slice osa s.A.length csa,.int .i64 s.Q,.slice osb s.B.length csb,.int .i64 s.a,.int .i64 s.b,.slice osl s.L.length csl] 26)).alloc (.cells #[.int .i64 t.P,.slice ota t.A.length cta,.int .i64 t.Q,.slice otb t.B.length ctb,.int .i64 t.a,.int .i64 t.b,.slice otl t.L.length ctl] 26)).alloc (.cells #[.int .i64 0,.int .i64 0] 40))=w0 at *;refine (P1.out _ S_0.out).mono ?_;rintro e w1 ⟨rfl,hb⟩;have ay:=zd ax hb;have T_1:=zh (T_0.out.keep hb);have U_1:=zh (U_0.out.keep hb);have S_1:=zh (S_0.out.keep hb);have V_1:=zh (V_0.out.keep hb);have R_1:=zh (R_0.out.keep hb);clear hb ax T_0 U_0 S_0 V_0 R_0;refine T_1.out.k7 fun aa ab ac ad ae af ag ah=>?_;refine U_1.out.k7 fun ai aj ak al am an ao ap=>?_;refine R_1.out.k2 fun aq ar au av aw=>?_;clear aw;go_wp2
  have FB:=R_1.out.put2 (.int .i64 t.a) (.int .i64 t.b);have AF:=below_put2 ay.out (show w.heap.size≤w.heap.size+1+1 by omega) (.int .i64 t.a) (.int .i64 t.b);refine FB.k2 fun q0 q1 aw=>?_;clear aw;refine bodyPost_ret (v:=.agg #[.int .i64 t.a,.int .i64 t.b]) (by simp [results,Tryz.results144,go_sem,q0,q1]) rfl ?_;exact ⟨rfl,AF⟩
set_option maxRecDepth 100000 in
set_option maxHeartbeats 2000000 in
theorem tvkp1 (a b:Bool) (w:World):Calls Tryz.prog 100 #[.bool a,.bool b] w fun e w'=>e=.returned (.bool (kpB 1 a b))∧Below w.heap.size w w':=by
 cases a <;> cases b
 all_goals
  go_enter Tryz.func100,Tryz.ntmps100
  go_wp2
  go_ret
  exact ⟨rfl,here w⟩
set_option maxRecDepth 100000 in
set_option maxHeartbeats 2000000 in
theorem tvkp3 (a b:Bool) (w:World):Calls Tryz.prog 104 #[.bool a,.bool b] w fun e w'=>e=.returned (.bool (kpB 3 a b))∧Below w.heap.size w w':=by
 cases a <;> cases b
 all_goals
  go_enter Tryz.func104,Tryz.ntmps104
  go_wp2
  go_ret
  exact ⟨rfl,here w⟩
set_option maxRecDepth 100000 in
set_option maxHeartbeats 2000000 in
theorem tvcmb1 (f1 f2:Int→Bool) (n1 n2:Int→Int) (kp:Bool→Bool→Bool) (fk:FuncId) (ek:∀ args w,(callFunc fk args).run Tryz.prog w=.ok (.enter fk args) w) (HK:∀ W a b,Calls Tryz.prog fk (#[.bool a,.bool b]++#[]) W fun e w'=>e=.returned (.bool (kp a b))∧Below W.heap.size W w')
  (va vb:Value) (b1 b2 b3:Nat) (x:Int) (hx:I64 x) (w:World) (h1:One w b1 va) (h2:One w b2 vb) (h3:One w b3 (.func (.func fk) #[] #[])) (V1:Vw w va f1 n1) (V2:Vw w vb f2 n2) :
  Calls Tryz.prog 145 #[.int .i64 x,.pointer (some ⟨b1,0,none⟩),.pointer (some ⟨b2,0,none⟩),.pointer (some ⟨b3,0,none⟩)] w fun e w'=>(∃ n,e=.returned (.tuple #[.bool (kp (f1 x) (f2 x)),.int .i64 n])∧(-1152921504606846976≤x→x≤1152921504606846976→n=mnI (n1 x) (n2 x)))∧Below w.heap.size w w':=by
 obtain ⟨g1,k1,rfl,eg1,hg1⟩:=V1;obtain ⟨g2,k2,rfl,eg2,hg2⟩:=V2;have G1:=zh (hg1 w (Far.of (here w)) x hx);have G2:=zh (fun W (hW:Below w.heap.size w W)=>hg2 W (Far.of hW) x hx);replace HK:=zh HK;have H1:=zh h1;have H2:=zh h2;have H3:=zh h3;have a0:=h1.c;have a1:=h1.lt;clear hg1 hg2 h1 h2 h3
 go_enter Tryz.func145,Tryz.ntmps145
 go_wp2_with fail
 go_at_fn g1
 refine G1.out.mono ?_;rintro e w3 ⟨⟨m1,rfl,hn1⟩,hb⟩;have A3:=zh hb;have c2:=(H2.out.keep hb).c;have c3:=(H2.out.keep hb).lt;have G3:=zh (G2.out w3 hb);replace hn1:=zh hn1;clear hb a0 a1 G1 G2 eg1;go_wp2_with fail
 go_at_fn g2
 refine G3.out.mono ?_;rintro e w4 ⟨⟨m2,rfl,hn2⟩,hb⟩;have A4:=zd A3 hb;have d2:=(H3.out.keep A4.out).c;have d3:=(H3.out.keep A4.out).lt;replace hn2:=zh hn2;clear hb c2 c3 G3 eg2 A3;have ef:(if m2<m1 then m2 else m1)=mnI m1 m2:=rfl;have em:=mn_min m1 m2;go_wp2_with fail
 refine (HK.out _ _ _).mono ?_;rintro e w5 ⟨rfl,hb⟩;have A5:=zd A4 hb;clear hb A4 d2 d3 HK H1 H2 H3;go_wp2
 go_ret2
 exact ⟨⟨_,rfl,fun h k=>by rw [hn1.out h k,hn2.out h k]⟩,A5.out⟩
def cwOps:Array Oper:=#[
 { dst:=some 57,op:=Go.Op.load 26 (Go.Operand.tmp 4),type:=26,pos := "operation.go:102",after:=#[],guard:=none },
 { dst:=some 58,op:=Go.Op.load 26 (Go.Operand.tmp 5),type:=26,pos := "operation.go:102",after:=#[],guard:=none },
 { dst:=some 59,op:=Go.Op.call { callee:=Go.Callee.value (Go.Operand.func 144),args:=#[Go.Operand.tmp 57,Go.Operand.tmp 58],argTypes:=#[26,26] },type:=40,pos := "operation.go:102",after:=#[{ on:=0,ground:=Go.Ground.data },{ on:=1,ground:=Go.Ground.data }],guard:=none },
 { dst:=some 60,op:=Go.Op.load 26 (Go.Operand.tmp 4),type:=26,pos := "operation.go:102",after:=#[],guard:=none },
 { dst:=some 61,op:=Go.Op.call { callee:=Go.Callee.value (Go.Operand.func 68),args:=#[Go.Operand.tmp 60],argTypes:=#[26] },type:=86,pos := "operation.go:102",after:=#[{ on:=3,ground:=Go.Ground.data },{ on:=2,ground:=Go.Ground.chain }],guard:=none },
 { dst:=some 62,op:=Go.Op.load 26 (Go.Operand.tmp 5),type:=26,pos := "operation.go:102",after:=#[],guard:=none },
 { dst:=some 63,op:=Go.Op.call { callee:=Go.Callee.value (Go.Operand.func 68),args:=#[Go.Operand.tmp 62],argTypes:=#[26] },type:=86,pos := "operation.go:102",after:=#[{ on:=5,ground:=Go.Ground.data },{ on:=4,ground:=Go.Ground.chain }],guard:=none },
 { dst:=some 15,op:=Go.Op.alloc 40,type:=0,pos := "operation.go:102",after:=#[],guard:=none },
 { dst:=some 16,op:=Go.Op.alloc 86,type:=0,pos := "operation.go:102",after:=#[],guard:=none },
 { dst:=some 17,op:=Go.Op.alloc 86,type:=0,pos := "operation.go:102",after:=#[],guard:=none },
 { dst:=none,op:=Go.Op.store 40 (Go.Operand.tmp 15) (Go.Operand.tmp 59),type:=0,pos := "operation.go:102",after:=#[{ on:=7,ground:=Go.Ground.data },{ on:=2,ground:=Go.Ground.data },{ on:=6,ground:=Go.Ground.chain },{ on:=0,ground:=Go.Ground.phase },{ on:=1,ground:=Go.Ground.phase },{ on:=2,ground:=Go.Ground.phase },{ on:=3,ground:=Go.Ground.textOnly Go.Departure.lateStores },{ on:=4,ground:=Go.Ground.textOnly Go.Departure.lateStoresUnsure },{ on:=5,ground:=Go.Ground.textOnly Go.Departure.lateStores },{ on:=6,ground:=Go.Ground.textOnly Go.Departure.lateStoresUnsure },{ on:=7,ground:=Go.Ground.phase },{ on:=8,ground:=Go.Ground.phase },{ on:=9,ground:=Go.Ground.phase }],guard:=none },
 { dst:=none,op:=Go.Op.store 86 (Go.Operand.tmp 16) (Go.Operand.tmp 61),type:=0,pos := "operation.go:102",after:=#[{ on:=8,ground:=Go.Ground.data },{ on:=4,ground:=Go.Ground.data },{ on:=10,ground:=Go.Ground.chain },{ on:=0,ground:=Go.Ground.phase },{ on:=1,ground:=Go.Ground.phase },{ on:=2,ground:=Go.Ground.phase },{ on:=3,ground:=Go.Ground.phase },{ on:=4,ground:=Go.Ground.phase },{ on:=5,ground:=Go.Ground.textOnly Go.Departure.lateStores },{ on:=6,ground:=Go.Ground.textOnly Go.Departure.lateStoresUnsure },{ on:=7,ground:=Go.Ground.phase },{ on:=8,ground:=Go.Ground.phase },{ on:=9,ground:=Go.Ground.phase },{ on:=10,ground:=Go.Ground.phase }],guard:=none },
 { dst:=none,op:=Go.Op.store 86 (Go.Operand.tmp 17) (Go.Operand.tmp 63),type:=0,pos := "operation.go:102",after:=#[{ on:=9,ground:=Go.Ground.data },{ on:=6,ground:=Go.Ground.data },{ on:=11,ground:=Go.Ground.chain },{ on:=0,ground:=Go.Ground.phase },{ on:=1,ground:=Go.Ground.phase },{ on:=2,ground:=Go.Ground.phase },{ on:=3,ground:=Go.Ground.phase },{ on:=4,ground:=Go.Ground.phase },{ on:=5,ground:=Go.Ground.phase },{ on:=6,ground:=Go.Ground.phase },{ on:=7,ground:=Go.Ground.phase },{ on:=8,ground:=Go.Ground.phase },{ on:=9,ground:=Go.Ground.phase },{ on:=10,ground:=Go.Ground.phase },{ on:=11,ground:=Go.Ground.phase }],guard:=none }]
theorem cwOpsq0:cwOps[0]?=some { dst:=some 57,op:=Go.Op.load 26 (Go.Operand.tmp 4),type:=26,pos := "operation.go:102",after:=#[],guard:=none }:=rfl
theorem cwOpsq1:cwOps[1]?=some { dst:=some 58,op:=Go.Op.load 26 (Go.Operand.tmp 5),type:=26,pos := "operation.go:102",after:=#[],guard:=none }:=rfl
theorem cwOpsq2:cwOps[2]?=some { dst:=some 59,op:=Go.Op.call { callee:=Go.Callee.value (Go.Operand.func 144),args:=#[Go.Operand.tmp 57,Go.Operand.tmp 58],argTypes:=#[26,26] },type:=40,pos := "operation.go:102",after:=#[{ on:=0,ground:=Go.Ground.data },{ on:=1,ground:=Go.Ground.data }],guard:=none }:=rfl
theorem cwOpsq3:cwOps[3]?=some { dst:=some 60,op:=Go.Op.load 26 (Go.Operand.tmp 4),type:=26,pos := "operation.go:102",after:=#[],guard:=none }:=rfl
theorem cwOpsq4:cwOps[4]?=some { dst:=some 61,op:=Go.Op.call { callee:=Go.Callee.value (Go.Operand.func 68),args:=#[Go.Operand.tmp 60],argTypes:=#[26] },type:=86,pos := "operation.go:102",after:=#[{ on:=3,ground:=Go.Ground.data },{ on:=2,ground:=Go.Ground.chain }],guard:=none }:=rfl
theorem cwOpsq5:cwOps[5]?=some { dst:=some 62,op:=Go.Op.load 26 (Go.Operand.tmp 5),type:=26,pos := "operation.go:102",after:=#[],guard:=none }:=rfl
theorem cwOpsq6:cwOps[6]?=some { dst:=some 63,op:=Go.Op.call { callee:=Go.Callee.value (Go.Operand.func 68),args:=#[Go.Operand.tmp 62],argTypes:=#[26] },type:=86,pos := "operation.go:102",after:=#[{ on:=5,ground:=Go.Ground.data },{ on:=4,ground:=Go.Ground.chain }],guard:=none }:=rfl
theorem cwOpsq7:cwOps[7]?=some { dst:=some 15,op:=Go.Op.alloc 40,type:=0,pos := "operation.go:102",after:=#[],guard:=none }:=rfl
theorem cwOpsq8:cwOps[8]?=some { dst:=some 16,op:=Go.Op.alloc 86,type:=0,pos := "operation.go:102",after:=#[],guard:=none }:=rfl
theorem cwOpsq9:cwOps[9]?=some { dst:=some 17,op:=Go.Op.alloc 86,type:=0,pos := "operation.go:102",after:=#[],guard:=none }:=rfl
theorem cwOpsq10:cwOps[10]?=some { dst:=none,op:=Go.Op.store 40 (Go.Operand.tmp 15) (Go.Operand.tmp 59),type:=0,pos := "operation.go:102",after:=#[{ on:=7,ground:=Go.Ground.data },{ on:=2,ground:=Go.Ground.data },{ on:=6,ground:=Go.Ground.chain },{ on:=0,ground:=Go.Ground.phase },{ on:=1,ground:=Go.Ground.phase },{ on:=2,ground:=Go.Ground.phase },{ on:=3,ground:=Go.Ground.textOnly Go.Departure.lateStores },{ on:=4,ground:=Go.Ground.textOnly Go.Departure.lateStoresUnsure },{ on:=5,ground:=Go.Ground.textOnly Go.Departure.lateStores },{ on:=6,ground:=Go.Ground.textOnly Go.Departure.lateStoresUnsure },{ on:=7,ground:=Go.Ground.phase },{ on:=8,ground:=Go.Ground.phase },{ on:=9,ground:=Go.Ground.phase }],guard:=none }:=rfl
theorem cwOpsq11:cwOps[11]?=some { dst:=none,op:=Go.Op.store 86 (Go.Operand.tmp 16) (Go.Operand.tmp 61),type:=0,pos := "operation.go:102",after:=#[{ on:=8,ground:=Go.Ground.data },{ on:=4,ground:=Go.Ground.data },{ on:=10,ground:=Go.Ground.chain },{ on:=0,ground:=Go.Ground.phase },{ on:=1,ground:=Go.Ground.phase },{ on:=2,ground:=Go.Ground.phase },{ on:=3,ground:=Go.Ground.phase },{ on:=4,ground:=Go.Ground.phase },{ on:=5,ground:=Go.Ground.textOnly Go.Departure.lateStores },{ on:=6,ground:=Go.Ground.textOnly Go.Departure.lateStoresUnsure },{ on:=7,ground:=Go.Ground.phase },{ on:=8,ground:=Go.Ground.phase },{ on:=9,ground:=Go.Ground.phase },{ on:=10,ground:=Go.Ground.phase }],guard:=none }:=rfl
theorem cwOpsq12:cwOps[12]?=some { dst:=none,op:=Go.Op.store 86 (Go.Operand.tmp 17) (Go.Operand.tmp 63),type:=0,pos := "operation.go:102",after:=#[{ on:=9,ground:=Go.Ground.data },{ on:=6,ground:=Go.Ground.data },{ on:=11,ground:=Go.Ground.chain },{ on:=0,ground:=Go.Ground.phase },{ on:=1,ground:=Go.Ground.phase },{ on:=2,ground:=Go.Ground.phase },{ on:=3,ground:=Go.Ground.phase },{ on:=4,ground:=Go.Ground.phase },{ on:=5,ground:=Go.Ground.phase },{ on:=6,ground:=Go.Ground.phase },{ on:=7,ground:=Go.Ground.phase },{ on:=8,ground:=Go.Ground.phase },{ on:=9,ground:=Go.Ground.phase },{ on:=10,ground:=Go.Ground.phase },{ on:=11,ground:=Go.Ground.phase }],guard:=none }:=rfl
set_option maxRecDepth 100000 in
set_option maxHeartbeats 4000000 in
theorem cw_region (Q:Exit→Act→World→Prop) (P Q0 a b P2 Q2 a2 b2 lo hi:Int) (va vb vl va2 vb2 vl2:Value) (b4 b5:Nat) (f1 f2:Int→Bool) (n1 n2:Int→Int) (t0 t1 t2 t3 t6 t7 t8 t9 t10 t11 t12 t13 t14 t15 t16 t17 t18 t19 t20 t21 t22 t23 t24 t25 t26 t27 t28 t29 t30 t31 t32 t33 t34 t35 t36 t37 t38 t39 t40 t41 t42 t43 t44 t45 t46 t47 t48 t49 t50 t51 t52 t53 t54 t55 t56 t57 t58 t59 t60 t61 t62 t63 t64 t65 t66 t67 t68 t69 t70 t71 t72 t73 t74 t75 t76 t77 t78 t79 t80 t81 t82 t83 t84 t85 t86 t87 t88:Value) (w w0:World) (hQ:∀ c a d v w,Q (.panic c) (Act.put a (some d) v) w→Q (.panic c) a w) (X:Nat→Prop) (lo':Nat) (hlo:lo'≤w.heap.size) (hX:∀ b,X b→lo'≤b∧b<w.heap.size) (HW:Hid (∀ W,Below w.heap.size w W→Calls Tryz.prog 144 #[.agg #[.int .i64 P,va,.int .i64 Q0,vb,.int .i64 a,.int .i64 b,vl],.agg #[.int .i64 P2,va2,.int .i64 Q2,vb2,.int .i64 a2,.int .i64 b2,vl2]] W fun e W'=>e=.returned (.agg #[.int .i64 lo,.int .i64 hi])∧Below W.heap.size W W')) (H1:Hid (∀ W,Below w.heap.size w W→∀ X:Nat→Prop,(∀ b,X b→lo'≤b∧b<W.heap.size)→Calls Tryz.prog 68 #[.agg #[.int .i64 P,va,.int .i64 Q0,vb,.int .i64 a,.int .i64 b,vl]] W fun e W'=>(∃ v',e=.returned v'∧VwX X W' v' f1 n1)∧Below W.heap.size W W')) (H2:Hid (∀ W,Below w.heap.size w W→∀ X:Nat→Prop,(∀ b,X b→lo'≤b∧b<W.heap.size)→Calls Tryz.prog 68 #[.agg #[.int .i64 P2,va2,.int .i64 Q2,vb2,.int .i64 a2,.int .i64 b2,vl2]] W fun e W'=>(∃ v',e=.returned v'∧VwX X W' v' f2 n2)∧Below W.heap.size W W')) (hS0:Below w.heap.size w w0∧w0.cell? ⟨b4,0,none⟩=some (.int .i64 P)∧w0.cell? ⟨b4,1,none⟩=some (va)∧w0.cell? ⟨b4,2,none⟩=some (.int .i64 Q0)∧w0.cell? ⟨b4,3,none⟩=some (vb)∧w0.cell? ⟨b4,4,none⟩=some (.int .i64 a)∧w0.cell? ⟨b4,5,none⟩=some (.int .i64 b)∧w0.cell? ⟨b4,6,none⟩=some (vl)∧w0.cell? ⟨b5,0,none⟩=some (.int .i64 P2)∧w0.cell? ⟨b5,1,none⟩=some (va2)∧w0.cell? ⟨b5,2,none⟩=some (.int .i64 Q2)∧w0.cell? ⟨b5,3,none⟩=some (vb2)∧w0.cell? ⟨b5,4,none⟩=some (.int .i64 a2)∧w0.cell? ⟨b5,5,none⟩=some (.int .i64 b2)∧w0.cell? ⟨b5,6,none⟩=some (vl2)∧b5<w0.heap.size) (ord:b4≤b5)
  (fin:∀ (g1:FuncId) (k1:Array Value) (g2:FuncId) (k2:Array Value) (N0b:Nat) (N1b:Nat) (N2b:Nat) (W:World),(Below w.heap.size w W∧W.cell? ⟨b4,0,none⟩=some (.int .i64 P)∧W.cell? ⟨b4,1,none⟩=some (va)∧W.cell? ⟨b4,2,none⟩=some (.int .i64 Q0)∧W.cell? ⟨b4,3,none⟩=some (vb)∧W.cell? ⟨b4,4,none⟩=some (.int .i64 a)∧W.cell? ⟨b4,5,none⟩=some (.int .i64 b)∧W.cell? ⟨b4,6,none⟩=some (vl)∧W.cell? ⟨b5,0,none⟩=some (.int .i64 P2)∧W.cell? ⟨b5,1,none⟩=some (va2)∧W.cell? ⟨b5,2,none⟩=some (.int .i64 Q2)∧W.cell? ⟨b5,3,none⟩=some (vb2)∧W.cell? ⟨b5,4,none⟩=some (.int .i64 a2)∧W.cell? ⟨b5,5,none⟩=some (.int .i64 b2)∧W.cell? ⟨b5,6,none⟩=some (vl2)∧b5<W.heap.size)→(VwX (fun b=>X b∨b=N0b∨b=N1b∨b=N2b) W (.func (.func g1) #[] k1) f1 n1)→(VwX (fun b=>X b∨b=N0b∨b=N1b∨b=N2b) W (.func (.func g2) #[] k2) f2 n2)→(Nwz w (b5) W N0b [.int .i64 0,.int .i64 0])→(Nwz w (b5) W N1b [.nilFunc])→(Nwz w (b5) W N2b [.nilFunc])→(N0b≠N1b)→(N0b≠N2b)→(N1b≠N2b)→Q .normal ⟨#[t0,t1,t2,t3,.pointer (some ⟨b4,0,none⟩),.pointer (some ⟨b5,0,none⟩),t6,t7,t8,t9,t10,t11,t12,t13,t14,(.pointer (some ⟨N0b,0,none⟩)),(.pointer (some ⟨N1b,0,none⟩)),(.pointer (some ⟨N2b,0,none⟩)),t18,t19,t20,t21,t22,t23,t24,t25,t26,t27,t28,t29,t30,t31,t32,t33,t34,t35,t36,t37,t38,t39,t40,t41,t42,t43,t44,t45,t46,t47,t48,t49,t50,t51,t52,t53,t54,t55,t56,.agg #[.int .i64 P,va,.int .i64 Q0,vb,.int .i64 a,.int .i64 b,vl],.agg #[.int .i64 P2,va2,.int .i64 Q2,vb2,.int .i64 a2,.int .i64 b2,vl2],.agg #[.int .i64 lo,.int .i64 hi],.agg #[.int .i64 P,va,.int .i64 Q0,vb,.int .i64 a,.int .i64 b,vl],.func (.func g1) #[] k1,.agg #[.int .i64 P2,va2,.int .i64 Q2,vb2,.int .i64 a2,.int .i64 b2,vl2],.func (.func g2) #[] k2,t64,t65,t66,t67,t68,t69,t70,t71,t72,t73,t74,t75,t76,t77,t78,t79,t80,t81,t82,t83,t84,t85,t86,t87,t88],[]⟩ ((((W.setCell ⟨N0b,0,none⟩ (.int .i64 lo)).setCell ⟨N0b,1,none⟩ (.int .i64 hi)).setCell ⟨N1b,0,none⟩ (.func (.func g1) #[] k1)).setCell ⟨N2b,0,none⟩ (.func (.func g2) #[] k2))) :
  (Code.region 8 cwOps true).wp Tryz.prog Q ⟨#[t0,t1,t2,t3,.pointer (some ⟨b4,0,none⟩),.pointer (some ⟨b5,0,none⟩),t6,t7,t8,t9,t10,t11,t12,t13,t14,t15,t16,t17,t18,t19,t20,t21,t22,t23,t24,t25,t26,t27,t28,t29,t30,t31,t32,t33,t34,t35,t36,t37,t38,t39,t40,t41,t42,t43,t44,t45,t46,t47,t48,t49,t50,t51,t52,t53,t54,t55,t56,t57,t58,t59,t60,t61,t62,t63,t64,t65,t66,t67,t68,t69,t70,t71,t72,t73,t74,t75,t76,t77,t78,t79,t80,t81,t82,t83,t84,t85,t86,t87,t88],[]⟩ w0:=by
 have mk:∀ W W':World,(fun W'=>Below w.heap.size w W'∧W'.cell? ⟨b4,0,none⟩=some (.int .i64 P)∧W'.cell? ⟨b4,1,none⟩=some (va)∧W'.cell? ⟨b4,2,none⟩=some (.int .i64 Q0)∧W'.cell? ⟨b4,3,none⟩=some (vb)∧W'.cell? ⟨b4,4,none⟩=some (.int .i64 a)∧W'.cell? ⟨b4,5,none⟩=some (.int .i64 b)∧W'.cell? ⟨b4,6,none⟩=some (vl)∧W'.cell? ⟨b5,0,none⟩=some (.int .i64 P2)∧W'.cell? ⟨b5,1,none⟩=some (va2)∧W'.cell? ⟨b5,2,none⟩=some (.int .i64 Q2)∧W'.cell? ⟨b5,3,none⟩=some (vb2)∧W'.cell? ⟨b5,4,none⟩=some (.int .i64 a2)∧W'.cell? ⟨b5,5,none⟩=some (.int .i64 b2)∧W'.cell? ⟨b5,6,none⟩=some (vl2)∧b5<W'.heap.size) W→Below W.heap.size W W'→(fun W'=>Below w.heap.size w W'∧W'.cell? ⟨b4,0,none⟩=some (.int .i64 P)∧W'.cell? ⟨b4,1,none⟩=some (va)∧W'.cell? ⟨b4,2,none⟩=some (.int .i64 Q0)∧W'.cell? ⟨b4,3,none⟩=some (vb)∧W'.cell? ⟨b4,4,none⟩=some (.int .i64 a)∧W'.cell? ⟨b4,5,none⟩=some (.int .i64 b)∧W'.cell? ⟨b4,6,none⟩=some (vl)∧W'.cell? ⟨b5,0,none⟩=some (.int .i64 P2)∧W'.cell? ⟨b5,1,none⟩=some (va2)∧W'.cell? ⟨b5,2,none⟩=some (.int .i64 Q2)∧W'.cell? ⟨b5,3,none⟩=some (vb2)∧W'.cell? ⟨b5,4,none⟩=some (.int .i64 a2)∧W'.cell? ⟨b5,5,none⟩=some (.int .i64 b2)∧W'.cell? ⟨b5,6,none⟩=some (vl2)∧b5<W'.heap.size) W':=fun W W' ⟨kb,k0_0,k0_1,k0_2,k0_3,k0_4,k0_5,k0_6,k1_0,k1_1,k1_2,k1_3,k1_4,k1_5,k1_6,kl⟩ hb=>⟨down kb hb,(hb.cell (p:=⟨b4,0,none⟩) (by show b4<_;omega)).trans k0_0,(hb.cell (p:=⟨b4,1,none⟩) (by show b4<_;omega)).trans k0_1,(hb.cell (p:=⟨b4,2,none⟩) (by show b4<_;omega)).trans k0_2,(hb.cell (p:=⟨b4,3,none⟩) (by show b4<_;omega)).trans k0_3,(hb.cell (p:=⟨b4,4,none⟩) (by show b4<_;omega)).trans k0_4,(hb.cell (p:=⟨b4,5,none⟩) (by show b4<_;omega)).trans k0_5,(hb.cell (p:=⟨b4,6,none⟩) (by show b4<_;omega)).trans k0_6,(hb.cell (p:=⟨b5,0,none⟩) (by show b5<_;omega)).trans k1_0,(hb.cell (p:=⟨b5,1,none⟩) (by show b5<_;omega)).trans k1_1,(hb.cell (p:=⟨b5,2,none⟩) (by show b5<_;omega)).trans k1_2,(hb.cell (p:=⟨b5,3,none⟩) (by show b5<_;omega)).trans k1_3,(hb.cell (p:=⟨b5,4,none⟩) (by show b5<_;omega)).trans k1_4,(hb.cell (p:=⟨b5,5,none⟩) (by show b5<_;omega)).trans k1_5,(hb.cell (p:=⟨b5,6,none⟩) (by show b5<_;omega)).trans k1_6,zll kl hb.size⟩;replace fin:=zh fin;replace mk:=zh mk;obtain ⟨zS,zSe⟩:∃ zS:World→Prop,zS=(fun W'=>Below w.heap.size w W'∧W'.cell? ⟨b4,0,none⟩=some (.int .i64 P)∧W'.cell? ⟨b4,1,none⟩=some (va)∧W'.cell? ⟨b4,2,none⟩=some (.int .i64 Q0)∧W'.cell? ⟨b4,3,none⟩=some (vb)∧W'.cell? ⟨b4,4,none⟩=some (.int .i64 a)∧W'.cell? ⟨b4,5,none⟩=some (.int .i64 b)∧W'.cell? ⟨b4,6,none⟩=some (vl)∧W'.cell? ⟨b5,0,none⟩=some (.int .i64 P2)∧W'.cell? ⟨b5,1,none⟩=some (va2)∧W'.cell? ⟨b5,2,none⟩=some (.int .i64 Q2)∧W'.cell? ⟨b5,3,none⟩=some (vb2)∧W'.cell? ⟨b5,4,none⟩=some (.int .i64 a2)∧W'.cell? ⟨b5,5,none⟩=some (.int .i64 b2)∧W'.cell? ⟨b5,6,none⟩=some (vl2)∧b5<W'.heap.size):=⟨_,rfl⟩
 obtain ⟨zT,zTe⟩:∃ zT:Value→Value→Value→Value→Value→Value→Act,zT=fun zx59 zx61 zx63 zx15 zx16 zx17=>⟨#[t0,t1,t2,t3,.pointer (some ⟨b4,0,none⟩),.pointer (some ⟨b5,0,none⟩),t6,t7,t8,t9,t10,t11,t12,t13,t14,zx15,zx16,zx17,t18,t19,t20,t21,t22,t23,t24,t25,t26,t27,t28,t29,t30,t31,t32,t33,t34,t35,t36,t37,t38,t39,t40,t41,t42,t43,t44,t45,t46,t47,t48,t49,t50,t51,t52,t53,t54,t55,t56,.agg #[.int .i64 P,va,.int .i64 Q0,vb,.int .i64 a,.int .i64 b,vl],.agg #[.int .i64 P2,va2,.int .i64 Q2,vb2,.int .i64 a2,.int .i64 b2,vl2],zx59,.agg #[.int .i64 P,va,.int .i64 Q0,vb,.int .i64 a,.int .i64 b,vl],zx61,.agg #[.int .i64 P2,va2,.int .i64 Q2,vb2,.int .i64 a2,.int .i64 b2,vl2],zx63,t64,t65,t66,t67,t68,t69,t70,t71,t72,t73,t74,t75,t76,t77,t78,t79,t80,t81,t82,t83,t84,t85,t86,t87,t88],[]⟩:=⟨_,rfl⟩;have hF:∀ (g1:FuncId) (k1:Array Value) (g2:FuncId) (k2:Array Value) (N0b:Nat) (N1b:Nat) (N2b:Nat) (W:World),zS W→(VwX (fun b=>X b∨b=N0b∨b=N1b∨b=N2b) W (.func (.func g1) #[] k1) f1 n1)→(VwX (fun b=>X b∨b=N0b∨b=N1b∨b=N2b) W (.func (.func g2) #[] k2) f2 n2)→(Nwz w (b5) W N0b [.int .i64 0,.int .i64 0])→(Nwz w (b5) W N1b [.nilFunc])→(Nwz w (b5) W N2b [.nilFunc])→(N0b≠N1b)→(N0b≠N2b)→(N1b≠N2b)→wpAnyH Tryz.prog .any cwOps Q zS 3 #[true,true,true,true,true,true,true,true,true,true,false,false,false] ⟨#[t0,t1,t2,t3,.pointer (some ⟨b4,0,none⟩),.pointer (some ⟨b5,0,none⟩),t6,t7,t8,t9,t10,t11,t12,t13,t14,(.pointer (some ⟨N0b,0,none⟩)),(.pointer (some ⟨N1b,0,none⟩)),(.pointer (some ⟨N2b,0,none⟩)),t18,t19,t20,t21,t22,t23,t24,t25,t26,t27,t28,t29,t30,t31,t32,t33,t34,t35,t36,t37,t38,t39,t40,t41,t42,t43,t44,t45,t46,t47,t48,t49,t50,t51,t52,t53,t54,t55,t56,.agg #[.int .i64 P,va,.int .i64 Q0,vb,.int .i64 a,.int .i64 b,vl],.agg #[.int .i64 P2,va2,.int .i64 Q2,vb2,.int .i64 a2,.int .i64 b2,vl2],.agg #[.int .i64 lo,.int .i64 hi],.agg #[.int .i64 P,va,.int .i64 Q0,vb,.int .i64 a,.int .i64 b,vl],.func (.func g1) #[] k1,.agg #[.int .i64 P2,va2,.int .i64 Q2,vb2,.int .i64 a2,.int .i64 b2,vl2],.func (.func g2) #[] k2,t64,t65,t66,t67,t68,t69,t70,t71,t72,t73,t74,t75,t76,t77,t78,t79,t80,t81,t82,t83,t84,t85,t86,t87,t88],[]⟩ W:=by
  subst_vars
  intro g1 k1 g2 k2 N0b N1b N2b W hS V1 V2 N0 N1 N2 D01 D02 D12;refine wpAnyH_ready (rs:=[10]) (by kernel_rfl) (by simp) ?_;refine AllReadyH.cons cwOpsq10 (fun K hK=>?_) AllReadyH.nil;have e0_0:W.cell? ⟨N0b,0,none⟩=some (.int .i64 0):=by
   exact N0.o.t.c 0 _ rfl
  have f0_0:W.frozen? ⟨N0b,0,none⟩=false:=by
   exact N0.o.f 0
  have e0_1:W.cell? ⟨N0b,1,none⟩=some (.int .i64 0):=by
   exact N0.o.t.c 1 _ rfl
  have f0_1:W.frozen? ⟨N0b,1,none⟩=false:=by
   exact N0.o.f 1
  go_simp;have hS0x:(fun W'=>Below w.heap.size w W'∧W'.cell? ⟨b4,0,none⟩=some (.int .i64 P)∧W'.cell? ⟨b4,1,none⟩=some (va)∧W'.cell? ⟨b4,2,none⟩=some (.int .i64 Q0)∧W'.cell? ⟨b4,3,none⟩=some (vb)∧W'.cell? ⟨b4,4,none⟩=some (.int .i64 a)∧W'.cell? ⟨b4,5,none⟩=some (.int .i64 b)∧W'.cell? ⟨b4,6,none⟩=some (vl)∧W'.cell? ⟨b5,0,none⟩=some (.int .i64 P2)∧W'.cell? ⟨b5,1,none⟩=some (va2)∧W'.cell? ⟨b5,2,none⟩=some (.int .i64 Q2)∧W'.cell? ⟨b5,3,none⟩=some (vb2)∧W'.cell? ⟨b5,4,none⟩=some (.int .i64 a2)∧W'.cell? ⟨b5,5,none⟩=some (.int .i64 b2)∧W'.cell? ⟨b5,6,none⟩=some (vl2)∧b5<W'.heap.size) ((W.setCell ⟨N0b,0,none⟩ (.int .i64 lo)).setCell ⟨N0b,1,none⟩ (.int .i64 hi)):=by
   obtain ⟨kb,k0_0,k0_1,k0_2,k0_3,k0_4,k0_5,k0_6,k1_0,k1_1,k1_2,k1_3,k1_4,k1_5,k1_6,kl⟩:=hS;refine ⟨((kb.setCell (p:=⟨N0b,0,none⟩) N0.le _).setCell (p:=⟨N0b,1,none⟩) N0.le _),?_,?_,?_,?_,?_,?_,?_,?_,?_,?_,?_,?_,?_,?_,by rw [size_set,size_set];exact kl⟩
   ·rw [zco (h:=zad (by have:=N0.ge;omega)),zco (h:=zad (by have:=N0.ge;omega))];exact k0_0
   ·rw [zco (h:=zad (by have:=N0.ge;omega)),zco (h:=zad (by have:=N0.ge;omega))];exact k0_1
   ·rw [zco (h:=zad (by have:=N0.ge;omega)),zco (h:=zad (by have:=N0.ge;omega))];exact k0_2
   ·rw [zco (h:=zad (by have:=N0.ge;omega)),zco (h:=zad (by have:=N0.ge;omega))];exact k0_3
   ·rw [zco (h:=zad (by have:=N0.ge;omega)),zco (h:=zad (by have:=N0.ge;omega))];exact k0_4
   ·rw [zco (h:=zad (by have:=N0.ge;omega)),zco (h:=zad (by have:=N0.ge;omega))];exact k0_5
   ·rw [zco (h:=zad (by have:=N0.ge;omega)),zco (h:=zad (by have:=N0.ge;omega))];exact k0_6
   ·rw [zco (h:=zad (by have:=N0.ge;omega)),zco (h:=zad (by have:=N0.ge;omega))];exact k1_0
   ·rw [zco (h:=zad (by have:=N0.ge;omega)),zco (h:=zad (by have:=N0.ge;omega))];exact k1_1
   ·rw [zco (h:=zad (by have:=N0.ge;omega)),zco (h:=zad (by have:=N0.ge;omega))];exact k1_2
   ·rw [zco (h:=zad (by have:=N0.ge;omega)),zco (h:=zad (by have:=N0.ge;omega))];exact k1_3
   ·rw [zco (h:=zad (by have:=N0.ge;omega)),zco (h:=zad (by have:=N0.ge;omega))];exact k1_4
   ·rw [zco (h:=zad (by have:=N0.ge;omega)),zco (h:=zad (by have:=N0.ge;omega))];exact k1_5
   ·rw [zco (h:=zad (by have:=N0.ge;omega)),zco (h:=zad (by have:=N0.ge;omega))];exact k1_6
  refine hK.out _ _ hS0x (fun _=>?_);clear hK K;(try simp only [Act.put,zls,zl0,zl1]);refine wpAnyH_ready (rs:=[11]) (by kernel_rfl) (by simp) ?_;refine AllReadyH.cons cwOpsq11 (fun K hK=>?_) AllReadyH.nil;have e1_0:((W.setCell ⟨N0b,0,none⟩ (.int .i64 lo)).setCell ⟨N0b,1,none⟩ (.int .i64 hi)).cell? ⟨N1b,0,none⟩=some (.nilFunc):=by
   rw [zco (h:=zad (by first | exact D01 | exact Ne.symm D01))];rw [zco (h:=zad (by first | exact D01 | exact Ne.symm D01))];exact N1.o.t.c 0 _ rfl
  have f1_0:((W.setCell ⟨N0b,0,none⟩ (.int .i64 lo)).setCell ⟨N0b,1,none⟩ (.int .i64 hi)).frozen? ⟨N1b,0,none⟩=false:=by
   rw [World.frozen?_setCell,World.frozen?_setCell];exact N1.o.f 0
  go_simp;have hS1x:(fun W'=>Below w.heap.size w W'∧W'.cell? ⟨b4,0,none⟩=some (.int .i64 P)∧W'.cell? ⟨b4,1,none⟩=some (va)∧W'.cell? ⟨b4,2,none⟩=some (.int .i64 Q0)∧W'.cell? ⟨b4,3,none⟩=some (vb)∧W'.cell? ⟨b4,4,none⟩=some (.int .i64 a)∧W'.cell? ⟨b4,5,none⟩=some (.int .i64 b)∧W'.cell? ⟨b4,6,none⟩=some (vl)∧W'.cell? ⟨b5,0,none⟩=some (.int .i64 P2)∧W'.cell? ⟨b5,1,none⟩=some (va2)∧W'.cell? ⟨b5,2,none⟩=some (.int .i64 Q2)∧W'.cell? ⟨b5,3,none⟩=some (vb2)∧W'.cell? ⟨b5,4,none⟩=some (.int .i64 a2)∧W'.cell? ⟨b5,5,none⟩=some (.int .i64 b2)∧W'.cell? ⟨b5,6,none⟩=some (vl2)∧b5<W'.heap.size) (((W.setCell ⟨N0b,0,none⟩ (.int .i64 lo)).setCell ⟨N0b,1,none⟩ (.int .i64 hi)).setCell ⟨N1b,0,none⟩ (.func (.func g1) #[] k1)):=by
   obtain ⟨kb,k0_0,k0_1,k0_2,k0_3,k0_4,k0_5,k0_6,k1_0,k1_1,k1_2,k1_3,k1_4,k1_5,k1_6,kl⟩:=hS;refine ⟨(((kb.setCell (p:=⟨N0b,0,none⟩) N0.le _).setCell (p:=⟨N0b,1,none⟩) N0.le _).setCell (p:=⟨N1b,0,none⟩) N1.le _),?_,?_,?_,?_,?_,?_,?_,?_,?_,?_,?_,?_,?_,?_,by rw [size_set,size_set,size_set];exact kl⟩
   ·rw [zco (h:=zad (by have:=N1.ge;omega)),zco (h:=zad (by have:=N0.ge;omega)),zco (h:=zad (by have:=N0.ge;omega))];exact k0_0
   ·rw [zco (h:=zad (by have:=N1.ge;omega)),zco (h:=zad (by have:=N0.ge;omega)),zco (h:=zad (by have:=N0.ge;omega))];exact k0_1
   ·rw [zco (h:=zad (by have:=N1.ge;omega)),zco (h:=zad (by have:=N0.ge;omega)),zco (h:=zad (by have:=N0.ge;omega))];exact k0_2
   ·rw [zco (h:=zad (by have:=N1.ge;omega)),zco (h:=zad (by have:=N0.ge;omega)),zco (h:=zad (by have:=N0.ge;omega))];exact k0_3
   ·rw [zco (h:=zad (by have:=N1.ge;omega)),zco (h:=zad (by have:=N0.ge;omega)),zco (h:=zad (by have:=N0.ge;omega))];exact k0_4
   ·rw [zco (h:=zad (by have:=N1.ge;omega)),zco (h:=zad (by have:=N0.ge;omega)),zco (h:=zad (by have:=N0.ge;omega))];exact k0_5
   ·rw [zco (h:=zad (by have:=N1.ge;omega)),zco (h:=zad (by have:=N0.ge;omega)),zco (h:=zad (by have:=N0.ge;omega))];exact k0_6
   ·rw [zco (h:=zad (by have:=N1.ge;omega)),zco (h:=zad (by have:=N0.ge;omega)),zco (h:=zad (by have:=N0.ge;omega))];exact k1_0
   ·rw [zco (h:=zad (by have:=N1.ge;omega)),zco (h:=zad (by have:=N0.ge;omega)),zco (h:=zad (by have:=N0.ge;omega))];exact k1_1
   ·rw [zco (h:=zad (by have:=N1.ge;omega)),zco (h:=zad (by have:=N0.ge;omega)),zco (h:=zad (by have:=N0.ge;omega))];exact k1_2
   ·rw [zco (h:=zad (by have:=N1.ge;omega)),zco (h:=zad (by have:=N0.ge;omega)),zco (h:=zad (by have:=N0.ge;omega))];exact k1_3
   ·rw [zco (h:=zad (by have:=N1.ge;omega)),zco (h:=zad (by have:=N0.ge;omega)),zco (h:=zad (by have:=N0.ge;omega))];exact k1_4
   ·rw [zco (h:=zad (by have:=N1.ge;omega)),zco (h:=zad (by have:=N0.ge;omega)),zco (h:=zad (by have:=N0.ge;omega))];exact k1_5
   ·rw [zco (h:=zad (by have:=N1.ge;omega)),zco (h:=zad (by have:=N0.ge;omega)),zco (h:=zad (by have:=N0.ge;omega))];exact k1_6
  refine hK.out _ _ hS1x (fun _=>?_);clear hK K;(try simp only [Act.put,zls,zl0,zl1]);refine wpAnyH_ready (rs:=[12]) (by kernel_rfl) (by simp) ?_;refine AllReadyH.cons cwOpsq12 (fun K hK=>?_) AllReadyH.nil;have e2_0:(((W.setCell ⟨N0b,0,none⟩ (.int .i64 lo)).setCell ⟨N0b,1,none⟩ (.int .i64 hi)).setCell ⟨N1b,0,none⟩ (.func (.func g1) #[] k1)).cell? ⟨N2b,0,none⟩=some (.nilFunc):=by
   rw [zco (h:=zad (by first | exact D12 | exact Ne.symm D12))];rw [zco (h:=zad (by first | exact D02 | exact Ne.symm D02))];rw [zco (h:=zad (by first | exact D02 | exact Ne.symm D02))];exact N2.o.t.c 0 _ rfl
  have f2_0:(((W.setCell ⟨N0b,0,none⟩ (.int .i64 lo)).setCell ⟨N0b,1,none⟩ (.int .i64 hi)).setCell ⟨N1b,0,none⟩ (.func (.func g1) #[] k1)).frozen? ⟨N2b,0,none⟩=false:=by
   rw [World.frozen?_setCell,World.frozen?_setCell,World.frozen?_setCell];exact N2.o.f 0
  go_simp;have hS2x:(fun W'=>Below w.heap.size w W'∧W'.cell? ⟨b4,0,none⟩=some (.int .i64 P)∧W'.cell? ⟨b4,1,none⟩=some (va)∧W'.cell? ⟨b4,2,none⟩=some (.int .i64 Q0)∧W'.cell? ⟨b4,3,none⟩=some (vb)∧W'.cell? ⟨b4,4,none⟩=some (.int .i64 a)∧W'.cell? ⟨b4,5,none⟩=some (.int .i64 b)∧W'.cell? ⟨b4,6,none⟩=some (vl)∧W'.cell? ⟨b5,0,none⟩=some (.int .i64 P2)∧W'.cell? ⟨b5,1,none⟩=some (va2)∧W'.cell? ⟨b5,2,none⟩=some (.int .i64 Q2)∧W'.cell? ⟨b5,3,none⟩=some (vb2)∧W'.cell? ⟨b5,4,none⟩=some (.int .i64 a2)∧W'.cell? ⟨b5,5,none⟩=some (.int .i64 b2)∧W'.cell? ⟨b5,6,none⟩=some (vl2)∧b5<W'.heap.size) ((((W.setCell ⟨N0b,0,none⟩ (.int .i64 lo)).setCell ⟨N0b,1,none⟩ (.int .i64 hi)).setCell ⟨N1b,0,none⟩ (.func (.func g1) #[] k1)).setCell ⟨N2b,0,none⟩ (.func (.func g2) #[] k2)):=by
   obtain ⟨kb,k0_0,k0_1,k0_2,k0_3,k0_4,k0_5,k0_6,k1_0,k1_1,k1_2,k1_3,k1_4,k1_5,k1_6,kl⟩:=hS;refine ⟨((((kb.setCell (p:=⟨N0b,0,none⟩) N0.le _).setCell (p:=⟨N0b,1,none⟩) N0.le _).setCell (p:=⟨N1b,0,none⟩) N1.le _).setCell (p:=⟨N2b,0,none⟩) N2.le _),?_,?_,?_,?_,?_,?_,?_,?_,?_,?_,?_,?_,?_,?_,by rw [size_set,size_set,size_set,size_set];exact kl⟩
   ·rw [zco (h:=zad (by have:=N2.ge;omega)),zco (h:=zad (by have:=N1.ge;omega)),zco (h:=zad (by have:=N0.ge;omega)),zco (h:=zad (by have:=N0.ge;omega))];exact k0_0
   ·rw [zco (h:=zad (by have:=N2.ge;omega)),zco (h:=zad (by have:=N1.ge;omega)),zco (h:=zad (by have:=N0.ge;omega)),zco (h:=zad (by have:=N0.ge;omega))];exact k0_1
   ·rw [zco (h:=zad (by have:=N2.ge;omega)),zco (h:=zad (by have:=N1.ge;omega)),zco (h:=zad (by have:=N0.ge;omega)),zco (h:=zad (by have:=N0.ge;omega))];exact k0_2
   ·rw [zco (h:=zad (by have:=N2.ge;omega)),zco (h:=zad (by have:=N1.ge;omega)),zco (h:=zad (by have:=N0.ge;omega)),zco (h:=zad (by have:=N0.ge;omega))];exact k0_3
   ·rw [zco (h:=zad (by have:=N2.ge;omega)),zco (h:=zad (by have:=N1.ge;omega)),zco (h:=zad (by have:=N0.ge;omega)),zco (h:=zad (by have:=N0.ge;omega))];exact k0_4
   ·rw [zco (h:=zad (by have:=N2.ge;omega)),zco (h:=zad (by have:=N1.ge;omega)),zco (h:=zad (by have:=N0.ge;omega)),zco (h:=zad (by have:=N0.ge;omega))];exact k0_5
   ·rw [zco (h:=zad (by have:=N2.ge;omega)),zco (h:=zad (by have:=N1.ge;omega)),zco (h:=zad (by have:=N0.ge;omega)),zco (h:=zad (by have:=N0.ge;omega))];exact k0_6
   ·rw [zco (h:=zad (by have:=N2.ge;omega)),zco (h:=zad (by have:=N1.ge;omega)),zco (h:=zad (by have:=N0.ge;omega)),zco (h:=zad (by have:=N0.ge;omega))];exact k1_0
   ·rw [zco (h:=zad (by have:=N2.ge;omega)),zco (h:=zad (by have:=N1.ge;omega)),zco (h:=zad (by have:=N0.ge;omega)),zco (h:=zad (by have:=N0.ge;omega))];exact k1_1
   ·rw [zco (h:=zad (by have:=N2.ge;omega)),zco (h:=zad (by have:=N1.ge;omega)),zco (h:=zad (by have:=N0.ge;omega)),zco (h:=zad (by have:=N0.ge;omega))];exact k1_2
   ·rw [zco (h:=zad (by have:=N2.ge;omega)),zco (h:=zad (by have:=N1.ge;omega)),zco (h:=zad (by have:=N0.ge;omega)),zco (h:=zad (by have:=N0.ge;omega))];exact k1_3
   ·rw [zco (h:=zad (by have:=N2.ge;omega)),zco (h:=zad (by have:=N1.ge;omega)),zco (h:=zad (by have:=N0.ge;omega)),zco (h:=zad (by have:=N0.ge;omega))];exact k1_4
   ·rw [zco (h:=zad (by have:=N2.ge;omega)),zco (h:=zad (by have:=N1.ge;omega)),zco (h:=zad (by have:=N0.ge;omega)),zco (h:=zad (by have:=N0.ge;omega))];exact k1_5
   ·rw [zco (h:=zad (by have:=N2.ge;omega)),zco (h:=zad (by have:=N1.ge;omega)),zco (h:=zad (by have:=N0.ge;omega)),zco (h:=zad (by have:=N0.ge;omega))];exact k1_6
  refine hK.out _ _ hS2x (fun _=>?_);clear hK K;(try simp only [Act.put,zls,zl0,zl1]);refine wpAnyH_done (by kernel_rfl) ?_ _;exact fin.out g1 k1 g2 k2 N0b N1b N2b W hS V1 V2 N0 N1 N2 D01 D02 D12
 replace hF:=zh hF;have h3:∀ (n:Nat) ⦃g1:FuncId⦄ ⦃k1:Array Value⦄ ⦃g2:FuncId⦄ ⦃k2:Array Value⦄ ⦃p0 p1 p2:Option Nat⦄ ⦃W:World⦄,(n=3+zc p0+zc p1+zc p2)→(zS W)→(Lgn w (b5) W [p0,p1,p2] [[.int .i64 0,.int .i64 0],[.nilFunc],[.nilFunc]])→(VwX (XPo X [p0,p1,p2]) W (.func (.func g1) #[] k1) f1 n1)→(VwX (XPo X [p0,p1,p2]) W (.func (.func g2) #[] k2) f2 n2)→wpAnyH Tryz.prog .any cwOps Q zS n #[true,true,true,true,true,true,true,p0.isSome,p1.isSome,p2.isSome,false,false,false] (zT (.agg #[.int .i64 lo,.int .i64 hi]) (.func (.func g1) #[] k1) (.func (.func g2) #[] k2) (zO t15 p0) (zO t16 p1) (zO t17 p2)) W:=by
  subst_vars
  intro n;refine Nat.strongRecOn n (fun n ih=>?_);replace ih:=zh ih;intro g1 k1 g2 k2 p0 p1 p2 W e hS G V1 V2;obtain ⟨rs,hrs⟩:∃ rs:List Nat,rs=zR 7 p0++zR 8 p1++zR 9 p2:=⟨_,rfl⟩
  rcases p0 with _ | N0b <;> rcases p1 with _ | N1b <;> rcases p2 with _ | N2b
  all_goals (simp only [zc,Nat.reduceAdd] at e;subst e;dsimp only [zO,Option.isSome];dsimp only [zR,List.cons_append,List.nil_append,List.append_nil] at hrs)
  all_goals try (have g0:=N0b;have g1:=N1b;have g2:=N2b;clear g0 g1 g2;exact hF.out _ _ _ _ N0b N1b N2b W hS (V1.more (by rintro b (c | c | c | c);exact Or.inl (Or.inl c);exact Or.inl (Or.inr ⟨0,by rw [c];rfl⟩);exact Or.inl (Or.inr ⟨1,by rw [c];rfl⟩);exact Or.inl (Or.inr ⟨2,by rw [c];rfl⟩))) (V2.more (by rintro b (c | c | c | c);exact Or.inl (Or.inl c);exact Or.inl (Or.inr ⟨0,by rw [c];rfl⟩);exact Or.inl (Or.inr ⟨1,by rw [c];rfl⟩);exact Or.inl (Or.inr ⟨2,by rw [c];rfl⟩))) (G.f 0 _ rfl) (G.f 1 _ rfl) (G.f 2 _ rfl) (fun e=>by have:=G.d 0 1 N0b rfl (by rw [e];rfl);omega) (fun e=>by have:=G.d 0 2 N0b rfl (by rw [e];rfl);omega) (fun e=>by have:=G.d 1 2 N1b rfl (by rw [e];rfl);omega))
  all_goals (refine wpAnyH_ready (rs:=rs) (by subst hrs;kernel_rfl) (by subst hrs;simp) ?_;subst hrs)
  all_goals try ((fail_if_success have g9:=N0b);refine AllReadyH.cons cwOpsq7 (fun K hK=>by
                        go_simp;have gb:=grow (here W) (.cells #[.int .i64 0,.int .i64 0] 40);refine hK.out _ _ (mk.out _ _ hS gb) (fun hS'=>?_);(try simp only [Act.put,zls,zl0,zl1]);have q9:=ih.out _ (Nat.lt_succ_self _) (by rfl) hS' (G.n hS.1 hS.2.2.2.2.2.2.2.2.2.2.2.2.2.2.2 0 40) (V1.xn 0 (.cells #[.int .i64 0,.int .i64 0] 40)) (V2.xn 0 (.cells #[.int .i64 0,.int .i64 0] 40))
                        dsimp only [zO,Option.isSome] at q9
                        exact q9) ?_)
  all_goals try ((fail_if_success have g9:=N1b);refine AllReadyH.cons cwOpsq8 (fun K hK=>by
                        go_simp;have gb:=grow (here W) (.cells #[.nilFunc] 86);refine hK.out _ _ (mk.out _ _ hS gb) (fun hS'=>?_);(try simp only [Act.put,zls,zl0,zl1]);have q9:=ih.out _ (Nat.lt_succ_self _) (by rfl) hS' (G.n hS.1 hS.2.2.2.2.2.2.2.2.2.2.2.2.2.2.2 1 86) (V1.xn 1 (.cells #[.nilFunc] 86)) (V2.xn 1 (.cells #[.nilFunc] 86))
                        dsimp only [zO,Option.isSome] at q9
                        exact q9) ?_)
  all_goals try ((fail_if_success have g9:=N2b);refine AllReadyH.cons cwOpsq9 (fun K hK=>by
                        go_simp;have gb:=grow (here W) (.cells #[.nilFunc] 86);refine hK.out _ _ (mk.out _ _ hS gb) (fun hS'=>?_);(try simp only [Act.put,zls,zl0,zl1]);have q9:=ih.out _ (Nat.lt_succ_self _) (by rfl) hS' (G.n hS.1 hS.2.2.2.2.2.2.2.2.2.2.2.2.2.2.2 2 86) (V1.xn 2 (.cells #[.nilFunc] 86)) (V2.xn 2 (.cells #[.nilFunc] 86))
                        dsimp only [zO,Option.isSome] at q9
                        exact q9) ?_)
  all_goals exact AllReadyH.nil
 replace h3:=zh h3;have h2:∀ (n:Nat) ⦃g1:FuncId⦄ ⦃k1:Array Value⦄ ⦃p0 p1 p2:Option Nat⦄ ⦃W:World⦄,(n=4+zc p0+zc p1+zc p2)→(zS W)→(Lgn w (b5) W [p0,p1,p2] [[.int .i64 0,.int .i64 0],[.nilFunc],[.nilFunc]])→(VwX (XPo X [p0,p1,p2]) W (.func (.func g1) #[] k1) f1 n1)→wpAnyH Tryz.prog .any cwOps Q zS n #[true,true,true,true,true,true,false,p0.isSome,p1.isSome,p2.isSome,false,false,false] (zT (.agg #[.int .i64 lo,.int .i64 hi]) (.func (.func g1) #[] k1) t63 (zO t15 p0) (zO t16 p1) (zO t17 p2)) W:=by
  subst_vars
  intro n;refine Nat.strongRecOn n (fun n ih=>?_);replace ih:=zh ih;intro g1 k1 p0 p1 p2 W e hS G V1;obtain ⟨rs,hrs⟩:∃ rs:List Nat,rs=[6]++zR 7 p0++zR 8 p1++zR 9 p2:=⟨_,rfl⟩
  rcases p0 with _ | N0b <;> rcases p1 with _ | N1b <;> rcases p2 with _ | N2b
  all_goals (simp only [zc,Nat.reduceAdd] at e;subst e;dsimp only [zO,Option.isSome];dsimp only [zR,List.cons_append,List.nil_append,List.append_nil] at hrs)
  all_goals (refine wpAnyH_ready (rs:=rs) (by subst hrs;kernel_rfl) (by subst hrs;simp) ?_;subst hrs)
  all_goals refine AllReadyH.cons cwOpsq6 (fun K hK=>by
    go_simp;go_at_call 68;refine ((H2.out _ hS.1 _ (G.x hS.1 hlo hX)).mono ?_);rintro e W' ⟨⟨v,rfl,V2⟩,hb⟩;obtain ⟨g2,k2,rfl⟩:=V2.shape;refine hK.out _ _ (mk.out _ W' hS hb) (fun hS'=>?_);(try simp only [Act.put,zls,zl0,zl1]);have q9:=h3.out _ rfl hS' (G.c hb) (V1.keep hb) V2
    dsimp only [zc,zO,Option.isSome,Nat.reduceAdd] at q9
    exact q9) ?_
  all_goals try ((fail_if_success have g9:=N0b);refine AllReadyH.cons cwOpsq7 (fun K hK=>by
                        go_simp;have gb:=grow (here W) (.cells #[.int .i64 0,.int .i64 0] 40);refine hK.out _ _ (mk.out _ _ hS gb) (fun hS'=>?_);(try simp only [Act.put,zls,zl0,zl1]);have q9:=ih.out _ (Nat.lt_succ_self _) (by rfl) hS' (G.n hS.1 hS.2.2.2.2.2.2.2.2.2.2.2.2.2.2.2 0 40) (V1.xn 0 (.cells #[.int .i64 0,.int .i64 0] 40))
                        dsimp only [zO,Option.isSome] at q9
                        exact q9) ?_)
  all_goals try ((fail_if_success have g9:=N1b);refine AllReadyH.cons cwOpsq8 (fun K hK=>by
                        go_simp;have gb:=grow (here W) (.cells #[.nilFunc] 86);refine hK.out _ _ (mk.out _ _ hS gb) (fun hS'=>?_);(try simp only [Act.put,zls,zl0,zl1]);have q9:=ih.out _ (Nat.lt_succ_self _) (by rfl) hS' (G.n hS.1 hS.2.2.2.2.2.2.2.2.2.2.2.2.2.2.2 1 86) (V1.xn 1 (.cells #[.nilFunc] 86))
                        dsimp only [zO,Option.isSome] at q9
                        exact q9) ?_)
  all_goals try ((fail_if_success have g9:=N2b);refine AllReadyH.cons cwOpsq9 (fun K hK=>by
                        go_simp;have gb:=grow (here W) (.cells #[.nilFunc] 86);refine hK.out _ _ (mk.out _ _ hS gb) (fun hS'=>?_);(try simp only [Act.put,zls,zl0,zl1]);have q9:=ih.out _ (Nat.lt_succ_self _) (by rfl) hS' (G.n hS.1 hS.2.2.2.2.2.2.2.2.2.2.2.2.2.2.2 2 86) (V1.xn 2 (.cells #[.nilFunc] 86))
                        dsimp only [zO,Option.isSome] at q9
                        exact q9) ?_)
  all_goals exact AllReadyH.nil
 replace h2:=zh h2;have h1:∀ (n:Nat) ⦃p0 p1 p2:Option Nat⦄ ⦃W:World⦄,(n=5+zc p0+zc p1+zc p2)→(zS W)→(Lgn w (b5) W [p0,p1,p2] [[.int .i64 0,.int .i64 0],[.nilFunc],[.nilFunc]])→wpAnyH Tryz.prog .any cwOps Q zS n #[true,true,true,true,false,true,false,p0.isSome,p1.isSome,p2.isSome,false,false,false] (zT (.agg #[.int .i64 lo,.int .i64 hi]) t61 t63 (zO t15 p0) (zO t16 p1) (zO t17 p2)) W:=by
  subst_vars
  intro n;refine Nat.strongRecOn n (fun n ih=>?_);replace ih:=zh ih;intro p0 p1 p2 W e hS G;obtain ⟨rs,hrs⟩:∃ rs:List Nat,rs=[4]++zR 7 p0++zR 8 p1++zR 9 p2:=⟨_,rfl⟩
  rcases p0 with _ | N0b <;> rcases p1 with _ | N1b <;> rcases p2 with _ | N2b
  all_goals (simp only [zc,Nat.reduceAdd] at e;subst e;dsimp only [zO,Option.isSome];dsimp only [zR,List.cons_append,List.nil_append,List.append_nil] at hrs)
  all_goals (refine wpAnyH_ready (rs:=rs) (by subst hrs;kernel_rfl) (by subst hrs;simp) ?_;subst hrs)
  all_goals refine AllReadyH.cons cwOpsq4 (fun K hK=>by
    go_simp;go_at_call 68;refine ((H1.out _ hS.1 _ (G.x hS.1 hlo hX)).mono ?_);rintro e W' ⟨⟨v,rfl,V1⟩,hb⟩;obtain ⟨g1,k1,rfl⟩:=V1.shape;refine hK.out _ _ (mk.out _ W' hS hb) (fun hS'=>?_);(try simp only [Act.put,zls,zl0,zl1]);have q9:=h2.out _ rfl hS' (G.c hb)  V1
    dsimp only [zc,zO,Option.isSome,Nat.reduceAdd] at q9
    exact q9) ?_
  all_goals try ((fail_if_success have g9:=N0b);refine AllReadyH.cons cwOpsq7 (fun K hK=>by
                        go_simp;have gb:=grow (here W) (.cells #[.int .i64 0,.int .i64 0] 40);refine hK.out _ _ (mk.out _ _ hS gb) (fun hS'=>?_);(try simp only [Act.put,zls,zl0,zl1]);have q9:=ih.out _ (Nat.lt_succ_self _) (by rfl) hS' (G.n hS.1 hS.2.2.2.2.2.2.2.2.2.2.2.2.2.2.2 0 40)
                        dsimp only [zO,Option.isSome] at q9
                        exact q9) ?_)
  all_goals try ((fail_if_success have g9:=N1b);refine AllReadyH.cons cwOpsq8 (fun K hK=>by
                        go_simp;have gb:=grow (here W) (.cells #[.nilFunc] 86);refine hK.out _ _ (mk.out _ _ hS gb) (fun hS'=>?_);(try simp only [Act.put,zls,zl0,zl1]);have q9:=ih.out _ (Nat.lt_succ_self _) (by rfl) hS' (G.n hS.1 hS.2.2.2.2.2.2.2.2.2.2.2.2.2.2.2 1 86)
                        dsimp only [zO,Option.isSome] at q9
                        exact q9) ?_)
  all_goals try ((fail_if_success have g9:=N2b);refine AllReadyH.cons cwOpsq9 (fun K hK=>by
                        go_simp;have gb:=grow (here W) (.cells #[.nilFunc] 86);refine hK.out _ _ (mk.out _ _ hS gb) (fun hS'=>?_);(try simp only [Act.put,zls,zl0,zl1]);have q9:=ih.out _ (Nat.lt_succ_self _) (by rfl) hS' (G.n hS.1 hS.2.2.2.2.2.2.2.2.2.2.2.2.2.2.2 2 86)
                        dsimp only [zO,Option.isSome] at q9
                        exact q9) ?_)
  all_goals exact AllReadyH.nil
 replace h1:=zh h1;have h0:∀ (n:Nat) ⦃p0 p1 p2:Option Nat⦄ ⦃W:World⦄,(n=6+zc p0+zc p1+zc p2)→(zS W)→(Lgn w (b5) W [p0,p1,p2] [[.int .i64 0,.int .i64 0],[.nilFunc],[.nilFunc]])→wpAnyH Tryz.prog .any cwOps Q zS n #[true,true,false,true,false,true,false,p0.isSome,p1.isSome,p2.isSome,false,false,false] (zT t59 t61 t63 (zO t15 p0) (zO t16 p1) (zO t17 p2)) W:=by
  subst_vars
  intro n;refine Nat.strongRecOn n (fun n ih=>?_);replace ih:=zh ih;intro p0 p1 p2 W e hS G;obtain ⟨rs,hrs⟩:∃ rs:List Nat,rs=[2]++zR 7 p0++zR 8 p1++zR 9 p2:=⟨_,rfl⟩
  rcases p0 with _ | N0b <;> rcases p1 with _ | N1b <;> rcases p2 with _ | N2b
  all_goals (simp only [zc,Nat.reduceAdd] at e;subst e;dsimp only [zO,Option.isSome];dsimp only [zR,List.cons_append,List.nil_append,List.append_nil] at hrs)
  all_goals (refine wpAnyH_ready (rs:=rs) (by subst hrs;kernel_rfl) (by subst hrs;simp) ?_;subst hrs)
  all_goals refine AllReadyH.cons cwOpsq2 (fun K hK=>by
    go_simp;go_at_call 144;refine ((HW.out _ hS.1).mono ?_);rintro e W' ⟨rfl,hb⟩;refine hK.out _ _ (mk.out _ W' hS hb) (fun hS'=>?_);(try simp only [Act.put,zls,zl0,zl1]);have q9:=h1.out _ rfl hS' (G.c hb)
    dsimp only [zc,zO,Option.isSome,Nat.reduceAdd] at q9
    exact q9) ?_
  all_goals try ((fail_if_success have g9:=N0b);refine AllReadyH.cons cwOpsq7 (fun K hK=>by
                        go_simp;have gb:=grow (here W) (.cells #[.int .i64 0,.int .i64 0] 40);refine hK.out _ _ (mk.out _ _ hS gb) (fun hS'=>?_);(try simp only [Act.put,zls,zl0,zl1]);have q9:=ih.out _ (Nat.lt_succ_self _) (by rfl) hS' (G.n hS.1 hS.2.2.2.2.2.2.2.2.2.2.2.2.2.2.2 0 40)
                        dsimp only [zO,Option.isSome] at q9
                        exact q9) ?_)
  all_goals try ((fail_if_success have g9:=N1b);refine AllReadyH.cons cwOpsq8 (fun K hK=>by
                        go_simp;have gb:=grow (here W) (.cells #[.nilFunc] 86);refine hK.out _ _ (mk.out _ _ hS gb) (fun hS'=>?_);(try simp only [Act.put,zls,zl0,zl1]);have q9:=ih.out _ (Nat.lt_succ_self _) (by rfl) hS' (G.n hS.1 hS.2.2.2.2.2.2.2.2.2.2.2.2.2.2.2 1 86)
                        dsimp only [zO,Option.isSome] at q9
                        exact q9) ?_)
  all_goals try ((fail_if_success have g9:=N2b);refine AllReadyH.cons cwOpsq9 (fun K hK=>by
                        go_simp;have gb:=grow (here W) (.cells #[.nilFunc] 86);refine hK.out _ _ (mk.out _ _ hS gb) (fun hS'=>?_);(try simp only [Act.put,zls,zl0,zl1]);have q9:=ih.out _ (Nat.lt_succ_self _) (by rfl) hS' (G.n hS.1 hS.2.2.2.2.2.2.2.2.2.2.2.2.2.2.2 2 86)
                        dsimp only [zO,Option.isSome] at q9
                        exact q9) ?_)
  all_goals exact AllReadyH.nil
 replace h0:=zh h0;have s0:=h0;clear h0 h1 h2 h3 hF;subst zSe zTe;refine wp_region_held_drew (S:=(fun W'=>Below w.heap.size w W'∧W'.cell? ⟨b4,0,none⟩=some (.int .i64 P)∧W'.cell? ⟨b4,1,none⟩=some (va)∧W'.cell? ⟨b4,2,none⟩=some (.int .i64 Q0)∧W'.cell? ⟨b4,3,none⟩=some (vb)∧W'.cell? ⟨b4,4,none⟩=some (.int .i64 a)∧W'.cell? ⟨b4,5,none⟩=some (.int .i64 b)∧W'.cell? ⟨b4,6,none⟩=some (vl)∧W'.cell? ⟨b5,0,none⟩=some (.int .i64 P2)∧W'.cell? ⟨b5,1,none⟩=some (va2)∧W'.cell? ⟨b5,2,none⟩=some (.int .i64 Q2)∧W'.cell? ⟨b5,3,none⟩=some (vb2)∧W'.cell? ⟨b5,4,none⟩=some (.int .i64 a2)∧W'.cell? ⟨b5,5,none⟩=some (.int .i64 b2)∧W'.cell? ⟨b5,6,none⟩=some (vl2)∧b5<W'.heap.size)) (by kernel_rfl) (mk.out _ _ hS0 (here w0).drew) (fun hS=>?_);clear hS0;refine ztk (i:=0) (v:=.agg #[.int .i64 P,va,.int .i64 Q0,vb,.int .i64 a,.int .i64 b,vl]) cwOpsq0 hQ (Or.inl ⟨by rfl,?_⟩) hS ?_
 ·clear s0 mk hQ fin hS;intro w hSw;(try dsimp only at hSw);go_simp
 (try simp only [Act.put,zls,zl0,zl1]);refine ztk (i:=1) (v:=.agg #[.int .i64 P2,va2,.int .i64 Q2,vb2,.int .i64 a2,.int .i64 b2,vl2]) cwOpsq1 hQ (Or.inl ⟨by rfl,?_⟩) hS ?_
 ·clear s0 mk hQ fin hS;intro w hSw;(try dsimp only at hSw);go_simp
 (try simp only [Act.put,zls,zl0,zl1]);refine ztk (i:=3) (v:=.agg #[.int .i64 P,va,.int .i64 Q0,vb,.int .i64 a,.int .i64 b,vl]) cwOpsq3 hQ (Or.inl ⟨by rfl,?_⟩) hS ?_
 ·clear s0 mk hQ fin hS;intro w hSw;(try dsimp only at hSw);go_simp
 (try simp only [Act.put,zls,zl0,zl1]);refine ztk (i:=5) (v:=.agg #[.int .i64 P2,va2,.int .i64 Q2,vb2,.int .i64 a2,.int .i64 b2,vl2]) cwOpsq5 hQ (Or.inl ⟨by rfl,?_⟩) hS ?_
 ·clear s0 mk hQ fin hS;intro w hSw;(try dsimp only at hSw);go_simp
 (try simp only [Act.put,zls,zl0,zl1]);have g0:Lgn w (b5) (w0.drew) [none,none,none] [[.int .i64 0,.int .i64 0],[.nilFunc],[.nilFunc]]:=⟨fun i b e=>by rcases i with _ | _ | _ | i <;> simp at e,fun i j b e=>by rcases i with _ | _ | _ | i <;> simp at e⟩;exact s0.out _ rfl hS g0
end Go.Proofs.YtmamlgaogpkagaaGreat
