/- TvE TlA. -/
import Derived.Test.YtmamlgaogpkagaaGreatZLPlain
import Derived.Test.YtmamlgaogpkagaaGreatZLGen
import Derived.Test.YtmamlgaogpkagaaGreatZLSl
import Derived.Test.YtmamlgaogpkagaaGreatZLOwn
import Derived.Test.YtmamlgaogpkagaaGreatZRnV
import Derived.Test.YtmamlgaogpkagaaGreatZRnKF
import Derived.Test.YtmamlgaogpkagaaGreatZPeKE
import Derived.Test.YtmamlgaogpkagaaGreatZPeKJ
import Derived.Test.YtmamlgaogpkagaaGreatZPeKK
import Derived.Test.YtmamlgaogpkagaaGreatZTsE
import Derived.Test.YtmamlgaogpkagaaGreatZTsH
import Derived.Test.YtmamlgaogpkagaaGreatZTsZ
import Derived.StillTailTactics
import Derived.BigQuiet
import Derived.Deep.QuietTactic
import Derived.Deep.RegionHeld3
import Derived.Laws.EntriesVeiled
import Derived.Deep.RegionWith
namespace Go.Proofs.YtmamlgaogpkagaaGreat
open Go.RowKit
set_option linter.unusedVariables false
set_option linter.unusedSimpArgs false
set_option maxRecDepth 100000 in
set_option maxHeartbeats 2000000 in
theorem tvline (x:Int) (w:World) :
  Calls Tryz.prog 85 #[.int .i64 x] w fun e w'=>e=.returned (.bool (nvB x))∧w=w':=by
 unfold nvB
 cases ka:decide (-4398046511104≤x)
 ·rw [Bool.false_and]
  go_enter Tryz.func85,Tryz.ntmps85
  go_wp2
  go_ret
  exact ⟨rfl,rfl⟩
 ·rw [Bool.true_and]
  go_enter Tryz.func85,Tryz.ntmps85
  go_wp2
  go_ret
  exact ⟨rfl,rfl⟩
theorem eq_below {f:FuncId} {args:Array Value} {w:World} {v:Value} (h:Calls Tryz.prog f args w fun e w'=>e=.returned v∧∃ q,w'=w.drewN q):Calls Tryz.prog f args w fun e w'=>e=.returned v∧Below w.heap.size w w' :=
 h.mono fun _ _ ⟨a,q,b⟩=>⟨a,by rw [b];exact below_drewN (here w) q⟩
set_option maxRecDepth 100000 in
set_option maxHeartbeats 2000000 in
theorem tvsame (P Q:Int) (va vb:Value) (A B:List Sp) (hA:A.length≤1099511627776) {ba bb:Nat} (w:World) (a:PairS ba w va A) (b:PairS bb w vb B) :
  Calls Tryz.prog 70 #[.agg #[.int .i64 P,va],.agg #[.int .i64 Q,vb]] w fun e w'=>e=.returned (.bool (decide (P=Q∧A=B)))∧Below w.heap.size w w':=by
 obtain ⟨oa,ca,rfl⟩:=prs_shape a;obtain ⟨ob,cb,rfl⟩:=prs_shape b;have ag:=zh (grow (grow (here w) (.cells #[.int .i64 P,.slice oa A.length ca] 24)) (.cells #[.int .i64 Q,.slice ob B.length cb] 24));have T_0:=zh ((Bxs.new (w:=w) [.int .i64 P,.slice oa A.length ca] 24).old (.cells #[.int .i64 Q,.slice ob B.length cb] 24));have U_0:=zh (Bxs.snd (w:=w) (o:=(.cells #[.int .i64 P,.slice oa A.length ca] 24)) [.int .i64 Q,.slice ob B.length cb] 24);have ah:=zh (a.keep ag.out);have ai:=zh (b.keep ag.out);clear a b;have EQ:=zh (fun W (h:PairS ba W (.slice oa A.length ca) A) (k:PairS bb W (.slice ob B.length cb) B)=>eq_below (eq_pairs A B _ _ hA W h k));have e:decide (P=Q∧A=B)=(decide (P=Q)&&(A==B)):=by rw [Bool.eq_iff_iff];simp
 rw [e];clear e;generalize (A==B)=E at *
 by_cases c:P=Q
 ·have k:(P==Q)=true:=beq_iff_eq.2 c;rw [zdt c,Bool.true_and];clear c
  go_enter Tryz.func70,Tryz.ntmps70
  refine T_0.out.k2 fun aa ab ac=>?_;refine U_0.out.k2 fun ad ae af=>?_;go_wp2_with fail
  clear aa ab ad ae ac af;generalize ((w.alloc (.cells #[.int .i64 P,.slice oa A.length ca] 24)).alloc (.cells #[.int .i64 Q,.slice ob B.length cb] 24))=w0 at *;refine (EQ.out _ ah.out ai.out).mono ?_;rintro e w1 ⟨rfl,hb⟩;have aj:=zd ag hb;have T_1:=zh (T_0.out.keep hb);have U_1:=zh (U_0.out.keep hb);have Sa_1:=zh (ah.out.keep hb);have Sb_1:=zh (ai.out.keep hb);clear hb ag T_0 U_0 ah ai;refine T_1.out.k2 fun aa ab ac=>?_;refine U_1.out.k2 fun ad ae af=>?_;go_wp2
  go_ret
  exact ⟨rfl,aj.out⟩
 ·have k:(P==Q)=false:=by rw [beq_eq_false_iff_ne];exact c
  rw [zdf c,Bool.false_and];clear c
  go_enter Tryz.func70,Tryz.ntmps70
  refine T_0.out.k2 fun aa ab ac=>?_;refine U_0.out.k2 fun ad ae af=>?_;go_wp2
  go_ret
  exact ⟨rfl,ag.out⟩
set_option maxRecDepth 100000 in
set_option maxHeartbeats 2000000 in
theorem tvpair (P Q:Int) (va vb:Value) (A B:List Sp) (hA:A.length≤maxLen) (hB:B.length≤maxLen) (hP:I64 P) (hQ:I64 Q) {ba bb:Nat} (w:World) (a:PairS ba w va A) (b:PairS bb w vb B) :
  Calls Tryz.prog 61 #[.agg #[.int .i64 P,va],.agg #[.int .i64 Q,vb]] w fun e w'=>e=.returned (.int .i64 (paE P A Q B))∧Below w.heap.size w w':=by
 obtain ⟨oa,ca,rfl⟩:=prs_shape a;obtain ⟨ob,cb,rfl⟩:=prs_shape b;have ag:=zh (grow (grow (here w) (.cells #[.int .i64 P,.slice oa A.length ca] 24)) (.cells #[.int .i64 Q,.slice ob B.length cb] 24));have T_0:=zh ((Bxs.new (w:=w) [.int .i64 P,.slice oa A.length ca] 24).old (.cells #[.int .i64 Q,.slice ob B.length cb] 24));have U_0:=zh (Bxs.snd (w:=w) (o:=(.cells #[.int .i64 P,.slice oa A.length ca] 24)) [.int .i64 Q,.slice ob B.length cb] 24);have ah:=zh (a.keep ag.out);have ai:=zh (b.keep ag.out);clear a b;have EQ:=zh (fun W (h:PairS ba W (.slice oa A.length ca) A) (k:PairS bb W (.slice ob B.length cb) B)=>upequal _ _ P Q A B hA hP hQ W h k);have WI:=zh (fun W (h:PairS ba W (.slice oa A.length ca) A) (k:PairS bb W (.slice ob B.length cb) B)=>upwithin _ _ P Q A B hA hB hP hQ W h k);rw [paE_eq];generalize (decide ((coR 3 P A Q B).2=0)&&decide ((coR 3 P A Q B).1.2.length=0))=o2 at *;generalize (coR 3 P A Q B).2=e2 at *;clear hA hB hP hQ
 cases c:(pvB P A&&decide (P=Q)&&(A==B))
 ·rw [c] at EQ;rw [if_neg (by simp)];clear c
  go_enter Tryz.func61,Tryz.ntmps61
  refine T_0.out.k2 fun aa ab ac=>?_;refine U_0.out.k2 fun ad ae af=>?_;go_wp2_with fail
  clear aa ab ad ae ac af;generalize ((w.alloc (.cells #[.int .i64 P,.slice oa A.length ca] 24)).alloc (.cells #[.int .i64 Q,.slice ob B.length cb] 24))=w0 at *;refine (EQ.out _ ah.out ai.out).mono ?_;rintro e w1 ⟨rfl,hb⟩;have aj:=zd ag hb;have T_1:=zh (T_0.out.keep hb);have U_1:=zh (U_0.out.keep hb);have ak:=zh (ah.out.keep hb);have al:=zh (ai.out.keep hb);clear hb ag T_0 U_0 ah ai;refine T_1.out.k2 fun aa ab ac=>?_;refine U_1.out.k2 fun ad ae af=>?_;go_wp2_with fail
  clear aa ab ad ae ac af;refine (WI.out _ ak.out al.out).mono ?_;rintro e w2 ⟨rfl,hb⟩;have am:=zd aj hb;have T_2:=zh (T_1.out.keep hb);have U_2:=zh (U_1.out.keep hb);have Sa_2:=zh (ak.out.keep hb);have Sb_2:=zh (al.out.keep hb);clear hb aj T_1 U_1 ak al;refine T_2.out.k2 fun aa ab ac=>?_;refine U_2.out.k2 fun ad ae af=>?_;go_wp2
  go_ret
  exact ⟨rfl,am.out⟩
 ·rw [c] at EQ;rw [if_pos rfl];clear c WI
  go_enter Tryz.func61,Tryz.ntmps61
  refine T_0.out.k2 fun aa ab ac=>?_;refine U_0.out.k2 fun ad ae af=>?_;go_wp2_with fail
  clear aa ab ad ae ac af;generalize ((w.alloc (.cells #[.int .i64 P,.slice oa A.length ca] 24)).alloc (.cells #[.int .i64 Q,.slice ob B.length cb] 24))=w0 at *;refine (EQ.out _ ah.out ai.out).mono ?_;rintro e w1 ⟨rfl,hb⟩;have aj:=zd ag hb;have T_1:=zh (T_0.out.keep hb);have U_1:=zh (U_0.out.keep hb);have ak:=zh (ah.out.keep hb);have al:=zh (ai.out.keep hb);clear hb ag T_0 U_0 ah ai;refine T_1.out.k2 fun aa ab ac=>?_;refine U_1.out.k2 fun ad ae af=>?_;go_wp2
  go_ret
  exact ⟨rfl,aj.out⟩
theorem Bxo.put2 {w:World} {b:Nat} {z0 z1:Value} (h:Bxo w b [z0,z1]) (u0 u1:Value):Bxs ((w.setCell ⟨b,0,none⟩ u0).setCell ⟨b,1,none⟩ u1) b [u0,u1] :=
 ((h.set (j:=0) (by simp) u0).set (j:=1) (by simp) u1).t
theorem below_put2 {W:Nat} {w0 w:World} {b:Nat} (h:Below W w0 w) (l:W≤b) (u0 u1:Value):Below W w0 ((w.setCell ⟨b,0,none⟩ u0).setCell ⟨b,1,none⟩ u1) :=
 (h.setCell (p:=⟨b,0,none⟩) l u0).setCell (p:=⟨b,1,none⟩) l u1
theorem far_put2 {base:Nat} {w:World} {v:Value} {L:List Sp} {b:Nat} (h:PairS base w v L) (l:b<base) (u0 u1:Value):PairS base ((w.setCell ⟨b,0,none⟩ u0).setCell ⟨b,1,none⟩ u1) v L:=Sl.far (Sl.far h l u0) l u1
theorem Bxo.snd {w:World} {o:Obj} (us:List Value) (t:TypeId):Bxo ((w.alloc o).alloc (.cells us.toArray t)) (w.heap.size+1) us:=by
 have h:=Bxo.new (w:=w.alloc o) us t;rw [size_two] at h;exact h
set_option maxRecDepth 100000 in
set_option maxHeartbeats 2000000 in
theorem tvclone (P:Int) (va:Value) (A:List Sp) (hA:A.length≤1000000) {ba:Nat} (w:World) (a:PairS ba w va A) :
  Calls Tryz.prog 118 #[.agg #[.int .i64 P,va]] w fun e w'=>(∃ v',e=.returned (.agg #[.int .i64 P,v'])∧PairS w.heap.size w' v' A)∧Below w.heap.size w w':=by
 obtain ⟨oa,ca,rfl⟩:=prs_shape a;obtain ⟨w2,hw2⟩:∃ w2:World,((w.alloc (.cells #[.int .i64 P,.slice oa A.length ca] 24)).alloc (.cells #[.int .i64 0,.slice none 0 0] 24))=w2:=⟨_,rfl⟩;have TB:Hid (Bxs w2 w.heap.size [.int .i64 P,.slice oa A.length ca]):=by show Bxs _ _ _;rw [← hw2];exact (Bxs.new (w:=w) [.int .i64 P,.slice oa A.length ca] 24).old _
 have RB:Hid (Bxo w2 (w.heap.size+1) [.int .i64 0,.slice none 0 0]):=by show Bxo _ _ _;rw [← hw2];exact Bxo.snd (w:=w) (o:=(.cells #[.int .i64 P,.slice oa A.length ca] 24)) [.int .i64 0,.slice none 0 0] 24
 have A2:Hid (Below w.heap.size w w2):=by show Below _ _ _;rw [← hw2];exact grow (grow (here w) _) _
 have HC:Hid (∀ W,Below w.heap.size w W→Calls Tryz.prog 52 #[.slice oa A.length ca] W fun e w'=>(∃ v',e=.returned v'∧PairS W.heap.size w' v' A)∧Below W.heap.size W w'):=fun W hW=>(ruclone _ A A.length rfl hA W (a.keep hW)).mono fun e w' ⟨v',h1,h2,h3⟩=>⟨⟨v',h1,own_prs h2⟩,h3⟩;have s2:w.heap.size+1<w2.heap.size:=RB.out.t.lt;have hS0:Below w.heap.size w w2∧w2.cell? ⟨w.heap.size,0,none⟩=some (.int .i64 P)∧w2.cell? ⟨w.heap.size,1,none⟩=some (.slice oa A.length ca)∧w.heap.size<w2.heap.size:=⟨A2.out,TB.out.c 0 _ rfl,TB.out.c 1 _ rfl,by omega⟩;have R2:Bxo w2.drew (w.heap.size+1) [.int .i64 0,.slice none 0 0]:=RB.out.keep (here w2).drew;clear TB RB
 go_enter Tryz.func118,Tryz.ntmps118
 go_wp2
 have mk:∀ W W':World,(Below w.heap.size w W∧W.cell? ⟨w.heap.size,0,none⟩=some (.int .i64 P)∧W.cell? ⟨w.heap.size,1,none⟩=some (.slice oa A.length ca)∧w.heap.size<W.heap.size)→Below W.heap.size W W'→(Below w.heap.size w W'∧W'.cell? ⟨w.heap.size,0,none⟩=some (.int .i64 P)∧W'.cell? ⟨w.heap.size,1,none⟩=some (.slice oa A.length ca)∧w.heap.size<W'.heap.size):=fun W W' ⟨kb,k0_0,k0_1,kl⟩ hb=>⟨down kb hb,(hb.cell (p:=⟨w.heap.size,0,none⟩) (by show w.heap.size<_;omega)).trans k0_0,(hb.cell (p:=⟨w.heap.size,1,none⟩) (by show w.heap.size<_;omega)).trans k0_1,zll kl hb.size⟩;have ks:∀ (W:World) (u0 u1:Value),(Below w.heap.size w W∧W.cell? ⟨w.heap.size,0,none⟩=some (.int .i64 P)∧W.cell? ⟨w.heap.size,1,none⟩=some (.slice oa A.length ca)∧w.heap.size<W.heap.size)→(Below w.heap.size w ((W.setCell ⟨w.heap.size+1,0,none⟩ u0).setCell ⟨w.heap.size+1,1,none⟩ u1)∧((W.setCell ⟨w.heap.size+1,0,none⟩ u0).setCell ⟨w.heap.size+1,1,none⟩ u1).cell? ⟨w.heap.size,0,none⟩=some (.int .i64 P)∧((W.setCell ⟨w.heap.size+1,0,none⟩ u0).setCell ⟨w.heap.size+1,1,none⟩ u1).cell? ⟨w.heap.size,1,none⟩=some (.slice oa A.length ca)∧w.heap.size<((W.setCell ⟨w.heap.size+1,0,none⟩ u0).setCell ⟨w.heap.size+1,1,none⟩ u1).heap.size):=fun W u0 u1 ⟨kb,k0_0,k0_1,kl⟩=>⟨((kb.setCell (p:=⟨w.heap.size+1,0,none⟩) (by show w.heap.size≤w.heap.size+1;omega) _).setCell (p:=⟨w.heap.size+1,1,none⟩) (by show w.heap.size≤w.heap.size+1;omega) _),by rw [zco (h:=by intro h;have:=congrArg Addr.block h;simp at this;try omega),zco (h:=by intro h;have:=congrArg Addr.block h;simp at this;try omega)];exact k0_0,by rw [zco (h:=by intro h;have:=congrArg Addr.block h;simp at this;try omega),zco (h:=by intro h;have:=congrArg Addr.block h;simp at this;try omega)];exact k0_1,by rw [size_set,size_set];exact kl⟩
 go_region_held3 (fun W'=>Below w.heap.size w W'∧W'.cell? ⟨w.heap.size,0,none⟩=some (.int .i64 P)∧W'.cell? ⟨w.heap.size,1,none⟩=some (.slice oa A.length ca)∧w.heap.size<W'.heap.size) (first | assumption | (exact mk _ _ (by assumption) (here _).drew) | (exact mk _ _ (by assumption) (grow (here _) _)) | (exact ks _ _ _ (by assumption)))
  (first
  | (go_at_call 52;(with_reducible refine (HC.out _ (And.left (by assumption))).mono ?_);rintro e w' ⟨⟨v8,rfl,P8⟩,hb⟩;obtain ⟨o8,c8,rfl⟩:=Sl.shape P8;have hS:=mk _ w' (by assumption) hb;have R8:Bxo w' (w.heap.size+1) [.int .i64 0,.slice none 0 0]:=Bxo.keep (by assumption) hb;have rc0:=R8.t.c 0 _ rfl;have rf0:=R8.f 0;have rc1:=R8.t.c 1 _ rfl;have rf1:=R8.f 1))
 have FB:=R8.put2 (.int .i64 P) (.slice o8 A.length c8);have AF:=below_put2 hS.1 (show w.heap.size≤w.heap.size+1 by omega) (.int .i64 P) (.slice o8 A.length c8);refine FB.k2 fun q0 q1 aa=>?_;clear aa;go_wp2
 refine bodyPost_ret (v:=.agg #[.int .i64 P,.slice o8 A.length c8]) (by simp [results,Tryz.results118,go_sem,q0,q1]) rfl ?_;exact ⟨⟨_,rfl,Sl.weak (far_put2 P8 s2 (.int .i64 P) (.slice o8 A.length c8)) (by show w.heap.size≤w2.heap.size;omega)⟩,AF⟩
set_option maxRecDepth 100000 in
set_option maxHeartbeats 2000000 in
theorem lspan (a b:Int) (w:World) :
  Calls Tryz.prog 50 #[.int .i64 a,.int .i64 b] w fun e w'=>e=.returned (.agg #[.int .i64 a,.int .i64 b])∧Below w.heap.size w w':=by
 have A1:=zh (grow (here w) (.cells #[.int .i64 a,.int .i64 b] 40));have R1:=zh (Bxs.new (w:=w) [.int .i64 a,.int .i64 b] 40)
 go_enter Tryz.func50,Tryz.ntmps50
 go_wp2
 refine R1.out.k2 fun q0 q1 aa=>?_;clear aa;generalize (w.alloc (.cells #[.int .i64 a,.int .i64 b] 40))=w13 at *;refine bodyPost_ret (v:=.agg #[.int .i64 a,.int .i64 b]) (by simp [results,Tryz.results50,go_sem,q0,q1]) rfl ?_;exact ⟨rfl,A1.out⟩
set_option maxRecDepth 100000 in
set_option maxHeartbeats 2000000 in
theorem levery (n:Int) (w:World) :
  Calls Tryz.prog 58 #[.int .i64 n] w fun e w'=>(∃ o c,e=.returned (.agg #[.int .i64 n,.slice o 1 c])∧PairS 0 w' (.slice o 1 c) [(0,1)])∧Below w.heap.size w w':=by
 have A1:=zh (grow (here w) (.cells #[.int .i64 0,.slice none 0 0] 24));have R1:=zh (Bxo.new (w:=w) [.int .i64 0,.slice none 0 0] 24);have HS:=zh (fun W=>lspan 0 1 W)
 go_enter Tryz.func58,Tryz.ntmps58
 go_wp2_with fail
 refine (HS.out _).mono ?_;rintro e w1 ⟨rfl,hb⟩;have A2:=zd A1 hb;have R2:=zh (R1.out.keep hb);clear hb HS A1 R1;have gb:=grow (here w1) (.cells #[.int .i64 0,.int .i64 1] 40);have A3:=zd A2 gb;have R3:=zh (R2.out.keep gb);have P3:=zh (prs_lit1 w1 0 1);have bl:Hid (w.heap.size<w1.heap.size):=R2.out.t.lt;refine R3.out.k2 fun r0 f0 r1 f1 rl=>?_;go_wp2
 have FB:=R3.out.put2 (.int .i64 n) (.slice (some ⟨w1.heap.size,0,none⟩) 1 1);have AF:=below_put2 A3.out (Nat.le_refl _) (.int .i64 n) (.slice (some ⟨w1.heap.size,0,none⟩) 1 1);refine FB.k2 fun q0 q1 aa=>?_;clear aa;refine bodyPost_ret (v:=.agg #[.int .i64 n,.slice (some ⟨w1.heap.size,0,none⟩) 1 1]) (by simp [results,Tryz.results58,go_sem,q0,q1]) rfl ?_;refine ⟨⟨_,_,rfl,?_⟩,AF⟩;have h:=P3.out
 rcases h with h | ⟨blk,off,c',e,l,m⟩
 ·exact .inl h
 ·refine .inr ⟨blk,off,c',e,l,?_⟩;have ne:blk≠w.heap.size:=by
   injection e with e1 _ _
   injection e1 with e1
   injection e1 with e1 _
   have:=bl.out;omega
  exact (m.past (Or.inl ne) _).past (Or.inl ne) _
def grB (P:Int) (n:Nat):Bool:=(decide (1048576<P)&&decide (P≤12622780800)) || decide (40<n)
def lgB (s:TS):Bool:=grB s.P s.A.length || grB s.Q s.B.length || decide (40<s.L.length)
theorem dec_nat (n:Nat):decide (40<n)=decide (40<(n:Int)):=decide_eq_decide.2 (by omega)
set_option maxRecDepth 100000 in
set_option maxHeartbeats 2000000 in
theorem lgreat (P:Int) (o:Option Addr) (n c:Nat) (w:World) :
  Calls Tryz.prog 55 #[.agg #[.int .i64 P,.slice o n c]] w fun e w'=>e=.returned (.bool (grB P n))∧Below w.heap.size w w':=by
 have A1:=zh (grow (here w) (.cells #[.int .i64 P,.slice o n c] 24));have TA:=zh (Two.new (t:=24) (x:=.int .i64 P) (y:=.slice o n c) (here (w.alloc (.cells #[.int .i64 P,.slice o n c] 24))));obtain ⟨t0,t1,tl⟩:=TA.out
 unfold grB
 rw [dec_nat]
 cases p:decide (1048576<P)
 ·rw [Bool.false_and,Bool.false_or]
  go_enter Tryz.func55,Tryz.ntmps55
  go_wp2
  go_ret
  exact ⟨rfl,A1.out⟩
 ·rw [Bool.true_and]
  cases q:decide (P≤12622780800)
  ·rw [Bool.false_or]
   go_enter Tryz.func55,Tryz.ntmps55
   go_wp2
   go_ret
   exact ⟨rfl,A1.out⟩
  ·rw [Bool.true_or]
   go_enter Tryz.func55,Tryz.ntmps55
   go_wp2
   go_ret
   exact ⟨rfl,A1.out⟩
set_option maxRecDepth 100000 in
set_option maxHeartbeats 2000000 in
theorem llarge1 (s:TS) (oa ob ol:Option Addr) (ca cb cl:Nat) (w:World) :
  Calls Tryz.prog 60 #[.agg #[.int .i64 s.P,.slice oa s.A.length ca,.int .i64 s.Q,.slice ob s.B.length cb,.int .i64 s.a,.int .i64 s.b,.slice ol s.L.length cl]] w fun e w'=>e=.returned (.bool (lgB s))∧Below w.heap.size w w':=by
 have aj:=zh (grow (here w) (.cells #[.int .i64 s.P,.slice oa s.A.length ca,.int .i64 s.Q,.slice ob s.B.length cb,.int .i64 s.a,.int .i64 s.b,.slice ol s.L.length cl] 26));have T_0:=zh (Bxs.new (w:=w) [.int .i64 s.P,.slice oa s.A.length ca,.int .i64 s.Q,.slice ob s.B.length cb,.int .i64 s.a,.int .i64 s.b,.slice ol s.L.length cl] 26);have G1:=zh (fun W=>lgreat s.P oa s.A.length ca W);have G2:=zh (fun W=>lgreat s.Q ob s.B.length cb W)
 unfold lgB
 rw [dec_nat];generalize grB s.P s.A.length=g1 at *;generalize grB s.Q s.B.length=g2 at *
 cases g1
 ·rw [Bool.false_or]
  cases g2
  ·rw [Bool.false_or]
   go_enter Tryz.func60,Tryz.ntmps60
   refine T_0.out.k7 fun aa ab ac ad ae af ag ah=>?_;go_wp2_with fail
   clear aa ab ac ad ae af ag ah;generalize (w.alloc (.cells #[.int .i64 s.P,.slice oa s.A.length ca,.int .i64 s.Q,.slice ob s.B.length cb,.int .i64 s.a,.int .i64 s.b,.slice ol s.L.length cl] 26))=w0 at *;refine (G1.out _).mono ?_;rintro e w1 ⟨rfl,hb⟩;have ai:=zd aj hb;have T_1:=zh (T_0.out.keep hb);clear hb aj T_0;refine T_1.out.k7 fun aa ab ac ad ae af ag ah=>?_;go_wp2_with fail
   clear aa ab ac ad ae af ag ah;refine (G2.out _).mono ?_;rintro e w2 ⟨rfl,hb⟩;have ak:=zd ai hb;have T_2:=zh (T_1.out.keep hb);clear hb ai T_1;refine T_2.out.k7 fun aa ab ac ad ae af ag ah=>?_;go_wp2
   go_ret
   exact ⟨rfl,ak.out⟩
  ·rw [Bool.true_or]
   go_enter Tryz.func60,Tryz.ntmps60
   refine T_0.out.k7 fun aa ab ac ad ae af ag ah=>?_;go_wp2_with fail
   clear aa ab ac ad ae af ag ah;generalize (w.alloc (.cells #[.int .i64 s.P,.slice oa s.A.length ca,.int .i64 s.Q,.slice ob s.B.length cb,.int .i64 s.a,.int .i64 s.b,.slice ol s.L.length cl] 26))=w0 at *;refine (G1.out _).mono ?_;rintro e w1 ⟨rfl,hb⟩;have ai:=zd aj hb;have T_1:=zh (T_0.out.keep hb);clear hb aj T_0;refine T_1.out.k7 fun aa ab ac ad ae af ag ah=>?_;go_wp2_with fail
   clear aa ab ac ad ae af ag ah;refine (G2.out _).mono ?_;rintro e w2 ⟨rfl,hb⟩;have ak:=zd ai hb;have T_2:=zh (T_1.out.keep hb);clear hb ai T_1;refine T_2.out.k7 fun aa ab ac ad ae af ag ah=>?_;go_wp2
   go_ret
   exact ⟨rfl,ak.out⟩
 ·rw [Bool.true_or,Bool.true_or];clear G2
  go_enter Tryz.func60,Tryz.ntmps60
  refine T_0.out.k7 fun aa ab ac ad ae af ag ah=>?_;go_wp2_with fail
  clear aa ab ac ad ae af ag ah;generalize (w.alloc (.cells #[.int .i64 s.P,.slice oa s.A.length ca,.int .i64 s.Q,.slice ob s.B.length cb,.int .i64 s.a,.int .i64 s.b,.slice ol s.L.length cl] 26))=w0 at *;refine (G1.out _).mono ?_;rintro e w1 ⟨rfl,hb⟩;have ai:=zd aj hb;have T_1:=zh (T_0.out.keep hb);clear hb aj T_0;refine T_1.out.k7 fun aa ab ac ad ae af ag ah=>?_;go_wp2
  go_ret
  exact ⟨rfl,ai.out⟩
def SetAt (w:World) (b off j:Nat) (s:TS):Prop:=∃ (oa ob ol:Option Addr) (ca cb cl:Nat),w.cell? ⟨b,off+j * 7,none⟩=some (.int .i64 s.P)∧w.cell? ⟨b,off+j * 7+1,none⟩=some (.slice oa s.A.length ca)∧w.cell? ⟨b,off+j * 7+2,none⟩=some (.int .i64 s.Q)∧w.cell? ⟨b,off+j * 7+3,none⟩=some (.slice ob s.B.length cb)∧w.cell? ⟨b,off+j * 7+4,none⟩=some (.int .i64 s.a)∧w.cell? ⟨b,off+j * 7+5,none⟩=some (.int .i64 s.b)∧w.cell? ⟨b,off+j * 7+6,none⟩=some (.slice ol s.L.length cl)
theorem SetAt.keep {w w':World} {b off j:Nat} {s:TS} (h:SetAt w b off j s) (lt:b<w.heap.size) (hb:Below w.heap.size w w'):SetAt w' b off j s:=by
 obtain ⟨oa,ob,ol,ca,cb,cl,h0,h1,h2,h3,h4,h5,h6⟩:=h;exact ⟨oa,ob,ol,ca,cb,cl,(hb.cell (p:=⟨b,_,none⟩) lt).trans h0,(hb.cell (p:=⟨b,_,none⟩) lt).trans h1,(hb.cell (p:=⟨b,_,none⟩) lt).trans h2,(hb.cell (p:=⟨b,_,none⟩) lt).trans h3,(hb.cell (p:=⟨b,_,none⟩) lt).trans h4,(hb.cell (p:=⟨b,_,none⟩) lt).trans h5,(hb.cell (p:=⟨b,_,none⟩) lt).trans h6⟩
def lgs (n:Nat) (f:Nat→TS):Bool:=(List.range n).any fun j=>lgB (f j)
theorem lgs_no {n:Nat} {f:Nat→TS} {k:Nat} (h:k<n) (e:lgB (f k)=true):lgs n f=true:=List.any_eq_true.2 ⟨k,List.mem_range.2 h,e⟩
theorem lgs_yes {n:Nat} {f:Nat→TS} (h:∀ j,j<n→lgB (f j)=false):lgs n f=false:=by
 rw [← Bool.not_eq_true];intro c;obtain ⟨j,hj,e⟩:=List.any_eq_true.1 c;rw [h j (List.mem_range.1 hj)] at e
 cases e
set_option maxRecDepth 100000 in
set_option maxHeartbeats 4000000 in
theorem lindex (n b off:Nat) (f:Nat→TS) (hn:n≤10) (w:World) (h:∀ j,j<n→SetAt w b off j (f j)) (lt:b<w.heap.size) :
  Calls Tryz.prog 113 #[.slice (some ⟨b,off,none⟩) n n,.func (.func 60) #[] #[]] w fun e w'=>(∃ i:Int,e=.returned (.int .i64 i)∧decide (0≤i)=lgs n f)∧Below w.heap.size w w':=by
 have A0:Hid (Below w.heap.size w w):=here w;have HL:=zh h;have no:Hid (∀ k,k<n→lgB (f k)=true→lgs n f=true):=fun k hk e=>lgs_no hk e;have yes:Hid ((∀ j,j<n→lgB (f j)=false)→lgs n f=false):=fun h=>lgs_yes h;clear h;generalize lgs n f=SB at *
 go_enter Tryz.func113,Tryz.ntmps113
 go_wp2
 go_loopw [8] (fun i wr=>∃ k:Nat,k≤n∧i=.int .i64 k∧Hid (∀ j,j<k→lgB (f j)=false)∧Hid (Below w.heap.size w wr)) (fun i _=>n - (intOf i).toNat)
 case atStart=>exact ⟨0,Nat.zero_le _,rfl,fun j hj=>absurd hj (Nat.not_lt_zero _),A0⟩
 case round =>
  obtain ⟨k,hk,rfl,HU,HA⟩:=hrel;clear A0
  by_cases z:k<n
  ·have kz:decide ((k:Int)<(n:Int))=true:=zdt (by omega);obtain ⟨oa,ob,ol,ca,cb,cl,c0,c1,c2,c3,c4,c5,c6⟩:=(HL.out k z).keep lt HA.out;have lt':b<wr.heap.size:=zll lt HA.out.size;have HS:=zh (fun w=>llarge1 (f k) oa ob ol ca cb cl w);clear yes;obtain ⟨u,hu⟩:∃ u,lgB (f k)=u:=⟨_,rfl⟩;rw [hu] at HS;have r0:=no.out k z;have HU2:u=false→Hid (∀ j,j<k+1→lgB (f j)=false):=fun e j hj=>by
    rcases Nat.lt_or_ge j k with y | y
    ·exact HU.out j y
    ·obtain rfl:j=k:=by omega
     rw [hu,e]
   rw [hu] at r0;clear hu no HU HL;generalize f k=q at *
   cases u
   ·have HU3:=HU2 rfl;clear r0 HU2;replace HS:Hid (∀ w,Calls Tryz.prog 60 #[.agg #[.int .i64 q.P,.slice oa q.A.length ca,.int .i64 q.Q,.slice ob q.B.length cb,.int .i64 q.a,.int .i64 q.b,.slice ol q.L.length cl]] w fun e w'=>e=.returned (.bool false)∧Below w.heap.size w w'):=HS;go_wp2_with (go_at_call 60;refine (HS.out _).mono ?_;rintro e w1 ⟨rfl,hb⟩;have A1:=zd HA hb;clear hb)
    go_roundw
    case rel=>exact ⟨k+1,by omega,by go_num,HU3,A1⟩
    case measure=>simp [intOf];omega
   ·have r2:=zh (r0 rfl);clear r0 HU2;replace HS:Hid (∀ w,Calls Tryz.prog 60 #[.agg #[.int .i64 q.P,.slice oa q.A.length ca,.int .i64 q.Q,.slice ob q.B.length cb,.int .i64 q.a,.int .i64 q.b,.slice ol q.L.length cl]] w fun e w'=>e=.returned (.bool true)∧Below w.heap.size w w'):=HS;go_wp2_with (go_at_call 60;refine (HS.out _).mono ?_;rintro e w1 ⟨rfl,hb⟩;have A1:=zd HA hb;clear hb)
    go_ret
    refine ⟨⟨_,rfl,?_⟩,A1.out⟩;rw [r2.out];exact zdt (by omega)
  ·have kz:decide ((k:Int)<(n:Int))=false:=zdf (by omega);obtain rfl:k=n:=by omega
   have r2:=zh (yes.out HU.out);clear yes no HU z;go_wp2
   go_ret
   exact ⟨⟨_,rfl,by rw [r2.out];rfl⟩,HA.out⟩
set_option maxRecDepth 100000 in
set_option maxHeartbeats 4000000 in
theorem lcontains (n b off:Nat) (f:Nat→TS) (hn:n≤10) (w:World) (h:∀ j,j<n→SetAt w b off j (f j)) (lt:b<w.heap.size) :
  Calls Tryz.prog 59 #[.slice (some ⟨b,off,none⟩) n n,.func (.func 60) #[] #[]] w fun e w'=>e=.returned (.bool (lgs n f))∧Below w.heap.size w w':=by
 have HI:=zh (lindex n b off f hn w h lt);generalize lgs n f=t at *;clear h hn lt
 go_enter Tryz.func59,Tryz.ntmps59
 go_wp2_with fail
 refine HI.out.mono ?_;rintro e w1 ⟨⟨i,rfl,hi⟩,hb⟩;replace hb:=zh hb;go_wp2
 go_ret
 exact ⟨by first | rfl | rw [hi],hb.out⟩
set_option maxRecDepth 100000 in
set_option maxHeartbeats 4000000 in
theorem llarge (n b:Nat) (f:Nat→TS) (hn:n≤10) (w:World) (h:∀ j,j<n→SetAt w b 0 j (f j)) (lt:b<w.heap.size) :
  Calls Tryz.prog 15 #[.slice (some ⟨b,0,none⟩) n n] w fun e w'=>e=.returned (.bool (lgs n f))∧Below w.heap.size w w':=by
 have HI:=zh (lcontains n b 0 f hn w h lt);generalize lgs n f=t at *;clear h hn lt
 go_enter Tryz.func15,Tryz.ntmps15
 go_wp2_with fail
 refine HI.out.mono ?_;rintro e w1 ⟨rfl,hb⟩;replace hb:=zh hb;go_wp2
 go_ret
 exact ⟨rfl,hb.out⟩
end Go.Proofs.YtmamlgaogpkagaaGreat
