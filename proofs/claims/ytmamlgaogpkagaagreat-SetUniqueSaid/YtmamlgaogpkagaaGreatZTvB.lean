/- TvB TvD TrA. -/
import Derived.Test.YtmamlgaogpkagaaGreatZLPlain
import Derived.Test.YtmamlgaogpkagaaGreatZLGen
import Derived.Test.YtmamlgaogpkagaaGreatZLSl
import Derived.Test.YtmamlgaogpkagaaGreatZLOwn
import Derived.Test.YtmamlgaogpkagaaGreatZRnP
import Derived.Test.YtmamlgaogpkagaaGreatZPeKE
import Derived.Test.YtmamlgaogpkagaaGreatZPeKK
import Derived.Test.YtmamlgaogpkagaaGreatZPeGD
import Derived.Test.YtmamlgaogpkagaaGreatZTsR
import Derived.Test.YtmamlgaogpkagaaGreatZTsG
import Derived.Test.YtmamlgaogpkagaaGreatZTsH
import Derived.Test.YtmamlgaogpkagaaGreatZTsA
import Derived.Test.YtmamlgaogpkagaaGreatZTsI
import Derived.Test.YtmamlgaogpkagaaGreatZTsZ
import Derived.Test.YtmamlgaogpkagaaGreatZTvC
import Derived.StillTailTactics
import Derived.BigQuiet
import Derived.Deep.QuietTactic
import Derived.Laws.EntriesVeiled
namespace Go.Proofs.YtmamlgaogpkagaaGreat
open Go.RowKit
set_option linter.unusedVariables false
set_option linter.unusedSimpArgs false
theorem mod_small (x P:Int) (p0:1≤P):0≤x % P∧x % P<P:=⟨Int.emod_nonneg x (by omega),Int.emod_lt_of_pos x (by omega)⟩
set_option maxRecDepth 100000 in
set_option maxHeartbeats 2000000 in
theorem tvper1 (P:Int) (A:List Sp) (p0:1≤P) (p1:P≤12622780800) (va vv:Value) (b c:Nat) (x:Int) (hx:I64 x) (w:World) (hb:Bxs w b [.int .i64 P,va]) (hc:One w c vv) (h:Vw w vv (inB A) (nxL A)) (nr:x % P<nxL A (x % P)) :
  Calls Tryz.prog 157 #[.int .i64 x,.pointer (some ⟨b,0,none⟩),.pointer (some ⟨c,0,none⟩)] w fun e w'=>(∃ n,e=.returned (.tuple #[.bool (hsP P A x),.int .i64 n])∧(-1152921504606846976≤x→x≤1152921504606846976→n=nxP P A x))∧Below w.heap.size w w':=by
 obtain ⟨m0,m1⟩:=mod_small x P p0;have HM:=zh (fun W=>cmodP x P hx (by omega) p1 W);obtain ⟨g,caps,rfl,eg,hg⟩:=h;have HG:=zh (fun W (hW:Below w.heap.size w W)=>hg W (Far.of hW) (x % P) ⟨by omega,by omega⟩);have np:nxP P A x=if P=1 then farI else x - x % P+mnI (nxL A (x % P)) P:=rfl;have hs:hsP P A x=inB A (x % P):=rfl;rw [hs,np];obtain ⟨hx0,hx1⟩:=hx;have hb':=zh hb;have hc':=zh hc;have b0:=hb.c 0 _ rfl;have bl:=hb.lt;clear hb hc hg np hs;generalize x % P=r at *;generalize inB A r=i at *;generalize nxL A r=nl at *
 by_cases e1:P=1
 ·have k:(P==1)=true:=by rw [beq_iff_eq];exact e1
  rw [if_pos e1];clear e1
  go_enter Tryz.func157,Tryz.ntmps157
  go_wp2_with fail
  refine (HM.out _).mono ?_;rintro e w1 ⟨rfl,d,rfl⟩;have A1:=zh (below_drewN (here w) d);have B1:=zh (hb'.out.keep A1.out);have C1:=zh (hc'.out.keep A1.out);clear b0 bl hb' hc' HM;generalize w.drewN d=w2 at *;have c0:=C1.out.c;have cl:=C1.out.lt;go_wp2_with fail
  go_at_fn g
  refine (HG.out _ A1.out).mono ?_;rintro e w3 ⟨⟨n,rfl,hn⟩,hb⟩;have A3:=zd A1 hb;have B3:=zh (B1.out.keep hb);clear B1 C1 hb c0 cl A1 HG eg;have b0:=B3.out.c 0 _ rfl;have bl:=B3.out.lt;have en:n=nl:=hn (by omega) (by omega);subst en;clear hn B3;go_wp2
  go_ret2
  exact ⟨⟨_,rfl,fun _ _=>rfl⟩,A3.out⟩
 ·have k:(P==1)=false:=by rw [beq_eq_false_iff_ne];exact e1
  rw [if_neg e1];clear e1
  go_enter Tryz.func157,Tryz.ntmps157
  go_wp2_with fail
  refine (HM.out _).mono ?_;rintro e w1 ⟨rfl,d,rfl⟩;have A1:=zh (below_drewN (here w) d);have B1:=zh (hb'.out.keep A1.out);have C1:=zh (hc'.out.keep A1.out);clear b0 bl hb' hc' HM;generalize w.drewN d=w2 at *;have c0:=C1.out.c;have cl:=C1.out.lt;go_wp2_with fail
  go_at_fn g
  refine (HG.out _ A1.out).mono ?_;rintro e w3 ⟨⟨n,rfl,hn⟩,hb⟩;have A3:=zd A1 hb;have B3:=zh (B1.out.keep hb);clear B1 C1 hb c0 cl A1 HG eg;have b0:=B3.out.c 0 _ rfl;have bl:=B3.out.lt;have en:n=nl:=hn (by omega) (by omega);subst en;clear hn B3;have mm:=mnI_le n P;have mo:=mnI_or n P;have m2:0≤mnI n P:=by omega
  have ef:(if P<n then P else n)=mnI n P:=rfl;have em:=mn_min n P;go_wp2
  by_cases sm:-1152921504606846976≤x∧x≤1152921504606846976
  ·obtain ⟨s0,s1⟩:=sm
   go_quiet (fail)
   go_wp2
   go_ret2
   exact ⟨⟨_,rfl,fun _ _=>rfl⟩,below_drewN A3.out _⟩
  ·go_quiet (fail)
   go_wp2
   go_ret2
   exact ⟨⟨_,rfl,fun h k=>absurd ⟨h,k⟩ sm⟩,below_drewN A3.out _⟩
set_option maxRecDepth 100000 in
set_option maxHeartbeats 2000000 in
theorem tvper (P:Int) (A:List Sp) (pw:PW P A) (va:Value) {ba:Nat} (w0 w:World) (h:PairS ba w0 va A) (A0:Below w0.heap.size w0 w) (X:Nat→Prop) (hX:∀ b,X b→w0.heap.size≤b∧b<w.heap.size) :
  Calls Tryz.prog 123 #[.agg #[.int .i64 P,va]] w fun e w'=>(∃ v',e=.returned v'∧VwX X w' v' (hsP P A) (nxP P A))∧Below w.heap.size w w':=by
 obtain ⟨ao,cp,rfl⟩:=prs_shape h;obtain ⟨w1,hw1⟩:∃ w1:World,w.alloc (.cells #[.int .i64 P,.slice ao A.length cp] 24)=w1:=⟨_,rfl⟩;have B1:Hid (Bxs w1 w.heap.size [.int .i64 P,.slice ao A.length cp]):=by show Bxs _ _ _;rw [← hw1];exact Bxs.new _ _
 have A1:Hid (Below w.heap.size w w1):=by show Below _ _ _;rw [← hw1];exact grow (here w) _
 have s1:w1.heap.size=w.heap.size+1:=by rw [← hw1];exact size_two _ _
 have HL:=zh (tvlist A pw.cn (by have:=pw.len;omega) _ w0 w1 h (down A0 A1.out) X (fun b c=>by have:=hX b c;omega));have hmf:∀ (fn:Fn) (first cap:Array Value) (w:World),(Instr.makeFunc fn first cap).run Tryz.prog w=.ok (.func fn first cap) w:=fun _ _ _ _=>rfl;refine B1.out.k2 fun b0 b1 bl=>?_
 go_enter Tryz.func123,Tryz.ntmps123
 go_wp2_with fail
 refine HL.out.mono ?_;rintro e w2 ⟨⟨v2,rfl,V2⟩,hb⟩;obtain ⟨g2,c2,rfl⟩:=V2.shape;obtain ⟨w3,hw3⟩:∃ w3:World,w2.alloc (.cells #[.func (.func g2) #[] c2] 86)=w3:=⟨_,rfl⟩;have A2:=down A1.out hb;have B2:=B1.out.keep hb;have g3:Below w2.heap.size w2 w3:=by rw [← hw3];exact grow (here w2) _
 have C3:One w3 w2.heap.size (.func (.func g2) #[] c2):=by rw [← hw3];exact One.new (here _)
 have B3:=B2.keep g3;have V3:=V2.keep g3;have A3:=zh (down A2 g3);have V:=zh (show VwX X w3 (.func (.func 157) #[] #[.pointer (some ⟨w.heap.size,0,none⟩),.pointer (some ⟨w2.heap.size,0,none⟩)]) (hsP P A) (nxP P A) from
  ⟨_,_,rfl,fun _ _=>rfl,fun W hW x hx=>tvper1 P A pw.p0 pw.p1 _ _ _ _ x hx W (Far.bxs B3 hW (fun c=>Nat.lt_irrefl _ (hX _ c).2)) (Far.one C3 hW (fun c=>by have:=(hX _ c).2;have:=hb.size;omega)) (V3.at hW) (nxL_ok pw.cn (by have:=mod_small x P pw.p0;have:=pw.p1;unfold farI;omega)).lt⟩)
 clear b0 b1 bl hb HL A1 B1 V2 A2 B2 g3 C3 B3 V3;go_wp2
 go_ret
 exact ⟨⟨_,rfl,V.out⟩,A3.out⟩
theorem VwX.sub {X:Nat→Prop} {Y:Nat→Prop} {w w':World} {v:Value} {f:Int→Bool} {nx:Int→Int} (hb:Far (fun b=>X b∨Y b) w w') (h:VwX (fun b=>X b∨Y b) w v f nx):VwX X w' v f nx:=by
 obtain ⟨g,caps,e,eg,k⟩:=h;exact ⟨g,caps,e,eg,fun W hW x hx=>k W (hb.trans ⟨hW.os,hW.tape,hW.output,hW.size,fun i hi hx=>hW.block i hi (fun c=>hx (Or.inl c))⟩) x hx⟩
set_option maxRecDepth 100000 in
set_option maxHeartbeats 2000000 in
theorem tvset1 (s:TS) (va vb vl v3 v4 v5:Value) (b0 b3 b4 b5:Nat) (x:Int) (hx:I64 x) (w:World) (hb:Bxs w b0 [.int .i64 s.P,va,.int .i64 s.Q,vb,.int .i64 s.a,.int .i64 s.b,vl]) (h3:One w b3 v3) (h4:One w b4 v4) (h5:One w b5 v5) (V3:Vw w v3 (hsP s.P s.A) (nxP s.P s.A)) (V4:Vw w v4 (inB s.L) (nxL s.L)) (V5:Vw w v5 (hsP s.Q s.B) (nxP s.Q s.B)) :
  Calls Tryz.prog 125 #[.int .i64 x,.pointer (some ⟨b0,0,none⟩),.pointer (some ⟨b3,0,none⟩),.pointer (some ⟨b4,0,none⟩),.pointer (some ⟨b5,0,none⟩)] w fun e w'=>(∃ n,e=.returned (.tuple #[.bool (hsT s x),.int .i64 n])∧(-1152921504606846976≤x→x≤1152921504606846976→n=nxT s x))∧Below w.heap.size w w':=by
 have e1:hsT s x=if x<s.a then hsP s.P s.A x else if x<s.b then inB s.L x else hsP s.Q s.B x:=rfl;have e2:nxT s x=if x<s.a then mnI (nxP s.P s.A x) s.a else if x<s.b then mnI (nxL s.L x) s.b else nxP s.Q s.B x:=rfl;rw [e1,e2];clear e1 e2
 by_cases c:x<s.a
 ·have kc:decide (x<s.a)=true:=zdt c;rw [if_pos c,if_pos c];clear c V4 V5;obtain ⟨g,caps,rfl,eg,hg⟩:=V3;have HG:=zh (fun W (hW:Below w.heap.size w W)=>hg W (Far.of hW) x hx);have B0:=zh hb;have s2:=hb.c 4 _ rfl;have s3:=hb.c 5 _ rfl;have sl:=hb.lt;have v0:=h3.c;have v1:=h3.lt;clear hg hb h3 h4 h5
  go_enter Tryz.func125,Tryz.ntmps125
  go_wp2_with fail
  go_at_fn g
  refine (HG.out _ (here w)).mono ?_;rintro e w3 ⟨⟨n,rfl,hn⟩,hb⟩;have A3:=zh hb;have B3:=zh (B0.out.keep hb);clear hb B0 s2 s3 sl v0 v1 HG eg;replace hn:=zh hn;have s2:=B3.out.c 4 _ rfl;have s3:=B3.out.c 5 _ rfl;have sl:=B3.out.lt;have ef:(if s.a<n then s.a else n)=mnI n (s.a):=rfl;have em:=mn_min n (s.a);go_wp2
  go_quiet (fail)
  go_wp2
  go_ret2
  exact ⟨⟨_,rfl,fun h k=>by rw [hn.out h k]⟩,below_drewN A3.out _⟩
 ·have kc:decide (x<s.a)=false:=zdf c;rw [if_neg c,if_neg c];clear c
  by_cases d:x<s.b
  ·have kd:decide (x<s.b)=true:=zdt d;rw [if_pos d,if_pos d];clear d V3 V5;obtain ⟨g,caps,rfl,eg,hg⟩:=V4;have HG:=zh (fun W (hW:Below w.heap.size w W)=>hg W (Far.of hW) x hx);have B0:=zh hb;have s2:=hb.c 4 _ rfl;have s3:=hb.c 5 _ rfl;have sl:=hb.lt;have v0:=h4.c;have v1:=h4.lt;clear hg hb h3 h4 h5
   go_enter Tryz.func125,Tryz.ntmps125
   go_wp2_with fail
   go_at_fn g
   refine (HG.out _ (here w)).mono ?_;rintro e w3 ⟨⟨n,rfl,hn⟩,hb⟩;have A3:=zh hb;have B3:=zh (B0.out.keep hb);clear hb B0 s2 s3 sl v0 v1 HG eg;replace hn:=zh hn;have s2:=B3.out.c 4 _ rfl;have s3:=B3.out.c 5 _ rfl;have sl:=B3.out.lt;have ef:(if s.b<n then s.b else n)=mnI n (s.b):=rfl;have em:=mn_min n (s.b);go_wp2
   go_quiet (fail)
   go_wp2
   go_ret2
   exact ⟨⟨_,rfl,fun h k=>by rw [hn.out h k]⟩,below_drewN A3.out _⟩
  ·have kd:decide (x<s.b)=false:=zdf d;rw [if_neg d,if_neg d];clear d V3 V4;obtain ⟨g,caps,rfl,eg,hg⟩:=V5;have HG:=zh (fun W (hW:Below w.heap.size w W)=>hg W (Far.of hW) x hx);have B0:=zh hb;have s2:=hb.c 4 _ rfl;have s3:=hb.c 5 _ rfl;have sl:=hb.lt;have v0:=h5.c;have v1:=h5.lt;clear hg hb h3 h4 h5
   go_enter Tryz.func125,Tryz.ntmps125
   go_wp2_with fail
   go_at_fn g
   refine (HG.out _ (here w)).mono ?_;rintro e w3 ⟨⟨n,rfl,hn⟩,hb⟩;have A3:=zh hb;have B3:=zh (B0.out.keep hb);clear hb B0 s2 s3 sl v0 v1 HG eg;replace hn:=zh hn;go_wp2
   go_ret2
   exact ⟨⟨_,rfl,hn.out⟩,A3.out⟩
theorem World.one_set {W:World} {b c:Nat} {v:Value} (h:One W b v) (ne:b≠c) (u:Value):One (W.setCell ⟨c,0,none⟩ u) b v :=
 ⟨by rw [zcn ne];exact h.c,by rw [size_set];exact h.lt⟩
theorem Bxo.one {W:World} {b:Nat} {z:Value} (h:Bxo W b [z]) (v:Value):One (W.setCell ⟨b,0,none⟩ v) b v :=
 ⟨World.cell?_setCell_same W _ _ (h.t.c 0 _ rfl),by rw [size_set];exact h.t.lt⟩
theorem Bxo.away {W:World} {b c j:Nat} {zs:List Value} (h:Bxo W b zs) (ne:b≠c) (u:Value):Bxo (W.setCell ⟨c,j,none⟩ u) b zs :=
 ⟨⟨fun i v e=>by
  rw [zcn ne];exact h.t.c i v e,by rw [size_set];exact h.t.lt⟩,fun i=>by rw [World.frozen?_setCell];exact h.f i⟩
set_option maxRecDepth 100000 in
set_option maxHeartbeats 2000000 in
theorem tvsetX (s:TS) (gw:GW s) (va vb vl:Value) (w0 w:World) (h:SS3 w0 s va vb vl) (A0:Below w0.heap.size w0 w) (X:Nat→Prop) (hX:∀ b,X b→w0.heap.size≤b∧b<w.heap.size) :
  Calls Tryz.prog 68 #[.agg #[.int .i64 s.P,va,.int .i64 s.Q,vb,.int .i64 s.a,.int .i64 s.b,vl]] w fun e w'=>(∃ v',e=.returned v'∧VwX X w' v' (hsT s) (nxT s))∧Below w.heap.size w w':=by
 obtain ⟨w1,hw1⟩:∃ w1:World,(w.alloc (.cells #[.int .i64 s.P,va,.int .i64 s.Q,vb,.int .i64 s.a,.int .i64 s.b,vl] 26))=w1:=⟨_,rfl⟩;have B1:Hid (Bxs w1 w.heap.size [.int .i64 s.P,va,.int .i64 s.Q,vb,.int .i64 s.a,.int .i64 s.b,vl]):=by show Bxs _ _ _;rw [← hw1];exact Bxs.new _ _
 have A1:Hid (Below w.heap.size w w1):=by show Below _ _ _;rw [← hw1];exact grow (here w) _
 have s1:w1.heap.size=w.heap.size+1:=by rw [← hw1];exact size_two _ _
 have s0:=A0.size;have H1:=zh (fun W (k:Below w1.heap.size w1 W) (Y:Nat→Prop) (hY:∀ b,Y b→w0.heap.size≤b∧b<W.heap.size)=>tvper s.P s.A gw.p va w0 W h.a (down A0 (down A1.out k)) Y hY);have H2:=zh (fun W (k:Below w1.heap.size w1 W) (Y:Nat→Prop) (hY:∀ b,Y b→w0.heap.size≤b∧b<W.heap.size)=>tvlist s.L gw.cn (by have:=gw.len;omega) vl w0 W h.l (down A0 (down A1.out k)) Y hY);have H3:=zh (fun W (k:Below w1.heap.size w1 W) (Y:Nat→Prop) (hY:∀ b,Y b→w0.heap.size≤b∧b<W.heap.size)=>tvper s.Q s.B gw.q vb w0 W h.b (down A0 (down A1.out k)) Y hY);have hmf:∀ (fn:Fn) (first cap:Array Value) (w:World),(Instr.makeFunc fn first cap).run Tryz.prog w=.ok (.func fn first cap) w:=fun _ _ _ _=>rfl;clear h
 go_enter Tryz.func68,Tryz.ntmps68
 go_wp2
 refine vo_region _ s.P s.Q s.a s.b va vb vl _ w.heap.size _ _ _ _ _ _ w1 w1 (fun _ _ _ _ _ h=>h) X w0.heap.size (by omega) (fun b c=>by have:=hX b c;omega) H1 H2 H3 ⟨here w1,B1.out.c 0 _ rfl,B1.out.c 1 _ rfl,B1.out.c 2 _ rfl,B1.out.c 3 _ rfl,B1.out.c 4 _ rfl,B1.out.c 5 _ rfl,B1.out.c 6 _ rfl,B1.out.lt⟩ trivial ?_;intro g0 k0 g1 k1 g2 k2 C3 C4 C5 W hW V0 V1 V2 N0 N1 N2 D01 D02 D12;have m0:=N0.le;have m1:=N1.le;have m2:=N2.le;have AX:Below w1.heap.size w1 (((W.setCell ⟨C3,0,none⟩ (.func (.func g0) #[] k0)).setCell ⟨C4,0,none⟩ (.func (.func g1) #[] k1)).setCell ⟨C5,0,none⟩ (.func (.func g2) #[] k2)):=((hW.1.setCell (p:=⟨C3,0,none⟩) m0 _).setCell (p:=⟨C4,0,none⟩) m1 _).setCell (p:=⟨C5,0,none⟩) m2 _;have O0:One (((W.setCell ⟨C3,0,none⟩ (.func (.func g0) #[] k0)).setCell ⟨C4,0,none⟩ (.func (.func g1) #[] k1)).setCell ⟨C5,0,none⟩ (.func (.func g2) #[] k2)) C3 (.func (.func g0) #[] k0):=World.one_set (World.one_set (N0.o.one _) D01 _) D02 _;have O1:One (((W.setCell ⟨C3,0,none⟩ (.func (.func g0) #[] k0)).setCell ⟨C4,0,none⟩ (.func (.func g1) #[] k1)).setCell ⟨C5,0,none⟩ (.func (.func g2) #[] k2)) C4 (.func (.func g1) #[] k1):=World.one_set ((N1.o.away (fun h=>D01 h.symm) _).one _) D12 _;have O2:One (((W.setCell ⟨C3,0,none⟩ (.func (.func g0) #[] k0)).setCell ⟨C4,0,none⟩ (.func (.func g1) #[] k1)).setCell ⟨C5,0,none⟩ (.func (.func g2) #[] k2)) C5 (.func (.func g2) #[] k2):=((N2.o.away (fun h=>D02 h.symm) _).away (fun h=>D12 h.symm) _).one _;have FX:Far (fun b=>X b∨b=C3∨b=C4∨b=C5) W (((W.setCell ⟨C3,0,none⟩ (.func (.func g0) #[] k0)).setCell ⟨C4,0,none⟩ (.func (.func g1) #[] k1)).setCell ⟨C5,0,none⟩ (.func (.func g2) #[] k2)):=(((Far.of (here W)).setCell (p:=⟨C3,0,none⟩) (Or.inl (Or.inr (Or.inl rfl))) _).setCell (p:=⟨C4,0,none⟩) (Or.inl (Or.inr (Or.inr (Or.inl rfl)))) _).setCell (p:=⟨C5,0,none⟩) (Or.inl (Or.inr (Or.inr (Or.inr rfl)))) _;have Y0:=VwX.sub FX V0;have Y1:=VwX.sub FX V1;have Y2:=VwX.sub FX V2;have BX:=B1.out.keep AX;have AY:=zd A1 AX;clear FX V0 V1 V2 N0 N1 N2 D01 D02 D12 AX hW H1 H2 H3 B1 A1 hw1;generalize (((W.setCell ⟨C3,0,none⟩ (.func (.func g0) #[] k0)).setCell ⟨C4,0,none⟩ (.func (.func g1) #[] k1)).setCell ⟨C5,0,none⟩ (.func (.func g2) #[] k2))=Z at *;have V:=zh (show VwX X Z (.func (.func 125) #[] #[.pointer (some ⟨w.heap.size,0,none⟩),.pointer (some ⟨C3,0,none⟩),.pointer (some ⟨C4,0,none⟩),.pointer (some ⟨C5,0,none⟩)]) (hsT s) (nxT s) from
  ⟨_,_,rfl,fun _ _=>rfl,fun W hW x hx=>tvset1 s va vb vl _ _ _ _ _ _ _ x hx W (Far.bxs BX hW (fun c=>Nat.lt_irrefl _ (hX _ c).2)) (Far.one O0 hW (fun c=>by have:=(hX _ c).2;omega)) (Far.one O1 hW (fun c=>by have:=(hX _ c).2;omega)) (Far.one O2 hW (fun c=>by have:=(hX _ c).2;omega)) (Y0.at hW) (Y1.at hW) (Y2.at hW)⟩)
 clear BX O0 O1 O2 Y0 Y1 Y2 hX A0 m0 m1 m2 s1 s0;go_wp2
 go_ret
 exact ⟨⟨_,rfl,V.out⟩,AY.out⟩
theorem tvset (s:TS) (gw:GW s) (va vb vl:Value) (w:World) (h:SS3 w s va vb vl) :
  Calls Tryz.prog 68 #[.agg #[.int .i64 s.P,va,.int .i64 s.Q,vb,.int .i64 s.a,.int .i64 s.b,vl]] w fun e w'=>(∃ v',e=.returned v'∧Vw w' v' (hsT s) (nxT s))∧Below w.heap.size w w' :=
 tvsetX s gw va vb vl w w h (here w) (fun _=>False) (fun _ c=>c.elim)
set_option maxRecDepth 100000 in
set_option maxHeartbeats 4000000 in
theorem rtof (P Q:Int) (va vb vl:Value) (A B l:List Sp) (hA:A.length≤maxLen) (hB:B.length≤maxLen) (hl:l.length≤maxLen) (hP:I64 P) (hQ:I64 Q) (lo hi:Int) (h1:I64 lo) (h2:I64 hi) {ba bb bl:Nat} (w:World) (a:PairS ba w va A) (b:PairS bb w vb B) (pl:PairS bl w vl l) :
  Calls Tryz.prog 18 #[.agg #[.int .i64 P,va],.agg #[.int .i64 Q,vb],.int .i64 lo,.int .i64 hi,vl] w (TsO w (toR P A Q B lo hi l)):=by
 obtain ⟨oa,ca,rfl⟩:=prs_shape a;obtain ⟨ob,cb,rfl⟩:=prs_shape b;obtain ⟨ol,cl,rfl⟩:=prs_shape pl;have ax:=zh (grow (grow (grow (here w) (.cells #[.int .i64 P,.slice oa A.length ca] 24)) (.cells #[.int .i64 Q,.slice ob B.length cb] 24)) (.cells #[.int .i64 0,.slice none 0 0,.int .i64 0,.slice none 0 0,.int .i64 0,.int .i64 0,.slice none 0 0] 26));have T_0:=zh (((Bxs.new (w:=w) [.int .i64 P,.slice oa A.length ca] 24).old (.cells #[.int .i64 Q,.slice ob B.length cb] 24)).old (.cells #[.int .i64 0,.slice none 0 0,.int .i64 0,.slice none 0 0,.int .i64 0,.int .i64 0,.slice none 0 0] 26));have U_0:=zh ((Bxs.snd (w:=w) (o:=(.cells #[.int .i64 P,.slice oa A.length ca] 24)) [.int .i64 Q,.slice ob B.length cb] 24).old (.cells #[.int .i64 0,.slice none 0 0,.int .i64 0,.slice none 0 0,.int .i64 0,.int .i64 0,.slice none 0 0] 26));have R_0:=zh (Bxo.trd (w:=w) (o:=(.cells #[.int .i64 P,.slice oa A.length ca] 24)) (o':=(.cells #[.int .i64 Q,.slice ob B.length cb] 24)) [.int .i64 0,.slice none 0 0,.int .i64 0,.slice none 0 0,.int .i64 0,.int .i64 0,.slice none 0 0] 26);have ay:=zh (a.keep ax.out);have az:=zh (b.keep ax.out);have aA:=zh (pl.keep ax.out);clear a b pl;have GV:=zh (fun W (h:PairS ba W (.slice oa A.length ca) A) (k:PairS bb W (.slice ob B.length cb) B) (m:PairS bl W (.slice ol l.length cl) l)=>rtgiven _ _ _ P Q A B l hA hB hl hP hQ lo hi h1 h2 W h k m);have FO0:Hid (∀ W (h:PairS ba W (.slice oa A.length ca) A) (k:PairS bb W (.slice ob B.length cb) B) (m:PairS bl W (.slice ol l.length cl) l),Giv P A Q B lo hi l→Calls Tryz.prog 65 #[.agg #[.int .i64 P,.slice oa A.length ca],.agg #[.int .i64 Q,.slice ob B.length cb],.int .i64 lo,.int .i64 hi,.slice ol l.length cl] W (TsO W (frT P A Q B (gvF P A Q B lo hi l)))):=fun W h k m g=>rtform _ _ _ P Q A B l lo hi g W h k m;obtain ⟨R,hR⟩:∃ R,toR P A Q B lo hi l=R:=⟨_,rfl⟩;have TL:Hid (TsL R.1):=by show TsL R.1;rw [← hR];exact to_tl P A Q B lo hi l
 have gl:givB P A Q B lo hi l↔Giv P A Q B lo hi l:=giv_iff;have gb:gvB P A Q B lo hi l=true↔givB P A Q B lo hi l:=gvb_iff;rw [hR]
 unfold toR at hR
 clear hA hB hl hP hQ h1 h2
 by_cases c1:givB P A Q B lo hi l
 ·rw [if_pos c1] at hR;rw [gb.2 c1] at GV;have FO:=zh (fun W h k m=>FO0.out W h k m (gl.1 c1));rw [hR] at FO;clear hR FO0 gl gb c1
  go_enter Tryz.func18,Tryz.ntmps18
  refine T_0.out.k2 fun aa ab ac=>?_;refine U_0.out.k2 fun ad ae af=>?_;go_wp2_with fail
  clear aa ab ad ae ac af;generalize (((w.alloc (.cells #[.int .i64 P,.slice oa A.length ca] 24)).alloc (.cells #[.int .i64 Q,.slice ob B.length cb] 24)).alloc (.cells #[.int .i64 0,.slice none 0 0,.int .i64 0,.slice none 0 0,.int .i64 0,.int .i64 0,.slice none 0 0] 26))=w0 at *;refine (GV.out _ ay.out az.out aA.out).mono ?_;rintro e w1 ⟨rfl,hb⟩;have aB:=zd ax hb;have T_1:=zh (T_0.out.keep hb);have U_1:=zh (U_0.out.keep hb);have aC:=zh (ay.out.keep hb);have aD:=zh (az.out.keep hb);have aE:=zh (aA.out.keep hb);have R_1:=zh (R_0.out.keep hb);clear hb ax T_0 U_0 ay az aA R_0;refine T_1.out.k2 fun aa ab ac=>?_;refine U_1.out.k2 fun ad ae af=>?_;go_wp2_with fail
  clear aa ab ad ae ac af;refine (FO.out _ aC.out aD.out aE.out).mono ?_;rintro e w2 ⟨⟨ua,ub,ul,rfl,ss⟩,hb⟩;obtain ⟨ora,cra,rfl⟩:=prs_shape ss.a;obtain ⟨orb,crb,rfl⟩:=prs_shape ss.b;obtain ⟨orl,crl,rfl⟩:=prs_shape ss.l;have aF:=zd aB hb;have T_2:=zh (T_1.out.keep hb);have U_2:=zh (U_1.out.keep hb);have Sa_2:=zh (aC.out.keep hb);have Sb_2:=zh (aD.out.keep hb);have Sl_2:=zh (aE.out.keep hb);have R_2:=zh (R_1.out.keep hb);clear hb aB T_1 U_1 aC aD aE R_1;have aG:=zh ss;clear ss;refine R_2.out.k7 fun ag ah ai aj ak al am an ao ap aq ar au av rl=>?_;go_wp2
  have FB:=R_2.out.put7 (.int .i64 R.1.P) (.slice ora R.1.A.length cra) (.int .i64 R.1.Q) (.slice orb R.1.B.length crb) (.int .i64 R.1.a) (.int .i64 R.1.b) (.slice orl R.1.L.length crl);have AF:=below_put7 aF.out (show w.heap.size≤w.heap.size+1+1 by omega) (.int .i64 R.1.P) (.slice ora R.1.A.length cra) (.int .i64 R.1.Q) (.slice orb R.1.B.length crb) (.int .i64 R.1.a) (.int .i64 R.1.b) (.slice orl R.1.L.length crl);refine FB.k7 fun q0 q1 q2 q3 q4 q5 q6 aw=>?_;clear aw;refine bodyPost_ret (v:=.tuple #[.agg #[.int .i64 R.1.P,.slice ora R.1.A.length cra,.int .i64 R.1.Q,.slice orb R.1.B.length crb,.int .i64 R.1.a,.int .i64 R.1.b,.slice orl R.1.L.length crl],.int .i64 R.2]) (by simp [results,Tryz.results18,go_sem,q0,q1,q2,q3,q4,q5,q6]) rfl ?_;exact ⟨⟨_,_,_,rfl,aG.out.stray TL.out R_2.out (.int .i64 R.1.P) (.slice ora R.1.A.length cra) (.int .i64 R.1.Q) (.slice orb R.1.B.length crb) (.int .i64 R.1.a) (.int .i64 R.1.b) (.slice orl R.1.L.length crl)⟩,AF⟩
 ·rw [if_neg c1] at hR;have gf:gvB P A Q B lo hi l=false:=by
   cases q:gvB P A Q B lo hi l
   ·rfl
   ·exact absurd (gb.1 q) c1
  rw [gf] at GV;replace hR:=zh hR.symm;clear FO0 gl gb c1 gf TL
  go_enter Tryz.func18,Tryz.ntmps18
  refine T_0.out.k2 fun aa ab ac=>?_;refine U_0.out.k2 fun ad ae af=>?_;go_wp2_with fail
  clear aa ab ad ae ac af;generalize (((w.alloc (.cells #[.int .i64 P,.slice oa A.length ca] 24)).alloc (.cells #[.int .i64 Q,.slice ob B.length cb] 24)).alloc (.cells #[.int .i64 0,.slice none 0 0,.int .i64 0,.slice none 0 0,.int .i64 0,.int .i64 0,.slice none 0 0] 26))=w0 at *;refine (GV.out _ ay.out az.out aA.out).mono ?_;rintro e w1 ⟨rfl,hb⟩;have aB:=zd ax hb;have T_1:=zh (T_0.out.keep hb);have U_1:=zh (U_0.out.keep hb);have aC:=zh (ay.out.keep hb);have aD:=zh (az.out.keep hb);have aE:=zh (aA.out.keep hb);have R_1:=zh (R_0.out.keep hb);clear hb ax T_0 U_0 ay az aA R_0;refine T_1.out.k2 fun aa ab ac=>?_;refine U_1.out.k2 fun ad ae af=>?_;refine R_1.out.k7 fun ag ah ai aj ak al am an ao ap aq ar au av rl=>?_;go_wp2
  have FB:=R_1.out.put7 (.int .i64 0) (.slice none 0 0) (.int .i64 0) (.slice none 0 0) (.int .i64 0) (.int .i64 0) (.slice none 0 0);have AF:=below_put7 aB.out (show w.heap.size≤w.heap.size+1+1 by omega) (.int .i64 0) (.slice none 0 0) (.int .i64 0) (.slice none 0 0) (.int .i64 0) (.int .i64 0) (.slice none 0 0);refine FB.k7 fun q0 q1 q2 q3 q4 q5 q6 aw=>?_;clear aw;refine bodyPost_ret (v:=.tuple #[.agg #[.int .i64 0,.slice none 0 0,.int .i64 0,.slice none 0 0,.int .i64 0,.int .i64 0,.slice none 0 0],.int .i64 1]) (by simp [results,Tryz.results18,go_sem,q0,q1,q2,q3,q4,q5,q6]) rfl ?_;rw [hR.out];exact TsO.zero _ AF
theorem vs_of (s:TS):vsB s=(decide ((ofT s).2=0)&&smT s (ofT s).1):=by
 rw [Bool.eq_iff_iff,vs_iff,Bool.and_eq_true,decide_eq_true_iff,sm_iff]
 constructor
 ·intro h;rw [h];exact ⟨rfl,rfl⟩
 ·rintro ⟨h1,h2⟩;exact Prod.ext h2.symm h1
set_option maxRecDepth 100000 in
set_option maxHeartbeats 4000000 in
theorem rtvalid (s:TS) (va vb vl:Value) (ti:TsI s) (w:World) (h:SS3 w s va vb vl) :
  Calls Tryz.prog 16 #[.agg #[.int .i64 s.P,va,.int .i64 s.Q,vb,.int .i64 s.a,.int .i64 s.b,vl]] w fun e w'=>e=.returned (.bool (vsB s))∧Below w.heap.size w w':=by
 obtain ⟨osa,csa,rfl⟩:=prs_shape h.a;obtain ⟨osb,csb,rfl⟩:=prs_shape h.b;obtain ⟨osl,csl,rfl⟩:=prs_shape h.l;have aq:=zh (grow (here w) (.cells #[.int .i64 s.P,.slice osa s.A.length csa,.int .i64 s.Q,.slice osb s.B.length csb,.int .i64 s.a,.int .i64 s.b,.slice osl s.L.length csl] 26));have T_0:=zh (Bxs.new (w:=w) [.int .i64 s.P,.slice osa s.A.length csa,.int .i64 s.Q,.slice osb s.B.length csb,.int .i64 s.a,.int .i64 s.b,.slice osl s.L.length csl] 26);have S_0:=zh (h.keep aq.out);have OF:=zh (fun W (h:SS3 W s (.slice osa s.A.length csa) (.slice osb s.B.length csb) (.slice osl s.L.length csl))=>rtof s.P s.Q _ _ _ s.A s.B s.L ti.A ti.B ti.L ti.P ti.Q s.a s.b ti.a ti.b W h.a h.b h.l);rw [vs_of];have tj:TsI (ofT s).1:=to_ti _ _ _ _ _ _ _;replace OF:Hid (∀ W (h:SS3 W s (.slice osa s.A.length csa) (.slice osb s.B.length csb) (.slice osl s.L.length csl)),Calls Tryz.prog 18 #[.agg #[.int .i64 s.P,.slice osa s.A.length csa],.agg #[.int .i64 s.Q,.slice osb s.B.length csb],.int .i64 s.a,.int .i64 s.b,.slice osl s.L.length csl] W (TsO W (ofT s))):=OF;have SM:=zh (fun W {ra rb rl} (h:SS3 W s (.slice osa s.A.length csa) (.slice osb s.B.length csb) (.slice osl s.L.length csl)) (k:SS3 W (ofT s).1 ra rb rl)=>rtsame s (ofT s).1 _ _ _ _ _ _ ti tj W h k);generalize ofT s=R at *;clear h ti tj
 by_cases z:R.2=0
 ·have kz:(R.2==0)=true:=beq_iff_eq.2 z;rw [zdt z,Bool.true_and];generalize smT s R.1=sm at *;clear z
  go_enter Tryz.func16,Tryz.ntmps16
  refine T_0.out.k7 fun aa ab ac ad ae af ag ah=>?_;go_wp2_with fail
  clear aa ab ac ad ae af ag ah;generalize (w.alloc (.cells #[.int .i64 s.P,.slice osa s.A.length csa,.int .i64 s.Q,.slice osb s.B.length csb,.int .i64 s.a,.int .i64 s.b,.slice osl s.L.length csl] 26))=w0 at *;refine (OF.out _ S_0.out).mono ?_;rintro e w1 ⟨⟨ua,ub,ul,rfl,ss⟩,hb⟩;obtain ⟨ora,cra,rfl⟩:=prs_shape ss.a;obtain ⟨orb,crb,rfl⟩:=prs_shape ss.b;obtain ⟨orl,crl,rfl⟩:=prs_shape ss.l;have ar:=zd aq hb;have T_1:=zh (T_0.out.keep hb);have S_1:=zh (S_0.out.keep hb);clear hb aq T_0 S_0;have au:=zh ss;clear ss;have gb:=grow (here w1) (.cells #[.int .i64 R.1.P,.slice ora R.1.A.length cra,.int .i64 R.1.Q,.slice orb R.1.B.length crb,.int .i64 R.1.a,.int .i64 R.1.b,.slice orl R.1.L.length crl] 26);have av:=zd ar gb;have T_2:=zh (T_1.out.keep gb);have S_2:=zh (S_1.out.keep gb);have aw:=zh (au.out.keep gb);have V_2:=zh (Bxs.new (w:=w1) [.int .i64 R.1.P,.slice ora R.1.A.length cra,.int .i64 R.1.Q,.slice orb R.1.B.length crb,.int .i64 R.1.a,.int .i64 R.1.b,.slice orl R.1.L.length crl] 26);clear gb ar T_1 S_1 au;refine T_2.out.k7 fun aa ab ac ad ae af ag ah=>?_;refine V_2.out.k7 fun ai aj ak al am an ao ap=>?_;go_wp2_with fail
  clear aa ab ac ad ae af ag ai aj ak al am an ao ah ap;generalize (w1.alloc (.cells #[.int .i64 R.1.P,.slice ora R.1.A.length cra,.int .i64 R.1.Q,.slice orb R.1.B.length crb,.int .i64 R.1.a,.int .i64 R.1.b,.slice orl R.1.L.length crl] 26))=w2 at *;refine (SM.out _ S_2.out aw.out).mono ?_;rintro e w3 ⟨rfl,hb⟩;have ax:=zd av hb;have T_3:=zh (T_2.out.keep hb);have V_3:=zh (V_2.out.keep hb);have S_3:=zh (S_2.out.keep hb);have SSr_3:=zh (aw.out.keep hb);clear hb av T_2 V_2 S_2 aw;refine T_3.out.k7 fun aa ab ac ad ae af ag ah=>?_;refine V_3.out.k7 fun ai aj ak al am an ao ap=>?_;go_wp2
  go_ret
  exact ⟨rfl,ax.out⟩
 ·have kz:(R.2==0)=false:=by rw [beq_eq_false_iff_ne];exact z
  rw [zdf z,Bool.false_and];clear z SM
  go_enter Tryz.func16,Tryz.ntmps16
  refine T_0.out.k7 fun aa ab ac ad ae af ag ah=>?_;go_wp2_with fail
  clear aa ab ac ad ae af ag ah;generalize (w.alloc (.cells #[.int .i64 s.P,.slice osa s.A.length csa,.int .i64 s.Q,.slice osb s.B.length csb,.int .i64 s.a,.int .i64 s.b,.slice osl s.L.length csl] 26))=w0 at *;refine (OF.out _ S_0.out).mono ?_;rintro e w1 ⟨⟨ua,ub,ul,rfl,ss⟩,hb⟩;obtain ⟨ora,cra,rfl⟩:=prs_shape ss.a;obtain ⟨orb,crb,rfl⟩:=prs_shape ss.b;obtain ⟨orl,crl,rfl⟩:=prs_shape ss.l;have ar:=zd aq hb;have T_1:=zh (T_0.out.keep hb);have S_1:=zh (S_0.out.keep hb);clear hb aq T_0 S_0;have au:=zh ss;clear ss;have gb:=grow (here w1) (.cells #[.int .i64 R.1.P,.slice ora R.1.A.length cra,.int .i64 R.1.Q,.slice orb R.1.B.length crb,.int .i64 R.1.a,.int .i64 R.1.b,.slice orl R.1.L.length crl] 26);have av:=zd ar gb;have T_2:=zh (T_1.out.keep gb);have S_2:=zh (S_1.out.keep gb);have aw:=zh (au.out.keep gb);have V_2:=zh (Bxs.new (w:=w1) [.int .i64 R.1.P,.slice ora R.1.A.length cra,.int .i64 R.1.Q,.slice orb R.1.B.length crb,.int .i64 R.1.a,.int .i64 R.1.b,.slice orl R.1.L.length crl] 26);clear gb ar T_1 S_1 au;refine T_2.out.k7 fun aa ab ac ad ae af ag ah=>?_;refine V_2.out.k7 fun ai aj ak al am an ao ap=>?_;go_wp2
  go_ret
  exact ⟨rfl,av.out⟩
end Go.Proofs.YtmamlgaogpkagaaGreat
