/- TvB TvC TvD TvE TvF TlA TlAa TvG TvH. -/
import Derived.Test.YtmamlgaogpkagaaGreatQLPlain
import Derived.Test.YtmamlgaogpkagaaGreatQLGen
import Derived.Test.YtmamlgaogpkagaaGreatQLSl
import Derived.Test.YtmamlgaogpkagaaGreatQRnT
import Derived.Test.YtmamlgaogpkagaaGreatQRnV
import Derived.Test.YtmamlgaogpkagaaGreatQRnKA
import Derived.Test.YtmamlgaogpkagaaGreatQRnKF
import Derived.Test.YtmamlgaogpkagaaGreatQPeKD
import Derived.Test.YtmamlgaogpkagaaGreatQPeKJ
import Derived.Test.YtmamlgaogpkagaaGreatQTsGa
import Derived.StillTailTactics
import Derived.BigQuiet
import Derived.Deep.QuietTactic
import Derived.Laws.EntriesVeiled
import Derived.Deep.RegionHeld3
import Derived.Deep.RegionWith
namespace Go.Proofs.YtmamlgaogpkagaaGreat
open Go.RowKit
set_option linter.unusedVariables false
set_option linter.unusedSimpArgs false
theorem mod_small (x P:Int) (p0:1≤P):0≤x % P∧x % P<P:=⟨Int.emod_nonneg x (by omega),Int.emod_lt_of_pos x (by omega)⟩
set_option maxRecDepth 100000 in
set_option maxHeartbeats 2000000 in
theorem tvper1 (P:Int) (A:List Sp) (p0:1≤P) (p1:P≤12622780800) (va vv:Value) (b c:Nat) (x:Int) (hx:I64 x) (w:World) (hb:Bxs w b [.int .i64 P,va]) (hc:One w c vv) (h:Vw w vv (inB A) (nxL A)) (nr:x % P<nxL A (x % P)) :
    Calls Tryz.prog 157 #[.int .i64 x,.pointer (some ⟨b,0,none⟩),.pointer (some ⟨c,0,none⟩)] w fun e w'=>(∃ n,e=.returned (.tuple #[.bool (hsP P A x),.int .i64 n])∧(-1152921504606846976≤x→x≤1152921504606846976→n=nxP P A x))∧Below w.heap.size w w':=by
  obtain ⟨m0,m1⟩:=mod_small x P p0;have HM:=zh (fun W=>cmodP x P hx (by omega) p1 W);obtain ⟨g,caps,rfl,eg,hg⟩:=h;have HG:=zh (fun W (hW:Below w.heap.size w W)=>hg W (Far.of hW) (x % P) ⟨by omega,by omega⟩);have np:nxP P A x=if P=1 then farI else x - x % P+mnI (nxL A (x % P)) P:=rfl;have hs:hsP P A x=inB A (x % P):=rfl;rw [hs,np];obtain ⟨hx0,hx1⟩:=hx;have hb':=zh hb;have hc':=zh hc;have b0:=hb.c 0 _ rfl;have bl:=hb.lt;clear hb hc hg np hs;generalize x % P=r at *;generalize inB A r=i at *;generalize nxL A r=nl at *
  by_cases e1:P=1
  · have k:(P==1)=true:=by rw [beq_iff_eq];exact e1
    rw [if_pos e1];clear e1
    go_enter Tryz.func157,Tryz.ntmps157
    go_wp2_with fail
    refine (HM.out _).mono ?_;rintro e w1 ⟨rfl,d,rfl⟩;have A1:=zh (below_drewN (here w) d);have B1:=zh (hb'.out.keep A1.out);have C1:=zh (hc'.out.keep A1.out);clear b0 bl hb' hc' HM;generalize w.drewN d=w2 at *;have c0:=C1.out.c;have cl:=C1.out.lt;go_wp2_with fail
    go_at_fn g
    refine (HG.out _ A1.out).mono ?_;rintro e w3 ⟨⟨n,rfl,hn⟩,hb⟩;have A3:=zd A1 hb;have B3:=zh (B1.out.keep hb);clear B1 C1 hb c0 cl A1 HG eg;have b0:=B3.out.c 0 _ rfl;have bl:=B3.out.lt;have en:n=nl:=hn (by omega) (by omega);subst en;clear hn B3;go_wp2
    go_ret2
    exact ⟨⟨_,rfl,fun _ _=>rfl⟩,A3.out⟩
  · have k:(P==1)=false:=by rw [beq_eq_false_iff_ne];exact e1
    rw [if_neg e1];clear e1
    go_enter Tryz.func157,Tryz.ntmps157
    go_wp2_with fail
    refine (HM.out _).mono ?_;rintro e w1 ⟨rfl,d,rfl⟩;have A1:=zh (below_drewN (here w) d);have B1:=zh (hb'.out.keep A1.out);have C1:=zh (hc'.out.keep A1.out);clear b0 bl hb' hc' HM;generalize w.drewN d=w2 at *;have c0:=C1.out.c;have cl:=C1.out.lt;go_wp2_with fail
    go_at_fn g
    refine (HG.out _ A1.out).mono ?_;rintro e w3 ⟨⟨n,rfl,hn⟩,hb⟩;have A3:=zd A1 hb;have B3:=zh (B1.out.keep hb);clear B1 C1 hb c0 cl A1 HG eg;have b0:=B3.out.c 0 _ rfl;have bl:=B3.out.lt;have en:n=nl:=hn (by omega) (by omega);subst en;clear hn B3;have mm:=mnI_le n P;have mo:=mnI_or n P;have m2:0≤mnI n P:=by omega
    have ef:(if P<n then P else n)=mnI n P:=rfl;have em:=mn_min n P;go_wp2
    by_cases sm:-1152921504606846976≤x∧x≤1152921504606846976
    · obtain ⟨s0,s1⟩:=sm
      go_quiet (fail)
      go_wp2
      go_ret2
      exact ⟨⟨_,rfl,fun _ _=>rfl⟩,below_drewN A3.out _⟩
    · go_quiet (fail)
      go_wp2
      go_ret2
      exact ⟨⟨_,rfl,fun h k=>absurd ⟨h,k⟩ sm⟩,below_drewN A3.out _⟩
set_option maxRecDepth 100000 in
set_option maxHeartbeats 2000000 in
theorem tvper (P:Int) (A:List Sp) (pw:PW P A) (va:Value) {ba:Nat} (w0 w:World) (h:PairS ba w0 va A) (A0:Below w0.heap.size w0 w) (X:Nat→Prop) (hX:∀ b,X b→w0.heap.size≤b∧b<w.heap.size) :
    Calls Tryz.prog 123 #[.agg #[.int .i64 P,va]] w fun e w'=>(∃ v',e=.returned v'∧VwX X w' v' (hsP P A) (nxP P A))∧Below w.heap.size w w':=by
  obtain ⟨ao,cp,rfl⟩:=prs_shape h;obtain ⟨w1,hw1⟩:∃ w1:World,w.alloc (.cells #[.int .i64 P,.slice ao A.length cp] 24)=w1:=⟨_,rfl⟩;have B1:Hid (Bxs w1 w.heap.size [.int .i64 P,.slice ao A.length cp]):=by show Bxs _ _ _;rw [← hw1];exact Bxs.new _ _
  have A1:Hid (Below w.heap.size w w1):=by show Below _ _ _;rw [← hw1];exact grow (here w) _
  have s1:w1.heap.size=w.heap.size+1:=by rw [← hw1];exact size_two _ _
  have HL:=zh (tvlist A pw.cn (by have:=pw.len;omega) _ w0 w1 h (down A0 A1.out) X (fun b c=>by have:=hX b c;omega));have hmf:∀ (fn:Fn) (first cap:Array Value) (w:World),(Instr.makeFunc fn first cap).run Tryz.prog w=.ok (.func fn first cap) w:=fun _ _ _ _=>rfl;obtain ⟨b0,b1,bl⟩:=B1.out.z2
  go_enter Tryz.func123,Tryz.ntmps123
  go_wp2_with fail
  refine HL.out.mono ?_;rintro e w2 ⟨⟨v2,rfl,V2⟩,hb⟩;obtain ⟨g2,c2,rfl⟩:=V2.shape;obtain ⟨w3,hw3⟩:∃ w3:World,w2.alloc (.cells #[.func (.func g2) #[] c2] 86)=w3:=⟨_,rfl⟩;have A2:=down A1.out hb;have B2:=B1.out.keep hb;have g3:Below w2.heap.size w2 w3:=by rw [← hw3];exact grow (here w2) _
  have C3:One w3 w2.heap.size (.func (.func g2) #[] c2):=by rw [← hw3];exact One.new (here _)
  have B3:=B2.keep g3;have V3:=V2.keep g3;have A3:=zh (down A2 g3);have V:=zh (show VwX X w3 (.func (.func 157) #[] #[.pointer (some ⟨w.heap.size,0,none⟩),.pointer (some ⟨w2.heap.size,0,none⟩)]) (hsP P A) (nxP P A) from
    ⟨_,_,rfl,fun _ _=>rfl,fun W hW x hx=>tvper1 P A pw.p0 pw.p1 _ _ _ _ x hx W (Far.bxs B3 hW (fun c=>Nat.lt_irrefl _ (hX _ c).2)) (Far.one C3 hW (fun c=>by have:=(hX _ c).2;have:=hb.size;omega)) (V3.at hW) (nxL_ok pw.cn (by have:=mod_small x P pw.p0;have:=pw.p1;unfold farI;omega)).lt⟩)
  clear b0 b1 bl hb HL A1 B1 V2 A2 B2 g3 C3 B3 V3;go_wp2
  go_ret
  exact ⟨⟨_,rfl,V.out⟩,A3.out⟩
structure Nwz (w:World) (m:Nat) (W:World) (b:Nat) (zs:List Value):Prop where
 le:w.heap.size≤b
 ge:m<b
 o:Bxo W b zs
theorem Nwz.keep {w W W':World} {m b:Nat} {zs:List Value} (h:Nwz w m W b zs) (hb:Below W.heap.size W W'):Nwz w m W' b zs:=⟨h.le,h.ge,h.o.keep hb⟩
theorem Nwz.new {w W:World} {m:Nat} (h:Below w.heap.size w W) (hm:m<W.heap.size) (zs:List Value) (t:TypeId):Nwz w m (W.alloc (.cells zs.toArray t)) W.heap.size zs:=⟨h.size,hm,Bxo.new zs t⟩
def voOps:Array Oper:=#[
 { dst:=some 6,op:=Go.Op.fieldAddr 26 (Go.Operand.tmp 1) 0,type:=0,pos := "view.go:48",after:=#[],guard:=none },
 { dst:=some 7,op:=Go.Op.load 24 (Go.Operand.tmp 6),type:=24,pos := "view.go:48",after:=#[{ on:=0,ground:=Go.Ground.data }],guard:=none },
 { dst:=some 8,op:=Go.Op.call { callee:=Go.Callee.value (Go.Operand.func 123),args:=#[Go.Operand.tmp 7],argTypes:=#[24] },type:=86,pos := "view.go:48",after:=#[{ on:=1,ground:=Go.Ground.data }],guard:=none },
 { dst:=some 9,op:=Go.Op.fieldAddr 26 (Go.Operand.tmp 1) 4,type:=0,pos := "view.go:48",after:=#[],guard:=none },
 { dst:=some 10,op:=Go.Op.load 22 (Go.Operand.tmp 9),type:=22,pos := "view.go:48",after:=#[{ on:=3,ground:=Go.Ground.data }],guard:=none },
 { dst:=some 11,op:=Go.Op.call { callee:=Go.Callee.value (Go.Operand.func 124),args:=#[Go.Operand.tmp 10],argTypes:=#[22] },type:=86,pos := "view.go:48",after:=#[{ on:=4,ground:=Go.Ground.data },{ on:=2,ground:=Go.Ground.chain }],guard:=none },
 { dst:=some 12,op:=Go.Op.fieldAddr 26 (Go.Operand.tmp 1) 1,type:=0,pos := "view.go:48",after:=#[],guard:=none },
 { dst:=some 13,op:=Go.Op.load 24 (Go.Operand.tmp 12),type:=24,pos := "view.go:48",after:=#[{ on:=6,ground:=Go.Ground.data }],guard:=none },
 { dst:=some 14,op:=Go.Op.call { callee:=Go.Callee.value (Go.Operand.func 123),args:=#[Go.Operand.tmp 13],argTypes:=#[24] },type:=86,pos := "view.go:48",after:=#[{ on:=7,ground:=Go.Ground.data },{ on:=5,ground:=Go.Ground.chain }],guard:=none },
 { dst:=some 3,op:=Go.Op.alloc 86,type:=0,pos := "view.go:48",after:=#[],guard:=none },
 { dst:=some 4,op:=Go.Op.alloc 86,type:=0,pos := "view.go:48",after:=#[],guard:=none },
 { dst:=some 5,op:=Go.Op.alloc 86,type:=0,pos := "view.go:48",after:=#[],guard:=none },
 { dst:=none,op:=Go.Op.store 86 (Go.Operand.tmp 3) (Go.Operand.tmp 8),type:=0,pos := "view.go:48",after:=#[{ on:=9,ground:=Go.Ground.data },{ on:=2,ground:=Go.Ground.data },{ on:=8,ground:=Go.Ground.chain },{ on:=0,ground:=Go.Ground.phase },{ on:=1,ground:=Go.Ground.phase },{ on:=2,ground:=Go.Ground.phase },{ on:=3,ground:=Go.Ground.textOnly Go.Departure.lateStores },{ on:=4,ground:=Go.Ground.textOnly Go.Departure.lateStores },{ on:=5,ground:=Go.Ground.textOnly Go.Departure.lateStoresUnsure },{ on:=6,ground:=Go.Ground.textOnly Go.Departure.lateStores },{ on:=7,ground:=Go.Ground.textOnly Go.Departure.lateStores },{ on:=8,ground:=Go.Ground.textOnly Go.Departure.lateStoresUnsure },{ on:=9,ground:=Go.Ground.phase },{ on:=10,ground:=Go.Ground.phase },{ on:=11,ground:=Go.Ground.phase }],guard:=none },
 { dst:=none,op:=Go.Op.store 86 (Go.Operand.tmp 4) (Go.Operand.tmp 11),type:=0,pos := "view.go:48",after:=#[{ on:=10,ground:=Go.Ground.data },{ on:=5,ground:=Go.Ground.data },{ on:=12,ground:=Go.Ground.chain },{ on:=0,ground:=Go.Ground.phase },{ on:=1,ground:=Go.Ground.phase },{ on:=2,ground:=Go.Ground.phase },{ on:=3,ground:=Go.Ground.phase },{ on:=4,ground:=Go.Ground.phase },{ on:=5,ground:=Go.Ground.phase },{ on:=6,ground:=Go.Ground.textOnly Go.Departure.lateStores },{ on:=7,ground:=Go.Ground.textOnly Go.Departure.lateStores },{ on:=8,ground:=Go.Ground.textOnly Go.Departure.lateStoresUnsure },{ on:=9,ground:=Go.Ground.phase },{ on:=10,ground:=Go.Ground.phase },{ on:=11,ground:=Go.Ground.phase },{ on:=12,ground:=Go.Ground.phase }],guard:=none },
 { dst:=none,op:=Go.Op.store 86 (Go.Operand.tmp 5) (Go.Operand.tmp 14),type:=0,pos := "view.go:48",after:=#[{ on:=11,ground:=Go.Ground.data },{ on:=8,ground:=Go.Ground.data },{ on:=13,ground:=Go.Ground.chain },{ on:=0,ground:=Go.Ground.phase },{ on:=1,ground:=Go.Ground.phase },{ on:=2,ground:=Go.Ground.phase },{ on:=3,ground:=Go.Ground.phase },{ on:=4,ground:=Go.Ground.phase },{ on:=5,ground:=Go.Ground.phase },{ on:=6,ground:=Go.Ground.phase },{ on:=7,ground:=Go.Ground.phase },{ on:=8,ground:=Go.Ground.phase },{ on:=9,ground:=Go.Ground.phase },{ on:=10,ground:=Go.Ground.phase },{ on:=11,ground:=Go.Ground.phase },{ on:=12,ground:=Go.Ground.phase },{ on:=13,ground:=Go.Ground.phase }],guard:=none }]
theorem voOpsq0:voOps[0]?=some { dst:=some 6,op:=Go.Op.fieldAddr 26 (Go.Operand.tmp 1) 0,type:=0,pos := "view.go:48",after:=#[],guard:=none }:=rfl
theorem voOpsq1:voOps[1]?=some { dst:=some 7,op:=Go.Op.load 24 (Go.Operand.tmp 6),type:=24,pos := "view.go:48",after:=#[{ on:=0,ground:=Go.Ground.data }],guard:=none }:=rfl
theorem voOpsq2:voOps[2]?=some { dst:=some 8,op:=Go.Op.call { callee:=Go.Callee.value (Go.Operand.func 123),args:=#[Go.Operand.tmp 7],argTypes:=#[24] },type:=86,pos := "view.go:48",after:=#[{ on:=1,ground:=Go.Ground.data }],guard:=none }:=rfl
theorem voOpsq3:voOps[3]?=some { dst:=some 9,op:=Go.Op.fieldAddr 26 (Go.Operand.tmp 1) 4,type:=0,pos := "view.go:48",after:=#[],guard:=none }:=rfl
theorem voOpsq4:voOps[4]?=some { dst:=some 10,op:=Go.Op.load 22 (Go.Operand.tmp 9),type:=22,pos := "view.go:48",after:=#[{ on:=3,ground:=Go.Ground.data }],guard:=none }:=rfl
theorem voOpsq5:voOps[5]?=some { dst:=some 11,op:=Go.Op.call { callee:=Go.Callee.value (Go.Operand.func 124),args:=#[Go.Operand.tmp 10],argTypes:=#[22] },type:=86,pos := "view.go:48",after:=#[{ on:=4,ground:=Go.Ground.data },{ on:=2,ground:=Go.Ground.chain }],guard:=none }:=rfl
theorem voOpsq6:voOps[6]?=some { dst:=some 12,op:=Go.Op.fieldAddr 26 (Go.Operand.tmp 1) 1,type:=0,pos := "view.go:48",after:=#[],guard:=none }:=rfl
theorem voOpsq7:voOps[7]?=some { dst:=some 13,op:=Go.Op.load 24 (Go.Operand.tmp 12),type:=24,pos := "view.go:48",after:=#[{ on:=6,ground:=Go.Ground.data }],guard:=none }:=rfl
theorem voOpsq8:voOps[8]?=some { dst:=some 14,op:=Go.Op.call { callee:=Go.Callee.value (Go.Operand.func 123),args:=#[Go.Operand.tmp 13],argTypes:=#[24] },type:=86,pos := "view.go:48",after:=#[{ on:=7,ground:=Go.Ground.data },{ on:=5,ground:=Go.Ground.chain }],guard:=none }:=rfl
theorem voOpsq9:voOps[9]?=some { dst:=some 3,op:=Go.Op.alloc 86,type:=0,pos := "view.go:48",after:=#[],guard:=none }:=rfl
theorem voOpsq10:voOps[10]?=some { dst:=some 4,op:=Go.Op.alloc 86,type:=0,pos := "view.go:48",after:=#[],guard:=none }:=rfl
theorem voOpsq11:voOps[11]?=some { dst:=some 5,op:=Go.Op.alloc 86,type:=0,pos := "view.go:48",after:=#[],guard:=none }:=rfl
theorem voOpsq12:voOps[12]?=some { dst:=none,op:=Go.Op.store 86 (Go.Operand.tmp 3) (Go.Operand.tmp 8),type:=0,pos := "view.go:48",after:=#[{ on:=9,ground:=Go.Ground.data },{ on:=2,ground:=Go.Ground.data },{ on:=8,ground:=Go.Ground.chain },{ on:=0,ground:=Go.Ground.phase },{ on:=1,ground:=Go.Ground.phase },{ on:=2,ground:=Go.Ground.phase },{ on:=3,ground:=Go.Ground.textOnly Go.Departure.lateStores },{ on:=4,ground:=Go.Ground.textOnly Go.Departure.lateStores },{ on:=5,ground:=Go.Ground.textOnly Go.Departure.lateStoresUnsure },{ on:=6,ground:=Go.Ground.textOnly Go.Departure.lateStores },{ on:=7,ground:=Go.Ground.textOnly Go.Departure.lateStores },{ on:=8,ground:=Go.Ground.textOnly Go.Departure.lateStoresUnsure },{ on:=9,ground:=Go.Ground.phase },{ on:=10,ground:=Go.Ground.phase },{ on:=11,ground:=Go.Ground.phase }],guard:=none }:=rfl
theorem voOpsq13:voOps[13]?=some { dst:=none,op:=Go.Op.store 86 (Go.Operand.tmp 4) (Go.Operand.tmp 11),type:=0,pos := "view.go:48",after:=#[{ on:=10,ground:=Go.Ground.data },{ on:=5,ground:=Go.Ground.data },{ on:=12,ground:=Go.Ground.chain },{ on:=0,ground:=Go.Ground.phase },{ on:=1,ground:=Go.Ground.phase },{ on:=2,ground:=Go.Ground.phase },{ on:=3,ground:=Go.Ground.phase },{ on:=4,ground:=Go.Ground.phase },{ on:=5,ground:=Go.Ground.phase },{ on:=6,ground:=Go.Ground.textOnly Go.Departure.lateStores },{ on:=7,ground:=Go.Ground.textOnly Go.Departure.lateStores },{ on:=8,ground:=Go.Ground.textOnly Go.Departure.lateStoresUnsure },{ on:=9,ground:=Go.Ground.phase },{ on:=10,ground:=Go.Ground.phase },{ on:=11,ground:=Go.Ground.phase },{ on:=12,ground:=Go.Ground.phase }],guard:=none }:=rfl
theorem voOpsq14:voOps[14]?=some { dst:=none,op:=Go.Op.store 86 (Go.Operand.tmp 5) (Go.Operand.tmp 14),type:=0,pos := "view.go:48",after:=#[{ on:=11,ground:=Go.Ground.data },{ on:=8,ground:=Go.Ground.data },{ on:=13,ground:=Go.Ground.chain },{ on:=0,ground:=Go.Ground.phase },{ on:=1,ground:=Go.Ground.phase },{ on:=2,ground:=Go.Ground.phase },{ on:=3,ground:=Go.Ground.phase },{ on:=4,ground:=Go.Ground.phase },{ on:=5,ground:=Go.Ground.phase },{ on:=6,ground:=Go.Ground.phase },{ on:=7,ground:=Go.Ground.phase },{ on:=8,ground:=Go.Ground.phase },{ on:=9,ground:=Go.Ground.phase },{ on:=10,ground:=Go.Ground.phase },{ on:=11,ground:=Go.Ground.phase },{ on:=12,ground:=Go.Ground.phase },{ on:=13,ground:=Go.Ground.phase }],guard:=none }:=rfl
set_option maxRecDepth 100000 in
set_option maxHeartbeats 4000000 in
theorem vo_region (Q:Exit→Act→World→Prop) (P Q0 a b:Int) (va vb vl u:Value) (b0:Nat) (f1 f2 f3:Int→Bool) (n1 n2 n3:Int→Int) (w w0:World) (hQ:∀ c a d v w,Q (.panic c) (Act.put a (some d) v) w→Q (.panic c) a w) (X:Nat→Prop) (lo:Nat) (hlo:lo≤w.heap.size) (hX:∀ b,X b→lo≤b∧b<w.heap.size) (H1:Hid (∀ W,Below w.heap.size w W→∀ X:Nat→Prop,(∀ b,X b→lo≤b∧b<W.heap.size)→Calls Tryz.prog 123 #[.agg #[.int .i64 P,va]] W fun e W'=>(∃ v',e=.returned v'∧VwX X W' v' f1 n1)∧Below W.heap.size W W')) (H2:Hid (∀ W,Below w.heap.size w W→∀ X:Nat→Prop,(∀ b,X b→lo≤b∧b<W.heap.size)→Calls Tryz.prog 124 #[vl] W fun e W'=>(∃ v',e=.returned v'∧VwX X W' v' f2 n2)∧Below W.heap.size W W')) (H3:Hid (∀ W,Below w.heap.size w W→∀ X:Nat→Prop,(∀ b,X b→lo≤b∧b<W.heap.size)→Calls Tryz.prog 123 #[.agg #[.int .i64 Q0,vb]] W fun e W'=>(∃ v',e=.returned v'∧VwX X W' v' f3 n3)∧Below W.heap.size W W')) (hS0:Below w.heap.size w w0∧w0.cell? ⟨b0,0,none⟩=some (.int .i64 P)∧w0.cell? ⟨b0,1,none⟩=some (va)∧w0.cell? ⟨b0,2,none⟩=some (.int .i64 Q0)∧w0.cell? ⟨b0,3,none⟩=some (vb)∧w0.cell? ⟨b0,4,none⟩=some (.int .i64 a)∧w0.cell? ⟨b0,5,none⟩=some (.int .i64 b)∧w0.cell? ⟨b0,6,none⟩=some (vl)∧b0<w0.heap.size) (ord:True)
  (fin:∀ (g1:FuncId) (k1:Array Value) (g2:FuncId) (k2:Array Value) (g3:FuncId) (k3:Array Value) (N0b:Nat) (N1b:Nat) (N2b:Nat) (W:World),(Below w.heap.size w W∧W.cell? ⟨b0,0,none⟩=some (.int .i64 P)∧W.cell? ⟨b0,1,none⟩=some (va)∧W.cell? ⟨b0,2,none⟩=some (.int .i64 Q0)∧W.cell? ⟨b0,3,none⟩=some (vb)∧W.cell? ⟨b0,4,none⟩=some (.int .i64 a)∧W.cell? ⟨b0,5,none⟩=some (.int .i64 b)∧W.cell? ⟨b0,6,none⟩=some (vl)∧b0<W.heap.size)→(VwX (fun b=>X b∨b=N0b∨b=N1b∨b=N2b) W (.func (.func g1) #[] k1) f1 n1)→(VwX (fun b=>X b∨b=N0b∨b=N1b∨b=N2b) W (.func (.func g2) #[] k2) f2 n2)→(VwX (fun b=>X b∨b=N0b∨b=N1b∨b=N2b) W (.func (.func g3) #[] k3) f3 n3)→(Nwz w (b0) W N0b [.nilFunc])→(Nwz w (b0) W N1b [.nilFunc])→(Nwz w (b0) W N2b [.nilFunc])→(N0b≠N1b)→(N0b≠N2b)→(N1b≠N2b)→Q .normal ⟨#[u,.pointer (some ⟨b0,0,none⟩),.nilFunc,(.pointer (some ⟨N0b,0,none⟩)),(.pointer (some ⟨N1b,0,none⟩)),(.pointer (some ⟨N2b,0,none⟩)),.pointer (some ⟨b0,0,none⟩),.agg #[.int .i64 P,va],.func (.func g1) #[] k1,.pointer (some ⟨b0,6,none⟩),vl,.func (.func g2) #[] k2,.pointer (some ⟨b0,2,none⟩),.agg #[.int .i64 Q0,vb],.func (.func g3) #[] k3,undef],[]⟩ (((W.setCell ⟨N0b,0,none⟩ (.func (.func g1) #[] k1)).setCell ⟨N1b,0,none⟩ (.func (.func g2) #[] k2)).setCell ⟨N2b,0,none⟩ (.func (.func g3) #[] k3))) :
  (Code.region 1 voOps true).wp Tryz.prog Q ⟨#[u,.pointer (some ⟨b0,0,none⟩),.nilFunc,undef,undef,undef,undef,undef,undef,undef,undef,undef,undef,undef,undef,undef],[]⟩ w0:=by
 have mk:∀ W W':World,(Below w.heap.size w W∧W.cell? ⟨b0,0,none⟩=some (.int .i64 P)∧W.cell? ⟨b0,1,none⟩=some (va)∧W.cell? ⟨b0,2,none⟩=some (.int .i64 Q0)∧W.cell? ⟨b0,3,none⟩=some (vb)∧W.cell? ⟨b0,4,none⟩=some (.int .i64 a)∧W.cell? ⟨b0,5,none⟩=some (.int .i64 b)∧W.cell? ⟨b0,6,none⟩=some (vl)∧b0<W.heap.size)→Below W.heap.size W W'→(Below w.heap.size w W'∧W'.cell? ⟨b0,0,none⟩=some (.int .i64 P)∧W'.cell? ⟨b0,1,none⟩=some (va)∧W'.cell? ⟨b0,2,none⟩=some (.int .i64 Q0)∧W'.cell? ⟨b0,3,none⟩=some (vb)∧W'.cell? ⟨b0,4,none⟩=some (.int .i64 a)∧W'.cell? ⟨b0,5,none⟩=some (.int .i64 b)∧W'.cell? ⟨b0,6,none⟩=some (vl)∧b0<W'.heap.size):=fun W W' ⟨kb,k0_0,k0_1,k0_2,k0_3,k0_4,k0_5,k0_6,kl⟩ hb=>⟨down kb hb,(hb.cell (p:=⟨b0,0,none⟩) (by show b0<_;omega)).trans k0_0,(hb.cell (p:=⟨b0,1,none⟩) (by show b0<_;omega)).trans k0_1,(hb.cell (p:=⟨b0,2,none⟩) (by show b0<_;omega)).trans k0_2,(hb.cell (p:=⟨b0,3,none⟩) (by show b0<_;omega)).trans k0_3,(hb.cell (p:=⟨b0,4,none⟩) (by show b0<_;omega)).trans k0_4,(hb.cell (p:=⟨b0,5,none⟩) (by show b0<_;omega)).trans k0_5,(hb.cell (p:=⟨b0,6,none⟩) (by show b0<_;omega)).trans k0_6,zll kl hb.size⟩;obtain ⟨zS,zSe⟩:∃ zS:World→Prop,zS=(fun W'=>Below w.heap.size w W'∧W'.cell? ⟨b0,0,none⟩=some (.int .i64 P)∧W'.cell? ⟨b0,1,none⟩=some (va)∧W'.cell? ⟨b0,2,none⟩=some (.int .i64 Q0)∧W'.cell? ⟨b0,3,none⟩=some (vb)∧W'.cell? ⟨b0,4,none⟩=some (.int .i64 a)∧W'.cell? ⟨b0,5,none⟩=some (.int .i64 b)∧W'.cell? ⟨b0,6,none⟩=some (vl)∧b0<W'.heap.size):=⟨_,rfl⟩;have st3_111:∀ (g1:FuncId) (k1:Array Value) (g2:FuncId) (k2:Array Value) (g3:FuncId) (k3:Array Value) (N0b:Nat) (N1b:Nat) (N2b:Nat) (W:World),zS W→(VwX (fun b=>X b∨b=N0b∨b=N1b∨b=N2b) W (.func (.func g1) #[] k1) f1 n1)→(VwX (fun b=>X b∨b=N0b∨b=N1b∨b=N2b) W (.func (.func g2) #[] k2) f2 n2)→(VwX (fun b=>X b∨b=N0b∨b=N1b∨b=N2b) W (.func (.func g3) #[] k3) f3 n3)→(Nwz w (b0) W N0b [.nilFunc])→(Nwz w (b0) W N1b [.nilFunc])→(Nwz w (b0) W N2b [.nilFunc])→(N0b≠N1b)→(N0b≠N2b)→(N1b≠N2b)→wpAnyH Tryz.prog .any voOps Q zS 3 #[true,true,true,true,true,true,true,true,true,true,true,true,false,false,false] ⟨#[u,.pointer (some ⟨b0,0,none⟩),.nilFunc,(.pointer (some ⟨N0b,0,none⟩)),(.pointer (some ⟨N1b,0,none⟩)),(.pointer (some ⟨N2b,0,none⟩)),.pointer (some ⟨b0,0,none⟩),.agg #[.int .i64 P,va],.func (.func g1) #[] k1,.pointer (some ⟨b0,6,none⟩),vl,.func (.func g2) #[] k2,.pointer (some ⟨b0,2,none⟩),.agg #[.int .i64 Q0,vb],.func (.func g3) #[] k3,undef],[]⟩ W:=by
  subst zSe;intro g1 k1 g2 k2 g3 k3 N0b N1b N2b W hS V1 V2 V3 N0 N1 N2 D01 D02 D12;refine wpAnyH_ready (rs:=[12]) (by kernel_rfl) (by simp) ?_;refine AllReadyH.cons voOpsq12 (fun K hK=>?_) AllReadyH.nil;have e0_0:W.cell? ⟨N0b,0,none⟩=some (.nilFunc):=by
   exact N0.o.t.c 0 _ rfl
  have f0_0:W.frozen? ⟨N0b,0,none⟩=false:=by
   exact N0.o.f 0
  go_simp;have hS0x:(fun W'=>Below w.heap.size w W'∧W'.cell? ⟨b0,0,none⟩=some (.int .i64 P)∧W'.cell? ⟨b0,1,none⟩=some (va)∧W'.cell? ⟨b0,2,none⟩=some (.int .i64 Q0)∧W'.cell? ⟨b0,3,none⟩=some (vb)∧W'.cell? ⟨b0,4,none⟩=some (.int .i64 a)∧W'.cell? ⟨b0,5,none⟩=some (.int .i64 b)∧W'.cell? ⟨b0,6,none⟩=some (vl)∧b0<W'.heap.size) (W.setCell ⟨N0b,0,none⟩ (.func (.func g1) #[] k1)):=by
   obtain ⟨kb,k0_0,k0_1,k0_2,k0_3,k0_4,k0_5,k0_6,kl⟩:=hS;refine ⟨(kb.setCell (p:=⟨N0b,0,none⟩) N0.le _),?_,?_,?_,?_,?_,?_,?_,by rw [size_set];exact kl⟩
   ·rw [zco (h:=zad (by have:=N0.ge;omega))];exact k0_0
   ·rw [zco (h:=zad (by have:=N0.ge;omega))];exact k0_1
   ·rw [zco (h:=zad (by have:=N0.ge;omega))];exact k0_2
   ·rw [zco (h:=zad (by have:=N0.ge;omega))];exact k0_3
   ·rw [zco (h:=zad (by have:=N0.ge;omega))];exact k0_4
   ·rw [zco (h:=zad (by have:=N0.ge;omega))];exact k0_5
   ·rw [zco (h:=zad (by have:=N0.ge;omega))];exact k0_6
  refine hK.out _ _ hS0x (fun _=>?_);clear hK K;(try simp only [Act.put,zls,zl0,zl1]);refine wpAnyH_ready (rs:=[13]) (by kernel_rfl) (by simp) ?_;refine AllReadyH.cons voOpsq13 (fun K hK=>?_) AllReadyH.nil;have e1_0:(W.setCell ⟨N0b,0,none⟩ (.func (.func g1) #[] k1)).cell? ⟨N1b,0,none⟩=some (.nilFunc):=by
   rw [zco (h:=zad (by first | exact D01 | exact Ne.symm D01))];exact N1.o.t.c 0 _ rfl
  have f1_0:(W.setCell ⟨N0b,0,none⟩ (.func (.func g1) #[] k1)).frozen? ⟨N1b,0,none⟩=false:=by
   rw [World.frozen?_setCell];exact N1.o.f 0
  go_simp;have hS1x:(fun W'=>Below w.heap.size w W'∧W'.cell? ⟨b0,0,none⟩=some (.int .i64 P)∧W'.cell? ⟨b0,1,none⟩=some (va)∧W'.cell? ⟨b0,2,none⟩=some (.int .i64 Q0)∧W'.cell? ⟨b0,3,none⟩=some (vb)∧W'.cell? ⟨b0,4,none⟩=some (.int .i64 a)∧W'.cell? ⟨b0,5,none⟩=some (.int .i64 b)∧W'.cell? ⟨b0,6,none⟩=some (vl)∧b0<W'.heap.size) ((W.setCell ⟨N0b,0,none⟩ (.func (.func g1) #[] k1)).setCell ⟨N1b,0,none⟩ (.func (.func g2) #[] k2)):=by
   obtain ⟨kb,k0_0,k0_1,k0_2,k0_3,k0_4,k0_5,k0_6,kl⟩:=hS;refine ⟨((kb.setCell (p:=⟨N0b,0,none⟩) N0.le _).setCell (p:=⟨N1b,0,none⟩) N1.le _),?_,?_,?_,?_,?_,?_,?_,by rw [size_set,size_set];exact kl⟩
   ·rw [zco (h:=zad (by have:=N1.ge;omega)),zco (h:=zad (by have:=N0.ge;omega))];exact k0_0
   ·rw [zco (h:=zad (by have:=N1.ge;omega)),zco (h:=zad (by have:=N0.ge;omega))];exact k0_1
   ·rw [zco (h:=zad (by have:=N1.ge;omega)),zco (h:=zad (by have:=N0.ge;omega))];exact k0_2
   ·rw [zco (h:=zad (by have:=N1.ge;omega)),zco (h:=zad (by have:=N0.ge;omega))];exact k0_3
   ·rw [zco (h:=zad (by have:=N1.ge;omega)),zco (h:=zad (by have:=N0.ge;omega))];exact k0_4
   ·rw [zco (h:=zad (by have:=N1.ge;omega)),zco (h:=zad (by have:=N0.ge;omega))];exact k0_5
   ·rw [zco (h:=zad (by have:=N1.ge;omega)),zco (h:=zad (by have:=N0.ge;omega))];exact k0_6
  refine hK.out _ _ hS1x (fun _=>?_);clear hK K;(try simp only [Act.put,zls,zl0,zl1]);refine wpAnyH_ready (rs:=[14]) (by kernel_rfl) (by simp) ?_;refine AllReadyH.cons voOpsq14 (fun K hK=>?_) AllReadyH.nil;have e2_0:((W.setCell ⟨N0b,0,none⟩ (.func (.func g1) #[] k1)).setCell ⟨N1b,0,none⟩ (.func (.func g2) #[] k2)).cell? ⟨N2b,0,none⟩=some (.nilFunc):=by
   rw [zco (h:=zad (by first | exact D12 | exact Ne.symm D12))];rw [zco (h:=zad (by first | exact D02 | exact Ne.symm D02))];exact N2.o.t.c 0 _ rfl
  have f2_0:((W.setCell ⟨N0b,0,none⟩ (.func (.func g1) #[] k1)).setCell ⟨N1b,0,none⟩ (.func (.func g2) #[] k2)).frozen? ⟨N2b,0,none⟩=false:=by
   rw [World.frozen?_setCell,World.frozen?_setCell];exact N2.o.f 0
  go_simp;have hS2x:(fun W'=>Below w.heap.size w W'∧W'.cell? ⟨b0,0,none⟩=some (.int .i64 P)∧W'.cell? ⟨b0,1,none⟩=some (va)∧W'.cell? ⟨b0,2,none⟩=some (.int .i64 Q0)∧W'.cell? ⟨b0,3,none⟩=some (vb)∧W'.cell? ⟨b0,4,none⟩=some (.int .i64 a)∧W'.cell? ⟨b0,5,none⟩=some (.int .i64 b)∧W'.cell? ⟨b0,6,none⟩=some (vl)∧b0<W'.heap.size) (((W.setCell ⟨N0b,0,none⟩ (.func (.func g1) #[] k1)).setCell ⟨N1b,0,none⟩ (.func (.func g2) #[] k2)).setCell ⟨N2b,0,none⟩ (.func (.func g3) #[] k3)):=by
   obtain ⟨kb,k0_0,k0_1,k0_2,k0_3,k0_4,k0_5,k0_6,kl⟩:=hS;refine ⟨(((kb.setCell (p:=⟨N0b,0,none⟩) N0.le _).setCell (p:=⟨N1b,0,none⟩) N1.le _).setCell (p:=⟨N2b,0,none⟩) N2.le _),?_,?_,?_,?_,?_,?_,?_,by rw [size_set,size_set,size_set];exact kl⟩
   ·rw [zco (h:=zad (by have:=N2.ge;omega)),zco (h:=zad (by have:=N1.ge;omega)),zco (h:=zad (by have:=N0.ge;omega))];exact k0_0
   ·rw [zco (h:=zad (by have:=N2.ge;omega)),zco (h:=zad (by have:=N1.ge;omega)),zco (h:=zad (by have:=N0.ge;omega))];exact k0_1
   ·rw [zco (h:=zad (by have:=N2.ge;omega)),zco (h:=zad (by have:=N1.ge;omega)),zco (h:=zad (by have:=N0.ge;omega))];exact k0_2
   ·rw [zco (h:=zad (by have:=N2.ge;omega)),zco (h:=zad (by have:=N1.ge;omega)),zco (h:=zad (by have:=N0.ge;omega))];exact k0_3
   ·rw [zco (h:=zad (by have:=N2.ge;omega)),zco (h:=zad (by have:=N1.ge;omega)),zco (h:=zad (by have:=N0.ge;omega))];exact k0_4
   ·rw [zco (h:=zad (by have:=N2.ge;omega)),zco (h:=zad (by have:=N1.ge;omega)),zco (h:=zad (by have:=N0.ge;omega))];exact k0_5
   ·rw [zco (h:=zad (by have:=N2.ge;omega)),zco (h:=zad (by have:=N1.ge;omega)),zco (h:=zad (by have:=N0.ge;omega))];exact k0_6
  refine hK.out _ _ hS2x (fun _=>?_);clear hK K;(try simp only [Act.put,zls,zl0,zl1]);refine wpAnyH_done (by kernel_rfl) ?_ _;exact fin g1 k1 g2 k2 g3 k3 N0b N1b N2b W hS V1 V2 V3 N0 N1 N2 D01 D02 D12
 have st3_011:∀ (g1:FuncId) (k1:Array Value) (g2:FuncId) (k2:Array Value) (g3:FuncId) (k3:Array Value) (N1b:Nat) (N2b:Nat) (W:World),zS W→(VwX (fun b=>X b∨b=N1b∨b=N2b) W (.func (.func g1) #[] k1) f1 n1)→(VwX (fun b=>X b∨b=N1b∨b=N2b) W (.func (.func g2) #[] k2) f2 n2)→(VwX (fun b=>X b∨b=N1b∨b=N2b) W (.func (.func g3) #[] k3) f3 n3)→(Nwz w (b0) W N1b [.nilFunc])→(Nwz w (b0) W N2b [.nilFunc])→(N1b≠N2b)→wpAnyH Tryz.prog .any voOps Q zS 4 #[true,true,true,true,true,true,true,true,true,false,true,true,false,false,false] ⟨#[u,.pointer (some ⟨b0,0,none⟩),.nilFunc,undef,(.pointer (some ⟨N1b,0,none⟩)),(.pointer (some ⟨N2b,0,none⟩)),.pointer (some ⟨b0,0,none⟩),.agg #[.int .i64 P,va],.func (.func g1) #[] k1,.pointer (some ⟨b0,6,none⟩),vl,.func (.func g2) #[] k2,.pointer (some ⟨b0,2,none⟩),.agg #[.int .i64 Q0,vb],.func (.func g3) #[] k3,undef],[]⟩ W:=by
  subst zSe;intro g1 k1 g2 k2 g3 k3 N1b N2b W hS V1 V2 V3 N1 N2 D12;refine wpAnyH_ready (rs:=[9]) (by kernel_rfl) (by simp) ?_;refine AllReadyH.cons voOpsq9 (fun K hK=>?_) ?_
  ·go_simp;have gb:=grow (here W) (.cells #[.nilFunc] 86);refine hK.out _ _ (mk _ _ hS gb) (fun hS'=>?_);(try simp only [Act.put,zls,zl0,zl1]);exact st3_111 g1 k1 g2 k2 g3 k3 W.heap.size N1b N2b _ hS' ((V1.more (by rintro b (c | c | c | c) <;> simp [c])).keep gb) ((V2.more (by rintro b (c | c | c | c) <;> simp [c])).keep gb) ((V3.more (by rintro b (c | c | c | c) <;> simp [c])).keep gb) (Nwz.new hS.1 hS.2.2.2.2.2.2.2.2 [.nilFunc] 86) (N1.keep gb) (N2.keep gb) (Nat.ne_of_gt N1.o.t.lt) (Nat.ne_of_gt N2.o.t.lt) D12
  exact AllReadyH.nil
 have st3_101:∀ (g1:FuncId) (k1:Array Value) (g2:FuncId) (k2:Array Value) (g3:FuncId) (k3:Array Value) (N0b:Nat) (N2b:Nat) (W:World),zS W→(VwX (fun b=>X b∨b=N0b∨b=N2b) W (.func (.func g1) #[] k1) f1 n1)→(VwX (fun b=>X b∨b=N0b∨b=N2b) W (.func (.func g2) #[] k2) f2 n2)→(VwX (fun b=>X b∨b=N0b∨b=N2b) W (.func (.func g3) #[] k3) f3 n3)→(Nwz w (b0) W N0b [.nilFunc])→(Nwz w (b0) W N2b [.nilFunc])→(N0b≠N2b)→wpAnyH Tryz.prog .any voOps Q zS 4 #[true,true,true,true,true,true,true,true,true,true,false,true,false,false,false] ⟨#[u,.pointer (some ⟨b0,0,none⟩),.nilFunc,(.pointer (some ⟨N0b,0,none⟩)),undef,(.pointer (some ⟨N2b,0,none⟩)),.pointer (some ⟨b0,0,none⟩),.agg #[.int .i64 P,va],.func (.func g1) #[] k1,.pointer (some ⟨b0,6,none⟩),vl,.func (.func g2) #[] k2,.pointer (some ⟨b0,2,none⟩),.agg #[.int .i64 Q0,vb],.func (.func g3) #[] k3,undef],[]⟩ W:=by
  subst zSe;intro g1 k1 g2 k2 g3 k3 N0b N2b W hS V1 V2 V3 N0 N2 D02;refine wpAnyH_ready (rs:=[10]) (by kernel_rfl) (by simp) ?_;refine AllReadyH.cons voOpsq10 (fun K hK=>?_) ?_
  ·go_simp;have gb:=grow (here W) (.cells #[.nilFunc] 86);refine hK.out _ _ (mk _ _ hS gb) (fun hS'=>?_);(try simp only [Act.put,zls,zl0,zl1]);exact st3_111 g1 k1 g2 k2 g3 k3 N0b W.heap.size N2b _ hS' ((V1.more (by rintro b (c | c | c | c) <;> simp [c])).keep gb) ((V2.more (by rintro b (c | c | c | c) <;> simp [c])).keep gb) ((V3.more (by rintro b (c | c | c | c) <;> simp [c])).keep gb) (N0.keep gb) (Nwz.new hS.1 hS.2.2.2.2.2.2.2.2 [.nilFunc] 86) (N2.keep gb) (Nat.ne_of_lt N0.o.t.lt) D02 (Nat.ne_of_gt N2.o.t.lt)
  exact AllReadyH.nil
 have st3_110:∀ (g1:FuncId) (k1:Array Value) (g2:FuncId) (k2:Array Value) (g3:FuncId) (k3:Array Value) (N0b:Nat) (N1b:Nat) (W:World),zS W→(VwX (fun b=>X b∨b=N0b∨b=N1b) W (.func (.func g1) #[] k1) f1 n1)→(VwX (fun b=>X b∨b=N0b∨b=N1b) W (.func (.func g2) #[] k2) f2 n2)→(VwX (fun b=>X b∨b=N0b∨b=N1b) W (.func (.func g3) #[] k3) f3 n3)→(Nwz w (b0) W N0b [.nilFunc])→(Nwz w (b0) W N1b [.nilFunc])→(N0b≠N1b)→wpAnyH Tryz.prog .any voOps Q zS 4 #[true,true,true,true,true,true,true,true,true,true,true,false,false,false,false] ⟨#[u,.pointer (some ⟨b0,0,none⟩),.nilFunc,(.pointer (some ⟨N0b,0,none⟩)),(.pointer (some ⟨N1b,0,none⟩)),undef,.pointer (some ⟨b0,0,none⟩),.agg #[.int .i64 P,va],.func (.func g1) #[] k1,.pointer (some ⟨b0,6,none⟩),vl,.func (.func g2) #[] k2,.pointer (some ⟨b0,2,none⟩),.agg #[.int .i64 Q0,vb],.func (.func g3) #[] k3,undef],[]⟩ W:=by
  subst zSe;intro g1 k1 g2 k2 g3 k3 N0b N1b W hS V1 V2 V3 N0 N1 D01;refine wpAnyH_ready (rs:=[11]) (by kernel_rfl) (by simp) ?_;refine AllReadyH.cons voOpsq11 (fun K hK=>?_) ?_
  ·go_simp;have gb:=grow (here W) (.cells #[.nilFunc] 86);refine hK.out _ _ (mk _ _ hS gb) (fun hS'=>?_);(try simp only [Act.put,zls,zl0,zl1]);exact st3_111 g1 k1 g2 k2 g3 k3 N0b N1b W.heap.size _ hS' ((V1.more (by rintro b (c | c | c | c) <;> simp [c])).keep gb) ((V2.more (by rintro b (c | c | c | c) <;> simp [c])).keep gb) ((V3.more (by rintro b (c | c | c | c) <;> simp [c])).keep gb) (N0.keep gb) (N1.keep gb) (Nwz.new hS.1 hS.2.2.2.2.2.2.2.2 [.nilFunc] 86) D01 (Nat.ne_of_lt N0.o.t.lt) (Nat.ne_of_lt N1.o.t.lt)
  exact AllReadyH.nil
 have st3_001:∀ (g1:FuncId) (k1:Array Value) (g2:FuncId) (k2:Array Value) (g3:FuncId) (k3:Array Value) (N2b:Nat) (W:World),zS W→(VwX (fun b=>X b∨b=N2b) W (.func (.func g1) #[] k1) f1 n1)→(VwX (fun b=>X b∨b=N2b) W (.func (.func g2) #[] k2) f2 n2)→(VwX (fun b=>X b∨b=N2b) W (.func (.func g3) #[] k3) f3 n3)→(Nwz w (b0) W N2b [.nilFunc])→wpAnyH Tryz.prog .any voOps Q zS 5 #[true,true,true,true,true,true,true,true,true,false,false,true,false,false,false] ⟨#[u,.pointer (some ⟨b0,0,none⟩),.nilFunc,undef,undef,(.pointer (some ⟨N2b,0,none⟩)),.pointer (some ⟨b0,0,none⟩),.agg #[.int .i64 P,va],.func (.func g1) #[] k1,.pointer (some ⟨b0,6,none⟩),vl,.func (.func g2) #[] k2,.pointer (some ⟨b0,2,none⟩),.agg #[.int .i64 Q0,vb],.func (.func g3) #[] k3,undef],[]⟩ W:=by
  subst zSe;intro g1 k1 g2 k2 g3 k3 N2b W hS V1 V2 V3 N2;refine wpAnyH_ready (rs:=[9,10]) (by kernel_rfl) (by simp) ?_;refine AllReadyH.cons voOpsq9 (fun K hK=>?_) ?_
  ·go_simp;have gb:=grow (here W) (.cells #[.nilFunc] 86);refine hK.out _ _ (mk _ _ hS gb) (fun hS'=>?_);(try simp only [Act.put,zls,zl0,zl1]);exact st3_101 g1 k1 g2 k2 g3 k3 W.heap.size N2b _ hS' ((V1.more (by rintro b (c | c | c) <;> simp [c])).keep gb) ((V2.more (by rintro b (c | c | c) <;> simp [c])).keep gb) ((V3.more (by rintro b (c | c | c) <;> simp [c])).keep gb) (Nwz.new hS.1 hS.2.2.2.2.2.2.2.2 [.nilFunc] 86) (N2.keep gb) (Nat.ne_of_gt N2.o.t.lt)
  refine AllReadyH.cons voOpsq10 (fun K hK=>?_) ?_
  ·go_simp;have gb:=grow (here W) (.cells #[.nilFunc] 86);refine hK.out _ _ (mk _ _ hS gb) (fun hS'=>?_);(try simp only [Act.put,zls,zl0,zl1]);exact st3_011 g1 k1 g2 k2 g3 k3 W.heap.size N2b _ hS' ((V1.more (by rintro b (c | c | c) <;> simp [c])).keep gb) ((V2.more (by rintro b (c | c | c) <;> simp [c])).keep gb) ((V3.more (by rintro b (c | c | c) <;> simp [c])).keep gb) (Nwz.new hS.1 hS.2.2.2.2.2.2.2.2 [.nilFunc] 86) (N2.keep gb) (Nat.ne_of_gt N2.o.t.lt)
  exact AllReadyH.nil
 have st3_010:∀ (g1:FuncId) (k1:Array Value) (g2:FuncId) (k2:Array Value) (g3:FuncId) (k3:Array Value) (N1b:Nat) (W:World),zS W→(VwX (fun b=>X b∨b=N1b) W (.func (.func g1) #[] k1) f1 n1)→(VwX (fun b=>X b∨b=N1b) W (.func (.func g2) #[] k2) f2 n2)→(VwX (fun b=>X b∨b=N1b) W (.func (.func g3) #[] k3) f3 n3)→(Nwz w (b0) W N1b [.nilFunc])→wpAnyH Tryz.prog .any voOps Q zS 5 #[true,true,true,true,true,true,true,true,true,false,true,false,false,false,false] ⟨#[u,.pointer (some ⟨b0,0,none⟩),.nilFunc,undef,(.pointer (some ⟨N1b,0,none⟩)),undef,.pointer (some ⟨b0,0,none⟩),.agg #[.int .i64 P,va],.func (.func g1) #[] k1,.pointer (some ⟨b0,6,none⟩),vl,.func (.func g2) #[] k2,.pointer (some ⟨b0,2,none⟩),.agg #[.int .i64 Q0,vb],.func (.func g3) #[] k3,undef],[]⟩ W:=by
  subst zSe;intro g1 k1 g2 k2 g3 k3 N1b W hS V1 V2 V3 N1;refine wpAnyH_ready (rs:=[9,11]) (by kernel_rfl) (by simp) ?_;refine AllReadyH.cons voOpsq9 (fun K hK=>?_) ?_
  ·go_simp;have gb:=grow (here W) (.cells #[.nilFunc] 86);refine hK.out _ _ (mk _ _ hS gb) (fun hS'=>?_);(try simp only [Act.put,zls,zl0,zl1]);exact st3_110 g1 k1 g2 k2 g3 k3 W.heap.size N1b _ hS' ((V1.more (by rintro b (c | c | c) <;> simp [c])).keep gb) ((V2.more (by rintro b (c | c | c) <;> simp [c])).keep gb) ((V3.more (by rintro b (c | c | c) <;> simp [c])).keep gb) (Nwz.new hS.1 hS.2.2.2.2.2.2.2.2 [.nilFunc] 86) (N1.keep gb) (Nat.ne_of_gt N1.o.t.lt)
  refine AllReadyH.cons voOpsq11 (fun K hK=>?_) ?_
  ·go_simp;have gb:=grow (here W) (.cells #[.nilFunc] 86);refine hK.out _ _ (mk _ _ hS gb) (fun hS'=>?_);(try simp only [Act.put,zls,zl0,zl1]);exact st3_011 g1 k1 g2 k2 g3 k3 N1b W.heap.size _ hS' ((V1.more (by rintro b (c | c | c) <;> simp [c])).keep gb) ((V2.more (by rintro b (c | c | c) <;> simp [c])).keep gb) ((V3.more (by rintro b (c | c | c) <;> simp [c])).keep gb) (N1.keep gb) (Nwz.new hS.1 hS.2.2.2.2.2.2.2.2 [.nilFunc] 86) (Nat.ne_of_lt N1.o.t.lt)
  exact AllReadyH.nil
 have st3_100:∀ (g1:FuncId) (k1:Array Value) (g2:FuncId) (k2:Array Value) (g3:FuncId) (k3:Array Value) (N0b:Nat) (W:World),zS W→(VwX (fun b=>X b∨b=N0b) W (.func (.func g1) #[] k1) f1 n1)→(VwX (fun b=>X b∨b=N0b) W (.func (.func g2) #[] k2) f2 n2)→(VwX (fun b=>X b∨b=N0b) W (.func (.func g3) #[] k3) f3 n3)→(Nwz w (b0) W N0b [.nilFunc])→wpAnyH Tryz.prog .any voOps Q zS 5 #[true,true,true,true,true,true,true,true,true,true,false,false,false,false,false] ⟨#[u,.pointer (some ⟨b0,0,none⟩),.nilFunc,(.pointer (some ⟨N0b,0,none⟩)),undef,undef,.pointer (some ⟨b0,0,none⟩),.agg #[.int .i64 P,va],.func (.func g1) #[] k1,.pointer (some ⟨b0,6,none⟩),vl,.func (.func g2) #[] k2,.pointer (some ⟨b0,2,none⟩),.agg #[.int .i64 Q0,vb],.func (.func g3) #[] k3,undef],[]⟩ W:=by
  subst zSe;intro g1 k1 g2 k2 g3 k3 N0b W hS V1 V2 V3 N0;refine wpAnyH_ready (rs:=[10,11]) (by kernel_rfl) (by simp) ?_;refine AllReadyH.cons voOpsq10 (fun K hK=>?_) ?_
  ·go_simp;have gb:=grow (here W) (.cells #[.nilFunc] 86);refine hK.out _ _ (mk _ _ hS gb) (fun hS'=>?_);(try simp only [Act.put,zls,zl0,zl1]);exact st3_110 g1 k1 g2 k2 g3 k3 N0b W.heap.size _ hS' ((V1.more (by rintro b (c | c | c) <;> simp [c])).keep gb) ((V2.more (by rintro b (c | c | c) <;> simp [c])).keep gb) ((V3.more (by rintro b (c | c | c) <;> simp [c])).keep gb) (N0.keep gb) (Nwz.new hS.1 hS.2.2.2.2.2.2.2.2 [.nilFunc] 86) (Nat.ne_of_lt N0.o.t.lt)
  refine AllReadyH.cons voOpsq11 (fun K hK=>?_) ?_
  ·go_simp;have gb:=grow (here W) (.cells #[.nilFunc] 86);refine hK.out _ _ (mk _ _ hS gb) (fun hS'=>?_);(try simp only [Act.put,zls,zl0,zl1]);exact st3_101 g1 k1 g2 k2 g3 k3 N0b W.heap.size _ hS' ((V1.more (by rintro b (c | c | c) <;> simp [c])).keep gb) ((V2.more (by rintro b (c | c | c) <;> simp [c])).keep gb) ((V3.more (by rintro b (c | c | c) <;> simp [c])).keep gb) (N0.keep gb) (Nwz.new hS.1 hS.2.2.2.2.2.2.2.2 [.nilFunc] 86) (Nat.ne_of_lt N0.o.t.lt)
  exact AllReadyH.nil
 have st3_000:∀ (g1:FuncId) (k1:Array Value) (g2:FuncId) (k2:Array Value) (g3:FuncId) (k3:Array Value) (W:World),zS W→(VwX (fun b=>X b) W (.func (.func g1) #[] k1) f1 n1)→(VwX (fun b=>X b) W (.func (.func g2) #[] k2) f2 n2)→(VwX (fun b=>X b) W (.func (.func g3) #[] k3) f3 n3)→wpAnyH Tryz.prog .any voOps Q zS 6 #[true,true,true,true,true,true,true,true,true,false,false,false,false,false,false] ⟨#[u,.pointer (some ⟨b0,0,none⟩),.nilFunc,undef,undef,undef,.pointer (some ⟨b0,0,none⟩),.agg #[.int .i64 P,va],.func (.func g1) #[] k1,.pointer (some ⟨b0,6,none⟩),vl,.func (.func g2) #[] k2,.pointer (some ⟨b0,2,none⟩),.agg #[.int .i64 Q0,vb],.func (.func g3) #[] k3,undef],[]⟩ W:=by
  subst zSe;intro g1 k1 g2 k2 g3 k3 W hS V1 V2 V3;refine wpAnyH_ready (rs:=[9,10,11]) (by kernel_rfl) (by simp) ?_;refine AllReadyH.cons voOpsq9 (fun K hK=>?_) ?_
  ·go_simp;have gb:=grow (here W) (.cells #[.nilFunc] 86);refine hK.out _ _ (mk _ _ hS gb) (fun hS'=>?_);(try simp only [Act.put,zls,zl0,zl1]);exact st3_100 g1 k1 g2 k2 g3 k3 W.heap.size _ hS' ((V1.more (by rintro b (c | c) <;> simp [c])).keep gb) ((V2.more (by rintro b (c | c) <;> simp [c])).keep gb) ((V3.more (by rintro b (c | c) <;> simp [c])).keep gb) (Nwz.new hS.1 hS.2.2.2.2.2.2.2.2 [.nilFunc] 86)
  refine AllReadyH.cons voOpsq10 (fun K hK=>?_) ?_
  ·go_simp;have gb:=grow (here W) (.cells #[.nilFunc] 86);refine hK.out _ _ (mk _ _ hS gb) (fun hS'=>?_);(try simp only [Act.put,zls,zl0,zl1]);exact st3_010 g1 k1 g2 k2 g3 k3 W.heap.size _ hS' ((V1.more (by rintro b (c | c) <;> simp [c])).keep gb) ((V2.more (by rintro b (c | c) <;> simp [c])).keep gb) ((V3.more (by rintro b (c | c) <;> simp [c])).keep gb) (Nwz.new hS.1 hS.2.2.2.2.2.2.2.2 [.nilFunc] 86)
  refine AllReadyH.cons voOpsq11 (fun K hK=>?_) ?_
  ·go_simp;have gb:=grow (here W) (.cells #[.nilFunc] 86);refine hK.out _ _ (mk _ _ hS gb) (fun hS'=>?_);(try simp only [Act.put,zls,zl0,zl1]);exact st3_001 g1 k1 g2 k2 g3 k3 W.heap.size _ hS' ((V1.more (by rintro b (c | c) <;> simp [c])).keep gb) ((V2.more (by rintro b (c | c) <;> simp [c])).keep gb) ((V3.more (by rintro b (c | c) <;> simp [c])).keep gb) (Nwz.new hS.1 hS.2.2.2.2.2.2.2.2 [.nilFunc] 86)
  exact AllReadyH.nil
 have st2_111:∀ (g1:FuncId) (k1:Array Value) (g2:FuncId) (k2:Array Value) (N0b:Nat) (N1b:Nat) (N2b:Nat) (W:World),zS W→(VwX (fun b=>X b∨b=N0b∨b=N1b∨b=N2b) W (.func (.func g1) #[] k1) f1 n1)→(VwX (fun b=>X b∨b=N0b∨b=N1b∨b=N2b) W (.func (.func g2) #[] k2) f2 n2)→(Nwz w (b0) W N0b [.nilFunc])→(Nwz w (b0) W N1b [.nilFunc])→(Nwz w (b0) W N2b [.nilFunc])→(N0b≠N1b)→(N0b≠N2b)→(N1b≠N2b)→wpAnyH Tryz.prog .any voOps Q zS 4 #[true,true,true,true,true,true,true,true,false,true,true,true,false,false,false] ⟨#[u,.pointer (some ⟨b0,0,none⟩),.nilFunc,(.pointer (some ⟨N0b,0,none⟩)),(.pointer (some ⟨N1b,0,none⟩)),(.pointer (some ⟨N2b,0,none⟩)),.pointer (some ⟨b0,0,none⟩),.agg #[.int .i64 P,va],.func (.func g1) #[] k1,.pointer (some ⟨b0,6,none⟩),vl,.func (.func g2) #[] k2,.pointer (some ⟨b0,2,none⟩),.agg #[.int .i64 Q0,vb],undef,undef],[]⟩ W:=by
  subst zSe;intro g1 k1 g2 k2 N0b N1b N2b W hS V1 V2 N0 N1 N2 D01 D02 D12;refine wpAnyH_ready (rs:=[8]) (by kernel_rfl) (by simp) ?_;refine AllReadyH.cons voOpsq8 (fun K hK=>?_) ?_
  ·go_simp;go_at_call 123;refine ((H3.out _ hS.1 (fun b=>X b∨b=N0b∨b=N1b∨b=N2b) (by rintro b (c | rfl | rfl | rfl);exact ⟨(hX b c).1,zll (hX b c).2 hS.1.size⟩;exact ⟨Nat.le_trans hlo N0.le,N0.o.t.lt⟩;exact ⟨Nat.le_trans hlo N1.le,N1.o.t.lt⟩;exact ⟨Nat.le_trans hlo N2.le,N2.o.t.lt⟩)).mono ?_);rintro e W' ⟨⟨v,rfl,V3⟩,hb⟩;obtain ⟨g3,k3,rfl⟩:=V3.shape;refine hK.out _ _ (mk _ W' hS hb) (fun hS'=>?_);(try simp only [Act.put,zls,zl0,zl1]);exact st3_111 g1 k1 g2 k2 g3 k3 N0b N1b N2b W' hS' (V1.keep hb) (V2.keep hb) V3 (N0.keep hb) (N1.keep hb) (N2.keep hb) D01 D02 D12
  exact AllReadyH.nil
 have st2_011:∀ (g1:FuncId) (k1:Array Value) (g2:FuncId) (k2:Array Value) (N1b:Nat) (N2b:Nat) (W:World),zS W→(VwX (fun b=>X b∨b=N1b∨b=N2b) W (.func (.func g1) #[] k1) f1 n1)→(VwX (fun b=>X b∨b=N1b∨b=N2b) W (.func (.func g2) #[] k2) f2 n2)→(Nwz w (b0) W N1b [.nilFunc])→(Nwz w (b0) W N2b [.nilFunc])→(N1b≠N2b)→wpAnyH Tryz.prog .any voOps Q zS 5 #[true,true,true,true,true,true,true,true,false,false,true,true,false,false,false] ⟨#[u,.pointer (some ⟨b0,0,none⟩),.nilFunc,undef,(.pointer (some ⟨N1b,0,none⟩)),(.pointer (some ⟨N2b,0,none⟩)),.pointer (some ⟨b0,0,none⟩),.agg #[.int .i64 P,va],.func (.func g1) #[] k1,.pointer (some ⟨b0,6,none⟩),vl,.func (.func g2) #[] k2,.pointer (some ⟨b0,2,none⟩),.agg #[.int .i64 Q0,vb],undef,undef],[]⟩ W:=by
  subst zSe;intro g1 k1 g2 k2 N1b N2b W hS V1 V2 N1 N2 D12;refine wpAnyH_ready (rs:=[8,9]) (by kernel_rfl) (by simp) ?_;refine AllReadyH.cons voOpsq8 (fun K hK=>?_) ?_
  ·go_simp;go_at_call 123;refine ((H3.out _ hS.1 (fun b=>X b∨b=N1b∨b=N2b) (by rintro b (c | rfl | rfl);exact ⟨(hX b c).1,zll (hX b c).2 hS.1.size⟩;exact ⟨Nat.le_trans hlo N1.le,N1.o.t.lt⟩;exact ⟨Nat.le_trans hlo N2.le,N2.o.t.lt⟩)).mono ?_);rintro e W' ⟨⟨v,rfl,V3⟩,hb⟩;obtain ⟨g3,k3,rfl⟩:=V3.shape;refine hK.out _ _ (mk _ W' hS hb) (fun hS'=>?_);(try simp only [Act.put,zls,zl0,zl1]);exact st3_011 g1 k1 g2 k2 g3 k3 N1b N2b W' hS' (V1.keep hb) (V2.keep hb) V3 (N1.keep hb) (N2.keep hb) D12
  refine AllReadyH.cons voOpsq9 (fun K hK=>?_) ?_
  ·go_simp;have gb:=grow (here W) (.cells #[.nilFunc] 86);refine hK.out _ _ (mk _ _ hS gb) (fun hS'=>?_);(try simp only [Act.put,zls,zl0,zl1]);exact st2_111 g1 k1 g2 k2 W.heap.size N1b N2b _ hS' ((V1.more (by rintro b (c | c | c | c) <;> simp [c])).keep gb) ((V2.more (by rintro b (c | c | c | c) <;> simp [c])).keep gb) (Nwz.new hS.1 hS.2.2.2.2.2.2.2.2 [.nilFunc] 86) (N1.keep gb) (N2.keep gb) (Nat.ne_of_gt N1.o.t.lt) (Nat.ne_of_gt N2.o.t.lt) D12
  exact AllReadyH.nil
 have st2_101:∀ (g1:FuncId) (k1:Array Value) (g2:FuncId) (k2:Array Value) (N0b:Nat) (N2b:Nat) (W:World),zS W→(VwX (fun b=>X b∨b=N0b∨b=N2b) W (.func (.func g1) #[] k1) f1 n1)→(VwX (fun b=>X b∨b=N0b∨b=N2b) W (.func (.func g2) #[] k2) f2 n2)→(Nwz w (b0) W N0b [.nilFunc])→(Nwz w (b0) W N2b [.nilFunc])→(N0b≠N2b)→wpAnyH Tryz.prog .any voOps Q zS 5 #[true,true,true,true,true,true,true,true,false,true,false,true,false,false,false] ⟨#[u,.pointer (some ⟨b0,0,none⟩),.nilFunc,(.pointer (some ⟨N0b,0,none⟩)),undef,(.pointer (some ⟨N2b,0,none⟩)),.pointer (some ⟨b0,0,none⟩),.agg #[.int .i64 P,va],.func (.func g1) #[] k1,.pointer (some ⟨b0,6,none⟩),vl,.func (.func g2) #[] k2,.pointer (some ⟨b0,2,none⟩),.agg #[.int .i64 Q0,vb],undef,undef],[]⟩ W:=by
  subst zSe;intro g1 k1 g2 k2 N0b N2b W hS V1 V2 N0 N2 D02;refine wpAnyH_ready (rs:=[8,10]) (by kernel_rfl) (by simp) ?_;refine AllReadyH.cons voOpsq8 (fun K hK=>?_) ?_
  ·go_simp;go_at_call 123;refine ((H3.out _ hS.1 (fun b=>X b∨b=N0b∨b=N2b) (by rintro b (c | rfl | rfl);exact ⟨(hX b c).1,zll (hX b c).2 hS.1.size⟩;exact ⟨Nat.le_trans hlo N0.le,N0.o.t.lt⟩;exact ⟨Nat.le_trans hlo N2.le,N2.o.t.lt⟩)).mono ?_);rintro e W' ⟨⟨v,rfl,V3⟩,hb⟩;obtain ⟨g3,k3,rfl⟩:=V3.shape;refine hK.out _ _ (mk _ W' hS hb) (fun hS'=>?_);(try simp only [Act.put,zls,zl0,zl1]);exact st3_101 g1 k1 g2 k2 g3 k3 N0b N2b W' hS' (V1.keep hb) (V2.keep hb) V3 (N0.keep hb) (N2.keep hb) D02
  refine AllReadyH.cons voOpsq10 (fun K hK=>?_) ?_
  ·go_simp;have gb:=grow (here W) (.cells #[.nilFunc] 86);refine hK.out _ _ (mk _ _ hS gb) (fun hS'=>?_);(try simp only [Act.put,zls,zl0,zl1]);exact st2_111 g1 k1 g2 k2 N0b W.heap.size N2b _ hS' ((V1.more (by rintro b (c | c | c | c) <;> simp [c])).keep gb) ((V2.more (by rintro b (c | c | c | c) <;> simp [c])).keep gb) (N0.keep gb) (Nwz.new hS.1 hS.2.2.2.2.2.2.2.2 [.nilFunc] 86) (N2.keep gb) (Nat.ne_of_lt N0.o.t.lt) D02 (Nat.ne_of_gt N2.o.t.lt)
  exact AllReadyH.nil
 have st2_110:∀ (g1:FuncId) (k1:Array Value) (g2:FuncId) (k2:Array Value) (N0b:Nat) (N1b:Nat) (W:World),zS W→(VwX (fun b=>X b∨b=N0b∨b=N1b) W (.func (.func g1) #[] k1) f1 n1)→(VwX (fun b=>X b∨b=N0b∨b=N1b) W (.func (.func g2) #[] k2) f2 n2)→(Nwz w (b0) W N0b [.nilFunc])→(Nwz w (b0) W N1b [.nilFunc])→(N0b≠N1b)→wpAnyH Tryz.prog .any voOps Q zS 5 #[true,true,true,true,true,true,true,true,false,true,true,false,false,false,false] ⟨#[u,.pointer (some ⟨b0,0,none⟩),.nilFunc,(.pointer (some ⟨N0b,0,none⟩)),(.pointer (some ⟨N1b,0,none⟩)),undef,.pointer (some ⟨b0,0,none⟩),.agg #[.int .i64 P,va],.func (.func g1) #[] k1,.pointer (some ⟨b0,6,none⟩),vl,.func (.func g2) #[] k2,.pointer (some ⟨b0,2,none⟩),.agg #[.int .i64 Q0,vb],undef,undef],[]⟩ W:=by
  subst zSe;intro g1 k1 g2 k2 N0b N1b W hS V1 V2 N0 N1 D01;refine wpAnyH_ready (rs:=[8,11]) (by kernel_rfl) (by simp) ?_;refine AllReadyH.cons voOpsq8 (fun K hK=>?_) ?_
  ·go_simp;go_at_call 123;refine ((H3.out _ hS.1 (fun b=>X b∨b=N0b∨b=N1b) (by rintro b (c | rfl | rfl);exact ⟨(hX b c).1,zll (hX b c).2 hS.1.size⟩;exact ⟨Nat.le_trans hlo N0.le,N0.o.t.lt⟩;exact ⟨Nat.le_trans hlo N1.le,N1.o.t.lt⟩)).mono ?_);rintro e W' ⟨⟨v,rfl,V3⟩,hb⟩;obtain ⟨g3,k3,rfl⟩:=V3.shape;refine hK.out _ _ (mk _ W' hS hb) (fun hS'=>?_);(try simp only [Act.put,zls,zl0,zl1]);exact st3_110 g1 k1 g2 k2 g3 k3 N0b N1b W' hS' (V1.keep hb) (V2.keep hb) V3 (N0.keep hb) (N1.keep hb) D01
  refine AllReadyH.cons voOpsq11 (fun K hK=>?_) ?_
  ·go_simp;have gb:=grow (here W) (.cells #[.nilFunc] 86);refine hK.out _ _ (mk _ _ hS gb) (fun hS'=>?_);(try simp only [Act.put,zls,zl0,zl1]);exact st2_111 g1 k1 g2 k2 N0b N1b W.heap.size _ hS' ((V1.more (by rintro b (c | c | c | c) <;> simp [c])).keep gb) ((V2.more (by rintro b (c | c | c | c) <;> simp [c])).keep gb) (N0.keep gb) (N1.keep gb) (Nwz.new hS.1 hS.2.2.2.2.2.2.2.2 [.nilFunc] 86) D01 (Nat.ne_of_lt N0.o.t.lt) (Nat.ne_of_lt N1.o.t.lt)
  exact AllReadyH.nil
 have st2_001:∀ (g1:FuncId) (k1:Array Value) (g2:FuncId) (k2:Array Value) (N2b:Nat) (W:World),zS W→(VwX (fun b=>X b∨b=N2b) W (.func (.func g1) #[] k1) f1 n1)→(VwX (fun b=>X b∨b=N2b) W (.func (.func g2) #[] k2) f2 n2)→(Nwz w (b0) W N2b [.nilFunc])→wpAnyH Tryz.prog .any voOps Q zS 6 #[true,true,true,true,true,true,true,true,false,false,false,true,false,false,false] ⟨#[u,.pointer (some ⟨b0,0,none⟩),.nilFunc,undef,undef,(.pointer (some ⟨N2b,0,none⟩)),.pointer (some ⟨b0,0,none⟩),.agg #[.int .i64 P,va],.func (.func g1) #[] k1,.pointer (some ⟨b0,6,none⟩),vl,.func (.func g2) #[] k2,.pointer (some ⟨b0,2,none⟩),.agg #[.int .i64 Q0,vb],undef,undef],[]⟩ W:=by
  subst zSe;intro g1 k1 g2 k2 N2b W hS V1 V2 N2;refine wpAnyH_ready (rs:=[8,9,10]) (by kernel_rfl) (by simp) ?_;refine AllReadyH.cons voOpsq8 (fun K hK=>?_) ?_
  ·go_simp;go_at_call 123;refine ((H3.out _ hS.1 (fun b=>X b∨b=N2b) (by rintro b (c | rfl);exact ⟨(hX b c).1,zll (hX b c).2 hS.1.size⟩;exact ⟨Nat.le_trans hlo N2.le,N2.o.t.lt⟩)).mono ?_);rintro e W' ⟨⟨v,rfl,V3⟩,hb⟩;obtain ⟨g3,k3,rfl⟩:=V3.shape;refine hK.out _ _ (mk _ W' hS hb) (fun hS'=>?_);(try simp only [Act.put,zls,zl0,zl1]);exact st3_001 g1 k1 g2 k2 g3 k3 N2b W' hS' (V1.keep hb) (V2.keep hb) V3 (N2.keep hb)
  refine AllReadyH.cons voOpsq9 (fun K hK=>?_) ?_
  ·go_simp;have gb:=grow (here W) (.cells #[.nilFunc] 86);refine hK.out _ _ (mk _ _ hS gb) (fun hS'=>?_);(try simp only [Act.put,zls,zl0,zl1]);exact st2_101 g1 k1 g2 k2 W.heap.size N2b _ hS' ((V1.more (by rintro b (c | c | c) <;> simp [c])).keep gb) ((V2.more (by rintro b (c | c | c) <;> simp [c])).keep gb) (Nwz.new hS.1 hS.2.2.2.2.2.2.2.2 [.nilFunc] 86) (N2.keep gb) (Nat.ne_of_gt N2.o.t.lt)
  refine AllReadyH.cons voOpsq10 (fun K hK=>?_) ?_
  ·go_simp;have gb:=grow (here W) (.cells #[.nilFunc] 86);refine hK.out _ _ (mk _ _ hS gb) (fun hS'=>?_);(try simp only [Act.put,zls,zl0,zl1]);exact st2_011 g1 k1 g2 k2 W.heap.size N2b _ hS' ((V1.more (by rintro b (c | c | c) <;> simp [c])).keep gb) ((V2.more (by rintro b (c | c | c) <;> simp [c])).keep gb) (Nwz.new hS.1 hS.2.2.2.2.2.2.2.2 [.nilFunc] 86) (N2.keep gb) (Nat.ne_of_gt N2.o.t.lt)
  exact AllReadyH.nil
 have st2_010:∀ (g1:FuncId) (k1:Array Value) (g2:FuncId) (k2:Array Value) (N1b:Nat) (W:World),zS W→(VwX (fun b=>X b∨b=N1b) W (.func (.func g1) #[] k1) f1 n1)→(VwX (fun b=>X b∨b=N1b) W (.func (.func g2) #[] k2) f2 n2)→(Nwz w (b0) W N1b [.nilFunc])→wpAnyH Tryz.prog .any voOps Q zS 6 #[true,true,true,true,true,true,true,true,false,false,true,false,false,false,false] ⟨#[u,.pointer (some ⟨b0,0,none⟩),.nilFunc,undef,(.pointer (some ⟨N1b,0,none⟩)),undef,.pointer (some ⟨b0,0,none⟩),.agg #[.int .i64 P,va],.func (.func g1) #[] k1,.pointer (some ⟨b0,6,none⟩),vl,.func (.func g2) #[] k2,.pointer (some ⟨b0,2,none⟩),.agg #[.int .i64 Q0,vb],undef,undef],[]⟩ W:=by
  subst zSe;intro g1 k1 g2 k2 N1b W hS V1 V2 N1;refine wpAnyH_ready (rs:=[8,9,11]) (by kernel_rfl) (by simp) ?_;refine AllReadyH.cons voOpsq8 (fun K hK=>?_) ?_
  ·go_simp;go_at_call 123;refine ((H3.out _ hS.1 (fun b=>X b∨b=N1b) (by rintro b (c | rfl);exact ⟨(hX b c).1,zll (hX b c).2 hS.1.size⟩;exact ⟨Nat.le_trans hlo N1.le,N1.o.t.lt⟩)).mono ?_);rintro e W' ⟨⟨v,rfl,V3⟩,hb⟩;obtain ⟨g3,k3,rfl⟩:=V3.shape;refine hK.out _ _ (mk _ W' hS hb) (fun hS'=>?_);(try simp only [Act.put,zls,zl0,zl1]);exact st3_010 g1 k1 g2 k2 g3 k3 N1b W' hS' (V1.keep hb) (V2.keep hb) V3 (N1.keep hb)
  refine AllReadyH.cons voOpsq9 (fun K hK=>?_) ?_
  ·go_simp;have gb:=grow (here W) (.cells #[.nilFunc] 86);refine hK.out _ _ (mk _ _ hS gb) (fun hS'=>?_);(try simp only [Act.put,zls,zl0,zl1]);exact st2_110 g1 k1 g2 k2 W.heap.size N1b _ hS' ((V1.more (by rintro b (c | c | c) <;> simp [c])).keep gb) ((V2.more (by rintro b (c | c | c) <;> simp [c])).keep gb) (Nwz.new hS.1 hS.2.2.2.2.2.2.2.2 [.nilFunc] 86) (N1.keep gb) (Nat.ne_of_gt N1.o.t.lt)
  refine AllReadyH.cons voOpsq11 (fun K hK=>?_) ?_
  ·go_simp;have gb:=grow (here W) (.cells #[.nilFunc] 86);refine hK.out _ _ (mk _ _ hS gb) (fun hS'=>?_);(try simp only [Act.put,zls,zl0,zl1]);exact st2_011 g1 k1 g2 k2 N1b W.heap.size _ hS' ((V1.more (by rintro b (c | c | c) <;> simp [c])).keep gb) ((V2.more (by rintro b (c | c | c) <;> simp [c])).keep gb) (N1.keep gb) (Nwz.new hS.1 hS.2.2.2.2.2.2.2.2 [.nilFunc] 86) (Nat.ne_of_lt N1.o.t.lt)
  exact AllReadyH.nil
 have st2_100:∀ (g1:FuncId) (k1:Array Value) (g2:FuncId) (k2:Array Value) (N0b:Nat) (W:World),zS W→(VwX (fun b=>X b∨b=N0b) W (.func (.func g1) #[] k1) f1 n1)→(VwX (fun b=>X b∨b=N0b) W (.func (.func g2) #[] k2) f2 n2)→(Nwz w (b0) W N0b [.nilFunc])→wpAnyH Tryz.prog .any voOps Q zS 6 #[true,true,true,true,true,true,true,true,false,true,false,false,false,false,false] ⟨#[u,.pointer (some ⟨b0,0,none⟩),.nilFunc,(.pointer (some ⟨N0b,0,none⟩)),undef,undef,.pointer (some ⟨b0,0,none⟩),.agg #[.int .i64 P,va],.func (.func g1) #[] k1,.pointer (some ⟨b0,6,none⟩),vl,.func (.func g2) #[] k2,.pointer (some ⟨b0,2,none⟩),.agg #[.int .i64 Q0,vb],undef,undef],[]⟩ W:=by
  subst zSe;intro g1 k1 g2 k2 N0b W hS V1 V2 N0;refine wpAnyH_ready (rs:=[8,10,11]) (by kernel_rfl) (by simp) ?_;refine AllReadyH.cons voOpsq8 (fun K hK=>?_) ?_
  ·go_simp;go_at_call 123;refine ((H3.out _ hS.1 (fun b=>X b∨b=N0b) (by rintro b (c | rfl);exact ⟨(hX b c).1,zll (hX b c).2 hS.1.size⟩;exact ⟨Nat.le_trans hlo N0.le,N0.o.t.lt⟩)).mono ?_);rintro e W' ⟨⟨v,rfl,V3⟩,hb⟩;obtain ⟨g3,k3,rfl⟩:=V3.shape;refine hK.out _ _ (mk _ W' hS hb) (fun hS'=>?_);(try simp only [Act.put,zls,zl0,zl1]);exact st3_100 g1 k1 g2 k2 g3 k3 N0b W' hS' (V1.keep hb) (V2.keep hb) V3 (N0.keep hb)
  refine AllReadyH.cons voOpsq10 (fun K hK=>?_) ?_
  ·go_simp;have gb:=grow (here W) (.cells #[.nilFunc] 86);refine hK.out _ _ (mk _ _ hS gb) (fun hS'=>?_);(try simp only [Act.put,zls,zl0,zl1]);exact st2_110 g1 k1 g2 k2 N0b W.heap.size _ hS' ((V1.more (by rintro b (c | c | c) <;> simp [c])).keep gb) ((V2.more (by rintro b (c | c | c) <;> simp [c])).keep gb) (N0.keep gb) (Nwz.new hS.1 hS.2.2.2.2.2.2.2.2 [.nilFunc] 86) (Nat.ne_of_lt N0.o.t.lt)
  refine AllReadyH.cons voOpsq11 (fun K hK=>?_) ?_
  ·go_simp;have gb:=grow (here W) (.cells #[.nilFunc] 86);refine hK.out _ _ (mk _ _ hS gb) (fun hS'=>?_);(try simp only [Act.put,zls,zl0,zl1]);exact st2_101 g1 k1 g2 k2 N0b W.heap.size _ hS' ((V1.more (by rintro b (c | c | c) <;> simp [c])).keep gb) ((V2.more (by rintro b (c | c | c) <;> simp [c])).keep gb) (N0.keep gb) (Nwz.new hS.1 hS.2.2.2.2.2.2.2.2 [.nilFunc] 86) (Nat.ne_of_lt N0.o.t.lt)
  exact AllReadyH.nil
 have st2_000:∀ (g1:FuncId) (k1:Array Value) (g2:FuncId) (k2:Array Value) (W:World),zS W→(VwX (fun b=>X b) W (.func (.func g1) #[] k1) f1 n1)→(VwX (fun b=>X b) W (.func (.func g2) #[] k2) f2 n2)→wpAnyH Tryz.prog .any voOps Q zS 7 #[true,true,true,true,true,true,true,true,false,false,false,false,false,false,false] ⟨#[u,.pointer (some ⟨b0,0,none⟩),.nilFunc,undef,undef,undef,.pointer (some ⟨b0,0,none⟩),.agg #[.int .i64 P,va],.func (.func g1) #[] k1,.pointer (some ⟨b0,6,none⟩),vl,.func (.func g2) #[] k2,.pointer (some ⟨b0,2,none⟩),.agg #[.int .i64 Q0,vb],undef,undef],[]⟩ W:=by
  subst zSe;intro g1 k1 g2 k2 W hS V1 V2;refine wpAnyH_ready (rs:=[8,9,10,11]) (by kernel_rfl) (by simp) ?_;refine AllReadyH.cons voOpsq8 (fun K hK=>?_) ?_
  ·go_simp;go_at_call 123;refine ((H3.out _ hS.1 (fun b=>X b) (by intro b c;exact ⟨(hX b c).1,zll (hX b c).2 hS.1.size⟩)).mono ?_);rintro e W' ⟨⟨v,rfl,V3⟩,hb⟩;obtain ⟨g3,k3,rfl⟩:=V3.shape;refine hK.out _ _ (mk _ W' hS hb) (fun hS'=>?_);(try simp only [Act.put,zls,zl0,zl1]);exact st3_000 g1 k1 g2 k2 g3 k3 W' hS' (V1.keep hb) (V2.keep hb) V3
  refine AllReadyH.cons voOpsq9 (fun K hK=>?_) ?_
  ·go_simp;have gb:=grow (here W) (.cells #[.nilFunc] 86);refine hK.out _ _ (mk _ _ hS gb) (fun hS'=>?_);(try simp only [Act.put,zls,zl0,zl1]);exact st2_100 g1 k1 g2 k2 W.heap.size _ hS' ((V1.more (by rintro b (c | c) <;> simp [c])).keep gb) ((V2.more (by rintro b (c | c) <;> simp [c])).keep gb) (Nwz.new hS.1 hS.2.2.2.2.2.2.2.2 [.nilFunc] 86)
  refine AllReadyH.cons voOpsq10 (fun K hK=>?_) ?_
  ·go_simp;have gb:=grow (here W) (.cells #[.nilFunc] 86);refine hK.out _ _ (mk _ _ hS gb) (fun hS'=>?_);(try simp only [Act.put,zls,zl0,zl1]);exact st2_010 g1 k1 g2 k2 W.heap.size _ hS' ((V1.more (by rintro b (c | c) <;> simp [c])).keep gb) ((V2.more (by rintro b (c | c) <;> simp [c])).keep gb) (Nwz.new hS.1 hS.2.2.2.2.2.2.2.2 [.nilFunc] 86)
  refine AllReadyH.cons voOpsq11 (fun K hK=>?_) ?_
  ·go_simp;have gb:=grow (here W) (.cells #[.nilFunc] 86);refine hK.out _ _ (mk _ _ hS gb) (fun hS'=>?_);(try simp only [Act.put,zls,zl0,zl1]);exact st2_001 g1 k1 g2 k2 W.heap.size _ hS' ((V1.more (by rintro b (c | c) <;> simp [c])).keep gb) ((V2.more (by rintro b (c | c) <;> simp [c])).keep gb) (Nwz.new hS.1 hS.2.2.2.2.2.2.2.2 [.nilFunc] 86)
  exact AllReadyH.nil
 have st1_111:∀ (g1:FuncId) (k1:Array Value) (N0b:Nat) (N1b:Nat) (N2b:Nat) (W:World),zS W→(VwX (fun b=>X b∨b=N0b∨b=N1b∨b=N2b) W (.func (.func g1) #[] k1) f1 n1)→(Nwz w (b0) W N0b [.nilFunc])→(Nwz w (b0) W N1b [.nilFunc])→(Nwz w (b0) W N2b [.nilFunc])→(N0b≠N1b)→(N0b≠N2b)→(N1b≠N2b)→wpAnyH Tryz.prog .any voOps Q zS 5 #[true,true,true,true,true,false,true,true,false,true,true,true,false,false,false] ⟨#[u,.pointer (some ⟨b0,0,none⟩),.nilFunc,(.pointer (some ⟨N0b,0,none⟩)),(.pointer (some ⟨N1b,0,none⟩)),(.pointer (some ⟨N2b,0,none⟩)),.pointer (some ⟨b0,0,none⟩),.agg #[.int .i64 P,va],.func (.func g1) #[] k1,.pointer (some ⟨b0,6,none⟩),vl,undef,.pointer (some ⟨b0,2,none⟩),.agg #[.int .i64 Q0,vb],undef,undef],[]⟩ W:=by
  subst zSe;intro g1 k1 N0b N1b N2b W hS V1 N0 N1 N2 D01 D02 D12;refine wpAnyH_ready (rs:=[5]) (by kernel_rfl) (by simp) ?_;refine AllReadyH.cons voOpsq5 (fun K hK=>?_) ?_
  ·go_simp;go_at_call 124;refine ((H2.out _ hS.1 (fun b=>X b∨b=N0b∨b=N1b∨b=N2b) (by rintro b (c | rfl | rfl | rfl);exact ⟨(hX b c).1,zll (hX b c).2 hS.1.size⟩;exact ⟨Nat.le_trans hlo N0.le,N0.o.t.lt⟩;exact ⟨Nat.le_trans hlo N1.le,N1.o.t.lt⟩;exact ⟨Nat.le_trans hlo N2.le,N2.o.t.lt⟩)).mono ?_);rintro e W' ⟨⟨v,rfl,V2⟩,hb⟩;obtain ⟨g2,k2,rfl⟩:=V2.shape;refine hK.out _ _ (mk _ W' hS hb) (fun hS'=>?_);(try simp only [Act.put,zls,zl0,zl1]);exact st2_111 g1 k1 g2 k2 N0b N1b N2b W' hS' (V1.keep hb) V2 (N0.keep hb) (N1.keep hb) (N2.keep hb) D01 D02 D12
  exact AllReadyH.nil
 have st1_011:∀ (g1:FuncId) (k1:Array Value) (N1b:Nat) (N2b:Nat) (W:World),zS W→(VwX (fun b=>X b∨b=N1b∨b=N2b) W (.func (.func g1) #[] k1) f1 n1)→(Nwz w (b0) W N1b [.nilFunc])→(Nwz w (b0) W N2b [.nilFunc])→(N1b≠N2b)→wpAnyH Tryz.prog .any voOps Q zS 6 #[true,true,true,true,true,false,true,true,false,false,true,true,false,false,false] ⟨#[u,.pointer (some ⟨b0,0,none⟩),.nilFunc,undef,(.pointer (some ⟨N1b,0,none⟩)),(.pointer (some ⟨N2b,0,none⟩)),.pointer (some ⟨b0,0,none⟩),.agg #[.int .i64 P,va],.func (.func g1) #[] k1,.pointer (some ⟨b0,6,none⟩),vl,undef,.pointer (some ⟨b0,2,none⟩),.agg #[.int .i64 Q0,vb],undef,undef],[]⟩ W:=by
  subst zSe;intro g1 k1 N1b N2b W hS V1 N1 N2 D12;refine wpAnyH_ready (rs:=[5,9]) (by kernel_rfl) (by simp) ?_;refine AllReadyH.cons voOpsq5 (fun K hK=>?_) ?_
  ·go_simp;go_at_call 124;refine ((H2.out _ hS.1 (fun b=>X b∨b=N1b∨b=N2b) (by rintro b (c | rfl | rfl);exact ⟨(hX b c).1,zll (hX b c).2 hS.1.size⟩;exact ⟨Nat.le_trans hlo N1.le,N1.o.t.lt⟩;exact ⟨Nat.le_trans hlo N2.le,N2.o.t.lt⟩)).mono ?_);rintro e W' ⟨⟨v,rfl,V2⟩,hb⟩;obtain ⟨g2,k2,rfl⟩:=V2.shape;refine hK.out _ _ (mk _ W' hS hb) (fun hS'=>?_);(try simp only [Act.put,zls,zl0,zl1]);exact st2_011 g1 k1 g2 k2 N1b N2b W' hS' (V1.keep hb) V2 (N1.keep hb) (N2.keep hb) D12
  refine AllReadyH.cons voOpsq9 (fun K hK=>?_) ?_
  ·go_simp;have gb:=grow (here W) (.cells #[.nilFunc] 86);refine hK.out _ _ (mk _ _ hS gb) (fun hS'=>?_);(try simp only [Act.put,zls,zl0,zl1]);exact st1_111 g1 k1 W.heap.size N1b N2b _ hS' ((V1.more (by rintro b (c | c | c | c) <;> simp [c])).keep gb) (Nwz.new hS.1 hS.2.2.2.2.2.2.2.2 [.nilFunc] 86) (N1.keep gb) (N2.keep gb) (Nat.ne_of_gt N1.o.t.lt) (Nat.ne_of_gt N2.o.t.lt) D12
  exact AllReadyH.nil
 have st1_101:∀ (g1:FuncId) (k1:Array Value) (N0b:Nat) (N2b:Nat) (W:World),zS W→(VwX (fun b=>X b∨b=N0b∨b=N2b) W (.func (.func g1) #[] k1) f1 n1)→(Nwz w (b0) W N0b [.nilFunc])→(Nwz w (b0) W N2b [.nilFunc])→(N0b≠N2b)→wpAnyH Tryz.prog .any voOps Q zS 6 #[true,true,true,true,true,false,true,true,false,true,false,true,false,false,false] ⟨#[u,.pointer (some ⟨b0,0,none⟩),.nilFunc,(.pointer (some ⟨N0b,0,none⟩)),undef,(.pointer (some ⟨N2b,0,none⟩)),.pointer (some ⟨b0,0,none⟩),.agg #[.int .i64 P,va],.func (.func g1) #[] k1,.pointer (some ⟨b0,6,none⟩),vl,undef,.pointer (some ⟨b0,2,none⟩),.agg #[.int .i64 Q0,vb],undef,undef],[]⟩ W:=by
  subst zSe;intro g1 k1 N0b N2b W hS V1 N0 N2 D02;refine wpAnyH_ready (rs:=[5,10]) (by kernel_rfl) (by simp) ?_;refine AllReadyH.cons voOpsq5 (fun K hK=>?_) ?_
  ·go_simp;go_at_call 124;refine ((H2.out _ hS.1 (fun b=>X b∨b=N0b∨b=N2b) (by rintro b (c | rfl | rfl);exact ⟨(hX b c).1,zll (hX b c).2 hS.1.size⟩;exact ⟨Nat.le_trans hlo N0.le,N0.o.t.lt⟩;exact ⟨Nat.le_trans hlo N2.le,N2.o.t.lt⟩)).mono ?_);rintro e W' ⟨⟨v,rfl,V2⟩,hb⟩;obtain ⟨g2,k2,rfl⟩:=V2.shape;refine hK.out _ _ (mk _ W' hS hb) (fun hS'=>?_);(try simp only [Act.put,zls,zl0,zl1]);exact st2_101 g1 k1 g2 k2 N0b N2b W' hS' (V1.keep hb) V2 (N0.keep hb) (N2.keep hb) D02
  refine AllReadyH.cons voOpsq10 (fun K hK=>?_) ?_
  ·go_simp;have gb:=grow (here W) (.cells #[.nilFunc] 86);refine hK.out _ _ (mk _ _ hS gb) (fun hS'=>?_);(try simp only [Act.put,zls,zl0,zl1]);exact st1_111 g1 k1 N0b W.heap.size N2b _ hS' ((V1.more (by rintro b (c | c | c | c) <;> simp [c])).keep gb) (N0.keep gb) (Nwz.new hS.1 hS.2.2.2.2.2.2.2.2 [.nilFunc] 86) (N2.keep gb) (Nat.ne_of_lt N0.o.t.lt) D02 (Nat.ne_of_gt N2.o.t.lt)
  exact AllReadyH.nil
 have st1_110:∀ (g1:FuncId) (k1:Array Value) (N0b:Nat) (N1b:Nat) (W:World),zS W→(VwX (fun b=>X b∨b=N0b∨b=N1b) W (.func (.func g1) #[] k1) f1 n1)→(Nwz w (b0) W N0b [.nilFunc])→(Nwz w (b0) W N1b [.nilFunc])→(N0b≠N1b)→wpAnyH Tryz.prog .any voOps Q zS 6 #[true,true,true,true,true,false,true,true,false,true,true,false,false,false,false] ⟨#[u,.pointer (some ⟨b0,0,none⟩),.nilFunc,(.pointer (some ⟨N0b,0,none⟩)),(.pointer (some ⟨N1b,0,none⟩)),undef,.pointer (some ⟨b0,0,none⟩),.agg #[.int .i64 P,va],.func (.func g1) #[] k1,.pointer (some ⟨b0,6,none⟩),vl,undef,.pointer (some ⟨b0,2,none⟩),.agg #[.int .i64 Q0,vb],undef,undef],[]⟩ W:=by
  subst zSe;intro g1 k1 N0b N1b W hS V1 N0 N1 D01;refine wpAnyH_ready (rs:=[5,11]) (by kernel_rfl) (by simp) ?_;refine AllReadyH.cons voOpsq5 (fun K hK=>?_) ?_
  ·go_simp;go_at_call 124;refine ((H2.out _ hS.1 (fun b=>X b∨b=N0b∨b=N1b) (by rintro b (c | rfl | rfl);exact ⟨(hX b c).1,zll (hX b c).2 hS.1.size⟩;exact ⟨Nat.le_trans hlo N0.le,N0.o.t.lt⟩;exact ⟨Nat.le_trans hlo N1.le,N1.o.t.lt⟩)).mono ?_);rintro e W' ⟨⟨v,rfl,V2⟩,hb⟩;obtain ⟨g2,k2,rfl⟩:=V2.shape;refine hK.out _ _ (mk _ W' hS hb) (fun hS'=>?_);(try simp only [Act.put,zls,zl0,zl1]);exact st2_110 g1 k1 g2 k2 N0b N1b W' hS' (V1.keep hb) V2 (N0.keep hb) (N1.keep hb) D01
  refine AllReadyH.cons voOpsq11 (fun K hK=>?_) ?_
  ·go_simp;have gb:=grow (here W) (.cells #[.nilFunc] 86);refine hK.out _ _ (mk _ _ hS gb) (fun hS'=>?_);(try simp only [Act.put,zls,zl0,zl1]);exact st1_111 g1 k1 N0b N1b W.heap.size _ hS' ((V1.more (by rintro b (c | c | c | c) <;> simp [c])).keep gb) (N0.keep gb) (N1.keep gb) (Nwz.new hS.1 hS.2.2.2.2.2.2.2.2 [.nilFunc] 86) D01 (Nat.ne_of_lt N0.o.t.lt) (Nat.ne_of_lt N1.o.t.lt)
  exact AllReadyH.nil
 have st1_001:∀ (g1:FuncId) (k1:Array Value) (N2b:Nat) (W:World),zS W→(VwX (fun b=>X b∨b=N2b) W (.func (.func g1) #[] k1) f1 n1)→(Nwz w (b0) W N2b [.nilFunc])→wpAnyH Tryz.prog .any voOps Q zS 7 #[true,true,true,true,true,false,true,true,false,false,false,true,false,false,false] ⟨#[u,.pointer (some ⟨b0,0,none⟩),.nilFunc,undef,undef,(.pointer (some ⟨N2b,0,none⟩)),.pointer (some ⟨b0,0,none⟩),.agg #[.int .i64 P,va],.func (.func g1) #[] k1,.pointer (some ⟨b0,6,none⟩),vl,undef,.pointer (some ⟨b0,2,none⟩),.agg #[.int .i64 Q0,vb],undef,undef],[]⟩ W:=by
  subst zSe;intro g1 k1 N2b W hS V1 N2;refine wpAnyH_ready (rs:=[5,9,10]) (by kernel_rfl) (by simp) ?_;refine AllReadyH.cons voOpsq5 (fun K hK=>?_) ?_
  ·go_simp;go_at_call 124;refine ((H2.out _ hS.1 (fun b=>X b∨b=N2b) (by rintro b (c | rfl);exact ⟨(hX b c).1,zll (hX b c).2 hS.1.size⟩;exact ⟨Nat.le_trans hlo N2.le,N2.o.t.lt⟩)).mono ?_);rintro e W' ⟨⟨v,rfl,V2⟩,hb⟩;obtain ⟨g2,k2,rfl⟩:=V2.shape;refine hK.out _ _ (mk _ W' hS hb) (fun hS'=>?_);(try simp only [Act.put,zls,zl0,zl1]);exact st2_001 g1 k1 g2 k2 N2b W' hS' (V1.keep hb) V2 (N2.keep hb)
  refine AllReadyH.cons voOpsq9 (fun K hK=>?_) ?_
  ·go_simp;have gb:=grow (here W) (.cells #[.nilFunc] 86);refine hK.out _ _ (mk _ _ hS gb) (fun hS'=>?_);(try simp only [Act.put,zls,zl0,zl1]);exact st1_101 g1 k1 W.heap.size N2b _ hS' ((V1.more (by rintro b (c | c | c) <;> simp [c])).keep gb) (Nwz.new hS.1 hS.2.2.2.2.2.2.2.2 [.nilFunc] 86) (N2.keep gb) (Nat.ne_of_gt N2.o.t.lt)
  refine AllReadyH.cons voOpsq10 (fun K hK=>?_) ?_
  ·go_simp;have gb:=grow (here W) (.cells #[.nilFunc] 86);refine hK.out _ _ (mk _ _ hS gb) (fun hS'=>?_);(try simp only [Act.put,zls,zl0,zl1]);exact st1_011 g1 k1 W.heap.size N2b _ hS' ((V1.more (by rintro b (c | c | c) <;> simp [c])).keep gb) (Nwz.new hS.1 hS.2.2.2.2.2.2.2.2 [.nilFunc] 86) (N2.keep gb) (Nat.ne_of_gt N2.o.t.lt)
  exact AllReadyH.nil
 have st1_010:∀ (g1:FuncId) (k1:Array Value) (N1b:Nat) (W:World),zS W→(VwX (fun b=>X b∨b=N1b) W (.func (.func g1) #[] k1) f1 n1)→(Nwz w (b0) W N1b [.nilFunc])→wpAnyH Tryz.prog .any voOps Q zS 7 #[true,true,true,true,true,false,true,true,false,false,true,false,false,false,false] ⟨#[u,.pointer (some ⟨b0,0,none⟩),.nilFunc,undef,(.pointer (some ⟨N1b,0,none⟩)),undef,.pointer (some ⟨b0,0,none⟩),.agg #[.int .i64 P,va],.func (.func g1) #[] k1,.pointer (some ⟨b0,6,none⟩),vl,undef,.pointer (some ⟨b0,2,none⟩),.agg #[.int .i64 Q0,vb],undef,undef],[]⟩ W:=by
  subst zSe;intro g1 k1 N1b W hS V1 N1;refine wpAnyH_ready (rs:=[5,9,11]) (by kernel_rfl) (by simp) ?_;refine AllReadyH.cons voOpsq5 (fun K hK=>?_) ?_
  ·go_simp;go_at_call 124;refine ((H2.out _ hS.1 (fun b=>X b∨b=N1b) (by rintro b (c | rfl);exact ⟨(hX b c).1,zll (hX b c).2 hS.1.size⟩;exact ⟨Nat.le_trans hlo N1.le,N1.o.t.lt⟩)).mono ?_);rintro e W' ⟨⟨v,rfl,V2⟩,hb⟩;obtain ⟨g2,k2,rfl⟩:=V2.shape;refine hK.out _ _ (mk _ W' hS hb) (fun hS'=>?_);(try simp only [Act.put,zls,zl0,zl1]);exact st2_010 g1 k1 g2 k2 N1b W' hS' (V1.keep hb) V2 (N1.keep hb)
  refine AllReadyH.cons voOpsq9 (fun K hK=>?_) ?_
  ·go_simp;have gb:=grow (here W) (.cells #[.nilFunc] 86);refine hK.out _ _ (mk _ _ hS gb) (fun hS'=>?_);(try simp only [Act.put,zls,zl0,zl1]);exact st1_110 g1 k1 W.heap.size N1b _ hS' ((V1.more (by rintro b (c | c | c) <;> simp [c])).keep gb) (Nwz.new hS.1 hS.2.2.2.2.2.2.2.2 [.nilFunc] 86) (N1.keep gb) (Nat.ne_of_gt N1.o.t.lt)
  refine AllReadyH.cons voOpsq11 (fun K hK=>?_) ?_
  ·go_simp;have gb:=grow (here W) (.cells #[.nilFunc] 86);refine hK.out _ _ (mk _ _ hS gb) (fun hS'=>?_);(try simp only [Act.put,zls,zl0,zl1]);exact st1_011 g1 k1 N1b W.heap.size _ hS' ((V1.more (by rintro b (c | c | c) <;> simp [c])).keep gb) (N1.keep gb) (Nwz.new hS.1 hS.2.2.2.2.2.2.2.2 [.nilFunc] 86) (Nat.ne_of_lt N1.o.t.lt)
  exact AllReadyH.nil
 have st1_100:∀ (g1:FuncId) (k1:Array Value) (N0b:Nat) (W:World),zS W→(VwX (fun b=>X b∨b=N0b) W (.func (.func g1) #[] k1) f1 n1)→(Nwz w (b0) W N0b [.nilFunc])→wpAnyH Tryz.prog .any voOps Q zS 7 #[true,true,true,true,true,false,true,true,false,true,false,false,false,false,false] ⟨#[u,.pointer (some ⟨b0,0,none⟩),.nilFunc,(.pointer (some ⟨N0b,0,none⟩)),undef,undef,.pointer (some ⟨b0,0,none⟩),.agg #[.int .i64 P,va],.func (.func g1) #[] k1,.pointer (some ⟨b0,6,none⟩),vl,undef,.pointer (some ⟨b0,2,none⟩),.agg #[.int .i64 Q0,vb],undef,undef],[]⟩ W:=by
  subst zSe;intro g1 k1 N0b W hS V1 N0;refine wpAnyH_ready (rs:=[5,10,11]) (by kernel_rfl) (by simp) ?_;refine AllReadyH.cons voOpsq5 (fun K hK=>?_) ?_
  ·go_simp;go_at_call 124;refine ((H2.out _ hS.1 (fun b=>X b∨b=N0b) (by rintro b (c | rfl);exact ⟨(hX b c).1,zll (hX b c).2 hS.1.size⟩;exact ⟨Nat.le_trans hlo N0.le,N0.o.t.lt⟩)).mono ?_);rintro e W' ⟨⟨v,rfl,V2⟩,hb⟩;obtain ⟨g2,k2,rfl⟩:=V2.shape;refine hK.out _ _ (mk _ W' hS hb) (fun hS'=>?_);(try simp only [Act.put,zls,zl0,zl1]);exact st2_100 g1 k1 g2 k2 N0b W' hS' (V1.keep hb) V2 (N0.keep hb)
  refine AllReadyH.cons voOpsq10 (fun K hK=>?_) ?_
  ·go_simp;have gb:=grow (here W) (.cells #[.nilFunc] 86);refine hK.out _ _ (mk _ _ hS gb) (fun hS'=>?_);(try simp only [Act.put,zls,zl0,zl1]);exact st1_110 g1 k1 N0b W.heap.size _ hS' ((V1.more (by rintro b (c | c | c) <;> simp [c])).keep gb) (N0.keep gb) (Nwz.new hS.1 hS.2.2.2.2.2.2.2.2 [.nilFunc] 86) (Nat.ne_of_lt N0.o.t.lt)
  refine AllReadyH.cons voOpsq11 (fun K hK=>?_) ?_
  ·go_simp;have gb:=grow (here W) (.cells #[.nilFunc] 86);refine hK.out _ _ (mk _ _ hS gb) (fun hS'=>?_);(try simp only [Act.put,zls,zl0,zl1]);exact st1_101 g1 k1 N0b W.heap.size _ hS' ((V1.more (by rintro b (c | c | c) <;> simp [c])).keep gb) (N0.keep gb) (Nwz.new hS.1 hS.2.2.2.2.2.2.2.2 [.nilFunc] 86) (Nat.ne_of_lt N0.o.t.lt)
  exact AllReadyH.nil
 have st1_000:∀ (g1:FuncId) (k1:Array Value) (W:World),zS W→(VwX (fun b=>X b) W (.func (.func g1) #[] k1) f1 n1)→wpAnyH Tryz.prog .any voOps Q zS 8 #[true,true,true,true,true,false,true,true,false,false,false,false,false,false,false] ⟨#[u,.pointer (some ⟨b0,0,none⟩),.nilFunc,undef,undef,undef,.pointer (some ⟨b0,0,none⟩),.agg #[.int .i64 P,va],.func (.func g1) #[] k1,.pointer (some ⟨b0,6,none⟩),vl,undef,.pointer (some ⟨b0,2,none⟩),.agg #[.int .i64 Q0,vb],undef,undef],[]⟩ W:=by
  subst zSe;intro g1 k1 W hS V1;refine wpAnyH_ready (rs:=[5,9,10,11]) (by kernel_rfl) (by simp) ?_;refine AllReadyH.cons voOpsq5 (fun K hK=>?_) ?_
  ·go_simp;go_at_call 124;refine ((H2.out _ hS.1 (fun b=>X b) (by intro b c;exact ⟨(hX b c).1,zll (hX b c).2 hS.1.size⟩)).mono ?_);rintro e W' ⟨⟨v,rfl,V2⟩,hb⟩;obtain ⟨g2,k2,rfl⟩:=V2.shape;refine hK.out _ _ (mk _ W' hS hb) (fun hS'=>?_);(try simp only [Act.put,zls,zl0,zl1]);exact st2_000 g1 k1 g2 k2 W' hS' (V1.keep hb) V2
  refine AllReadyH.cons voOpsq9 (fun K hK=>?_) ?_
  ·go_simp;have gb:=grow (here W) (.cells #[.nilFunc] 86);refine hK.out _ _ (mk _ _ hS gb) (fun hS'=>?_);(try simp only [Act.put,zls,zl0,zl1]);exact st1_100 g1 k1 W.heap.size _ hS' ((V1.more (by rintro b (c | c) <;> simp [c])).keep gb) (Nwz.new hS.1 hS.2.2.2.2.2.2.2.2 [.nilFunc] 86)
  refine AllReadyH.cons voOpsq10 (fun K hK=>?_) ?_
  ·go_simp;have gb:=grow (here W) (.cells #[.nilFunc] 86);refine hK.out _ _ (mk _ _ hS gb) (fun hS'=>?_);(try simp only [Act.put,zls,zl0,zl1]);exact st1_010 g1 k1 W.heap.size _ hS' ((V1.more (by rintro b (c | c) <;> simp [c])).keep gb) (Nwz.new hS.1 hS.2.2.2.2.2.2.2.2 [.nilFunc] 86)
  refine AllReadyH.cons voOpsq11 (fun K hK=>?_) ?_
  ·go_simp;have gb:=grow (here W) (.cells #[.nilFunc] 86);refine hK.out _ _ (mk _ _ hS gb) (fun hS'=>?_);(try simp only [Act.put,zls,zl0,zl1]);exact st1_001 g1 k1 W.heap.size _ hS' ((V1.more (by rintro b (c | c) <;> simp [c])).keep gb) (Nwz.new hS.1 hS.2.2.2.2.2.2.2.2 [.nilFunc] 86)
  exact AllReadyH.nil
 have st0_111:∀ (N0b:Nat) (N1b:Nat) (N2b:Nat) (W:World),zS W→(Nwz w (b0) W N0b [.nilFunc])→(Nwz w (b0) W N1b [.nilFunc])→(Nwz w (b0) W N2b [.nilFunc])→(N0b≠N1b)→(N0b≠N2b)→(N1b≠N2b)→wpAnyH Tryz.prog .any voOps Q zS 6 #[true,true,false,true,true,false,true,true,false,true,true,true,false,false,false] ⟨#[u,.pointer (some ⟨b0,0,none⟩),.nilFunc,(.pointer (some ⟨N0b,0,none⟩)),(.pointer (some ⟨N1b,0,none⟩)),(.pointer (some ⟨N2b,0,none⟩)),.pointer (some ⟨b0,0,none⟩),.agg #[.int .i64 P,va],undef,.pointer (some ⟨b0,6,none⟩),vl,undef,.pointer (some ⟨b0,2,none⟩),.agg #[.int .i64 Q0,vb],undef,undef],[]⟩ W:=by
  subst zSe;intro N0b N1b N2b W hS N0 N1 N2 D01 D02 D12;refine wpAnyH_ready (rs:=[2]) (by kernel_rfl) (by simp) ?_;refine AllReadyH.cons voOpsq2 (fun K hK=>?_) ?_
  ·go_simp;go_at_call 123;refine ((H1.out _ hS.1 (fun b=>X b∨b=N0b∨b=N1b∨b=N2b) (by rintro b (c | rfl | rfl | rfl);exact ⟨(hX b c).1,zll (hX b c).2 hS.1.size⟩;exact ⟨Nat.le_trans hlo N0.le,N0.o.t.lt⟩;exact ⟨Nat.le_trans hlo N1.le,N1.o.t.lt⟩;exact ⟨Nat.le_trans hlo N2.le,N2.o.t.lt⟩)).mono ?_);rintro e W' ⟨⟨v,rfl,V1⟩,hb⟩;obtain ⟨g1,k1,rfl⟩:=V1.shape;refine hK.out _ _ (mk _ W' hS hb) (fun hS'=>?_);(try simp only [Act.put,zls,zl0,zl1]);exact st1_111 g1 k1 N0b N1b N2b W' hS'  V1 (N0.keep hb) (N1.keep hb) (N2.keep hb) D01 D02 D12
  exact AllReadyH.nil
 have st0_011:∀ (N1b:Nat) (N2b:Nat) (W:World),zS W→(Nwz w (b0) W N1b [.nilFunc])→(Nwz w (b0) W N2b [.nilFunc])→(N1b≠N2b)→wpAnyH Tryz.prog .any voOps Q zS 7 #[true,true,false,true,true,false,true,true,false,false,true,true,false,false,false] ⟨#[u,.pointer (some ⟨b0,0,none⟩),.nilFunc,undef,(.pointer (some ⟨N1b,0,none⟩)),(.pointer (some ⟨N2b,0,none⟩)),.pointer (some ⟨b0,0,none⟩),.agg #[.int .i64 P,va],undef,.pointer (some ⟨b0,6,none⟩),vl,undef,.pointer (some ⟨b0,2,none⟩),.agg #[.int .i64 Q0,vb],undef,undef],[]⟩ W:=by
  subst zSe;intro N1b N2b W hS N1 N2 D12;refine wpAnyH_ready (rs:=[2,9]) (by kernel_rfl) (by simp) ?_;refine AllReadyH.cons voOpsq2 (fun K hK=>?_) ?_
  ·go_simp;go_at_call 123;refine ((H1.out _ hS.1 (fun b=>X b∨b=N1b∨b=N2b) (by rintro b (c | rfl | rfl);exact ⟨(hX b c).1,zll (hX b c).2 hS.1.size⟩;exact ⟨Nat.le_trans hlo N1.le,N1.o.t.lt⟩;exact ⟨Nat.le_trans hlo N2.le,N2.o.t.lt⟩)).mono ?_);rintro e W' ⟨⟨v,rfl,V1⟩,hb⟩;obtain ⟨g1,k1,rfl⟩:=V1.shape;refine hK.out _ _ (mk _ W' hS hb) (fun hS'=>?_);(try simp only [Act.put,zls,zl0,zl1]);exact st1_011 g1 k1 N1b N2b W' hS'  V1 (N1.keep hb) (N2.keep hb) D12
  refine AllReadyH.cons voOpsq9 (fun K hK=>?_) ?_
  ·go_simp;have gb:=grow (here W) (.cells #[.nilFunc] 86);refine hK.out _ _ (mk _ _ hS gb) (fun hS'=>?_);(try simp only [Act.put,zls,zl0,zl1]);exact st0_111 W.heap.size N1b N2b _ hS'  (Nwz.new hS.1 hS.2.2.2.2.2.2.2.2 [.nilFunc] 86) (N1.keep gb) (N2.keep gb) (Nat.ne_of_gt N1.o.t.lt) (Nat.ne_of_gt N2.o.t.lt) D12
  exact AllReadyH.nil
 have st0_101:∀ (N0b:Nat) (N2b:Nat) (W:World),zS W→(Nwz w (b0) W N0b [.nilFunc])→(Nwz w (b0) W N2b [.nilFunc])→(N0b≠N2b)→wpAnyH Tryz.prog .any voOps Q zS 7 #[true,true,false,true,true,false,true,true,false,true,false,true,false,false,false] ⟨#[u,.pointer (some ⟨b0,0,none⟩),.nilFunc,(.pointer (some ⟨N0b,0,none⟩)),undef,(.pointer (some ⟨N2b,0,none⟩)),.pointer (some ⟨b0,0,none⟩),.agg #[.int .i64 P,va],undef,.pointer (some ⟨b0,6,none⟩),vl,undef,.pointer (some ⟨b0,2,none⟩),.agg #[.int .i64 Q0,vb],undef,undef],[]⟩ W:=by
  subst zSe;intro N0b N2b W hS N0 N2 D02;refine wpAnyH_ready (rs:=[2,10]) (by kernel_rfl) (by simp) ?_;refine AllReadyH.cons voOpsq2 (fun K hK=>?_) ?_
  ·go_simp;go_at_call 123;refine ((H1.out _ hS.1 (fun b=>X b∨b=N0b∨b=N2b) (by rintro b (c | rfl | rfl);exact ⟨(hX b c).1,zll (hX b c).2 hS.1.size⟩;exact ⟨Nat.le_trans hlo N0.le,N0.o.t.lt⟩;exact ⟨Nat.le_trans hlo N2.le,N2.o.t.lt⟩)).mono ?_);rintro e W' ⟨⟨v,rfl,V1⟩,hb⟩;obtain ⟨g1,k1,rfl⟩:=V1.shape;refine hK.out _ _ (mk _ W' hS hb) (fun hS'=>?_);(try simp only [Act.put,zls,zl0,zl1]);exact st1_101 g1 k1 N0b N2b W' hS'  V1 (N0.keep hb) (N2.keep hb) D02
  refine AllReadyH.cons voOpsq10 (fun K hK=>?_) ?_
  ·go_simp;have gb:=grow (here W) (.cells #[.nilFunc] 86);refine hK.out _ _ (mk _ _ hS gb) (fun hS'=>?_);(try simp only [Act.put,zls,zl0,zl1]);exact st0_111 N0b W.heap.size N2b _ hS'  (N0.keep gb) (Nwz.new hS.1 hS.2.2.2.2.2.2.2.2 [.nilFunc] 86) (N2.keep gb) (Nat.ne_of_lt N0.o.t.lt) D02 (Nat.ne_of_gt N2.o.t.lt)
  exact AllReadyH.nil
 have st0_110:∀ (N0b:Nat) (N1b:Nat) (W:World),zS W→(Nwz w (b0) W N0b [.nilFunc])→(Nwz w (b0) W N1b [.nilFunc])→(N0b≠N1b)→wpAnyH Tryz.prog .any voOps Q zS 7 #[true,true,false,true,true,false,true,true,false,true,true,false,false,false,false] ⟨#[u,.pointer (some ⟨b0,0,none⟩),.nilFunc,(.pointer (some ⟨N0b,0,none⟩)),(.pointer (some ⟨N1b,0,none⟩)),undef,.pointer (some ⟨b0,0,none⟩),.agg #[.int .i64 P,va],undef,.pointer (some ⟨b0,6,none⟩),vl,undef,.pointer (some ⟨b0,2,none⟩),.agg #[.int .i64 Q0,vb],undef,undef],[]⟩ W:=by
  subst zSe;intro N0b N1b W hS N0 N1 D01;refine wpAnyH_ready (rs:=[2,11]) (by kernel_rfl) (by simp) ?_;refine AllReadyH.cons voOpsq2 (fun K hK=>?_) ?_
  ·go_simp;go_at_call 123;refine ((H1.out _ hS.1 (fun b=>X b∨b=N0b∨b=N1b) (by rintro b (c | rfl | rfl);exact ⟨(hX b c).1,zll (hX b c).2 hS.1.size⟩;exact ⟨Nat.le_trans hlo N0.le,N0.o.t.lt⟩;exact ⟨Nat.le_trans hlo N1.le,N1.o.t.lt⟩)).mono ?_);rintro e W' ⟨⟨v,rfl,V1⟩,hb⟩;obtain ⟨g1,k1,rfl⟩:=V1.shape;refine hK.out _ _ (mk _ W' hS hb) (fun hS'=>?_);(try simp only [Act.put,zls,zl0,zl1]);exact st1_110 g1 k1 N0b N1b W' hS'  V1 (N0.keep hb) (N1.keep hb) D01
  refine AllReadyH.cons voOpsq11 (fun K hK=>?_) ?_
  ·go_simp;have gb:=grow (here W) (.cells #[.nilFunc] 86);refine hK.out _ _ (mk _ _ hS gb) (fun hS'=>?_);(try simp only [Act.put,zls,zl0,zl1]);exact st0_111 N0b N1b W.heap.size _ hS'  (N0.keep gb) (N1.keep gb) (Nwz.new hS.1 hS.2.2.2.2.2.2.2.2 [.nilFunc] 86) D01 (Nat.ne_of_lt N0.o.t.lt) (Nat.ne_of_lt N1.o.t.lt)
  exact AllReadyH.nil
 have st0_001:∀ (N2b:Nat) (W:World),zS W→(Nwz w (b0) W N2b [.nilFunc])→wpAnyH Tryz.prog .any voOps Q zS 8 #[true,true,false,true,true,false,true,true,false,false,false,true,false,false,false] ⟨#[u,.pointer (some ⟨b0,0,none⟩),.nilFunc,undef,undef,(.pointer (some ⟨N2b,0,none⟩)),.pointer (some ⟨b0,0,none⟩),.agg #[.int .i64 P,va],undef,.pointer (some ⟨b0,6,none⟩),vl,undef,.pointer (some ⟨b0,2,none⟩),.agg #[.int .i64 Q0,vb],undef,undef],[]⟩ W:=by
  subst zSe;intro N2b W hS N2;refine wpAnyH_ready (rs:=[2,9,10]) (by kernel_rfl) (by simp) ?_;refine AllReadyH.cons voOpsq2 (fun K hK=>?_) ?_
  ·go_simp;go_at_call 123;refine ((H1.out _ hS.1 (fun b=>X b∨b=N2b) (by rintro b (c | rfl);exact ⟨(hX b c).1,zll (hX b c).2 hS.1.size⟩;exact ⟨Nat.le_trans hlo N2.le,N2.o.t.lt⟩)).mono ?_);rintro e W' ⟨⟨v,rfl,V1⟩,hb⟩;obtain ⟨g1,k1,rfl⟩:=V1.shape;refine hK.out _ _ (mk _ W' hS hb) (fun hS'=>?_);(try simp only [Act.put,zls,zl0,zl1]);exact st1_001 g1 k1 N2b W' hS'  V1 (N2.keep hb)
  refine AllReadyH.cons voOpsq9 (fun K hK=>?_) ?_
  ·go_simp;have gb:=grow (here W) (.cells #[.nilFunc] 86);refine hK.out _ _ (mk _ _ hS gb) (fun hS'=>?_);(try simp only [Act.put,zls,zl0,zl1]);exact st0_101 W.heap.size N2b _ hS'  (Nwz.new hS.1 hS.2.2.2.2.2.2.2.2 [.nilFunc] 86) (N2.keep gb) (Nat.ne_of_gt N2.o.t.lt)
  refine AllReadyH.cons voOpsq10 (fun K hK=>?_) ?_
  ·go_simp;have gb:=grow (here W) (.cells #[.nilFunc] 86);refine hK.out _ _ (mk _ _ hS gb) (fun hS'=>?_);(try simp only [Act.put,zls,zl0,zl1]);exact st0_011 W.heap.size N2b _ hS'  (Nwz.new hS.1 hS.2.2.2.2.2.2.2.2 [.nilFunc] 86) (N2.keep gb) (Nat.ne_of_gt N2.o.t.lt)
  exact AllReadyH.nil
 have st0_010:∀ (N1b:Nat) (W:World),zS W→(Nwz w (b0) W N1b [.nilFunc])→wpAnyH Tryz.prog .any voOps Q zS 8 #[true,true,false,true,true,false,true,true,false,false,true,false,false,false,false] ⟨#[u,.pointer (some ⟨b0,0,none⟩),.nilFunc,undef,(.pointer (some ⟨N1b,0,none⟩)),undef,.pointer (some ⟨b0,0,none⟩),.agg #[.int .i64 P,va],undef,.pointer (some ⟨b0,6,none⟩),vl,undef,.pointer (some ⟨b0,2,none⟩),.agg #[.int .i64 Q0,vb],undef,undef],[]⟩ W:=by
  subst zSe;intro N1b W hS N1;refine wpAnyH_ready (rs:=[2,9,11]) (by kernel_rfl) (by simp) ?_;refine AllReadyH.cons voOpsq2 (fun K hK=>?_) ?_
  ·go_simp;go_at_call 123;refine ((H1.out _ hS.1 (fun b=>X b∨b=N1b) (by rintro b (c | rfl);exact ⟨(hX b c).1,zll (hX b c).2 hS.1.size⟩;exact ⟨Nat.le_trans hlo N1.le,N1.o.t.lt⟩)).mono ?_);rintro e W' ⟨⟨v,rfl,V1⟩,hb⟩;obtain ⟨g1,k1,rfl⟩:=V1.shape;refine hK.out _ _ (mk _ W' hS hb) (fun hS'=>?_);(try simp only [Act.put,zls,zl0,zl1]);exact st1_010 g1 k1 N1b W' hS'  V1 (N1.keep hb)
  refine AllReadyH.cons voOpsq9 (fun K hK=>?_) ?_
  ·go_simp;have gb:=grow (here W) (.cells #[.nilFunc] 86);refine hK.out _ _ (mk _ _ hS gb) (fun hS'=>?_);(try simp only [Act.put,zls,zl0,zl1]);exact st0_110 W.heap.size N1b _ hS'  (Nwz.new hS.1 hS.2.2.2.2.2.2.2.2 [.nilFunc] 86) (N1.keep gb) (Nat.ne_of_gt N1.o.t.lt)
  refine AllReadyH.cons voOpsq11 (fun K hK=>?_) ?_
  ·go_simp;have gb:=grow (here W) (.cells #[.nilFunc] 86);refine hK.out _ _ (mk _ _ hS gb) (fun hS'=>?_);(try simp only [Act.put,zls,zl0,zl1]);exact st0_011 N1b W.heap.size _ hS'  (N1.keep gb) (Nwz.new hS.1 hS.2.2.2.2.2.2.2.2 [.nilFunc] 86) (Nat.ne_of_lt N1.o.t.lt)
  exact AllReadyH.nil
 have st0_100:∀ (N0b:Nat) (W:World),zS W→(Nwz w (b0) W N0b [.nilFunc])→wpAnyH Tryz.prog .any voOps Q zS 8 #[true,true,false,true,true,false,true,true,false,true,false,false,false,false,false] ⟨#[u,.pointer (some ⟨b0,0,none⟩),.nilFunc,(.pointer (some ⟨N0b,0,none⟩)),undef,undef,.pointer (some ⟨b0,0,none⟩),.agg #[.int .i64 P,va],undef,.pointer (some ⟨b0,6,none⟩),vl,undef,.pointer (some ⟨b0,2,none⟩),.agg #[.int .i64 Q0,vb],undef,undef],[]⟩ W:=by
  subst zSe;intro N0b W hS N0;refine wpAnyH_ready (rs:=[2,10,11]) (by kernel_rfl) (by simp) ?_;refine AllReadyH.cons voOpsq2 (fun K hK=>?_) ?_
  ·go_simp;go_at_call 123;refine ((H1.out _ hS.1 (fun b=>X b∨b=N0b) (by rintro b (c | rfl);exact ⟨(hX b c).1,zll (hX b c).2 hS.1.size⟩;exact ⟨Nat.le_trans hlo N0.le,N0.o.t.lt⟩)).mono ?_);rintro e W' ⟨⟨v,rfl,V1⟩,hb⟩;obtain ⟨g1,k1,rfl⟩:=V1.shape;refine hK.out _ _ (mk _ W' hS hb) (fun hS'=>?_);(try simp only [Act.put,zls,zl0,zl1]);exact st1_100 g1 k1 N0b W' hS'  V1 (N0.keep hb)
  refine AllReadyH.cons voOpsq10 (fun K hK=>?_) ?_
  ·go_simp;have gb:=grow (here W) (.cells #[.nilFunc] 86);refine hK.out _ _ (mk _ _ hS gb) (fun hS'=>?_);(try simp only [Act.put,zls,zl0,zl1]);exact st0_110 N0b W.heap.size _ hS'  (N0.keep gb) (Nwz.new hS.1 hS.2.2.2.2.2.2.2.2 [.nilFunc] 86) (Nat.ne_of_lt N0.o.t.lt)
  refine AllReadyH.cons voOpsq11 (fun K hK=>?_) ?_
  ·go_simp;have gb:=grow (here W) (.cells #[.nilFunc] 86);refine hK.out _ _ (mk _ _ hS gb) (fun hS'=>?_);(try simp only [Act.put,zls,zl0,zl1]);exact st0_101 N0b W.heap.size _ hS'  (N0.keep gb) (Nwz.new hS.1 hS.2.2.2.2.2.2.2.2 [.nilFunc] 86) (Nat.ne_of_lt N0.o.t.lt)
  exact AllReadyH.nil
 have st0_000:∀  (W:World),zS W→wpAnyH Tryz.prog .any voOps Q zS 9 #[true,true,false,true,true,false,true,true,false,false,false,false,false,false,false] ⟨#[u,.pointer (some ⟨b0,0,none⟩),.nilFunc,undef,undef,undef,.pointer (some ⟨b0,0,none⟩),.agg #[.int .i64 P,va],undef,.pointer (some ⟨b0,6,none⟩),vl,undef,.pointer (some ⟨b0,2,none⟩),.agg #[.int .i64 Q0,vb],undef,undef],[]⟩ W:=by
  subst zSe;intro  W hS;refine wpAnyH_ready (rs:=[2,9,10,11]) (by kernel_rfl) (by simp) ?_;refine AllReadyH.cons voOpsq2 (fun K hK=>?_) ?_
  ·go_simp;go_at_call 123;refine ((H1.out _ hS.1 (fun b=>X b) (by intro b c;exact ⟨(hX b c).1,zll (hX b c).2 hS.1.size⟩)).mono ?_);rintro e W' ⟨⟨v,rfl,V1⟩,hb⟩;obtain ⟨g1,k1,rfl⟩:=V1.shape;refine hK.out _ _ (mk _ W' hS hb) (fun hS'=>?_);(try simp only [Act.put,zls,zl0,zl1]);exact st1_000 g1 k1 W' hS'  V1
  refine AllReadyH.cons voOpsq9 (fun K hK=>?_) ?_
  ·go_simp;have gb:=grow (here W) (.cells #[.nilFunc] 86);refine hK.out _ _ (mk _ _ hS gb) (fun hS'=>?_);(try simp only [Act.put,zls,zl0,zl1]);exact st0_100 W.heap.size _ hS'  (Nwz.new hS.1 hS.2.2.2.2.2.2.2.2 [.nilFunc] 86)
  refine AllReadyH.cons voOpsq10 (fun K hK=>?_) ?_
  ·go_simp;have gb:=grow (here W) (.cells #[.nilFunc] 86);refine hK.out _ _ (mk _ _ hS gb) (fun hS'=>?_);(try simp only [Act.put,zls,zl0,zl1]);exact st0_010 W.heap.size _ hS'  (Nwz.new hS.1 hS.2.2.2.2.2.2.2.2 [.nilFunc] 86)
  refine AllReadyH.cons voOpsq11 (fun K hK=>?_) ?_
  ·go_simp;have gb:=grow (here W) (.cells #[.nilFunc] 86);refine hK.out _ _ (mk _ _ hS gb) (fun hS'=>?_);(try simp only [Act.put,zls,zl0,zl1]);exact st0_001 W.heap.size _ hS'  (Nwz.new hS.1 hS.2.2.2.2.2.2.2.2 [.nilFunc] 86)
  exact AllReadyH.nil
 subst zSe;refine wp_region_held_drew (S:=(fun W'=>Below w.heap.size w W'∧W'.cell? ⟨b0,0,none⟩=some (.int .i64 P)∧W'.cell? ⟨b0,1,none⟩=some (va)∧W'.cell? ⟨b0,2,none⟩=some (.int .i64 Q0)∧W'.cell? ⟨b0,3,none⟩=some (vb)∧W'.cell? ⟨b0,4,none⟩=some (.int .i64 a)∧W'.cell? ⟨b0,5,none⟩=some (.int .i64 b)∧W'.cell? ⟨b0,6,none⟩=some (vl)∧b0<W'.heap.size)) (by kernel_rfl) (mk _ _ hS0 (here w0).drew) (fun hS=>?_);refine wpAnyH_take (i:=0) (v:=.pointer (some ⟨b0,0,none⟩)) voOpsq0 (by kernel_rfl) (by kernel_rfl) (by kernel_rfl) (fun _ _ _ h=>hQ _ _ _ _ _ h) (Or.inl ⟨by rfl,?_⟩) hS ?_
 ·intro w hSw;(try dsimp only at hSw);go_simp
 (try simp only [Act.put,zls,zl0,zl1]);refine wpAnyH_take (i:=1) (v:=.agg #[.int .i64 P,va]) voOpsq1 (by kernel_rfl) (by kernel_rfl) (by kernel_rfl) (fun _ _ _ h=>hQ _ _ _ _ _ h) (Or.inl ⟨by rfl,?_⟩) hS ?_
 ·intro w hSw;(try dsimp only at hSw);go_simp
 (try simp only [Act.put,zls,zl0,zl1]);refine wpAnyH_take (i:=3) (v:=.pointer (some ⟨b0,6,none⟩)) voOpsq3 (by kernel_rfl) (by kernel_rfl) (by kernel_rfl) (fun _ _ _ h=>hQ _ _ _ _ _ h) (Or.inl ⟨by rfl,?_⟩) hS ?_
 ·intro w hSw;(try dsimp only at hSw);go_simp
 (try simp only [Act.put,zls,zl0,zl1]);refine wpAnyH_take (i:=4) (v:=vl) voOpsq4 (by kernel_rfl) (by kernel_rfl) (by kernel_rfl) (fun _ _ _ h=>hQ _ _ _ _ _ h) (Or.inl ⟨by rfl,?_⟩) hS ?_
 ·intro w hSw;(try dsimp only at hSw);go_simp
 (try simp only [Act.put,zls,zl0,zl1]);refine wpAnyH_take (i:=6) (v:=.pointer (some ⟨b0,2,none⟩)) voOpsq6 (by kernel_rfl) (by kernel_rfl) (by kernel_rfl) (fun _ _ _ h=>hQ _ _ _ _ _ h) (Or.inl ⟨by rfl,?_⟩) hS ?_
 ·intro w hSw;(try dsimp only at hSw);go_simp
 (try simp only [Act.put,zls,zl0,zl1]);refine wpAnyH_take (i:=7) (v:=.agg #[.int .i64 Q0,vb]) voOpsq7 (by kernel_rfl) (by kernel_rfl) (by kernel_rfl) (fun _ _ _ h=>hQ _ _ _ _ _ h) (Or.inl ⟨by rfl,?_⟩) hS ?_
 ·intro w hSw;(try dsimp only at hSw);go_simp
 (try simp only [Act.put,zls,zl0,zl1]);exact st0_000 _ hS
theorem VwX.sub {X:Nat→Prop} {Y:Nat→Prop} {w w':World} {v:Value} {f:Int→Bool} {nx:Int→Int} (hb:Far (fun b=>X b∨Y b) w w') (h:VwX (fun b=>X b∨Y b) w v f nx):VwX X w' v f nx:=by
 obtain ⟨g,caps,e,eg,k⟩:=h;exact ⟨g,caps,e,eg,fun W hW x hx=>k W (hb.trans ⟨hW.os,hW.tape,hW.output,hW.size,fun i hi hx=>hW.block i hi (fun c=>hx (Or.inl c))⟩) x hx⟩
set_option maxRecDepth 100000 in
set_option maxHeartbeats 2000000 in
theorem tvset1 (s:TS) (va vb vl v3 v4 v5:Value) (b0 b3 b4 b5:Nat) (x:Int) (hx:I64 x) (w:World) (hb:Bxs w b0 [.int .i64 s.P,va,.int .i64 s.Q,vb,.int .i64 s.a,.int .i64 s.b,vl]) (h3:One w b3 v3) (h4:One w b4 v4) (h5:One w b5 v5) (V3:Vw w v3 (hsP s.P s.A) (nxP s.P s.A)) (V4:Vw w v4 (inB s.L) (nxL s.L)) (V5:Vw w v5 (hsP s.Q s.B) (nxP s.Q s.B)) :
    Calls Tryz.prog 125 #[.int .i64 x,.pointer (some ⟨b0,0,none⟩),.pointer (some ⟨b3,0,none⟩),.pointer (some ⟨b4,0,none⟩),.pointer (some ⟨b5,0,none⟩)] w fun e w'=>(∃ n,e=.returned (.tuple #[.bool (hsT s x),.int .i64 n])∧(-1152921504606846976≤x→x≤1152921504606846976→n=nxT s x))∧Below w.heap.size w w':=by
  have e1:hsT s x=if x<s.a then hsP s.P s.A x else if x<s.b then inB s.L x else hsP s.Q s.B x:=rfl;have e2:nxT s x=if x<s.a then mnI (nxP s.P s.A x) s.a else if x<s.b then mnI (nxL s.L x) s.b else nxP s.Q s.B x:=rfl;rw [e1,e2];clear e1 e2
  by_cases c:x<s.a
  · have kc:decide (x<s.a)=true:=zdt c;rw [if_pos c,if_pos c];clear c V4 V5;obtain ⟨g,caps,rfl,eg,hg⟩:=V3;have HG:=zh (fun W (hW:Below w.heap.size w W)=>hg W (Far.of hW) x hx);have B0:=zh hb;have s2:=hb.c 4 _ rfl;have s3:=hb.c 5 _ rfl;have sl:=hb.lt;have v0:=h3.c;have v1:=h3.lt;clear hg hb h3 h4 h5
    go_enter Tryz.func125,Tryz.ntmps125
    go_wp2_with fail
    go_at_fn g
    refine (HG.out _ (here w)).mono ?_;rintro e w3 ⟨⟨n,rfl,hn⟩,hb⟩;have A3:=zh hb;have B3:=zh (B0.out.keep hb);clear hb B0 s2 s3 sl v0 v1 HG eg;replace hn:=zh hn;have s2:=B3.out.c 4 _ rfl;have s3:=B3.out.c 5 _ rfl;have sl:=B3.out.lt;have ef:(if s.a<n then s.a else n)=mnI n (s.a):=rfl;have em:=mn_min n (s.a);go_wp2
    go_quiet (fail)
    go_wp2
    go_ret2
    exact ⟨⟨_,rfl,fun h k=>by rw [hn.out h k]⟩,below_drewN A3.out _⟩
  · have kc:decide (x<s.a)=false:=zdf c;rw [if_neg c,if_neg c];clear c
    by_cases d:x<s.b
    · have kd:decide (x<s.b)=true:=zdt d;rw [if_pos d,if_pos d];clear d V3 V5;obtain ⟨g,caps,rfl,eg,hg⟩:=V4;have HG:=zh (fun W (hW:Below w.heap.size w W)=>hg W (Far.of hW) x hx);have B0:=zh hb;have s2:=hb.c 4 _ rfl;have s3:=hb.c 5 _ rfl;have sl:=hb.lt;have v0:=h4.c;have v1:=h4.lt;clear hg hb h3 h4 h5
      go_enter Tryz.func125,Tryz.ntmps125
      go_wp2_with fail
      go_at_fn g
      refine (HG.out _ (here w)).mono ?_;rintro e w3 ⟨⟨n,rfl,hn⟩,hb⟩;have A3:=zh hb;have B3:=zh (B0.out.keep hb);clear hb B0 s2 s3 sl v0 v1 HG eg;replace hn:=zh hn;have s2:=B3.out.c 4 _ rfl;have s3:=B3.out.c 5 _ rfl;have sl:=B3.out.lt;have ef:(if s.b<n then s.b else n)=mnI n (s.b):=rfl;have em:=mn_min n (s.b);go_wp2
      go_quiet (fail)
      go_wp2
      go_ret2
      exact ⟨⟨_,rfl,fun h k=>by rw [hn.out h k]⟩,below_drewN A3.out _⟩
    · have kd:decide (x<s.b)=false:=zdf d;rw [if_neg d,if_neg d];clear d V3 V4;obtain ⟨g,caps,rfl,eg,hg⟩:=V5;have HG:=zh (fun W (hW:Below w.heap.size w W)=>hg W (Far.of hW) x hx);have B0:=zh hb;have s2:=hb.c 4 _ rfl;have s3:=hb.c 5 _ rfl;have sl:=hb.lt;have v0:=h5.c;have v1:=h5.lt;clear hg hb h3 h4 h5
      go_enter Tryz.func125,Tryz.ntmps125
      go_wp2_with fail
      go_at_fn g
      refine (HG.out _ (here w)).mono ?_;rintro e w3 ⟨⟨n,rfl,hn⟩,hb⟩;have A3:=zh hb;have B3:=zh (B0.out.keep hb);clear hb B0 s2 s3 sl v0 v1 HG eg;replace hn:=zh hn;go_wp2
      go_ret2
      exact ⟨⟨_,rfl,hn.out⟩,A3.out⟩
theorem World.one_set {W:World} {b c:Nat} {v:Value} (h:One W b v) (ne:b≠c) (u:Value):One (W.setCell ⟨c,0,none⟩ u) b v :=
 ⟨by rw [zcn ne];exact h.c,by rw [size_set];exact h.lt⟩
theorem Bxo.one {W:World} {b:Nat} {z:Value} (h:Bxo W b [z]) (v:Value):One (W.setCell ⟨b,0,none⟩ v) b v :=
 ⟨World.cell?_setCell_same W _ _ (h.t.c 0 _ rfl),by rw [size_set];exact h.t.lt⟩
theorem Bxo.away {W:World} {b c j:Nat} {zs:List Value} (h:Bxo W b zs) (ne:b≠c) (u:Value):Bxo (W.setCell ⟨c,j,none⟩ u) b zs :=
 ⟨⟨fun i v e=>by
  rw [zcn ne];exact h.t.c i v e,by rw [size_set];exact h.t.lt⟩,fun i=>by rw [World.frozen?_setCell];exact h.f i⟩
set_option maxRecDepth 100000 in
set_option maxHeartbeats 2000000 in
theorem tvsetX (s:TS) (gw:GW s) (va vb vl:Value) (w0 w:World) (h:SS3 w0 s va vb vl) (A0:Below w0.heap.size w0 w) (X:Nat→Prop) (hX:∀ b,X b→w0.heap.size≤b∧b<w.heap.size) :
    Calls Tryz.prog 68 #[.agg #[.int .i64 s.P,va,.int .i64 s.Q,vb,.int .i64 s.a,.int .i64 s.b,vl]] w fun e w'=>(∃ v',e=.returned v'∧VwX X w' v' (hsT s) (nxT s))∧Below w.heap.size w w':=by
  obtain ⟨w1,hw1⟩:∃ w1:World,(w.alloc (.cells #[.int .i64 s.P,va,.int .i64 s.Q,vb,.int .i64 s.a,.int .i64 s.b,vl] 26))=w1:=⟨_,rfl⟩;have B1:Hid (Bxs w1 w.heap.size [.int .i64 s.P,va,.int .i64 s.Q,vb,.int .i64 s.a,.int .i64 s.b,vl]):=by show Bxs _ _ _;rw [← hw1];exact Bxs.new _ _
  have A1:Hid (Below w.heap.size w w1):=by show Below _ _ _;rw [← hw1];exact grow (here w) _
  have s1:w1.heap.size=w.heap.size+1:=by rw [← hw1];exact size_two _ _
  have s0:=A0.size;have H1:=zh (fun W (k:Below w1.heap.size w1 W) (Y:Nat→Prop) (hY:∀ b,Y b→w0.heap.size≤b∧b<W.heap.size)=>tvper s.P s.A gw.p va w0 W h.a (down A0 (down A1.out k)) Y hY);have H2:=zh (fun W (k:Below w1.heap.size w1 W) (Y:Nat→Prop) (hY:∀ b,Y b→w0.heap.size≤b∧b<W.heap.size)=>tvlist s.L gw.cn (by have:=gw.len;omega) vl w0 W h.l (down A0 (down A1.out k)) Y hY);have H3:=zh (fun W (k:Below w1.heap.size w1 W) (Y:Nat→Prop) (hY:∀ b,Y b→w0.heap.size≤b∧b<W.heap.size)=>tvper s.Q s.B gw.q vb w0 W h.b (down A0 (down A1.out k)) Y hY);have hmf:∀ (fn:Fn) (first cap:Array Value) (w:World),(Instr.makeFunc fn first cap).run Tryz.prog w=.ok (.func fn first cap) w:=fun _ _ _ _=>rfl;clear h
  go_enter Tryz.func68,Tryz.ntmps68
  go_wp2
  refine vo_region _ s.P s.Q s.a s.b va vb vl _ w.heap.size _ _ _ _ _ _ w1 w1 (fun _ _ _ _ _ h=>h) X w0.heap.size (by omega) (fun b c=>by have:=hX b c;omega) H1 H2 H3 ⟨here w1,B1.out.c 0 _ rfl,B1.out.c 1 _ rfl,B1.out.c 2 _ rfl,B1.out.c 3 _ rfl,B1.out.c 4 _ rfl,B1.out.c 5 _ rfl,B1.out.c 6 _ rfl,B1.out.lt⟩ trivial ?_;intro g0 k0 g1 k1 g2 k2 C3 C4 C5 W hW V0 V1 V2 N0 N1 N2 D01 D02 D12;have m0:=N0.le;have m1:=N1.le;have m2:=N2.le;have AX:Below w1.heap.size w1 (((W.setCell ⟨C3,0,none⟩ (.func (.func g0) #[] k0)).setCell ⟨C4,0,none⟩ (.func (.func g1) #[] k1)).setCell ⟨C5,0,none⟩ (.func (.func g2) #[] k2)):=((hW.1.setCell (p:=⟨C3,0,none⟩) m0 _).setCell (p:=⟨C4,0,none⟩) m1 _).setCell (p:=⟨C5,0,none⟩) m2 _;have O0:One (((W.setCell ⟨C3,0,none⟩ (.func (.func g0) #[] k0)).setCell ⟨C4,0,none⟩ (.func (.func g1) #[] k1)).setCell ⟨C5,0,none⟩ (.func (.func g2) #[] k2)) C3 (.func (.func g0) #[] k0):=World.one_set (World.one_set (N0.o.one _) D01 _) D02 _;have O1:One (((W.setCell ⟨C3,0,none⟩ (.func (.func g0) #[] k0)).setCell ⟨C4,0,none⟩ (.func (.func g1) #[] k1)).setCell ⟨C5,0,none⟩ (.func (.func g2) #[] k2)) C4 (.func (.func g1) #[] k1):=World.one_set ((N1.o.away (fun h=>D01 h.symm) _).one _) D12 _;have O2:One (((W.setCell ⟨C3,0,none⟩ (.func (.func g0) #[] k0)).setCell ⟨C4,0,none⟩ (.func (.func g1) #[] k1)).setCell ⟨C5,0,none⟩ (.func (.func g2) #[] k2)) C5 (.func (.func g2) #[] k2):=((N2.o.away (fun h=>D02 h.symm) _).away (fun h=>D12 h.symm) _).one _;have FX:Far (fun b=>X b∨b=C3∨b=C4∨b=C5) W (((W.setCell ⟨C3,0,none⟩ (.func (.func g0) #[] k0)).setCell ⟨C4,0,none⟩ (.func (.func g1) #[] k1)).setCell ⟨C5,0,none⟩ (.func (.func g2) #[] k2)):=(((Far.of (here W)).setCell (p:=⟨C3,0,none⟩) (Or.inl (Or.inr (Or.inl rfl))) _).setCell (p:=⟨C4,0,none⟩) (Or.inl (Or.inr (Or.inr (Or.inl rfl)))) _).setCell (p:=⟨C5,0,none⟩) (Or.inl (Or.inr (Or.inr (Or.inr rfl)))) _;have Y0:=VwX.sub FX V0;have Y1:=VwX.sub FX V1;have Y2:=VwX.sub FX V2;have BX:=B1.out.keep AX;have AY:=zd A1 AX;clear FX V0 V1 V2 N0 N1 N2 D01 D02 D12 AX hW H1 H2 H3 B1 A1 hw1;generalize (((W.setCell ⟨C3,0,none⟩ (.func (.func g0) #[] k0)).setCell ⟨C4,0,none⟩ (.func (.func g1) #[] k1)).setCell ⟨C5,0,none⟩ (.func (.func g2) #[] k2))=Z at *;have V:=zh (show VwX X Z (.func (.func 125) #[] #[.pointer (some ⟨w.heap.size,0,none⟩),.pointer (some ⟨C3,0,none⟩),.pointer (some ⟨C4,0,none⟩),.pointer (some ⟨C5,0,none⟩)]) (hsT s) (nxT s) from
    ⟨_,_,rfl,fun _ _=>rfl,fun W hW x hx=>tvset1 s va vb vl _ _ _ _ _ _ _ x hx W (Far.bxs BX hW (fun c=>Nat.lt_irrefl _ (hX _ c).2)) (Far.one O0 hW (fun c=>by have:=(hX _ c).2;omega)) (Far.one O1 hW (fun c=>by have:=(hX _ c).2;omega)) (Far.one O2 hW (fun c=>by have:=(hX _ c).2;omega)) (Y0.at hW) (Y1.at hW) (Y2.at hW)⟩)
  clear BX O0 O1 O2 Y0 Y1 Y2 hX A0 m0 m1 m2 s1 s0;go_wp2
  go_ret
  exact ⟨⟨_,rfl,V.out⟩,AY.out⟩
theorem tvset (s:TS) (gw:GW s) (va vb vl:Value) (w:World) (h:SS3 w s va vb vl) :
    Calls Tryz.prog 68 #[.agg #[.int .i64 s.P,va,.int .i64 s.Q,vb,.int .i64 s.a,.int .i64 s.b,vl]] w fun e w'=>(∃ v',e=.returned v'∧Vw w' v' (hsT s) (nxT s))∧Below w.heap.size w w' :=
  tvsetX s gw va vb vl w w h (here w) (fun _=>False) (fun _ c=>c.elim)
set_option maxRecDepth 100000 in
set_option maxHeartbeats 2000000 in
theorem tvline (x:Int) (w:World) :
    Calls Tryz.prog 85 #[.int .i64 x] w fun e w'=>e=.returned (.bool (nvB x))∧w=w':=by
  unfold nvB
  cases ka:decide (-4398046511104≤x)
  · rw [Bool.false_and]
    go_enter Tryz.func85,Tryz.ntmps85
    go_wp2
    go_ret
    exact ⟨rfl,rfl⟩
  · rw [Bool.true_and]
    go_enter Tryz.func85,Tryz.ntmps85
    go_wp2
    go_ret
    exact ⟨rfl,rfl⟩
theorem eq_below {f:FuncId} {args:Array Value} {w:World} {v:Value} (h:Calls Tryz.prog f args w fun e w'=>e=.returned v∧∃ q,w'=w.drewN q):Calls Tryz.prog f args w fun e w'=>e=.returned v∧Below w.heap.size w w' :=
 h.mono fun _ _ ⟨a,q,b⟩=>⟨a,by rw [b];exact below_drewN (here w) q⟩
set_option maxRecDepth 100000 in
set_option maxHeartbeats 2000000 in
theorem tvsame (P Q:Int) (va vb:Value) (A B:List Sp) (hA:A.length≤1099511627776) {ba bb:Nat} (w:World) (a:PairS ba w va A) (b:PairS bb w vb B) :
    Calls Tryz.prog 70 #[.agg #[.int .i64 P,va],.agg #[.int .i64 Q,vb]] w fun e w'=>e=.returned (.bool (decide (P=Q∧A=B)))∧Below w.heap.size w w':=by
  obtain ⟨oa,ca,rfl⟩:=prs_shape a;obtain ⟨ob,cb,rfl⟩:=prs_shape b;have AF_0:=zh (grow (grow (here w) (.cells #[.int .i64 P,.slice oa A.length ca] 24)) (.cells #[.int .i64 Q,.slice ob B.length cb] 24));have T_0:=zh ((Bxs.new (w:=w) [.int .i64 P,.slice oa A.length ca] 24).old (.cells #[.int .i64 Q,.slice ob B.length cb] 24));have U_0:=zh (Bxs.snd (w:=w) (o:=(.cells #[.int .i64 P,.slice oa A.length ca] 24)) [.int .i64 Q,.slice ob B.length cb] 24);have Sa_0:=zh (a.keep AF_0.out);have Sb_0:=zh (b.keep AF_0.out);clear a b;have EQ:=zh (fun W (h:PairS ba W (.slice oa A.length ca) A) (k:PairS bb W (.slice ob B.length cb) B)=>eq_below (eq_pairs A B _ _ hA W h k));have e:decide (P=Q∧A=B)=(decide (P=Q)&&(A==B)):=by rw [Bool.eq_iff_iff];simp
  rw [e];clear e;generalize (A==B)=E at *
  by_cases c:P=Q
  · have k:(P==Q)=true:=beq_iff_eq.2 c;rw [zdt c,Bool.true_and];clear c
    go_enter Tryz.func70,Tryz.ntmps70
    obtain ⟨aa,ab,ac⟩:=T_0.out.z2;obtain ⟨ad,ae,af⟩:=U_0.out.z2;go_wp2_with fail
    clear aa ab ad ae ac af;generalize ((w.alloc (.cells #[.int .i64 P,.slice oa A.length ca] 24)).alloc (.cells #[.int .i64 Q,.slice ob B.length cb] 24))=w0 at *;refine (EQ.out _ Sa_0.out Sb_0.out).mono ?_;rintro e w1 ⟨rfl,hb⟩;have AF_1:=zd AF_0 hb;have T_1:=zh (T_0.out.keep hb);have U_1:=zh (U_0.out.keep hb);have Sa_1:=zh (Sa_0.out.keep hb);have Sb_1:=zh (Sb_0.out.keep hb);clear hb AF_0 T_0 U_0 Sa_0 Sb_0;obtain ⟨aa,ab,ac⟩:=T_1.out.z2;obtain ⟨ad,ae,af⟩:=U_1.out.z2;go_wp2
    go_ret
    exact ⟨rfl,AF_1.out⟩
  · have k:(P==Q)=false:=by rw [beq_eq_false_iff_ne];exact c
    rw [zdf c,Bool.false_and];clear c
    go_enter Tryz.func70,Tryz.ntmps70
    obtain ⟨aa,ab,ac⟩:=T_0.out.z2;obtain ⟨ad,ae,af⟩:=U_0.out.z2;go_wp2
    go_ret
    exact ⟨rfl,AF_0.out⟩
set_option maxRecDepth 100000 in
set_option maxHeartbeats 2000000 in
theorem tvpair (P Q:Int) (va vb:Value) (A B:List Sp) (hA:A.length≤maxLen) (hB:B.length≤maxLen) (hP:I64 P) (hQ:I64 Q) {ba bb:Nat} (w:World) (a:PairS ba w va A) (b:PairS bb w vb B) :
    Calls Tryz.prog 61 #[.agg #[.int .i64 P,va],.agg #[.int .i64 Q,vb]] w fun e w'=>e=.returned (.int .i64 (paE P A Q B))∧Below w.heap.size w w':=by
  obtain ⟨oa,ca,rfl⟩:=prs_shape a;obtain ⟨ob,cb,rfl⟩:=prs_shape b;have AF_0:=zh (grow (grow (here w) (.cells #[.int .i64 P,.slice oa A.length ca] 24)) (.cells #[.int .i64 Q,.slice ob B.length cb] 24));have T_0:=zh ((Bxs.new (w:=w) [.int .i64 P,.slice oa A.length ca] 24).old (.cells #[.int .i64 Q,.slice ob B.length cb] 24));have U_0:=zh (Bxs.snd (w:=w) (o:=(.cells #[.int .i64 P,.slice oa A.length ca] 24)) [.int .i64 Q,.slice ob B.length cb] 24);have Sa_0:=zh (a.keep AF_0.out);have Sb_0:=zh (b.keep AF_0.out);clear a b;have EQ:=zh (fun W (h:PairS ba W (.slice oa A.length ca) A) (k:PairS bb W (.slice ob B.length cb) B)=>upequal _ _ P Q A B hA hP hQ W h k);have WI:=zh (fun W (h:PairS ba W (.slice oa A.length ca) A) (k:PairS bb W (.slice ob B.length cb) B)=>upwithin _ _ P Q A B hA hB hP hQ W h k);rw [paE_eq];generalize (decide ((coR 3 P A Q B).2=0)&&decide ((coR 3 P A Q B).1.2.length=0))=o2 at *;generalize (coR 3 P A Q B).2=e2 at *;clear hA hB hP hQ
  cases c:(pvB P A&&decide (P=Q)&&(A==B))
  · rw [c] at EQ;rw [if_neg (by simp)];clear c
    go_enter Tryz.func61,Tryz.ntmps61
    obtain ⟨aa,ab,ac⟩:=T_0.out.z2;obtain ⟨ad,ae,af⟩:=U_0.out.z2;go_wp2_with fail
    clear aa ab ad ae ac af;generalize ((w.alloc (.cells #[.int .i64 P,.slice oa A.length ca] 24)).alloc (.cells #[.int .i64 Q,.slice ob B.length cb] 24))=w0 at *;refine (EQ.out _ Sa_0.out Sb_0.out).mono ?_;rintro e w1 ⟨rfl,hb⟩;have AF_1:=zd AF_0 hb;have T_1:=zh (T_0.out.keep hb);have U_1:=zh (U_0.out.keep hb);have Sa_1:=zh (Sa_0.out.keep hb);have Sb_1:=zh (Sb_0.out.keep hb);clear hb AF_0 T_0 U_0 Sa_0 Sb_0;obtain ⟨aa,ab,ac⟩:=T_1.out.z2;obtain ⟨ad,ae,af⟩:=U_1.out.z2;go_wp2_with fail
    clear aa ab ad ae ac af;refine (WI.out _ Sa_1.out Sb_1.out).mono ?_;rintro e w2 ⟨rfl,hb⟩;have AF_2:=zd AF_1 hb;have T_2:=zh (T_1.out.keep hb);have U_2:=zh (U_1.out.keep hb);have Sa_2:=zh (Sa_1.out.keep hb);have Sb_2:=zh (Sb_1.out.keep hb);clear hb AF_1 T_1 U_1 Sa_1 Sb_1;obtain ⟨aa,ab,ac⟩:=T_2.out.z2;obtain ⟨ad,ae,af⟩:=U_2.out.z2;go_wp2
    go_ret
    exact ⟨rfl,AF_2.out⟩
  · rw [c] at EQ;rw [if_pos rfl];clear c WI
    go_enter Tryz.func61,Tryz.ntmps61
    obtain ⟨aa,ab,ac⟩:=T_0.out.z2;obtain ⟨ad,ae,af⟩:=U_0.out.z2;go_wp2_with fail
    clear aa ab ad ae ac af;generalize ((w.alloc (.cells #[.int .i64 P,.slice oa A.length ca] 24)).alloc (.cells #[.int .i64 Q,.slice ob B.length cb] 24))=w0 at *;refine (EQ.out _ Sa_0.out Sb_0.out).mono ?_;rintro e w1 ⟨rfl,hb⟩;have AF_1:=zd AF_0 hb;have T_1:=zh (T_0.out.keep hb);have U_1:=zh (U_0.out.keep hb);have Sa_1:=zh (Sa_0.out.keep hb);have Sb_1:=zh (Sb_0.out.keep hb);clear hb AF_0 T_0 U_0 Sa_0 Sb_0;obtain ⟨aa,ab,ac⟩:=T_1.out.z2;obtain ⟨ad,ae,af⟩:=U_1.out.z2;go_wp2
    go_ret
    exact ⟨rfl,AF_1.out⟩
theorem Bxo.put2 {w:World} {b:Nat} {z0 z1:Value} (h:Bxo w b [z0,z1]) (u0 u1:Value):Bxs ((w.setCell ⟨b,0,none⟩ u0).setCell ⟨b,1,none⟩ u1) b [u0,u1] :=
 ((h.set (j:=0) (by simp) u0).set (j:=1) (by simp) u1).t
theorem below_put2 {W:Nat} {w0 w:World} {b:Nat} (h:Below W w0 w) (l:W≤b) (u0 u1:Value):Below W w0 ((w.setCell ⟨b,0,none⟩ u0).setCell ⟨b,1,none⟩ u1) :=
 (h.setCell (p:=⟨b,0,none⟩) l u0).setCell (p:=⟨b,1,none⟩) l u1
theorem far_put2 {base:Nat} {w:World} {v:Value} {L:List Sp} {b:Nat} (h:PairS base w v L) (l:b<base) (u0 u1:Value):PairS base ((w.setCell ⟨b,0,none⟩ u0).setCell ⟨b,1,none⟩ u1) v L:=Sl.far (Sl.far h l u0) l u1
theorem Bxo.snd {w:World} {o:Obj} (us:List Value) (t:TypeId):Bxo ((w.alloc o).alloc (.cells us.toArray t)) (w.heap.size+1) us:=by
 have h:=Bxo.new (w:=w.alloc o) us t;rw [size_two] at h;exact h
set_option maxRecDepth 100000 in
set_option maxHeartbeats 2000000 in
theorem tvclone (P:Int) (va:Value) (A:List Sp) (hA:A.length≤1000000) {ba:Nat} (w:World) (a:PairS ba w va A) :
    Calls Tryz.prog 118 #[.agg #[.int .i64 P,va]] w fun e w'=>(∃ v',e=.returned (.agg #[.int .i64 P,v'])∧PairS w.heap.size w' v' A)∧Below w.heap.size w w':=by
  obtain ⟨oa,ca,rfl⟩:=prs_shape a;obtain ⟨w2,hw2⟩:∃ w2:World,((w.alloc (.cells #[.int .i64 P,.slice oa A.length ca] 24)).alloc (.cells #[.int .i64 0,.slice none 0 0] 24))=w2:=⟨_,rfl⟩;have TB:Hid (Bxs w2 w.heap.size [.int .i64 P,.slice oa A.length ca]):=by show Bxs _ _ _;rw [← hw2];exact (Bxs.new (w:=w) [.int .i64 P,.slice oa A.length ca] 24).old _
  have RB:Hid (Bxo w2 (w.heap.size+1) [.int .i64 0,.slice none 0 0]):=by show Bxo _ _ _;rw [← hw2];exact Bxo.snd (w:=w) (o:=(.cells #[.int .i64 P,.slice oa A.length ca] 24)) [.int .i64 0,.slice none 0 0] 24
  have A2:Hid (Below w.heap.size w w2):=by show Below _ _ _;rw [← hw2];exact grow (grow (here w) _) _
  have HC:Hid (∀ W,Below w.heap.size w W→Calls Tryz.prog 52 #[.slice oa A.length ca] W fun e w'=>(∃ v',e=.returned v'∧PairS W.heap.size w' v' A)∧Below W.heap.size W w'):=fun W hW=>(ruclone _ A A.length rfl hA W (a.keep hW)).mono fun e w' ⟨v',h1,h2,h3⟩=>⟨⟨v',h1,own_prs h2⟩,h3⟩;have s2:w.heap.size+1<w2.heap.size:=RB.out.t.lt;have hS0:Below w.heap.size w w2∧w2.cell? ⟨w.heap.size,0,none⟩=some (.int .i64 P)∧w2.cell? ⟨w.heap.size,1,none⟩=some (.slice oa A.length ca)∧w.heap.size<w2.heap.size:=⟨A2.out,TB.out.c 0 _ rfl,TB.out.c 1 _ rfl,by omega⟩;have R2:Bxo w2.drew (w.heap.size+1) [.int .i64 0,.slice none 0 0]:=RB.out.keep (here w2).drew;clear TB RB
  go_enter Tryz.func118,Tryz.ntmps118
  go_wp2
  have mk:∀ W W':World,(Below w.heap.size w W∧W.cell? ⟨w.heap.size,0,none⟩=some (.int .i64 P)∧W.cell? ⟨w.heap.size,1,none⟩=some (.slice oa A.length ca)∧w.heap.size<W.heap.size)→Below W.heap.size W W'→(Below w.heap.size w W'∧W'.cell? ⟨w.heap.size,0,none⟩=some (.int .i64 P)∧W'.cell? ⟨w.heap.size,1,none⟩=some (.slice oa A.length ca)∧w.heap.size<W'.heap.size):=fun W W' ⟨kb,k0_0,k0_1,kl⟩ hb=>⟨down kb hb,(hb.cell (p:=⟨w.heap.size,0,none⟩) (by show w.heap.size<_;omega)).trans k0_0,(hb.cell (p:=⟨w.heap.size,1,none⟩) (by show w.heap.size<_;omega)).trans k0_1,zll kl hb.size⟩;have ks:∀ (W:World) (u0 u1:Value),(Below w.heap.size w W∧W.cell? ⟨w.heap.size,0,none⟩=some (.int .i64 P)∧W.cell? ⟨w.heap.size,1,none⟩=some (.slice oa A.length ca)∧w.heap.size<W.heap.size)→(Below w.heap.size w ((W.setCell ⟨w.heap.size+1,0,none⟩ u0).setCell ⟨w.heap.size+1,1,none⟩ u1)∧((W.setCell ⟨w.heap.size+1,0,none⟩ u0).setCell ⟨w.heap.size+1,1,none⟩ u1).cell? ⟨w.heap.size,0,none⟩=some (.int .i64 P)∧((W.setCell ⟨w.heap.size+1,0,none⟩ u0).setCell ⟨w.heap.size+1,1,none⟩ u1).cell? ⟨w.heap.size,1,none⟩=some (.slice oa A.length ca)∧w.heap.size<((W.setCell ⟨w.heap.size+1,0,none⟩ u0).setCell ⟨w.heap.size+1,1,none⟩ u1).heap.size):=fun W u0 u1 ⟨kb,k0_0,k0_1,kl⟩=>⟨((kb.setCell (p:=⟨w.heap.size+1,0,none⟩) (by show w.heap.size≤w.heap.size+1;omega) _).setCell (p:=⟨w.heap.size+1,1,none⟩) (by show w.heap.size≤w.heap.size+1;omega) _),by rw [zco (h:=by intro h;have:=congrArg Addr.block h;simp at this;try omega),zco (h:=by intro h;have:=congrArg Addr.block h;simp at this;try omega)];exact k0_0,by rw [zco (h:=by intro h;have:=congrArg Addr.block h;simp at this;try omega),zco (h:=by intro h;have:=congrArg Addr.block h;simp at this;try omega)];exact k0_1,by rw [size_set,size_set];exact kl⟩
  go_region_held3 (fun W'=>Below w.heap.size w W'∧W'.cell? ⟨w.heap.size,0,none⟩=some (.int .i64 P)∧W'.cell? ⟨w.heap.size,1,none⟩=some (.slice oa A.length ca)∧w.heap.size<W'.heap.size) (first | assumption | (exact mk _ _ (by assumption) (here _).drew) | (exact mk _ _ (by assumption) (grow (here _) _)) | (exact ks _ _ _ (by assumption)))
    (first
     | (go_at_call 52;(with_reducible refine (HC.out _ (And.left (by assumption))).mono ?_);rintro e w' ⟨⟨v8,rfl,P8⟩,hb⟩;obtain ⟨o8,c8,rfl⟩:=Sl.shape P8;have hS:=mk _ w' (by assumption) hb;have R8:Bxo w' (w.heap.size+1) [.int .i64 0,.slice none 0 0]:=Bxo.keep (by assumption) hb;have rc0:=R8.t.c 0 _ rfl;have rf0:=R8.f 0;have rc1:=R8.t.c 1 _ rfl;have rf1:=R8.f 1))
  have FB:=R8.put2 (.int .i64 P) (.slice o8 A.length c8);have AF:=below_put2 hS.1 (show w.heap.size≤w.heap.size+1 by omega) (.int .i64 P) (.slice o8 A.length c8);obtain ⟨q0,q1,-⟩:=FB.z2;go_wp2
  refine bodyPost_ret (v:=.agg #[.int .i64 P,.slice o8 A.length c8]) (by simp [results,Tryz.results118,go_sem,q0,q1]) rfl ?_;exact ⟨⟨_,rfl,Sl.weak (far_put2 P8 s2 (.int .i64 P) (.slice o8 A.length c8)) (by show w.heap.size≤w2.heap.size;omega)⟩,AF⟩
set_option maxRecDepth 100000 in
set_option maxHeartbeats 4000000 in
theorem tvislist (vl:Value) (l:List Sp) (hl:l.length≤maxLen) (lo hi:Int) (h1:I64 lo) (h2:I64 hi) {bl:Nat} (w:World) (pl:PairS bl w vl l) :
    Calls Tryz.prog 62 #[vl,.int .i64 lo,.int .i64 hi] w fun e w'=>e=.returned (.bool (ilB l lo hi))∧Below w.heap.size w w':=by
  obtain ⟨ol,cl,rfl⟩:=prs_shape pl;have AF_0:=zh (here w);have Sl_0:=zh pl;clear pl;have L1:=zh (fun W=>tvline lo W);have L2:=zh (fun W=>tvline hi W);have V3:=zh (fun W (h:PairS bl W (.slice ol l.length cl) l)=>ruvalid _ l hl W h)
  unfold ilB
  generalize nvB lo=n1 at *;generalize nvB hi=n2 at *;generalize vaB l=v1 at *;have mx:l.length≤9223372036854775807:=hl;clear hl
  cases n1
  · rw [Bool.false_and,Bool.false_and,Bool.false_and,Bool.false_and];clear L2 V3
    go_enter Tryz.func62,Tryz.ntmps62
    go_wp2_with fail
    refine (L1.out _).mono ?_;rintro e w' ⟨rfl,rfl⟩;go_wp2
    go_ret
    exact ⟨rfl,AF_0.out⟩
  · rw [Bool.true_and]
    cases n2
    · rw [Bool.false_and,Bool.false_and,Bool.false_and];clear V3
      go_enter Tryz.func62,Tryz.ntmps62
      go_wp2_with fail
      refine (L1.out _).mono ?_;rintro e w' ⟨rfl,rfl⟩;go_wp2_with fail
      refine (L2.out _).mono ?_;rintro e w' ⟨rfl,rfl⟩;go_wp2
      go_ret
      exact ⟨rfl,AF_0.out⟩
    · rw [Bool.true_and]
      cases kc:decide (lo≤hi)
      · rw [Bool.false_and,Bool.false_and];clear V3
        go_enter Tryz.func62,Tryz.ntmps62
        go_wp2_with fail
        refine (L1.out _).mono ?_;rintro e w' ⟨rfl,rfl⟩;go_wp2_with fail
        refine (L2.out _).mono ?_;rintro e w' ⟨rfl,rfl⟩;go_wp2
        go_ret
        exact ⟨rfl,AF_0.out⟩
      · rw [Bool.true_and]
        cases v1
        · rw [Bool.false_and]
          go_enter Tryz.func62,Tryz.ntmps62
          go_wp2_with fail
          refine (L1.out _).mono ?_;rintro e w' ⟨rfl,rfl⟩;go_wp2_with fail
          refine (L2.out _).mono ?_;rintro e w' ⟨rfl,rfl⟩;go_wp2_with fail
          refine (V3.out _ Sl_0.out).mono ?_;rintro e w1 ⟨rfl,hb⟩;have AF_1:=zd AF_0 hb;have Sl_1:=zh (Sl_0.out.keep hb);clear hb AF_0 Sl_0;go_wp2
          go_ret
          exact ⟨rfl,AF_1.out⟩
        · rw [Bool.true_and]
          by_cases z:l.length=0
          · have kz:((l.length:Int)==0)=true:=by rw [beq_iff_eq];omega
            rw [zdt z,Bool.true_or];clear z
            go_enter Tryz.func62,Tryz.ntmps62
            go_wp2_with fail
            refine (L1.out _).mono ?_;rintro e w' ⟨rfl,rfl⟩;go_wp2_with fail
            refine (L2.out _).mono ?_;rintro e w' ⟨rfl,rfl⟩;go_wp2_with fail
            refine (V3.out _ Sl_0.out).mono ?_;rintro e w1 ⟨rfl,hb⟩;have AF_1:=zd AF_0 hb;have Sl_1:=zh (Sl_0.out.keep hb);clear hb AF_0 Sl_0;go_wp2
            go_ret
            exact ⟨rfl,AF_1.out⟩
          · have kz:((l.length:Int)==0)=false:=by rw [beq_eq_false_iff_ne];omega
            rw [zdf z,Bool.false_or];obtain ⟨f0,hf0⟩:∃ f0,(l.getD 0 (0,0)).1=f0:=⟨_,rfl⟩;obtain ⟨g1,hg1⟩:∃ g1,(l.getD (l.length - 1) (0,0)).2=g1:=⟨_,rfl⟩;rw [hf0,hg1];replace hf0:=zh hf0;replace hg1:=zh hg1
            cases t1:decide (lo≤f0)
            · rw [Bool.false_and]
              go_enter Tryz.func62,Tryz.ntmps62
              go_wp2_with fail
              refine (L1.out _).mono ?_;rintro e w' ⟨rfl,rfl⟩;go_wp2_with fail
              refine (L2.out _).mono ?_;rintro e w' ⟨rfl,rfl⟩;go_wp2_with fail
              refine (V3.out _ Sl_0.out).mono ?_;rintro e w1 ⟨rfl,hb⟩;have AF_1:=zd AF_0 hb;have Sl_1:=zh (Sl_0.out.keep hb);clear hb AF_0 Sl_0;obtain ⟨b0,off,rfl,bl',cs⟩:=prs_here Sl_1.out (show 0<l.length by omega);obtain ⟨c0,c1⟩:=cs 0 (by omega);obtain ⟨e0,e1⟩:=cs (l.length - 1) (by omega);clear cs;obtain ⟨m,hm⟩:∃ m,l.length - 1=m:=⟨_,rfl⟩;rw [hg1.out] at e1;have hm2:(l.length:Int) - 1=m:=by omega
              rw [hm] at e0 e1;rw [Nat.zero_mul,Nat.add_zero,hf0.out] at c0;have mb:m<l.length:=by omega
              clear hm;go_wp2
              go_ret
              exact ⟨rfl,AF_1.out⟩
            · rw [Bool.true_and]
              cases t2:decide (g1≤hi)
              · skip
                go_enter Tryz.func62,Tryz.ntmps62
                go_wp2_with fail
                refine (L1.out _).mono ?_;rintro e w' ⟨rfl,rfl⟩;go_wp2_with fail
                refine (L2.out _).mono ?_;rintro e w' ⟨rfl,rfl⟩;go_wp2_with fail
                refine (V3.out _ Sl_0.out).mono ?_;rintro e w1 ⟨rfl,hb⟩;have AF_1:=zd AF_0 hb;have Sl_1:=zh (Sl_0.out.keep hb);clear hb AF_0 Sl_0;obtain ⟨b0,off,rfl,bl',cs⟩:=prs_here Sl_1.out (show 0<l.length by omega);obtain ⟨c0,c1⟩:=cs 0 (by omega);obtain ⟨e0,e1⟩:=cs (l.length - 1) (by omega);clear cs;obtain ⟨m,hm⟩:∃ m,l.length - 1=m:=⟨_,rfl⟩;rw [hg1.out] at e1;have hm2:(l.length:Int) - 1=m:=by omega
                rw [hm] at e0 e1;rw [Nat.zero_mul,Nat.add_zero,hf0.out] at c0;have mb:m<l.length:=by omega
                clear hm;go_wp2
                go_ret
                exact ⟨rfl,AF_1.out⟩
              · skip
                go_enter Tryz.func62,Tryz.ntmps62
                go_wp2_with fail
                refine (L1.out _).mono ?_;rintro e w' ⟨rfl,rfl⟩;go_wp2_with fail
                refine (L2.out _).mono ?_;rintro e w' ⟨rfl,rfl⟩;go_wp2_with fail
                refine (V3.out _ Sl_0.out).mono ?_;rintro e w1 ⟨rfl,hb⟩;have AF_1:=zd AF_0 hb;have Sl_1:=zh (Sl_0.out.keep hb);clear hb AF_0 Sl_0;obtain ⟨b0,off,rfl,bl',cs⟩:=prs_here Sl_1.out (show 0<l.length by omega);obtain ⟨c0,c1⟩:=cs 0 (by omega);obtain ⟨e0,e1⟩:=cs (l.length - 1) (by omega);clear cs;obtain ⟨m,hm⟩:∃ m,l.length - 1=m:=⟨_,rfl⟩;rw [hg1.out] at e1;have hm2:(l.length:Int) - 1=m:=by omega
                rw [hm] at e0 e1;rw [Nat.zero_mul,Nat.add_zero,hf0.out] at c0;have mb:m<l.length:=by omega
                clear hm;go_wp2
                go_ret
                exact ⟨rfl,AF_1.out⟩
set_option maxRecDepth 100000 in
set_option maxHeartbeats 2000000 in
theorem tvispure (s:TS) (va vb vl:Value) (hA:s.A.length≤1099511627776) (ha:I64 s.a) (hb:I64 s.b) (w:World) (h:SS3 w s va vb vl) :
    Calls Tryz.prog 66 #[.agg #[.int .i64 s.P,va,.int .i64 s.Q,vb,.int .i64 s.a,.int .i64 s.b,vl]] w fun e w'=>e=.returned (.bool (decide (s.a=s.b∧smP s)))∧Below w.heap.size w w':=by
  obtain ⟨osa,csa,rfl⟩:=prs_shape h.a;obtain ⟨osb,csb,rfl⟩:=prs_shape h.b;obtain ⟨osl,csl,rfl⟩:=prs_shape h.l;have AF_0:=zh (grow (here w) (.cells #[.int .i64 s.P,.slice osa s.A.length csa,.int .i64 s.Q,.slice osb s.B.length csb,.int .i64 s.a,.int .i64 s.b,.slice osl s.L.length csl] 26));have T_0:=zh (Bxs.new (w:=w) [.int .i64 s.P,.slice osa s.A.length csa,.int .i64 s.Q,.slice osb s.B.length csb,.int .i64 s.a,.int .i64 s.b,.slice osl s.L.length csl] 26);have S_0:=zh (h.keep AF_0.out);have EQ:=zh (fun W (h:PairS 0 W (.slice osa s.A.length csa) s.A) (k:PairS 0 W (.slice osb s.B.length csb) s.B)=>tvsame s.P s.Q _ _ s.A s.B hA W h k);have e:decide (s.a=s.b∧smP s)=(decide (s.a=s.b)&&decide (s.P=s.Q∧s.A=s.B)):=by
    rw [Bool.eq_iff_iff];simp only [Bool.and_eq_true,decide_eq_true_eq];exact Iff.rfl
  rw [e];clear e h hA;generalize decide (s.P=s.Q∧s.A=s.B)=E at *
  by_cases c:s.a=s.b
  · have k:(s.a==s.b)=true:=beq_iff_eq.2 c;rw [zdt c,Bool.true_and];clear c
    go_enter Tryz.func66,Tryz.ntmps66
    obtain ⟨aa,ab,ac,ad,ae,af,ag,ah⟩:=T_0.out.z7;go_wp2_with fail
    clear aa ab ac ad ae af ag ah;generalize (w.alloc (.cells #[.int .i64 s.P,.slice osa s.A.length csa,.int .i64 s.Q,.slice osb s.B.length csb,.int .i64 s.a,.int .i64 s.b,.slice osl s.L.length csl] 26))=w0 at *;refine (EQ.out _ S_0.out.a S_0.out.b).mono ?_;rintro e w1 ⟨rfl,hb⟩;have AF_1:=zd AF_0 hb;have T_1:=zh (T_0.out.keep hb);have S_1:=zh (S_0.out.keep hb);clear hb AF_0 T_0 S_0;obtain ⟨aa,ab,ac,ad,ae,af,ag,ah⟩:=T_1.out.z7;go_wp2
    go_ret
    exact ⟨rfl,AF_1.out⟩
  · have k:(s.a==s.b)=false:=by rw [beq_eq_false_iff_ne];exact c
    rw [zdf c,Bool.false_and];clear c
    go_enter Tryz.func66,Tryz.ntmps66
    obtain ⟨aa,ab,ac,ad,ae,af,ag,ah⟩:=T_0.out.z7;go_wp2
    go_ret
    exact ⟨rfl,AF_0.out⟩
set_option maxRecDepth 100000 in
set_option maxHeartbeats 2000000 in
theorem tvdiffer (s:TS) (gw:GW s) (va vb vl vp:Value) (P:Int) (A:List Sp) (pw:PW P A) (x:Int) (hx:I64 x) (w:World) (h:SS3 w s va vb vl) {bp:Nat} (a:PairS bp w vp A) :
    Calls Tryz.prog 67 #[.agg #[.int .i64 s.P,va,.int .i64 s.Q,vb,.int .i64 s.a,.int .i64 s.b,vl],.agg #[.int .i64 P,vp],.int .i64 x] w fun e w'=>e=.returned (.bool (hsT s x != hsP P A x))∧Below w.heap.size w w':=by
  obtain ⟨osa,csa,rfl⟩:=prs_shape h.a;obtain ⟨osb,csb,rfl⟩:=prs_shape h.b;obtain ⟨osl,csl,rfl⟩:=prs_shape h.l;obtain ⟨oA,cA,rfl⟩:=prs_shape a;have AF_0:=zh (grow (grow (here w) (.cells #[.int .i64 s.P,.slice osa s.A.length csa,.int .i64 s.Q,.slice osb s.B.length csb,.int .i64 s.a,.int .i64 s.b,.slice osl s.L.length csl] 26)) (.cells #[.int .i64 P,.slice oA A.length cA] 24));have T_0:=zh ((Bxs.new (w:=w) [.int .i64 s.P,.slice osa s.A.length csa,.int .i64 s.Q,.slice osb s.B.length csb,.int .i64 s.a,.int .i64 s.b,.slice osl s.L.length csl] 26).old (.cells #[.int .i64 P,.slice oA A.length cA] 24));have U_0:=zh (Bxs.snd (w:=w) (o:=(.cells #[.int .i64 s.P,.slice osa s.A.length csa,.int .i64 s.Q,.slice osb s.B.length csb,.int .i64 s.a,.int .i64 s.b,.slice osl s.L.length csl] 26)) [.int .i64 P,.slice oA A.length cA] 24);have S_0:=zh (h.keep AF_0.out);have Sp_0:=zh (a.keep AF_0.out);have VS:=zh (fun W (h:SS3 W s (.slice osa s.A.length csa) (.slice osb s.B.length csb) (.slice osl s.L.length csl))=>tvset s gw _ _ _ W h);have VP:=zh (fun W (h:PairS bp W (.slice oA A.length cA) A)=>tvper P A pw _ W W h (here W) (fun _=>False) (fun _ c=>c.elim));clear h a;generalize hsT s=f1 at *;generalize hsP P A=f2 at *
  go_enter Tryz.func67,Tryz.ntmps67
  obtain ⟨aa,ab,ac,ad,ae,af,ag,ah⟩:=T_0.out.z7;obtain ⟨ai,aj,ak⟩:=U_0.out.z2;go_wp2_with fail
  clear aa ab ac ad ae af ag ai aj ah ak;generalize ((w.alloc (.cells #[.int .i64 s.P,.slice osa s.A.length csa,.int .i64 s.Q,.slice osb s.B.length csb,.int .i64 s.a,.int .i64 s.b,.slice osl s.L.length csl] 26)).alloc (.cells #[.int .i64 P,.slice oA A.length cA] 24))=w0 at *;refine (VS.out _ S_0.out).mono ?_;rintro e w1 ⟨⟨v,rfl,V⟩,hb⟩;have AF_1:=zd AF_0 hb;have T_1:=zh (T_0.out.keep hb);have U_1:=zh (U_0.out.keep hb);have S_1:=zh (S_0.out.keep hb);have Sp_1:=zh (Sp_0.out.keep hb);clear hb AF_0 T_0 U_0 S_0 Sp_0;obtain ⟨g,caps,rfl,eg,hg⟩:=V;have HG:=zh (hg w1 (Far.of (here w1)) x hx);clear hg;obtain ⟨aa,ab,ac,ad,ae,af,ag,ah⟩:=T_1.out.z7;obtain ⟨ai,aj,ak⟩:=U_1.out.z2;go_wp2_with fail
  clear aa ab ac ad ae af ag ai aj ah ak
  go_at_fn g
  refine HG.out.mono ?_;rintro e w2 ⟨⟨n1,rfl,-⟩,hb⟩;clear HG eg;have AF_2:=zd AF_1 hb;have T_2:=zh (T_1.out.keep hb);have U_2:=zh (U_1.out.keep hb);have S_2:=zh (S_1.out.keep hb);have Sp_2:=zh (Sp_1.out.keep hb);clear hb AF_1 T_1 U_1 S_1 Sp_1;obtain ⟨aa,ab,ac,ad,ae,af,ag,ah⟩:=T_2.out.z7;obtain ⟨ai,aj,ak⟩:=U_2.out.z2;go_wp2_with fail
  clear aa ab ac ad ae af ag ai aj ah ak;refine (VP.out _ (Sp_2.out)).mono ?_;rintro e w3 ⟨⟨v,rfl,V⟩,hb⟩;have AF_3:=zd AF_2 hb;have T_3:=zh (T_2.out.keep hb);have U_3:=zh (U_2.out.keep hb);have S_3:=zh (S_2.out.keep hb);have Sp_3:=zh (Sp_2.out.keep hb);clear hb AF_2 T_2 U_2 S_2 Sp_2;obtain ⟨g,caps,rfl,eg,hg⟩:=V;have HG:=zh (hg w3 (Far.of (here w3)) x hx);clear hg;obtain ⟨aa,ab,ac,ad,ae,af,ag,ah⟩:=T_3.out.z7;obtain ⟨ai,aj,ak⟩:=U_3.out.z2;go_wp2_with fail
  clear aa ab ac ad ae af ag ai aj ah ak
  go_at_fn g
  refine HG.out.mono ?_;rintro e w4 ⟨⟨n2,rfl,-⟩,hb⟩;clear HG eg;have AF_4:=zd AF_3 hb;have T_4:=zh (T_3.out.keep hb);have U_4:=zh (U_3.out.keep hb);have S_4:=zh (S_3.out.keep hb);have Sp_4:=zh (Sp_3.out.keep hb);clear hb AF_3 T_3 U_3 S_3 Sp_3;obtain ⟨aa,ab,ac,ad,ae,af,ag,ah⟩:=T_4.out.z7;obtain ⟨ai,aj,ak⟩:=U_4.out.z2;go_wp2
  go_ret
  exact ⟨rfl,AF_4.out⟩
set_option maxRecDepth 100000 in
set_option maxHeartbeats 2000000 in
theorem lspan (a b:Int) (w:World) :
    Calls Tryz.prog 50 #[.int .i64 a,.int .i64 b] w fun e w'=>e=.returned (.agg #[.int .i64 a,.int .i64 b])∧Below w.heap.size w w':=by
  have A1:=zh (grow (here w) (.cells #[.int .i64 a,.int .i64 b] 40));have R1:=zh (Bxs.new (w:=w) [.int .i64 a,.int .i64 b] 40)
  go_enter Tryz.func50,Tryz.ntmps50
  go_wp2
  obtain ⟨q0,q1,-⟩:=R1.out.z2;generalize (w.alloc (.cells #[.int .i64 a,.int .i64 b] 40))=w13 at *;refine bodyPost_ret (v:=.agg #[.int .i64 a,.int .i64 b]) (by simp [results,Tryz.results50,go_sem,q0,q1]) rfl ?_;exact ⟨rfl,A1.out⟩
set_option maxRecDepth 100000 in
set_option maxHeartbeats 2000000 in
theorem levery (n:Int) (w:World) :
    Calls Tryz.prog 58 #[.int .i64 n] w fun e w'=>(∃ o c,e=.returned (.agg #[.int .i64 n,.slice o 1 c])∧PairS 0 w' (.slice o 1 c) [(0,1)])∧Below w.heap.size w w':=by
  have A1:=zh (grow (here w) (.cells #[.int .i64 0,.slice none 0 0] 24));have R1:=zh (Bxo.new (w:=w) [.int .i64 0,.slice none 0 0] 24);have HS:=zh (fun W=>lspan 0 1 W)
  go_enter Tryz.func58,Tryz.ntmps58
  go_wp2_with fail
  refine (HS.out _).mono ?_;rintro e w1 ⟨rfl,hb⟩;have A2:=zd A1 hb;have R2:=zh (R1.out.keep hb);clear hb HS A1 R1;have gb:=grow (here w1) (.cells #[.int .i64 0,.int .i64 1] 40);have A3:=zd A2 gb;have R3:=zh (R2.out.keep gb);have P3:=zh (prs_lit1 w1 0 1);have bl:Hid (w.heap.size<w1.heap.size):=R2.out.t.lt;obtain ⟨r0,f0,r1,f1,rl⟩:=R3.out.z2;go_wp2
  have FB:=R3.out.put2 (.int .i64 n) (.slice (some ⟨w1.heap.size,0,none⟩) 1 1);have AF:=below_put2 A3.out (Nat.le_refl _) (.int .i64 n) (.slice (some ⟨w1.heap.size,0,none⟩) 1 1);obtain ⟨q0,q1,-⟩:=FB.z2;refine bodyPost_ret (v:=.agg #[.int .i64 n,.slice (some ⟨w1.heap.size,0,none⟩) 1 1]) (by simp [results,Tryz.results58,go_sem,q0,q1]) rfl ?_;refine ⟨⟨_,_,rfl,?_⟩,AF⟩;have h:=P3.out
  rcases h with h | ⟨blk,off,c',e,l,m⟩
  · exact .inl h
  · refine .inr ⟨blk,off,c',e,l,?_⟩;have ne:blk≠w.heap.size:=by
      injection e with e1 _ _
      injection e1 with e1
      injection e1 with e1 _
      have:=bl.out;omega
    exact (m.past (Or.inl ne) _).past (Or.inl ne) _
def grB (P:Int) (n:Nat):Bool:=(decide (1048576<P)&&decide (P≤12622780800)) || decide (40<n)
theorem dec_nat (n:Nat):decide (40<n)=decide (40<(n:Int)):=decide_eq_decide.2 (by omega)
set_option maxRecDepth 100000 in
set_option maxHeartbeats 2000000 in
theorem lgreat (P:Int) (o:Option Addr) (n c:Nat) (w:World) :
    Calls Tryz.prog 55 #[.agg #[.int .i64 P,.slice o n c]] w fun e w'=>e=.returned (.bool (grB P n))∧Below w.heap.size w w':=by
  have A1:=zh (grow (here w) (.cells #[.int .i64 P,.slice o n c] 24));have TA:=zh (Two.new (t:=24) (x:=.int .i64 P) (y:=.slice o n c) (here (w.alloc (.cells #[.int .i64 P,.slice o n c] 24))));obtain ⟨t0,t1,tl⟩:=TA.out
  unfold grB
  rw [dec_nat]
  cases p:decide (1048576<P)
  · rw [Bool.false_and,Bool.false_or]
    go_enter Tryz.func55,Tryz.ntmps55
    go_wp2
    go_ret
    exact ⟨rfl,A1.out⟩
  · rw [Bool.true_and]
    cases q:decide (P≤12622780800)
    · rw [Bool.false_or]
      go_enter Tryz.func55,Tryz.ntmps55
      go_wp2
      go_ret
      exact ⟨rfl,A1.out⟩
    · rw [Bool.true_or]
      go_enter Tryz.func55,Tryz.ntmps55
      go_wp2
      go_ret
      exact ⟨rfl,A1.out⟩
def SetAt (w:World) (b off j:Nat) (s:TS):Prop:=∃ (oa ob ol:Option Addr) (ca cb cl:Nat),w.cell? ⟨b,off+j * 7,none⟩=some (.int .i64 s.P)∧w.cell? ⟨b,off+j * 7+1,none⟩=some (.slice oa s.A.length ca)∧w.cell? ⟨b,off+j * 7+2,none⟩=some (.int .i64 s.Q)∧w.cell? ⟨b,off+j * 7+3,none⟩=some (.slice ob s.B.length cb)∧w.cell? ⟨b,off+j * 7+4,none⟩=some (.int .i64 s.a)∧w.cell? ⟨b,off+j * 7+5,none⟩=some (.int .i64 s.b)∧w.cell? ⟨b,off+j * 7+6,none⟩=some (.slice ol s.L.length cl)
theorem SetAt.keep {w w':World} {b off j:Nat} {s:TS} (h:SetAt w b off j s) (lt:b<w.heap.size) (hb:Below w.heap.size w w'):SetAt w' b off j s:=by
 obtain ⟨oa,ob,ol,ca,cb,cl,h0,h1,h2,h3,h4,h5,h6⟩:=h;exact ⟨oa,ob,ol,ca,cb,cl,(hb.cell (p:=⟨b,_,none⟩) lt).trans h0,(hb.cell (p:=⟨b,_,none⟩) lt).trans h1,(hb.cell (p:=⟨b,_,none⟩) lt).trans h2,(hb.cell (p:=⟨b,_,none⟩) lt).trans h3,(hb.cell (p:=⟨b,_,none⟩) lt).trans h4,(hb.cell (p:=⟨b,_,none⟩) lt).trans h5,(hb.cell (p:=⟨b,_,none⟩) lt).trans h6⟩
def lgB (s:TS):Bool:=grB s.P s.A.length || grB s.Q s.B.length || decide (40<s.L.length)
set_option maxRecDepth 100000 in
set_option maxHeartbeats 2000000 in
theorem llarge1 (s:TS) (oa ob ol:Option Addr) (ca cb cl:Nat) (w:World) :
    Calls Tryz.prog 60 #[.agg #[.int .i64 s.P,.slice oa s.A.length ca,.int .i64 s.Q,.slice ob s.B.length cb,.int .i64 s.a,.int .i64 s.b,.slice ol s.L.length cl]] w fun e w'=>e=.returned (.bool (lgB s))∧Below w.heap.size w w':=by
  have AF_0:=zh (grow (here w) (.cells #[.int .i64 s.P,.slice oa s.A.length ca,.int .i64 s.Q,.slice ob s.B.length cb,.int .i64 s.a,.int .i64 s.b,.slice ol s.L.length cl] 26));have T_0:=zh (Bxs.new (w:=w) [.int .i64 s.P,.slice oa s.A.length ca,.int .i64 s.Q,.slice ob s.B.length cb,.int .i64 s.a,.int .i64 s.b,.slice ol s.L.length cl] 26);have G1:=zh (fun W=>lgreat s.P oa s.A.length ca W);have G2:=zh (fun W=>lgreat s.Q ob s.B.length cb W)
  unfold lgB
  rw [dec_nat];generalize grB s.P s.A.length=g1 at *;generalize grB s.Q s.B.length=g2 at *
  cases g1
  · rw [Bool.false_or]
    cases g2
    · rw [Bool.false_or]
      go_enter Tryz.func60,Tryz.ntmps60
      obtain ⟨aa,ab,ac,ad,ae,af,ag,ah⟩:=T_0.out.z7;go_wp2_with fail
      clear aa ab ac ad ae af ag ah;generalize (w.alloc (.cells #[.int .i64 s.P,.slice oa s.A.length ca,.int .i64 s.Q,.slice ob s.B.length cb,.int .i64 s.a,.int .i64 s.b,.slice ol s.L.length cl] 26))=w0 at *;refine (G1.out _).mono ?_;rintro e w1 ⟨rfl,hb⟩;have AF_1:=zd AF_0 hb;have T_1:=zh (T_0.out.keep hb);clear hb AF_0 T_0;obtain ⟨aa,ab,ac,ad,ae,af,ag,ah⟩:=T_1.out.z7;go_wp2_with fail
      clear aa ab ac ad ae af ag ah;refine (G2.out _).mono ?_;rintro e w2 ⟨rfl,hb⟩;have AF_2:=zd AF_1 hb;have T_2:=zh (T_1.out.keep hb);clear hb AF_1 T_1;obtain ⟨aa,ab,ac,ad,ae,af,ag,ah⟩:=T_2.out.z7;go_wp2
      go_ret
      exact ⟨rfl,AF_2.out⟩
    · rw [Bool.true_or]
      go_enter Tryz.func60,Tryz.ntmps60
      obtain ⟨aa,ab,ac,ad,ae,af,ag,ah⟩:=T_0.out.z7;go_wp2_with fail
      clear aa ab ac ad ae af ag ah;generalize (w.alloc (.cells #[.int .i64 s.P,.slice oa s.A.length ca,.int .i64 s.Q,.slice ob s.B.length cb,.int .i64 s.a,.int .i64 s.b,.slice ol s.L.length cl] 26))=w0 at *;refine (G1.out _).mono ?_;rintro e w1 ⟨rfl,hb⟩;have AF_1:=zd AF_0 hb;have T_1:=zh (T_0.out.keep hb);clear hb AF_0 T_0;obtain ⟨aa,ab,ac,ad,ae,af,ag,ah⟩:=T_1.out.z7;go_wp2_with fail
      clear aa ab ac ad ae af ag ah;refine (G2.out _).mono ?_;rintro e w2 ⟨rfl,hb⟩;have AF_2:=zd AF_1 hb;have T_2:=zh (T_1.out.keep hb);clear hb AF_1 T_1;obtain ⟨aa,ab,ac,ad,ae,af,ag,ah⟩:=T_2.out.z7;go_wp2
      go_ret
      exact ⟨rfl,AF_2.out⟩
  · rw [Bool.true_or,Bool.true_or];clear G2
    go_enter Tryz.func60,Tryz.ntmps60
    obtain ⟨aa,ab,ac,ad,ae,af,ag,ah⟩:=T_0.out.z7;go_wp2_with fail
    clear aa ab ac ad ae af ag ah;generalize (w.alloc (.cells #[.int .i64 s.P,.slice oa s.A.length ca,.int .i64 s.Q,.slice ob s.B.length cb,.int .i64 s.a,.int .i64 s.b,.slice ol s.L.length cl] 26))=w0 at *;refine (G1.out _).mono ?_;rintro e w1 ⟨rfl,hb⟩;have AF_1:=zd AF_0 hb;have T_1:=zh (T_0.out.keep hb);clear hb AF_0 T_0;obtain ⟨aa,ab,ac,ad,ae,af,ag,ah⟩:=T_1.out.z7;go_wp2
    go_ret
    exact ⟨rfl,AF_1.out⟩
def lgs (n:Nat) (f:Nat→TS):Bool:=(List.range n).any fun j=>lgB (f j)
theorem lgs_no {n:Nat} {f:Nat→TS} {k:Nat} (h:k<n) (e:lgB (f k)=true):lgs n f=true:=List.any_eq_true.2 ⟨k,List.mem_range.2 h,e⟩
theorem lgs_yes {n:Nat} {f:Nat→TS} (h:∀ j,j<n→lgB (f j)=false):lgs n f=false:=by
 rw [← Bool.not_eq_true];intro c;obtain ⟨j,hj,e⟩:=List.any_eq_true.1 c;rw [h j (List.mem_range.1 hj)] at e
 cases e
set_option maxRecDepth 100000 in
set_option maxHeartbeats 4000000 in
theorem lindex (n b off:Nat) (f:Nat→TS) (hn:n≤10) (w:World) (h:∀ j,j<n→SetAt w b off j (f j)) (lt:b<w.heap.size) :
    Calls Tryz.prog 113 #[.slice (some ⟨b,off,none⟩) n n,.func (.func 60) #[] #[]] w fun e w'=>(∃ i:Int,e=.returned (.int .i64 i)∧decide (0≤i)=lgs n f)∧Below w.heap.size w w':=by
  have A0:Hid (Below w.heap.size w w):=here w;have HL:=zh h;have no:Hid (∀ k,k<n→lgB (f k)=true→lgs n f=true):=fun k hk e=>lgs_no hk e;have yes:Hid ((∀ j,j<n→lgB (f j)=false)→lgs n f=false):=fun h=>lgs_yes h;clear h;generalize lgs n f=SB at *
  go_enter Tryz.func113,Tryz.ntmps113
  go_wp2
  go_loopw [8] (fun i wr=>∃ k:Nat,k≤n∧i=.int .i64 k∧Hid (∀ j,j<k→lgB (f j)=false)∧Hid (Below w.heap.size w wr)) (fun i _=>n - (intOf i).toNat)
  case atStart=>exact ⟨0,Nat.zero_le _,rfl,fun j hj=>absurd hj (Nat.not_lt_zero _),A0⟩
  case round =>
    obtain ⟨k,hk,rfl,HU,HA⟩:=hrel;clear A0
    by_cases z:k<n
    · have kz:decide ((k:Int)<(n:Int))=true:=zdt (by omega);obtain ⟨oa,ob,ol,ca,cb,cl,c0,c1,c2,c3,c4,c5,c6⟩:=(HL.out k z).keep lt HA.out;have lt':b<wr.heap.size:=zll lt HA.out.size;have HS:=zh (fun w=>llarge1 (f k) oa ob ol ca cb cl w);clear yes;obtain ⟨u,hu⟩:∃ u,lgB (f k)=u:=⟨_,rfl⟩;rw [hu] at HS;have r0:=no.out k z;have HU2:u=false→Hid (∀ j,j<k+1→lgB (f j)=false):=fun e j hj=>by
        rcases Nat.lt_or_ge j k with y | y
        · exact HU.out j y
        · obtain rfl:j=k:=by omega
          rw [hu,e]
      rw [hu] at r0;clear hu no HU HL;generalize f k=q at *
      cases u
      · have HU3:=HU2 rfl;clear r0 HU2;replace HS:Hid (∀ w,Calls Tryz.prog 60 #[.agg #[.int .i64 q.P,.slice oa q.A.length ca,.int .i64 q.Q,.slice ob q.B.length cb,.int .i64 q.a,.int .i64 q.b,.slice ol q.L.length cl]] w fun e w'=>e=.returned (.bool false)∧Below w.heap.size w w'):=HS;go_wp2_with (go_at_call 60;refine (HS.out _).mono ?_;rintro e w1 ⟨rfl,hb⟩;have A1:=zd HA hb;clear hb)
        go_roundw
        case rel=>exact ⟨k+1,by omega,by go_num,HU3,A1⟩
        case measure=>simp [intOf];omega
      · have r2:=zh (r0 rfl);clear r0 HU2;replace HS:Hid (∀ w,Calls Tryz.prog 60 #[.agg #[.int .i64 q.P,.slice oa q.A.length ca,.int .i64 q.Q,.slice ob q.B.length cb,.int .i64 q.a,.int .i64 q.b,.slice ol q.L.length cl]] w fun e w'=>e=.returned (.bool true)∧Below w.heap.size w w'):=HS;go_wp2_with (go_at_call 60;refine (HS.out _).mono ?_;rintro e w1 ⟨rfl,hb⟩;have A1:=zd HA hb;clear hb)
        go_ret
        refine ⟨⟨_,rfl,?_⟩,A1.out⟩;rw [r2.out];exact zdt (by omega)
    · have kz:decide ((k:Int)<(n:Int))=false:=zdf (by omega);obtain rfl:k=n:=by omega
      have r2:=zh (yes.out HU.out);clear yes no HU z;go_wp2
      go_ret
      exact ⟨⟨_,rfl,by rw [r2.out];rfl⟩,HA.out⟩
set_option maxRecDepth 100000 in
set_option maxHeartbeats 4000000 in
theorem lcontains (n b off:Nat) (f:Nat→TS) (hn:n≤10) (w:World) (h:∀ j,j<n→SetAt w b off j (f j)) (lt:b<w.heap.size) :
    Calls Tryz.prog 59 #[.slice (some ⟨b,off,none⟩) n n,.func (.func 60) #[] #[]] w fun e w'=>e=.returned (.bool (lgs n f))∧Below w.heap.size w w':=by
  have HI:=zh (lindex n b off f hn w h lt);generalize lgs n f=t at *;clear h hn lt
  go_enter Tryz.func59,Tryz.ntmps59
  go_wp2_with fail
  refine HI.out.mono ?_;rintro e w1 ⟨⟨i,rfl,hi⟩,hb⟩;replace hb:=zh hb;go_wp2
  go_ret
  exact ⟨by first | rfl | rw [hi],hb.out⟩
set_option maxRecDepth 100000 in
set_option maxHeartbeats 4000000 in
theorem llarge (n b:Nat) (f:Nat→TS) (hn:n≤10) (w:World) (h:∀ j,j<n→SetAt w b 0 j (f j)) (lt:b<w.heap.size) :
    Calls Tryz.prog 15 #[.slice (some ⟨b,0,none⟩) n n] w fun e w'=>e=.returned (.bool (lgs n f))∧Below w.heap.size w w':=by
  have HI:=zh (lcontains n b 0 f hn w h lt);generalize lgs n f=t at *;clear h hn lt
  go_enter Tryz.func15,Tryz.ntmps15
  go_wp2_with fail
  refine HI.out.mono ?_;rintro e w1 ⟨rfl,hb⟩;replace hb:=zh hb;go_wp2
  go_ret
  exact ⟨rfl,hb.out⟩
set_option maxRecDepth 100000 in
set_option maxHeartbeats 4000000 in
theorem tvruns (f:Int→Bool) (nx:Int→Int) (lo hi:Int) (lo0:-35184372088832≤lo) (hi1:hi≤35184372088832) (lo1:lo≤35184372088832) (hi2:-35184372088832≤hi) (NX:∀ x,lo≤x→x<hi→NxV f x (nx x)) (v:Value) (w:World) (V:Vw w v f nx) :
    Calls Tryz.prog 79 #[.agg #[.int .i64 lo,.int .i64 hi],v] w fun e w'=>(∃ v' R,e=.returned v'∧PairS w.heap.size w' v' R∧RuW f lo hi R)∧Below w.heap.size w w':=by
  obtain ⟨i0,hi0,hz0,hz1,hz2⟩:=info_parts infoS;obtain ⟨g,caps,rfl,eg,hg⟩:=V;have HG:=zh (fun W (hW:Below w.heap.size w W) x (hx:I64 x)=>hg W (Far.of hW) x hx);have NX':=zh NX;clear hg NX;obtain ⟨w2,hw2⟩:∃ w2:World,(w.alloc (.cells #[.int .i64 lo,.int .i64 hi] 40))=w2:=⟨_,rfl⟩;have B2:Hid (Bxs w2 w.heap.size [.int .i64 lo,.int .i64 hi]):=by show Bxs _ _ _;rw [← hw2];exact Bxs.new (w:=w) [.int .i64 lo,.int .i64 hi] 40
  have A2:Hid (Below w.heap.size w w2):=by show Below _ _ _;rw [← hw2];exact grow (here w) _
  have sz2:w.heap.size≤w2.heap.size:=A2.out.size;have I0:Hid (w2.ownsRow w2.heap.size 40 2 (.slice none 0 0) 0 (pairs (caL f lo lo))):=by show World.ownsRow _ _ _ _ _ _ _;rw [ca_none f (Int.le_refl lo)];exact World.ownsRow_nil _ _ _ _
  have N0:Hid ((caL f lo lo).length=0):=by show _=_;rw [ca_none f (Int.le_refl lo)];rfl
  have L0:Hid (Below w2.heap.size w2 w2):=here w2;obtain ⟨b0,b1,bl⟩:=B2.out.z2
  go_enter Tryz.func79,Tryz.ntmps79
  go_wp2
  go_loopw [5,6] (fun s x wr=>∃ (y:Int) (r:Nat) (s':Value),s'=s∧lo≤y∧(y≤hi∨y=lo)∧r≤2001∧x=.int .i64 y∧Hid ((caL f lo y).length=r)∧Hid (wr.ownsRow w2.heap.size 40 2 s r (pairs (caL f lo y)))∧Hid (Below w2.heap.size w2 wr)) (fun _ x _=>(hi - intOf x).toNat)
  case atStart=>exact ⟨lo,0,_,rfl,Int.le_refl _,Or.inr rfl,by omega,rfl,N0,I0,L0⟩
  case round =>
    obtain ⟨y,r,s',rfl,hy0,hy1,hr,rfl,HR,HO,HL⟩:=hrel;clear I0 L0 N0 b0 b1 bl;have b0:=(B2.out.keep HL.out).c 0 _ rfl;have b1:=(B2.out.keep HL.out).c 1 _ rfl;have bl:=(B2.out.keep HL.out).lt
    by_cases z:y<hi
    · have kz:decide (y<hi)=true:=zdt z;have yh:y≤hi:=by omega
      clear hy1
      by_cases z2:r≤2000
      · have k2:decide ((r:Int)≤2000)=true:=zdt (by omega);obtain ⟨n,hn⟩:∃ n,nx y=n:=⟨_,rfl⟩;have NV:=NX'.out y hy0 z;rw [hn] at NV;obtain ⟨m,hm⟩:∃ m,mnI n hi=m:=⟨_,rfl⟩;have mb:y<m∧m≤hi:=by have:=NV.lt;have h1:=mnI_le n hi;have h2:=mnI_or n hi;rw [hm] at h1 h2;omega
        have st:=ru_step (a:=lo) hy0 NV (m:=m) (by rw [← hm];exact (mnI_le n hi).1) mb.1;have ef:(if hi<n then hi else n)=m:=hm;have em:min n hi=m:=by rw [mn_min];exact hm
        replace hm:=zh hm;have HGy:Hid (∀ W,Below w.heap.size w W→∀ x,x=y→I64 x→Calls Tryz.prog g (#[.int .i64 x]++caps) W fun e W'=>(∃ n0,e=.returned (.tuple #[.bool (f y),.int .i64 n0])∧(-1152921504606846976≤y→y≤1152921504606846976→n0=n))∧Below W.heap.size W W'):=fun W hW x e hx=>by
          subst e;refine (HG.out W hW x hx).mono ?_;rintro e W' ⟨⟨n0,h1,h2⟩,h3⟩;exact ⟨⟨n0,h1,fun a b=>by rw [h2 a b,hn]⟩,h3⟩
        clear HG NV hn;replace HGy:=zh (fun W hW=>HGy.out W hW y rfl);obtain ⟨m0,m1⟩:=mb
        unfold ruS at st
        cases i:f y
        · rw [i,if_pos rfl] at st;rw [i] at HGy;replace st:=zh st;clear i;obtain ⟨ao,cp,rfl⟩:=(Sl.owns HO.out).shape;go_wp2_with fail
          go_at_fn g
          refine (HGy.out _ (A2.out.trans (HL.out.mono sz2)) (by unfold I64;omega)).mono ?_;rintro e w5 ⟨⟨n0,rfl,hn⟩,hb⟩;have en:n0=n:=hn (by omega) (by omega);subst en;have L5:=zh (HL.out.trans (hb.mono HL.out.size));have O5:=zh (owns_below HO.out hb);have B5:=B2.out.keep L5.out;clear hn hb HL HO b0 b1 bl;obtain ⟨b0,b1,bl⟩:=B5.z2;clear B5;clear HGy eg;rw [st.out] at O5 HR;go_wp2
          go_roundw
          case rel=>exact ⟨m,r,_,rfl,by omega,by omega,by omega,rfl,HR,O5,L5⟩
          case measure=>simp [intOf];omega
        · rw [i,if_neg (by simp)] at st;rw [i] at HGy;clear i;obtain ⟨R,hR⟩:∃ R,caL f lo y=R:=⟨_,rfl⟩;rw [hR] at st HR HO;clear hR
          rcases snoc_cases R with rfl | ⟨R',p,rfl⟩
          · obtain rfl:r=0:=by simpa using HR.out.symm
            rw [if_neg (by simp)] at st;replace st:=zh st;obtain ⟨ao,cp,rfl⟩:=(Sl.owns HO.out).shape;clear HR;go_wp2_with fail
            go_at_fn g
            refine (HGy.out _ (A2.out.trans (HL.out.mono sz2)) (by unfold I64;omega)).mono ?_;rintro e w5 ⟨⟨n0,rfl,hn⟩,hb⟩;have en:n0=n:=hn (by omega) (by omega);subst en;have L5:=zh (HL.out.trans (hb.mono HL.out.size));have O5:=zh (owns_below HO.out hb);have B5:=B2.out.keep L5.out;clear hn hb HL HO b0 b1 bl;obtain ⟨b0,b1,bl⟩:=B5.z2;clear B5;clear HGy eg;go_wp2_with (at_builtin;refine wpList_append_own _ rfl _ _ 22 rfl w2.heap.size 40 i0 (.agg #[.int .i64 0,.int .i64 0]) 2 16 Tryz.underlying22 hi0 hz0 hz1 hz2 rfl (by decide) (.slice ao 0 cp) 0 (pairs ([])) rfl (O5.out.alloc _) ⟨w5.heap.size,0,none⟩ 1 1 [.int .i64 y,.int .i64 m] rfl rfl ?c1 ?c2 ?c3 ?c4 ?c5 ?_)
            case c1=>intro j u hj;rw [Addr.add_lit,Nat.zero_add,World.cell?_alloc_new];simpa using hj
            case c2=>intro u hu;simp at hu;rcases hu with rfl | rfl <;> rfl
            case c3=>unfold maxLen;omega
            case c4=>omega
            case c5=>have:=L5.out.size;simp;omega
            intro v7 w7 hown hgrow _;have L7:Hid (Below w2.heap.size w2 w7):=(L5.out.alloc L5.out.size _).grown hgrow (by have:=L5.out.size;simp;omega) (own_ge O5.out);have O7:Hid (w7.ownsRow w2.heap.size 40 2 v7 (0+1) (pairs (caL f lo m))):=by show World.ownsRow _ _ _ _ _ _ _;rw [← st.out,pairs_append];exact hown
            have l7:Hid ((caL f lo m).length=0+1):=by show _=_;rw [← st.out,List.length_append];simp
            clear hown hgrow O5 L5 st;go_wp2
            go_roundw
            case rel=>exact ⟨m,0+1,_,rfl,by omega,by omega,by omega,rfl,l7,O7,L7⟩
            case measure=>simp [intOf];omega
          · have len:(R'++[p]).length=R'.length+1:=by simp
            obtain ⟨k,hk⟩:∃ k,R'.length=k:=⟨_,rfl⟩;have hK:k+1=r:=by rw [← HR.out,len,hk]
            obtain ⟨gb,cp,rfl⟩:∃ gb cp,s'=.slice (some ⟨gb,0,none⟩) r cp:=by
              rcases HO.out.2 with ⟨-,h0⟩ | ⟨gb,cp,cur,e,-⟩
              · omega
              · exact ⟨gb,cp,e⟩
            have k1':(r:Int) - 1=k:=by omega
            have k3:decide (0≤(k:Int))=true:=zdt (by omega);have km:((k:Nat):Int)<(r:Int):=by omega
            rw [last_snoc] at st;go_wp2_with fail
            go_at_fn g
            refine (HGy.out _ (A2.out.trans (HL.out.mono sz2)) (by unfold I64;omega)).mono ?_;rintro e w5 ⟨⟨n0,rfl,hn⟩,hb⟩;have en:n0=n:=hn (by omega) (by omega);subst en;have L5:=zh (HL.out.trans (hb.mono HL.out.size));have O5:=zh (owns_below HO.out hb);have B5:=B2.out.keep L5.out;clear hn hb HL HO b0 b1 bl;obtain ⟨b0,b1,bl⟩:=B5.z2;clear B5;clear HGy eg;have gl6:=O5.out.lt gb rfl;have c2':w5.cell? ⟨gb,k * 2+1,none⟩=some (.int .i64 p.2):=by
              have:=(pairs_get (R'++[p]) R'.length (by simp)).2;rw [hk] at this;rw [O5.out.cellAt _ (by omega),Nat.mul_comm,this,← hk];simp
            have f1:=O5.out.frozenAt (k * 2+1)
            by_cases e:p.2=y
            · have ke:(p.2==y)=true:=beq_iff_eq.2 e;rw [if_pos ⟨by rw [len];omega,e⟩,List.dropLast_concat] at st;replace st:=zh st;have ST:=zh (World.ownsRow.stored (w:=w5) O5.out (k * 2+1) (.int .i64 m));have ps:=pairs_set R' p m;rw [hk] at ps;rw [ps] at ST;clear ps e;have L7:Hid (Below w2.heap.size w2 (w5.setCell ⟨gb,k * 2+1,none⟩ (.int .i64 m))):=L5.out.setCell (p:=⟨gb,k * 2+1,none⟩) gl6.1 _;have O7:Hid ((w5.setCell ⟨gb,k * 2+1,none⟩ (.int .i64 m)).ownsRow w2.heap.size 40 2 (.slice (some ⟨gb,0,none⟩) r cp) r (pairs (caL f lo m))):=by show World.ownsRow _ _ _ _ _ _ _;rw [← st.out];exact ST.out.1
              have l7:Hid ((caL f lo m).length=r):=by show _=_;rw [← st.out,← HR.out,len];simp
              obtain ⟨w7,hw7⟩:∃ w7:World,w5.setCell ⟨gb,k * 2+1,none⟩ (.int .i64 m)=w7:=⟨_,rfl⟩;rw [hw7] at L7 O7;clear ST O5 L5 st HR gl6;go_wp2
              go_roundw
              case rel=>exact ⟨m,r,_,rfl,by omega,by omega,by omega,rfl,l7,O7,L7⟩
              case measure=>simp [intOf];omega
            · have ke:(p.2==y)=false:=by rw [beq_eq_false_iff_ne];exact e
              rw [if_neg (fun h=>e h.2)] at st;replace st:=zh st;have hr':Hid ((R'++[p]).length=r):=HR;clear e HR;go_wp2_with (at_builtin;refine wpList_append_own _ rfl _ _ 22 rfl w2.heap.size 40 i0 (.agg #[.int .i64 0,.int .i64 0]) 2 16 Tryz.underlying22 hi0 hz0 hz1 hz2 rfl (by decide) (.slice (some ⟨gb,0,none⟩) r cp) r (pairs (R'++[p])) rfl (O5.out.alloc _) ⟨w5.heap.size,0,none⟩ 1 1 [.int .i64 y,.int .i64 m] rfl rfl ?c1 ?c2 ?c3 ?c4 ?c5 ?_)
              case c1=>intro j u hj;rw [Addr.add_lit,Nat.zero_add,World.cell?_alloc_new];simpa using hj
              case c2=>intro u hu;simp at hu;rcases hu with rfl | rfl <;> rfl
              case c3=>unfold maxLen;omega
              case c4=>omega
              case c5=>have:=L5.out.size;simp;omega
              intro v7 w7 hown hgrow _;have L7:Hid (Below w2.heap.size w2 w7):=(L5.out.alloc L5.out.size _).grown hgrow (by have:=L5.out.size;simp;omega) (own_ge O5.out);have O7:Hid (w7.ownsRow w2.heap.size 40 2 v7 (r+1) (pairs (caL f lo m))):=by show World.ownsRow _ _ _ _ _ _ _;rw [← st.out,pairs_append];exact hown
              have l7:Hid ((caL f lo m).length=r+1):=by show _=_;rw [← st.out,List.length_append];simp;have:=hr'.out;simp at this;omega
              clear hown hgrow O5 L5 st;go_wp2
              go_roundw
              case rel=>exact ⟨m,r+1,_,rfl,by omega,by omega,by omega,rfl,l7,O7,L7⟩
              case measure=>simp [intOf];omega
      · have k2:decide ((r:Int)≤2000)=false:=zdf (by omega);obtain ⟨ao,cp,rfl⟩:=(Sl.owns HO.out).shape;have P5:Hid (PairS w.heap.size wr (.slice ao r cp) (caL f lo y)):=by have h:=Sl.owns (own_weak HO.out sz2);rw [← HR.out] at h ⊢;exact h
        have A5:=zh (A2.out.trans (HL.out.mono sz2));have RW:Hid (RuW f lo hi (caL f lo y)):=by
          have:=len_mono' f (a:=lo) yh;have h2:=HR.out;exact ⟨fun h=>by omega,fun h=>by omega,by omega⟩
        clear HO HL HR eg HG;go_wp2
        go_ret
        first | exact ⟨⟨_,_,rfl,P5.out,RW.out⟩,A5.out⟩ | exact ⟨⟨_,rfl,_,P5.out,RW.out⟩,A5.out⟩
    · have kz:decide (y<hi)=false:=zdf z;obtain ⟨ao,cp,rfl⟩:=(Sl.owns HO.out).shape;have P5:Hid (PairS w.heap.size wr (.slice ao r cp) (caL f lo y)):=by have h:=Sl.owns (own_weak HO.out sz2);rw [← HR.out] at h ⊢;exact h
      have A5:=zh (A2.out.trans (HL.out.mono sz2));have RW:Hid (RuW f lo hi (caL f lo y)):=by
        have e:caL f lo y=caL f lo hi:=by
          rcases hy1 with h | h
          · rw [show y=hi by omega]
          · rw [h,ca_none f (Int.le_refl lo),ca_none f (by omega)]
        have h2:=HR.out;exact ⟨fun _=>e,fun h=>by rw [e] at h;exact h,by omega⟩
      clear HO HL HR eg HG;go_wp2
      go_ret
      first | exact ⟨⟨_,_,rfl,P5.out,RW.out⟩,A5.out⟩ | exact ⟨⟨_,rfl,_,P5.out,RW.out⟩,A5.out⟩
set_option maxRecDepth 100000 in
set_option maxHeartbeats 4000000 in
theorem tvdep (s:TS) (gw:GW s) (va vb vl:Value) (M:Int) (hd:¬ smP s→DfM s M) (m0:0≤M) (m1:M≤12622780800) (w:World) (h:SS3 w s va vb vl) :
    Calls Tryz.prog 117 #[.agg #[.int .i64 s.P,va,.int .i64 s.Q,vb,.int .i64 s.a,.int .i64 s.b,vl]] w fun e w'=>(∃ d o,e=.returned (.tuple #[.int .i64 d,.bool o])∧DpR s d o∧-8796093022208≤d∧d≤17592186044416)∧Below w.heap.size w w':=by
  obtain ⟨oa,ca,rfl⟩:=prs_shape h.a;obtain ⟨ob,cb,rfl⟩:=prs_shape h.b;obtain ⟨ol,cl,rfl⟩:=prs_shape h.l;obtain ⟨w1,hw1⟩:∃ w1:World,(w.alloc (.cells #[.int .i64 s.P,.slice oa s.A.length ca,.int .i64 s.Q,.slice ob s.B.length cb,.int .i64 s.a,.int .i64 s.b,.slice ol s.L.length cl] 26))=w1:=⟨_,rfl⟩;have B1:Hid (Bxs w1 w.heap.size [.int .i64 s.P,.slice oa s.A.length ca,.int .i64 s.Q,.slice ob s.B.length cb,.int .i64 s.a,.int .i64 s.b,.slice ol s.L.length cl]):=by show Bxs _ _ _;rw [← hw1];exact Bxs.new (w:=w) [.int .i64 s.P,.slice oa s.A.length ca,.int .i64 s.Q,.slice ob s.B.length cb,.int .i64 s.a,.int .i64 s.b,.slice ol s.L.length cl] 26
  have A1:Hid (Below w.heap.size w w1):=by show Below _ _ _;rw [← hw1];exact grow (here w) _
  have HE:=zh (fun W (k:Below w.heap.size w W)=>tvsame s.P s.Q _ _ s.A s.B (by have:=gw.p.len;omega) W (h.keep k).a (h.keep k).b);have HV1:=zh (fun W (k:Below w.heap.size w W)=>tvset s gw _ _ _ W (h.keep k));have HV2:Hid (∀ W,Below w.heap.size w W→Calls Tryz.prog 123 #[.agg #[.int .i64 s.P,.slice oa s.A.length ca]] W fun e w'=>(∃ v',e=.returned v'∧Vw w' v' (hsP s.P s.A) (nxP s.P s.A))∧Below W.heap.size W w'):=fun W k=>tvper s.P s.A gw.p _ W W (h.keep k).a (here W) (fun _=>False) (fun _ c=>c.elim);have N1:=zh (fun x (xf:x<farI)=>nxT_ok gw (x:=x) xf);have N2:=zh (fun x (xf:x<farI)=>nxP_ok gw.p.p0 gw.p.p1 gw.p.cn (x:=x) xf);have lo0:=gw.lo0;have hi0:=gw.hi0;have le:=gw.le;have NF:=zh (fun x (x1:x≤1152921504606846976)=>nxT_far gw x x1);replace gw:=zh gw;obtain ⟨b0,b1,b2,b3,b4,b5,-,bl⟩:=B1.out.z7;clear h
  by_cases sm:s.P=s.Q∧s.A=s.B
  · rw [zdt sm] at HE;clear hd;replace sm:=zh sm
    go_enter Tryz.func117,Tryz.ntmps117
    go_wp2_with fail
    refine (HE.out _ A1.out).mono ?_;rintro e w3 ⟨rfl,hb⟩;have A3:=zd A1 hb;have hS0:Below w.heap.size w w3∧w3.cell? ⟨w.heap.size,0,none⟩=some (.int .i64 s.P)∧w3.cell? ⟨w.heap.size,1,none⟩=some (.slice oa s.A.length ca)∧w3.cell? ⟨w.heap.size,2,none⟩=some (.int .i64 s.Q)∧w3.cell? ⟨w.heap.size,3,none⟩=some (.slice ob s.B.length cb)∧w3.cell? ⟨w.heap.size,4,none⟩=some (.int .i64 s.a)∧w3.cell? ⟨w.heap.size,5,none⟩=some (.int .i64 s.b)∧w3.cell? ⟨w.heap.size,6,none⟩=some (.slice ol s.L.length cl)∧w.heap.size<w3.heap.size:=⟨A3.out,(B1.out.keep hb).c 0 _ rfl,(B1.out.keep hb).c 1 _ rfl,(B1.out.keep hb).c 2 _ rfl,(B1.out.keep hb).c 3 _ rfl,(B1.out.keep hb).c 4 _ rfl,(B1.out.keep hb).c 5 _ rfl,(B1.out.keep hb).c 6 _ rfl,(B1.out.keep hb).lt⟩;have s2:=hS0.2.1;have s3:=hS0.2.2.2.2.2.1;have s4:=hS0.2.2.2.2.2.2.1;have s9:=hS0.2.2.2.2.2.2.2.2;clear hb A1 HE B1;go_wp2
    have mk:∀ W W':World,(Below w.heap.size w W∧W.cell? ⟨w.heap.size,0,none⟩=some (.int .i64 s.P)∧W.cell? ⟨w.heap.size,1,none⟩=some (.slice oa s.A.length ca)∧W.cell? ⟨w.heap.size,2,none⟩=some (.int .i64 s.Q)∧W.cell? ⟨w.heap.size,3,none⟩=some (.slice ob s.B.length cb)∧W.cell? ⟨w.heap.size,4,none⟩=some (.int .i64 s.a)∧W.cell? ⟨w.heap.size,5,none⟩=some (.int .i64 s.b)∧W.cell? ⟨w.heap.size,6,none⟩=some (.slice ol s.L.length cl)∧w.heap.size<W.heap.size)→Below W.heap.size W W'→(Below w.heap.size w W'∧W'.cell? ⟨w.heap.size,0,none⟩=some (.int .i64 s.P)∧W'.cell? ⟨w.heap.size,1,none⟩=some (.slice oa s.A.length ca)∧W'.cell? ⟨w.heap.size,2,none⟩=some (.int .i64 s.Q)∧W'.cell? ⟨w.heap.size,3,none⟩=some (.slice ob s.B.length cb)∧W'.cell? ⟨w.heap.size,4,none⟩=some (.int .i64 s.a)∧W'.cell? ⟨w.heap.size,5,none⟩=some (.int .i64 s.b)∧W'.cell? ⟨w.heap.size,6,none⟩=some (.slice ol s.L.length cl)∧w.heap.size<W'.heap.size):=fun W W' ⟨kb,k0_0,k0_1,k0_2,k0_3,k0_4,k0_5,k0_6,kl⟩ hb=>⟨down kb hb,(hb.cell (p:=⟨w.heap.size,0,none⟩) (by show w.heap.size<_;omega)).trans k0_0,(hb.cell (p:=⟨w.heap.size,1,none⟩) (by show w.heap.size<_;omega)).trans k0_1,(hb.cell (p:=⟨w.heap.size,2,none⟩) (by show w.heap.size<_;omega)).trans k0_2,(hb.cell (p:=⟨w.heap.size,3,none⟩) (by show w.heap.size<_;omega)).trans k0_3,(hb.cell (p:=⟨w.heap.size,4,none⟩) (by show w.heap.size<_;omega)).trans k0_4,(hb.cell (p:=⟨w.heap.size,5,none⟩) (by show w.heap.size<_;omega)).trans k0_5,(hb.cell (p:=⟨w.heap.size,6,none⟩) (by show w.heap.size<_;omega)).trans k0_6,zll kl hb.size⟩
    go_region_held3 (fun W'=>Below w.heap.size w W'∧W'.cell? ⟨w.heap.size,0,none⟩=some (.int .i64 s.P)∧W'.cell? ⟨w.heap.size,1,none⟩=some (.slice oa s.A.length ca)∧W'.cell? ⟨w.heap.size,2,none⟩=some (.int .i64 s.Q)∧W'.cell? ⟨w.heap.size,3,none⟩=some (.slice ob s.B.length cb)∧W'.cell? ⟨w.heap.size,4,none⟩=some (.int .i64 s.a)∧W'.cell? ⟨w.heap.size,5,none⟩=some (.int .i64 s.b)∧W'.cell? ⟨w.heap.size,6,none⟩=some (.slice ol s.L.length cl)∧w.heap.size<W'.heap.size) (first | assumption | (exact mk _ _ (by assumption) (here _).drew) | (exact mk _ _ (by assumption) (grow (here _) _)))
      (first
       | (go_at_call 68;(with_reducible refine (HV1.out _ (And.left (by assumption))).mono ?_);rintro e w' ⟨⟨v5,rfl,V5⟩,hb⟩;obtain ⟨g5,c5,rfl⟩:=VwX.shape V5;have hS:=mk _ w' (by assumption) hb)
       | (go_at_call 123;(with_reducible refine (HV2.out _ (And.left (by assumption))).mono ?_);rintro e w' ⟨⟨v6,rfl,V6⟩,hb⟩;obtain ⟨g6,c6,rfl⟩:=VwX.shape V6;have hS:=mk _ w' (by assumption) hb;replace V5:=VwX.keep V5 hb))
    have A6:=zh hS.1;have s1:=hS.2.1;have s2:=hS.2.2.2.2.2.1;have s3:=hS.2.2.2.2.2.2.1;have s9:=hS.2.2.2.2.2.2.2.2;clear hS mk hS0;replace V5:=zh V5;replace V6:=zh V6;obtain ⟨g1,k1,e5,eg1,hg1⟩:=V5.out
    injection e5 with e5a e5c e5b
    injection e5a with e5a
    subst e5a e5b;obtain ⟨g2,k2,e6,eg2,hg2⟩:=V6.out
    injection e6 with e6a e6c e6b
    injection e6a with e6a
    subst e6a e6b;have HG1:Hid (∀ W y c,Below w'.heap.size w' W→hsT s y=c→I64 y→Calls Tryz.prog g5 (#[.int .i64 y]++c5) W fun e W'=>(∃ n,e=.returned (.tuple #[.bool c,.int .i64 n])∧(-1152921504606846976≤y→y≤1152921504606846976→n=nxT s y))∧Below W.heap.size W W'):=fun W y c hW e hy=>by subst e;exact hg1 W (Far.of hW) y hy
    have HG2:Hid (∀ W y c,Below w'.heap.size w' W→hsP s.P s.A y=c→I64 y→Calls Tryz.prog g6 (#[.int .i64 y]++c6) W fun e W'=>(∃ n,e=.returned (.tuple #[.bool c,.int .i64 n])∧(-1152921504606846976≤y→y≤1152921504606846976→n=nxP s.P s.A y))∧Below W.heap.size W W'):=fun W y c hW e hy=>by subst e;exact hg2 W (Far.of hW) y hy
    clear hg1 hg2 V5 V6 e5c e6c hb;have L0:Hid (Below w'.heap.size w' w'):=here w';go_wp2
    go_loopw [7] (fun t wr=>∃ x:Int,t=.int .i64 x∧s.a≤x∧x≤9223372036854775807∧Hid (∀ z,s.a≤z→z<x→hsT s z=hsP s.P s.A z)∧Hid (Below w'.heap.size w' wr)) (fun t _=>(s.b - intOf t).toNat)
    case atStart=>exact ⟨s.a,rfl,Int.le_refl _,by omega,fun z a b=>absurd a (by omega),L0⟩
    case round =>
      obtain ⟨x,rfl,x0,x1,ON,LR⟩:=hrel;clear L0 s1 s2 s3 s9;have AR:=zh (down A6.out LR.out)
      by_cases z:x<s.b
      · have kz:decide (x<s.b)=true:=zdt z;obtain ⟨i1,hi1⟩:∃ i,hsT s x=i:=⟨_,rfl⟩;obtain ⟨i2,hi2⟩:∃ i,hsP s.P s.A x=i:=⟨_,rfl⟩;have C1:=zh (HG1.out wr x i1 LR.out hi1 (by unfold I64;omega));have C2:Hid (∀ W,Below wr.heap.size wr W→_):=fun W (hW:Below wr.heap.size wr W)=>HG2.out W x i2 (down LR.out hW) hi2 (by unfold I64;omega);have T1:=zh (N1.out x (by unfold farI;omega));have T2:=zh (N2.out x (by unfold farI;omega));replace hi1:=zh hi1;replace hi2:=zh hi2;clear HG1 HG2
        by_cases cd:i1=i2
        · subst cd;have kc:(i1==i1)=true:=by simp
          go_wp2_with fail
          go_at_fn g5
          refine C1.out.mono ?_;rintro e w8 ⟨⟨n1,rfl,hn1⟩,hb⟩;have A8:=zd AR hb;have C3:=zh (C2.out w8 hb);have L8:=zd LR hb;replace hn1:=zh hn1;clear hb C1 C2 AR;go_wp2_with fail
          go_at_fn g6
          refine C3.out.mono ?_;rintro e w9 ⟨⟨n2,rfl,hn2⟩,hb⟩;have A9:=zd A8 hb;have L9:=zd L8 hb;have en1:n1=nxT s x:=hn1.out (by omega) (by omega);have en2:n2=nxP s.P s.A x:=hn2 (by omega) (by omega);have T1f:=zh (NF.out x (by omega));rw [← en1] at T1f;rw [← en1] at T1;rw [← en2] at T2;clear hn1 hn2 hb C3 A8 L8 en1 en2 eg1 eg2;obtain ⟨m,hm⟩:∃ m,mnI n1 n2=m:=⟨_,rfl⟩;have ef:(if n2<n1 then n2 else n1)=m:=hm;have em:min n1 n2=m:=by rw [mn_min];exact hm
          have mb:x<m∧m≤n1∧m≤n2:=by have h1:=mnI_le n1 n2;have h2:=mnI_or n1 n2;have h3:=T1.out.lt;have h4:=T2.out.lt;rw [hm] at h1 h2;omega
          have mf:m≤9223372036854775807:=by
            have h2:=mb.2.1;have h3:n1≤9223372036854775807:=T1f.out;omega
          have ON':Hid (∀ z,s.a≤z→z<m→hsT s z=hsP s.P s.A z):=fun z a b=>by
            by_cases zx:z<x
            · exact ON.out z a zx
            · rw [T1.out.on z (by omega) (by omega),T2.out.on z (by omega) (by omega),hi1.out,hi2.out]
          obtain ⟨m0',-,-⟩:=mb;clear hm T1 T2 hi1 hi2 ON LR;go_wp2
          go_roundw
          case rel=>exact ⟨m,rfl,by omega,mf,ON',L9⟩
          case measure=>simp [intOf];omega
        · have kc:(i1==i2)=false:=by rw [beq_eq_false_iff_ne];exact cd
          have DR:Hid (DpR s x true):=⟨fun _=>⟨x0,by rw [hi1.out,hi2.out];exact cd,ON.out,fun _=>z⟩,fun c=>by cases c⟩;clear cd;go_wp2_with fail
          go_at_fn g5
          refine C1.out.mono ?_;rintro e w8 ⟨⟨n1,rfl,hn1⟩,hb⟩;have A8:=zd AR hb;have C3:=zh (C2.out w8 hb);have L8:=zd LR hb;replace hn1:=zh hn1;clear hb C1 C2 AR;go_wp2_with fail
          go_at_fn g6
          refine C3.out.mono ?_;rintro e w9 ⟨⟨n2,rfl,hn2⟩,hb⟩;have A9:=zd A8 hb;have L9:=zd L8 hb;have en1:n1=nxT s x:=hn1.out (by omega) (by omega);have en2:n2=nxP s.P s.A x:=hn2 (by omega) (by omega);have T1f:=zh (NF.out x (by omega));rw [← en1] at T1f;rw [← en1] at T1;rw [← en2] at T2;clear hn1 hn2 hb C3 A8 L8 en1 en2 eg1 eg2;clear T1 T2 hi1 hi2 ON LR;go_wp2
          go_ret2
          first | exact ⟨⟨_,_,rfl,DR.out,by omega,by omega⟩,A9.out⟩ | exact ⟨⟨_,.inr ⟨rfl,DR.out,by omega,by omega⟩⟩,A9.out⟩
      · have kz:decide (x<s.b)=false:=zdf z;have DR:Hid (DpR s 0 false):=⟨fun c=>(by cases c),fun _=>⟨rfl,sm.out,fun y a b=>ON.out y a (by omega)⟩⟩;clear ON LR HG1 HG2 eg1 eg2;go_wp2
        go_ret2
        exact ⟨⟨_,.inl ⟨rfl,DR.out,by omega,by omega⟩⟩,AR.out⟩
  · rw [zdf sm] at HE;replace hd:=zh (hd sm);replace sm:Hid (¬ smP s):=sm
    go_enter Tryz.func117,Tryz.ntmps117
    go_wp2_with fail
    refine (HE.out _ A1.out).mono ?_;rintro e w3 ⟨rfl,hb⟩;have A3:=zd A1 hb;have hS0:Below w.heap.size w w3∧w3.cell? ⟨w.heap.size,0,none⟩=some (.int .i64 s.P)∧w3.cell? ⟨w.heap.size,1,none⟩=some (.slice oa s.A.length ca)∧w3.cell? ⟨w.heap.size,2,none⟩=some (.int .i64 s.Q)∧w3.cell? ⟨w.heap.size,3,none⟩=some (.slice ob s.B.length cb)∧w3.cell? ⟨w.heap.size,4,none⟩=some (.int .i64 s.a)∧w3.cell? ⟨w.heap.size,5,none⟩=some (.int .i64 s.b)∧w3.cell? ⟨w.heap.size,6,none⟩=some (.slice ol s.L.length cl)∧w.heap.size<w3.heap.size:=⟨A3.out,(B1.out.keep hb).c 0 _ rfl,(B1.out.keep hb).c 1 _ rfl,(B1.out.keep hb).c 2 _ rfl,(B1.out.keep hb).c 3 _ rfl,(B1.out.keep hb).c 4 _ rfl,(B1.out.keep hb).c 5 _ rfl,(B1.out.keep hb).c 6 _ rfl,(B1.out.keep hb).lt⟩;have s2:=hS0.2.1;have s3:=hS0.2.2.2.2.2.1;have s4:=hS0.2.2.2.2.2.2.1;have s9:=hS0.2.2.2.2.2.2.2.2;clear hb A1 HE B1;go_wp2
    have mk:∀ W W':World,(Below w.heap.size w W∧W.cell? ⟨w.heap.size,0,none⟩=some (.int .i64 s.P)∧W.cell? ⟨w.heap.size,1,none⟩=some (.slice oa s.A.length ca)∧W.cell? ⟨w.heap.size,2,none⟩=some (.int .i64 s.Q)∧W.cell? ⟨w.heap.size,3,none⟩=some (.slice ob s.B.length cb)∧W.cell? ⟨w.heap.size,4,none⟩=some (.int .i64 s.a)∧W.cell? ⟨w.heap.size,5,none⟩=some (.int .i64 s.b)∧W.cell? ⟨w.heap.size,6,none⟩=some (.slice ol s.L.length cl)∧w.heap.size<W.heap.size)→Below W.heap.size W W'→(Below w.heap.size w W'∧W'.cell? ⟨w.heap.size,0,none⟩=some (.int .i64 s.P)∧W'.cell? ⟨w.heap.size,1,none⟩=some (.slice oa s.A.length ca)∧W'.cell? ⟨w.heap.size,2,none⟩=some (.int .i64 s.Q)∧W'.cell? ⟨w.heap.size,3,none⟩=some (.slice ob s.B.length cb)∧W'.cell? ⟨w.heap.size,4,none⟩=some (.int .i64 s.a)∧W'.cell? ⟨w.heap.size,5,none⟩=some (.int .i64 s.b)∧W'.cell? ⟨w.heap.size,6,none⟩=some (.slice ol s.L.length cl)∧w.heap.size<W'.heap.size):=fun W W' ⟨kb,k0_0,k0_1,k0_2,k0_3,k0_4,k0_5,k0_6,kl⟩ hb=>⟨down kb hb,(hb.cell (p:=⟨w.heap.size,0,none⟩) (by show w.heap.size<_;omega)).trans k0_0,(hb.cell (p:=⟨w.heap.size,1,none⟩) (by show w.heap.size<_;omega)).trans k0_1,(hb.cell (p:=⟨w.heap.size,2,none⟩) (by show w.heap.size<_;omega)).trans k0_2,(hb.cell (p:=⟨w.heap.size,3,none⟩) (by show w.heap.size<_;omega)).trans k0_3,(hb.cell (p:=⟨w.heap.size,4,none⟩) (by show w.heap.size<_;omega)).trans k0_4,(hb.cell (p:=⟨w.heap.size,5,none⟩) (by show w.heap.size<_;omega)).trans k0_5,(hb.cell (p:=⟨w.heap.size,6,none⟩) (by show w.heap.size<_;omega)).trans k0_6,zll kl hb.size⟩
    go_region_held3 (fun W'=>Below w.heap.size w W'∧W'.cell? ⟨w.heap.size,0,none⟩=some (.int .i64 s.P)∧W'.cell? ⟨w.heap.size,1,none⟩=some (.slice oa s.A.length ca)∧W'.cell? ⟨w.heap.size,2,none⟩=some (.int .i64 s.Q)∧W'.cell? ⟨w.heap.size,3,none⟩=some (.slice ob s.B.length cb)∧W'.cell? ⟨w.heap.size,4,none⟩=some (.int .i64 s.a)∧W'.cell? ⟨w.heap.size,5,none⟩=some (.int .i64 s.b)∧W'.cell? ⟨w.heap.size,6,none⟩=some (.slice ol s.L.length cl)∧w.heap.size<W'.heap.size) (first | assumption | (exact mk _ _ (by assumption) (here _).drew) | (exact mk _ _ (by assumption) (grow (here _) _)))
      (first
       | (go_at_call 68;(with_reducible refine (HV1.out _ (And.left (by assumption))).mono ?_);rintro e w' ⟨⟨v5,rfl,V5⟩,hb⟩;obtain ⟨g5,c5,rfl⟩:=VwX.shape V5;have hS:=mk _ w' (by assumption) hb)
       | (go_at_call 123;(with_reducible refine (HV2.out _ (And.left (by assumption))).mono ?_);rintro e w' ⟨⟨v6,rfl,V6⟩,hb⟩;obtain ⟨g6,c6,rfl⟩:=VwX.shape V6;have hS:=mk _ w' (by assumption) hb;replace V5:=VwX.keep V5 hb))
    have A6:=zh hS.1;have s1:=hS.2.1;have s2:=hS.2.2.2.2.2.1;have s3:=hS.2.2.2.2.2.2.1;have s9:=hS.2.2.2.2.2.2.2.2;clear hS mk hS0;replace V5:=zh V5;replace V6:=zh V6;obtain ⟨g1,k1,e5,eg1,hg1⟩:=V5.out
    injection e5 with e5a e5c e5b
    injection e5a with e5a
    subst e5a e5b;obtain ⟨g2,k2,e6,eg2,hg2⟩:=V6.out
    injection e6 with e6a e6c e6b
    injection e6a with e6a
    subst e6a e6b;have HG1:Hid (∀ W y c,Below w'.heap.size w' W→hsT s y=c→I64 y→Calls Tryz.prog g5 (#[.int .i64 y]++c5) W fun e W'=>(∃ n,e=.returned (.tuple #[.bool c,.int .i64 n])∧(-1152921504606846976≤y→y≤1152921504606846976→n=nxT s y))∧Below W.heap.size W W'):=fun W y c hW e hy=>by subst e;exact hg1 W (Far.of hW) y hy
    have HG2:Hid (∀ W y c,Below w'.heap.size w' W→hsP s.P s.A y=c→I64 y→Calls Tryz.prog g6 (#[.int .i64 y]++c6) W fun e W'=>(∃ n,e=.returned (.tuple #[.bool c,.int .i64 n])∧(-1152921504606846976≤y→y≤1152921504606846976→n=nxP s.P s.A y))∧Below W.heap.size W W'):=fun W y c hW e hy=>by subst e;exact hg2 W (Far.of hW) y hy
    clear hg1 hg2 V5 V6 e5c e6c hb;have L0:Hid (Below w'.heap.size w' w'):=here w';go_wp2
    go_loopw [7] (fun t wr=>∃ x:Int,t=.int .i64 x∧s.a≤x∧x≤9223372036854775807∧Hid (∀ z,s.a≤z→z<x→hsT s z=hsP s.P s.A z)∧Hid (Below w'.heap.size w' wr)) (fun t _=>((s.b+M) - intOf t).toNat)
    case atStart=>exact ⟨s.a,rfl,Int.le_refl _,by omega,fun z a b=>absurd a (by omega),L0⟩
    case round =>
      obtain ⟨x,rfl,x0,x1,ON,LR⟩:=hrel;clear L0 s1 s2 s3 s9;have xM:x<s.b+M:=by
        by_cases c:x<s.b+M
        · exact c
        · obtain ⟨y,y0,y1,y2⟩:=hd.out.ex s.b;refine absurd ?_ y2;rw [← ON.out y (by omega) (by omega)];exact (gv_high gw.out.le y0).symm
      have AR:=zh (down A6.out LR.out)
      by_cases z:x<9223372036854775807
      · have kz:decide (x<9223372036854775807)=true:=zdt z;obtain ⟨i1,hi1⟩:∃ i,hsT s x=i:=⟨_,rfl⟩;obtain ⟨i2,hi2⟩:∃ i,hsP s.P s.A x=i:=⟨_,rfl⟩;have C1:=zh (HG1.out wr x i1 LR.out hi1 (by unfold I64;omega));have C2:Hid (∀ W,Below wr.heap.size wr W→_):=fun W (hW:Below wr.heap.size wr W)=>HG2.out W x i2 (down LR.out hW) hi2 (by unfold I64;omega);have T1:=zh (N1.out x (by unfold farI;omega));have T2:=zh (N2.out x (by unfold farI;omega));replace hi1:=zh hi1;replace hi2:=zh hi2;clear HG1 HG2
        by_cases cd:i1=i2
        · subst cd;have kc:(i1==i1)=true:=by simp
          go_wp2_with fail
          go_at_fn g5
          refine C1.out.mono ?_;rintro e w8 ⟨⟨n1,rfl,hn1⟩,hb⟩;have A8:=zd AR hb;have C3:=zh (C2.out w8 hb);have L8:=zd LR hb;replace hn1:=zh hn1;clear hb C1 C2 AR;go_wp2_with fail
          go_at_fn g6
          refine C3.out.mono ?_;rintro e w9 ⟨⟨n2,rfl,hn2⟩,hb⟩;have A9:=zd A8 hb;have L9:=zd L8 hb;have en1:n1=nxT s x:=hn1.out (by omega) (by omega);have en2:n2=nxP s.P s.A x:=hn2 (by omega) (by omega);have T1f:=zh (NF.out x (by omega));rw [← en1] at T1f;rw [← en1] at T1;rw [← en2] at T2;clear hn1 hn2 hb C3 A8 L8 en1 en2 eg1 eg2;obtain ⟨m,hm⟩:∃ m,mnI n1 n2=m:=⟨_,rfl⟩;have ef:(if n2<n1 then n2 else n1)=m:=hm;have em:min n1 n2=m:=by rw [mn_min];exact hm
          have mb:x<m∧m≤n1∧m≤n2:=by have h1:=mnI_le n1 n2;have h2:=mnI_or n1 n2;have h3:=T1.out.lt;have h4:=T2.out.lt;rw [hm] at h1 h2;omega
          have mf:m≤9223372036854775807:=by
            have h2:=mb.2.1;have h3:n1≤9223372036854775807:=T1f.out;omega
          have ON':Hid (∀ z,s.a≤z→z<m→hsT s z=hsP s.P s.A z):=fun z a b=>by
            by_cases zx:z<x
            · exact ON.out z a zx
            · rw [T1.out.on z (by omega) (by omega),T2.out.on z (by omega) (by omega),hi1.out,hi2.out]
          obtain ⟨m0',-,-⟩:=mb;clear hm T1 T2 hi1 hi2 ON LR;go_wp2
          go_roundw
          case rel=>exact ⟨m,rfl,by omega,mf,ON',L9⟩
          case measure=>simp [intOf];omega
        · have kc:(i1==i2)=false:=by rw [beq_eq_false_iff_ne];exact cd
          have DR:Hid (DpR s x true):=⟨fun _=>⟨x0,by rw [hi1.out,hi2.out];exact cd,ON.out,fun c=>absurd c sm.out⟩,fun c=>by cases c⟩;clear cd;go_wp2_with fail
          go_at_fn g5
          refine C1.out.mono ?_;rintro e w8 ⟨⟨n1,rfl,hn1⟩,hb⟩;have A8:=zd AR hb;have C3:=zh (C2.out w8 hb);have L8:=zd LR hb;replace hn1:=zh hn1;clear hb C1 C2 AR;go_wp2_with fail
          go_at_fn g6
          refine C3.out.mono ?_;rintro e w9 ⟨⟨n2,rfl,hn2⟩,hb⟩;have A9:=zd A8 hb;have L9:=zd L8 hb;have en1:n1=nxT s x:=hn1.out (by omega) (by omega);have en2:n2=nxP s.P s.A x:=hn2 (by omega) (by omega);have T1f:=zh (NF.out x (by omega));rw [← en1] at T1f;rw [← en1] at T1;rw [← en2] at T2;clear hn1 hn2 hb C3 A8 L8 en1 en2 eg1 eg2;clear T1 T2 hi1 hi2 ON LR;go_wp2
          go_ret2
          first | exact ⟨⟨_,_,rfl,DR.out,by omega,by omega⟩,A9.out⟩ | exact ⟨⟨_,.inr ⟨rfl,DR.out,by omega,by omega⟩⟩,A9.out⟩
      · exact absurd (show x<9223372036854775807 by omega) z
end Go.Proofs.YtmamlgaogpkagaaGreat
