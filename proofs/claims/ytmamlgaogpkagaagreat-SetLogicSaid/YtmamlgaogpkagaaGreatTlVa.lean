/- Law 14: SetLogic: region 10. -/
import Derived.Test.YtmamlgaogpkagaaGreatZK
import Derived.Test.YtmamlgaogpkagaaGreatQTvLa
import Derived.Test.YtmamlgaogpkagaaGreatQTvNa
import Derived.Test.YtmamlgaogpkagaaGreatQTvPb
import Derived.Test.YtmamlgaogpkagaaGreatQTsCi
import Derived.Test.YtmamlgaogpkagaaGreatQTlCc
import Derived.Test.YtmamlgaogpkagaaGreatQLRd
import Derived.Test.YtmamlgaogpkagaaGreatQTlT
import Derived.Test.YtmamlgaogpkagaaGreatTlU
import Derived.StillTailTactics
import Derived.BigQuiet
import Derived.Deep.QuietTactic
import Derived.Deep.Cut
import Derived.Deep.RegionHeld3
namespace Go.Proofs.YtmamlgaogpkagaaGreat
open Go.RowKit
set_option linter.unusedVariables false
set_option linter.unusedSimpArgs false
def lraOps:Array Oper:=#[
 { dst:=some 33,op:=Go.Op.move (Go.Operand.tmp 9),type:=62,pos := "law.go:187",after:=#[],guard:=none },
 { dst:=some 34,op:=Go.Op.move (Go.Operand.tmp 10),type:=63,pos := "law.go:187",after:=#[],guard:=none },
 { dst:=some 35,op:=Go.Op.load 26 (Go.Operand.tmp 3),type:=26,pos := "law.go:187",after:=#[],guard:=none },
 { dst:=some 36,op:=Go.Op.load 26 (Go.Operand.tmp 4),type:=26,pos := "law.go:187",after:=#[],guard:=none },
 { dst:=some 37,op:=Go.Op.call { callee:=Go.Callee.value (Go.Operand.tmp 34),args:=#[Go.Operand.tmp 35,Go.Operand.tmp 36],argTypes:=#[26,26] },type:=26,pos := "law.go:187",after:=#[{ on:=1,ground:=Go.Ground.data },{ on:=2,ground:=Go.Ground.data },{ on:=3,ground:=Go.Ground.data }],guard:=none },
 { dst:=some 38,op:=Go.Op.call { callee:=Go.Callee.value (Go.Operand.tmp 33),args:=#[Go.Operand.tmp 37],argTypes:=#[26] },type:=26,pos := "law.go:187",after:=#[{ on:=0,ground:=Go.Ground.data },{ on:=4,ground:=Go.Ground.data },{ on:=4,ground:=Go.Ground.chain }],guard:=none },
 { dst:=some 39,op:=Go.Op.move (Go.Operand.tmp 11),type:=63,pos := "law.go:187",after:=#[],guard:=none },
 { dst:=some 40,op:=Go.Op.move (Go.Operand.tmp 9),type:=62,pos := "law.go:187",after:=#[],guard:=none },
 { dst:=some 41,op:=Go.Op.load 26 (Go.Operand.tmp 3),type:=26,pos := "law.go:187",after:=#[],guard:=none },
 { dst:=some 42,op:=Go.Op.call { callee:=Go.Callee.value (Go.Operand.tmp 40),args:=#[Go.Operand.tmp 41],argTypes:=#[26] },type:=26,pos := "law.go:187",after:=#[{ on:=7,ground:=Go.Ground.data },{ on:=8,ground:=Go.Ground.data },{ on:=5,ground:=Go.Ground.chain }],guard:=none },
 { dst:=some 43,op:=Go.Op.move (Go.Operand.tmp 9),type:=62,pos := "law.go:187",after:=#[],guard:=none },
 { dst:=some 44,op:=Go.Op.load 26 (Go.Operand.tmp 4),type:=26,pos := "law.go:187",after:=#[],guard:=none },
 { dst:=some 45,op:=Go.Op.call { callee:=Go.Callee.value (Go.Operand.tmp 43),args:=#[Go.Operand.tmp 44],argTypes:=#[26] },type:=26,pos := "law.go:187",after:=#[{ on:=10,ground:=Go.Ground.data },{ on:=11,ground:=Go.Ground.data },{ on:=9,ground:=Go.Ground.chain }],guard:=none },
 { dst:=some 46,op:=Go.Op.call { callee:=Go.Callee.value (Go.Operand.tmp 39),args:=#[Go.Operand.tmp 42,Go.Operand.tmp 45],argTypes:=#[26,26] },type:=26,pos := "law.go:187",after:=#[{ on:=6,ground:=Go.Ground.data },{ on:=9,ground:=Go.Ground.data },{ on:=12,ground:=Go.Ground.data },{ on:=12,ground:=Go.Ground.chain }],guard:=none },
 { dst:=some 12,op:=Go.Op.alloc 26,type:=0,pos := "law.go:187",after:=#[],guard:=none },
 { dst:=some 13,op:=Go.Op.alloc 26,type:=0,pos := "law.go:187",after:=#[],guard:=none },
 { dst:=none,op:=Go.Op.store 26 (Go.Operand.tmp 12) (Go.Operand.tmp 38),type:=0,pos := "law.go:187",after:=#[{ on:=14,ground:=Go.Ground.data },{ on:=5,ground:=Go.Ground.data },{ on:=13,ground:=Go.Ground.chain },{ on:=0,ground:=Go.Ground.phase },{ on:=1,ground:=Go.Ground.phase },{ on:=2,ground:=Go.Ground.phase },{ on:=3,ground:=Go.Ground.phase },{ on:=4,ground:=Go.Ground.phase },{ on:=5,ground:=Go.Ground.phase },{ on:=6,ground:=Go.Ground.textOnly Go.Departure.lateStores },{ on:=7,ground:=Go.Ground.textOnly Go.Departure.lateStores },{ on:=8,ground:=Go.Ground.textOnly Go.Departure.lateStores },{ on:=9,ground:=Go.Ground.textOnly Go.Departure.lateStoresUnsure },{ on:=10,ground:=Go.Ground.textOnly Go.Departure.lateStores },{ on:=11,ground:=Go.Ground.textOnly Go.Departure.lateStores },{ on:=12,ground:=Go.Ground.textOnly Go.Departure.lateStoresUnsure },{ on:=13,ground:=Go.Ground.textOnly Go.Departure.lateStoresUnsure },{ on:=14,ground:=Go.Ground.phase },{ on:=15,ground:=Go.Ground.phase }],guard:=none },
 { dst:=none,op:=Go.Op.store 26 (Go.Operand.tmp 13) (Go.Operand.tmp 46),type:=0,pos := "law.go:187",after:=#[{ on:=15,ground:=Go.Ground.data },{ on:=13,ground:=Go.Ground.data },{ on:=16,ground:=Go.Ground.chain },{ on:=0,ground:=Go.Ground.phase },{ on:=1,ground:=Go.Ground.phase },{ on:=2,ground:=Go.Ground.phase },{ on:=3,ground:=Go.Ground.phase },{ on:=4,ground:=Go.Ground.phase },{ on:=5,ground:=Go.Ground.phase },{ on:=6,ground:=Go.Ground.phase },{ on:=7,ground:=Go.Ground.phase },{ on:=8,ground:=Go.Ground.phase },{ on:=9,ground:=Go.Ground.phase },{ on:=10,ground:=Go.Ground.phase },{ on:=11,ground:=Go.Ground.phase },{ on:=12,ground:=Go.Ground.phase },{ on:=13,ground:=Go.Ground.phase },{ on:=14,ground:=Go.Ground.phase },{ on:=15,ground:=Go.Ground.phase },{ on:=16,ground:=Go.Ground.phase }],guard:=none }]
theorem lraq0:lraOps[0]?=some { dst:=some 33,op:=Go.Op.move (Go.Operand.tmp 9),type:=62,pos := "law.go:187",after:=#[],guard:=none }:=rfl
theorem lraq1:lraOps[1]?=some { dst:=some 34,op:=Go.Op.move (Go.Operand.tmp 10),type:=63,pos := "law.go:187",after:=#[],guard:=none }:=rfl
theorem lraq2:lraOps[2]?=some { dst:=some 35,op:=Go.Op.load 26 (Go.Operand.tmp 3),type:=26,pos := "law.go:187",after:=#[],guard:=none }:=rfl
theorem lraq3:lraOps[3]?=some { dst:=some 36,op:=Go.Op.load 26 (Go.Operand.tmp 4),type:=26,pos := "law.go:187",after:=#[],guard:=none }:=rfl
theorem lraq4:lraOps[4]?=some { dst:=some 37,op:=Go.Op.call { callee:=Go.Callee.value (Go.Operand.tmp 34),args:=#[Go.Operand.tmp 35,Go.Operand.tmp 36],argTypes:=#[26,26] },type:=26,pos := "law.go:187",after:=#[{ on:=1,ground:=Go.Ground.data },{ on:=2,ground:=Go.Ground.data },{ on:=3,ground:=Go.Ground.data }],guard:=none }:=rfl
theorem lraq5:lraOps[5]?=some { dst:=some 38,op:=Go.Op.call { callee:=Go.Callee.value (Go.Operand.tmp 33),args:=#[Go.Operand.tmp 37],argTypes:=#[26] },type:=26,pos := "law.go:187",after:=#[{ on:=0,ground:=Go.Ground.data },{ on:=4,ground:=Go.Ground.data },{ on:=4,ground:=Go.Ground.chain }],guard:=none }:=rfl
theorem lraq6:lraOps[6]?=some { dst:=some 39,op:=Go.Op.move (Go.Operand.tmp 11),type:=63,pos := "law.go:187",after:=#[],guard:=none }:=rfl
theorem lraq7:lraOps[7]?=some { dst:=some 40,op:=Go.Op.move (Go.Operand.tmp 9),type:=62,pos := "law.go:187",after:=#[],guard:=none }:=rfl
theorem lraq8:lraOps[8]?=some { dst:=some 41,op:=Go.Op.load 26 (Go.Operand.tmp 3),type:=26,pos := "law.go:187",after:=#[],guard:=none }:=rfl
theorem lraq9:lraOps[9]?=some { dst:=some 42,op:=Go.Op.call { callee:=Go.Callee.value (Go.Operand.tmp 40),args:=#[Go.Operand.tmp 41],argTypes:=#[26] },type:=26,pos := "law.go:187",after:=#[{ on:=7,ground:=Go.Ground.data },{ on:=8,ground:=Go.Ground.data },{ on:=5,ground:=Go.Ground.chain }],guard:=none }:=rfl
theorem lraq10:lraOps[10]?=some { dst:=some 43,op:=Go.Op.move (Go.Operand.tmp 9),type:=62,pos := "law.go:187",after:=#[],guard:=none }:=rfl
theorem lraq11:lraOps[11]?=some { dst:=some 44,op:=Go.Op.load 26 (Go.Operand.tmp 4),type:=26,pos := "law.go:187",after:=#[],guard:=none }:=rfl
theorem lraq12:lraOps[12]?=some { dst:=some 45,op:=Go.Op.call { callee:=Go.Callee.value (Go.Operand.tmp 43),args:=#[Go.Operand.tmp 44],argTypes:=#[26] },type:=26,pos := "law.go:187",after:=#[{ on:=10,ground:=Go.Ground.data },{ on:=11,ground:=Go.Ground.data },{ on:=9,ground:=Go.Ground.chain }],guard:=none }:=rfl
theorem lraq13:lraOps[13]?=some { dst:=some 46,op:=Go.Op.call { callee:=Go.Callee.value (Go.Operand.tmp 39),args:=#[Go.Operand.tmp 42,Go.Operand.tmp 45],argTypes:=#[26,26] },type:=26,pos := "law.go:187",after:=#[{ on:=6,ground:=Go.Ground.data },{ on:=9,ground:=Go.Ground.data },{ on:=12,ground:=Go.Ground.data },{ on:=12,ground:=Go.Ground.chain }],guard:=none }:=rfl
theorem lraq14:lraOps[14]?=some { dst:=some 12,op:=Go.Op.alloc 26,type:=0,pos := "law.go:187",after:=#[],guard:=none }:=rfl
theorem lraq15:lraOps[15]?=some { dst:=some 13,op:=Go.Op.alloc 26,type:=0,pos := "law.go:187",after:=#[],guard:=none }:=rfl
theorem lraq16:lraOps[16]?=some { dst:=none,op:=Go.Op.store 26 (Go.Operand.tmp 12) (Go.Operand.tmp 38),type:=0,pos := "law.go:187",after:=#[{ on:=14,ground:=Go.Ground.data },{ on:=5,ground:=Go.Ground.data },{ on:=13,ground:=Go.Ground.chain },{ on:=0,ground:=Go.Ground.phase },{ on:=1,ground:=Go.Ground.phase },{ on:=2,ground:=Go.Ground.phase },{ on:=3,ground:=Go.Ground.phase },{ on:=4,ground:=Go.Ground.phase },{ on:=5,ground:=Go.Ground.phase },{ on:=6,ground:=Go.Ground.textOnly Go.Departure.lateStores },{ on:=7,ground:=Go.Ground.textOnly Go.Departure.lateStores },{ on:=8,ground:=Go.Ground.textOnly Go.Departure.lateStores },{ on:=9,ground:=Go.Ground.textOnly Go.Departure.lateStoresUnsure },{ on:=10,ground:=Go.Ground.textOnly Go.Departure.lateStores },{ on:=11,ground:=Go.Ground.textOnly Go.Departure.lateStores },{ on:=12,ground:=Go.Ground.textOnly Go.Departure.lateStoresUnsure },{ on:=13,ground:=Go.Ground.textOnly Go.Departure.lateStoresUnsure },{ on:=14,ground:=Go.Ground.phase },{ on:=15,ground:=Go.Ground.phase }],guard:=none }:=rfl
theorem lraq17:lraOps[17]?=some { dst:=none,op:=Go.Op.store 26 (Go.Operand.tmp 13) (Go.Operand.tmp 46),type:=0,pos := "law.go:187",after:=#[{ on:=15,ground:=Go.Ground.data },{ on:=13,ground:=Go.Ground.data },{ on:=16,ground:=Go.Ground.chain },{ on:=0,ground:=Go.Ground.phase },{ on:=1,ground:=Go.Ground.phase },{ on:=2,ground:=Go.Ground.phase },{ on:=3,ground:=Go.Ground.phase },{ on:=4,ground:=Go.Ground.phase },{ on:=5,ground:=Go.Ground.phase },{ on:=6,ground:=Go.Ground.phase },{ on:=7,ground:=Go.Ground.phase },{ on:=8,ground:=Go.Ground.phase },{ on:=9,ground:=Go.Ground.phase },{ on:=10,ground:=Go.Ground.phase },{ on:=11,ground:=Go.Ground.phase },{ on:=12,ground:=Go.Ground.phase },{ on:=13,ground:=Go.Ground.phase },{ on:=14,ground:=Go.Ground.phase },{ on:=15,ground:=Go.Ground.phase },{ on:=16,ground:=Go.Ground.phase }],guard:=none }:=rfl
set_option maxRecDepth 100000 in
set_option maxHeartbeats 16000000 in
theorem lra_region (Q:Exit→Act→World→Prop) {u0 u1 u2 u5 u6 u7 u8 u12 u13 u14 u15 u16 u17 u18 u19 u20 u21 u22 u23 u24 u25 u26 u27 u28 u29 u30 u31 u32 u33 u34 u35 u36 u37 u38 u39 u40 u41 u42 u43 u44 u45 u46 u47 u48 u49 u50 u51 u52 u53 u54 u55 u56 u57 u58 u59 u60 u61 u62 u63 u64 u65 u66 u67 u68 u69 u70 u71 u72 u73 u74 u75 u76 u77 u78 u79 u80 u81 u82 u83 u84 u85 u86 u87 u88 u89 u90 u91 u92 u93 u94 u95 u96 u97 u98 u99 u100 u101 u102 u103 u104 u105 u106 u107 u108 u109 u110 u111 u112 u113 u114 u115 u116 u117 u118 u119 u120 u121 u122 u123 u124 u125 u126 Av0 Av1 Av2 Av3 Av4 Av5 Av6 Bv0 Bv1 Bv2 Bv3 Bv4 Bv5 Bv6:Value} (R1 R2 R3 R4 R5:TS × Int) (k0:Bool) (bo ob ab bb:Nat) (B w0:World) (hQ:∀ c a d v w,Q (.panic c) (Act.put a (some d) v) w→Q (.panic c) a w)
  (C0:Hid (∀ (W:World) (k:Bool),Okm bo B W→Bxo W bo [.bool k]→Calls Tryz.prog 48 #[.agg #[Av0,Av1,Av2,Av3,Av4,Av5,Av6],.agg #[Bv0,Bv1,Bv2,Bv3,Bv4,Bv5,Bv6],.pointer (some ⟨ob,0,none⟩)] W (OkO bo W R1.1 (k&&R1.2==0)))) (C1:Hid (∀ (a1 b1 l1:Value) (W:World) (k:Bool),Okm bo B W→SS3 W R1.1 a1 b1 l1→Bxo W bo [.bool k]→Calls Tryz.prog 47 #[.agg #[.int .i64 R1.1.P,a1,.int .i64 R1.1.Q,b1,.int .i64 R1.1.a,.int .i64 R1.1.b,l1],.pointer (some ⟨ob,0,none⟩)] W (OkO bo W R2.1 (k&&R2.2==0)))) (C2:Hid (∀ (W:World) (k:Bool),Okm bo B W→Bxo W bo [.bool k]→Calls Tryz.prog 47 #[.agg #[Av0,Av1,Av2,Av3,Av4,Av5,Av6],.pointer (some ⟨ob,0,none⟩)] W (OkO bo W R3.1 (k&&R3.2==0)))) (C3:Hid (∀ (W:World) (k:Bool),Okm bo B W→Bxo W bo [.bool k]→Calls Tryz.prog 47 #[.agg #[Bv0,Bv1,Bv2,Bv3,Bv4,Bv5,Bv6],.pointer (some ⟨ob,0,none⟩)] W (OkO bo W R4.1 (k&&R4.2==0)))) (C4:Hid (∀ (a3 b3 l3:Value) (a4 b4 l4:Value) (W:World) (k:Bool),Okm bo B W→SS3 W R3.1 a3 b3 l3→SS3 W R4.1 a4 b4 l4→Bxo W bo [.bool k]→Calls Tryz.prog 49 #[.agg #[.int .i64 R3.1.P,a3,.int .i64 R3.1.Q,b3,.int .i64 R3.1.a,.int .i64 R3.1.b,l3],.agg #[.int .i64 R4.1.P,a4,.int .i64 R4.1.Q,b4,.int .i64 R4.1.a,.int .i64 R4.1.b,l4],.pointer (some ⟨ob,0,none⟩)] W (OkO bo W R5.1 (k&&R5.2==0)))) (TL2:Hid (TsL R2.1)) (TL5:Hid (TsL R5.1)) (HA:Bxs B ab [Av0,Av1,Av2,Av3,Av4,Av5,Av6]) (nA:ab≠bo) (HB:Bxs B bb [Bv0,Bv1,Bv2,Bv3,Bv4,Bv5,Bv6]) (nB:bb≠bo) (lb:bo<B.heap.size) (hS0:Okm bo B w0) (K0:Bxo w0 bo [.bool k0])
  (fin:∀ (a2 b2 l2 a5 b5 l5 v37 v42 v45:Value) (N0b:Nat) (N1b:Nat) (W:World),Okm bo B W→Bxo W bo [.bool (k0&&R1.2==0&&R2.2==0&&R3.2==0&&R4.2==0&&R5.2==0)]→Bxs W N0b [.int .i64 R2.1.P,a2,.int .i64 R2.1.Q,b2,.int .i64 R2.1.a,.int .i64 R2.1.b,l2]→Bxs W N1b [.int .i64 R5.1.P,a5,.int .i64 R5.1.Q,b5,.int .i64 R5.1.a,.int .i64 R5.1.b,l5]→SS3 W R2.1 a2 b2 l2→SS3 W R5.1 a5 b5 l5→B.heap.size≤N0b→B.heap.size≤N1b→Q .normal ⟨#[u0,u1,u2,.pointer (some ⟨ab,0,none⟩),.pointer (some ⟨bb,0,none⟩),u5,u6,u7,u8,.func (.func 47) #[] #[.pointer (some ⟨ob,0,none⟩)],.func (.func 48) #[] #[.pointer (some ⟨ob,0,none⟩)],.func (.func 49) #[] #[.pointer (some ⟨ob,0,none⟩)],.pointer (some ⟨N0b,0,none⟩),.pointer (some ⟨N1b,0,none⟩),u14,u15,u16,u17,u18,u19,u20,u21,u22,u23,u24,u25,u26,u27,u28,u29,u30,u31,u32,.func (.func 47) #[] #[.pointer (some ⟨ob,0,none⟩)],.func (.func 48) #[] #[.pointer (some ⟨ob,0,none⟩)],.agg #[Av0,Av1,Av2,Av3,Av4,Av5,Av6],.agg #[Bv0,Bv1,Bv2,Bv3,Bv4,Bv5,Bv6],v37,.agg #[.int .i64 R2.1.P,a2,.int .i64 R2.1.Q,b2,.int .i64 R2.1.a,.int .i64 R2.1.b,l2],.func (.func 49) #[] #[.pointer (some ⟨ob,0,none⟩)],.func (.func 47) #[] #[.pointer (some ⟨ob,0,none⟩)],.agg #[Av0,Av1,Av2,Av3,Av4,Av5,Av6],v42,.func (.func 47) #[] #[.pointer (some ⟨ob,0,none⟩)],.agg #[Bv0,Bv1,Bv2,Bv3,Bv4,Bv5,Bv6],v45,.agg #[.int .i64 R5.1.P,a5,.int .i64 R5.1.Q,b5,.int .i64 R5.1.a,.int .i64 R5.1.b,l5],u47,u48,u49,u50,u51,u52,u53,u54,u55,u56,u57,u58,u59,u60,u61,u62,u63,u64,u65,u66,u67,u68,u69,u70,u71,u72,u73,u74,u75,u76,u77,u78,u79,u80,u81,u82,u83,u84,u85,u86,u87,u88,u89,u90,u91,u92,u93,u94,u95,u96,u97,u98,u99,u100,u101,u102,u103,u104,u105,u106,u107,u108,u109,u110,u111,u112,u113,u114,u115,u116,u117,u118,u119,u120,u121,u122,u123,u124,u125,u126],[]⟩ W) :
  (Code.region 10 lraOps true).wp Tryz.prog Q ⟨#[u0,u1,u2,.pointer (some ⟨ab,0,none⟩),.pointer (some ⟨bb,0,none⟩),u5,u6,u7,u8,.func (.func 47) #[] #[.pointer (some ⟨ob,0,none⟩)],.func (.func 48) #[] #[.pointer (some ⟨ob,0,none⟩)],.func (.func 49) #[] #[.pointer (some ⟨ob,0,none⟩)],u12,u13,u14,u15,u16,u17,u18,u19,u20,u21,u22,u23,u24,u25,u26,u27,u28,u29,u30,u31,u32,u33,u34,u35,u36,u37,u38,u39,u40,u41,u42,u43,u44,u45,u46,u47,u48,u49,u50,u51,u52,u53,u54,u55,u56,u57,u58,u59,u60,u61,u62,u63,u64,u65,u66,u67,u68,u69,u70,u71,u72,u73,u74,u75,u76,u77,u78,u79,u80,u81,u82,u83,u84,u85,u86,u87,u88,u89,u90,u91,u92,u93,u94,u95,u96,u97,u98,u99,u100,u101,u102,u103,u104,u105,u106,u107,u108,u109,u110,u111,u112,u113,u114,u115,u116,u117,u118,u119,u120,u121,u122,u123,u124,u125,u126],[]⟩ w0:=by
 replace fin:=zh fin;obtain ⟨zT,zTe⟩:∃ zT:Value→Value→Value→Value→Value→Value→Value→Act,zT=fun x37 x38 x42 x45 x46 x12 x13=>⟨#[u0,u1,u2,.pointer (some ⟨ab,0,none⟩),.pointer (some ⟨bb,0,none⟩),u5,u6,u7,u8,.func (.func 47) #[] #[.pointer (some ⟨ob,0,none⟩)],.func (.func 48) #[] #[.pointer (some ⟨ob,0,none⟩)],.func (.func 49) #[] #[.pointer (some ⟨ob,0,none⟩)],x12,x13,u14,u15,u16,u17,u18,u19,u20,u21,u22,u23,u24,u25,u26,u27,u28,u29,u30,u31,u32,.func (.func 47) #[] #[.pointer (some ⟨ob,0,none⟩)],.func (.func 48) #[] #[.pointer (some ⟨ob,0,none⟩)],.agg #[Av0,Av1,Av2,Av3,Av4,Av5,Av6],.agg #[Bv0,Bv1,Bv2,Bv3,Bv4,Bv5,Bv6],x37,x38,.func (.func 49) #[] #[.pointer (some ⟨ob,0,none⟩)],.func (.func 47) #[] #[.pointer (some ⟨ob,0,none⟩)],.agg #[Av0,Av1,Av2,Av3,Av4,Av5,Av6],x42,.func (.func 47) #[] #[.pointer (some ⟨ob,0,none⟩)],.agg #[Bv0,Bv1,Bv2,Bv3,Bv4,Bv5,Bv6],x45,x46,u47,u48,u49,u50,u51,u52,u53,u54,u55,u56,u57,u58,u59,u60,u61,u62,u63,u64,u65,u66,u67,u68,u69,u70,u71,u72,u73,u74,u75,u76,u77,u78,u79,u80,u81,u82,u83,u84,u85,u86,u87,u88,u89,u90,u91,u92,u93,u94,u95,u96,u97,u98,u99,u100,u101,u102,u103,u104,u105,u106,u107,u108,u109,u110,u111,u112,u113,u114,u115,u116,u117,u118,u119,u120,u121,u122,u123,u124,u125,u126],[]⟩:=⟨_,rfl⟩;obtain ⟨zW0,zWe0⟩:∃ zW:Nat→Bool→Bool→Act→World→Prop,zW=fun n p0 p1 a W=>wpAnyH Tryz.prog .any lraOps Q (fun W=>Okm bo B W) n #[true,true,true,true,false,false,true,true,true,false,true,true,false,false,p0,p1,false,false] a W:=⟨_,rfl⟩;obtain ⟨zW1,zWe1⟩:∃ zW:Nat→Bool→Bool→Act→World→Prop,zW=fun n p0 p1 a W=>wpAnyH Tryz.prog .any lraOps Q (fun W=>Okm bo B W) n #[true,true,true,true,true,false,true,true,true,false,true,true,false,false,p0,p1,false,false] a W:=⟨_,rfl⟩;obtain ⟨zW2,zWe2⟩:∃ zW:Nat→Bool→Bool→Act→World→Prop,zW=fun n p0 p1 a W=>wpAnyH Tryz.prog .any lraOps Q (fun W=>Okm bo B W) n #[true,true,true,true,true,true,true,true,true,false,true,true,false,false,p0,p1,false,false] a W:=⟨_,rfl⟩;obtain ⟨zW3,zWe3⟩:∃ zW:Nat→Bool→Bool→Act→World→Prop,zW=fun n p0 p1 a W=>wpAnyH Tryz.prog .any lraOps Q (fun W=>Okm bo B W) n #[true,true,true,true,true,true,true,true,true,true,true,true,false,false,p0,p1,false,false] a W:=⟨_,rfl⟩;obtain ⟨zW4,zWe4⟩:∃ zW:Nat→Bool→Bool→Act→World→Prop,zW=fun n p0 p1 a W=>wpAnyH Tryz.prog .any lraOps Q (fun W=>Okm bo B W) n #[true,true,true,true,true,true,true,true,true,true,true,true,true,false,p0,p1,false,false] a W:=⟨_,rfl⟩;obtain ⟨zW5,zWe5⟩:∃ zW:Nat→Bool→Bool→Act→World→Prop,zW=fun n p0 p1 a W=>wpAnyH Tryz.prog .any lraOps Q (fun W=>Okm bo B W) n #[true,true,true,true,true,true,true,true,true,true,true,true,true,true,p0,p1,false,false] a W:=⟨_,rfl⟩
 obtain ⟨zG1,zGe1⟩:∃ zG:Value→Value→Value→Value,zG=fun a b l=>.agg #[.int .i64 R1.1.P,a,.int .i64 R1.1.Q,b,.int .i64 R1.1.a,.int .i64 R1.1.b,l]:=⟨_,rfl⟩;obtain ⟨zG2,zGe2⟩:∃ zG:Value→Value→Value→Value,zG=fun a b l=>.agg #[.int .i64 R2.1.P,a,.int .i64 R2.1.Q,b,.int .i64 R2.1.a,.int .i64 R2.1.b,l]:=⟨_,rfl⟩;obtain ⟨zG3,zGe3⟩:∃ zG:Value→Value→Value→Value,zG=fun a b l=>.agg #[.int .i64 R3.1.P,a,.int .i64 R3.1.Q,b,.int .i64 R3.1.a,.int .i64 R3.1.b,l]:=⟨_,rfl⟩;obtain ⟨zG4,zGe4⟩:∃ zG:Value→Value→Value→Value,zG=fun a b l=>.agg #[.int .i64 R4.1.P,a,.int .i64 R4.1.Q,b,.int .i64 R4.1.a,.int .i64 R4.1.b,l]:=⟨_,rfl⟩;obtain ⟨zG5,zGe5⟩:∃ zG:Value→Value→Value→Value,zG=fun a b l=>.agg #[.int .i64 R5.1.P,a,.int .i64 R5.1.Q,b,.int .i64 R5.1.a,.int .i64 R5.1.b,l]:=⟨_,rfl⟩;obtain ⟨zP,zPe⟩:∃ zP:Nat→Value,zP=fun n=>.pointer (some ⟨n,0,none⟩):=⟨_,rfl⟩;have hF:∀ ⦃a2 b2 l2 a5 b5 l5 v37 v42 v45:Value⦄ ⦃N0b N1b:Nat⦄ ⦃W:World⦄,Lgs bo B W (k0&&R1.2==0&&R2.2==0&&R3.2==0&&R4.2==0&&R5.2==0) [some N0b,some N1b]→SS3 W R2.1 a2 b2 l2→SS3 W R5.1 a5 b5 l5→zW5 2 true true (zT v37 (zG2 a2 b2 l2) v42 v45 (zG5 a5 b5 l5) (zP N0b) (zP N1b)) W:=by
  subst_vars;try dsimp only
  intro a2 b2 l2 a5 b5 l5 v37 v42 v45 N0b N1b W G S2 S5;obtain ⟨oa2,ca2,rfl⟩:=prs_shape S2.a;obtain ⟨ob2,cb2,rfl⟩:=prs_shape S2.b;obtain ⟨ol2,cl2,rfl⟩:=prs_shape S2.l;obtain ⟨oa5,ca5,rfl⟩:=prs_shape S5.a;obtain ⟨ob5,cb5,rfl⟩:=prs_shape S5.b;obtain ⟨ol5,cl5,rfl⟩:=prs_shape S5.l;have hS:=G.s;have KO:=G.k;have N0:=G.f 0 _ rfl;have N1:=G.f 1 _ rfl;have D01:N0b≠N1b:=fun e=>by have:=G.d 0 1 N0b rfl (by rw [e];rfl);omega
  clear G;refine wpAnyH_ready (rs:=[16]) (by kernel_rfl) (by simp) ?_;refine AllReadyH.cons lraq16 (fun K hK=>?_) AllReadyH.nil;refine N0.o.k7 fun aa ac ad ae af ag ah ai aj ak al am an ao ap=>?_;clear ap;go_simp;clear aa ac ad ae af ag ah ai aj ak al am an ao;replace hS:=hS.far7 N0.le (.int .i64 R2.1.P) (.slice oa2 R2.1.A.length ca2) (.int .i64 R2.1.Q) (.slice ob2 R2.1.B.length cb2) (.int .i64 R2.1.a) (.int .i64 R2.1.b) (.slice ol2 R2.1.L.length cl2);replace KO:=KO.ne7 (show bo≠N0b by have:=N0.le;omega) (.int .i64 R2.1.P) (.slice oa2 R2.1.A.length ca2) (.int .i64 R2.1.Q) (.slice ob2 R2.1.B.length cb2) (.int .i64 R2.1.a) (.int .i64 R2.1.b) (.slice ol2 R2.1.L.length cl2);replace S2:=S2.stray TL2.out N0.o (.int .i64 R2.1.P) (.slice oa2 R2.1.A.length ca2) (.int .i64 R2.1.Q) (.slice ob2 R2.1.B.length cb2) (.int .i64 R2.1.a) (.int .i64 R2.1.b) (.slice ol2 R2.1.L.length cl2);replace S5:=S5.stray TL5.out N0.o (.int .i64 R2.1.P) (.slice oa2 R2.1.A.length ca2) (.int .i64 R2.1.Q) (.slice ob2 R2.1.B.length cb2) (.int .i64 R2.1.a) (.int .i64 R2.1.b) (.slice ol2 R2.1.L.length cl2);have F0:=N0.o.put7 (.int .i64 R2.1.P) (.slice oa2 R2.1.A.length ca2) (.int .i64 R2.1.Q) (.slice ob2 R2.1.B.length cb2) (.int .i64 R2.1.a) (.int .i64 R2.1.b) (.slice ol2 R2.1.L.length cl2);have L0:=N0.le;replace N1:=N1.ne7 D01.symm (.int .i64 R2.1.P) (.slice oa2 R2.1.A.length ca2) (.int .i64 R2.1.Q) (.slice ob2 R2.1.B.length cb2) (.int .i64 R2.1.a) (.int .i64 R2.1.b) (.slice ol2 R2.1.L.length cl2);clear N0;refine hK.out _ _ hS (fun _=>?_);clear hK K;(try simp only [Act.put,zls,zl0,zl1]);generalize (((((((W.setCell ⟨N0b,0,none⟩ (.int .i64 R2.1.P)).setCell ⟨N0b,1,none⟩ (.slice oa2 R2.1.A.length ca2)).setCell ⟨N0b,2,none⟩ (.int .i64 R2.1.Q)).setCell ⟨N0b,3,none⟩ (.slice ob2 R2.1.B.length cb2)).setCell ⟨N0b,4,none⟩ (.int .i64 R2.1.a)).setCell ⟨N0b,5,none⟩ (.int .i64 R2.1.b)).setCell ⟨N0b,6,none⟩ (.slice ol2 R2.1.L.length cl2))=W1 at *;refine wpAnyH_ready (rs:=[17]) (by kernel_rfl) (by simp) ?_;refine AllReadyH.cons lraq17 (fun K hK=>?_) AllReadyH.nil;refine N1.o.k7 fun aa ac ad ae af ag ah ai aj ak al am an ao ap=>?_;clear ap;go_simp;clear aa ac ad ae af ag ah ai aj ak al am an ao;replace hS:=hS.far7 N1.le (.int .i64 R5.1.P) (.slice oa5 R5.1.A.length ca5) (.int .i64 R5.1.Q) (.slice ob5 R5.1.B.length cb5) (.int .i64 R5.1.a) (.int .i64 R5.1.b) (.slice ol5 R5.1.L.length cl5);replace KO:=KO.ne7 (show bo≠N1b by have:=N1.le;omega) (.int .i64 R5.1.P) (.slice oa5 R5.1.A.length ca5) (.int .i64 R5.1.Q) (.slice ob5 R5.1.B.length cb5) (.int .i64 R5.1.a) (.int .i64 R5.1.b) (.slice ol5 R5.1.L.length cl5);replace S2:=S2.stray TL2.out N1.o (.int .i64 R5.1.P) (.slice oa5 R5.1.A.length ca5) (.int .i64 R5.1.Q) (.slice ob5 R5.1.B.length cb5) (.int .i64 R5.1.a) (.int .i64 R5.1.b) (.slice ol5 R5.1.L.length cl5);replace S5:=S5.stray TL5.out N1.o (.int .i64 R5.1.P) (.slice oa5 R5.1.A.length ca5) (.int .i64 R5.1.Q) (.slice ob5 R5.1.B.length cb5) (.int .i64 R5.1.a) (.int .i64 R5.1.b) (.slice ol5 R5.1.L.length cl5)
  replace F0:=F0.ne7 D01 (.int .i64 R5.1.P) (.slice oa5 R5.1.A.length ca5) (.int .i64 R5.1.Q) (.slice ob5 R5.1.B.length cb5) (.int .i64 R5.1.a) (.int .i64 R5.1.b) (.slice ol5 R5.1.L.length cl5);have F1:=N1.o.put7 (.int .i64 R5.1.P) (.slice oa5 R5.1.A.length ca5) (.int .i64 R5.1.Q) (.slice ob5 R5.1.B.length cb5) (.int .i64 R5.1.a) (.int .i64 R5.1.b) (.slice ol5 R5.1.L.length cl5);have L1:=N1.le;clear N1;refine hK.out _ _ hS (fun _=>?_);clear hK K;(try simp only [Act.put,zls,zl0,zl1]);generalize (((((((W1.setCell ⟨N1b,0,none⟩ (.int .i64 R5.1.P)).setCell ⟨N1b,1,none⟩ (.slice oa5 R5.1.A.length ca5)).setCell ⟨N1b,2,none⟩ (.int .i64 R5.1.Q)).setCell ⟨N1b,3,none⟩ (.slice ob5 R5.1.B.length cb5)).setCell ⟨N1b,4,none⟩ (.int .i64 R5.1.a)).setCell ⟨N1b,5,none⟩ (.int .i64 R5.1.b)).setCell ⟨N1b,6,none⟩ (.slice ol5 R5.1.L.length cl5))=W2 at *;refine wpAnyH_done (by kernel_rfl) ?_ _;exact fin.out _ _ _ _ _ _ _ _ _ N0b N1b _ hS KO F0 F1 S2 S5 L0 L1
 replace hF:=zh hF;have h5:∀ (n:Nat) ⦃a2 b2 l2 a5 b5 l5 v37 v42 v45:Value⦄ ⦃p0 p1:Option Nat⦄ ⦃W:World⦄,n=2+zc p0+zc p1→Lgs bo B W (k0&&R1.2==0&&R2.2==0&&R3.2==0&&R4.2==0&&R5.2==0) [p0,p1]→SS3 W R2.1 a2 b2 l2→SS3 W R5.1 a5 b5 l5→zW5 n p0.isSome p1.isSome (zT v37 (zG2 a2 b2 l2) v42 v45 (zG5 a5 b5 l5) (zO u12 p0) (zO u13 p1)) W:=by
  subst_vars
  intro n;refine Nat.strongRecOn n (fun n ih=>?_);replace ih:=zh ih;intro a2 b2 l2 a5 b5 l5 v37 v42 v45 p0 p1 W e G S2 S5;obtain ⟨rs,hrs⟩:∃ rs,rs=[]++zR 14 p0++zR 15 p1:=⟨_,rfl⟩
  rcases p0 with _ | N0b <;> rcases p1 with _ | N1b
  all_goals (simp only [zc,Nat.reduceAdd] at e;subst e;dsimp only [zO,Option.isSome];dsimp only [zR,List.cons_append,List.nil_append,List.append_nil] at hrs)
  all_goals try (have g0:=N0b;have g1:=N1b;clear g0 g1;exact hF.out G S2 S5)
  all_goals (refine wpAnyH_ready (rs:=rs) (by subst hrs;kernel_rfl) (by subst hrs;simp) ?_;subst hrs)
  all_goals try ((fail_if_success have g9:=N0b);refine AllReadyH.cons lraq14 (fun K hK=>by
                        go_simp;refine hK.out _ _ (G.a 26) (fun _=>?_);(try simp only [Act.put,zls,zl0,zl1]);have q9:=ih.out _ (Nat.lt_succ_self _) (v37:=v37) (v42:=v42) (v45:=v45) (by rfl) (G.n lb 0 26) (G.m 26 S2) (G.m 26 S5)
                        dsimp only [zO,Option.isSome] at q9
                        exact q9) ?_)
  all_goals try ((fail_if_success have g9:=N1b);refine AllReadyH.cons lraq15 (fun K hK=>by
                        go_simp;refine hK.out _ _ (G.a 26) (fun _=>?_);(try simp only [Act.put,zls,zl0,zl1]);have q9:=ih.out _ (Nat.lt_succ_self _) (v37:=v37) (v42:=v42) (v45:=v45) (by rfl) (G.n lb 1 26) (G.m 26 S2) (G.m 26 S5)
                        dsimp only [zO,Option.isSome] at q9
                        exact q9) ?_)
  all_goals exact AllReadyH.nil
 replace h5:=zh h5;have h4:∀ (n:Nat) ⦃a2 b2 l2 a3 b3 l3 a4 b4 l4 v37:Value⦄ ⦃p0 p1:Option Nat⦄ ⦃W:World⦄,n=3+zc p0+zc p1→Lgs bo B W (k0&&R1.2==0&&R2.2==0&&R3.2==0&&R4.2==0) [p0,p1]→SS3 W R2.1 a2 b2 l2→SS3 W R3.1 a3 b3 l3→SS3 W R4.1 a4 b4 l4→zW4 n p0.isSome p1.isSome (zT v37 (zG2 a2 b2 l2) (zG3 a3 b3 l3) (zG4 a4 b4 l4) u46 (zO u12 p0) (zO u13 p1)) W:=by
  subst_vars
  intro n;refine Nat.strongRecOn n (fun n ih=>?_);replace ih:=zh ih;intro a2 b2 l2 a3 b3 l3 a4 b4 l4 v37 p0 p1 W e G S2 S3 S4;obtain ⟨rs,hrs⟩:∃ rs,rs=[13]++zR 14 p0++zR 15 p1:=⟨_,rfl⟩
  rcases p0 with _ | N0b <;> rcases p1 with _ | N1b
  all_goals (simp only [zc,Nat.reduceAdd] at e;subst e;dsimp only [zO,Option.isSome];dsimp only [zR,List.cons_append,List.nil_append,List.append_nil] at hrs)
  all_goals (refine wpAnyH_ready (rs:=rs) (by subst hrs;kernel_rfl) (by subst hrs;simp) ?_;subst hrs)
  all_goals refine AllReadyH.cons lraq13 (fun K hK=>by
    go_simp;go_at_call 49;refine ((C4.out _ _ _ _ _ _ _ _ G.s S3 S4 G.k).mono ?_);rintro e W' ⟨⟨a5,b5,l5,rfl,ss⟩,hk,ko⟩;refine hK.out _ _ (G.s.trans hk) (fun hS'=>?_);(try simp only [Act.put,zls,zl0,zl1]);have q9:=h5.out _ (v37:=v37) (v42:=.agg #[.int .i64 R3.1.P,a3,.int .i64 R3.1.Q,b3,.int .i64 R3.1.a,.int .i64 R3.1.b,l3]) (v45:=.agg #[.int .i64 R4.1.P,a4,.int .i64 R4.1.Q,b4,.int .i64 R4.1.a,.int .i64 R4.1.b,l4]) rfl (G.c hk ko lb) (G.t hk S2) ss
    dsimp only [zc,zO,Option.isSome,Nat.reduceAdd] at q9
    exact q9) ?_
  all_goals try ((fail_if_success have g9:=N0b);refine AllReadyH.cons lraq14 (fun K hK=>by
                        go_simp;refine hK.out _ _ (G.a 26) (fun _=>?_);(try simp only [Act.put,zls,zl0,zl1]);have q9:=ih.out _ (Nat.lt_succ_self _) (v37:=v37) (by rfl) (G.n lb 0 26) (G.m 26 S2) (G.m 26 S3) (G.m 26 S4)
                        dsimp only [zO,Option.isSome] at q9
                        exact q9) ?_)
  all_goals try ((fail_if_success have g9:=N1b);refine AllReadyH.cons lraq15 (fun K hK=>by
                        go_simp;refine hK.out _ _ (G.a 26) (fun _=>?_);(try simp only [Act.put,zls,zl0,zl1]);have q9:=ih.out _ (Nat.lt_succ_self _) (v37:=v37) (by rfl) (G.n lb 1 26) (G.m 26 S2) (G.m 26 S3) (G.m 26 S4)
                        dsimp only [zO,Option.isSome] at q9
                        exact q9) ?_)
  all_goals exact AllReadyH.nil
 replace h4:=zh h4;have h3:∀ (n:Nat) ⦃a2 b2 l2 a3 b3 l3 v37:Value⦄ ⦃p0 p1:Option Nat⦄ ⦃W:World⦄,n=4+zc p0+zc p1→Lgs bo B W (k0&&R1.2==0&&R2.2==0&&R3.2==0) [p0,p1]→SS3 W R2.1 a2 b2 l2→SS3 W R3.1 a3 b3 l3→zW3 n p0.isSome p1.isSome (zT v37 (zG2 a2 b2 l2) (zG3 a3 b3 l3) u45 u46 (zO u12 p0) (zO u13 p1)) W:=by
  subst_vars
  intro n;refine Nat.strongRecOn n (fun n ih=>?_);replace ih:=zh ih;intro a2 b2 l2 a3 b3 l3 v37 p0 p1 W e G S2 S3;obtain ⟨rs,hrs⟩:∃ rs,rs=[12]++zR 14 p0++zR 15 p1:=⟨_,rfl⟩
  rcases p0 with _ | N0b <;> rcases p1 with _ | N1b
  all_goals (simp only [zc,Nat.reduceAdd] at e;subst e;dsimp only [zO,Option.isSome];dsimp only [zR,List.cons_append,List.nil_append,List.append_nil] at hrs)
  all_goals (refine wpAnyH_ready (rs:=rs) (by subst hrs;kernel_rfl) (by subst hrs;simp) ?_;subst hrs)
  all_goals refine AllReadyH.cons lraq12 (fun K hK=>by
    go_simp;go_at_call 47;refine ((C3.out _ _ G.s G.k).mono ?_);rintro e W' ⟨⟨a4,b4,l4,rfl,ss⟩,hk,ko⟩;refine hK.out _ _ (G.s.trans hk) (fun hS'=>?_);(try simp only [Act.put,zls,zl0,zl1]);have q9:=h4.out _ (v37:=v37) rfl (G.c hk ko lb) (G.t hk S2) (G.t hk S3) ss
    dsimp only [zc,zO,Option.isSome,Nat.reduceAdd] at q9
    exact q9) ?_
  all_goals try ((fail_if_success have g9:=N0b);refine AllReadyH.cons lraq14 (fun K hK=>by
                        go_simp;refine hK.out _ _ (G.a 26) (fun _=>?_);(try simp only [Act.put,zls,zl0,zl1]);have q9:=ih.out _ (Nat.lt_succ_self _) (v37:=v37) (by rfl) (G.n lb 0 26) (G.m 26 S2) (G.m 26 S3)
                        dsimp only [zO,Option.isSome] at q9
                        exact q9) ?_)
  all_goals try ((fail_if_success have g9:=N1b);refine AllReadyH.cons lraq15 (fun K hK=>by
                        go_simp;refine hK.out _ _ (G.a 26) (fun _=>?_);(try simp only [Act.put,zls,zl0,zl1]);have q9:=ih.out _ (Nat.lt_succ_self _) (v37:=v37) (by rfl) (G.n lb 1 26) (G.m 26 S2) (G.m 26 S3)
                        dsimp only [zO,Option.isSome] at q9
                        exact q9) ?_)
  all_goals exact AllReadyH.nil
 replace h3:=zh h3;have h2:∀ (n:Nat) ⦃a2 b2 l2 v37:Value⦄ ⦃p0 p1:Option Nat⦄ ⦃W:World⦄,n=5+zc p0+zc p1→Lgs bo B W (k0&&R1.2==0&&R2.2==0) [p0,p1]→SS3 W R2.1 a2 b2 l2→zW2 n p0.isSome p1.isSome (zT v37 (zG2 a2 b2 l2) u42 u45 u46 (zO u12 p0) (zO u13 p1)) W:=by
  subst_vars
  intro n;refine Nat.strongRecOn n (fun n ih=>?_);replace ih:=zh ih;intro a2 b2 l2 v37 p0 p1 W e G S2;obtain ⟨rs,hrs⟩:∃ rs,rs=[9]++zR 14 p0++zR 15 p1:=⟨_,rfl⟩
  rcases p0 with _ | N0b <;> rcases p1 with _ | N1b
  all_goals (simp only [zc,Nat.reduceAdd] at e;subst e;dsimp only [zO,Option.isSome];dsimp only [zR,List.cons_append,List.nil_append,List.append_nil] at hrs)
  all_goals (refine wpAnyH_ready (rs:=rs) (by subst hrs;kernel_rfl) (by subst hrs;simp) ?_;subst hrs)
  all_goals refine AllReadyH.cons lraq9 (fun K hK=>by
    go_simp;go_at_call 47;refine ((C2.out _ _ G.s G.k).mono ?_);rintro e W' ⟨⟨a3,b3,l3,rfl,ss⟩,hk,ko⟩;refine hK.out _ _ (G.s.trans hk) (fun hS'=>?_);(try simp only [Act.put,zls,zl0,zl1]);have q9:=h3.out _ (v37:=v37) rfl (G.c hk ko lb) (G.t hk S2) ss
    dsimp only [zc,zO,Option.isSome,Nat.reduceAdd] at q9
    exact q9) ?_
  all_goals try ((fail_if_success have g9:=N0b);refine AllReadyH.cons lraq14 (fun K hK=>by
                        go_simp;refine hK.out _ _ (G.a 26) (fun _=>?_);(try simp only [Act.put,zls,zl0,zl1]);have q9:=ih.out _ (Nat.lt_succ_self _) (v37:=v37) (by rfl) (G.n lb 0 26) (G.m 26 S2)
                        dsimp only [zO,Option.isSome] at q9
                        exact q9) ?_)
  all_goals try ((fail_if_success have g9:=N1b);refine AllReadyH.cons lraq15 (fun K hK=>by
                        go_simp;refine hK.out _ _ (G.a 26) (fun _=>?_);(try simp only [Act.put,zls,zl0,zl1]);have q9:=ih.out _ (Nat.lt_succ_self _) (v37:=v37) (by rfl) (G.n lb 1 26) (G.m 26 S2)
                        dsimp only [zO,Option.isSome] at q9
                        exact q9) ?_)
  all_goals exact AllReadyH.nil
 replace h2:=zh h2;have h1:∀ (n:Nat) ⦃a1 b1 l1:Value⦄ ⦃p0 p1:Option Nat⦄ ⦃W:World⦄,n=6+zc p0+zc p1→Lgs bo B W (k0&&R1.2==0) [p0,p1]→SS3 W R1.1 a1 b1 l1→zW1 n p0.isSome p1.isSome (zT (zG1 a1 b1 l1) u38 u42 u45 u46 (zO u12 p0) (zO u13 p1)) W:=by
  subst_vars
  intro n;refine Nat.strongRecOn n (fun n ih=>?_);replace ih:=zh ih;intro a1 b1 l1 p0 p1 W e G S1;obtain ⟨rs,hrs⟩:∃ rs,rs=[5]++zR 14 p0++zR 15 p1:=⟨_,rfl⟩
  rcases p0 with _ | N0b <;> rcases p1 with _ | N1b
  all_goals (simp only [zc,Nat.reduceAdd] at e;subst e;dsimp only [zO,Option.isSome];dsimp only [zR,List.cons_append,List.nil_append,List.append_nil] at hrs)
  all_goals (refine wpAnyH_ready (rs:=rs) (by subst hrs;kernel_rfl) (by subst hrs;simp) ?_;subst hrs)
  all_goals refine AllReadyH.cons lraq5 (fun K hK=>by
    go_simp;go_at_call 47;refine ((C1.out _ _ _ _ _ G.s S1 G.k).mono ?_);rintro e W' ⟨⟨a2,b2,l2,rfl,ss⟩,hk,ko⟩;refine hK.out _ _ (G.s.trans hk) (fun hS'=>?_);(try simp only [Act.put,zls,zl0,zl1]);have q9:=h2.out _ (v37:=.agg #[.int .i64 R1.1.P,a1,.int .i64 R1.1.Q,b1,.int .i64 R1.1.a,.int .i64 R1.1.b,l1]) rfl (G.c hk ko lb)  ss
    dsimp only [zc,zO,Option.isSome,Nat.reduceAdd] at q9
    exact q9) ?_
  all_goals try ((fail_if_success have g9:=N0b);refine AllReadyH.cons lraq14 (fun K hK=>by
                        go_simp;refine hK.out _ _ (G.a 26) (fun _=>?_);(try simp only [Act.put,zls,zl0,zl1]);have q9:=ih.out _ (Nat.lt_succ_self _) (by rfl) (G.n lb 0 26) (G.m 26 S1)
                        dsimp only [zO,Option.isSome] at q9
                        exact q9) ?_)
  all_goals try ((fail_if_success have g9:=N1b);refine AllReadyH.cons lraq15 (fun K hK=>by
                        go_simp;refine hK.out _ _ (G.a 26) (fun _=>?_);(try simp only [Act.put,zls,zl0,zl1]);have q9:=ih.out _ (Nat.lt_succ_self _) (by rfl) (G.n lb 1 26) (G.m 26 S1)
                        dsimp only [zO,Option.isSome] at q9
                        exact q9) ?_)
  all_goals exact AllReadyH.nil
 replace h1:=zh h1;have h0:∀ (n:Nat) ⦃p0 p1:Option Nat⦄ ⦃W:World⦄,n=7+zc p0+zc p1→Lgs bo B W (k0) [p0,p1]→zW0 n p0.isSome p1.isSome (zT u37 u38 u42 u45 u46 (zO u12 p0) (zO u13 p1)) W:=by
  subst_vars
  intro n;refine Nat.strongRecOn n (fun n ih=>?_);replace ih:=zh ih;intro p0 p1 W e G;obtain ⟨rs,hrs⟩:∃ rs,rs=[4]++zR 14 p0++zR 15 p1:=⟨_,rfl⟩
  rcases p0 with _ | N0b <;> rcases p1 with _ | N1b
  all_goals (simp only [zc,Nat.reduceAdd] at e;subst e;dsimp only [zO,Option.isSome];dsimp only [zR,List.cons_append,List.nil_append,List.append_nil] at hrs)
  all_goals (refine wpAnyH_ready (rs:=rs) (by subst hrs;kernel_rfl) (by subst hrs;simp) ?_;subst hrs)
  all_goals refine AllReadyH.cons lraq4 (fun K hK=>by
    go_simp;go_at_call 48;refine ((C0.out _ _ G.s G.k).mono ?_);rintro e W' ⟨⟨a1,b1,l1,rfl,ss⟩,hk,ko⟩;refine hK.out _ _ (G.s.trans hk) (fun hS'=>?_);(try simp only [Act.put,zls,zl0,zl1]);have q9:=h1.out _ rfl (G.c hk ko lb)  ss
    dsimp only [zc,zO,Option.isSome,Nat.reduceAdd] at q9
    exact q9) ?_
  all_goals try ((fail_if_success have g9:=N0b);refine AllReadyH.cons lraq14 (fun K hK=>by
                        go_simp;refine hK.out _ _ (G.a 26) (fun _=>?_);(try simp only [Act.put,zls,zl0,zl1]);have q9:=ih.out _ (Nat.lt_succ_self _) (by rfl) (G.n lb 0 26)
                        dsimp only [zO,Option.isSome] at q9
                        exact q9) ?_)
  all_goals try ((fail_if_success have g9:=N1b);refine AllReadyH.cons lraq15 (fun K hK=>by
                        go_simp;refine hK.out _ _ (G.a 26) (fun _=>?_);(try simp only [Act.put,zls,zl0,zl1]);have q9:=ih.out _ (Nat.lt_succ_self _) (by rfl) (G.n lb 1 26)
                        dsimp only [zO,Option.isSome] at q9
                        exact q9) ?_)
  all_goals exact AllReadyH.nil
 replace h0:=zh h0;refine wp_region_held_drew (S:=(fun W=>Okm bo B W)) (by kernel_rfl) (hS0.trans (Okm.of bo (here w0).drew)) (fun hS=>?_);replace K0:=K0.keep (here w0).drew;generalize w0.drew=W0 at *;have s0:=h0;clear h0 h1 h2 h3 h4 h5 hF;subst zTe zPe zWe0 zWe1 zWe2 zWe3 zWe4 zWe5 zGe1 zGe2 zGe3 zGe4 zGe5;refine wpAnyH_take (i:=0) (v:=.func (.func 47) #[] #[.pointer (some ⟨ob,0,none⟩)]) lraq0 (by kernel_rfl) (by kernel_rfl) (by kernel_rfl) (fun _ _ _ h=>hQ _ _ _ _ _ h) (Or.inl ⟨by rfl,?_⟩) hS ?_
 ·clear s0 hQ;intro w hSw;clear hSw;go_simp
 (try simp only [Act.put,zls,zl0,zl1]);refine wpAnyH_take (i:=1) (v:=.func (.func 48) #[] #[.pointer (some ⟨ob,0,none⟩)]) lraq1 (by kernel_rfl) (by kernel_rfl) (by kernel_rfl) (fun _ _ _ h=>hQ _ _ _ _ _ h) (Or.inl ⟨by rfl,?_⟩) hS ?_
 ·clear s0 hQ;intro w hSw;clear hSw;go_simp
 (try simp only [Act.put,zls,zl0,zl1]);refine wpAnyH_take (i:=2) (v:=.agg #[Av0,Av1,Av2,Av3,Av4,Av5,Av6]) lraq2 (by kernel_rfl) (by kernel_rfl) (by kernel_rfl) (fun _ _ _ h=>hQ _ _ _ _ _ h) (Or.inl ⟨by rfl,?_⟩) hS ?_
 ·clear s0 hQ;intro w hSw;obtain ⟨z0,z1,z2,z3,z4,z5,z6⟩:=(HA.okm hSw nA).y7;clear hSw;go_simp
 (try simp only [Act.put,zls,zl0,zl1]);refine wpAnyH_take (i:=3) (v:=.agg #[Bv0,Bv1,Bv2,Bv3,Bv4,Bv5,Bv6]) lraq3 (by kernel_rfl) (by kernel_rfl) (by kernel_rfl) (fun _ _ _ h=>hQ _ _ _ _ _ h) (Or.inl ⟨by rfl,?_⟩) hS ?_
 ·clear s0 hQ;intro w hSw;obtain ⟨z0,z1,z2,z3,z4,z5,z6⟩:=(HB.okm hSw nB).y7;clear hSw;go_simp
 (try simp only [Act.put,zls,zl0,zl1]);refine wpAnyH_take (i:=6) (v:=.func (.func 49) #[] #[.pointer (some ⟨ob,0,none⟩)]) lraq6 (by kernel_rfl) (by kernel_rfl) (by kernel_rfl) (fun _ _ _ h=>hQ _ _ _ _ _ h) (Or.inl ⟨by rfl,?_⟩) hS ?_
 ·clear s0 hQ;intro w hSw;clear hSw;go_simp
 (try simp only [Act.put,zls,zl0,zl1]);refine wpAnyH_take (i:=7) (v:=.func (.func 47) #[] #[.pointer (some ⟨ob,0,none⟩)]) lraq7 (by kernel_rfl) (by kernel_rfl) (by kernel_rfl) (fun _ _ _ h=>hQ _ _ _ _ _ h) (Or.inl ⟨by rfl,?_⟩) hS ?_
 ·clear s0 hQ;intro w hSw;clear hSw;go_simp
 (try simp only [Act.put,zls,zl0,zl1]);refine wpAnyH_take (i:=8) (v:=.agg #[Av0,Av1,Av2,Av3,Av4,Av5,Av6]) lraq8 (by kernel_rfl) (by kernel_rfl) (by kernel_rfl) (fun _ _ _ h=>hQ _ _ _ _ _ h) (Or.inl ⟨by rfl,?_⟩) hS ?_
 ·clear s0 hQ;intro w hSw;obtain ⟨z0,z1,z2,z3,z4,z5,z6⟩:=(HA.okm hSw nA).y7;clear hSw;go_simp
 (try simp only [Act.put,zls,zl0,zl1]);refine wpAnyH_take (i:=10) (v:=.func (.func 47) #[] #[.pointer (some ⟨ob,0,none⟩)]) lraq10 (by kernel_rfl) (by kernel_rfl) (by kernel_rfl) (fun _ _ _ h=>hQ _ _ _ _ _ h) (Or.inl ⟨by rfl,?_⟩) hS ?_
 ·clear s0 hQ;intro w hSw;clear hSw;go_simp
 (try simp only [Act.put,zls,zl0,zl1]);refine wpAnyH_take (i:=11) (v:=.agg #[Bv0,Bv1,Bv2,Bv3,Bv4,Bv5,Bv6]) lraq11 (by kernel_rfl) (by kernel_rfl) (by kernel_rfl) (fun _ _ _ h=>hQ _ _ _ _ _ h) (Or.inl ⟨by rfl,?_⟩) hS ?_
 ·clear s0 hQ;intro w hSw;obtain ⟨z0,z1,z2,z3,z4,z5,z6⟩:=(HB.okm hSw nB).y7;clear hSw;go_simp
 (try simp only [Act.put,zls,zl0,zl1]);have g0:Lgs bo B W0 k0 [none,none]:=⟨hS,K0,fun i b e=>by rcases i with _ | _ | i <;> simp at e,fun i j b e=>by rcases i with _ | _ | i <;> simp at e⟩;exact s0.out _ rfl g0
end Go.Proofs.YtmamlgaogpkagaaGreat
