/- Law 14: SetLogic: region 12. -/
import Derived.Test.YtmamlgaogpkagaaGreatZK
import Derived.Test.YtmamlgaogpkagaaGreatQTvLa
import Derived.Test.YtmamlgaogpkagaaGreatQTvNa
import Derived.Test.YtmamlgaogpkagaaGreatQTvPb
import Derived.Test.YtmamlgaogpkagaaGreatQTsCi
import Derived.Test.YtmamlgaogpkagaaGreatQTlCc
import Derived.Test.YtmamlgaogpkagaaGreatQLRd
import Derived.Test.YtmamlgaogpkagaaGreatQTlT
import Derived.Test.YtmamlgaogpkagaaGreatTlU
import Derived.StillTailTactics
import Derived.BigQuiet
import Derived.Deep.QuietTactic
import Derived.Deep.Cut
import Derived.Deep.RegionHeld3
namespace Go.Proofs.YtmamlgaogpkagaaGreat
open Go.RowKit
set_option linter.unusedVariables false
set_option linter.unusedSimpArgs false
def lrcOps:Array Oper:=#[
 { dst:=some 64,op:=Go.Op.load 61 (Go.Operand.tmp 8),type:=61,pos := "law.go:189",after:=#[],guard:=none },
 { dst:=some 65,op:=Go.Op.load 26 (Go.Operand.tmp 3),type:=26,pos := "law.go:189",after:=#[],guard:=none },
 { dst:=some 66,op:=Go.Op.load 26 (Go.Operand.tmp 4),type:=26,pos := "law.go:189",after:=#[],guard:=none },
 { dst:=some 67,op:=Go.Op.call { callee:=Go.Callee.value (Go.Operand.func 45),args:=#[Go.Operand.tmp 65,Go.Operand.tmp 66],argTypes:=#[26,26] },type:=31,pos := "law.go:189",after:=#[{ on:=1,ground:=Go.Ground.data },{ on:=2,ground:=Go.Ground.data }],guard:=none },
 { dst:=some 68,op:=Go.Op.extract (Go.Operand.tmp 67) 0,type:=26,pos := "law.go:189",after:=#[{ on:=3,ground:=Go.Ground.data }],guard:=none },
 { dst:=some 69,op:=Go.Op.extract (Go.Operand.tmp 67) 1,type:=30,pos := "law.go:189",after:=#[{ on:=3,ground:=Go.Ground.data }],guard:=none },
 { dst:=some 70,op:=Go.Op.call { callee:=Go.Callee.value (Go.Operand.tmp 64),args:=#[Go.Operand.tmp 68,Go.Operand.tmp 69],argTypes:=#[26,30] },type:=26,pos := "law.go:189",after:=#[{ on:=0,ground:=Go.Ground.data },{ on:=4,ground:=Go.Ground.data },{ on:=5,ground:=Go.Ground.data },{ on:=3,ground:=Go.Ground.chain }],guard:=none },
 { dst:=some 71,op:=Go.Op.move (Go.Operand.tmp 11),type:=63,pos := "law.go:189",after:=#[],guard:=none },
 { dst:=some 72,op:=Go.Op.load 26 (Go.Operand.tmp 3),type:=26,pos := "law.go:189",after:=#[],guard:=none },
 { dst:=some 73,op:=Go.Op.move (Go.Operand.tmp 9),type:=62,pos := "law.go:189",after:=#[],guard:=none },
 { dst:=some 74,op:=Go.Op.load 26 (Go.Operand.tmp 4),type:=26,pos := "law.go:189",after:=#[],guard:=none },
 { dst:=some 75,op:=Go.Op.call { callee:=Go.Callee.value (Go.Operand.tmp 73),args:=#[Go.Operand.tmp 74],argTypes:=#[26] },type:=26,pos := "law.go:189",after:=#[{ on:=9,ground:=Go.Ground.data },{ on:=10,ground:=Go.Ground.data },{ on:=6,ground:=Go.Ground.chain }],guard:=none },
 { dst:=some 76,op:=Go.Op.call { callee:=Go.Callee.value (Go.Operand.tmp 71),args:=#[Go.Operand.tmp 72,Go.Operand.tmp 75],argTypes:=#[26,26] },type:=26,pos := "law.go:189",after:=#[{ on:=7,ground:=Go.Ground.data },{ on:=8,ground:=Go.Ground.data },{ on:=11,ground:=Go.Ground.data },{ on:=11,ground:=Go.Ground.chain }],guard:=none },
 { dst:=some 16,op:=Go.Op.alloc 26,type:=0,pos := "law.go:189",after:=#[],guard:=none },
 { dst:=some 17,op:=Go.Op.alloc 26,type:=0,pos := "law.go:189",after:=#[],guard:=none },
 { dst:=none,op:=Go.Op.store 26 (Go.Operand.tmp 16) (Go.Operand.tmp 70),type:=0,pos := "law.go:189",after:=#[{ on:=13,ground:=Go.Ground.data },{ on:=6,ground:=Go.Ground.data },{ on:=12,ground:=Go.Ground.chain },{ on:=0,ground:=Go.Ground.phase },{ on:=1,ground:=Go.Ground.phase },{ on:=2,ground:=Go.Ground.phase },{ on:=3,ground:=Go.Ground.phase },{ on:=4,ground:=Go.Ground.phase },{ on:=5,ground:=Go.Ground.phase },{ on:=6,ground:=Go.Ground.phase },{ on:=7,ground:=Go.Ground.textOnly Go.Departure.lateStores },{ on:=8,ground:=Go.Ground.textOnly Go.Departure.lateStores },{ on:=9,ground:=Go.Ground.textOnly Go.Departure.lateStores },{ on:=10,ground:=Go.Ground.textOnly Go.Departure.lateStores },{ on:=11,ground:=Go.Ground.textOnly Go.Departure.lateStoresUnsure },{ on:=12,ground:=Go.Ground.textOnly Go.Departure.lateStoresUnsure },{ on:=13,ground:=Go.Ground.phase },{ on:=14,ground:=Go.Ground.phase }],guard:=none },
 { dst:=none,op:=Go.Op.store 26 (Go.Operand.tmp 17) (Go.Operand.tmp 76),type:=0,pos := "law.go:189",after:=#[{ on:=14,ground:=Go.Ground.data },{ on:=12,ground:=Go.Ground.data },{ on:=15,ground:=Go.Ground.chain },{ on:=0,ground:=Go.Ground.phase },{ on:=1,ground:=Go.Ground.phase },{ on:=2,ground:=Go.Ground.phase },{ on:=3,ground:=Go.Ground.phase },{ on:=4,ground:=Go.Ground.phase },{ on:=5,ground:=Go.Ground.phase },{ on:=6,ground:=Go.Ground.phase },{ on:=7,ground:=Go.Ground.phase },{ on:=8,ground:=Go.Ground.phase },{ on:=9,ground:=Go.Ground.phase },{ on:=10,ground:=Go.Ground.phase },{ on:=11,ground:=Go.Ground.phase },{ on:=12,ground:=Go.Ground.phase },{ on:=13,ground:=Go.Ground.phase },{ on:=14,ground:=Go.Ground.phase },{ on:=15,ground:=Go.Ground.phase }],guard:=none }]
theorem lrcq0:lrcOps[0]?=some { dst:=some 64,op:=Go.Op.load 61 (Go.Operand.tmp 8),type:=61,pos := "law.go:189",after:=#[],guard:=none }:=rfl
theorem lrcq1:lrcOps[1]?=some { dst:=some 65,op:=Go.Op.load 26 (Go.Operand.tmp 3),type:=26,pos := "law.go:189",after:=#[],guard:=none }:=rfl
theorem lrcq2:lrcOps[2]?=some { dst:=some 66,op:=Go.Op.load 26 (Go.Operand.tmp 4),type:=26,pos := "law.go:189",after:=#[],guard:=none }:=rfl
theorem lrcq3:lrcOps[3]?=some { dst:=some 67,op:=Go.Op.call { callee:=Go.Callee.value (Go.Operand.func 45),args:=#[Go.Operand.tmp 65,Go.Operand.tmp 66],argTypes:=#[26,26] },type:=31,pos := "law.go:189",after:=#[{ on:=1,ground:=Go.Ground.data },{ on:=2,ground:=Go.Ground.data }],guard:=none }:=rfl
theorem lrcq4:lrcOps[4]?=some { dst:=some 68,op:=Go.Op.extract (Go.Operand.tmp 67) 0,type:=26,pos := "law.go:189",after:=#[{ on:=3,ground:=Go.Ground.data }],guard:=none }:=rfl
theorem lrcq5:lrcOps[5]?=some { dst:=some 69,op:=Go.Op.extract (Go.Operand.tmp 67) 1,type:=30,pos := "law.go:189",after:=#[{ on:=3,ground:=Go.Ground.data }],guard:=none }:=rfl
theorem lrcq6:lrcOps[6]?=some { dst:=some 70,op:=Go.Op.call { callee:=Go.Callee.value (Go.Operand.tmp 64),args:=#[Go.Operand.tmp 68,Go.Operand.tmp 69],argTypes:=#[26,30] },type:=26,pos := "law.go:189",after:=#[{ on:=0,ground:=Go.Ground.data },{ on:=4,ground:=Go.Ground.data },{ on:=5,ground:=Go.Ground.data },{ on:=3,ground:=Go.Ground.chain }],guard:=none }:=rfl
theorem lrcq7:lrcOps[7]?=some { dst:=some 71,op:=Go.Op.move (Go.Operand.tmp 11),type:=63,pos := "law.go:189",after:=#[],guard:=none }:=rfl
theorem lrcq8:lrcOps[8]?=some { dst:=some 72,op:=Go.Op.load 26 (Go.Operand.tmp 3),type:=26,pos := "law.go:189",after:=#[],guard:=none }:=rfl
theorem lrcq9:lrcOps[9]?=some { dst:=some 73,op:=Go.Op.move (Go.Operand.tmp 9),type:=62,pos := "law.go:189",after:=#[],guard:=none }:=rfl
theorem lrcq10:lrcOps[10]?=some { dst:=some 74,op:=Go.Op.load 26 (Go.Operand.tmp 4),type:=26,pos := "law.go:189",after:=#[],guard:=none }:=rfl
theorem lrcq11:lrcOps[11]?=some { dst:=some 75,op:=Go.Op.call { callee:=Go.Callee.value (Go.Operand.tmp 73),args:=#[Go.Operand.tmp 74],argTypes:=#[26] },type:=26,pos := "law.go:189",after:=#[{ on:=9,ground:=Go.Ground.data },{ on:=10,ground:=Go.Ground.data },{ on:=6,ground:=Go.Ground.chain }],guard:=none }:=rfl
theorem lrcq12:lrcOps[12]?=some { dst:=some 76,op:=Go.Op.call { callee:=Go.Callee.value (Go.Operand.tmp 71),args:=#[Go.Operand.tmp 72,Go.Operand.tmp 75],argTypes:=#[26,26] },type:=26,pos := "law.go:189",after:=#[{ on:=7,ground:=Go.Ground.data },{ on:=8,ground:=Go.Ground.data },{ on:=11,ground:=Go.Ground.data },{ on:=11,ground:=Go.Ground.chain }],guard:=none }:=rfl
theorem lrcq13:lrcOps[13]?=some { dst:=some 16,op:=Go.Op.alloc 26,type:=0,pos := "law.go:189",after:=#[],guard:=none }:=rfl
theorem lrcq14:lrcOps[14]?=some { dst:=some 17,op:=Go.Op.alloc 26,type:=0,pos := "law.go:189",after:=#[],guard:=none }:=rfl
theorem lrcq15:lrcOps[15]?=some { dst:=none,op:=Go.Op.store 26 (Go.Operand.tmp 16) (Go.Operand.tmp 70),type:=0,pos := "law.go:189",after:=#[{ on:=13,ground:=Go.Ground.data },{ on:=6,ground:=Go.Ground.data },{ on:=12,ground:=Go.Ground.chain },{ on:=0,ground:=Go.Ground.phase },{ on:=1,ground:=Go.Ground.phase },{ on:=2,ground:=Go.Ground.phase },{ on:=3,ground:=Go.Ground.phase },{ on:=4,ground:=Go.Ground.phase },{ on:=5,ground:=Go.Ground.phase },{ on:=6,ground:=Go.Ground.phase },{ on:=7,ground:=Go.Ground.textOnly Go.Departure.lateStores },{ on:=8,ground:=Go.Ground.textOnly Go.Departure.lateStores },{ on:=9,ground:=Go.Ground.textOnly Go.Departure.lateStores },{ on:=10,ground:=Go.Ground.textOnly Go.Departure.lateStores },{ on:=11,ground:=Go.Ground.textOnly Go.Departure.lateStoresUnsure },{ on:=12,ground:=Go.Ground.textOnly Go.Departure.lateStoresUnsure },{ on:=13,ground:=Go.Ground.phase },{ on:=14,ground:=Go.Ground.phase }],guard:=none }:=rfl
theorem lrcq16:lrcOps[16]?=some { dst:=none,op:=Go.Op.store 26 (Go.Operand.tmp 17) (Go.Operand.tmp 76),type:=0,pos := "law.go:189",after:=#[{ on:=14,ground:=Go.Ground.data },{ on:=12,ground:=Go.Ground.data },{ on:=15,ground:=Go.Ground.chain },{ on:=0,ground:=Go.Ground.phase },{ on:=1,ground:=Go.Ground.phase },{ on:=2,ground:=Go.Ground.phase },{ on:=3,ground:=Go.Ground.phase },{ on:=4,ground:=Go.Ground.phase },{ on:=5,ground:=Go.Ground.phase },{ on:=6,ground:=Go.Ground.phase },{ on:=7,ground:=Go.Ground.phase },{ on:=8,ground:=Go.Ground.phase },{ on:=9,ground:=Go.Ground.phase },{ on:=10,ground:=Go.Ground.phase },{ on:=11,ground:=Go.Ground.phase },{ on:=12,ground:=Go.Ground.phase },{ on:=13,ground:=Go.Ground.phase },{ on:=14,ground:=Go.Ground.phase },{ on:=15,ground:=Go.Ground.phase }],guard:=none }:=rfl
set_option maxRecDepth 100000 in
set_option maxHeartbeats 16000000 in
theorem lrc_region (Q:Exit→Act→World→Prop) {u0 u1 u2 u5 u6 u7 u10 u12 u13 u14 u15 u16 u17 u18 u19 u20 u21 u22 u23 u24 u25 u26 u27 u28 u29 u30 u31 u32 u33 u34 u35 u36 u37 u38 u39 u40 u41 u42 u43 u44 u45 u46 u47 u48 u49 u50 u51 u52 u53 u54 u55 u56 u57 u58 u59 u60 u61 u62 u63 u64 u65 u66 u67 u68 u69 u70 u71 u72 u73 u74 u75 u76 u77 u78 u79 u80 u81 u82 u83 u84 u85 u86 u87 u88 u89 u90 u91 u92 u93 u94 u95 u96 u97 u98 u99 u100 u101 u102 u103 u104 u105 u106 u107 u108 u109 u110 u111 u112 u113 u114 u115 u116 u117 u118 u119 u120 u121 u122 u123 u124 u125 u126 Av0 Av1 Av2 Av3 Av4 Av5 Av6 Bv0 Bv1 Bv2 Bv3 Bv4 Bv5 Bv6:Value} (R1 R2 R3:TS × Int) (k0:Bool) (bo ob ab bb:Nat) (B w0:World) (hQ:∀ c a d v w,Q (.panic c) (Act.put a (some d) v) w→Q (.panic c) a w)
  (C0:Hid (∀ (W:World),Okm bo B W→Calls Tryz.prog 45 #[.agg #[Av0,Av1,Av2,Av3,Av4,Av5,Av6],.agg #[Bv0,Bv1,Bv2,Bv3,Bv4,Bv5,Bv6]] W (TsO W R1))) (C2:Hid (∀ (W:World) (k:Bool),Okm bo B W→Bxo W bo [.bool k]→Calls Tryz.prog 47 #[.agg #[Bv0,Bv1,Bv2,Bv3,Bv4,Bv5,Bv6],.pointer (some ⟨ob,0,none⟩)] W (OkO bo W R2.1 (k&&R2.2==0)))) (C3:Hid (∀ (a2 b2 l2:Value) (W:World) (k:Bool),Okm bo B W→SS3 W R2.1 a2 b2 l2→Bxo W bo [.bool k]→Calls Tryz.prog 49 #[.agg #[Av0,Av1,Av2,Av3,Av4,Av5,Av6],.agg #[.int .i64 R2.1.P,a2,.int .i64 R2.1.Q,b2,.int .i64 R2.1.a,.int .i64 R2.1.b,l2],.pointer (some ⟨ob,0,none⟩)] W (OkO bo W R3.1 (k&&R3.2==0)))) (TL1:Hid (TsL R1.1)) (TL3:Hid (TsL R3.1)) (HA:Bxs B ab [Av0,Av1,Av2,Av3,Av4,Av5,Av6]) (nA:ab≠bo) (HB:Bxs B bb [Bv0,Bv1,Bv2,Bv3,Bv4,Bv5,Bv6]) (nB:bb≠bo) (HO:Bxs B ob [.func (.func 46) #[] #[.pointer (some ⟨bo,0,none⟩)]]) (nO:ob≠bo) (lb:bo<B.heap.size) (hS0:Okm bo B w0) (K0:Bxo w0 bo [.bool k0])
  (fin:∀ (a1 b1 l1 a3 b3 l3 v75:Value) (N0b:Nat) (N1b:Nat) (W:World),Okm bo B W→Bxo W bo [.bool (k0&&R1.2==0&&R2.2==0&&R3.2==0)]→Bxs W N0b [.int .i64 R1.1.P,a1,.int .i64 R1.1.Q,b1,.int .i64 R1.1.a,.int .i64 R1.1.b,l1]→Bxs W N1b [.int .i64 R3.1.P,a3,.int .i64 R3.1.Q,b3,.int .i64 R3.1.a,.int .i64 R3.1.b,l3]→SS3 W R1.1 a1 b1 l1→SS3 W R3.1 a3 b3 l3→B.heap.size≤N0b→B.heap.size≤N1b→Q .normal ⟨#[u0,u1,u2,.pointer (some ⟨ab,0,none⟩),.pointer (some ⟨bb,0,none⟩),u5,u6,u7,.pointer (some ⟨ob,0,none⟩),.func (.func 47) #[] #[.pointer (some ⟨ob,0,none⟩)],u10,.func (.func 49) #[] #[.pointer (some ⟨ob,0,none⟩)],u12,u13,u14,u15,.pointer (some ⟨N0b,0,none⟩),.pointer (some ⟨N1b,0,none⟩),u18,u19,u20,u21,u22,u23,u24,u25,u26,u27,u28,u29,u30,u31,u32,u33,u34,u35,u36,u37,u38,u39,u40,u41,u42,u43,u44,u45,u46,u47,u48,u49,u50,u51,u52,u53,u54,u55,u56,u57,u58,u59,u60,u61,u62,u63,.func (.func 46) #[] #[.pointer (some ⟨bo,0,none⟩)],.agg #[Av0,Av1,Av2,Av3,Av4,Av5,Av6],.agg #[Bv0,Bv1,Bv2,Bv3,Bv4,Bv5,Bv6],.tuple #[.agg #[.int .i64 R1.1.P,a1,.int .i64 R1.1.Q,b1,.int .i64 R1.1.a,.int .i64 R1.1.b,l1],.int .i64 R1.2],.agg #[.int .i64 R1.1.P,a1,.int .i64 R1.1.Q,b1,.int .i64 R1.1.a,.int .i64 R1.1.b,l1],.int .i64 R1.2,.agg #[.int .i64 R1.1.P,a1,.int .i64 R1.1.Q,b1,.int .i64 R1.1.a,.int .i64 R1.1.b,l1],.func (.func 49) #[] #[.pointer (some ⟨ob,0,none⟩)],.agg #[Av0,Av1,Av2,Av3,Av4,Av5,Av6],.func (.func 47) #[] #[.pointer (some ⟨ob,0,none⟩)],.agg #[Bv0,Bv1,Bv2,Bv3,Bv4,Bv5,Bv6],v75,.agg #[.int .i64 R3.1.P,a3,.int .i64 R3.1.Q,b3,.int .i64 R3.1.a,.int .i64 R3.1.b,l3],u77,u78,u79,u80,u81,u82,u83,u84,u85,u86,u87,u88,u89,u90,u91,u92,u93,u94,u95,u96,u97,u98,u99,u100,u101,u102,u103,u104,u105,u106,u107,u108,u109,u110,u111,u112,u113,u114,u115,u116,u117,u118,u119,u120,u121,u122,u123,u124,u125,u126],[]⟩ W) :
  (Code.region 12 lrcOps true).wp Tryz.prog Q ⟨#[u0,u1,u2,.pointer (some ⟨ab,0,none⟩),.pointer (some ⟨bb,0,none⟩),u5,u6,u7,.pointer (some ⟨ob,0,none⟩),.func (.func 47) #[] #[.pointer (some ⟨ob,0,none⟩)],u10,.func (.func 49) #[] #[.pointer (some ⟨ob,0,none⟩)],u12,u13,u14,u15,u16,u17,u18,u19,u20,u21,u22,u23,u24,u25,u26,u27,u28,u29,u30,u31,u32,u33,u34,u35,u36,u37,u38,u39,u40,u41,u42,u43,u44,u45,u46,u47,u48,u49,u50,u51,u52,u53,u54,u55,u56,u57,u58,u59,u60,u61,u62,u63,u64,u65,u66,u67,u68,u69,u70,u71,u72,u73,u74,u75,u76,u77,u78,u79,u80,u81,u82,u83,u84,u85,u86,u87,u88,u89,u90,u91,u92,u93,u94,u95,u96,u97,u98,u99,u100,u101,u102,u103,u104,u105,u106,u107,u108,u109,u110,u111,u112,u113,u114,u115,u116,u117,u118,u119,u120,u121,u122,u123,u124,u125,u126],[]⟩ w0:=by
 replace fin:=zh fin;obtain ⟨zT,zTe⟩:∃ zT:Value→Value→Value→Value→Value→Value→Value→Value→Act,zT=fun x67 x70 x75 x76 x68 x69 x16 x17=>⟨#[u0,u1,u2,.pointer (some ⟨ab,0,none⟩),.pointer (some ⟨bb,0,none⟩),u5,u6,u7,.pointer (some ⟨ob,0,none⟩),.func (.func 47) #[] #[.pointer (some ⟨ob,0,none⟩)],u10,.func (.func 49) #[] #[.pointer (some ⟨ob,0,none⟩)],u12,u13,u14,u15,x16,x17,u18,u19,u20,u21,u22,u23,u24,u25,u26,u27,u28,u29,u30,u31,u32,u33,u34,u35,u36,u37,u38,u39,u40,u41,u42,u43,u44,u45,u46,u47,u48,u49,u50,u51,u52,u53,u54,u55,u56,u57,u58,u59,u60,u61,u62,u63,.func (.func 46) #[] #[.pointer (some ⟨bo,0,none⟩)],.agg #[Av0,Av1,Av2,Av3,Av4,Av5,Av6],.agg #[Bv0,Bv1,Bv2,Bv3,Bv4,Bv5,Bv6],x67,x68,x69,x70,.func (.func 49) #[] #[.pointer (some ⟨ob,0,none⟩)],.agg #[Av0,Av1,Av2,Av3,Av4,Av5,Av6],.func (.func 47) #[] #[.pointer (some ⟨ob,0,none⟩)],.agg #[Bv0,Bv1,Bv2,Bv3,Bv4,Bv5,Bv6],x75,x76,u77,u78,u79,u80,u81,u82,u83,u84,u85,u86,u87,u88,u89,u90,u91,u92,u93,u94,u95,u96,u97,u98,u99,u100,u101,u102,u103,u104,u105,u106,u107,u108,u109,u110,u111,u112,u113,u114,u115,u116,u117,u118,u119,u120,u121,u122,u123,u124,u125,u126],[]⟩:=⟨_,rfl⟩;obtain ⟨zW0,zWe0⟩:∃ zW:Nat→Bool→Bool→Act→World→Prop,zW=fun n p0 p1 a W=>wpAnyH Tryz.prog .any lrcOps Q (fun W=>Okm bo B W) n #[true,true,true,false,false,false,false,true,true,true,true,false,false,p0,p1,false,false] a W:=⟨_,rfl⟩;obtain ⟨zW1,zWe1⟩:∃ zW:Nat→Bool→Bool→Act→World→Prop,zW=fun n p0 p1 a W=>wpAnyH Tryz.prog .any lrcOps Q (fun W=>Okm bo B W) n #[true,true,true,true,true,true,false,true,true,true,true,false,false,p0,p1,false,false] a W:=⟨_,rfl⟩;obtain ⟨zW2,zWe2⟩:∃ zW:Nat→Bool→Bool→Act→World→Prop,zW=fun n p0 p1 a W=>wpAnyH Tryz.prog .any lrcOps Q (fun W=>Okm bo B W) n #[true,true,true,true,true,true,true,true,true,true,true,false,false,p0,p1,false,false] a W:=⟨_,rfl⟩;obtain ⟨zW3,zWe3⟩:∃ zW:Nat→Bool→Bool→Act→World→Prop,zW=fun n p0 p1 a W=>wpAnyH Tryz.prog .any lrcOps Q (fun W=>Okm bo B W) n #[true,true,true,true,true,true,true,true,true,true,true,true,false,p0,p1,false,false] a W:=⟨_,rfl⟩;obtain ⟨zW4,zWe4⟩:∃ zW:Nat→Bool→Bool→Act→World→Prop,zW=fun n p0 p1 a W=>wpAnyH Tryz.prog .any lrcOps Q (fun W=>Okm bo B W) n #[true,true,true,true,true,true,true,true,true,true,true,true,true,p0,p1,false,false] a W:=⟨_,rfl⟩;obtain ⟨zG1,zGe1⟩:∃ zG:Value→Value→Value→Value,zG=fun a b l=>.agg #[.int .i64 R1.1.P,a,.int .i64 R1.1.Q,b,.int .i64 R1.1.a,.int .i64 R1.1.b,l]:=⟨_,rfl⟩;obtain ⟨zG2,zGe2⟩:∃ zG:Value→Value→Value→Value,zG=fun a b l=>.agg #[.int .i64 R2.1.P,a,.int .i64 R2.1.Q,b,.int .i64 R2.1.a,.int .i64 R2.1.b,l]:=⟨_,rfl⟩
 obtain ⟨zG3,zGe3⟩:∃ zG:Value→Value→Value→Value,zG=fun a b l=>.agg #[.int .i64 R3.1.P,a,.int .i64 R3.1.Q,b,.int .i64 R3.1.a,.int .i64 R3.1.b,l]:=⟨_,rfl⟩;obtain ⟨zP,zPe⟩:∃ zP:Nat→Value,zP=fun n=>.pointer (some ⟨n,0,none⟩):=⟨_,rfl⟩;have hF:∀ ⦃a1 b1 l1 a3 b3 l3 v75:Value⦄ ⦃N0b N1b:Nat⦄ ⦃W:World⦄,Lgs bo B W (k0&&R1.2==0&&R2.2==0&&R3.2==0) [some N0b,some N1b]→SS3 W R1.1 a1 b1 l1→SS3 W R3.1 a3 b3 l3→zW4 2 true true (zT (.tuple #[.agg #[.int .i64 R1.1.P,a1,.int .i64 R1.1.Q,b1,.int .i64 R1.1.a,.int .i64 R1.1.b,l1],.int .i64 R1.2]) (zG1 a1 b1 l1) v75 (zG3 a3 b3 l3) (zG1 a1 b1 l1) (.int .i64 R1.2) (zP N0b) (zP N1b)) W:=by
  subst_vars;try dsimp only
  intro a1 b1 l1 a3 b3 l3 v75 N0b N1b W G S1 S3;obtain ⟨oa1,ca1,rfl⟩:=prs_shape S1.a;obtain ⟨ob1,cb1,rfl⟩:=prs_shape S1.b;obtain ⟨ol1,cl1,rfl⟩:=prs_shape S1.l;obtain ⟨oa3,ca3,rfl⟩:=prs_shape S3.a;obtain ⟨ob3,cb3,rfl⟩:=prs_shape S3.b;obtain ⟨ol3,cl3,rfl⟩:=prs_shape S3.l;have hS:=G.s;have KO:=G.k;have N0:=G.f 0 _ rfl;have N1:=G.f 1 _ rfl;have D01:N0b≠N1b:=fun e=>by have:=G.d 0 1 N0b rfl (by rw [e];rfl);omega
  clear G;refine wpAnyH_ready (rs:=[15]) (by kernel_rfl) (by simp) ?_;refine AllReadyH.cons lrcq15 (fun K hK=>?_) AllReadyH.nil;refine N0.o.k7 fun aa ac ad ae af ag ah ai aj ak al am an ao ap=>?_;clear ap;go_simp;clear aa ac ad ae af ag ah ai aj ak al am an ao;replace hS:=hS.far7 N0.le (.int .i64 R1.1.P) (.slice oa1 R1.1.A.length ca1) (.int .i64 R1.1.Q) (.slice ob1 R1.1.B.length cb1) (.int .i64 R1.1.a) (.int .i64 R1.1.b) (.slice ol1 R1.1.L.length cl1);replace KO:=KO.ne7 (show bo≠N0b by have:=N0.le;omega) (.int .i64 R1.1.P) (.slice oa1 R1.1.A.length ca1) (.int .i64 R1.1.Q) (.slice ob1 R1.1.B.length cb1) (.int .i64 R1.1.a) (.int .i64 R1.1.b) (.slice ol1 R1.1.L.length cl1);replace S1:=S1.stray TL1.out N0.o (.int .i64 R1.1.P) (.slice oa1 R1.1.A.length ca1) (.int .i64 R1.1.Q) (.slice ob1 R1.1.B.length cb1) (.int .i64 R1.1.a) (.int .i64 R1.1.b) (.slice ol1 R1.1.L.length cl1);replace S3:=S3.stray TL3.out N0.o (.int .i64 R1.1.P) (.slice oa1 R1.1.A.length ca1) (.int .i64 R1.1.Q) (.slice ob1 R1.1.B.length cb1) (.int .i64 R1.1.a) (.int .i64 R1.1.b) (.slice ol1 R1.1.L.length cl1);have F0:=N0.o.put7 (.int .i64 R1.1.P) (.slice oa1 R1.1.A.length ca1) (.int .i64 R1.1.Q) (.slice ob1 R1.1.B.length cb1) (.int .i64 R1.1.a) (.int .i64 R1.1.b) (.slice ol1 R1.1.L.length cl1);have L0:=N0.le;replace N1:=N1.ne7 D01.symm (.int .i64 R1.1.P) (.slice oa1 R1.1.A.length ca1) (.int .i64 R1.1.Q) (.slice ob1 R1.1.B.length cb1) (.int .i64 R1.1.a) (.int .i64 R1.1.b) (.slice ol1 R1.1.L.length cl1);clear N0;refine hK.out _ _ hS (fun _=>?_);clear hK K;(try simp only [Act.put,zls,zl0,zl1]);generalize (((((((W.setCell ⟨N0b,0,none⟩ (.int .i64 R1.1.P)).setCell ⟨N0b,1,none⟩ (.slice oa1 R1.1.A.length ca1)).setCell ⟨N0b,2,none⟩ (.int .i64 R1.1.Q)).setCell ⟨N0b,3,none⟩ (.slice ob1 R1.1.B.length cb1)).setCell ⟨N0b,4,none⟩ (.int .i64 R1.1.a)).setCell ⟨N0b,5,none⟩ (.int .i64 R1.1.b)).setCell ⟨N0b,6,none⟩ (.slice ol1 R1.1.L.length cl1))=W1 at *;refine wpAnyH_ready (rs:=[16]) (by kernel_rfl) (by simp) ?_;refine AllReadyH.cons lrcq16 (fun K hK=>?_) AllReadyH.nil;refine N1.o.k7 fun aa ac ad ae af ag ah ai aj ak al am an ao ap=>?_;clear ap;go_simp;clear aa ac ad ae af ag ah ai aj ak al am an ao;replace hS:=hS.far7 N1.le (.int .i64 R3.1.P) (.slice oa3 R3.1.A.length ca3) (.int .i64 R3.1.Q) (.slice ob3 R3.1.B.length cb3) (.int .i64 R3.1.a) (.int .i64 R3.1.b) (.slice ol3 R3.1.L.length cl3);replace KO:=KO.ne7 (show bo≠N1b by have:=N1.le;omega) (.int .i64 R3.1.P) (.slice oa3 R3.1.A.length ca3) (.int .i64 R3.1.Q) (.slice ob3 R3.1.B.length cb3) (.int .i64 R3.1.a) (.int .i64 R3.1.b) (.slice ol3 R3.1.L.length cl3);replace S1:=S1.stray TL1.out N1.o (.int .i64 R3.1.P) (.slice oa3 R3.1.A.length ca3) (.int .i64 R3.1.Q) (.slice ob3 R3.1.B.length cb3) (.int .i64 R3.1.a) (.int .i64 R3.1.b) (.slice ol3 R3.1.L.length cl3);replace S3:=S3.stray TL3.out N1.o (.int .i64 R3.1.P) (.slice oa3 R3.1.A.length ca3) (.int .i64 R3.1.Q) (.slice ob3 R3.1.B.length cb3) (.int .i64 R3.1.a) (.int .i64 R3.1.b) (.slice ol3 R3.1.L.length cl3)
  replace F0:=F0.ne7 D01 (.int .i64 R3.1.P) (.slice oa3 R3.1.A.length ca3) (.int .i64 R3.1.Q) (.slice ob3 R3.1.B.length cb3) (.int .i64 R3.1.a) (.int .i64 R3.1.b) (.slice ol3 R3.1.L.length cl3);have F1:=N1.o.put7 (.int .i64 R3.1.P) (.slice oa3 R3.1.A.length ca3) (.int .i64 R3.1.Q) (.slice ob3 R3.1.B.length cb3) (.int .i64 R3.1.a) (.int .i64 R3.1.b) (.slice ol3 R3.1.L.length cl3);have L1:=N1.le;clear N1;refine hK.out _ _ hS (fun _=>?_);clear hK K;(try simp only [Act.put,zls,zl0,zl1]);generalize (((((((W1.setCell ⟨N1b,0,none⟩ (.int .i64 R3.1.P)).setCell ⟨N1b,1,none⟩ (.slice oa3 R3.1.A.length ca3)).setCell ⟨N1b,2,none⟩ (.int .i64 R3.1.Q)).setCell ⟨N1b,3,none⟩ (.slice ob3 R3.1.B.length cb3)).setCell ⟨N1b,4,none⟩ (.int .i64 R3.1.a)).setCell ⟨N1b,5,none⟩ (.int .i64 R3.1.b)).setCell ⟨N1b,6,none⟩ (.slice ol3 R3.1.L.length cl3))=W2 at *;refine wpAnyH_done (by kernel_rfl) ?_ _;exact fin.out _ _ _ _ _ _ _ N0b N1b _ hS KO F0 F1 S1 S3 L0 L1
 replace hF:=zh hF;have h4:∀ (n:Nat) ⦃a1 b1 l1 a3 b3 l3 v75:Value⦄ ⦃p0 p1:Option Nat⦄ ⦃W:World⦄,n=2+zc p0+zc p1→Lgs bo B W (k0&&R1.2==0&&R2.2==0&&R3.2==0) [p0,p1]→SS3 W R1.1 a1 b1 l1→SS3 W R3.1 a3 b3 l3→zW4 n p0.isSome p1.isSome (zT (.tuple #[.agg #[.int .i64 R1.1.P,a1,.int .i64 R1.1.Q,b1,.int .i64 R1.1.a,.int .i64 R1.1.b,l1],.int .i64 R1.2]) (zG1 a1 b1 l1) v75 (zG3 a3 b3 l3) (zG1 a1 b1 l1) (.int .i64 R1.2) (zO u16 p0) (zO u17 p1)) W:=by
  subst_vars
  intro n;refine Nat.strongRecOn n (fun n ih=>?_);replace ih:=zh ih;intro a1 b1 l1 a3 b3 l3 v75 p0 p1 W e G S1 S3;obtain ⟨rs,hrs⟩:∃ rs,rs=[]++zR 13 p0++zR 14 p1:=⟨_,rfl⟩
  rcases p0 with _ | N0b <;> rcases p1 with _ | N1b
  all_goals (simp only [zc,Nat.reduceAdd] at e;subst e;dsimp only [zO,Option.isSome];dsimp only [zR,List.cons_append,List.nil_append,List.append_nil] at hrs)
  all_goals try (have g0:=N0b;have g1:=N1b;clear g0 g1;exact hF.out G S1 S3)
  all_goals (refine wpAnyH_ready (rs:=rs) (by subst hrs;kernel_rfl) (by subst hrs;simp) ?_;subst hrs)
  all_goals try ((fail_if_success have g9:=N0b);refine AllReadyH.cons lrcq13 (fun K hK=>by
                        go_simp;refine hK.out _ _ (G.a 26) (fun _=>?_);(try simp only [Act.put,zls,zl0,zl1]);have q9:=ih.out _ (Nat.lt_succ_self _) (v75:=v75) (by rfl) (G.n lb 0 26) (G.m 26 S1) (G.m 26 S3)
                        dsimp only [zO,Option.isSome] at q9
                        exact q9) ?_)
  all_goals try ((fail_if_success have g9:=N1b);refine AllReadyH.cons lrcq14 (fun K hK=>by
                        go_simp;refine hK.out _ _ (G.a 26) (fun _=>?_);(try simp only [Act.put,zls,zl0,zl1]);have q9:=ih.out _ (Nat.lt_succ_self _) (v75:=v75) (by rfl) (G.n lb 1 26) (G.m 26 S1) (G.m 26 S3)
                        dsimp only [zO,Option.isSome] at q9
                        exact q9) ?_)
  all_goals exact AllReadyH.nil
 replace h4:=zh h4;have h3:∀ (n:Nat) ⦃a1 b1 l1 a2 b2 l2:Value⦄ ⦃p0 p1:Option Nat⦄ ⦃W:World⦄,n=3+zc p0+zc p1→Lgs bo B W (k0&&R1.2==0&&R2.2==0) [p0,p1]→SS3 W R1.1 a1 b1 l1→SS3 W R2.1 a2 b2 l2→zW3 n p0.isSome p1.isSome (zT (.tuple #[.agg #[.int .i64 R1.1.P,a1,.int .i64 R1.1.Q,b1,.int .i64 R1.1.a,.int .i64 R1.1.b,l1],.int .i64 R1.2]) (zG1 a1 b1 l1) (zG2 a2 b2 l2) u76 (zG1 a1 b1 l1) (.int .i64 R1.2) (zO u16 p0) (zO u17 p1)) W:=by
  subst_vars
  intro n;refine Nat.strongRecOn n (fun n ih=>?_);replace ih:=zh ih;intro a1 b1 l1 a2 b2 l2 p0 p1 W e G S1 S2;obtain ⟨rs,hrs⟩:∃ rs,rs=[12]++zR 13 p0++zR 14 p1:=⟨_,rfl⟩
  rcases p0 with _ | N0b <;> rcases p1 with _ | N1b
  all_goals (simp only [zc,Nat.reduceAdd] at e;subst e;dsimp only [zO,Option.isSome];dsimp only [zR,List.cons_append,List.nil_append,List.append_nil] at hrs)
  all_goals (refine wpAnyH_ready (rs:=rs) (by subst hrs;kernel_rfl) (by subst hrs;simp) ?_;subst hrs)
  all_goals refine AllReadyH.cons lrcq12 (fun K hK=>by
    go_simp;go_at_call 49;refine ((C3.out _ _ _ _ _ G.s S2 G.k).mono ?_);rintro e W' ⟨⟨a3,b3,l3,rfl,ss⟩,hk,ko⟩;refine hK.out _ _ (G.s.trans hk) (fun hS'=>?_);(try simp only [Act.put,zls,zl0,zl1]);have q9:=h4.out _ (v75:=.agg #[.int .i64 R2.1.P,a2,.int .i64 R2.1.Q,b2,.int .i64 R2.1.a,.int .i64 R2.1.b,l2]) rfl (G.c hk ko lb) (G.t hk S1) ss
    dsimp only [zc,zO,Option.isSome,Nat.reduceAdd] at q9
    exact q9) ?_
  all_goals try ((fail_if_success have g9:=N0b);refine AllReadyH.cons lrcq13 (fun K hK=>by
                        go_simp;refine hK.out _ _ (G.a 26) (fun _=>?_);(try simp only [Act.put,zls,zl0,zl1]);have q9:=ih.out _ (Nat.lt_succ_self _) (by rfl) (G.n lb 0 26) (G.m 26 S1) (G.m 26 S2)
                        dsimp only [zO,Option.isSome] at q9
                        exact q9) ?_)
  all_goals try ((fail_if_success have g9:=N1b);refine AllReadyH.cons lrcq14 (fun K hK=>by
                        go_simp;refine hK.out _ _ (G.a 26) (fun _=>?_);(try simp only [Act.put,zls,zl0,zl1]);have q9:=ih.out _ (Nat.lt_succ_self _) (by rfl) (G.n lb 1 26) (G.m 26 S1) (G.m 26 S2)
                        dsimp only [zO,Option.isSome] at q9
                        exact q9) ?_)
  all_goals exact AllReadyH.nil
 replace h3:=zh h3;have h2:∀ (n:Nat) ⦃a1 b1 l1:Value⦄ ⦃p0 p1:Option Nat⦄ ⦃W:World⦄,n=4+zc p0+zc p1→Lgs bo B W (k0&&R1.2==0) [p0,p1]→SS3 W R1.1 a1 b1 l1→zW2 n p0.isSome p1.isSome (zT (.tuple #[.agg #[.int .i64 R1.1.P,a1,.int .i64 R1.1.Q,b1,.int .i64 R1.1.a,.int .i64 R1.1.b,l1],.int .i64 R1.2]) (zG1 a1 b1 l1) u75 u76 (zG1 a1 b1 l1) (.int .i64 R1.2) (zO u16 p0) (zO u17 p1)) W:=by
  subst_vars
  intro n;refine Nat.strongRecOn n (fun n ih=>?_);replace ih:=zh ih;intro a1 b1 l1 p0 p1 W e G S1;obtain ⟨rs,hrs⟩:∃ rs,rs=[11]++zR 13 p0++zR 14 p1:=⟨_,rfl⟩
  rcases p0 with _ | N0b <;> rcases p1 with _ | N1b
  all_goals (simp only [zc,Nat.reduceAdd] at e;subst e;dsimp only [zO,Option.isSome];dsimp only [zR,List.cons_append,List.nil_append,List.append_nil] at hrs)
  all_goals (refine wpAnyH_ready (rs:=rs) (by subst hrs;kernel_rfl) (by subst hrs;simp) ?_;subst hrs)
  all_goals refine AllReadyH.cons lrcq11 (fun K hK=>by
    go_simp;go_at_call 47;refine ((C2.out _ _ G.s G.k).mono ?_);rintro e W' ⟨⟨a2,b2,l2,rfl,ss⟩,hk,ko⟩;refine hK.out _ _ (G.s.trans hk) (fun hS'=>?_);(try simp only [Act.put,zls,zl0,zl1]);have q9:=h3.out _ rfl (G.c hk ko lb) (G.t hk S1) ss
    dsimp only [zc,zO,Option.isSome,Nat.reduceAdd] at q9
    exact q9) ?_
  all_goals try ((fail_if_success have g9:=N0b);refine AllReadyH.cons lrcq13 (fun K hK=>by
                        go_simp;refine hK.out _ _ (G.a 26) (fun _=>?_);(try simp only [Act.put,zls,zl0,zl1]);have q9:=ih.out _ (Nat.lt_succ_self _) (by rfl) (G.n lb 0 26) (G.m 26 S1)
                        dsimp only [zO,Option.isSome] at q9
                        exact q9) ?_)
  all_goals try ((fail_if_success have g9:=N1b);refine AllReadyH.cons lrcq14 (fun K hK=>by
                        go_simp;refine hK.out _ _ (G.a 26) (fun _=>?_);(try simp only [Act.put,zls,zl0,zl1]);have q9:=ih.out _ (Nat.lt_succ_self _) (by rfl) (G.n lb 1 26) (G.m 26 S1)
                        dsimp only [zO,Option.isSome] at q9
                        exact q9) ?_)
  all_goals exact AllReadyH.nil
 replace h2:=zh h2;have h1:∀ (n:Nat) ⦃a1 b1 l1:Value⦄ ⦃p0 p1:Option Nat⦄ ⦃W:World⦄,n=5+zc p0+zc p1→Lgs bo B W (k0) [p0,p1]→SS3 W R1.1 a1 b1 l1→zW1 n p0.isSome p1.isSome (zT (.tuple #[.agg #[.int .i64 R1.1.P,a1,.int .i64 R1.1.Q,b1,.int .i64 R1.1.a,.int .i64 R1.1.b,l1],.int .i64 R1.2]) u70 u75 u76 (zG1 a1 b1 l1) (.int .i64 R1.2) (zO u16 p0) (zO u17 p1)) W:=by
  subst_vars
  intro n;refine Nat.strongRecOn n (fun n ih=>?_);replace ih:=zh ih;intro a1 b1 l1 p0 p1 W e G S1;obtain ⟨rs,hrs⟩:∃ rs,rs=[6]++zR 13 p0++zR 14 p1:=⟨_,rfl⟩
  rcases p0 with _ | N0b <;> rcases p1 with _ | N1b
  all_goals (simp only [zc,Nat.reduceAdd] at e;subst e;dsimp only [zO,Option.isSome];dsimp only [zR,List.cons_append,List.nil_append,List.append_nil] at hrs)
  all_goals (refine wpAnyH_ready (rs:=rs) (by subst hrs;kernel_rfl) (by subst hrs;simp) ?_;subst hrs)
  all_goals refine AllReadyH.cons lrcq6 (fun K hK=>by
    obtain ⟨oa1,ca1,rfl⟩:=prs_shape S1.a;obtain ⟨ob1,cb1,rfl⟩:=prs_shape S1.b;obtain ⟨ol1,cl1,rfl⟩:=prs_shape S1.l;go_simp;go_at_call 46;refine ((lgof _ _ _ _ _ _ _ _ _ _ _ _ _ _ _ bo _ G.k).mono ?_);rintro e W' ⟨rfl,hk,ko⟩;refine hK.out _ _ (G.s.trans hk) (fun hS'=>?_);(try simp only [Act.put,zls,zl0,zl1]);have q9:=h2.out _ rfl (G.c hk ko lb) (G.t hk S1)
    dsimp only [zc,zO,Option.isSome,Nat.reduceAdd] at q9
    exact q9) ?_
  all_goals try ((fail_if_success have g9:=N0b);refine AllReadyH.cons lrcq13 (fun K hK=>by
                        go_simp;refine hK.out _ _ (G.a 26) (fun _=>?_);(try simp only [Act.put,zls,zl0,zl1]);have q9:=ih.out _ (Nat.lt_succ_self _) (by rfl) (G.n lb 0 26) (G.m 26 S1)
                        dsimp only [zO,Option.isSome] at q9
                        exact q9) ?_)
  all_goals try ((fail_if_success have g9:=N1b);refine AllReadyH.cons lrcq14 (fun K hK=>by
                        go_simp;refine hK.out _ _ (G.a 26) (fun _=>?_);(try simp only [Act.put,zls,zl0,zl1]);have q9:=ih.out _ (Nat.lt_succ_self _) (by rfl) (G.n lb 1 26) (G.m 26 S1)
                        dsimp only [zO,Option.isSome] at q9
                        exact q9) ?_)
  all_goals exact AllReadyH.nil
 replace h1:=zh h1;have h0:∀ (n:Nat) ⦃p0 p1:Option Nat⦄ ⦃W:World⦄,n=8+zc p0+zc p1→Lgs bo B W (k0) [p0,p1]→zW0 n p0.isSome p1.isSome (zT u67 u70 u75 u76 u68 u69 (zO u16 p0) (zO u17 p1)) W:=by
  subst_vars
  intro n;refine Nat.strongRecOn n (fun n ih=>?_);replace ih:=zh ih;intro p0 p1 W e G;obtain ⟨rs,hrs⟩:∃ rs,rs=[3]++zR 13 p0++zR 14 p1:=⟨_,rfl⟩
  rcases p0 with _ | N0b <;> rcases p1 with _ | N1b
  all_goals (simp only [zc,Nat.reduceAdd] at e;subst e;dsimp only [zO,Option.isSome];dsimp only [zR,List.cons_append,List.nil_append,List.append_nil] at hrs)
  all_goals (refine wpAnyH_ready (rs:=rs) (by subst hrs;kernel_rfl) (by subst hrs;simp) ?_;subst hrs)
  all_goals refine AllReadyH.cons lrcq3 (fun K hK=>by
    go_simp;go_at_call 45;refine ((C0.out _ G.s ).mono ?_);rintro e W' ⟨⟨a1,b1,l1,rfl,ss⟩,hb⟩;have hk:=Okm.of bo hb;have ko:=G.k.keep hb;refine hK.out _ _ (G.s.trans hk) (fun hS'=>?_);(try simp only [Act.put,zls,zl0,zl1]);refine wpAnyH_take (i:=4) (v:=.agg #[.int .i64 R1.1.P,a1,.int .i64 R1.1.Q,b1,.int .i64 R1.1.a,.int .i64 R1.1.b,l1]) lrcq4 (by kernel_rfl) (by kernel_rfl) (by kernel_rfl) (fun _ _ _ h=>hQ _ _ _ _ _ h) (Or.inl ⟨by rfl,?_⟩) hS' ?_
    ·clear G hS' hk ko ss ih;intro w hSw;clear hSw;go_simp
    (try simp only [Act.put,zls,zl0,zl1]);refine wpAnyH_take (i:=5) (v:=.int .i64 R1.2) lrcq5 (by kernel_rfl) (by kernel_rfl) (by kernel_rfl) (fun _ _ _ h=>hQ _ _ _ _ _ h) (Or.inl ⟨by rfl,?_⟩) hS' ?_
    ·clear G hS' hk ko ss ih;intro w hSw;clear hSw;go_simp
    (try simp only [Act.put,zls,zl0,zl1]);have q9:=h1.out _ rfl (G.c hk ko lb)  ss
    dsimp only [zc,zO,Option.isSome,Nat.reduceAdd] at q9
    exact q9) ?_
  all_goals try ((fail_if_success have g9:=N0b);refine AllReadyH.cons lrcq13 (fun K hK=>by
                        go_simp;refine hK.out _ _ (G.a 26) (fun _=>?_);(try simp only [Act.put,zls,zl0,zl1]);have q9:=ih.out _ (Nat.lt_succ_self _) (by rfl) (G.n lb 0 26)
                        dsimp only [zO,Option.isSome] at q9
                        exact q9) ?_)
  all_goals try ((fail_if_success have g9:=N1b);refine AllReadyH.cons lrcq14 (fun K hK=>by
                        go_simp;refine hK.out _ _ (G.a 26) (fun _=>?_);(try simp only [Act.put,zls,zl0,zl1]);have q9:=ih.out _ (Nat.lt_succ_self _) (by rfl) (G.n lb 1 26)
                        dsimp only [zO,Option.isSome] at q9
                        exact q9) ?_)
  all_goals exact AllReadyH.nil
 replace h0:=zh h0;refine wp_region_held_drew (S:=(fun W=>Okm bo B W)) (by kernel_rfl) (hS0.trans (Okm.of bo (here w0).drew)) (fun hS=>?_);replace K0:=K0.keep (here w0).drew;generalize w0.drew=W0 at *;have s0:=h0;clear h0 h1 h2 h3 h4 hF;subst zTe zPe zWe0 zWe1 zWe2 zWe3 zWe4 zGe1 zGe2 zGe3;refine wpAnyH_take (i:=0) (v:=.func (.func 46) #[] #[.pointer (some ⟨bo,0,none⟩)]) lrcq0 (by kernel_rfl) (by kernel_rfl) (by kernel_rfl) (fun _ _ _ h=>hQ _ _ _ _ _ h) (Or.inl ⟨by rfl,?_⟩) hS ?_
 ·clear s0 hQ;intro w hSw;have z0:=(HO.okm hSw nO).c 0 _ rfl;clear hSw;go_simp
 (try simp only [Act.put,zls,zl0,zl1]);refine wpAnyH_take (i:=1) (v:=.agg #[Av0,Av1,Av2,Av3,Av4,Av5,Av6]) lrcq1 (by kernel_rfl) (by kernel_rfl) (by kernel_rfl) (fun _ _ _ h=>hQ _ _ _ _ _ h) (Or.inl ⟨by rfl,?_⟩) hS ?_
 ·clear s0 hQ;intro w hSw;obtain ⟨z0,z1,z2,z3,z4,z5,z6⟩:=(HA.okm hSw nA).y7;clear hSw;go_simp
 (try simp only [Act.put,zls,zl0,zl1]);refine wpAnyH_take (i:=2) (v:=.agg #[Bv0,Bv1,Bv2,Bv3,Bv4,Bv5,Bv6]) lrcq2 (by kernel_rfl) (by kernel_rfl) (by kernel_rfl) (fun _ _ _ h=>hQ _ _ _ _ _ h) (Or.inl ⟨by rfl,?_⟩) hS ?_
 ·clear s0 hQ;intro w hSw;obtain ⟨z0,z1,z2,z3,z4,z5,z6⟩:=(HB.okm hSw nB).y7;clear hSw;go_simp
 (try simp only [Act.put,zls,zl0,zl1]);refine wpAnyH_take (i:=7) (v:=.func (.func 49) #[] #[.pointer (some ⟨ob,0,none⟩)]) lrcq7 (by kernel_rfl) (by kernel_rfl) (by kernel_rfl) (fun _ _ _ h=>hQ _ _ _ _ _ h) (Or.inl ⟨by rfl,?_⟩) hS ?_
 ·clear s0 hQ;intro w hSw;clear hSw;go_simp
 (try simp only [Act.put,zls,zl0,zl1]);refine wpAnyH_take (i:=8) (v:=.agg #[Av0,Av1,Av2,Av3,Av4,Av5,Av6]) lrcq8 (by kernel_rfl) (by kernel_rfl) (by kernel_rfl) (fun _ _ _ h=>hQ _ _ _ _ _ h) (Or.inl ⟨by rfl,?_⟩) hS ?_
 ·clear s0 hQ;intro w hSw;obtain ⟨z0,z1,z2,z3,z4,z5,z6⟩:=(HA.okm hSw nA).y7;clear hSw;go_simp
 (try simp only [Act.put,zls,zl0,zl1]);refine wpAnyH_take (i:=9) (v:=.func (.func 47) #[] #[.pointer (some ⟨ob,0,none⟩)]) lrcq9 (by kernel_rfl) (by kernel_rfl) (by kernel_rfl) (fun _ _ _ h=>hQ _ _ _ _ _ h) (Or.inl ⟨by rfl,?_⟩) hS ?_
 ·clear s0 hQ;intro w hSw;clear hSw;go_simp
 (try simp only [Act.put,zls,zl0,zl1]);refine wpAnyH_take (i:=10) (v:=.agg #[Bv0,Bv1,Bv2,Bv3,Bv4,Bv5,Bv6]) lrcq10 (by kernel_rfl) (by kernel_rfl) (by kernel_rfl) (fun _ _ _ h=>hQ _ _ _ _ _ h) (Or.inl ⟨by rfl,?_⟩) hS ?_
 ·clear s0 hQ;intro w hSw;obtain ⟨z0,z1,z2,z3,z4,z5,z6⟩:=(HB.okm hSw nB).y7;clear hSw;go_simp
 (try simp only [Act.put,zls,zl0,zl1]);have g0:Lgs bo B W0 k0 [none,none]:=⟨hS,K0,fun i b e=>by rcases i with _ | _ | i <;> simp at e,fun i j b e=>by rcases i with _ | _ | i <;> simp at e⟩;exact s0.out _ rfl g0
end Go.Proofs.YtmamlgaogpkagaaGreat
