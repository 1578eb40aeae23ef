/- RnKD RnKE RnKC. -/
import Derived.Test.YtmamlgaogpkagaaGreatQLPlain
import Derived.Test.YtmamlgaogpkagaaGreatQLGen
import Derived.Test.YtmamlgaogpkagaaGreatQLSl
import Derived.Test.YtmamlgaogpkagaaGreatQRnV
import Derived.Test.YtmamlgaogpkagaaGreatQRnKA
import Derived.Deep.LoopGhost
import Derived.Shelf.RegionOpenPlain
namespace Go.Proofs.YtmamlgaogpkagaaGreat
open Go.RowKit
set_option linter.unusedVariables false
set_option linter.unusedSimpArgs false
def CapS (v:Value):Prop:=∃ o n c,v=.slice o n c∧n≤c
theorem cap_own {w:World} {base:Nat} {e:TypeId} {size:Nat} {v:Value} {n:Nat} {xs:List Value} (h:w.ownsRow base e size v n xs):CapS v:=by
 rcases h.2 with ⟨rfl,-⟩ | ⟨g,cap,cur,rfl,-,-,hn,-⟩
 ·exact ⟨_,_,_,rfl,Nat.le_refl _⟩
 ·exact ⟨_,_,_,rfl,hn⟩
theorem cap_nil:CapS (.slice none 0 0):=⟨_,_,_,rfl,Nat.le_refl _⟩
set_option maxRecDepth 100000 in
set_option maxHeartbeats 1000000 in
theorem rilen (a b:Int) (h:spB (a,b)=true) (w:World) :
    Calls Tryz.prog 170 #[.agg #[.int .i64 a,.int .i64 b]] w fun e w'=>e=.returned (.int .i64 (b - a))∧Below w.heap.size w w':=by
  have HV:=zh (fun w=>riv a b w);rw [h] at HV;obtain ⟨q0,q1,q2⟩:=spB_iff.1 h;replace q0:-4398046511104≤a:=q0;replace q1:b≤4398046511104:=q1;replace q2:a<b:=q2;clear h;obtain ⟨w1,hw1⟩:∃ w1:World,w.alloc (.cells #[.int .i64 a,.int .i64 b] 40)=w1:=⟨_,rfl⟩;have X1:Two w1 w.heap.size (.int .i64 a) (.int .i64 b):=by rw [← hw1];exact Two.new (here _)
  have A1:Below w.heap.size w w1:=by rw [← hw1];exact (grow (here w) _)
  replace X1:=zh X1;replace A1:=zh A1;obtain ⟨x0,x1,xl⟩:=X1.out
  go_enter Tryz.func170,Tryz.ntmps170
  go_wp2_with fail
  refine (HV.out _).mono ?_;rintro e w2 ⟨rfl,hb⟩;clear x0 x1 xl;have A2:=zd A1 hb;have X2:=zh (X1.out.keep hb);clear hb A1 X1;obtain ⟨x0,x1,xl⟩:=X2.out;go_wp2
  go_ret
  exact ⟨rfl,A2.out⟩
set_option maxRecDepth 100000 in
set_option maxHeartbeats 8000000 in
theorem rucombine (k:Int) (g:FuncId) (eg:∀ args w,(callFunc g args).run Tryz.prog w=.ok (.enter g args) w) (hg:∀ (x y:Bool) (w:World),Calls Tryz.prog g #[.bool x,.bool y] w fun e w'=>e=.returned (.bool (kpB k x y))∧w=w')
    (va vb:Value) (A B:List Sp) (hA:A.length≤maxLen) (hB:B.length≤maxLen) {ba bb:Nat} (w:World) (a:PairS ba w va A) (b:PairS bb w vb B) :
    Calls Tryz.prog 175 #[va,vb,.func (.func g) #[] #[]] w fun e w'=>(∃ v',e=.returned (.tuple #[v',.int .i64 (ruAp k A B).2])∧PairS w.heap.size w' v' (ruAp k A B).1∧CapS v')∧Below w.heap.size w w':=by
  obtain ⟨i0,hi,hz0,hz1,hz2⟩:=info_parts infoS;have VA:=ruvalid va A hA w a;have VB:=zh (fun W (h:Below w.heap.size w W)=>ruvalid vb B hB W (b.keep h));have PA:=zh a;have PB:=zh b;clear a b
  cases p:vaB A
  · rw [p] at VA;have r2:Hid (ruAp k A B=([],1)):=by show _=_;exact ap_arg (by rw [p];rfl)
    clear p VB PA PB hg eg hA hB
    go_enter Tryz.func175,Tryz.ntmps175
    go_wp2_with fail
    refine VA.mono ?_;rintro e w1 ⟨rfl,hb⟩;replace hb:=zh hb;go_wp2
    go_ret2
    rw [r2.out];exact ⟨⟨_,rfl,Sl.none _ _,cap_nil⟩,hb.out⟩
  rw [p] at VA
  cases q:vaB B
  · rw [q] at VB;have r2:Hid (ruAp k A B=([],1)):=by show _=_;exact ap_arg (by rw [p,q];rfl)
    clear p q PA PB hg eg hA hB
    go_enter Tryz.func175,Tryz.ntmps175
    go_wp2_with fail
    refine VA.mono ?_;rintro e w1 ⟨rfl,hb⟩;replace hb:=zh hb;go_wp2_with fail
    refine (VB.out _ hb.out).mono ?_;rintro e w2 ⟨rfl,h2⟩;have A2:=zd hb h2;clear h2 hb;go_wp2
    go_ret2
    rw [r2.out];exact ⟨⟨_,rfl,Sl.none _ _,cap_nil⟩,A2.out⟩
  rw [q] at VB;have la:=va_len p;have lb:=va_len q;have ST:=zh (fun (i j:Nat) (fr:Int) (kp:Bool) (R:List Sp) (N:Int) (S:SwI k A B i j fr kp R N) (h:i<2 * A.length∨j<2 * B.length) (i' j':Nat) (hi:i'=if edL A i=N then i+1 else i) (hj:j'=if edL B j=N then j+1 else j) (kp':Bool) (hk:kp'=kpB k (decide (i' % 2=1)) (decide (j' % 2=1)))=>sw_step (va_cn p) (va_ln p) (va_cn q) (va_ln q) S h hi hj hk);have S0:=zh (sw_start (k:=k) (va_cn p) (va_ln p) (va_cn q) (va_ln q));have SE:=zh (fun (i j:Nat) (fr:Int) (kp:Bool) (R:List Sp) (N:Int) (S:SwI k A B i j fr kp R N) (hi:2 * A.length≤i) (hj:2 * B.length≤j)=>sw_end (va_ln p) (va_ln q) S hi hj);have EA:=zh (fun x hx W (h:PairS ba W va A)=>ruend va A p x hx W h);have EB:=zh (fun x hx W (h:PairS bb W vb B)=>ruend vb B q x hx W h);have ED:=zh (fun (i:Nat) (h:i<2 * B.length)=>ed_top (va_cn q) (va_ln q) h);have r0:Hid (ruAp k A B=ruFull (cbL k A B)):=by show _=_;unfold ruAp;rw [p,q];rfl
  obtain ⟨o1,c1,rfl⟩:=prs_shape PA.out;obtain ⟨o2,c2,rfl⟩:=prs_shape PB.out;clear p q;obtain ⟨n,hl⟩:∃ n,A.length=n:=⟨_,rfl⟩;obtain ⟨m,hm⟩:∃ m,B.length=m:=⟨_,rfl⟩;rw [hl] at la ST SE EA VA PA hA;rw [hm] at lb ST SE EB VB PB hB ED;clear hA hB;rw [hl,hm]
  go_enter Tryz.func175,Tryz.ntmps175
  go_wp2_with fail
  refine VA.mono ?_;rintro e w1 ⟨rfl,hb⟩;replace hb:=zh hb;go_wp2_with fail
  refine (VB.out _ hb.out).mono ?_;rintro e w2 ⟨rfl,h2⟩;have A2:=zd hb h2;clear h2 hb VA VB;have I0:Hid (w2.ownsRow w.heap.size 40 2 (.slice none 0 0) ([]:List Sp).length (pairs [])):=World.ownsRow_nil _ _ _ _;go_wp2
  go_loopw [8,9,10,11,12] (fun s i j f kp wr=>∃ (x y:Nat) (fr:Int) (p:Bool) (R:List Sp) (N:Int) (s':Value),s'=s∧i=.int .i64 x∧j=.int .i64 y∧f=.int .i64 fr∧kp=.bool p∧Hid (SwI k A B x y fr p R N)∧Hid (wr.ownsRow w.heap.size 40 2 s R.length (pairs R))∧Hid (Below w.heap.size w wr)) (fun _ i j _ _ _=>2 * n+2 * m - ((intOf i).toNat+(intOf j).toNat))
  case atStart=>exact ⟨0,0,0,false,[],_,_,rfl,rfl,rfl,rfl,rfl,S0,I0,A2⟩
  case round =>
    obtain ⟨x,y,fr,p,R,N,s',rfl,rfl,rfl,rfl,rfl,HS,HO,HA⟩:=hrel;have PA2:=zh (PA.out.keep HA.out);have PB2:=zh (PB.out.keep HA.out);clear A2 I0 S0;have xn:=HS.out.i1;have ym:=HS.out.j1;have rln:=HS.out.ln;rw [hl] at xn;rw [hm] at ym;obtain ⟨r,rl⟩:∃ r,Hid (R.length=r):=⟨_,rfl⟩;rw [rl.out] at HO rln
    by_cases z:x<2 * n∨y<2 * m
    · have ST:=zh (fun i' j'=>ST.out _ _ _ _ _ _ HS.out z i' j');have HE:=zh (fun W h=>EA.out x xn W h);have HF:=zh (fun W h=>EB.out y ym W h);have n1:=HS.out.n1;have ex:edL A x=N→x<2 * n:=fun h=>by
        rcases Nat.lt_or_ge x (2 * n) with z' | z'
        · exact z'
        · rw [ed_off (by omega)] at h
          rcases z with z | z
          · exact z
          · have:=ED.out y z;rw [n1] at h
            split at h <;> omega
      obtain ⟨x1,hx1⟩:∃ x1:Nat,x+1=x1:=⟨_,rfl⟩;obtain ⟨y1,hy1⟩:∃ y1:Nat,y+1=y1:=⟨_,rfl⟩;have cx:(x:Int)+1=(x1:Int):=by omega
      have cy:(y:Int)+1=(y1:Int):=by omega
      obtain ⟨ea,ha⟩:∃ ea,Hid (edL A x=ea):=⟨_,rfl⟩;obtain ⟨eb,hb⟩:∃ eb,Hid (edL B y=eb):=⟨_,rfl⟩;rw [ha.out] at HE ex n1;rw [hb.out] at HF n1;have nn:(if eb<ea then eb else ea)=N:=n1.symm;have some1:ea=N∨eb=N:=by rw [n1];split <;> simp
      clear n1 EA EB SE ED r0 HS
      by_cases e1:ea=N
      · have z1:=ex e1;have k1:decide ((x:Int)<2 * (n:Int))=true:=zdt (by omega);clear ex z some1
        by_cases e2:eb=N
        · skip
          have q1:(ea==N)=true:=beq_iff_eq.2 e1;have q2:(eb==N)=true:=beq_iff_eq.2 e2;have S1:=ST.out x1 y1 (by rw [if_pos (ha.out.trans e1)];omega) (by rw [if_pos (hb.out.trans e2)];omega) _ rfl;obtain ⟨S2,more⟩:=S1;have HX:=zh (fun W=>ruinside x1 (by omega) W);have HY:=zh (fun W=>ruinside y1 (by omega) W);have HK:=zh (fun W=>hg (decide (x1 % 2=1)) (decide (y1 % 2=1)) W);replace S2:=zh S2;clear e1 e2 ST ha hb;generalize decide (x1 % 2=1)=ox at *;generalize decide (y1 % 2=1)=oy at *;generalize kpB k ox oy=p' at *
          cases p <;> cases p'
          · skip
            replace S2:Hid (SwI k A B x1 y1 fr false R _):=S2;go_wp2_with fail
            refine (HE.out _ PA2.out).mono ?_;rintro e z1 ⟨rfl,rfl⟩;go_wp2_with fail
            refine (HF.out _ PB2.out).mono ?_;rintro e z1 ⟨rfl,rfl⟩;go_wp2_with fail
            refine (HE.out _ PA2.out).mono ?_;rintro e z1 ⟨rfl,rfl⟩;go_wp2_with fail
            refine (HF.out _ PB2.out).mono ?_;rintro e z1 ⟨rfl,rfl⟩;go_wp2_with fail
            refine (HX.out _).mono ?_;rintro e z1 ⟨rfl,rfl⟩;go_wp2_with fail
            refine (HY.out _).mono ?_;rintro e z1 ⟨rfl,rfl⟩;have O4:Hid (wr.ownsRow w.heap.size 40 2 s' R.length (pairs R)):=by show World.ownsRow _ _ _ _ _ _ _;rw [rl.out];exact HO.out
            go_wp2_with (go_at_fn g;refine (HK.out _).mono ?_;rintro e z1 ⟨rfl,rfl⟩)
            go_roundw
            case rel=>exact ⟨x1,y1,fr,false,_,_,_,rfl,rfl,rfl,rfl,rfl,S2,O4,HA⟩
            case measure=>simp [intOf];omega
          · skip
            replace S2:Hid (SwI k A B x1 y1 N true R _):=S2;go_wp2_with fail
            refine (HE.out _ PA2.out).mono ?_;rintro e z1 ⟨rfl,rfl⟩;go_wp2_with fail
            refine (HF.out _ PB2.out).mono ?_;rintro e z1 ⟨rfl,rfl⟩;go_wp2_with fail
            refine (HE.out _ PA2.out).mono ?_;rintro e z1 ⟨rfl,rfl⟩;go_wp2_with fail
            refine (HF.out _ PB2.out).mono ?_;rintro e z1 ⟨rfl,rfl⟩;go_wp2_with fail
            refine (HX.out _).mono ?_;rintro e z1 ⟨rfl,rfl⟩;go_wp2_with fail
            refine (HY.out _).mono ?_;rintro e z1 ⟨rfl,rfl⟩;have O4:Hid (wr.ownsRow w.heap.size 40 2 s' R.length (pairs R)):=by show World.ownsRow _ _ _ _ _ _ _;rw [rl.out];exact HO.out
            go_wp2_with (go_at_fn g;refine (HK.out _).mono ?_;rintro e z1 ⟨rfl,rfl⟩)
            go_roundw
            case rel=>exact ⟨x1,y1,N,true,_,_,_,rfl,rfl,rfl,rfl,rfl,S2,O4,HA⟩
            case measure=>simp [intOf];omega
          · skip
            replace S2:Hid (SwI k A B x1 y1 fr false (R++[(fr,N)]) _):=S2;go_wp2_with fail
            refine (HE.out _ PA2.out).mono ?_;rintro e z1 ⟨rfl,rfl⟩;go_wp2_with fail
            refine (HF.out _ PB2.out).mono ?_;rintro e z1 ⟨rfl,rfl⟩;go_wp2_with fail
            refine (HE.out _ PA2.out).mono ?_;rintro e z1 ⟨rfl,rfl⟩;go_wp2_with fail
            refine (HF.out _ PB2.out).mono ?_;rintro e z1 ⟨rfl,rfl⟩;go_wp2_with fail
            refine (HX.out _).mono ?_;rintro e z1 ⟨rfl,rfl⟩;go_wp2_with fail
            refine (HY.out _).mono ?_;rintro e z1 ⟨rfl,rfl⟩;go_wp2_with (first | (go_at_fn g;refine (HK.out _).mono ?_;rintro e z1 ⟨rfl,rfl⟩) | (at_builtin;refine wpList_append_own _ rfl _ _ 22 rfl w.heap.size 40 i0 (.agg #[.int .i64 0,.int .i64 0]) 2 16 Tryz.underlying22 hi hz0 hz1 hz2 rfl (by decide) s' r (pairs R) rfl (HO.out.alloc _) ⟨wr.heap.size,0,none⟩ 1 1 [.int .i64 fr,.int .i64 N] rfl rfl ?c1 ?c2 ?c3 ?c4 ?c5 ?_))
            case c1=>intro j u hj;rw [Addr.add_lit,Nat.zero_add,World.cell?_alloc_new];simpa using hj
            case c2=>intro u hu;simp at hu;rcases hu with rfl | rfl <;> rfl
            case c3=>unfold maxLen;omega
            case c4=>omega
            case c5=>have:=HA.out.size;simp;omega
            intro v4 w4 hown hgrow _;have B4:Hid (Below w.heap.size w w4):=(HA.out.alloc HA.out.size _).grown hgrow (by have:=HA.out.size;simp;omega) (own_ge HO.out);have O4:Hid (w4.ownsRow w.heap.size 40 2 v4 (R++[(fr,N)]).length (pairs (R++[(fr,N)]))):=by show World.ownsRow _ _ _ _ _ _ _;rw [List.length_append,rl.out,pairs_append];exact hown
            clear hown hgrow;go_wp2
            go_roundw
            case rel=>exact ⟨x1,y1,fr,false,_,_,_,rfl,rfl,rfl,rfl,rfl,S2,O4,B4⟩
            case measure=>simp [intOf];omega
          · skip
            replace S2:Hid (SwI k A B x1 y1 fr true R _):=S2;go_wp2_with fail
            refine (HE.out _ PA2.out).mono ?_;rintro e z1 ⟨rfl,rfl⟩;go_wp2_with fail
            refine (HF.out _ PB2.out).mono ?_;rintro e z1 ⟨rfl,rfl⟩;go_wp2_with fail
            refine (HE.out _ PA2.out).mono ?_;rintro e z1 ⟨rfl,rfl⟩;go_wp2_with fail
            refine (HF.out _ PB2.out).mono ?_;rintro e z1 ⟨rfl,rfl⟩;go_wp2_with fail
            refine (HX.out _).mono ?_;rintro e z1 ⟨rfl,rfl⟩;go_wp2_with fail
            refine (HY.out _).mono ?_;rintro e z1 ⟨rfl,rfl⟩;have O4:Hid (wr.ownsRow w.heap.size 40 2 s' R.length (pairs R)):=by show World.ownsRow _ _ _ _ _ _ _;rw [rl.out];exact HO.out
            go_wp2_with (go_at_fn g;refine (HK.out _).mono ?_;rintro e z1 ⟨rfl,rfl⟩)
            go_roundw
            case rel=>exact ⟨x1,y1,fr,true,_,_,_,rfl,rfl,rfl,rfl,rfl,S2,O4,HA⟩
            case measure=>simp [intOf];omega
        · skip
          have q1:(ea==N)=true:=beq_iff_eq.2 e1;have q2:(eb==N)=false:=by rw [beq_eq_false_iff_ne];exact e2
          have S1:=ST.out x1 y (by rw [if_pos (ha.out.trans e1)];omega) (by rw [if_neg (fun h=>e2 (hb.out.symm.trans h))]) _ rfl;obtain ⟨S2,more⟩:=S1;have HX:=zh (fun W=>ruinside x1 (by omega) W);have HY:=zh (fun W=>ruinside y (by omega) W);have HK:=zh (fun W=>hg (decide (x1 % 2=1)) (decide (y % 2=1)) W);replace S2:=zh S2;clear e1 e2 ST ha hb;generalize decide (x1 % 2=1)=ox at *;generalize decide (y % 2=1)=oy at *;generalize kpB k ox oy=p' at *
          cases p <;> cases p'
          · skip
            replace S2:Hid (SwI k A B x1 y fr false R _):=S2;go_wp2_with fail
            refine (HE.out _ PA2.out).mono ?_;rintro e z1 ⟨rfl,rfl⟩;go_wp2_with fail
            refine (HF.out _ PB2.out).mono ?_;rintro e z1 ⟨rfl,rfl⟩;go_wp2_with fail
            refine (HE.out _ PA2.out).mono ?_;rintro e z1 ⟨rfl,rfl⟩;go_wp2_with fail
            refine (HF.out _ PB2.out).mono ?_;rintro e z1 ⟨rfl,rfl⟩;go_wp2_with fail
            refine (HX.out _).mono ?_;rintro e z1 ⟨rfl,rfl⟩;go_wp2_with fail
            refine (HY.out _).mono ?_;rintro e z1 ⟨rfl,rfl⟩;have O4:Hid (wr.ownsRow w.heap.size 40 2 s' R.length (pairs R)):=by show World.ownsRow _ _ _ _ _ _ _;rw [rl.out];exact HO.out
            go_wp2_with (go_at_fn g;refine (HK.out _).mono ?_;rintro e z1 ⟨rfl,rfl⟩)
            go_roundw
            case rel=>exact ⟨x1,y,fr,false,_,_,_,rfl,rfl,rfl,rfl,rfl,S2,O4,HA⟩
            case measure=>simp [intOf];omega
          · skip
            replace S2:Hid (SwI k A B x1 y N true R _):=S2;go_wp2_with fail
            refine (HE.out _ PA2.out).mono ?_;rintro e z1 ⟨rfl,rfl⟩;go_wp2_with fail
            refine (HF.out _ PB2.out).mono ?_;rintro e z1 ⟨rfl,rfl⟩;go_wp2_with fail
            refine (HE.out _ PA2.out).mono ?_;rintro e z1 ⟨rfl,rfl⟩;go_wp2_with fail
            refine (HF.out _ PB2.out).mono ?_;rintro e z1 ⟨rfl,rfl⟩;go_wp2_with fail
            refine (HX.out _).mono ?_;rintro e z1 ⟨rfl,rfl⟩;go_wp2_with fail
            refine (HY.out _).mono ?_;rintro e z1 ⟨rfl,rfl⟩;have O4:Hid (wr.ownsRow w.heap.size 40 2 s' R.length (pairs R)):=by show World.ownsRow _ _ _ _ _ _ _;rw [rl.out];exact HO.out
            go_wp2_with (go_at_fn g;refine (HK.out _).mono ?_;rintro e z1 ⟨rfl,rfl⟩)
            go_roundw
            case rel=>exact ⟨x1,y,N,true,_,_,_,rfl,rfl,rfl,rfl,rfl,S2,O4,HA⟩
            case measure=>simp [intOf];omega
          · skip
            replace S2:Hid (SwI k A B x1 y fr false (R++[(fr,N)]) _):=S2;go_wp2_with fail
            refine (HE.out _ PA2.out).mono ?_;rintro e z1 ⟨rfl,rfl⟩;go_wp2_with fail
            refine (HF.out _ PB2.out).mono ?_;rintro e z1 ⟨rfl,rfl⟩;go_wp2_with fail
            refine (HE.out _ PA2.out).mono ?_;rintro e z1 ⟨rfl,rfl⟩;go_wp2_with fail
            refine (HF.out _ PB2.out).mono ?_;rintro e z1 ⟨rfl,rfl⟩;go_wp2_with fail
            refine (HX.out _).mono ?_;rintro e z1 ⟨rfl,rfl⟩;go_wp2_with fail
            refine (HY.out _).mono ?_;rintro e z1 ⟨rfl,rfl⟩;go_wp2_with (first | (go_at_fn g;refine (HK.out _).mono ?_;rintro e z1 ⟨rfl,rfl⟩) | (at_builtin;refine wpList_append_own _ rfl _ _ 22 rfl w.heap.size 40 i0 (.agg #[.int .i64 0,.int .i64 0]) 2 16 Tryz.underlying22 hi hz0 hz1 hz2 rfl (by decide) s' r (pairs R) rfl (HO.out.alloc _) ⟨wr.heap.size,0,none⟩ 1 1 [.int .i64 fr,.int .i64 N] rfl rfl ?c1 ?c2 ?c3 ?c4 ?c5 ?_))
            case c1=>intro j u hj;rw [Addr.add_lit,Nat.zero_add,World.cell?_alloc_new];simpa using hj
            case c2=>intro u hu;simp at hu;rcases hu with rfl | rfl <;> rfl
            case c3=>unfold maxLen;omega
            case c4=>omega
            case c5=>have:=HA.out.size;simp;omega
            intro v4 w4 hown hgrow _;have B4:Hid (Below w.heap.size w w4):=(HA.out.alloc HA.out.size _).grown hgrow (by have:=HA.out.size;simp;omega) (own_ge HO.out);have O4:Hid (w4.ownsRow w.heap.size 40 2 v4 (R++[(fr,N)]).length (pairs (R++[(fr,N)]))):=by show World.ownsRow _ _ _ _ _ _ _;rw [List.length_append,rl.out,pairs_append];exact hown
            clear hown hgrow;go_wp2
            go_roundw
            case rel=>exact ⟨x1,y,fr,false,_,_,_,rfl,rfl,rfl,rfl,rfl,S2,O4,B4⟩
            case measure=>simp [intOf];omega
          · skip
            replace S2:Hid (SwI k A B x1 y fr true R _):=S2;go_wp2_with fail
            refine (HE.out _ PA2.out).mono ?_;rintro e z1 ⟨rfl,rfl⟩;go_wp2_with fail
            refine (HF.out _ PB2.out).mono ?_;rintro e z1 ⟨rfl,rfl⟩;go_wp2_with fail
            refine (HE.out _ PA2.out).mono ?_;rintro e z1 ⟨rfl,rfl⟩;go_wp2_with fail
            refine (HF.out _ PB2.out).mono ?_;rintro e z1 ⟨rfl,rfl⟩;go_wp2_with fail
            refine (HX.out _).mono ?_;rintro e z1 ⟨rfl,rfl⟩;go_wp2_with fail
            refine (HY.out _).mono ?_;rintro e z1 ⟨rfl,rfl⟩;have O4:Hid (wr.ownsRow w.heap.size 40 2 s' R.length (pairs R)):=by show World.ownsRow _ _ _ _ _ _ _;rw [rl.out];exact HO.out
            go_wp2_with (go_at_fn g;refine (HK.out _).mono ?_;rintro e z1 ⟨rfl,rfl⟩)
            go_roundw
            case rel=>exact ⟨x1,y,fr,true,_,_,_,rfl,rfl,rfl,rfl,rfl,S2,O4,HA⟩
            case measure=>simp [intOf];omega
      · have e2:eb=N:=some1.resolve_left e1;clear ex some1
        by_cases z1:x<2 * n
        · have k1:decide ((x:Int)<2 * (n:Int))=true:=zdt (by omega);clear z;have q1:(ea==N)=false:=by rw [beq_eq_false_iff_ne];exact e1
          have q2:(eb==N)=true:=beq_iff_eq.2 e2;have S1:=ST.out x y1 (by rw [if_neg (fun h=>e1 (ha.out.symm.trans h))]) (by rw [if_pos (hb.out.trans e2)];omega) _ rfl;obtain ⟨S2,more⟩:=S1;have HX:=zh (fun W=>ruinside x (by omega) W);have HY:=zh (fun W=>ruinside y1 (by omega) W);have HK:=zh (fun W=>hg (decide (x % 2=1)) (decide (y1 % 2=1)) W);replace S2:=zh S2;clear e1 e2 ST ha hb;generalize decide (x % 2=1)=ox at *;generalize decide (y1 % 2=1)=oy at *;generalize kpB k ox oy=p' at *
          cases p <;> cases p'
          · skip
            replace S2:Hid (SwI k A B x y1 fr false R _):=S2;go_wp2_with fail
            refine (HE.out _ PA2.out).mono ?_;rintro e z1 ⟨rfl,rfl⟩;go_wp2_with fail
            refine (HF.out _ PB2.out).mono ?_;rintro e z1 ⟨rfl,rfl⟩;go_wp2_with fail
            refine (HE.out _ PA2.out).mono ?_;rintro e z1 ⟨rfl,rfl⟩;go_wp2_with fail
            refine (HF.out _ PB2.out).mono ?_;rintro e z1 ⟨rfl,rfl⟩;go_wp2_with fail
            refine (HX.out _).mono ?_;rintro e z1 ⟨rfl,rfl⟩;go_wp2_with fail
            refine (HY.out _).mono ?_;rintro e z1 ⟨rfl,rfl⟩;have O4:Hid (wr.ownsRow w.heap.size 40 2 s' R.length (pairs R)):=by show World.ownsRow _ _ _ _ _ _ _;rw [rl.out];exact HO.out
            go_wp2_with (go_at_fn g;refine (HK.out _).mono ?_;rintro e z1 ⟨rfl,rfl⟩)
            go_roundw
            case rel=>exact ⟨x,y1,fr,false,_,_,_,rfl,rfl,rfl,rfl,rfl,S2,O4,HA⟩
            case measure=>simp [intOf];omega
          · skip
            replace S2:Hid (SwI k A B x y1 N true R _):=S2;go_wp2_with fail
            refine (HE.out _ PA2.out).mono ?_;rintro e z1 ⟨rfl,rfl⟩;go_wp2_with fail
            refine (HF.out _ PB2.out).mono ?_;rintro e z1 ⟨rfl,rfl⟩;go_wp2_with fail
            refine (HE.out _ PA2.out).mono ?_;rintro e z1 ⟨rfl,rfl⟩;go_wp2_with fail
            refine (HF.out _ PB2.out).mono ?_;rintro e z1 ⟨rfl,rfl⟩;go_wp2_with fail
            refine (HX.out _).mono ?_;rintro e z1 ⟨rfl,rfl⟩;go_wp2_with fail
            refine (HY.out _).mono ?_;rintro e z1 ⟨rfl,rfl⟩;have O4:Hid (wr.ownsRow w.heap.size 40 2 s' R.length (pairs R)):=by show World.ownsRow _ _ _ _ _ _ _;rw [rl.out];exact HO.out
            go_wp2_with (go_at_fn g;refine (HK.out _).mono ?_;rintro e z1 ⟨rfl,rfl⟩)
            go_roundw
            case rel=>exact ⟨x,y1,N,true,_,_,_,rfl,rfl,rfl,rfl,rfl,S2,O4,HA⟩
            case measure=>simp [intOf];omega
          · skip
            replace S2:Hid (SwI k A B x y1 fr false (R++[(fr,N)]) _):=S2;go_wp2_with fail
            refine (HE.out _ PA2.out).mono ?_;rintro e z1 ⟨rfl,rfl⟩;go_wp2_with fail
            refine (HF.out _ PB2.out).mono ?_;rintro e z1 ⟨rfl,rfl⟩;go_wp2_with fail
            refine (HE.out _ PA2.out).mono ?_;rintro e z1 ⟨rfl,rfl⟩;go_wp2_with fail
            refine (HF.out _ PB2.out).mono ?_;rintro e z1 ⟨rfl,rfl⟩;go_wp2_with fail
            refine (HX.out _).mono ?_;rintro e z1 ⟨rfl,rfl⟩;go_wp2_with fail
            refine (HY.out _).mono ?_;rintro e z1 ⟨rfl,rfl⟩;go_wp2_with (first | (go_at_fn g;refine (HK.out _).mono ?_;rintro e z1 ⟨rfl,rfl⟩) | (at_builtin;refine wpList_append_own _ rfl _ _ 22 rfl w.heap.size 40 i0 (.agg #[.int .i64 0,.int .i64 0]) 2 16 Tryz.underlying22 hi hz0 hz1 hz2 rfl (by decide) s' r (pairs R) rfl (HO.out.alloc _) ⟨wr.heap.size,0,none⟩ 1 1 [.int .i64 fr,.int .i64 N] rfl rfl ?c1 ?c2 ?c3 ?c4 ?c5 ?_))
            case c1=>intro j u hj;rw [Addr.add_lit,Nat.zero_add,World.cell?_alloc_new];simpa using hj
            case c2=>intro u hu;simp at hu;rcases hu with rfl | rfl <;> rfl
            case c3=>unfold maxLen;omega
            case c4=>omega
            case c5=>have:=HA.out.size;simp;omega
            intro v4 w4 hown hgrow _;have B4:Hid (Below w.heap.size w w4):=(HA.out.alloc HA.out.size _).grown hgrow (by have:=HA.out.size;simp;omega) (own_ge HO.out);have O4:Hid (w4.ownsRow w.heap.size 40 2 v4 (R++[(fr,N)]).length (pairs (R++[(fr,N)]))):=by show World.ownsRow _ _ _ _ _ _ _;rw [List.length_append,rl.out,pairs_append];exact hown
            clear hown hgrow;go_wp2
            go_roundw
            case rel=>exact ⟨x,y1,fr,false,_,_,_,rfl,rfl,rfl,rfl,rfl,S2,O4,B4⟩
            case measure=>simp [intOf];omega
          · skip
            replace S2:Hid (SwI k A B x y1 fr true R _):=S2;go_wp2_with fail
            refine (HE.out _ PA2.out).mono ?_;rintro e z1 ⟨rfl,rfl⟩;go_wp2_with fail
            refine (HF.out _ PB2.out).mono ?_;rintro e z1 ⟨rfl,rfl⟩;go_wp2_with fail
            refine (HE.out _ PA2.out).mono ?_;rintro e z1 ⟨rfl,rfl⟩;go_wp2_with fail
            refine (HF.out _ PB2.out).mono ?_;rintro e z1 ⟨rfl,rfl⟩;go_wp2_with fail
            refine (HX.out _).mono ?_;rintro e z1 ⟨rfl,rfl⟩;go_wp2_with fail
            refine (HY.out _).mono ?_;rintro e z1 ⟨rfl,rfl⟩;have O4:Hid (wr.ownsRow w.heap.size 40 2 s' R.length (pairs R)):=by show World.ownsRow _ _ _ _ _ _ _;rw [rl.out];exact HO.out
            go_wp2_with (go_at_fn g;refine (HK.out _).mono ?_;rintro e z1 ⟨rfl,rfl⟩)
            go_roundw
            case rel=>exact ⟨x,y1,fr,true,_,_,_,rfl,rfl,rfl,rfl,rfl,S2,O4,HA⟩
            case measure=>simp [intOf];omega
        · have k1:decide ((x:Int)<2 * (n:Int))=false:=zdf (by omega);have y2:y<2 * m:=by omega
          have k2:decide ((y:Int)<2 * (m:Int))=true:=zdt (by omega);clear z;have q1:(ea==N)=false:=by rw [beq_eq_false_iff_ne];exact e1
          have q2:(eb==N)=true:=beq_iff_eq.2 e2;have S1:=ST.out x y1 (by rw [if_neg (fun h=>e1 (ha.out.symm.trans h))]) (by rw [if_pos (hb.out.trans e2)];omega) _ rfl;obtain ⟨S2,more⟩:=S1;have HX:=zh (fun W=>ruinside x (by omega) W);have HY:=zh (fun W=>ruinside y1 (by omega) W);have HK:=zh (fun W=>hg (decide (x % 2=1)) (decide (y1 % 2=1)) W);replace S2:=zh S2;clear e1 e2 ST ha hb;generalize decide (x % 2=1)=ox at *;generalize decide (y1 % 2=1)=oy at *;generalize kpB k ox oy=p' at *
          cases p <;> cases p'
          · skip
            replace S2:Hid (SwI k A B x y1 fr false R _):=S2;go_wp2_with fail
            refine (HE.out _ PA2.out).mono ?_;rintro e z1 ⟨rfl,rfl⟩;go_wp2_with fail
            refine (HF.out _ PB2.out).mono ?_;rintro e z1 ⟨rfl,rfl⟩;go_wp2_with fail
            refine (HE.out _ PA2.out).mono ?_;rintro e z1 ⟨rfl,rfl⟩;go_wp2_with fail
            refine (HF.out _ PB2.out).mono ?_;rintro e z1 ⟨rfl,rfl⟩;go_wp2_with fail
            refine (HX.out _).mono ?_;rintro e z1 ⟨rfl,rfl⟩;go_wp2_with fail
            refine (HY.out _).mono ?_;rintro e z1 ⟨rfl,rfl⟩;have O4:Hid (wr.ownsRow w.heap.size 40 2 s' R.length (pairs R)):=by show World.ownsRow _ _ _ _ _ _ _;rw [rl.out];exact HO.out
            go_wp2_with (go_at_fn g;refine (HK.out _).mono ?_;rintro e z1 ⟨rfl,rfl⟩)
            go_roundw
            case rel=>exact ⟨x,y1,fr,false,_,_,_,rfl,rfl,rfl,rfl,rfl,S2,O4,HA⟩
            case measure=>simp [intOf];omega
          · skip
            replace S2:Hid (SwI k A B x y1 N true R _):=S2;go_wp2_with fail
            refine (HE.out _ PA2.out).mono ?_;rintro e z1 ⟨rfl,rfl⟩;go_wp2_with fail
            refine (HF.out _ PB2.out).mono ?_;rintro e z1 ⟨rfl,rfl⟩;go_wp2_with fail
            refine (HE.out _ PA2.out).mono ?_;rintro e z1 ⟨rfl,rfl⟩;go_wp2_with fail
            refine (HF.out _ PB2.out).mono ?_;rintro e z1 ⟨rfl,rfl⟩;go_wp2_with fail
            refine (HX.out _).mono ?_;rintro e z1 ⟨rfl,rfl⟩;go_wp2_with fail
            refine (HY.out _).mono ?_;rintro e z1 ⟨rfl,rfl⟩;have O4:Hid (wr.ownsRow w.heap.size 40 2 s' R.length (pairs R)):=by show World.ownsRow _ _ _ _ _ _ _;rw [rl.out];exact HO.out
            go_wp2_with (go_at_fn g;refine (HK.out _).mono ?_;rintro e z1 ⟨rfl,rfl⟩)
            go_roundw
            case rel=>exact ⟨x,y1,N,true,_,_,_,rfl,rfl,rfl,rfl,rfl,S2,O4,HA⟩
            case measure=>simp [intOf];omega
          · skip
            replace S2:Hid (SwI k A B x y1 fr false (R++[(fr,N)]) _):=S2;go_wp2_with fail
            refine (HE.out _ PA2.out).mono ?_;rintro e z1 ⟨rfl,rfl⟩;go_wp2_with fail
            refine (HF.out _ PB2.out).mono ?_;rintro e z1 ⟨rfl,rfl⟩;go_wp2_with fail
            refine (HE.out _ PA2.out).mono ?_;rintro e z1 ⟨rfl,rfl⟩;go_wp2_with fail
            refine (HF.out _ PB2.out).mono ?_;rintro e z1 ⟨rfl,rfl⟩;go_wp2_with fail
            refine (HX.out _).mono ?_;rintro e z1 ⟨rfl,rfl⟩;go_wp2_with fail
            refine (HY.out _).mono ?_;rintro e z1 ⟨rfl,rfl⟩;go_wp2_with (first | (go_at_fn g;refine (HK.out _).mono ?_;rintro e z1 ⟨rfl,rfl⟩) | (at_builtin;refine wpList_append_own _ rfl _ _ 22 rfl w.heap.size 40 i0 (.agg #[.int .i64 0,.int .i64 0]) 2 16 Tryz.underlying22 hi hz0 hz1 hz2 rfl (by decide) s' r (pairs R) rfl (HO.out.alloc _) ⟨wr.heap.size,0,none⟩ 1 1 [.int .i64 fr,.int .i64 N] rfl rfl ?c1 ?c2 ?c3 ?c4 ?c5 ?_))
            case c1=>intro j u hj;rw [Addr.add_lit,Nat.zero_add,World.cell?_alloc_new];simpa using hj
            case c2=>intro u hu;simp at hu;rcases hu with rfl | rfl <;> rfl
            case c3=>unfold maxLen;omega
            case c4=>omega
            case c5=>have:=HA.out.size;simp;omega
            intro v4 w4 hown hgrow _;have B4:Hid (Below w.heap.size w w4):=(HA.out.alloc HA.out.size _).grown hgrow (by have:=HA.out.size;simp;omega) (own_ge HO.out);have O4:Hid (w4.ownsRow w.heap.size 40 2 v4 (R++[(fr,N)]).length (pairs (R++[(fr,N)]))):=by show World.ownsRow _ _ _ _ _ _ _;rw [List.length_append,rl.out,pairs_append];exact hown
            clear hown hgrow;go_wp2
            go_roundw
            case rel=>exact ⟨x,y1,fr,false,_,_,_,rfl,rfl,rfl,rfl,rfl,S2,O4,B4⟩
            case measure=>simp [intOf];omega
          · skip
            replace S2:Hid (SwI k A B x y1 fr true R _):=S2;go_wp2_with fail
            refine (HE.out _ PA2.out).mono ?_;rintro e z1 ⟨rfl,rfl⟩;go_wp2_with fail
            refine (HF.out _ PB2.out).mono ?_;rintro e z1 ⟨rfl,rfl⟩;go_wp2_with fail
            refine (HE.out _ PA2.out).mono ?_;rintro e z1 ⟨rfl,rfl⟩;go_wp2_with fail
            refine (HF.out _ PB2.out).mono ?_;rintro e z1 ⟨rfl,rfl⟩;go_wp2_with fail
            refine (HX.out _).mono ?_;rintro e z1 ⟨rfl,rfl⟩;go_wp2_with fail
            refine (HY.out _).mono ?_;rintro e z1 ⟨rfl,rfl⟩;have O4:Hid (wr.ownsRow w.heap.size 40 2 s' R.length (pairs R)):=by show World.ownsRow _ _ _ _ _ _ _;rw [rl.out];exact HO.out
            go_wp2_with (go_at_fn g;refine (HK.out _).mono ?_;rintro e z1 ⟨rfl,rfl⟩)
            go_roundw
            case rel=>exact ⟨x,y1,fr,true,_,_,_,rfl,rfl,rfl,rfl,rfl,S2,O4,HA⟩
            case measure=>simp [intOf];omega
    · have k1:decide ((x:Int)<2 * (n:Int))=false:=zdf (by omega);have k2:decide ((y:Int)<2 * (m:Int))=false:=zdf (by omega);have e:=SE.out _ _ _ _ _ _ HS.out (by omega) (by omega);have r2:Hid (ruAp k A B=ruFull R):=by show _=_;rw [r0.out,e]
      obtain ⟨o3,c3,rfl⟩:=(Sl.owns HO.out).shape;have CP:=zh (cap_own HO.out);have LI:=zh (fun W=>rulimited o3 r c3 (by unfold maxLen;omega) W);have FU:Hid (ruFull R=if 2000<r then ([],5) else (R,0)):=by show _=_;unfold ruFull;rw [rl.out]
      clear e SE ST EA EB r0 HS z
      by_cases u:2000<r
      · rw [if_pos u] at LI FU;clear u;go_wp2_with fail
        refine (LI.out _).mono ?_;rintro e w5 ⟨rfl,rfl⟩;go_wp2
        go_ret2
        rw [r2.out,FU.out];exact ⟨⟨_,rfl,Sl.none _ _,cap_nil⟩,HA.out⟩
      · rw [if_neg u] at LI FU;have P5:Hid (PairS w.heap.size wr (.slice o3 r c3) R):=by show Sl _ _ _ _ _;rw [rl.out];exact Sl.owns HO.out
        clear u;go_wp2_with fail
        refine (LI.out _).mono ?_;rintro e w5 ⟨rfl,rfl⟩;go_wp2
        go_ret2
        rw [r2.out,FU.out];exact ⟨⟨_,rfl,P5.out,CP.out⟩,HA.out⟩
end Go.Proofs.YtmamlgaogpkagaaGreat
