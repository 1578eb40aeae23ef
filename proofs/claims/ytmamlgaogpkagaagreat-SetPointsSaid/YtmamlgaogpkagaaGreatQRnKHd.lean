/- RnKHd. -/
import Derived.Test.YtmamlgaogpkagaaGreatQLPlain
import Derived.Test.YtmamlgaogpkagaaGreatQLIvMa
import Derived.Test.YtmamlgaogpkagaaGreatQLGen
import Derived.Test.YtmamlgaogpkagaaGreatQLSl
import Derived.Test.YtmamlgaogpkagaaGreatQLIvBa
import Derived.Test.YtmamlgaogpkagaaGreatQRnV
import Derived.Test.YtmamlgaogpkagaaGreatQRnKA
import Derived.Test.YtmamlgaogpkagaaGreatQRnZ
import Derived.Lay
import Derived.Deep.LoopGhost
import Derived.Shelf.RegionOpenPlain
namespace Go.Proofs.YtmamlgaogpkagaaGreat
open Go.RowKit
set_option linter.unusedVariables false
set_option linter.unusedSimpArgs false
set_option maxRecDepth 100000 in
set_option maxHeartbeats 2000000 in
theorem rumove (va:Value) (A:List Sp) (hA:A.length≤maxLen) {ba:Nat} (n:Int) (hn:I64 n) (w:World) (a:PairS ba w va A) :
    Calls Tryz.prog 86 #[va,.int .i64 n] w fun e w'=>(∃ v',e=.returned (.tuple #[v',.int .i64 (moV A n).2])∧PairS w.heap.size w' v' (moV A n).1)∧Below w.heap.size w w':=by
  have hn':=hn;obtain ⟨n0,n1⟩:=hn;obtain ⟨i0,hi,hz0,hz1,hz2⟩:=info_parts infoS;have VA:=ruvalid va A hA w a;have HL:=zh a
  cases p:vaB A
  · rw [p] at VA;have r2:Hid (moV A n=([],1)):=by show _=_;unfold moV;rw [p];rfl
    clear p a HL
    go_enter Tryz.func86,Tryz.ntmps86
    go_wp2_with fail
    refine VA.mono ?_;rintro e w1 ⟨rfl,hb⟩;replace hb:=zh hb;go_wp2
    go_ret2
    rw [r2.out];exact ⟨⟨_,rfl,Sl.none _ _⟩,hb.out⟩
  rw [p] at VA
  by_cases t:n < -8796093022208
  · have tk:decide (n < -8796093022208)=true:=zdt t;have r2:Hid (moV A n=([],2)):=by show _=_;unfold moV;rw [p,tk,Bool.or_true];rfl
    clear p a HL
    go_enter Tryz.func86,Tryz.ntmps86
    go_wp2_with fail
    refine VA.mono ?_;rintro e w1 ⟨rfl,hb⟩;replace hb:=zh hb;go_wp2
    go_ret2
    rw [r2.out];exact ⟨⟨_,rfl,Sl.none _ _⟩,hb.out⟩
  have tk:decide (n < -8796093022208)=false:=zdf t
  by_cases u:8796093022208<n
  · have uk:decide (8796093022208<n)=true:=zdt u;have r2:Hid (moV A n=([],2)):=by show _=_;unfold moV;rw [p,uk,Bool.true_or];rfl
    clear p a HL
    go_enter Tryz.func86,Tryz.ntmps86
    go_wp2_with fail
    refine VA.mono ?_;rintro e w1 ⟨rfl,hb⟩;replace hb:=zh hb;go_wp2
    go_ret2
    rw [r2.out];exact ⟨⟨_,rfl,Sl.none _ _⟩,hb.out⟩
  have uk:decide (8796093022208<n)=false:=zdf u;have r0:Hid (moV A n=if spsB (shL A n) then (shL A n,0) else ([],2)):=by show _=_;unfold moV;rw [p,uk,tk];rfl
  have la:=va_len p;have AT:=zh (fun k hk=>va_at p (k:=k) hk);have SA:=zh (fun k hk=>sh_at A n (k:=k) hk);have sl:=sh_len A n;obtain ⟨o,c,rfl⟩:=prs_shape a;have SPS:=zh (spsB_at (L:=shL A n));obtain ⟨N,hl⟩:∃ N,A.length=N:=⟨_,rfl⟩;rw [hl] at HL AT SA sl la ⊢;rw [hl] at VA;generalize shL A n=M at *;have TS:=zh (fun k hk=>take_snoc M (k:=k) hk);clear p a hA
  go_enter Tryz.func86,Tryz.ntmps86
  go_wp2_with fail
  refine VA.mono ?_;rintro e w1 ⟨rfl,hb⟩;have A1:=zh hb;have I0:Hid (w1.ownsRow w.heap.size 40 2 (.slice none 0 0) 0 (pairs (M.take 0))):=World.ownsRow_nil _ _ _ _;clear hb VA;go_wp2
  go_loopw [6,24] (fun s i wr=>∃ (k:Nat) (s':Value),s'=s∧k≤N∧i=.int .i64 k∧Hid (∀ j,j<k→spB (M.getD j (0,0))=true)∧Hid (wr.ownsRow w.heap.size 40 2 s k (pairs (M.take k)))∧Hid (Below w.heap.size w wr)) (fun _ i _=>N - (intOf i).toNat)
  case atStart=>exact ⟨0,_,rfl,Nat.zero_le _,rfl,fun j hj=>absurd hj (Nat.not_lt_zero _),I0,A1⟩
  case round =>
    obtain ⟨k,s',rfl,hk,rfl,HU,HO,HA⟩:=hrel;have HP:=zh (HL.out.keep HA.out);clear A1 I0
    by_cases z:k<N
    · obtain ⟨k1,hk1⟩:∃ k1,k+1=k1:=⟨_,rfl⟩;have kz:decide ((k:Int)<(N:Int))=true:=zdt (by omega);obtain ⟨b,off,rfl,bl,cs⟩:=prs_here HP.out (show k<A.length by omega);obtain ⟨c0,c1⟩:=cs k (by omega);obtain ⟨a0,a1,a2⟩:=AT.out k z;have sa:=SA.out k z;have ts:=TS.out k (by omega);rw [sa] at ts;clear cs AT SA TS;generalize A.getD k (0,0)=q at *;obtain ⟨x,y⟩:=q;replace c0:wr.cell? ⟨b,off+k * 2,none⟩=some (.int .i64 x):=c0;replace c1:wr.cell? ⟨b,off+k * 2+1,none⟩=some (.int .i64 y):=c1;replace a0:-4398046511104≤x:=a0;replace a1:y≤4398046511104:=a1;replace a2:x<y:=a2;have iv:ivB x y=true:=ivB_iff.2 ⟨a0,a1,a2⟩;have se:spB (x+n,y+n)=ivB (x+n) (y+n):=by
        rw [Bool.eq_iff_iff,spB_iff,ivB_iff]
      have HM:=zh (fun W=>iumove x y ⟨by omega,by omega⟩ ⟨by omega,by omega⟩ n hn' W);obtain ⟨b0,b1,bl2⟩:=Two.new (here (wr.alloc (.cells #[.int .i64 x,.int .i64 y] 40)));have OW:=zh (HO.out.alloc (.cells #[.int .i64 x,.int .i64 y] 40));have BW:=zh (grow HA.out (.cells #[.int .i64 x,.int .i64 y] 40))
      cases v:spB (x+n,y+n)
      · have e2:mvE x y n=2:=by unfold mvE;rw [iv,if_pos rfl,← se,v];rfl
        have f2:mvF x y n=0:=by unfold mvF;rw [e2];rfl
        have t2:mvT x y n=0:=by unfold mvT;rw [e2];rfl
        rw [e2,f2,t2] at HM;have r2:Hid (moV A n=([],2)):=by
          show _=_;rw [r0.out]
          have:spsB M=false:=by
            rw [← Bool.not_eq_true,SPS.out];intro f;have:=f k (by omega);rw [sa,v] at this;cases this
          rw [this];rfl
        clear v sa ts SPS r0 HU e2 f2 t2 iv se a0 a1 a2 OW;go_wp2_with fail
        refine (HM.out _).mono ?_;rintro e w3 ⟨rfl,hb⟩;have B3:=zh (grow (down BW.out hb) (.cells #[.int .i64 0,.int .i64 0] 40));clear hb b0 b1 bl2 BW c0 c1 bl HP HO HA;go_wp2
        go_ret2
        rw [r2.out];exact ⟨⟨_,rfl,Sl.none _ _⟩,B3.out⟩
      · have e2:mvE x y n=0:=by unfold mvE;rw [iv,if_pos rfl,← se,v];rfl
        have f2:mvF x y n=x+n:=by unfold mvF;rw [e2];rfl
        have t2:mvT x y n=y+n:=by unfold mvT;rw [e2];rfl
        rw [e2,f2,t2] at HM;have HU2:Hid (∀ j,j<k1→spB (M.getD j (0,0))=true):=fun j hj=>by
          rcases Nat.lt_or_ge j k with q | q
          · exact HU.out j q
          · obtain rfl:j=k:=by omega
            rw [sa];exact v
        rw [hk1] at ts;replace ts:=zh ts;clear v sa SPS r0 HU e2 f2 t2 iv se a0 a1 a2;obtain ⟨x',hx'⟩:∃ x',x+n=x':=⟨_,rfl⟩;obtain ⟨y',hy'⟩:∃ y',y+n=y':=⟨_,rfl⟩;rw [hx',hy'] at HM ts;clear hx' hy' u t uk tk;go_wp2_with fail
        refine (HM.out _).mono ?_;rintro e w3 ⟨rfl,hb⟩;obtain ⟨w5,hw5⟩:∃ w5:World,w3.alloc (.cells #[.int .i64 x',.int .i64 y'] 40)=w5:=⟨_,rfl⟩;have B3:=zh (grow (down BW.out hb) (.cells #[.int .i64 x',.int .i64 y'] 40));have O3:=zh ((owns_below OW.out hb).alloc (.cells #[.int .i64 x',.int .i64 y'] 40));clear hb b0 b1 bl2 BW OW c0 c1 bl HP HO HA;have X5:Two w5 w3.heap.size (.int .i64 x') (.int .i64 y'):=by rw [← hw5];exact Two.new (here _)
        obtain ⟨b0,b1,bl2⟩:=X5;rw [hw5] at B3 O3;go_wp2_with (at_builtin;refine wpList_append_own _ rfl _ _ 22 rfl w.heap.size 40 i0 (.agg #[.int .i64 0,.int .i64 0]) 2 16 Tryz.underlying22 hi hz0 hz1 hz2 rfl (by decide) s' k (pairs (M.take k)) rfl (O3.out.alloc _) ⟨w5.heap.size,0,none⟩ 1 1 [.int .i64 x',.int .i64 y'] rfl rfl ?c1 ?c2 ?c3 ?c4 ?c5 ?_)
        case c1=>intro j u hj;rw [Addr.add_lit,Nat.zero_add,World.cell?_alloc_new];simpa using hj
        case c2=>intro u hu;simp at hu;rcases hu with rfl | rfl <;> rfl
        case c3=>unfold maxLen;omega
        case c4=>omega
        case c5=>have:=B3.out.size;simp at this ⊢;omega
        intro v4 w4 hown hgrow _;have B4:Hid (Below w.heap.size w w4):=(B3.out.alloc B3.out.size _).grown hgrow (by have:=B3.out.size;simp at this ⊢;omega) (own_ge O3.out);have O4:Hid (w4.ownsRow w.heap.size 40 2 v4 k1 (pairs (M.take k1))):=by show World.ownsRow _ _ _ _ _ _ _;rw [ts.out,pairs_append];exact hown
        clear hown hgrow O3 B3 b0 b1 bl2 ts hw5;go_wp2
        go_roundw
        case rel=>exact ⟨k1,_,rfl,by omega,by first | rfl | (congr 1;omega) | go_num,HU2,O4,B4⟩
        case measure=>simp [intOf];omega
    · obtain rfl:k=N:=by omega
      have kz:decide ((k:Int)<(k:Int))=false:=zdf (by omega);have tk:M.take k=M:=List.take_of_length_le (by omega);have sp:spsB M=true:=SPS.out.2 (fun i hi=>HU.out i (by omega));have r2:Hid (moV A n=(M,0)):=by show _=_;rw [r0.out,sp];rfl
      have O2:=HO.out;rw [tk] at O2;have P2:Hid (PairS w.heap.size wr s' M):=by show Sl _ _ _ _ _;rw [sl];exact Sl.owns O2
      clear sp tk SPS r0 HU O2 HO HP AT SA TS;go_wp2
      go_ret2
      rw [r2.out];exact ⟨⟨_,rfl,P2.out⟩,HA.out⟩
end Go.Proofs.YtmamlgaogpkagaaGreat
