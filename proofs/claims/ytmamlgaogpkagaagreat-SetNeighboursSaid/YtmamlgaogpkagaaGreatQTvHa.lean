/- TvHa. -/
import Derived.Test.YtmamlgaogpkagaaGreatQLPlain
import Derived.Test.YtmamlgaogpkagaaGreatQLGen
import Derived.Test.YtmamlgaogpkagaaGreatQLSl
import Derived.Test.YtmamlgaogpkagaaGreatQRnKF
import Derived.Test.YtmamlgaogpkagaaGreatQPeKJ
import Derived.Test.YtmamlgaogpkagaaGreatQTsWa
import Derived.Test.YtmamlgaogpkagaaGreatQTvB
import Derived.StillTailTactics
import Derived.BigQuiet
import Derived.Deep.QuietTactic
import Derived.Deep.RegionHeld3
import Derived.Laws.EntriesVeiled
namespace Go.Proofs.YtmamlgaogpkagaaGreat
open Go.RowKit
set_option linter.unusedVariables false
set_option linter.unusedSimpArgs false
set_option maxRecDepth 100000 in
set_option maxHeartbeats 3000000 in
theorem tvchange (f:Int→Bool) (nx:Int→Int) (x M:Int) (x0:-8796093022208≤x) (xM:x≤M) (M1:M≤17592186044416) (step:∀ y,x≤y→y≤M→(∀ z,x≤z→z<y→f z=f x)→f y=f x→NxV f y (nx y)∧(nx y≤M∨nx y=farI)) (v:Value) (w:World) (V:Vw w v f nx) :
    Calls Tryz.prog 95 #[v,.int .i64 x] w fun e w'=>(∃ y,e=.returned (.int .i64 y)∧ChW f x y)∧Below w.heap.size w w':=by
  obtain ⟨g,caps,rfl,eg,hg⟩:=V;have HG:Hid (∀ W y c,Below w.heap.size w W→f y=c→I64 y→Calls Tryz.prog g (#[.int .i64 y]++caps) W fun e W'=>(∃ n,e=.returned (.tuple #[.bool c,.int .i64 n])∧(-1152921504606846976≤y→y≤1152921504606846976→n=nx y))∧Below W.heap.size W W'):=fun W y c hW e hy=>by subst e;exact hg W (Far.of hW) y hy
  obtain ⟨S1,S2⟩:=step x (Int.le_refl x) xM (fun z a b=>absurd a (by omega)) rfl;have ST:=zh step;obtain ⟨c,hc⟩:∃ c,f x=c:=⟨_,rfl⟩;have HX:=zh (HG.out w x c (here w) hc (by unfold I64;omega));replace S1:=zh S1;replace S2:=zh S2;replace hc:=zh hc;clear hg step
  go_enter Tryz.func95,Tryz.ntmps95
  go_wp2_with fail
  go_at_fn g
  refine HX.out.mono ?_;rintro e w1 ⟨⟨n,rfl,hn⟩,hb⟩;have en:n=nx x:=hn (by omega) (by omega);rw [← en] at S1 S2;have A1:=zh hb;clear hn hb en HX;go_wp2
  go_loopw [6] (fun t wr=>∃ y:Int,x<y∧t=.int .i64 y∧Hid (y≤M∨y=farI)∧Hid (∀ z,x≤z→z<y→f z=f x)∧Hid (Below w.heap.size w wr)) (fun t _=>(M+1 - intOf t).toNat)
  case atStart=>exact ⟨n,S1.out.lt,rfl,S2,S1.out.on,A1⟩
  case round =>
    obtain ⟨y,xy,rfl,HM,ON,AR⟩:=hrel;clear A1 S1 S2
    by_cases yf:y=farI
    · have k:(y==9223372036854775807)=true:=by rw [beq_iff_eq];exact yf
      have CW:Hid (ChW f x 9223372036854775807):=Or.inl ⟨rfl,fun z a b=>ON.out z a (by rw [yf];exact b)⟩;clear HM ON eg yf;go_wp2
      go_ret
      exact ⟨⟨_,rfl,CW.out⟩,AR.out⟩
    · have k:(y==9223372036854775807)=false:=by rw [beq_eq_false_iff_ne];exact yf
      have yM:y≤M:=by rcases HM.out with h | h;exact h;exact absurd h yf
      clear HM yf;obtain ⟨d,hd⟩:∃ d,f y=d:=⟨_,rfl⟩;have HY:=zh (HG.out wr y d AR.out hd (by unfold I64;omega));replace hd:=zh hd
      by_cases cd:d=c
      · subst cd;have kc:(d==d)=true:=by simp
        obtain ⟨T1,T2⟩:=ST.out y (by omega) yM ON.out (hd.out.trans hc.out.symm);replace T1:=zh T1;replace T2:=zh T2;clear HG;go_wp2_with fail
        go_at_fn g
        refine HY.out.mono ?_;rintro e w3 ⟨⟨n3,rfl,hn⟩,hb⟩;have en:n3=nx y:=hn (by omega) (by omega);rw [← en] at T1 T2;have A3:=zd AR hb;have ON':Hid (∀ z,x≤z→z<n3→f z=f x):=fun z a b=>by
          by_cases zy:z<y
          · exact ON.out z a zy
          · rw [T1.out.on z (by omega) b,hd.out,hc.out]
        have lt:=T1.out.lt;have mm:n3≤M∨n3=9223372036854775807:=T2.out;clear hn hb en HY eg AR ON hd hc T1;go_wp2
        go_roundw
        case rel=>exact ⟨n3,by omega,rfl,T2,ON',A3⟩
        case measure=>simp [intOf];omega
      · have kc:(d==c)=false:=by rw [beq_eq_false_iff_ne];exact cd
        have CW:Hid (ChW f x y):=Or.inr ⟨by unfold farI;omega,xy,by rw [hd.out,hc.out];exact cd,ON.out⟩;clear HG cd;go_wp2_with fail
        go_at_fn g
        refine HY.out.mono ?_;rintro e w3 ⟨⟨n3,rfl,hn⟩,hb⟩;have A3:=zd AR hb;clear hn hb HY eg AR ON hd hc;go_wp2
        go_ret
        exact ⟨⟨_,rfl,CW.out⟩,A3.out⟩
set_option maxRecDepth 100000 in
set_option maxHeartbeats 3000000 in
theorem tvfirst (f:Int→Bool) (nx:Int→Int) (x M:Int) (x0:-8796093022208≤x) (xM:x≤M) (M1:M≤17592186044416) (step:∀ y,x≤y→y≤M→(∀ z,x≤z→z<y→f z=f x)→f y=f x→NxV f y (nx y)∧(nx y≤M∨nx y=farI)) (v:Value) (w:World) (V:Vw w v f nx) :
    Calls Tryz.prog 93 #[v,.int .i64 x] w fun e w'=>(∃ y,e=.returned (.int .i64 y)∧FsW f x y)∧Below w.heap.size w w':=by
  have V':=V;obtain ⟨g,caps,rfl,eg,hg⟩:=V;have HX:=zh (hg w (Far.of (here w)) x (by unfold I64;omega));have HC:Hid (∀ W,Below w.heap.size w W→Calls Tryz.prog 95 #[.func (.func g) #[] caps,.int .i64 x] W fun e w'=>(∃ y,e=.returned (.int .i64 y)∧ChW f x y)∧Below W.heap.size W w'):=fun W hW=>tvchange f nx x M x0 xM M1 step _ W (V'.keep hW)
  unfold FsW
  clear hg step V'
  cases c:f x
  · rw [c] at HX
    show Calls _ _ _ _ fun e w'=>(∃ y,e=.returned (.int .i64 y)∧ChW f x y)∧Below w.heap.size w w'
    clear c
    go_enter Tryz.func93,Tryz.ntmps93
    go_wp2_with fail
    go_at_fn g
    refine HX.out.mono ?_;rintro e w1 ⟨⟨n,rfl,-⟩,hb⟩;have A1:=zh hb;have HC1:=zh (HC.out w1 hb);clear hb HX HC;go_wp2_with fail
    refine HC1.out.mono ?_;rintro e w3 ⟨⟨y,rfl,CW⟩,hb⟩;have A3:=zd A1 hb;replace CW:=zh CW;clear hb HC1 A1;go_wp2
    go_ret
    exact ⟨⟨_,rfl,CW.out⟩,A3.out⟩
  · rw [c] at HX
    show Calls _ _ _ _ fun e w'=>(∃ y,e=.returned (.int .i64 y)∧y=x)∧Below w.heap.size w w'
    clear c
    go_enter Tryz.func93,Tryz.ntmps93
    go_wp2_with fail
    go_at_fn g
    refine HX.out.mono ?_;rintro e w1 ⟨⟨n,rfl,-⟩,hb⟩;have A1:=zh hb;have HC1:=zh (HC.out w1 hb);clear hb HX HC;clear HC1;go_wp2
    go_ret
    exact ⟨⟨_,rfl,rfl⟩,A1.out⟩
end Go.Proofs.YtmamlgaogpkagaaGreat
