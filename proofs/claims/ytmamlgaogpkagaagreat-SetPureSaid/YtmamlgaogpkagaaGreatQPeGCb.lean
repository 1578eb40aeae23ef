/- PeGCb. -/
import Derived.Test.YtmamlgaogpkagaaGreatQLPlain
import Derived.Test.YtmamlgaogpkagaaGreatQLGen
import Derived.Test.YtmamlgaogpkagaaGreatQLSl
import Derived.Test.YtmamlgaogpkagaaGreatQRnKF
import Derived.Test.YtmamlgaogpkagaaGreatQPeKD
import Derived.Deep.RegionHeld3
namespace Go.Proofs.YtmamlgaogpkagaaGreat
open Go.RowKit
set_option linter.unusedVariables false
set_option linter.unusedSimpArgs false
def lmR (D:Int) (L:List Sp):(Int × List Sp) × Int:=if 2000<L.length then ((0,[]),5) else ((D,L),0)
theorem lm_pf (P:Int) (f:Int→Bool):lmR (fmP P f).1 (fmP P f).2=pfR P f:=rfl
set_option maxRecDepth 100000 in
set_option maxHeartbeats 2000000 in
theorem rplimited (v:Value) (D:Int) (L:List Sp) (hL:L.length≤maxLen) {ba:Nat} (w:World) (hba:ba≤w.heap.size) (h:PairS ba w v L) :
    Calls Tryz.prog 111 #[.agg #[.int .i64 D,v]] w fun e w'=>(∃ v',e=.returned (.tuple #[.agg #[.int .i64 (lmR D L).1.1,v'],.int .i64 (lmR D L).2])∧PairS ba w' v' (lmR D L).1.2)∧Below w.heap.size w w':=by
  have mx:L.length≤9223372036854775807:=by unfold maxLen at hL;omega
  obtain ⟨o,c,rfl⟩:=prs_shape h;obtain ⟨n,hn⟩:∃ n,L.length=n:=⟨_,rfl⟩;have RR:lmR D L=if 2000<n then ((0,[]),5) else ((D,L),0):=by unfold lmR;rw [hn]
  have s1:=size_two w (.cells #[.int .i64 D,.slice o n c] 24);have A1:=zh (grow (grow (here w) (.cells #[.int .i64 D,.slice o n c] 24)) (.cells #[.int .i64 0,.slice none 0 0] 24));have TA:=zh (Two.fst (here ((w.alloc (.cells #[.int .i64 D,.slice o n c] 24)).alloc (.cells #[.int .i64 0,.slice none 0 0] 24))));have TR:=Tuo.new (w.alloc (.cells #[.int .i64 D,.slice o n c] 24)) (.int .i64 0) (.slice none 0 0) 24;rw [s1] at TR;replace TR:=zh TR;have KP:Hid (∀ W,Below w.heap.size w W→PairS ba W (.slice o n c) L):=fun W hW=>by
    have:=h.keep hW
    show PairS _ _ _ _
    rw [← hn];exact this
  obtain ⟨t0,t1,tl⟩:=TA.out;rw [hn] at mx ⊢;clear h s1 hL hn
  by_cases big:2000<n
  · have kb:decide (2000<(n:Int))=true:=zdt (by omega);rw [if_pos big] at RR;replace RR:=zh RR;clear big
    go_enter Tryz.func111,Tryz.ntmps111
    go_wp2
    obtain ⟨⟨ri0,ri1,ri2⟩,rf0,rf1⟩:=TR.out;have B9:=A1;generalize ((w.alloc (.cells #[.int .i64 D,.slice o n c] 24)).alloc (.cells #[.int .i64 0,.slice none 0 0] 24))=w13 at *;refine bodyPost_ret (v:=.tuple #[.agg #[.int .i64 0,.slice none 0 0],.int .i64 5]) (by simp [results,Tryz.results111,go_sem,ri0,ri1]) rfl ?_;rw [RR.out];exact ⟨⟨_,rfl,Sl.none _ _⟩,B9.out⟩
  · have kb:decide (2000<(n:Int))=false:=zdf (by omega);rw [if_neg big] at RR;replace RR:=zh RR;obtain ⟨⟨ri0,ri1,ri2⟩,rf0,rf1⟩:=TR.out;have TW:=Two.snd (o:=.cells #[.int .i64 D,.slice o n c] 24) (x:=.int .i64 D) (y:=.slice o n c) (t:=24) (here ((w.alloc (.cells #[.int .i64 D,.slice o n c] 24)).alloc (.cells #[.int .i64 D,.slice o n c] 24)));have B9:=zh (grow (grow (here w) (.cells #[.int .i64 D,.slice o n c] 24)) (.cells #[.int .i64 D,.slice o n c] 24));have q0:=TW.c0;have q1:=TW.c1;replace TW:=zh TW;clear big
    go_enter Tryz.func111,Tryz.ntmps111
    go_wp2
    generalize ((w.alloc (.cells #[.int .i64 D,.slice o n c] 24)).alloc (.cells #[.int .i64 D,.slice o n c] 24))=w13 at *;refine bodyPost_ret (v:=.tuple #[.agg #[.int .i64 D,.slice o n c],.int .i64 0]) (by simp [results,Tryz.results111,go_sem,q0,q1]) rfl ?_;rw [RR.out];exact ⟨⟨_,rfl,KP.out _ B9.out⟩,B9.out⟩
end Go.Proofs.YtmamlgaogpkagaaGreat
