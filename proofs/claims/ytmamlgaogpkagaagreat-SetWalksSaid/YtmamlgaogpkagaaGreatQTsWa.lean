/- TsWa. -/
import Derived.Test.YtmamlgaogpkagaaGreatQLPlain
import Derived.Test.YtmamlgaogpkagaaGreatQRnKF
import Derived.Test.YtmamlgaogpkagaaGreatQPeKJ
import Derived.Test.YtmamlgaogpkagaaGreatQPeHEa
import Derived.Test.YtmamlgaogpkagaaGreatQTsTa
namespace Go.Proofs.YtmamlgaogpkagaaGreat
set_option linter.unusedVariables false
set_option linter.unusedSimpArgs false
theorem up_to {s:TS} (h:GW s) {x y n:Int} (hx:x≤4398046511105) (xy:x≤y) (on:∀ z,x≤z→z<y→hsT s z=hsT s x) (yn:n=nxT s y) (same:hsT s y=hsT s x) (m:y≤(if x<s.b then s.b else x)+s.Q) :
    n≤(if x<s.b then s.b else x)+s.Q∨n=farI:=by
  subst yn;have le:=h.le;have q1:=h.q.p1;have b1:=h.hi0;have yf:y<farI:=by unfold farI;split at m <;> omega
  have N:=nxT_ok h yf
  by_cases c:nxT s y=farI
  · exact Or.inr c
  · refine Or.inl ?_;have on':∀ z,x≤z→z<nxT s y→hsT s z=hsT s x:=fun z a b=>by
      by_cases e:z<y
      · exact on z a e
      · rw [N.on z (by omega) b,same]
    generalize hu:(if x<s.b then s.b else x)=u at *;have ub:s.b≤u∧x≤u:=by rw [← hu];split <;> omega
    by_cases big:nxT s y≤u+s.Q
    · exact big
    · have q0:=h.q.p0;have ne:s.Q≠1:=fun q=>by
        rw [q] at big m
        unfold nxT at big c
        by_cases c1:y<s.a
        · rw [if_pos c1] at big;have:=(mnI_le (nxP s.P s.A y) s.a).2;omega
        · rw [if_neg c1] at big c
          by_cases c2:y<s.b
          · rw [if_pos c2] at big;have:=(mnI_le (nxL s.L y) s.b).2;omega
          · rw [if_neg c2] at big c
            unfold nxP at c
            rw [if_pos q] at c;exact c rfl
      obtain ⟨z,z0,z1,z2⟩:=h.q.var ne u;refine absurd ?_ z2;have e1:=on' z (by omega) (by omega);have e2:=on' u (by omega) (by omega);rw [show hsT s z=hsP s.Q s.B z from gv_high h.le (by omega)] at e1;rw [show hsT s u=hsP s.Q s.B u from gv_high h.le (by omega)] at e2;rw [e1,e2]
theorem ChW.chg {f:Int→Bool} {x y:Int} (h:ChW f x y) (yf:y≠farI):x<y∧Chg f y∧∀ z,x<z→z<y→¬ Chg f z:=by
 rcases h with ⟨c,-⟩ | ⟨-,a,b,c⟩
 ·exact absurd c yf
 ·refine ⟨a,?_,fun z z0 z1 n=>n ?_⟩
  ·show f y≠f (y - 1);rw [c (y - 1) (by omega) (by omega)];exact b
  ·rw [c z (by omega) z1,c (z - 1) (by omega) (by omega)]
theorem ChW.up {f:Int→Bool} {x y:Int} (h:ChW f x y) (xf:x<farI):x<y∧y≤farI:=by
 rcases h with ⟨c,d⟩ | ⟨a,b,-⟩ <;> omega
def olI (y:Int):Int:=if nvB y then y else 0
theorem ch_fin {f:Int→Bool} {x y:Int} (x0:-4398046511104≤x) (x1:x≤4398046511104) (h:ChW f x y):NxC f x (olI y) (nvB y):=by
 have u:=h.up (by unfold farI;omega)
 unfold olI
 by_cases n:nvB y=true
 ·rw [n,if_pos rfl];have k:=nvB_iff.1 n;obtain ⟨a,b,c⟩:=h.chg (by unfold farI;omega);exact ⟨fun _=>⟨a,k.2,b,c⟩,fun c=>by cases c⟩
 ·have n':nvB y=false:=by cases e:nvB y <;> simp_all
  rw [n',if_neg (by simp)];have k:¬ (-4398046511104≤y∧y≤4398046511104):=fun k=>n (nvB_iff.2 k);exact ⟨fun c=>by (cases c),fun _=>⟨rfl,fun z a b=>h.no a (by omega)⟩⟩
def FsW (f:Int→Bool) (x y:Int):Prop:=if f x then y=x else ChW f x y
theorem FsW.up {f:Int→Bool} {x y:Int} (h:FsW f x y) (xf:x<farI):x≤y∧y≤farI:=by
 unfold FsW at h
 split at h
 ·omega
 ·have:=h.up xf;omega
theorem fs_fin {f:Int→Bool} {x y:Int} (x0:-4398046511104≤x) (x1:x≤4398046511104) (h:FsW f x y):NxN f x (olI y) (nvB y):=by
 unfold FsW at h
 split at h
 ·subst h;have n:nvB y=true:=nvB_iff.2 ⟨x0,x1⟩
  unfold olI;rw [n,if_pos rfl]
  exact nn_here x1 (by assumption)
 ·exact nn_next (by cases e:f x <;> simp_all) (ch_fin x0 x1 h)
theorem fs_yes {f:Int→Bool} {x y:Int} (h:FsW f x y) (yf:y≠farI):f y=true∧∀ z,x≤z→z<y→f z=false:=by
 unfold FsW at h
 split at h
 ·subst h;exact ⟨by assumption,fun z a b=>by omega⟩
 ·have fx:f x=false:=by cases e:f x <;> simp_all
  rcases h with ⟨c,-⟩ | ⟨-,a,b,c⟩
  ·exact absurd c yf
  ·rw [fx] at b c;exact ⟨by cases e:f y <;> simp_all,c⟩
theorem fs_no {f:Int→Bool} {x:Int} (h:FsW f x farI) (xf:x<farI):∀ z,x≤z→z<farI→f z=false:=by
 unfold FsW at h
 split at h
 ·omega
 ·have fx:f x=false:=by cases e:f x <;> simp_all
  rcases h with ⟨-,c⟩ | ⟨a,-⟩
  ·rw [fx] at c;exact c
  ·omega
theorem pr_fin {f g:Int→Bool} {x y:Int} (x0:-4398046511104≤x) (x1:x≤4398046511104) (e:∀ z,g z=f (-1 - z)) (h:FsW g (-1 - x) y):NxP f x (olI (-1 - y)) (nvB (-1 - y)):=by
 have u:=h.up (by unfold farI;omega);have low:∀ z,z≤x→-1 - y<z→f z=false:=fun z a b=>by
  have:=e (-1 - z);rw [show (-1 - (-1 - z):Int)=z by omega] at this;rw [← this]
  by_cases yf:y=farI
  ·subst yf;exact fs_no h (by unfold farI;omega) _ (by omega) (by omega)
  ·exact (fs_yes h yf).2 _ (by omega) (by omega)
 unfold olI
 by_cases n:nvB (-1 - y)=true
 ·rw [n,if_pos rfl];have k:=nvB_iff.1 n;have f1:=(fs_yes h (by unfold farI;omega)).1;rw [e] at f1;exact ⟨fun _=>⟨by omega,k.1,f1,fun z a b=>low z b a⟩,fun c=>by cases c⟩
 ·have n':nvB (-1 - y)=false:=by cases e:nvB (-1 - y) <;> simp_all
  rw [n',if_neg (by simp)];have k:¬ (-4398046511104≤-1 - y∧-1 - y≤4398046511104):=fun k=>n (nvB_iff.2 k);exact ⟨fun c=>by (cases c),fun _=>⟨rfl,fun z a b=>low z b (by omega)⟩⟩
end Go.Proofs.YtmamlgaogpkagaaGreat
