/- RnRb. -/
import Derived.Test.YtmamlgaogpkagaaGreatQLPlain
import Derived.Test.YtmamlgaogpkagaaGreatQLGen
import Derived.Test.YtmamlgaogpkagaaGreatQLSl
import Derived.OwnWalk
import Derived.Deep.QuietTactic
import Derived.BigQuiet
import Derived.Outline
namespace Go.Proofs.YtmamlgaogpkagaaGreat
open Go.RowKit
set_option linter.unusedVariables false
set_option linter.unusedSimpArgs false
theorem rnkeep (k:Int) (a b:Bool) (w:World) :
    Calls Tryz.prog 152 #[.int .i64 k,.bool a,.bool b] w fun e w'=>e=.returned (.bool (kpB k a b))∧w=w':=by
  by_cases k1:k=1
  · subst k1
    cases a <;> cases b
    all_goals
      go_enter Tryz.func152,Tryz.ntmps152
      go_wp2
      go_ret
      exact ⟨rfl,rfl⟩
  by_cases k2:k=2
  · subst k2
    cases a <;> cases b
    all_goals
      go_enter Tryz.func152,Tryz.ntmps152
      go_wp2
      go_ret
      exact ⟨rfl,rfl⟩
  by_cases k3:k=3
  · subst k3
    cases a <;> cases b
    all_goals
      go_enter Tryz.func152,Tryz.ntmps152
      go_wp2
      go_ret
      exact ⟨rfl,rfl⟩
  have e:Hid (kpB k a b=(a != b)):=by show _=_;unfold kpB;rw [if_neg k1,if_neg k2,if_neg k3]
  have t1:(k==1)=false:=by rw [beq_eq_false_iff_ne];exact k1
  have t2:(k==2)=false:=by rw [beq_eq_false_iff_ne];exact k2
  have t3:(k==3)=false:=by rw [beq_eq_false_iff_ne];exact k3
  clear k1 k2 k3
  cases a <;> cases b
  all_goals
    go_enter Tryz.func152,Tryz.ntmps152
    go_wp2
    go_ret
    exact ⟨by rw [e.out];rfl,rfl⟩
theorem rnfull (o:Option Addr) (n c:Nat) (hn:n≤maxLen) (w:World) :
    Calls Tryz.prog 106 #[.slice o n c] w fun e w'=>e=.returned (if 2000<n then .tuple #[.slice none 0 0,.int .i64 5] else .tuple #[.slice o n c,.int .i64 0])∧w=w':=by
  unfold maxLen at hn
  by_cases l:2000<n
  · rw [if_pos l];have kl:decide (2000<(n:Int))=true:=zdt (by omega);clear l
    go_enter Tryz.func106,Tryz.ntmps106
    go_wp2
    go_ret2
    exact ⟨rfl,rfl⟩
  · rw [if_neg l];have kl:decide (2000<(n:Int))=false:=zdf (by omega);clear l
    go_enter Tryz.func106,Tryz.ntmps106
    go_wp2
    go_ret2
    exact ⟨rfl,rfl⟩
end Go.Proofs.YtmamlgaogpkagaaGreat
