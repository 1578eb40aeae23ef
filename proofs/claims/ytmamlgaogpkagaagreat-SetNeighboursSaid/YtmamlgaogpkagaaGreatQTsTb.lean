/- TsTb. -/
import Derived.Test.YtmamlgaogpkagaaGreatQLPlain
import Derived.Test.YtmamlgaogpkagaaGreatQRnKF
import Derived.Test.YtmamlgaogpkagaaGreatQPeKJ
namespace Go.Proofs.YtmamlgaogpkagaaGreat
open Go.RowKit
set_option linter.unusedVariables false
set_option linter.unusedSimpArgs false
theorem ts_chg {P Q a b z:Int} {A B L:List Sp} (g:Giv P A Q B a b L) (h:Chg (gvF P A Q B a b L) z):z=a∨z=b∨(z<a∧Chg (hsP P A) z)∨(b<z∧Chg (hsP Q B) z)∨∃ q,q∈L∧(z=q.1∨z=q.2):=by
 have le:=g.le
 by_cases h1:z=a
 ·exact .inl h1
 by_cases h2:z=b
 ·exact .inr (.inl h2)
 by_cases h3:z<a
 ·refine .inr (.inr (.inl ⟨h3,?_⟩))
  unfold Chg at h ⊢
  rwa [gv_low h3,gv_low (by omega)] at h
 by_cases h4:b<z
 ·refine .inr (.inr (.inr (.inl ⟨h4,?_⟩)))
  unfold Chg at h ⊢
  rwa [gv_high le (by omega),gv_high le (by omega)] at h
 ·refine .inr (.inr (.inr (.inr (in_chg ?_))))
  unfold Chg at h ⊢
  rwa [gv_mid (by omega) (by omega),gv_mid (by omega) (by omega)] at h
theorem ch_step {P Q a b x n c d:Int} {A B L:List Sp} {o p:Bool} (g:Giv P A Q B a b L) (f1:AfS (hsP P A) x o c) (k1:o=true→c<a→n≤c) (f2:AfS (hsP Q B) (if x<b then b else x) p d) (k2:p=true→n≤d) (ka:x<a→n≤a) (kb:x<b→n≤b)
    (ends:∀ q,q∈L→(x<q.1→n≤q.1)∧(x<q.2→n≤q.2)) {z:Int} (z1:x<z) (z2:z<n):¬ Chg (gvF P A Q B a b L) z:=fun h=>by
  rcases ts_chg g h with rfl | rfl | ⟨h1,h2⟩ | ⟨h1,h2⟩ | ⟨q,hq,rfl | rfl⟩
  · have:=ka z1;omega
  · have:=kb z1;omega
  · cases ho:o
    · exact f1.no ho z h2
    · obtain ⟨u1,u2,u3⟩:=f1.yes ho
      by_cases e:z<c
      · exact u3 z z1 e h2
      · have:=k1 ho (by omega);omega
  · cases ho:p
    · exact f2.no ho z h2
    · obtain ⟨u1,u2,u3⟩:=f2.yes ho
      by_cases e:z<d
      · exact u3 z (by split <;> omega) e h2
      · have:=k2 ho;omega
  · have:=(ends q hq).1 z1;omega
  · have:=(ends q hq).2 z1;omega
theorem pr_step {P Q a b x n c d:Int} {A B L:List Sp} {o p:Bool} (g:Giv P A Q B a b L) (f1:BfS (hsP P A) (if a<x+1 then a else x+1) o c) (k1:o=true→c≤n) (f2:BfS (hsP Q B) (x+1) p d) (k2:p=true→b<d→d≤n) (ka:a≤x→a≤n) (kb:b≤x→b≤n)
    (ends:∀ q,q∈L→(q.1≤x→q.1≤n)∧(q.2≤x→q.2≤n)) {z:Int} (z1:n<z) (z2:z≤x):¬ Chg (gvF P A Q B a b L) z:=fun h=>by
  rcases ts_chg g h with rfl | rfl | ⟨h1,h2⟩ | ⟨h1,h2⟩ | ⟨q,hq,rfl | rfl⟩
  · have:=ka z2;omega
  · have:=kb z2;omega
  · cases ho:o
    · exact f1.no ho z h2
    · obtain ⟨u1,u2,u3⟩:=f1.yes ho;have:=k1 ho;exact u3 z (by omega) (by split <;> omega) h2
  · cases ho:p
    · exact f2.no ho z h2
    · obtain ⟨u1,u2,u3⟩:=f2.yes ho
      by_cases e:d<z
      · exact u3 z e (by omega) h2
      · have:=k2 ho (by omega);omega
  · have:=(ends q hq).1 z2;omega
  · have:=(ends q hq).2 z2;omega
end Go.Proofs.YtmamlgaogpkagaaGreat
