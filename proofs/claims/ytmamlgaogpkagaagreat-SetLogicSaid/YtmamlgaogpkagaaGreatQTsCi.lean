/- TsCi. -/
import Derived.Test.YtmamlgaogpkagaaGreatQLPlain
import Derived.Test.YtmamlgaogpkagaaGreatQPeKJ
import Derived.Test.YtmamlgaogpkagaaGreatQPeKJ1
import Derived.Test.YtmamlgaogpkagaaGreatQPeKKb
import Derived.Test.YtmamlgaogpkagaaGreatQTsGa
import Derived.Test.YtmamlgaogpkagaaGreatQTsCc
namespace Go.Proofs.YtmamlgaogpkagaaGreat
open Go.RowKit
set_option linter.unusedVariables false
set_option linter.unusedSimpArgs false
theorem kp1 (a b:Bool):kpB 1 a b=(a || b):=rfl
theorem kp2 (a b:Bool):kpB 2 a b=(a&&b):=rfl
theorem kp3 (a b:Bool):kpB 3 a b=(a&&!b):=rfl
theorem lw_morgan {a b:TS} (h1:(cbT 1 a b).2=0) (h2:(ntT (cbT 1 a b).1).2=0) (h3:(ntT a).2=0) (h4:(ntT b).2=0) (h5:(cbT 2 (ntT a).1 (ntT b).1).2=0):(vsB (ntT (cbT 1 a b).1).1&&smT (ntT (cbT 1 a b).1).1 (cbT 2 (ntT a).1 (ntT b).1).1)=true:=by
 obtain ⟨-,-,-,m1⟩:=cb_vs (by decide) (by decide) h1;obtain ⟨-,v2,m2⟩:=nt_vs h2;obtain ⟨-,-,m3⟩:=nt_vs h3;obtain ⟨-,-,m4⟩:=nt_vs h4;obtain ⟨-,-,v5,m5⟩:=cb_vs (by decide) (by decide) h5;refine eq_res v2 v5 fun x=>?_;rw [m2,m1,m5,m3,m4,kp1,kp2]
 cases hsT a x <;> cases hsT b x <;> rfl
theorem lw_dist {a b c:TS} (h1:(cbT 1 b c).2=0) (h2:(cbT 2 a (cbT 1 b c).1).2=0) (h3:(cbT 2 a b).2=0) (h4:(cbT 2 a c).2=0) (h5:(cbT 1 (cbT 2 a b).1 (cbT 2 a c).1).2=0):(vsB (cbT 2 a (cbT 1 b c).1).1&&smT (cbT 2 a (cbT 1 b c).1).1 (cbT 1 (cbT 2 a b).1 (cbT 2 a c).1).1)=true:=by
 obtain ⟨-,-,-,m1⟩:=cb_vs (by decide) (by decide) h1;obtain ⟨-,-,v2,m2⟩:=cb_vs (by decide) (by decide) h2;obtain ⟨-,-,-,m3⟩:=cb_vs (by decide) (by decide) h3;obtain ⟨-,-,-,m4⟩:=cb_vs (by decide) (by decide) h4;obtain ⟨-,-,v5,m5⟩:=cb_vs (by decide) (by decide) h5;refine eq_res v2 v5 fun x=>?_;rw [m2,m1,m5,m3,m4,kp1,kp1,kp2,kp2,kp2]
 cases hsT a x <;> cases hsT b x <;> cases hsT c x <;> rfl
theorem lw_minus {a b:TS} (h1:(cbT 3 a b).2=0) (h2:(ntT b).2=0) (h3:(cbT 2 a (ntT b).1).2=0):(vsB (cbT 3 a b).1&&smT (cbT 3 a b).1 (cbT 2 a (ntT b).1).1)=true:=by
 obtain ⟨-,-,v1,m1⟩:=cb_vs (by decide) (by decide) h1;obtain ⟨-,-,m2⟩:=nt_vs h2;obtain ⟨-,-,v3,m3⟩:=cb_vs (by decide) (by decide) h3;refine eq_res v1 v3 fun x=>?_;rw [m1,m3,m2,kp2,kp3]
theorem lw_twice {a:TS} (h1:(ntT a).2=0) (h2:(ntT (ntT a).1).2=0):(vsB (ntT (ntT a).1).1&&smT (ntT (ntT a).1).1 a)=true:=by
 obtain ⟨v0,-,m1⟩:=nt_vs h1;obtain ⟨-,v2,m2⟩:=nt_vs h2;refine eq_res v2 v0 fun x=>?_;rw [m2,m1,Bool.not_not]
theorem lw_comm {a b:TS} (h1:(cbT 1 a b).2=0) (h2:(cbT 1 b a).2=0):(vsB (cbT 1 a b).1&&smT (cbT 1 a b).1 (cbT 1 b a).1)=true:=by
 obtain ⟨-,-,v1,m1⟩:=cb_vs (by decide) (by decide) h1;obtain ⟨-,-,v2,m2⟩:=cb_vs (by decide) (by decide) h2;refine eq_res v1 v2 fun x=>?_;rw [m1,m2,kp1,kp1,Bool.or_comm]
theorem lw_parts {a b:TS} (h1:(cbT 2 a b).2=0) (h2:(cbT 3 a b).2=0) (h3:(cbT 1 (cbT 2 a b).1 (cbT 3 a b).1).2=0):(vsB (cbT 1 (cbT 2 a b).1 (cbT 3 a b).1).1&&smT (cbT 1 (cbT 2 a b).1 (cbT 3 a b).1).1 a)=true:=by
 obtain ⟨v0,-,-,m1⟩:=cb_vs (by decide) (by decide) h1;obtain ⟨-,-,-,m2⟩:=cb_vs (by decide) (by decide) h2;obtain ⟨-,-,v3,m3⟩:=cb_vs (by decide) (by decide) h3;refine eq_res v3 v0 fun x=>?_;rw [m3,m1,m2,kp1,kp2,kp3]
 cases hsT a x <;> cases hsT b x <;> rfl
end Go.Proofs.YtmamlgaogpkagaaGreat
