/- LIvUa. -/
import Derived.Test.YtmamlgaogpkagaaGreatQLPlain
import Derived.Test.YtmamlgaogpkagaaGreatQLGen
import Derived.Test.YtmamlgaogpkagaaGreatQLSl
namespace Go.Proofs.YtmamlgaogpkagaaGreat
open Go.RowKit
set_option linter.unusedVariables false
set_option linter.unusedSimpArgs false
theorem iuvalid (a b:Int) (ha:I64 a) (hb:I64 b) (w:World) :
    Calls Tryz.prog 75 #[.agg #[.int .i64 a,.int .i64 b]] w fun e w'=>e=.returned (.bool (ivB a b))∧Below w.heap.size w w':=by
  have e:ivB a b=(decide (-4398046511104≤a)&&decide (a<b)&&decide (b≤4398046511104)):=by
    unfold ivB
    rw [Bool.eq_iff_iff];simp only [Bool.and_eq_true,decide_eq_true_eq];omega
  rw [e];clear e;obtain ⟨x0,x1,xlt⟩:=Two.new (here (w.alloc (.cells #[.int .i64 a,.int .i64 b] 40)));obtain ⟨a0,a1⟩:=ha;obtain ⟨b0,b1⟩:=hb
  cases p:decide (-4398046511104≤a) <;> cases q:decide (a<b) <;> cases r:decide (b≤4398046511104)
  all_goals
    go_enter Tryz.func75,Tryz.ntmps75
    go_wp2
    go_ret
    exact ⟨rfl,grow (here w) _⟩
end Go.Proofs.YtmamlgaogpkagaaGreat
