/- The walk of AllenComposes. -/
import Derived.Test.YtiaidmjhgfaobaaDoorAlAwakec
import Derived.BigQuiet
import Derived.Deep.QuietTactic
import Derived.Deep.RegionHeld3
import Derived.Deep.Cut
import Derived.Outline
namespace Go.Proofs.YtiaidmjhgfaobaaDoor
open Go.RowKit
set_option linter.unusedVariables false

set_option maxRecDepth 100000 in
set_option maxHeartbeats 4000000 in
theorem AllenComposes.walk (a b : Int) (ha : (Lit.int .i64 a).wf = true) (hb : (Lit.int .i64 b).wf = true) (w : World) (ht : Tabs w) :
    Calls Tryd.prog 3 #[.int .i64 a, .int .i64 b] w fun e w' => e = .returned (.bool true) ∧ Below w.heap.size w w' := by
  replace ha := i64_wf ha
  replace hb := i64_wf hb
  have HC := fun w ht => uacomp a b ha hb w ht
  have RC := fun w => racompose a b ha hb w
  have HI := fun w ht => uainv a ha w ht
  have RI := fun w => rainv a ha w
  have HS := fun w ht => uasingles a ha w ht
  have RS := fun w => rasingles a ha w
  have hln : Hid ((sgV a).length ≤ 1099511627776) := by
    show _ ≤ _
    unfold sgV
    split
    · exact Nat.le_trans (sgL_len _ _) (by decide)
    · exact Nat.zero_le _
  generalize cmS a b = V at *
  generalize ivS a = U at *
  generalize sgV a = L at *
  clear ha hb
  replace HC := Lib.hid HC
  replace RC := Lib.hid RC
  replace HI := Lib.hid HI
  replace RI := Lib.hid RI
  replace HS := Lib.hid HS
  replace RS := Lib.hid RS
  have AW := Lib.hid (fun w ht => awake_all w ht)
  replace ht := Lib.hid ht
  go_enter Tryd.func3, Tryd.ntmps3
  go_wp2_with fail
  refine (AW.out _ (ht.out.below (here w))).mono ?_
  rintro e w1 ⟨rfl, hb⟩
  have A1 := Lib.hid (down (here w) hb)
  clear hb
  go_wp2_with fail
  refine (HC.out _ (ht.out.below A1.out)).mono ?_
  rintro e w2 ⟨rfl, hb⟩
  have A2 := Lib.hid (down A1.out hb)
  clear hb A1
  go_wp2_with fail
  refine (RC.out _).mono ?_
  rintro e w3 ⟨rfl, hb⟩
  have A3 := Lib.hid (down A2.out hb)
  clear hb A2
  go_wp2_with fail
  refine (HI.out _ (ht.out.below A3.out)).mono ?_
  rintro e w4 ⟨rfl, hb⟩
  have A4 := Lib.hid (down A3.out hb)
  clear hb A3
  go_wp2_with fail
  refine (RI.out _).mono ?_
  rintro e x1 ⟨rfl, rfl⟩
  go_wp2_with fail
  refine (HS.out _ (ht.out.below A4.out)).mono ?_
  rintro e w5 ⟨⟨v, rfl, Q⟩, hb⟩
  obtain ⟨ov, cv, rfl⟩ := Sl.shape Q
  have A5 := Lib.hid (down A4.out hb)
  clear hb A4
  have Q5 := Lib.hid Q
  clear Q
  go_wp2_with fail
  refine (RS.out _).mono ?_
  rintro e w6 ⟨⟨u, rfl, R⟩, hb⟩
  obtain ⟨ou, cu, rfl⟩ := Sl.shape R
  have A6 := Lib.hid (down A5.out hb)
  have Q6 := Lib.hid (Q5.out.keep hb)
  clear hb A5 Q5
  have R6 := Lib.hid R
  clear R
  go_wp2_with fail
  refine (eq_ints L L _ _ hln.out _ Q6.out R6.out).mono ?_
  rintro e wz ⟨rfl, nq, rfl⟩
  rw [beq_self_eq_true]
  go_wp2
  go_ret
  exact ⟨rfl, below_drewN A6.out _⟩
end Go.Proofs.YtiaidmjhgfaobaaDoor
