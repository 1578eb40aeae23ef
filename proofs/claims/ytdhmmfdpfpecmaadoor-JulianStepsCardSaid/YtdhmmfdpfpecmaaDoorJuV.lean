/- Contracts of civiltimeref05: Offset. -/
import Derived.Test.YtdhmmfdpfpecmaaDoorJuU
namespace Go.Proofs.YtdhmmfdpfpecmaaDoor
open Go.RowKit
set_option linter.unusedVariables false

set_option maxHeartbeats 400000 in
theorem rjoff (n y m d yy : Int) (h : vld y m d = true) (hn : dayN y m d = n) (hm : m < 3 ∧ yy = y - 1 ∨ 3 ≤ m ∧ yy = y) (w : World) :
    Calls Tryd.prog 25 #[.int .i64 n] w fun e w' => e = .returned (.int .i64 (offN yy)) ∧ Below w.heap.size w w' := by
  obtain ⟨y0, y1, m0, m1, d0, d1⟩ := vld_bd h
  have hF := Lib.hid (fun w => rjfields n y m d h hn w)
  have ho : Hid (offN yy = yy / 100 - yy / 400 - 2) := rfl
  have p : ∀ w, Calls Tryd.prog 47 #[.int .i64 yy, .int .i64 100] w fun e w' => e = .returned (.int .i64 (yy / 100)) ∧ ∃ n, w' = w.drewN n := fun w => by
    have q := reffloor_all yy 100 (by omega) (by omega) (by omega) (by omega) w
    rw [dQ_pos (by omega)] at q; exact q
  have p4 : ∀ w, Calls Tryd.prog 47 #[.int .i64 yy, .int .i64 400] w fun e w' => e = .returned (.int .i64 (yy / 400)) ∧ ∃ n, w' = w.drewN n := fun w => by
    have q := reffloor_all yy 400 (by omega) (by omega) (by omega) (by omega) w
    rw [dQ_pos (by omega)] at q; exact q
  have b1 : 0 ≤ yy / 100 ∧ yy / 100 ≤ 100 := by omega
  have b4 : 0 ≤ yy / 400 ∧ yy / 400 ≤ 100 := by omega
  clear h hn
  generalize yy / 100 = u at *
  generalize yy / 400 = v at *
  replace p := Lib.hid p
  replace p4 := Lib.hid p4
  obtain ⟨u0, u1⟩ := b1
  obtain ⟨v0, v1⟩ := b4
  rcases hm with ⟨hm, hy⟩ | ⟨hm, hy⟩
  · have k3 : decide (m < 3) = true := decide_eq_true hm
    replace hy := hy.symm
    go_enter Tryd.func25, Tryd.ntmps25
    go_wp2_with fail
    refine (hF.out _).mono ?_
    rintro e w1 ⟨rfl, hb⟩
    go_wp2_with fail
    refine (p.out _).mono ?_
    rintro e w2 ⟨rfl, n2, rfl⟩
    go_wp2_with fail
    refine (p4.out _).mono ?_
    rintro e w3 ⟨rfl, n3, rfl⟩
    go_wp2
    go_ret
    exact ⟨by rw [ho.out]; rfl, below_drewN (grow hb _) _⟩
  · have k3 : decide (m < 3) = false := decide_eq_false (by omega)
    subst hy
    go_enter Tryd.func25, Tryd.ntmps25
    go_wp2_with fail
    refine (hF.out _).mono ?_
    rintro e w1 ⟨rfl, hb⟩
    go_wp2_with fail
    refine (p.out _).mono ?_
    rintro e w2 ⟨rfl, n2, rfl⟩
    go_wp2_with fail
    refine (p4.out _).mono ?_
    rintro e w3 ⟨rfl, n3, rfl⟩
    go_wp2
    go_ret
    exact ⟨by rw [ho.out]; rfl, below_drewN (grow hb _) _⟩

end Go.Proofs.YtdhmmfdpfpecmaaDoor
