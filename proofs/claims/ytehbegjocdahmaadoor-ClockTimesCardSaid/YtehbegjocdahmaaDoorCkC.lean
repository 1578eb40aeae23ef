/- The contract of the reference's Moment. -/
import Derived.Test.YtehbegjocdahmaaDoorCkB
namespace Go.Proofs.YtehbegjocdahmaaDoor
open Go.RowKit
set_option linter.unusedVariables false

theorem Six.drew {w : World} {b : Nat} {p q r x y z : Value} (h : Six w b p q r x y z) : Six w.drew b p q r x y z := h.drewN 1
theorem Free6.drew {w : World} {b : Nat} (h : Free6 w b) : Free6 w.drew b := ⟨h.f0, h.f1, h.f2, h.f3, h.f4, h.f5⟩
set_option maxHeartbeats 1000000 in
theorem rmom (n y o d h m s : Int) (v : vld y o d = true) (t : vldT h m s = true) (e : 86400 * dayN y o d + secT h m s = n) (w : World) :
    Calls Tryd.prog 27 #[.int .i64 n] w fun e w' => e = .returned (.agg #[.int .i64 y, .int .i64 o, .int .i64 d, .int .i64 h, .int .i64 m, .int .i64 s]) ∧ Below w.heap.size w w' := by
  have r := day_range v
  have q := secT_bd t
  have j := ins_join r.1 r.2 q.1 q.2
  have f := time_forth t
  rw [e] at j
  have HS := fun w => rsplit n j.1 w
  rw [j.2.1, j.2.2] at HS
  have HD := Lib.hid (fun w => refdate_yes (dayN y o d) y o d v rfl w)
  have HT := fun w => rtime (secT h m s) q.1 q.2 w
  rw [f.1, f.2.1, f.2.2] at HT
  replace HT := Lib.hid HT
  replace HS := Lib.hid HS
  generalize dayN y o d = D at *
  generalize secT h m s = S at *
  clear v t e r q j f
  go_enter Tryd.func27, Tryd.ntmps27
  go_wp2_with fail
  refine (HS.out _).mono ?_
  rintro e w1 ⟨rfl, k, rfl⟩
  have A1 := Lib.hid (below_drewN (grow (here w) (.cells #[.int .i64 0, .int .i64 0, .int .i64 0, .int .i64 0, .int .i64 0, .int .i64 0] 44)) k)
  have F1 := Lib.hid (Free6.new (below_drewN (here (w.alloc (.cells #[.int .i64 0, .int .i64 0, .int .i64 0, .int .i64 0, .int .i64 0, .int .i64 0] 44))) k))
  have S1 := Lib.hid (Six.new (below_drewN (here (w.alloc (.cells #[.int .i64 0, .int .i64 0, .int .i64 0, .int .i64 0, .int .i64 0, .int .i64 0] 44))) k))
  obtain ⟨w2, hw2⟩ : ∃ w2, (w.alloc (.cells #[.int .i64 0, .int .i64 0, .int .i64 0, .int .i64 0, .int .i64 0, .int .i64 0] 44)).drewN k = w2 := ⟨_, rfl⟩
  rw [hw2] at A1 F1 S1
  rw [hw2]
  clear hw2
  go_wp2_with fail
  refine (HD.out _).mono ?_
  rintro e w3 ⟨rfl, hb⟩
  have A3 := Lib.hid (down A1.out hb)
  have S3 := Lib.hid (S1.out.keep hb)
  have F3 := Lib.hid (F1.out.keep S1.out.lt hb)
  clear hb A1 F1 S1
  obtain ⟨w5, hw5⟩ : ∃ w5, w3.alloc (.cells #[.int .i64 y, .int .i64 o, .int .i64 d] 42) = w5 := ⟨_, rfl⟩
  have A5 : Hid (Below w.heap.size w w5) := by rw [← hw5]; exact grow A3.out _
  have S5 : Hid (Six w5 w.heap.size (.int .i64 0) (.int .i64 0) (.int .i64 0) (.int .i64 0) (.int .i64 0) (.int .i64 0)) := by rw [← hw5]; exact S3.out.old _
  have F5 : Hid (Free6 w5 w.heap.size) := by rw [← hw5]; exact F3.out.keep S3.out.lt (grow (here _) _)
  have B5 : Hid (Box w5 w3.heap.size (.int .i64 y) (.int .i64 o) (.int .i64 d)) := by rw [← hw5]; exact Box.new (here _)
  clear A3 S3 F3
  obtain ⟨b0, b1, b2, zb⟩ := B5.out
  obtain ⟨f0, f1, f2, f3, f4, f5⟩ := F5.out
  obtain ⟨g0, g1, g2, g3, g4, g5, -⟩ := S5.out
  go_wp2
  clear hw5
  go_region_with ((go_at_call 17; refine (HT.out _).mono ?_; rintro e w4 ⟨rfl, hb⟩; have A6 := Lib.hid (down A5.out.drew hb); have B6 := Lib.hid (B5.out.drew.keep hb); have S6 := Lib.hid (S5.out.drew.keep hb); have F6 := Lib.hid (F5.out.drew.keep S5.out.drew.lt hb); clear b0 b1 b2 zb f0 f1 f2 f3 f4 f5 g0 g1 g2 g3 g4 g5; obtain ⟨b0, b1, b2, zb⟩ := B6.out; obtain ⟨f0, f1, f2, f3, f4, f5⟩ := F6.out; obtain ⟨g0, g1, g2, g3, g4, g5, -⟩ := S6.out; clear hb))
  all_goals
    go_wp2
    exact bodyPost_ret (v := .agg #[.int .i64 y, .int .i64 o, .int .i64 d, .int .i64 h, .int .i64 m, .int .i64 s]) (by simp [results, Tryd.results27, go_sem, g0, g1, g2, g3, g4, g5]) rfl ⟨rfl, Below.set6 A6.out (Nat.le_refl _) _ _ _ _ _ _⟩
end Go.Proofs.YtehbegjocdahmaaDoor
