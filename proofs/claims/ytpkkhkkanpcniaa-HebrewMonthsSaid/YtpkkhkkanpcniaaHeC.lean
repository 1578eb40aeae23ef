/- Contracts of civiltimeref07: Anniversary. -/
import Derived.Test.YtpkkhkkanpcniaaHeB
import Derived.Deep.RegionHeld3
namespace Go.Proofs.Ytpkkhkkanpcniaa
open Go.RowKit
set_option linter.unusedVariables false

/-- The month of an anniversary. -/
def hanM (y m g : Int) : Int := if m = hmn y then hmn g else m
theorem hanM_in {y m d g : Int} (h : hvld y m d = true) (hg : hyr g = true) : 1 ≤ hanM y m g ∧ hanM y m g ≤ hmn g := by
  obtain ⟨hy, -, -, m0, m1, -⟩ := hvld_bd h
  unfold hanM
  rcases hmn_in hy with ⟨-, a⟩ | ⟨-, a⟩ <;> rcases hmn_in hg with ⟨-, b⟩ | ⟨-, b⟩ <;> rw [a, b] <;> rw [a] at m1 <;> split <;> omega
/-- The day on which an anniversary falls. -/
def hanN (y m d g : Int) : Int := hfst g (hanM y m g) + d - 1
set_option maxHeartbeats 1000000 in
theorem rhann_no (y m d g : Int) (hy : I64 y) (hm : I64 m) (hd : I64 d) (hg : I64 g) (h : hvld y m d = false ∨ hvld y m d = true ∧ hyr g = false) (w : World) :
    Calls Try.prog 35 #[.agg #[.int .i64 y, .int .i64 m, .int .i64 d], .int .i64 g] w fun e w' => e = .returned (.tuple #[.agg #[.int .i64 0, .int .i64 0, .int .i64 0], .int .i64 2]) ∧ Below w.heap.size w w' := by
  have HV := fun w => rhvld y m d hy hm hd w
  have HY := fun w => rhyr g hg w
  obtain ⟨hg0, hg1⟩ := hg
  rcases h with h | ⟨h, h2⟩
  · rw [h] at HV
    replace HV := Lib.hid HV
    clear HY h
    go_enter Try.func35, Try.ntmps35
    go_wp2_with fail
    refine (HV.out _).mono ?_
    rintro e w1 ⟨rfl, hb⟩
    have e1 : (w.alloc (.cells #[.int .i64 y, .int .i64 m, .int .i64 d] 35)).heap.size = w.heap.size + 1 := by simp
    have A1 := Lib.hid (down (grow (grow (here w) _) _) hb)
    have F1 := Free.new hb
    have C1 := Box.new hb
    rw [e1] at C1 F1
    obtain ⟨f0, f1, f2⟩ := F1
    obtain ⟨c0, c1, c2, cz⟩ := C1
    have F1 := Lib.hid (Free.mk f0 f1 f2)
    have C1 := Lib.hid (Box.mk c0 c1 c2 cz)
    clear hb
    go_wp2
    obtain ⟨w9, hw9⟩ : ∃ w9 : World, (((w1.setCell ⟨w.heap.size + 1, 0, none⟩ (.int .i64 0)).setCell ⟨w.heap.size + 1, 1, none⟩ (.int .i64 0)).setCell ⟨w.heap.size + 1, 2, none⟩ (.int .i64 0)) = w9 := ⟨_, rfl⟩
    have B9 : Box w9 (w.heap.size + 1) (.int .i64 0) (.int .i64 0) (.int .i64 0) := by rw [← hw9]; exact ((C1.out.put0 _).put1 _).put2 _
    have A9 : Below w.heap.size w w9 := by rw [← hw9]; exact ((A1.out.setCell (Nat.le_succ _) _).setCell (Nat.le_succ _) _).setCell (Nat.le_succ _) _
    obtain ⟨e0, e1, e2, -⟩ := B9
    rw [hw9]
    exact bodyPost_ret (v := .tuple #[.agg #[.int .i64 0, .int .i64 0, .int .i64 0], .int .i64 2]) (by simp [results, Try.results35, go_sem, e0, e1, e2]) rfl ⟨rfl, A9⟩
  · rw [h] at HV
    rw [h2] at HY
    replace HV := Lib.hid HV
    replace HY := Lib.hid HY
    clear h h2
    go_enter Try.func35, Try.ntmps35
    go_wp2_with fail
    refine (HV.out _).mono ?_
    rintro e w1 ⟨rfl, hb⟩
    have e1 : (w.alloc (.cells #[.int .i64 y, .int .i64 m, .int .i64 d] 35)).heap.size = w.heap.size + 1 := by simp
    have A1 := Lib.hid (down (grow (grow (here w) _) _) hb)
    have F1 := Free.new hb
    have C1 := Box.new hb
    rw [e1] at C1 F1
    obtain ⟨f0, f1, f2⟩ := F1
    obtain ⟨c0, c1, c2, cz⟩ := C1
    have F1 := Lib.hid (Free.mk f0 f1 f2)
    have C1 := Lib.hid (Box.mk c0 c1 c2 cz)
    clear hb
    go_wp2_with fail
    refine (HY.out _).mono ?_
    rintro e w2 ⟨rfl, rfl⟩
    go_wp2
    obtain ⟨w9, hw9⟩ : ∃ w9 : World, (((w1.setCell ⟨w.heap.size + 1, 0, none⟩ (.int .i64 0)).setCell ⟨w.heap.size + 1, 1, none⟩ (.int .i64 0)).setCell ⟨w.heap.size + 1, 2, none⟩ (.int .i64 0)) = w9 := ⟨_, rfl⟩
    have B9 : Box w9 (w.heap.size + 1) (.int .i64 0) (.int .i64 0) (.int .i64 0) := by rw [← hw9]; exact ((C1.out.put0 _).put1 _).put2 _
    have A9 : Below w.heap.size w w9 := by rw [← hw9]; exact ((A1.out.setCell (Nat.le_succ _) _).setCell (Nat.le_succ _) _).setCell (Nat.le_succ _) _
    obtain ⟨e0, e1, e2, -⟩ := B9
    rw [hw9]
    exact bodyPost_ret (v := .tuple #[.agg #[.int .i64 0, .int .i64 0, .int .i64 0], .int .i64 2]) (by simp [results, Try.results35, go_sem, e0, e1, e2]) rfl ⟨rfl, A9⟩
end Go.Proofs.Ytpkkhkkanpcniaa
