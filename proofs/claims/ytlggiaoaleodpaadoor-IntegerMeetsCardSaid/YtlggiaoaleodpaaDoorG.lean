/- The examples of the chapter: what the statements ask first. -/
import Derived.Test.YtlggiaoaleodpaaDoorE
import Derived.Test.YtlggiaoaleodpaaDoorF
namespace Go.Proofs.YtlggiaoaleodpaaDoor
open Go.RowKit
set_option linter.unusedVariables false

theorem textL_ex : textL (-7) 3 = [45, 48, 48, 55] := by
  unfold textL
  have e : (mg (-7)).toNat = 7 := by decide
  have d : Lib.decDigits 7 = [55] := by rw [Lib.decDigits, dif_pos (by omega)]; rfl
  rw [if_neg (by decide), if_pos (by decide), e, d]
  rfl
theorem meet_ex (w : World) : Calls Tryd.prog 23 #[.int .i64 2, .int .i64 3, .int .i64 3, .int .i64 5] w fun e w' => e = .returned (.tuple #[.int .i64 8, .int .i64 15, .bool true]) ∧ ∃ n, w' = w.drewN n := by
  refine (meet_yes 2147483647 prodMod_low 2 3 3 5 (by omega) (by omega) (by omega) (by omega) (by omega) (by omega) (by omega) (by decide +kernel) w).mono fun e w' ⟨he, hw⟩ => ⟨?_, hw⟩
  rw [he, if_pos (by decide +kernel)]
  have e1 : dR 2 3 + meetK (dR 2 3) 3 (dR 3 5) 5 (gR 3 5) * 3 = 8 := by decide +kernel
  have e2 : lR 3 5 = 15 := by decide +kernel
  rw [e1, e2]
theorem div_ex (w : World) : Calls Tryd.prog 14 #[.int .i64 (-7), .int .i64 2] w fun e w' => e = .returned (.tuple #[.int .i64 (-4), .int .i64 1, .int .i64 0]) ∧ ∃ n, w' = w.drewN n := by
  refine (div_all (-7) 2 (by omega) (by omega) (by omega) (by omega) w).mono fun e w' ⟨he, hw⟩ => ⟨?_, hw⟩
  rw [he, show dQ (-7) 2 = -4 by decide +kernel, show dR (-7) 2 = 1 by decide +kernel, show dE (-7) 2 = 0 by decide +kernel]
theorem below_drewN {B : Nat} {a w : World} (h : Below B a w) (n : Nat) : Below B a (w.drewN n) := ⟨h.os, h.tape, h.output, h.size, h.block⟩
abbrev Tab (w : World) : Prop := Lib.TabIs Tryd.prog w "internal/strconv.uint64pow10" .u64 Lib.pow10Tab
theorem tab_drewN {w : World} (h : Tab w) (n : Nat) : Tab (w.drewN n) := h
set_option maxHeartbeats 400000 in
theorem awake_all (w : World) (htab : Tab w) :
    Calls Tryd.prog 13 #[] w fun e w' => e = .returned (.bool true) ∧ Below w.heap.size w w' := by
  have HT := Lib.hid (fun w (h : Tab w) => text_all (-7) 3 (by omega) (by omega) (by omega) (by omega) w h)
  rw [textL_ex] at HT
  replace htab := Lib.hid htab
  go_enter Tryd.func13, Tryd.ntmps13
  go_wp2_with fail
  refine (div_ex _).mono ?_
  rintro e w' ⟨rfl, n, rfl⟩
  go_wp2_with fail
  refine (meet_ex _).mono ?_
  rintro e w' ⟨rfl, m, rfl⟩
  go_wp2_with fail
  refine (HT.out _ (tab_drewN htab.out _)).mono ?_
  rintro e w' ⟨rfl, hb⟩
  go_wp2
  go_ret
  exact ⟨rfl, (below_drewN (Below.refl _ _) _).trans hb⟩
end Go.Proofs.YtlggiaoaleodpaaDoor
