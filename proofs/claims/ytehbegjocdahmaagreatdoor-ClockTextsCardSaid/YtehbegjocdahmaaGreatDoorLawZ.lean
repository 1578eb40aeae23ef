/- The walk of ClockTexts: the Go text returns true, at every input. -/
import Derived.Test.YtehbegjocdahmaaGreatDoorZE

import Derived.Test.YtehbegjocdahmaaGreatDoorZD

import Derived.Test.YtehbegjocdahmaaGreatDoorFrameZ

namespace Go.Proofs.YtehbegjocdahmaaGreatDoor

open Go.RowKit

set_option linter.unusedVariables false

namespace ClockTexts
theorem walk (y o d h m s : Int) (t : ByteArray) (hy : (Lit.int .i64 y).wf = true) (ho : (Lit.int .i64 o).wf = true) (hd : (Lit.int .i64 d).wf = true) (hh : (Lit.int .i64 h).wf = true) (hm : (Lit.int .i64 m).wf = true) (hs : (Lit.int .i64 s).wf = true) (ts : t.size ≤ maxLen) (w : World) (hl : ListedZ w) :
    Calls Tryz.prog 3 #[.agg #[.int .i64 y, .int .i64 o, .int .i64 d, .int .i64 h, .int .i64 m, .int .i64 s], .string t] w fun e w' => e = .returned (.bool true) ∧ Below w.heap.size w w' := by
  replace hy := i64_wf hy
  replace ho := i64_wf ho
  replace hd := i64_wf hd
  replace hh := i64_wf hh
  replace hm := i64_wf hm
  replace hs := i64_wf hs
  obtain ⟨hl, hev⟩ := hl
  have both : (∃ a b c p q r : Int, vld a b c = true ∧ vldT p q r = true ∧ textM a b c p q r = t.data.toList ∧ KP t a b c p q r 0 ∧ RP t a b c p q r 0) ∨
      (∃ a b c p q r E : Int, (E != 0) = true ∧ 0 ≤ E ∧ E ≤ 100 ∧ KP t a b c p q r E ∧ RP t a b c p q r E) := by
    cases f : mfL t.data.toList
    · exact .inr ⟨0, 0, 0, 0, 0, 0, 3, by decide, by omega, by omega, fun w _ _ => kparse_form t ts f w, fun w => rparse_form t ts f w⟩
    · cases k : (vld (fld t.data.toList 0 4) (fld t.data.toList 5 2) (fld t.data.toList 8 2) && vldT (fld t.data.toList 11 2) (fld t.data.toList 14 2) (fld t.data.toList 17 2))
      · exact .inr ⟨0, 0, 0, 0, 0, 0, 1, by decide, by omega, by omega, fun w ht he => kparse_some t f false _ _ _ _ _ _ k rfl rfl rfl rfl rfl rfl w ht he, fun w => rparse_some t f false _ _ _ _ _ _ k rfl rfl rfl rfl rfl rfl w⟩
      · have k2 := k
        rw [Bool.and_eq_true] at k2
        exact .inl ⟨_, _, _, _, _, _, k2.1, k2.2, mtext_forth f k2.1 k2.2, fun w ht he => kparse_some t f true _ _ _ _ _ _ k rfl rfl rfl rfl rfl rfl w ht he, fun w => rparse_some t f true _ _ _ _ _ _ k rfl rfl rfl rfl rfl rfl w⟩
  cases v : (vld y o d && vldT h m s)
  · rcases both with ⟨a, b, c, p, q, r, u1, u2, u3, K, R⟩ | ⟨a, b, c, p, q, r, E, e0, e1, e2, K, R⟩
    · exact go_nv y o d h m s a b c p q r t ts hy ho hd hh hm hs v u1 u2 u3 K R w hl hev
    · exact go_nn y o d h m s a b c p q r E t ts hy ho hd hh hm hs v e0 e1 e2 K R w hl hev
  · rw [Bool.and_eq_true] at v
    rcases both with ⟨a, b, c, p, q, r, u1, u2, u3, K, R⟩ | ⟨a, b, c, p, q, r, E, e0, e1, e2, K, R⟩
    · exact go_vv y o d h m s a b c p q r t ts v.1 v.2 u1 u2 u3 K R w hl hev
    · exact go_vn y o d h m s a b c p q r E t ts v.1 v.2 e0 e1 e2 K R w hl hev
end ClockTexts

end Go.Proofs.YtehbegjocdahmaaGreatDoor
