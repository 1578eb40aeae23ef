/- Law 12: great. -/
import Derived.Test.YtdkmahdfnmoliaaRnR
namespace Go.Proofs.Ytdkmahdfnmoliaa
open Go.RowKit
set_option linter.unusedVariables false

/-- A list of slices: where each lies, how long it is, its room. -/
abbrev Sls := List (Option Addr × Nat × Nat)
def slV (p : Option Addr × Nat × Nat) : Value := .slice p.1 p.2.1 p.2.2
def grB (ls : Sls) : Bool := ls.any fun p => decide (80 < p.2.1)
theorem grB_at {ls : Sls} : grB ls = true ↔ ∃ i, i < ls.length ∧ 80 < (ls.getD i (none, 0, 0)).2.1 := by
  unfold grB
  rw [List.any_eq_true]
  constructor
  · rintro ⟨p, hp, e⟩
    obtain ⟨i, hi, rfl⟩ := List.getElem_of_mem hp
    exact ⟨i, hi, by rw [List.getD_eq_getElem?_getD, List.getElem?_eq_getElem hi]; exact of_decide_eq_true e⟩
  · rintro ⟨i, hi, e⟩
    refine ⟨ls[i], List.getElem_mem hi, decide_eq_true ?_⟩
    rwa [List.getD_eq_getElem?_getD, List.getElem?_eq_getElem hi] at e
theorem rngr1 (o : Option Addr) (n c : Nat) (hn : n ≤ maxLen) (w : World) : Calls Try.prog 50 #[.slice o n c] w fun e w' => e = .returned (.bool (decide (80 < n))) ∧ w = w' := by
  unfold maxLen at hn
  by_cases z : 80 < n
  · have kz : decide (80 < (n : Int)) = true := decide_eq_true (by omega)
    rw [decide_eq_true z]
    go_enter Try.func50, Try.ntmps50
    go_wp2
    go_ret
    exact ⟨rfl, rfl⟩
  · have kz : decide (80 < (n : Int)) = false := decide_eq_false (by omega)
    rw [decide_eq_false z]
    go_enter Try.func50, Try.ntmps50
    go_wp2
    go_ret
    exact ⟨rfl, rfl⟩
set_option maxRecDepth 100000 in
set_option maxHeartbeats 1000000 in
theorem rnidx (ls : Sls) (g : Nat) (hl : ls.length ≤ 1000) (hm : ∀ i, i < ls.length → (ls.getD i (none, 0, 0)).2.1 ≤ maxLen) (w : World) (hg : g < w.heap.size) (hc : ∀ i, i < ls.length → w.cell? ⟨g, i, none⟩ = some (slV (ls.getD i (none, 0, 0)))) :
    Calls Try.prog 67 #[.slice (some ⟨g, 0, none⟩) ls.length ls.length, .func (.func 50) #[] #[]] w fun e w' => (∃ i : Int, e = .returned (.int .i64 i) ∧ -1 ≤ i ∧ i ≤ 1000 ∧ (0 ≤ i ↔ grB ls = true)) ∧ w = w' := by
  have yes := Lib.hid (fun k (hk : k < ls.length) (e : 80 < (ls.getD k (none, 0, 0)).2.1) => grB_at.2 ⟨k, hk, e⟩)
  have no : Hid ((∀ i, i < ls.length → ¬ 80 < (ls.getD i (none, 0, 0)).2.1) → grB ls = false) := fun g => by
    rw [← Bool.not_eq_true, grB_at]; rintro ⟨i, hi, e⟩; exact g i hi e
  have HC := Lib.hid hc
  have HM := Lib.hid hm
  clear hc hm
  obtain ⟨N, hN⟩ : ∃ N, ls.length = N := ⟨_, rfl⟩
  rw [hN] at hl yes no HC HM ⊢
  generalize grB ls = R at *
  go_enter Try.func67, Try.ntmps67
  go_wp2
  go_loopw [8] (fun a wr => ∃ k : Nat, k ≤ N ∧ a = .int .i64 k ∧ Hid (∀ i, i < k → ¬ 80 < (ls.getD i (none, 0, 0)).2.1) ∧ wr = w) (fun a _ => N - (intOf a).toNat)
  case atStart => exact ⟨0, Nat.zero_le _, rfl, fun i hi => absurd hi (Nat.not_lt_zero _), rfl⟩
  case round =>
    obtain ⟨k, hk, rfl, HE, rfl⟩ := hrel
    by_cases z : k < N
    · have kz : decide ((k : Int) < (N : Int)) = true := decide_eq_true (by omega)
      have c0 := HC.out k z
      have yk := Lib.hid (yes.out k z)
      have HF := Lib.hid (fun w => rngr1 (ls.getD k (none, 0, 0)).1 (ls.getD k (none, 0, 0)).2.1 (ls.getD k (none, 0, 0)).2.2 (HM.out k z) w)
      have step : Hid (¬ 80 < (ls.getD k (none, 0, 0)).2.1 → ∀ i, i < k + 1 → ¬ 80 < (ls.getD i (none, 0, 0)).2.1) := fun e i hi => by
        rcases Nat.lt_or_ge i k with c | c
        · exact HE.out i c
        · obtain rfl : i = k := by omega
          exact e
      clear yes no HC HM HE
      generalize ls.getD k (none, 0, 0) = p at *
      obtain ⟨o, n, c⟩ := p
      replace c0 : wr.cell? ⟨g, k, none⟩ = some (.slice o n c) := c0
      by_cases e : 80 < n
      · rw [decide_eq_true (show 80 < (o, n, c).2.1 from e)] at HF
        have hH := Lib.hid (yk.out e)
        clear yk step e
        go_wp2_with fail
        refine (HF.out _).mono ?_
        rintro e w5 ⟨rfl, rfl⟩
        go_wp2
        go_ret
        exact ⟨⟨(k : Int), rfl, by omega, by omega, fun _ => hH.out, fun _ => by omega⟩, rfl⟩
      · rw [decide_eq_false (show ¬ 80 < (o, n, c).2.1 from e)] at HF
        have HE' := Lib.hid (step.out e)
        clear yk step e
        go_wp2_with fail
        refine (HF.out _).mono ?_
        rintro e w5 ⟨rfl, rfl⟩
        go_wp2
        go_roundw
        case rel => exact ⟨k + 1, by omega, by go_num, HE', by first | rfl | trivial⟩
        case measure => simp [intOf]; omega
    · have kz : decide ((k : Int) < (N : Int)) = false := decide_eq_false (by omega)
      obtain rfl : k = N := by omega
      have hH := Lib.hid (no.out HE.out)
      clear yes no HC HM HE
      go_wp2
      go_ret
      exact ⟨⟨-1, rfl, by omega, by omega, fun h => by omega, fun h => by rw [hH.out] at h; cases h⟩, rfl⟩
set_option maxRecDepth 100000 in
set_option maxHeartbeats 1000000 in
theorem rngreat (ls : Sls) (g : Nat) (hl : ls.length ≤ 1000) (hm : ∀ i, i < ls.length → (ls.getD i (none, 0, 0)).2.1 ≤ maxLen) (w : World) (hg : g < w.heap.size) (hc : ∀ i, i < ls.length → w.cell? ⟨g, i, none⟩ = some (slV (ls.getD i (none, 0, 0)))) :
    Calls Try.prog 18 #[.slice (some ⟨g, 0, none⟩) ls.length ls.length] w fun e w' => e = .returned (.bool (grB ls)) ∧ w = w' := by
  have HX := rnidx ls g hl hm w hg hc
  have CFC : Calls Try.prog 49 #[.slice (some ⟨g, 0, none⟩) ls.length ls.length, .func (.func 50) #[] #[]] w fun e w' => e = .returned (.bool (grB ls)) ∧ w = w' := by
    clear hc hm hl hg
    go_enter Try.func49, Try.ntmps49
    go_wp2_with fail
    refine HX.mono ?_
    rintro e w1 ⟨⟨i, rfl, i0, i1, iff⟩, rfl⟩
    cases u : grB ls
    · have kz : decide (0 ≤ i) = false := decide_eq_false (fun h => by rw [iff.1 h] at u; cases u)
      replace u := Lib.hid u
      clear iff
      go_wp2
      go_ret
      exact ⟨by rw [u.out]; rfl, rfl⟩
    · have kz : decide (0 ≤ i) = true := decide_eq_true (iff.2 u)
      replace u := Lib.hid u
      clear iff
      go_wp2
      go_ret
      exact ⟨by rw [u.out]; rfl, rfl⟩
  clear HX hc hm hl hg
  go_enter Try.func18, Try.ntmps18
  go_wp2_with fail
  refine CFC.mono ?_
  rintro e w1 ⟨rfl, rfl⟩
  go_wp2
  go_ret
  exact ⟨rfl, rfl⟩
end Go.Proofs.Ytdkmahdfnmoliaa
