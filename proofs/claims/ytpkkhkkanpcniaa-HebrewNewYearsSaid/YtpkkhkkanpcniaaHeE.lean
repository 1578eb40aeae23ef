/- Contracts of civiltimeref07: Anniversary by its three answers. -/
import Derived.Test.YtpkkhkkanpcniaaHeD
namespace Go.Proofs.Ytpkkhkkanpcniaa
open Go.RowKit
set_option linter.unusedVariables false

theorem hanN_bd {y m d g : Int} (h : hvld y m d = true) (hg : hyr g = true) : -2092590 ≤ hanN y m d g ∧ hanN y m d g ≤ 5212400 ∧ hN g ≤ hanN y m d g ∧ hanN y m d g < hN (g + 1) + 30 := by
  obtain ⟨hyt, y0, y1, m0, m1, m13, d0, d30⟩ := hvld_bd h
  obtain ⟨g0, g1⟩ := hyr_iff.1 hg
  have am := hanM_in h hg
  rw [hmn_cn hg] at am
  have a := hN_bd (y := g) g0 (by omega)
  have a' := hN_bd (y := g + 1) (by omega) (by omega)
  have p := hpos_at am.1 am.2
  have q := hS_bd (b := hlp g) (l := hyl g) (Nat.le_of_lt p.1)
  have t := hS_le (b := hlp g) (l := hyl g) (show hpos (hlp g) (hanM y m g) + 1 ≤ hcn (hlp g) from p.1) (Nat.le_refl _)
  rw [hS_end (hsix_yr g)] at t
  have s := hS_succ (hlp g) (hyl g) _ p.1
  have b := hlenB_bd (hlp g) (hyl g) ((hord (hlp g)).getD (hpos (hlp g) (hanM y m g)) 0)
  unfold hanN hfst
  unfold hyl at *
  omega
/-- The error number, and the date. -/
theorem rhann_bad (y m d g : Int) (hy : I64 y) (hm : I64 m) (hd : I64 d) (hg : I64 g) (h : hvld y m d = false ∨ hyr g = false ∨ hvld y m d = true ∧ hyr g = true ∧ 5212335 ≤ hanN y m d g) (w : World) :
    Calls Try.prog 35 #[.agg #[.int .i64 y, .int .i64 m, .int .i64 d], .int .i64 g] w fun e w' => e = .returned (.tuple #[.agg #[.int .i64 0, .int .i64 0, .int .i64 0], .int .i64 2]) ∧ Below w.heap.size w w' := by
  cases q : hvld y m d
  · exact rhann_no y m d g hy hm hd hg (.inl q) w
  · cases r : hyr g
    · exact rhann_no y m d g hy hm hd hg (.inr ⟨q, r⟩) w
    · have h' : 5212335 ≤ hanN y m d g := by
        rcases h with h | h | h
        · rw [q] at h; exact absurd h (by simp)
        · rw [r] at h; exact absurd h (by simp)
        · exact h.2.2
      have b := hanN_bd q r
      exact rhann_off y m d g 0 0 0 q r (by omega) (by omega) (by decide) (fun w => rhat_out _ h' b.2.1 w) w
theorem rhann_yes (y m d g Y M D : Int) (h : hvld y m d = true) (hg : hyr g = true) (hv : hvld Y M D = true) (hn : hday Y M D = hanN y m d g) (w : World) :
    Calls Try.prog 35 #[.agg #[.int .i64 y, .int .i64 m, .int .i64 d], .int .i64 g] w fun e w' => e = .returned (.tuple #[.agg #[.int .i64 Y, .int .i64 M, .int .i64 D], .int .i64 0]) ∧ Below w.heap.size w w' := by
  obtain ⟨hyt, Y0, Y1, -⟩ := hvld_bd hv
  exact rhann_ok y m d g Y M D h hg (by omega) (by omega) hyt (fun w => rhat _ Y M D hv hn w) w
/-- Each date and year falls in one of the cases. -/
theorem hann_cases (y m d g : Int) : (hvld y m d = false ∨ hyr g = false ∨ hvld y m d = true ∧ hyr g = true ∧ 5212335 ≤ hanN y m d g) ∨ hvld y m d = true ∧ hyr g = true ∧ ∃ Y M D, hvld Y M D = true ∧ hday Y M D = hanN y m d g := by
  cases q : hvld y m d
  · exact .inl (.inl rfl)
  · cases r : hyr g
    · exact .inl (.inr (.inl rfl))
    · by_cases z : 5212335 ≤ hanN y m d g
      · exact .inl (.inr (.inr ⟨rfl, rfl, z⟩))
      · have b := hanN_bd q r
        obtain ⟨Y, M, D, hv, hn⟩ := hdate_of (n := hanN y m d g) (by rw [hN_first]; exact b.1) (by rw [hN_last]; omega)
        exact .inr ⟨rfl, rfl, Y, M, D, hv, hn⟩
end Go.Proofs.Ytpkkhkkanpcniaa
