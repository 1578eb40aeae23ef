/- Contracts of civiltimeref06: Months and Moved, whole. -/
import Derived.Test.YtobipbmigpkhmaaDoorIsV
namespace Go.Proofs.YtobipbmigpkhmaaDoor
open Go.RowKit
set_option linter.unusedVariables false

theorem rimonths (k f n : Int) (hk : I64 k) (hf : I64 f) (hn : I64 n) (w : World) :
    Calls Tryd.prog 28 #[.int .i64 k, .int .i64 f, .int .i64 n] w fun e w' => (∃ v, e = .returned (.tuple #[.agg #[.int .i64 (imonO k f n), .int .i64 (imonP k f n), v], .int .i64 (imonE k f n)]) ∧ PairS w.heap.size w' v (imonL k f n)) ∧ Below w.heap.size w w' := by
  by_cases h : ikd k = false ∨ n < 1 ∨ 360 < n ∨ ¬ 360 % n = 0
  · obtain ⟨e1, e2, e3, e4⟩ := imon_arg (f := f) h
    rw [e1, e2, e3, e4]
    cases q : ikd k
    · exact (rimonths_kind k f n hk hf hn q w).mono fun e w' ⟨he, hb⟩ => ⟨⟨_, he, Sl.none _ _⟩, hb⟩
    · exact (rimonths_arg k f n hf hn q (by rw [q] at h; simpa using h) w).mono fun e w' ⟨he, hb⟩ => ⟨⟨_, he, Sl.none _ _⟩, hb⟩
  · obtain ⟨q, n0, n1, hd, hc, -⟩ := imon_parts h
    by_cases h2 : f < 1 ∨ 9571 < f ∨ ¬ (f - 1) % 30 = 0
    · obtain ⟨e1, e2, e3, e4⟩ := imon_range h h2
      rw [e1, e2, e3, e4]
      exact (rimonths_range k f n hf q n0 n1 hd h2 w).mono fun e w' ⟨he, hb⟩ => ⟨⟨_, he, Sl.none _ _⟩, hb⟩
    · obtain ⟨e1, e2, e3, e4⟩ := imon_good h h2
      rw [e1, e2, e3, e4]
      exact rimonths_yes k f n _ q n0 n1 hc (by omega) (by omega) (by omega) w
/-- Moved: the error number and the days. -/
def imvE (k m d g : Int) : Int := if imovB k m d = false then 1 else if g < 1 ∨ 9999 < g then 2 else 0
def imvL (k m d g : Int) : List Int := if imovB k m d = true ∧ 1 ≤ g ∧ g ≤ 9999 then imovL k m d (dayN g 1 1) (dayN g 12 31) 9601 else []
theorem imv_arg {k m d g : Int} (h : imovB k m d = false) : imvE k m d g = 1 ∧ imvL k m d g = [] := by
  unfold imvE imvL; rw [if_pos h, if_neg (fun q => by rw [h] at q; exact absurd q.1 (by simp))]; exact ⟨rfl, rfl⟩
theorem imv_range {k m d g : Int} (h : imovB k m d = true) (h2 : g < 1 ∨ 9999 < g) : imvE k m d g = 2 ∧ imvL k m d g = [] := by
  unfold imvE imvL; rw [if_neg (by rw [h]; simp), if_pos h2, if_neg (by omega)]; exact ⟨rfl, rfl⟩
theorem imv_good {k m d g : Int} (h : imovB k m d = true) (g0 : 1 ≤ g) (g1 : g ≤ 9999) : imvE k m d g = 0 ∧ imvL k m d g = imovL k m d (dayN g 1 1) (dayN g 12 31) 9601 := by
  unfold imvE imvL; rw [if_neg (by rw [h]; simp), if_neg (by omega), if_pos ⟨h, g0, g1⟩]; exact ⟨rfl, rfl⟩
theorem rimoved (k y m d g : Int) (hk : I64 k) (hy : I64 y) (hm : I64 m) (hd : I64 d) (hg : I64 g) (w : World) :
    Calls Tryd.prog 31 #[.int .i64 k, .agg #[.int .i64 y, .int .i64 m, .int .i64 d], .int .i64 g] w fun e w' => (∃ v, e = .returned (.tuple #[v, .int .i64 (imvE k m d g)]) ∧ IntS w.heap.size w' v (imvL k m d g)) ∧ Below w.heap.size w w' := by
  cases h : imovB k m d
  · obtain ⟨e1, e2⟩ := imv_arg (g := g) h
    rw [e1, e2]
    exact (rimoved_arg k y m d g hk hy hm hd hg h w).mono fun e w' ⟨he, hb⟩ => ⟨⟨_, he, Sl.none _ _⟩, hb⟩
  · by_cases h2 : g < 1 ∨ 9999 < g
    · obtain ⟨e1, e2⟩ := imv_range h h2
      rw [e1, e2]
      exact (rimoved_range k y m d g hy hg h h2 w).mono fun e w' ⟨he, hb⟩ => ⟨⟨_, he, Sl.none _ _⟩, hb⟩
    · obtain ⟨e1, e2⟩ := imv_good h (show 1 ≤ g by omega) (show g ≤ 9999 by omega)
      rw [e1, e2]
      exact rimoved_yes k y m d g hy h (by omega) (by omega) w
theorem imvL_len (k m d g : Int) : (imvL k m d g).length ≤ 9601 := by
  unfold imvL; split
  · exact imovL_len _ _ _ _ _ _
  · simp
theorem imonL_len (k f n : Int) : (imonL k f n).length ≤ 360 := by
  unfold imonL; split
  · rename_i h
    unfold imonE at h
    split at h
    · exact absurd h (by decide)
    · rename_i q
      rw [ispans_length]; exact (imon_parts q).2.2.2.2.2
  · simp
end Go.Proofs.YtobipbmigpkhmaaDoor
