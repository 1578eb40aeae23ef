/- Contracts of civiltimeref05: MixedDay, Day, whole. -/
import Derived.Test.YtdhmmfdpfpecmaaDoorJuV
import Derived.Test.YtdhmmfdpfpecmaaDoorJuW
namespace Go.Proofs.YtdhmmfdpfpecmaaDoor
open Go.RowKit
set_option linter.unusedVariables false

theorem rjgreg_some (y m d : Int) (hy : I64 y) (hm : I64 m) (hd : I64 d) : ∃ (N : Int) (g : Bool), (-800000 ≤ N ∧ N ≤ 3000000) ∧
    Hid (∀ w, Calls Tryd.prog 49 #[.agg #[.int .i64 y, .int .i64 m, .int .i64 d]] w fun e w' => e = .returned (.tuple #[.int .i64 N, .bool g]) ∧ Below w.heap.size w w') := by
  cases h : vld y m d
  · exact ⟨0, false, by omega, fun w => rjgreg_no y m d hy hm hd h w⟩
  · have r := day_range h
    exact ⟨dayN y m d, true, by omega, fun w => rjgreg_yes y m d h w⟩
theorem rjmix (f y m d : Int) (hf : I64 f) (hy : I64 y) (hm : I64 m) (hd : I64 d) (w : World) :
    Calls Tryd.prog 29 #[.agg #[.int .i64 f], .agg #[.int .i64 y, .int .i64 m, .int .i64 d]] w fun e w' => e = .returned (.tuple #[.int .i64 (mixN f y m d), .int .i64 (mixE f y m d)]) ∧ Below w.heap.size w w' := by
  by_cases b1 : f < -719162
  · obtain ⟨N, g, hN, HG⟩ := rjgreg_some y m d hy hm hd
    have e := mix_bad (f := f) (y := y) (m := m) (d := d) (Or.inl b1)
    rw [e.1, e.2]
    exact rjmix_bad1 f y m d N 0 hf hN (by omega) g (decide_eq_true b1) HG w
  · by_cases b2 : 2932897 < f
    · obtain ⟨N, g, hN, HG⟩ := rjgreg_some y m d hy hm hd
      have e := mix_bad (f := f) (y := y) (m := m) (d := d) (Or.inr (Or.inl b2))
      rw [e.1, e.2]
      exact rjmix_bad2 f y m d N 0 hf hN (by omega) g (decide_eq_false b1) (decide_eq_true b2) HG w
    · have k1 := decide_eq_false b1
      have k2 := decide_eq_false b2
      cases hj : jvld y m d
      · have hv : vld y m d = false := by
          cases h : vld y m d
          · rfl
          · rw [vld_jvld h] at hj; exact absurd hj (by simp)
        have e := mix_bad (f := f) (Or.inr (Or.inr hj))
        rw [e.1, e.2]
        refine rjmix_arg f y m d 0 0 hf (by omega) (by omega) k1 k2 (fun w => rjgreg_no y m d hy hm hd hv w) (fun w => ?_) w
        have q := rjvalid y m d hy hm hd w
        rw [hj] at q
        exact q
      · have HV : ∀ w, Calls Tryd.prog 38 #[.agg #[.int .i64 y, .int .i64 m, .int .i64 d]] w fun e w' => e = .returned (.bool true) ∧ Below w.heap.size w w' := fun w => by
          have q := rjvalid y m d hy hm hd w
          rw [hj] at q
          exact q
        have HC := fun w => rjcount y m d hj w
        have jb := jday_bd hj
        have HR := fun w => rjright (jdayN y m d) (by omega) (by omega) w
        have jb2 : -800000 ≤ jdayN y m d ∧ jdayN y m d ≤ 3000000 := by omega
        by_cases c : -719162 ≤ jdayN y m d ∧ jdayN y m d < f
        · have e := mix_julian (by omega) (by omega) hj c.1 c.2
          rw [e.1, e.2]
          rw [dyB_iff.2 ⟨c.1, by omega⟩] at HR
          cases hv : vld y m d
          · exact rjmix_julF f y m d 0 (jdayN y m d) hf (by omega) jb2 k1 k2 (decide_eq_true c.2) (fun w => rjgreg_no y m d hy hm hd hv w) HV HC HR w
          · have r := day_range hv
            exact rjmix_julT f y m d (dayN y m d) (jdayN y m d) hf (by omega) jb2 k1 k2 (decide_eq_true c.2) (fun w => rjgreg_yes y m d hv w) HV HC HR w
        · cases hv : vld y m d
          · have e := mix_none (by omega) (by omega) hj c (Or.inl hv)
            rw [e.1, e.2]
            cases hb : dyB (jdayN y m d)
            · rw [hb] at HR
              exact rjmix_outF_false f y m d 0 (jdayN y m d) hf (by omega) jb2 k1 k2 (fun w => rjgreg_no y m d hy hm hd hv w) HV HC HR w
            · rw [hb] at HR
              have q := dyB_iff.1 hb
              exact rjmix_outF_true f y m d 0 (jdayN y m d) hf (by omega) jb2 k1 k2 (decide_eq_false (by omega)) (fun w => rjgreg_no y m d hy hm hd hv w) HV HC HR w
          · have r := day_range hv
            have HS := fun w => rjright (dayN y m d) (by omega) (by omega) w
            rw [dyB_iff.2 r] at HS
            by_cases k : f ≤ dayN y m d
            · have e := mix_greg (by omega) (by omega) hv c k
              rw [e.1, e.2]
              cases hb : dyB (jdayN y m d)
              · rw [hb] at HR
                exact rjmix_outT_false_true f y m d (dayN y m d) (jdayN y m d) hf (by omega) jb2 k1 k2 (decide_eq_true k) (fun w => rjgreg_yes y m d hv w) HV HC HR HS w
              · rw [hb] at HR
                have q := dyB_iff.1 hb
                exact rjmix_outT_true_true f y m d (dayN y m d) (jdayN y m d) hf (by omega) jb2 k1 k2 (decide_eq_false (by omega)) (decide_eq_true k) (fun w => rjgreg_yes y m d hv w) HV HC HR HS w
            · have e := mix_none (by omega) (by omega) hj c (Or.inr (by omega))
              rw [e.1, e.2]
              cases hb : dyB (jdayN y m d)
              · rw [hb] at HR
                exact rjmix_outT_false_false f y m d (dayN y m d) (jdayN y m d) hf (by omega) jb2 k1 k2 (decide_eq_false k) (fun w => rjgreg_yes y m d hv w) HV HC HR HS w
              · rw [hb] at HR
                have q := dyB_iff.1 hb
                exact rjmix_outT_true_false f y m d (dayN y m d) (jdayN y m d) hf (by omega) jb2 k1 k2 (decide_eq_false (by omega)) (decide_eq_false k) (fun w => rjgreg_yes y m d hv w) HV HC HR HS w
/-- Day: the number and the error number. -/
def jdN (y m d : Int) : Int := if jvld y m d = true ∧ -719162 ≤ jdayN y m d ∧ jdayN y m d < 2932897 then jdayN y m d else 0
def jdE (y m d : Int) : Int := if jvld y m d = false then 1 else if -719162 ≤ jdayN y m d ∧ jdayN y m d < 2932897 then 0 else 2
theorem jd_bad {y m d : Int} (h : jvld y m d = false) : jdN y m d = 0 ∧ jdE y m d = 1 := by
  unfold jdN jdE; rw [if_neg (fun q => by rw [h] at q; exact absurd q.1 (by simp)), if_pos h]; exact ⟨rfl, rfl⟩
theorem jd_out {y m d : Int} (h : jvld y m d = true) (k : ¬ (-719162 ≤ jdayN y m d ∧ jdayN y m d < 2932897)) : jdN y m d = 0 ∧ jdE y m d = 2 := by
  unfold jdN jdE; rw [if_neg (fun q => k q.2), if_neg (by rw [h]; simp), if_neg k]; exact ⟨rfl, rfl⟩
theorem jd_in {y m d : Int} (h : jvld y m d = true) (k : -719162 ≤ jdayN y m d ∧ jdayN y m d < 2932897) : jdN y m d = jdayN y m d ∧ jdE y m d = 0 := by
  unfold jdN jdE; rw [if_pos ⟨h, k⟩, if_neg (by rw [h]; simp), if_pos k]; exact ⟨rfl, rfl⟩
theorem rjday (y m d : Int) (hy : I64 y) (hm : I64 m) (hd : I64 d) (w : World) :
    Calls Tryd.prog 14 #[.agg #[.int .i64 y, .int .i64 m, .int .i64 d]] w fun e w' => e = .returned (.tuple #[.int .i64 (jdN y m d), .int .i64 (jdE y m d)]) ∧ Below w.heap.size w w' := by
  cases h : jvld y m d
  · rw [(jd_bad h).1, (jd_bad h).2]; exact rjday_no y m d hy hm hd h w
  · have q := rjday_yes y m d h w
    by_cases k : -719162 ≤ jdayN y m d ∧ jdayN y m d < 2932897
    · rw [dyB_iff.2 k] at q
      rw [(jd_in h k).1, (jd_in h k).2]; exact q
    · rw [show dyB (jdayN y m d) = false by rw [← Bool.not_eq_true, dyB_iff]; exact k] at q
      rw [(jd_out h k).1, (jd_out h k).2]; exact q
end Go.Proofs.YtdhmmfdpfpecmaaDoor
