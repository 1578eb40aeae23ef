/- What package feast answers, in plain words; civil.Date for any number. -/
import Derived.Test.YtljpjchcmiohpaaDoorFeR
import Derived.Test.YtljpjchcmiohpaaDoorFeList
import Derived.Test.YtljpjchcmiohpaaDoorLCivA
import Derived.Test.YtljpjchcmiohpaaDoorLSl
namespace Go.Proofs.YtljpjchcmiohpaaDoor
open Go.RowKit
set_option linter.unusedVariables false

def fgV (y : Int) : Int := if yrB y then fG y else 0
def fpV (y : Int) : Int := if yrB y then fE y else -1
def feV (y : Int) : Int := if yrB y then feN y else 0
def fjV (y : Int) : Int := if yrB y then fjN y else 0
def fyE (y : Int) : Int := if yrB y then 0 else 2
def ffY (n : Int) : Int := if dyB n then dtY n else 0
def ffO (n : Int) : Int := if dyB n then n - feN (dtY n) else 0
def ffE (n : Int) : Int := if dyB n then 0 else 2
def fyC (o m d y : Int) : Bool := fmB y o && (dtM (feN y + o) == m) && (dtD (feN y + o) == d)
def fyF (o m d a b : Int) : List Int := flt (fyC o m d) (max a 1) (rgN (max a 1) (min b 9999))
def fyL (o m d a b : Int) : List Int := (fyF o m d a b).take 1000
def cdY (n : Int) : Int := if dyB n then dtY n else 0
def cdM (n : Int) : Int := if dyB n then dtM n else 0
def cdD (n : Int) : Int := if dyB n then dtD n else 0
def cdE (n : Int) : Int := if dyB n then 0 else 2
theorem dyB_not {n : Int} (h : dyB n = false) : n < -719162 ∨ 2932897 ≤ n := by
  rcases Int.lt_or_le n (-719162) with a | a
  · exact .inl a
  · rcases Int.lt_or_le n 2932897 with b | b
    · rw [dyB_iff.2 ⟨a, b⟩] at h; cases h
    · exact .inr b
theorem cdate_all (n : Int) (hn : I64 n) (w : World) :
    Calls Tryd.prog 26 #[.int .i64 n] w fun e w' => e = .returned (.tuple #[.agg #[.int .i64 (cdY n), .int .i64 (cdM n), .int .i64 (cdD n)], .int .i64 (cdE n)]) ∧ Below w.heap.size w w' := by
  unfold cdY cdM cdD cdE
  cases h : dyB n
  · exact cdate_no n hn (dyB_not h) w
  · obtain ⟨a, b⟩ := dyB_iff.1 h
    have q := dt_of a b
    exact cdate_yes n _ _ _ q.1 q.2 w
theorem cwd (n : Int) (hn : I64 n) (w : World) :
    Calls Tryd.prog 22 #[.int .i64 n] w fun e w' => e = .returned (.int .i64 (wkd n)) ∧ Below w.heap.size w w' :=
  (cweekday n hn w).mono fun _ _ ⟨he, k, hk⟩ => ⟨he, by rw [hk]; exact below_drewN (here _) k⟩
theorem yr_cases (y : Int) : yrB y = false ∧ fgV y = 0 ∧ fpV y = -1 ∧ feV y = 0 ∧ fjV y = 0 ∧ fyE y = 2 ∨ yrB y = true ∧ 1 ≤ y ∧ y ≤ 9999 ∧ fgV y = fG y ∧ fpV y = fE y ∧ feV y = feN y ∧ fjV y = fjN y ∧ fyE y = 0 := by
  unfold fgV fpV feV fjV fyE
  cases h : yrB y
  · left; exact ⟨rfl, rfl, rfl, rfl, rfl, rfl⟩
  · right; have := yrB_iff.1 h; exact ⟨rfl, this.1, this.2, rfl, rfl, rfl, rfl, rfl⟩
theorem fyF_take {o m d a b : Int} (h : rgN (max a 1) (min b 9999) ≤ 1000) : fyL o m d a b = fyF o m d a b := by
  unfold fyL
  exact List.take_of_length_le (Nat.le_trans (flt_len _ _ _) h)
theorem fyC_iff {o m d y : Int} : fyC o m d y = true ↔ fmB y o = true ∧ dtM (feN y + o) = m ∧ dtD (feN y + o) = d := by
  unfold fyC; simp only [Bool.and_eq_true, beq_iff_eq]; exact and_assoc
end Go.Proofs.YtljpjchcmiohpaaDoor
