/- Contracts of package periodic: combine. -/
import Derived.Test.YtaikeclfmmnelaaQPeKI
import Derived.Test.YtaikeclfmmnelaaQGJ
import Derived.Test.YtaikeclfmmnelaaQRnKH
namespace Go.Proofs.Ytaikeclfmmnelaa

open Go.RowKit

set_option linter.unusedVariables false

/-- A combination of two sets, or an error. -/
noncomputable def coR (k : Int) (P : Int) (A : List Sp) (Q : Int) (B : List Sp) : (Int × List Sp) × Int :=
  if pvB P A && pvB Q B then (if (prR P Q A.length B.length).2 = 0 then pfR (prR P Q A.length B.length).1 (fun x => kpB k (hsP P A x) (hsP Q B x)) else ((0, []), (prR P Q A.length B.length).2)) else ((0, []), 1)
theorem per_dvd {f : Int → Bool} {P M : Int} (h : Per f P) (d : P ∣ M) : Per f M := by
  obtain ⟨c, rfl⟩ := d
  exact h.mul c
theorem spread_len {P M : Int} {A : List Sp} (pv : PV P A) (M0 : 0 < M) (d : P ∣ M) : ((caL (hsP P A) 0 M).length : Int) ≤ M / P * A.length := by
  have P0 : 0 < P := by have := pv.p0; omega
  obtain ⟨s, hs, s0⟩ := dvd_nat M0 P0 d
  have h := per_len P0 (hs_per (L := A)) s
  rw [← hs, ← ca_self pv.cn pv.ip] at h
  have e : M / P = s := by rw [hs]; exact Int.mul_ediv_cancel _ (by omega)
  rw [e]
  exact_mod_cast h
theorem pr_ok {P Q : Int} {n m : Nat} (h : (prR P Q n m).2 = 0) : lE P Q = 0 ∧ (prR P Q n m).1 = lR P Q ∧ lR P Q ≤ 12622780800 ∧ lR P Q / P * n + lR P Q / Q * m ≤ 2000 := by
  unfold prR at h ⊢
  by_cases a : lE P Q = 0 ∧ lR P Q ≤ 12622780800
  · rw [if_pos a] at h ⊢
    by_cases b : 2000 < lR P Q / P * n + lR P Q / Q * m
    · rw [if_pos b] at h; cases h
    · rw [if_neg b]; exact ⟨a.1, rfl, a.2, by omega⟩
  · rw [if_neg a] at h; cases h
structure CoF (k P : Int) (A : List Sp) (Q : Int) (B : List Sp) (M : Int) : Prop where
  m0 : 0 < M
  m1 : M ≤ 12622780800
  pm : Per (hsP P A) M
  qm : Per (hsP Q B) M
  la : (caL (hsP P A) 0 M).length ≤ 2000
  lb : (caL (hsP Q B) 0 M).length ≤ 2000
  ru : ruAp k (caL (hsP P A) 0 M) (caL (hsP Q B) 0 M) = (cbL k (caL (hsP P A) 0 M) (caL (hsP Q B) 0 M), 0)
  lc : (cbL k (caL (hsP P A) 0 M) (caL (hsP Q B) 0 M)).length ≤ 2000
  ec : cbL k (caL (hsP P A) 0 M) (caL (hsP Q B) 0 M) = caL (fun x => kpB k (hsP P A x) (hsP Q B x)) 0 M
  ci : Cir M (fun x => kpB k (hsP P A x) (hsP Q B x)) (cbL k (caL (hsP P A) 0 M) (caL (hsP Q B) 0 M))
theorem ca_va {f : Int → Bool} {M : Int} (m1 : M ≤ 12622780800) (l : (caL f 0 M).length ≤ 2000) : vaB (caL f 0 M) = true :=
  vaB_iff.2 ⟨l, fun p hp => by have := ca_ends f 0 M p hp; omega, ca_cn f 0 M⟩
theorem co_facts {k P Q : Int} {A B : List Sp} (k1 : 1 ≤ k) (k3 : k ≤ 3) (pv : PV P A) (qv : PV Q B) (h : (prR P Q A.length B.length).2 = 0) : CoF k P A Q B (prR P Q A.length B.length).1 := by
  obtain ⟨a, b, c, d⟩ := pr_ok h
  obtain ⟨f1, f2, f3⟩ := pr_facts pv.p0 pv.p1 qv.p0 a
  rw [b]
  have la := spread_len pv f3 f1
  have lb := spread_len qv f3 f2
  generalize lR P Q = M at *
  have pm : Per (hsP P A) M := per_dvd hs_per f1
  have qm : Per (hsP Q B) M := per_dvd hs_per f2
  have la0 : (0 : Int) ≤ (caL (hsP P A) 0 M).length := by omega
  have lb0 : (0 : Int) ≤ (caL (hsP Q B) 0 M).length := by omega
  have la1 : (caL (hsP P A) 0 M).length ≤ 2000 := by omega
  have lb1 : (caL (hsP Q B) 0 M).length ≤ 2000 := by omega
  have va := ca_va c la1
  have vb := ca_va c lb1
  have lc := len_cb k1 k3 f3 (ca_cn (hsP P A) 0 M) (ca_cn (hsP Q B) 0 M) (ca_inp (hsP P A) M) (ca_inp (hsP Q B) M)
  have ec : cbL k (caL (hsP P A) 0 M) (caL (hsP Q B) 0 M) = caL (fun x => kpB k (hsP P A x) (hsP Q B x)) 0 M := by
    rw [cb_ca f3 (ca_inp (hsP P A) M) (ca_inp (hsP Q B) M) k]
    exact ca_congr fun x _ _ => by rw [ca_hs f3 pm, ca_hs f3 qm]
  refine ⟨f3, c, pm, qm, la1, lb1, ?_, by omega, ec, ?_⟩
  · unfold ruAp ruFull
    rw [va, vb, if_neg (show ¬ 2000 < (cbL k (caL (hsP P A) 0 M) (caL (hsP Q B) 0 M)).length by omega)]; rfl
  · rw [ec]
    have := cir_in f3 (ca_cn (fun x => kpB k (hsP P A x) (hsP Q B x)) 0 M) (ca_inp _ M)
    have e : hsP M (caL (fun x => kpB k (hsP P A x) (hsP Q B x)) 0 M) = fun x => kpB k (hsP P A x) (hsP Q B x) := funext fun x => ca_hs f3 (fun y => by show kpB k (hsP P A (y + M)) (hsP Q B (y + M)) = _; rw [pm, qm]) x
    rwa [e] at this
/-- The rule that a combination is made by. -/
def Rule (k : Int) (g : FuncId) : Prop := ∀ (va vb : Value) (A B : List Sp), A.length ≤ maxLen → B.length ≤ maxLen → ∀ {ba bb : Nat} (w : World), PairS ba w va A → PairS bb w vb B →
  Calls Try.prog g #[va, vb] w fun e w' => (∃ v', e = .returned (.tuple #[v', .int .i64 (ruAp k A B).2]) ∧ PairS w.heap.size w' v' (ruAp k A B).1 ∧ CapS v') ∧ Below w.heap.size w w'
end Go.Proofs.Ytaikeclfmmnelaa
