/- Two combs: their union, its length and its measure. -/
import Derived.Test.YtdkmahdfnmoliaaRnC
namespace Go.Proofs.Ytdkmahdfnmoliaa
set_option linter.unusedVariables false

/-- A comb of p teeth from s on. -/
def cmL (s : Int) : Nat → List Sp
  | 0 => []
  | p + 1 => (s, s + 1) :: cmL (s + 4) p
/-- The teeth of two combs, in their order. -/
def mxL (s : Int) : Nat → Nat → List Sp
  | 0, 0 => []
  | p + 1, 0 => (s, s + 1) :: mxL (s + 4) p 0
  | 0, q + 1 => (s + 2, s + 3) :: mxL (s + 4) 0 q
  | p + 1, q + 1 => (s, s + 1) :: (s + 2, s + 3) :: mxL (s + 4) p q
theorem cm_len : ∀ (s : Int) (p : Nat), (cmL s p).length = p
  | _, 0 => rfl
  | s, p + 1 => by show (cmL (s + 4) p).length + 1 = p + 1; rw [cm_len]
theorem mx_nil (s : Int) : mxL s 0 0 = [] := by rw [mxL]
theorem cm_step (s : Int) (p : Nat) : cmL s (p + 1) = (s, s + 1) :: cmL (s + 4) p := rfl
theorem mx_len : ∀ (s : Int) (p q : Nat), (mxL s p q).length = p + q
  | _, 0, 0 => by rw [mx_nil]; rfl
  | s, p + 1, 0 => by rw [mxL, List.length_cons, mx_len (s + 4) p 0]; try omega
  | s, 0, q + 1 => by rw [mxL, List.length_cons, mx_len (s + 4) 0 q]; omega
  | s, p + 1, q + 1 => by rw [mxL, List.length_cons, List.length_cons, mx_len (s + 4) p q]; omega
theorem mx_ms : ∀ (s : Int) (p q : Nat), msL (mxL s p q) = p + q
  | _, 0, 0 => by rw [mx_nil]; rfl
  | s, p + 1, 0 => by rw [mxL, msL, mx_ms (s + 4) p 0]; simp only; omega
  | s, 0, q + 1 => by rw [mxL, msL, mx_ms (s + 4) 0 q]; simp only; omega
  | s, p + 1, q + 1 => by rw [mxL, msL, msL, mx_ms (s + 4) p q]; simp only; omega
theorem mx_low : ∀ (s : Int) (p q : Nat) (r : Sp), r ∈ mxL s p q → s ≤ r.1
  | _, 0, 0, r, h => by rw [mx_nil] at h; cases h
  | s, p + 1, 0, r, h => by
    rw [mxL] at h
    rcases List.mem_cons.1 h with rfl | h
    · exact Int.le_refl _
    · have := mx_low (s + 4) p 0 r h; omega
  | s, 0, q + 1, r, h => by
    rw [mxL] at h
    rcases List.mem_cons.1 h with rfl | h
    · show s ≤ s + 2; omega
    · have := mx_low (s + 4) 0 q r h; omega
  | s, p + 1, q + 1, r, h => by
    rw [mxL] at h
    rcases List.mem_cons.1 h with rfl | h
    · exact Int.le_refl _
    · rcases List.mem_cons.1 h with rfl | h
      · show s ≤ s + 2; omega
      · have := mx_low (s + 4) p q r h; omega
theorem mx_cn : ∀ (s : Int) (p q : Nat), Cn (mxL s p q)
  | _, 0, 0 => by rw [mx_nil]; trivial
  | s, p + 1, 0 => by
    rw [mxL]
    exact ⟨by show s < s + 1; omega, fun r hr => by have := mx_low (s + 4) p 0 r hr; show s + 1 < r.1; omega, mx_cn (s + 4) p 0⟩
  | s, 0, q + 1 => by
    rw [mxL]
    exact ⟨by show s + 2 < s + 3; omega, fun r hr => by have := mx_low (s + 4) 0 q r hr; show s + 3 < r.1; omega, mx_cn (s + 4) 0 q⟩
  | s, p + 1, q + 1 => by
    rw [mxL]
    refine ⟨by show s < s + 1; omega, fun r hr => ?_, by show s + 2 < s + 3; omega, fun r hr => by have := mx_low (s + 4) p q r hr; show s + 3 < r.1; omega, mx_cn (s + 4) p q⟩
    rcases List.mem_cons.1 hr with rfl | hr
    · show s + 1 < s + 2; omega
    · have := mx_low (s + 4) p q r hr; show s + 1 < r.1; omega
theorem mx_in : ∀ (s : Int) (p q : Nat) (x : Int), inB (mxL s p q) x = (inB (cmL s p) x || inB (cmL (s + 2) q) x)
  | _, 0, 0, _ => by rw [mx_nil]; rfl
  | s, p + 1, 0, x => by
    have h := mx_in (s + 4) p 0 x
    have z : ∀ t, inB (cmL t 0) x = false := fun t => rfl
    rw [mxL, cm_step, inB_cons, inB_cons, h, z, z, Bool.or_false, Bool.or_false]
  | s, 0, q + 1, x => by
    have h := mx_in (s + 4) 0 q x
    have z : ∀ t, inB (cmL t 0) x = false := fun t => rfl
    rw [mxL, cm_step, inB_cons, inB_cons, h, z, z, Bool.false_or, Bool.false_or, show s + 2 + 1 = s + 3 by omega, show s + 2 + 4 = s + 4 + 2 by omega]
  | s, p + 1, q + 1, x => by
    have h := mx_in (s + 4) p q x
    rw [mxL, cm_step, cm_step, inB_cons, inB_cons, inB_cons, inB_cons, h, show s + 2 + 1 = s + 3 by omega, show s + 2 + 4 = s + 4 + 2 by omega]
    generalize inB (cmL (s + 4) p) x = a
    generalize inB (cmL (s + 4 + 2) q) x = b
    generalize (decide (((s, s + 1) : Sp).1 ≤ x) && decide (x < ((s, s + 1) : Sp).2)) = c
    generalize (decide (((s + 2, s + 3) : Sp).1 ≤ x) && decide (x < ((s + 2, s + 3) : Sp).2)) = d
    cases a <;> cases b <;> cases c <;> cases d <;> rfl
theorem cm_mx : ∀ (s : Int) (p : Nat), cmL s p = mxL s p 0
  | _, 0 => by rw [mx_nil]; rfl
  | s, p + 1 => by rw [cmL, mxL, cm_mx]
theorem cm_snoc : ∀ (s : Int) (p : Nat), cmL s (p + 1) = cmL s p ++ [(s + 4 * p, s + 4 * p + 1)]
  | s, 0 => by simp [cmL]
  | s, p + 1 => by
    rw [cmL, cm_snoc (s + 4) p]
    show _ = (s, s + 1) :: (cmL (s + 4) p ++ _)
    rw [show s + 4 + 4 * (p : Int) = s + 4 * ((p + 1 : Nat) : Int) by omega]; try rfl
theorem cm_mem : ∀ (s : Int) (p : Nat) (r : Sp), r ∈ cmL s p → s ≤ r.1 ∧ r.2 = r.1 + 1 ∧ r.2 ≤ s + 4 * p
  | _, 0, r, h => by cases h
  | s, p + 1, r, h => by
    rw [cmL] at h
    rcases List.mem_cons.1 h with rfl | h
    · exact ⟨Int.le_refl _, rfl, by show s + 1 ≤ s + 4 * ((p + 1 : Nat) : Int); omega⟩
    · have := cm_mem (s + 4) p r h; omega
theorem cm_line {s : Int} {p : Nat} (h0 : -4398046511104 ≤ s) (h1 : s + 4 * p ≤ 4398046511104) : Ln (cmL s p) := fun r hr => by
  have := cm_mem s p r hr; omega
theorem cm_cn (s : Int) (p : Nat) : Cn (cmL s p) := by rw [cm_mx]; exact mx_cn s p 0
theorem cm_va {s : Int} {p : Nat} (h0 : -4398046511104 ≤ s) (h1 : s + 4 * p ≤ 4398046511104) (hp : p ≤ 2000) : vaB (cmL s p) = true :=
  vaB_iff.2 ⟨by rw [cm_len]; exact hp, cm_line h0 h1, cm_cn s p⟩
/-- The union of two combs. -/
theorem comb_ap {s : Int} {p q : Nat} (h0 : -2199023255552 ≤ s) (h1 : s ≤ 2199023255552) (hp : p < 1100) (hq : q < 1100) : ruAp 1 (cmL s p) (cmL (s + 2) q) = ruFull (mxL s p q) := by
  have a := cm_va (s := s) (p := p) (by omega) (by omega) (by omega)
  have b := cm_va (s := s + 2) (p := q) (by omega) (by omega) (by omega)
  obtain ⟨c, i, -, -⟩ := cb_spec 1 (cmL s p) (cmL (s + 2) q)
  have e : cbL 1 (cmL s p) (cmL (s + 2) q) = mxL s p q := cn_ext c (mx_cn s p q) fun x => by rw [i x, mx_in]; rfl
  unfold ruAp
  rw [a, b, e]; rfl
/-- The canonical list of both combs' teeth. -/
theorem comb_of {s : Int} {p q : Nat} (h0 : -2199023255552 ≤ s) (h1 : s ≤ 2199023255552) (hp : p < 1100) (hq : q < 1100) : ruOf (cmL (s + 2) q ++ cmL s p) = ruFull (mxL s p q) := by
  have a := va_sps (cm_va (s := s) (p := p) (by omega) (by omega) (by omega))
  have b := va_sps (cm_va (s := s + 2) (p := q) (by omega) (by omega) (by omega))
  obtain ⟨c, i, -, -⟩ := cb_spec 1 (cmL (s + 2) q ++ cmL s p) []
  have e : cbL 1 (cmL (s + 2) q ++ cmL s p) [] = mxL s p q := cn_ext c (mx_cn s p q) fun x => by
    rw [i x, mx_in, inB_app, inB_nil]
    show (_ || _ || false) = _
    rw [Bool.or_false, Bool.or_comm]
  have ab : spsB (cmL (s + 2) q ++ cmL s p) = true := by unfold spsB at *; rw [List.all_append, a, b]; rfl
  unfold ruOf
  rw [ab, e]; rfl
end Go.Proofs.Ytdkmahdfnmoliaa
