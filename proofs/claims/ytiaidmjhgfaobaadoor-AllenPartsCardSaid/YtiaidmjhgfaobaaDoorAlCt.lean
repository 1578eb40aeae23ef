/- How many intervals there are to a set: plain facts. -/
import Derived.Test.YtiaidmjhgfaobaaDoorAlP
import Derived.Test.YtiaidmjhgfaobaaDoorAlBk
namespace Go.Proofs.YtiaidmjhgfaobaaDoor
open Go.RowKit
set_option linter.unusedVariables false

/-- Weights of relations, added up over the intervals from x on; from lo on. -/
def wI (g : Nat → Nat) (a b x : Int) : Nat → Nat
  | 0 => 0
  | k + 1 => wI g a b x k + g (ofW x (x + 1 + k) a b).toNat
def wO (g : Nat → Nat) (a b lo hi : Int) : Nat → Nat
  | 0 => 0
  | m + 1 => wO g a b lo hi m + wI g a b (lo + m) (hi - (lo + m)).toNat
theorem wI_eq {g h : Nat → Nat} {a b x : Int} (ab : a < b) (e : ∀ r, r < 13 → g r = h r) : ∀ k, wI g a b x k = wI h a b x k
  | 0 => rfl
  | k + 1 => by
    have q := ofW_bd (a := x) (b := x + 1 + k) (c := a) (d := b) (by omega) ab
    show wI g a b x k + g _ = wI h a b x k + h _
    rw [wI_eq ab e k, e _ (by omega)]
theorem wO_eq {g h : Nat → Nat} {a b lo hi : Int} (ab : a < b) (e : ∀ r, r < 13 → g r = h r) : ∀ m, wO g a b lo hi m = wO h a b lo hi m
  | 0 => rfl
  | m + 1 => by
    show wO g a b lo hi m + wI g _ _ _ _ = wO h a b lo hi m + wI h _ _ _ _
    rw [wO_eq ab e m, wI_eq ab e]
theorem wI_add (g h : Nat → Nat) (a b x : Int) : ∀ k, wI (fun r => g r + h r) a b x k = wI g a b x k + wI h a b x k
  | 0 => rfl
  | k + 1 => by
    show wI (fun r => g r + h r) a b x k + (g _ + h _) = (wI g a b x k + g _) + (wI h a b x k + h _)
    rw [wI_add g h a b x k]; omega
theorem wO_add (g h : Nat → Nat) (a b lo hi : Int) : ∀ m, wO (fun r => g r + h r) a b lo hi m = wO g a b lo hi m + wO h a b lo hi m
  | 0 => rfl
  | m + 1 => by
    show wO (fun r => g r + h r) a b lo hi m + wI (fun r => g r + h r) _ _ _ _ = (wO g a b lo hi m + wI g _ _ _ _) + (wO h a b lo hi m + wI h _ _ _ _)
    rw [wO_add g h a b lo hi m, wI_add]; omega
theorem wI_zero (a b x : Int) : ∀ k, wI (fun _ => 0) a b x k = 0
  | 0 => rfl
  | k + 1 => by show wI (fun _ => 0) a b x k + 0 = 0; rw [wI_zero a b x k]
theorem wO_zero (a b lo hi : Int) : ∀ m, wO (fun _ => 0) a b lo hi m = 0
  | 0 => rfl
  | m + 1 => by show wO (fun _ => 0) a b lo hi m + wI (fun _ => 0) _ _ _ _ = 0; rw [wO_zero a b lo hi m, wI_zero]
theorem wI_one (a b x : Int) : ∀ k, wI (fun _ => 1) a b x k = k
  | 0 => rfl
  | k + 1 => by show wI (fun _ => 1) a b x k + 1 = k + 1; rw [wI_one a b x k]
theorem wO_one {a b lo hi : Int} {K : Nat} (hK : hi = lo + K) : ∀ m, m ≤ K → 2 * wO (fun _ => 1) a b lo hi m = m * (2 * K + 1 - m)
  | 0, _ => by rw [Nat.zero_mul]; rfl
  | m + 1, h => by
    show 2 * (wO (fun _ => 1) a b lo hi m + wI (fun _ => 1) _ _ _ _) = _
    rw [wI_one, Nat.mul_add, wO_one hK m (by omega), show (hi - (lo + m)).toNat = K - m by omega]
    obtain ⟨d, rfl⟩ : ∃ d, K = m + 1 + d := ⟨K - (m + 1), by omega⟩
    rw [show 2 * (m + 1 + d) + 1 - m = m + 2 * d + 3 by omega, show m + 1 + d - m = d + 1 by omega, show 2 * (m + 1 + d) + 1 - (m + 1) = m + 2 * d + 2 by omega, show m + 2 * d + 3 = (m + 2 * d + 2) + 1 by omega]
    have e1 := Nat.mul_succ m (m + 2 * d + 2)
    have e2 := Nat.succ_mul m (m + 2 * d + 2)
    rw [Nat.succ_eq_add_one] at e1 e2
    rw [e1, e2]
    omega
/-- The lists' lengths are such sums. -/
def bw (S r : Nat) : Nat := if S.testBit r then 1 else 0
theorem ho_bit {S : Nat} (hS : S < 8192) {a b x y : Int} (va : ivB a b = true) (vx : ivB x y = true) : hoB (S : Int) x y a b = S.testBit (ofW x y a b).toNat := by
  unfold hoB
  rw [isS_iff.2 (by omega), va, vx]; rfl
theorem poI_w {S : Nat} (hS : S < 8192) {a b x : Int} (va : ivB a b = true) (hx : -4398046511104 ≤ x) : ∀ k : Nat, x + k ≤ 4398046511104 → (poI S a b x k).length = wI (bw S) a b x k
  | 0, _ => rfl
  | k + 1, h => by
    show (if hoB S x (x + 1 + k) a b then poI S a b x k ++ [(x, x + 1 + k)] else poI S a b x k).length = wI (bw S) a b x k + bw S _
    rw [ho_bit hS va (ivB_iff.2 ⟨hx, by omega, by omega⟩)]
    have ih := poI_w hS va hx k (by omega)
    unfold bw
    cases S.testBit (ofW x (x + 1 + k) a b).toNat
    · exact ih
    · show (poI S a b x k ++ [(x, x + 1 + k)]).length = _
      rw [List.length_append, ih]; rfl
theorem poO_w {S : Nat} (hS : S < 8192) {a b lo hi : Int} (va : ivB a b = true) (hlo : -4398046511104 ≤ lo) (hhi : hi ≤ 4398046511104) : ∀ m : Nat, lo + m ≤ hi → (poO S a b lo hi m).length = wO (bw S) a b lo hi m
  | 0, _ => rfl
  | m + 1, h => by
    show (poO S a b lo hi m ++ poI S a b (lo + m) (hi - (lo + m)).toNat).length = wO (bw S) a b lo hi m + wI (bw S) _ _ _ _
    rw [List.length_append, poO_w hS va hlo hhi m (by omega), poI_w hS va (by omega) _ (by omega)]
theorem poL_w {S : Nat} (hS : S < 8192) {a b lo hi : Int} (g : poG S a b lo hi = true) : (poL S a b lo hi).length = wO (bw S) a b lo hi (hi - lo).toNat := by
  have g2 := g
  unfold poG at g2
  simp only [Bool.and_eq_true, decide_eq_true_eq] at g2
  unfold poL
  rw [if_pos g]
  exact poO_w hS g2.1.1.1.1.2 (by omega) (by omega) _ (by omega)
theorem poG_set {S T : Nat} (hT : T < 8192) {a b lo hi : Int} (g : poG S a b lo hi = true) : poG T a b lo hi = true := by
  unfold poG at g ⊢
  rw [Bool.and_eq_true, Bool.and_eq_true, Bool.and_eq_true, Bool.and_eq_true, Bool.and_eq_true] at g ⊢
  exact ⟨⟨⟨⟨⟨isS_iff.2 (by omega), g.1.1.1.1.2⟩, g.1.1.1.2⟩, g.1.1.2⟩, g.1.2⟩, g.2⟩
theorem poG_ab {s a b lo hi : Int} (g : poG s a b lo hi = true) : ivB a b = true ∧ -4398046511104 ≤ lo ∧ hi ≤ 4398046511104 ∧ lo < hi ∧ hi - lo ≤ 40 := by
  unfold poG at g
  simp only [Bool.and_eq_true, decide_eq_true_eq] at g
  exact ⟨g.1.1.1.1.2, g.1.1.1.2, g.1.1.2, g.1.2, g.2⟩
/-- The sum over the first relations of a list. -/
def ptN (a b lo hi : Int) (l : List Nat) (k : Nat) : Nat := ((l.take k).map fun r => (poL ((2 ^ r : Nat) : Int) a b lo hi).length).sum
theorem ptN_step (a b lo hi : Int) {l : List Nat} {k : Nat} (hk : k < l.length) : ptN a b lo hi l (k + 1) = ptN a b lo hi l k + (poL ((2 ^ l.getD k 0 : Nat) : Int) a b lo hi).length := by
  unfold ptN
  rw [List.take_succ_eq_append_getElem hk, List.map_append, List.sum_append, List.getD_eq_getElem?_getD, List.getElem?_eq_getElem hk]
  simp
theorem pt_w {a b lo hi : Int} {S : Nat} (g : poG S a b lo hi = true) : ∀ l : List Nat, (∀ r, r ∈ l → r < 13) →
    (l.map fun r => (poL ((2 ^ r : Nat) : Int) a b lo hi).length).sum = wO (fun q => l.count q) a b lo hi (hi - lo).toNat
  | [], _ => by
    show 0 = _
    rw [← wO_zero a b lo hi (hi - lo).toNat]
    exact wO_eq (ivB_iff.1 (poG_ab g).1).2.2 (fun r _ => by simp) _
  | r :: l, h => by
    have hr := h r List.mem_cons_self
    rw [List.map_cons, List.sum_cons, pt_w g l (fun x hx => h x (List.mem_cons_of_mem _ hx)), poL_w (pow_lt (by omega)) (poG_set (pow_lt (by omega)) g), ← wO_add]
    refine wO_eq (ivB_iff.1 (poG_ab g).1).2.2 (fun q _ => ?_) _
    unfold bw
    rw [bit_pow, List.count_cons, Nat.add_comm]
    by_cases e : r = q
    · subst e; simp
    · simp [e]
theorem ptN_all {a b lo hi : Int} {S : Nat} (hS : S < 8192) (g : poG S a b lo hi = true) : ptN a b lo hi (sgN S 13) (sgN S 13).length = (poL S a b lo hi).length := by
  unfold ptN
  rw [List.take_length, pt_w g _ (fun r hr => (sgN_mem.1 hr).1), poL_w hS g]
  refine wO_eq (ivB_iff.1 (poG_ab g).1).2.2 (fun q hq => ?_) _
  unfold bw
  by_cases e : S.testBit q = true
  · rw [if_pos e]
    have m : q ∈ sgN S 13 := sgN_mem.2 ⟨hq, e⟩
    have := List.nodup_iff_count.1 (sgN_nodup S 13) q
    have := List.count_pos_iff.2 m
    omega
  · rw [if_neg e]
    exact List.count_eq_zero.2 fun m => e (sgN_mem.1 m).2
/-- A set and its complement have all the intervals. -/
theorem not_bit {S r : Nat} (hS : S < 8192) (hr : r < 13) : (8191 - S).testBit r = !S.testBit r := by
  have := Nat.testBit_two_pow_sub_succ (x := S) (n := 13) hS r
  rw [show 2 ^ 13 - (S + 1) = 8191 - S by omega] at this
  rw [this, decide_eq_true hr, Bool.true_and]
theorem both_w {a b lo hi : Int} {S K : Nat} (hS : S < 8192) (g : poG S a b lo hi = true) (hK : hi - lo = K) : 2 * ((poL S a b lo hi).length + (poL ((8191 - S : Nat) : Int) a b lo hi).length) = K * (K + 1) := by
  have l : 8191 - S < 8192 := by omega
  rw [poL_w hS g, poL_w l (poG_set l g), ← wO_add, wO_eq (h := fun _ => 1) (ivB_iff.1 (poG_ab g).1).2.2 (fun q hq => ?_) _, show (hi - lo).toNat = K by omega, wO_one (by omega) K (Nat.le_refl _), show 2 * K + 1 - K = K + 1 by omega]
  unfold bw
  rw [not_bit hS hq]
  cases S.testBit q <;> rfl
/-- What stands in the list. -/
theorem poI_mem {s a b x : Int} {p : Int × Int} : ∀ {k : Nat}, p ∈ poI s a b x k → p.1 = x ∧ x < p.2 ∧ p.2 ≤ x + k ∧ hoB s p.1 p.2 a b = true
  | 0, h => by cases h
  | k + 1, h => by
    replace h : p ∈ (if hoB s x (x + 1 + k) a b then poI s a b x k ++ [(x, x + 1 + k)] else poI s a b x k) := h
    split at h
    · rename_i q
      rw [List.mem_append, List.mem_singleton] at h
      rcases h with h | rfl
      · have := poI_mem h; exact ⟨this.1, this.2.1, by omega, this.2.2.2⟩
      · exact ⟨rfl, by show x < x + 1 + k; omega, by show x + 1 + k ≤ _; omega, q⟩
    · have := poI_mem h; exact ⟨this.1, this.2.1, by omega, this.2.2.2⟩
theorem poO_mem {s a b lo hi : Int} {p : Int × Int} : ∀ {m : Nat}, lo + m ≤ hi → p ∈ poO s a b lo hi m → lo ≤ p.1 ∧ p.1 < p.2 ∧ p.2 ≤ hi ∧ hoB s p.1 p.2 a b = true
  | 0, _, h => by cases h
  | m + 1, l, h => by
    replace h : p ∈ poO s a b lo hi m ++ poI s a b (lo + m) (hi - (lo + m)).toNat := h
    rw [List.mem_append] at h
    rcases h with h | h
    · exact poO_mem (by omega) h
    · have := poI_mem h; exact ⟨by omega, by omega, by omega, this.2.2.2⟩
theorem poL_at {s a b lo hi : Int} {j : Nat} (hj : j < (poL s a b lo hi).length) : lo ≤ ((poL s a b lo hi).getD j (0, 0)).1 ∧ ((poL s a b lo hi).getD j (0, 0)).1 < ((poL s a b lo hi).getD j (0, 0)).2 ∧ ((poL s a b lo hi).getD j (0, 0)).2 ≤ hi ∧
    hoB s ((poL s a b lo hi).getD j (0, 0)).1 ((poL s a b lo hi).getD j (0, 0)).2 a b = true := by
  have m : (poL s a b lo hi).getD j (0, 0) ∈ poL s a b lo hi := by
    rw [List.getD_eq_getElem?_getD, List.getElem?_eq_getElem hj]; exact List.getElem_mem hj
  generalize (poL s a b lo hi).getD j (0, 0) = p at *
  unfold poL at m
  split at m
  · rename_i g
    have := poG_ab g
    exact poO_mem (by omega) m
  · cases m
theorem ho_one {r : Nat} (hr : r ≤ 12) {x y a b : Int} (h : hoB ((2 ^ r : Nat) : Int) x y a b = true) : ofV x y a b = r := by
  unfold hoB at h
  rw [Bool.and_eq_true, Bool.and_eq_true, Bool.and_eq_true] at h
  obtain ⟨⟨⟨-, vx⟩, va⟩, bt⟩ := h
  rw [ofV_in vx va]
  have q := ofW_bd (ivB_iff.1 vx).2.2 (ivB_iff.1 va).2.2
  replace bt : (2 ^ r).testBit (ofW x y a b).toNat = true := bt
  rw [bit_pow, decide_eq_true_iff] at bt
  omega
end Go.Proofs.YtiaidmjhgfaobaaDoor
