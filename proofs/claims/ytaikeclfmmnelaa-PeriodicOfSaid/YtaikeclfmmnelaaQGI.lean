/- Law 13: what the examples of the chapter come to. -/
import Derived.Test.YtaikeclfmmnelaaQPeGI
import Derived.Test.YtaikeclfmmnelaaQPeGJ
import Derived.Test.YtaikeclfmmnelaaQPeGK
import Derived.Test.YtaikeclfmmnelaaQGH
import Derived.Test.YtaikeclfmmnelaaQPeKK
import Derived.Deep.RegionWith
import Derived.Test.YtaikeclfmmnelaaQGA
namespace Go.Proofs.Ytaikeclfmmnelaa

open Go.RowKit

set_option linter.unusedVariables false

theorem dv_cases {e m : Int} (e0 : 0 < e) (m0 : 0 < m) (d : e ∣ m) : e ≤ m := Int.le_of_dvd m0 d
theorem lst7 : Lst (hsP 7 [(0, 2)]) 7 7 := ⟨by omega, Int.dvd_refl 7, hs_per, fun e e0 dv per => by
  have le := dv_cases e0 (by omega) dv
  obtain ⟨c, hc⟩ := dv
  rcases (show e = 1 ∨ e = 2 ∨ e = 3 ∨ e = 4 ∨ e = 5 ∨ e = 6 ∨ e = 7 by omega) with rfl | rfl | rfl | rfl | rfl | rfl | rfl
  · exact absurd (per 1) (by decide)
  all_goals omega⟩
theorem lst6 : Lst (hsP 6 [(0, 1), (2, 5)]) 6 6 := ⟨by omega, Int.dvd_refl 6, hs_per, fun e e0 dv per => by
  have le := dv_cases e0 (by omega) dv
  obtain ⟨c, hc⟩ := dv
  rcases (show e = 1 ∨ e = 2 ∨ e = 3 ∨ e = 4 ∨ e = 5 ∨ e = 6 by omega) with rfl | rfl | rfl | rfl | rfl | rfl
  · exact absurd (per 0) (by decide)
  · exact absurd (per 1) (by decide)
  · exact absurd (per 2) (by decide)
  all_goals omega⟩
theorem lst2 : Lst (hsP 2 [(0, 1)]) 2 2 := ⟨by omega, Int.dvd_refl 2, hs_per, fun e e0 dv per => by
  have le := dv_cases e0 (by omega) dv
  rcases (show e = 1 ∨ e = 2 by omega) with rfl | rfl
  · exact absurd (per 0) (by decide)
  · omega⟩
theorem lst3 : Lst (hsP 3 [(0, 1)]) 3 3 := ⟨by omega, Int.dvd_refl 3, hs_per, fun e e0 dv per => by
  have le := dv_cases e0 (by omega) dv
  obtain ⟨c, hc⟩ := dv
  rcases (show e = 1 ∨ e = 2 ∨ e = 3 by omega) with rfl | rfl | rfl
  · exact absurd (per 0) (by decide)
  all_goals omega⟩
theorem aw_of : ofR 14 [(0, 2), (7, 9)] = ((7, [(0, 2)]), 0) := by
  have f : ofB 14 [(0, 2), (7, 9)] = hsP 7 [(0, 2)] := funext fun x => by
    show (decide ((x - 0) % 14 < 2 - 0) || (decide ((x - 7) % 14 < 9 - 7) || false)) = ((decide ((0 : Int) ≤ x % 7) && decide (x % 7 < 2)) || false)
    rw [Bool.eq_iff_iff]
    simp only [Bool.or_eq_true, Bool.and_eq_true, decide_eq_true_iff, Bool.false_eq_true, or_false]
    omega
  have cn : Cn [((0 : Int), (2 : Int))] := ⟨by decide, fun q hq => (by cases hq), trivial⟩
  have ip : InP 7 [((0 : Int), (2 : Int))] := fun q hq => by rw [List.mem_singleton.1 hq]; exact ⟨by decide, by decide⟩
  have e : fmP 14 (ofB 14 [(0, 2), (7, 9)]) = (7, [(0, 2)]) := by
    rw [f, fm_any (by omega) (by omega) (n := 7) (by have := (hs_per (P := 7) (L := [(0, 2)])).mul 2; exact this) hs_per]
    exact fm_self cn ip lst7
  unfold ofR pfR
  rw [e]
  rfl
theorem pv2 : PV 2 [(0, 1)] := ⟨by omega, by omega, by decide, fun q hq => by rw [List.mem_singleton.1 hq]; exact ⟨by decide, by decide⟩, lst2⟩
theorem pv3 : PV 3 [(0, 1)] := ⟨by omega, by omega, by decide, fun q hq => by rw [List.mem_singleton.1 hq]; exact ⟨by decide, by decide⟩, lst3⟩
theorem aw_un : coR 1 2 [(0, 1)] 3 [(0, 1)] = ((6, [(0, 1), (2, 5)]), 0) := by
  have f : (fun x => kpB 1 (hsP 2 [(0, 1)] x) (hsP 3 [(0, 1)] x)) = hsP 6 [(0, 1), (2, 5)] := funext fun x => by
    unfold kpB
    rw [if_pos rfl]
    show (((decide ((0 : Int) ≤ x % 2) && decide (x % 2 < 1)) || false) || ((decide ((0 : Int) ≤ x % 3) && decide (x % 3 < 1)) || false)) = ((decide ((0 : Int) ≤ x % 6) && decide (x % 6 < 1)) || ((decide ((2 : Int) ≤ x % 6) && decide (x % 6 < 5)) || false))
    rw [Bool.eq_iff_iff]
    simp only [Bool.or_eq_true, Bool.and_eq_true, decide_eq_true_iff, Bool.false_eq_true, or_false]
    omega
  have pr : prR 2 3 1 1 = (6, 0) := by decide
  have e : fmP 6 (hsP 6 [(0, 1), (2, 5)]) = (6, [(0, 1), (2, 5)]) := fm_self ⟨by decide, fun q hq => by rw [List.mem_singleton.1 hq]; decide, by decide, fun q hq => (by cases hq), trivial⟩ (fun q hq => by rcases List.mem_cons.1 hq with rfl | hq; exact ⟨by decide, by decide⟩; rw [List.mem_singleton.1 hq]; exact ⟨by decide, by decide⟩) lst6
  unfold coR
  rw [pv_iff.2 pv2, pv_iff.2 pv3, f]
  show (if true = true then (if (prR 2 3 1 1).2 = 0 then pfR (prR 2 3 1 1).1 _ else _) else _) = _
  rw [pr]
  unfold pfR
  show (if true = true then (if (0 : Int) = 0 then (if 2000 < (fmP 6 _).2.length then _ else _) else _) else _) = _
  rw [e]
  rfl
end Go.Proofs.Ytaikeclfmmnelaa
/- Law 13: set, line, long, awake. -/
namespace Go.Proofs.Ytaikeclfmmnelaa

open Go.RowKit

set_option linter.unusedVariables false

theorem prs_lit2 (w : World) (a b c d : Int) : PairS 0 (w.alloc (.cells #[.int .i64 a, .int .i64 b, .int .i64 c, .int .i64 d] 37)) (.slice (some ⟨w.heap.size, 0, none⟩) 2 2) [(a, b), (c, d)] := by
  refine .inr ⟨w.heap.size, 0, 2, rfl, Nat.zero_le _, by simp, fun j u hj => ?_⟩
  rw [World.cell?_alloc_new]
  simpa [pairs] using hj
set_option maxRecDepth 100000 in
set_option maxHeartbeats 2000000 in
theorem rset (P : Int) (o : Option Addr) (n c : Nat) (w : World) :
    Calls Try.prog 43 #[.int .i64 P, .slice o n c] w fun e w' => e = .returned (.agg #[.int .i64 P, .slice o n c]) ∧ Below w.heap.size w w' := by
  have A1 := Lib.hid (grow (here w) (.cells #[.int .i64 P, .slice o n c] 24))
  have TA := Lib.hid (Two.new (t := 24) (x := .int .i64 P) (y := .slice o n c) (here (w.alloc (.cells #[.int .i64 P, .slice o n c] 24))))
  go_enter Try.func43, Try.ntmps43
  go_wp2
  have q0 := TA.out.c0
  have q1 := TA.out.c1
  generalize (w.alloc (.cells #[.int .i64 P, .slice o n c] 24)) = w13 at *
  refine bodyPost_ret (v := .agg #[.int .i64 P, .slice o n c]) (by simp [results, Try.results43, go_sem, q0, q1]) rfl ?_
  exact ⟨rfl, A1.out⟩
set_option maxRecDepth 100000 in
set_option maxHeartbeats 2000000 in
theorem rlong (P : Int) (o : Option Addr) (n c : Nat) (w : World) :
    Calls Try.prog 13 #[.agg #[.int .i64 P, .slice o n c]] w fun e w' => e = .returned (.bool (decide (40 < (n : Int)))) ∧ Below w.heap.size w w' := by
  have A1 := Lib.hid (grow (here w) (.cells #[.int .i64 P, .slice o n c] 24))
  have TA := Lib.hid (Two.new (t := 24) (x := .int .i64 P) (y := .slice o n c) (here (w.alloc (.cells #[.int .i64 P, .slice o n c] 24))))
  obtain ⟨t0, t1, tl⟩ := TA.out
  go_enter Try.func13, Try.ntmps13
  go_wp2
  go_ret
  exact ⟨rfl, A1.out⟩
set_option maxRecDepth 100000 in
set_option maxHeartbeats 2000000 in
theorem rline (x : Int) (w : World) :
    Calls Try.prog 32 #[.int .i64 x] w fun e w' => e = .returned (.bool (nvB x)) ∧ Below w.heap.size w w' := by
  unfold nvB
  by_cases a : -4398046511104 ≤ x
  · have ka := decide_eq_true a
    rw [ka, Bool.true_and]
    clear a
    go_enter Try.func32, Try.ntmps32
    go_wp2
    go_ret
    exact ⟨rfl, here w⟩
  · have ka := decide_eq_false a
    rw [ka, Bool.false_and]
    clear a
    go_enter Try.func32, Try.ntmps32
    go_wp2
    go_ret
    exact ⟨rfl, here w⟩
end Go.Proofs.Ytaikeclfmmnelaa
/- Plain facts: what a form, a combination, a complement and a moved set are. -/
namespace Go.Proofs.Ytaikeclfmmnelaa

open Go.RowKit

set_option linter.unusedVariables false

theorem le_mx {n : Nat} (h : n ≤ 1000000) : n ≤ maxLen := by unfold maxLen; omega
/-- A form with no error: a valid set with the numbers asked. -/
theorem pf_pv {P : Int} {f : Int → Bool} (P0 : 0 < P) (P1 : P ≤ 12622780800) (per : Per f P) (h : (pfR P f).2 = 0) : PV (pfR P f).1.1 (pfR P f).1.2 ∧ ∀ x, hsP (pfR P f).1.1 (pfR P f).1.2 x = f x := by
  unfold pfR at h ⊢
  by_cases b : 2000 < (fmP P f).2.length
  · rw [if_pos b] at h; cases h
  · rw [if_neg b]
    have l := le_lst P0 per
    have le := Int.le_of_dvd P0 l.dvd
    have b' : (caL f 0 (leF P f)).length ≤ 2000 := by show (fmP P f).2.length ≤ 2000; omega
    have p0 := l.pos
    exact ⟨⟨by show 1 ≤ leF P f; omega, by show leF P f ≤ _; omega, ca_va (by omega) b', ca_inp _ _, fm_lst P0 per⟩, fm_hs P0 per⟩
theorem pf_er (P : Int) (f : Int → Bool) : 0 ≤ (pfR P f).2 ∧ (pfR P f).2 ≤ 9 := by
  unfold pfR; split <;> simp
theorem pf_len (P : Int) (f : Int → Bool) : (pfR P f).1.2.length ≤ 2000 := by
  unfold pfR; split
  · exact Nat.zero_le _
  · show (fmP P f).2.length ≤ 2000; omega
theorem pr_er (P Q : Int) (n m : Nat) : 0 ≤ (prR P Q n m).2 ∧ (prR P Q n m).2 ≤ 9 := by
  unfold prR; split
  · split <;> simp
  · simp
theorem co_er (k P : Int) (A : List Sp) (Q : Int) (B : List Sp) : 0 ≤ (coR k P A Q B).2 ∧ (coR k P A Q B).2 ≤ 9 := by
  unfold coR
  split
  · split
    · exact pf_er _ _
    · exact pr_er _ _ _ _
  · exact ⟨by decide, by decide⟩
theorem co_len (k P : Int) (A : List Sp) (Q : Int) (B : List Sp) : (coR k P A Q B).1.2.length ≤ 2000 := by
  unfold coR
  split
  · split
    · exact pf_len _ _
    · exact Nat.zero_le _
  · exact Nat.zero_le _
theorem co_ok {k P : Int} {A : List Sp} {Q : Int} {B : List Sp} (k1 : 1 ≤ k) (k3 : k ≤ 3) (h : (coR k P A Q B).2 = 0) : PV P A ∧ PV Q B ∧ PV (coR k P A Q B).1.1 (coR k P A Q B).1.2 ∧ ∀ x, hsP (coR k P A Q B).1.1 (coR k P A Q B).1.2 x = kpB k (hsP P A x) (hsP Q B x) := by
  unfold coR at h ⊢
  by_cases v : (pvB P A && pvB Q B) = true
  · rw [if_pos v] at h ⊢
    obtain ⟨a, b⟩ := Bool.and_eq_true_iff.1 v
    by_cases p : (prR P Q A.length B.length).2 = 0
    · rw [if_pos p] at h ⊢
      have c := co_facts k1 k3 (pv_iff.1 a) (pv_iff.1 b) p
      have per : Per (fun x => kpB k (hsP P A x) (hsP Q B x)) (prR P Q A.length B.length).1 := fun x => by
        show kpB k (hsP P A (x + _)) (hsP Q B (x + _)) = _
        rw [c.pm, c.qm]
      exact ⟨pv_iff.1 a, pv_iff.1 b, pf_pv c.m0 c.m1 per h⟩
    · rw [if_neg p] at h; exact absurd h p
  · rw [if_neg v] at h; cases h
theorem co_val {k P : Int} {A : List Sp} {Q : Int} {B : List Sp} (h : (coR k P A Q B).2 ≠ 1) : pvB P A = true ∧ pvB Q B = true := by
  unfold coR at h
  by_cases v : (pvB P A && pvB Q B) = true
  · exact Bool.and_eq_true_iff.1 v
  · rw [if_neg v] at h; exact absurd rfl h
/-- No number: no span. -/
theorem hs_nil {P : Int} {L : List Sp} (P0 : 0 < P) (c : Cn L) (i : InP P L) (h : ∀ x, hsP P L x = false) : L = [] := by
  rw [ca_self c i, ← ca_skip (f := hsP P L) (a := 0) (e := 0) (b := P) (by omega) (fun x _ _ => h x), ca_none _ (Int.le_refl 0)]
theorem co_none {P : Int} {A : List Sp} {Q : Int} {B : List Sp} (h : (coR 3 P A Q B).2 = 0) (n : ∀ x, hsP P A x = true → hsP Q B x = true) : (coR 3 P A Q B).1.2.length = 0 := by
  obtain ⟨a, b, c, d⟩ := co_ok (by omega) (by omega) h
  have p0 := c.p0
  rw [hs_nil (by omega) c.cn c.ip fun x => by
    rw [d]
    show (hsP P A x && !hsP Q B x) = false
    cases k : hsP P A x
    · rfl
    · rw [n x k]; rfl]
  rfl
theorem no_er (P : Int) (A : List Sp) : 0 ≤ (noR P A).2 ∧ (noR P A).2 ≤ 9 := by
  unfold noR; split
  · exact pf_er _ _
  · exact ⟨by decide, by decide⟩
theorem no_len (P : Int) (A : List Sp) : (noR P A).1.2.length ≤ 2000 := by
  unfold noR; split
  · exact pf_len _ _
  · exact Nat.zero_le _
theorem mv_er (P : Int) (A : List Sp) (n : Int) : 0 ≤ (mvR P A n).2 ∧ (mvR P A n).2 ≤ 9 := by
  unfold mvR; split
  · split
    · exact pf_er _ _
    · exact ⟨by decide, by decide⟩
  · exact ⟨by decide, by decide⟩
theorem mv_len (P : Int) (A : List Sp) (n : Int) : (mvR P A n).1.2.length ≤ 2000 := by
  unfold mvR; split
  · split
    · exact pf_len _ _
    · exact Nat.zero_le _
  · exact Nat.zero_le _
theorem not_small {P : Int} {A : List Sp} (pv : PV P A) : (caL (fun x => !hsP P A x) 0 P).length ≤ A.length + 1 := by
  have p0 := pv.p0
  have h := len_comb (k := 3) (by omega) (by omega) (fun _ => true) (hsP P A) 0 P.toNat
  have e : (0 : Int) + (P.toNat : Int) = P := by omega
  rw [e, ca_tight (f := fun _ => true) (fun _ _ _ => rfl) (show (0 : Int) < P by omega), ← ca_self pv.cn pv.ip] at h
  have g : (fun x => kpB 3 true (hsP P A x)) = fun x => !hsP P A x := funext fun x => by show (true && !hsP P A x) = _; rw [Bool.true_and]
  rw [g] at h
  have h1 : ([((0 : Int), P)] : List Sp).length = 1 := rfl
  rw [h1] at h
  omega
/-- A small set has a complement. -/
theorem no_fine {P : Int} {A : List Sp} (h : pvB P A = true) (l : A.length ≤ 40) : (noR P A).2 = 0 ∧ PV (noR P A).1.1 (noR P A).1.2 ∧ ∀ x, hsP (noR P A).1.1 (noR P A).1.2 x = !hsP P A x := by
  have pv := pv_iff.1 h
  have p0 := pv.p0
  have e : (pfR P (fun x => !hsP P A x)).2 = 0 := by
    have s := not_small pv
    rw [(no_lists pv).2, if_neg (by omega)]
  unfold noR
  rw [if_pos h]
  exact ⟨e, pf_pv (by omega) pv.p1 (fun x => by show (!hsP P A (x + P)) = _; rw [hs_per]) e⟩
theorem mv_fine {P : Int} {A : List Sp} {n : Int} (h : pvB P A = true) (v : nvB n = true) (l : A.length ≤ 40) : (mvR P A n).2 = 0 ∧ PV (mvR P A n).1.1 (mvR P A n).1.2 ∧ ∀ x, hsP (mvR P A n).1.1 (mvR P A n).1.2 x = hsP P A (x - n) := by
  have pv := pv_iff.1 h
  have p0 := pv.p0
  have e : (pfR P (fun x => hsP P A (x - n))).2 = 0 := by
    have s := ro_len (show 0 < P by omega) pv.cn pv.ip n
    rw [ro_fm pv, if_neg (by omega)]
  unfold mvR
  rw [if_pos h, if_pos v]
  exact ⟨e, pf_pv (by omega) pv.p1 (per_shift hs_per n) e⟩
/-- A window is a valid list, and its measure is the count. -/
theorem win_va {f : Int → Bool} {x y : Int} (s : spB (x, y) = true) (l : (caL f x y).length ≤ 2000) : vaB (caL f x y) = true := by
  obtain ⟨a, b, c⟩ := spB_iff.1 s
  have a : -4398046511104 ≤ x := a
  have b : y ≤ 4398046511104 := b
  exact vaB_iff.2 ⟨l, fun p hp => by have := ca_ends f x y p hp; omega, ca_cn f x y⟩
theorem win_ms {P : Int} {A : List Sp} (pv : PV P A) {x y : Int} (s : spB (x, y) = true) : blV P A y - blV P A x = msL (caL (hsP P A) x y) := by
  obtain ⟨a, b, c⟩ := spB_iff.1 s
  have c : x < y := c
  have p0 := pv.p0
  exact bl_ms (by omega) pv.cn pv.ip (by omega)
theorem bl_none {P : Int} {A : List Sp} (pv : PV P A) {x y : Int} (xy : x ≤ y) (n : ∀ z, x ≤ z → z < y → hsP P A z = false) : blV P A y - blV P A x = 0 := by
  have p0 := pv.p0
  rw [bl_ms (by omega) pv.cn pv.ip xy, ← ca_skip (f := hsP P A) (a := x) (e := x) (b := y) xy n, ca_none _ (Int.le_refl x)]
  rfl
/-- Counts add up; a set and its complement have all numbers; each whole period has the same count. -/
theorem bl_whole {P : Int} {A : List Sp} (pv : PV P A) (a : Int) : blV P A (a + P) - blV P A a = blV P A P - blV P A 0 := by
  have p0 := pv.p0
  have h := bl_turn (L := A) (show 0 < P by omega) a
  have k := bl_turn (L := A) (show 0 < P by omega) 0
  rw [Int.zero_add] at k
  rw [h, k]
theorem bl_both {P : Int} {A : List Sp} (h : pvB P A = true) (l : A.length ≤ 40) {a c : Int} (ac : a ≤ c) : (blV P A c - blV P A a) + (blV (noR P A).1.1 (noR P A).1.2 c - blV (noR P A).1.1 (noR P A).1.2 a) = c - a := by
  obtain ⟨-, q, e⟩ := no_fine h l
  have pv := pv_iff.1 h
  have p0 := pv.p0
  have q0 := q.p0
  exact bl_not (by omega) (by omega) pv.cn pv.ip q.cn q.ip e ac
theorem of_er (P : Int) (L : List Sp) : 0 ≤ (ofR P L).2 ∧ (ofR P L).2 ≤ 9 := by
  unfold ofR; split
  · split
    · exact ⟨by decide, by decide⟩
    · exact pf_er _ _
  · exact ⟨by decide, by decide⟩
theorem of_len2 (P : Int) (L : List Sp) : (ofR P L).1.2.length ≤ 2000 := by
  unfold ofR; split
  · split
    · exact Nat.zero_le _
    · exact pf_len _ _
  · exact Nat.zero_le _
/-- Two slices of one list are equal. -/
theorem sl_eq (v1 v2 : Value) (L : List Sp) (hL : L.length ≤ 2000) {b1 b2 : Nat} (W : World) (p : PairS b1 W v1 L) (q : PairS b2 W v2 L) :
    Calls Try.prog 22 #[v1, v2] W fun e w' => e = .returned (.bool true) ∧ Below W.heap.size W w' := (eq_pairs L L v1 v2 (by omega) W p q).mono (by
    rintro e w' ⟨e1, d, rfl⟩
    refine ⟨?_, below_drewN (here _) d⟩
    rw [e1, beq_self_eq_true])
end Go.Proofs.Ytaikeclfmmnelaa
/- Plain facts: a window's list, its length, its measure; a combination's period. -/
namespace Go.Proofs.Ytaikeclfmmnelaa

open Go.RowKit

set_option linter.unusedVariables false

theorem co_i64 {k P : Int} {A : List Sp} {Q : Int} {B : List Sp} (k1 : 1 ≤ k) (k3 : k ≤ 3) (h : (coR k P A Q B).2 = 0) : I64 (coR k P A Q B).1.1 := by
  have c := (co_ok k1 k3 h).2.2.1
  have p0 := c.p0
  have p1 := c.p1
  exact ⟨by omega, by omega⟩
theorem no_i64 {P : Int} {A : List Sp} (h : pvB P A = true) (l : A.length ≤ 40) : I64 (noR P A).1.1 := by
  have c := (no_fine h l).2.1
  have p0 := c.p0
  have p1 := c.p1
  exact ⟨by omega, by omega⟩
theorem mv_i64 {P : Int} {A : List Sp} {n : Int} (h : pvB P A = true) (v : nvB n = true) (l : A.length ≤ 40) : I64 (mvR P A n).1.1 := by
  have c := (mv_fine h v l).2.1
  have p0 := c.p0
  have p1 := c.p1
  exact ⟨by omega, by omega⟩
theorem nv_bd {x : Int} (h : nvB x = true) : -4398046511104 ≤ x ∧ x ≤ 4398046511104 := by
  unfold nvB at h
  rwa [Bool.and_eq_true, decide_eq_true_iff, decide_eq_true_iff] at h
theorem sp_line {x y : Int} (a : -4398046511104 ≤ x) (b : y ≤ 4398046511104) (c : x < y) : spB (x, y) = true := spB_iff.2 ⟨a, b, c⟩
theorem wi_len (f : Int → Bool) (x y : Int) : (wiR f x y).1.length ≤ 2000 := by
  unfold wiR; split
  · exact Nat.zero_le _
  · show (caL f x y).length ≤ 2000; omega
theorem wi_er (f : Int → Bool) (x y : Int) : 0 ≤ (wiR f x y).2 ∧ (wiR f x y).2 ≤ 9 := by
  unfold wiR; split <;> simp
theorem wv_len (P : Int) (A : List Sp) (x y : Int) : (wvR P A x y).1.length ≤ 2000 := by
  unfold wvR; split
  · exact wi_len _ _ _
  · exact Nat.zero_le _
theorem wv_er (P : Int) (A : List Sp) (x y : Int) : 0 ≤ (wvR P A x y).2 ∧ (wvR P A x y).2 ≤ 9 := by
  unfold wvR; split
  · exact wi_er _ _ _
  · exact ⟨by decide, by decide⟩
theorem wv_ok {P : Int} {A : List Sp} {x y : Int} (h : pvB P A = true) (s : spB (x, y) = true) (z : (wvR P A x y).2 = 0) : vaB (wvR P A x y).1 = true ∧ msL (wvR P A x y).1 = blV P A y - blV P A x := by
  unfold wvR at z ⊢
  rw [if_pos (by rw [h, s]; rfl)] at z ⊢
  unfold wiR at z ⊢
  by_cases b : 2000 < (caL (hsP P A) x y).length
  · rw [if_pos b] at z; cases z
  · rw [if_neg b]
    exact ⟨win_va s (by omega), (win_ms (pv_iff.1 h) s).symm⟩
end Go.Proofs.Ytaikeclfmmnelaa
