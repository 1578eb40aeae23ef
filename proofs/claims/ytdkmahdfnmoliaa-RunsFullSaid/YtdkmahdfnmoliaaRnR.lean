/- Contracts of civiltimeref12: numbers, spans, lists, elements, measures. -/
import Derived.Test.YtdkmahdfnmoliaaRnC
import Derived.Test.YtdkmahdfnmoliaaLSl
import Derived.Test.YtdkmahdfnmoliaaLOwn
import Derived.Test.YtdkmahdfnmoliaaLIvB
import Derived.OwnWalk
import Derived.Deep.QuietTactic
import Derived.BigQuiet
import Derived.Outline
namespace Go.Proofs.Ytdkmahdfnmoliaa
open Go.RowKit
set_option linter.unusedVariables false

/-- A list of spans: where its cells lie. -/
theorem prs_here {base : Nat} {w : World} {o : Option Addr} {n c : Nat} {L : List Sp} (h : PairS base w (.slice o n c) L) {i : Nat} (hi : i < L.length) :
    ∃ b off, o = some ⟨b, off, none⟩ ∧ b < w.heap.size ∧ ∀ j, j < L.length → w.cell? ⟨b, off + j * 2, none⟩ = some (.int .i64 (L.getD j (0, 0)).1) ∧ w.cell? ⟨b, off + j * 2 + 1, none⟩ = some (.int .i64 (L.getD j (0, 0)).2) := by
  rcases h with ⟨h0, -⟩ | ⟨b, off, c', e, -, l⟩
  · omega
  · injection e with e1 e2 e3
    exact ⟨b, off, e1, l.lt, fun j hj => pairs_at l j hj⟩
theorem prs_shape {base : Nat} {w : World} {v : Value} {L : List Sp} (h : PairS base w v L) : ∃ o c, v = .slice o L.length c := by
  rcases h with ⟨h0, a, c, rfl⟩ | ⟨b, off, c, rfl, -⟩
  · exact ⟨a, c, by rw [h0]⟩
  · exact ⟨_, _, rfl⟩
theorem rnnum (x : Int) (w : World) :
    Calls Try.prog 76 #[.int .i64 x] w fun e w' => e = .returned (.bool (nvB x)) ∧ w = w' := by
  unfold nvB
  cases p : decide (-4398046511104 ≤ x) <;> cases q : decide (x ≤ 4398046511104)
  all_goals
    go_enter Try.func76, Try.ntmps76
    go_wp2
    go_ret
    exact ⟨rfl, rfl⟩
theorem rnspan (a b : Int) (w : World) :
    Calls Try.prog 62 #[.agg #[.int .i64 a, .int .i64 b]] w fun e w' => e = .returned (.bool (spB (a, b))) ∧ Below w.heap.size w w' := by
  have HA := Lib.hid (fun w => rnnum a w)
  have HB := Lib.hid (fun w => rnnum b w)
  have A1 := Lib.hid (grow (here w) (.cells #[.int .i64 a, .int .i64 b] 33))
  obtain ⟨x0, x1, xl⟩ := Two.new (here (w.alloc (.cells #[.int .i64 a, .int .i64 b] 33)))
  have e : Hid (spB (a, b) = (nvB a && nvB b && decide (a < b))) := rfl
  cases p : nvB a
  · rw [p] at HA e
    have r : Hid (spB (a, b) = false) := e.out
    clear e p
    go_enter Try.func62, Try.ntmps62
    go_wp2_with fail
    refine (HA.out _).mono ?_
    rintro e w1 ⟨rfl, rfl⟩
    go_wp2
    go_ret
    exact ⟨by rw [r.out]; rfl, A1.out⟩
  cases q : nvB b
  · rw [p, q] at e
    rw [p] at HA
    rw [q] at HB
    have r : Hid (spB (a, b) = false) := e.out
    clear e p q
    go_enter Try.func62, Try.ntmps62
    go_wp2_with fail
    refine (HA.out _).mono ?_
    rintro e w1 ⟨rfl, rfl⟩
    go_wp2_with fail
    refine (HB.out _).mono ?_
    rintro e w1 ⟨rfl, rfl⟩
    go_wp2
    go_ret
    exact ⟨by rw [r.out]; rfl, A1.out⟩
  rw [p, q] at e
  rw [p] at HA
  rw [q] at HB
  clear p q
  cases u : decide (a < b)
  all_goals
    rw [u] at e
    go_enter Try.func62, Try.ntmps62
    go_wp2_with fail
    refine (HA.out _).mono ?_
    rintro e w1 ⟨rfl, rfl⟩
    go_wp2_with fail
    refine (HB.out _).mono ?_
    rintro e w1 ⟨rfl, rfl⟩
    go_wp2
    go_ret
    exact ⟨by rw [e.out]; rfl, A1.out⟩
set_option maxRecDepth 100000 in
set_option maxHeartbeats 1000000 in
theorem rnspans (v : Value) (L : List Sp) (hn : L.length ≤ maxLen) {base : Nat} (w : World) (h : PairS base w v L) :
    Calls Try.prog 48 #[v] w fun e w' => e = .returned (.bool (spsB L)) ∧ Below w.heap.size w w' := by
  unfold maxLen at hn
  obtain ⟨o, c, rfl⟩ := prs_shape h
  have PL := Lib.hid h
  have A0 : Hid (Below w.heap.size w w) := here w
  have yes : Hid ((∀ j, j < L.length → spB (L.getD j (0, 0)) = true) → spsB L = true) := spsB_at.2
  have no : Hid (∀ j, j < L.length → spB (L.getD j (0, 0)) = false → spsB L = false) := fun j hj e => by
    rw [← Bool.not_eq_true, spsB_at]; intro q; rw [q j hj] at e; cases e
  obtain ⟨n, hl⟩ : ∃ n, L.length = n := ⟨_, rfl⟩
  rw [hl] at hn yes no ⊢
  rw [hl] at PL
  generalize spsB L = R at *
  go_enter Try.func48, Try.ntmps48
  go_wp2
  go_loopw [3] (fun i wr => ∃ k : Nat, k ≤ n ∧ i = .int .i64 k ∧ Hid (∀ j, j < k → spB (L.getD j (0, 0)) = true) ∧ Hid (Below w.heap.size w wr) ∧ Hid (PairS base wr (.slice o n c) L)) (fun i _ => n - (intOf i).toNat)
  case atStart => exact ⟨0, Nat.zero_le _, rfl, fun j hj => absurd hj (Nat.not_lt_zero _), A0, PL⟩
  case round =>
    obtain ⟨k, hk, rfl, HU, HA, HP⟩ := hrel
    by_cases z : k < n
    · have kz : decide ((k : Int) < (n : Int)) = true := decide_eq_true (by omega)
      obtain ⟨b, off, rfl, bl, cs⟩ := prs_here HP.out (show k < L.length by omega)
      obtain ⟨c0, c1⟩ := cs k (by omega)
      have HS := Lib.hid (fun w => rnspan (L.getD k (0, 0)).1 (L.getD k (0, 0)).2 w)
      have ev : ((L.getD k (0, 0)).1, (L.getD k (0, 0)).2) = L.getD k (0, 0) := rfl
      rw [ev] at HS
      clear cs ev A0 PL
      cases u : spB (L.getD k (0, 0))
      · rw [u] at HS
        have r : Hid (R = false) := no.out k z u
        clear u yes no HU
        generalize L.getD k (0, 0) = q at *
        go_wp2_with fail
        refine (HS.out _).mono ?_
        rintro e w1 ⟨rfl, hb⟩
        have A1 := Lib.hid (down HA.out hb)
        clear hb c0 c1 bl HA HP
        go_wp2
        go_ret
        exact ⟨by rw [r.out]; rfl, A1.out⟩
      · rw [u] at HS
        have HU2 : Hid (∀ j, j < k + 1 → spB (L.getD j (0, 0)) = true) := fun j hj => by
          rcases Nat.lt_or_ge j k with y | y
          · exact HU.out j y
          · obtain rfl : j = k := by omega
            exact u
        clear u yes no HU
        generalize hq : L.getD k (0, 0) = q at c0 c1 HS
        clear hq
        go_wp2_with fail
        refine (HS.out _).mono ?_
        rintro e w1 ⟨rfl, hb⟩
        have A1 := Lib.hid (down HA.out hb)
        have P1 := Lib.hid (HP.out.keep hb)
        clear hb c0 c1 bl HA HP
        go_wp2
        go_roundw
        case rel => exact ⟨k + 1, by omega, by go_num, HU2, A1, P1⟩
        case measure => simp [intOf]; omega
    · have kz : decide ((k : Int) < (n : Int)) = false := decide_eq_false (by omega)
      obtain rfl : k = n := by omega
      have r : Hid (R = true) := yes.out HU.out
      clear yes no HU HP
      go_wp2
      go_ret
      exact ⟨by rw [r.out]; rfl, HA.out⟩
set_option maxRecDepth 100000 in
set_option maxHeartbeats 1000000 in
theorem rnvalid (v : Value) (L : List Sp) (hn : L.length ≤ maxLen) {base : Nat} (w : World) (h : PairS base w v L) :
    Calls Try.prog 15 #[v] w fun e w' => e = .returned (.bool (vaB L)) ∧ Below w.heap.size w w' := by
  have HS := Lib.hid (fun w (h : PairS base w v L) => rnspans v L hn w h)
  unfold maxLen at hn
  obtain ⟨o, c, rfl⟩ := prs_shape h
  have PL := Lib.hid h
  have A0 : Hid (Below w.heap.size w w) := here w
  have gp := Lib.hid (gpB_at (L := L))
  have ve : Hid (vaB L = (decide (L.length ≤ 2000) && spsB L && gpB L)) := rfl
  clear h
  obtain ⟨n, hl⟩ : ∃ n, L.length = n := ⟨_, rfl⟩
  rw [hl] at hn gp ve HS PL ⊢
  by_cases l : 2000 < n
  · have kl : decide (2000 < (n : Int)) = true := decide_eq_true (by omega)
    rw [decide_eq_false (by omega : ¬ n ≤ 2000), Bool.false_and, Bool.false_and] at ve
    clear l gp HS
    go_enter Try.func15, Try.ntmps15
    go_wp2
    go_ret
    exact ⟨by rw [ve.out]; rfl, A0.out⟩
  have kl : decide (2000 < (n : Int)) = false := decide_eq_false (by omega)
  rw [decide_eq_true (by omega : n ≤ 2000), Bool.true_and] at ve
  cases s : spsB L
  · rw [s, Bool.false_and] at ve
    rw [s] at HS
    clear gp
    go_enter Try.func15, Try.ntmps15
    go_wp2_with fail
    refine (HS.out _ PL.out).mono ?_
    rintro e w1 ⟨rfl, hb⟩
    have A1 := Lib.hid (down A0.out hb)
    clear hb A0
    go_wp2
    go_ret
    exact ⟨by rw [ve.out]; rfl, A1.out⟩
  rw [s, Bool.true_and] at ve
  rw [s] at HS
  clear s
  go_enter Try.func15, Try.ntmps15
  go_wp2_with fail
  refine (HS.out _ PL.out).mono ?_
  rintro e w1 ⟨rfl, hb⟩
  have A1 := Lib.hid (down A0.out hb)
  have P1 := Lib.hid (PL.out.keep hb)
  clear hb A0 PL HS
  go_wp2
  go_loopw [3] (fun i wr => ∃ k : Nat, 1 ≤ k ∧ (k ≤ n ∨ k = 1) ∧ i = .int .i64 k ∧ Hid (∀ j, j + 1 < k → (L.getD j (0, 0)).2 < (L.getD (j + 1) (0, 0)).1) ∧ Hid (Below w.heap.size w wr) ∧ Hid (PairS base wr (.slice o n c) L)) (fun i _ => n + 1 - (intOf i).toNat)
  case atStart => exact ⟨1, Nat.le_refl _, .inr rfl, rfl, fun j hj => by omega, A1, P1⟩
  case round =>
    obtain ⟨k, hk1, hk, rfl, HU, HA, HP⟩ := hrel
    clear A1 P1
    by_cases z : k < n
    · have kz : decide ((k : Int) < (n : Int)) = true := decide_eq_true (by omega)
      obtain ⟨b, off, rfl, bl, cs⟩ := prs_here HP.out (show k < L.length by omega)
      obtain ⟨c0, c1⟩ := cs (k - 1) (by omega)
      obtain ⟨d0, d1⟩ := cs k (by omega)
      obtain ⟨m, rfl⟩ : ∃ m, k = m + 1 := ⟨k - 1, by omega⟩
      rw [Nat.add_sub_cancel] at c0 c1
      have m1 : ((m + 1 : Nat) : Int) - 1 = m := by omega
      have m2 : ((m + 1 : Nat) : Int) = (m : Int) + 1 := by omega
      obtain ⟨p, hp⟩ : ∃ p, (L.getD m (0, 0)).2 = p := ⟨_, rfl⟩
      obtain ⟨q, hq⟩ : ∃ q, (L.getD (m + 1) (0, 0)).1 = q := ⟨_, rfl⟩
      rw [hp] at c1
      rw [hq] at d0
      clear cs c0 d1
      by_cases u : q ≤ p
      · have ku := decide_eq_true u
        have r : Hid (vaB L = false) := by
          show _ = _
          rw [ve.out, ← Bool.not_eq_true, gp.out]
          intro g
          have := g m (by omega)
          omega
        clear ve gp HU hp hq u
        go_wp2
        go_quiet (fail)
        go_wp2
        go_ret
        exact ⟨by rw [r.out]; rfl, below_drewN HA.out _⟩
      · have ku := decide_eq_false u
        have HU2 : Hid (∀ j, j + 1 < m + 2 → (L.getD j (0, 0)).2 < (L.getD (j + 1) (0, 0)).1) := fun j hj => by
          rcases Nat.lt_or_ge (j + 1) (m + 1) with y | y
          · exact HU.out j y
          · obtain rfl : j = m := by omega
            rw [hp, hq]; omega
        clear ve gp HU hp hq u
        go_wp2
        go_quiet (fail)
        have A2 := Lib.hid (below_drewN HA.out nq)
        have P2 := Lib.hid (HP.out.keep (below_drewN (here wr) nq))
        clear HA HP c1 d0 bl
        go_wp2
        go_roundw
        case rel => exact ⟨m + 2, by omega, .inl (by omega), by go_num, HU2, A2, P2⟩
        case measure => simp [intOf]; omega
    · have kz : decide ((k : Int) < (n : Int)) = false := decide_eq_false (by omega)
      have r : Hid (vaB L = true) := by
        show _ = _
        rw [ve.out, gp.out]
        exact fun j hj => HU.out j (by omega)
      clear ve gp HU HP
      go_wp2
      go_ret
      exact ⟨by rw [r.out]; rfl, HA.out⟩
set_option maxRecDepth 100000 in
set_option maxHeartbeats 1000000 in
theorem rnin (v : Value) (L : List Sp) (hn : L.length ≤ maxLen) (x : Int) {base : Nat} (w : World) (h : PairS base w v L) :
    Calls Try.prog 37 #[v, .int .i64 x] w fun e w' => e = .returned (.bool (inB L x)) ∧ w = w' := by
  unfold maxLen at hn
  obtain ⟨o, c, rfl⟩ := prs_shape h
  have yes : Hid (∀ j, j < L.length → (L.getD j (0, 0)).1 ≤ x → x < (L.getD j (0, 0)).2 → inB L x = true) := fun j hj a b => inB_iff.2 ⟨L.getD j (0, 0), by
    rw [List.getD_eq_getElem?_getD, List.getElem?_eq_getElem hj]; exact List.getElem_mem hj, a, b⟩
  have no : Hid ((∀ j, j < L.length → ¬ ((L.getD j (0, 0)).1 ≤ x ∧ x < (L.getD j (0, 0)).2)) → inB L x = false) := fun q => by
    rw [← Bool.not_eq_true, inB_iff]
    rintro ⟨p, hp, a⟩
    obtain ⟨j, hj, rfl⟩ := List.getElem_of_mem hp
    have := q j hj
    rw [List.getD_eq_getElem?_getD, List.getElem?_eq_getElem hj] at this
    exact this a
  have HP := Lib.hid h
  obtain ⟨n, hl⟩ : ∃ n, L.length = n := ⟨_, rfl⟩
  rw [hl] at hn yes no HP ⊢
  generalize inB L x = R at *
  clear h
  go_enter Try.func37, Try.ntmps37
  go_wp2
  go_loopw [5] (fun i wr => ∃ k : Nat, k ≤ n ∧ i = .int .i64 k ∧ wr = w ∧ Hid (∀ j, j < k → ¬ ((L.getD j (0, 0)).1 ≤ x ∧ x < (L.getD j (0, 0)).2))) (fun i _ => n - (intOf i).toNat)
  case atStart => exact ⟨0, Nat.zero_le _, rfl, rfl, fun j hj => absurd hj (Nat.not_lt_zero _)⟩
  case round =>
    obtain ⟨k, hk, rfl, rfl, HU⟩ := hrel
    by_cases z : k < n
    · have kz : decide ((k : Int) < (n : Int)) = true := decide_eq_true (by omega)
      obtain ⟨b, off, rfl, bl, cs⟩ := prs_here HP.out (show k < L.length by omega)
      obtain ⟨c0, c1⟩ := cs k (by omega)
      obtain ⟨p, hp⟩ : ∃ p, (L.getD k (0, 0)).1 = p := ⟨_, rfl⟩
      obtain ⟨q, hq⟩ : ∃ q, (L.getD k (0, 0)).2 = q := ⟨_, rfl⟩
      rw [hp] at c0
      rw [hq] at c1
      clear cs
      have on : ¬ (p ≤ x ∧ x < q) → Hid (∀ j, j < k + 1 → ¬ ((L.getD j (0, 0)).1 ≤ x ∧ x < (L.getD j (0, 0)).2)) := fun u j hj => by
        rcases Nat.lt_or_ge j k with y | y
        · exact HU.out j y
        · obtain rfl : j = k := by omega
          rw [hp, hq]; exact u
      cases u : decide (p ≤ x)
      · have HU2 := on (fun q => by rw [decide_eq_true q.1] at u; cases u)
        clear on yes no HU hp hq
        go_wp2
        go_roundw
        case rel => exact ⟨k + 1, by omega, by go_num, by first | rfl | trivial, HU2⟩
        case measure => simp [intOf]; omega
      · cases t : decide (x < q)
        · have HU2 := on (fun q => by rw [decide_eq_true q.2] at t; cases t)
          clear on yes no HU hp hq
          go_wp2
          go_roundw
          case rel => exact ⟨k + 1, by omega, by go_num, by first | rfl | trivial, HU2⟩
          case measure => simp [intOf]; omega
        · have r : Hid (R = true) := yes.out k z (by rw [hp]; exact of_decide_eq_true u) (by rw [hq]; exact of_decide_eq_true t)
          clear on yes no HU hp hq
          go_wp2
          go_ret
          exact ⟨by rw [r.out]; rfl, rfl⟩
    · have kz : decide ((k : Int) < (n : Int)) = false := decide_eq_false (by omega)
      obtain rfl : k = n := by omega
      have r : Hid (R = false) := no.out HU.out
      clear yes no HU HP
      go_wp2
      go_ret
      exact ⟨by rw [r.out]; rfl, rfl⟩
theorem rnkeep (k : Int) (a b : Bool) (w : World) :
    Calls Try.prog 72 #[.int .i64 k, .bool a, .bool b] w fun e w' => e = .returned (.bool (kpB k a b)) ∧ w = w' := by
  by_cases k1 : k = 1
  · subst k1
    cases a <;> cases b
    all_goals
      go_enter Try.func72, Try.ntmps72
      go_wp2
      go_ret
      exact ⟨rfl, rfl⟩
  by_cases k2 : k = 2
  · subst k2
    cases a <;> cases b
    all_goals
      go_enter Try.func72, Try.ntmps72
      go_wp2
      go_ret
      exact ⟨rfl, rfl⟩
  by_cases k3 : k = 3
  · subst k3
    cases a <;> cases b
    all_goals
      go_enter Try.func72, Try.ntmps72
      go_wp2
      go_ret
      exact ⟨rfl, rfl⟩
  have e : Hid (kpB k a b = (a != b)) := by show _ = _; unfold kpB; rw [if_neg k1, if_neg k2, if_neg k3]
  have t1 : (k == 1) = false := by rw [beq_eq_false_iff_ne]; exact k1
  have t2 : (k == 2) = false := by rw [beq_eq_false_iff_ne]; exact k2
  have t3 : (k == 3) = false := by rw [beq_eq_false_iff_ne]; exact k3
  clear k1 k2 k3
  cases a <;> cases b
  all_goals
    go_enter Try.func72, Try.ntmps72
    go_wp2
    go_ret
    exact ⟨by rw [e.out]; rfl, rfl⟩
theorem rnfull (o : Option Addr) (n c : Nat) (hn : n ≤ maxLen) (w : World) :
    Calls Try.prog 55 #[.slice o n c] w fun e w' => e = .returned (if 2000 < n then .tuple #[.slice none 0 0, .int .i64 5] else .tuple #[.slice o n c, .int .i64 0]) ∧ w = w' := by
  unfold maxLen at hn
  by_cases l : 2000 < n
  · rw [if_pos l]
    have kl : decide (2000 < (n : Int)) = true := decide_eq_true (by omega)
    clear l
    go_enter Try.func55, Try.ntmps55
    go_wp2
    go_ret2
    exact ⟨rfl, rfl⟩
  · rw [if_neg l]
    have kl : decide (2000 < (n : Int)) = false := decide_eq_false (by omega)
    clear l
    go_enter Try.func55, Try.ntmps55
    go_wp2
    go_ret2
    exact ⟨rfl, rfl⟩
end Go.Proofs.Ytdkmahdfnmoliaa
