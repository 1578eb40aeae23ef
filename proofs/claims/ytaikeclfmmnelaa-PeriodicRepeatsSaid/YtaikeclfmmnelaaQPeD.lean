/- Contracts of civiltimeref13: Same, Has, cut. -/
import Derived.Test.YtaikeclfmmnelaaQGK
import Derived.Test.YtaikeclfmmnelaaQGA
import Derived.Test.YtaikeclfmmnelaaQGB
import Derived.Test.YtaikeclfmmnelaaQGD
import Derived.StillTailTactics
import Derived.Deep.AppendLies
import Derived.Deep.RegionLaw
namespace Go.Proofs.Ytaikeclfmmnelaa

open Go.RowKit

set_option linter.unusedVariables false

set_option maxRecDepth 100000 in
set_option maxHeartbeats 1000000 in
theorem rpsame (v u : Value) (L M : List Sp) (hn : L.length ≤ maxLen) (hm : M.length ≤ maxLen) {base base' : Nat} (w : World) (h : PairS base w v L) (h' : PairS base' w u M) :
    Calls Try.prog 52 #[v, u] w fun e w' => e = .returned (.bool (decide (L = M))) ∧ Below w.heap.size w w' := by
  unfold maxLen at hn hm
  obtain ⟨o, c, rfl⟩ := prs_shape h
  obtain ⟨o', c', rfl⟩ := prs_shape h'
  have HP := Lib.hid h
  have HQ := Lib.hid h'
  clear h h'
  have A0 : Hid (Below w.heap.size w w) := here w
  by_cases ln : L.length = M.length
  · have kl : ((L.length : Int) != (M.length : Int)) = false := by rw [bne_eq_false_iff_eq]; omega
    have yes : Hid ((∀ j, j < L.length → L.getD j (0, 0) = M.getD j (0, 0)) → decide (L = M) = true) := fun q => decide_eq_true (list_eq_of ln q)
    have no : Hid (∀ j, j < L.length → ¬ L.getD j (0, 0) = M.getD j (0, 0) → decide (L = M) = false) := fun j hj q => decide_eq_false (fun e => q (by rw [e]))
    obtain ⟨n, hl⟩ : ∃ n, L.length = n := ⟨_, rfl⟩
    rw [← ln] at HQ kl ⊢
    rw [hl] at hn yes no HP HQ kl ⊢
    have hl2 : M.length = n := by omega
    clear ln hm
    generalize decide (L = M) = R at *
    go_enter Try.func52, Try.ntmps52
    go_wp2
    go_loopw [5] (fun i wr => ∃ k : Nat, k ≤ n ∧ i = .int .i64 k ∧ Hid (∀ j, j < k → L.getD j (0, 0) = M.getD j (0, 0)) ∧ Hid (Below w.heap.size w wr) ∧ Hid (PairS base wr (.slice o n c) L) ∧ Hid (PairS base' wr (.slice o' n c') M)) (fun i _ => n - (intOf i).toNat)
    case atStart => exact ⟨0, Nat.zero_le _, rfl, fun j hj => absurd hj (Nat.not_lt_zero _), A0, HP, HQ⟩
    case round =>
      obtain ⟨k, hk, rfl, HU, HA, P1, P2⟩ := hrel
      clear A0 HP HQ
      by_cases z : k < n
      · have kz : decide ((k : Int) < (n : Int)) = true := decide_eq_true (by omega)
        obtain ⟨b, off, rfl, bl, cs⟩ := prs_here P1.out (show k < L.length by omega)
        obtain ⟨c0, c1⟩ := cs k (by omega)
        obtain ⟨b', off', rfl, bl', cs'⟩ := prs_here P2.out (show k < M.length by omega)
        obtain ⟨d0, d1⟩ := cs' k (by omega)
        have on : L.getD k (0, 0) = M.getD k (0, 0) → Hid (∀ j, j < k + 1 → L.getD j (0, 0) = M.getD j (0, 0)) := fun u j hj => by
          rcases Nat.lt_or_ge j k with y | y
          · exact HU.out j y
          · obtain rfl : j = k := by omega
            exact u
        have off1 := no.out k z
        clear cs cs' HU no yes
        generalize L.getD k (0, 0) = p at *
        generalize M.getD k (0, 0) = q at *
        obtain ⟨x, x'⟩ := p
        obtain ⟨y, y'⟩ := q
        by_cases u : x = y
        · subst u
          by_cases t : x' = y'
          · subst t
            have HU2 := on rfl
            clear on off1
            go_wp2
            go_quiet (fail)
            have A2 := Lib.hid (below_drewN HA.out nq)
            have P3 := Lib.hid (P1.out.keep (below_drewN (here wr) nq))
            have P4 := Lib.hid (P2.out.keep (below_drewN (here wr) nq))
            clear HA P1 P2 c0 c1 d0 d1 bl bl'
            go_wp2
            go_roundw
            case rel => exact ⟨k + 1, by omega, by go_num, HU2, A2, P3, P4⟩
            case measure => simp [intOf]; omega
          · have kt : (x' == y') = false := by rw [beq_eq_false_iff_ne]; exact t
            have r : Hid (R = false) := off1 (fun e => t (by injection e))
            clear on off1 t
            go_wp2
            go_quiet (fail)
            go_wp2
            go_ret
            exact ⟨by rw [r.out]; rfl, below_drewN HA.out _⟩
        · have ku : (x == y) = false := by rw [beq_eq_false_iff_ne]; exact u
          have r : Hid (R = false) := off1 (fun e => u (by injection e))
          clear on off1 u
          go_wp2
          go_quiet (fail)
          go_wp2
          go_ret
          exact ⟨by rw [r.out]; rfl, below_drewN HA.out _⟩
      · have kz : decide ((k : Int) < (n : Int)) = false := decide_eq_false (by omega)
        obtain rfl : k = n := by omega
        have r : Hid (R = true) := yes.out (fun j hj => HU.out j (by omega))
        clear yes no HU P1 P2
        go_wp2
        go_ret
        exact ⟨by rw [r.out]; rfl, HA.out⟩
  · have kl : ((L.length : Int) != (M.length : Int)) = true := by rw [bne_iff_ne]; omega
    have r : Hid (decide (L = M) = false) := decide_eq_false (fun e => ln (by rw [e]))
    generalize decide (L = M) = R at *
    clear ln
    go_enter Try.func52, Try.ntmps52
    go_wp2
    go_ret
    exact ⟨by rw [r.out]; rfl, A0.out⟩
set_option maxRecDepth 100000 in
set_option maxHeartbeats 1000000 in
theorem rphas (v : Value) (P : Int) (L : List Sp) (hn : L.length ≤ maxLen) (P0 : 0 < P) (P1 : P ≤ 4398046511104) (x : Int) (hx : I64 x) {base : Nat} (w : World) (h : PairS base w v L) :
    Calls Try.prog 17 #[.agg #[.int .i64 P, v], .int .i64 x] w fun e w' => e = .returned (.bool (hsP P L x)) ∧ Below w.heap.size w w' := by
  unfold maxLen at hn
  obtain ⟨o, c, rfl⟩ := prs_shape h
  have HM := Lib.hid (fun w => refmod_all x P hx.1 hx.2 (by omega) (by omega) w)
  rw [dR_pos P0] at HM
  unfold hsP
  generalize x % P = r at *
  have yes : Hid (∀ j, j < L.length → (L.getD j (0, 0)).1 ≤ r → r < (L.getD j (0, 0)).2 → inB L r = true) := fun j hj a b => inB_iff.2 ⟨L.getD j (0, 0), by
    rw [List.getD_eq_getElem?_getD, List.getElem?_eq_getElem hj]; exact List.getElem_mem hj, a, b⟩
  have no : Hid ((∀ j, j < L.length → ¬ ((L.getD j (0, 0)).1 ≤ r ∧ r < (L.getD j (0, 0)).2)) → inB L r = false) := fun q => by
    rw [← Bool.not_eq_true, inB_iff]
    rintro ⟨p, hp, a⟩
    obtain ⟨j, hj, rfl⟩ := List.getElem_of_mem hp
    have := q j hj
    rw [List.getD_eq_getElem?_getD, List.getElem?_eq_getElem hj] at this
    exact this a
  have HP := Lib.hid h
  obtain ⟨n, hl⟩ : ∃ n, L.length = n := ⟨_, rfl⟩
  rw [hl] at hn yes no HP ⊢
  generalize inB L r = R at *
  clear h
  have T0 : Two (w.alloc (.cells #[.int .i64 P, .slice o n c] 24)) w.heap.size (.int .i64 P) (.slice o n c) := Two.new (here _)
  have A0 := grow (here w) (.cells #[.int .i64 P, .slice o n c] 24)
  replace HP := Lib.hid (HP.out.keep A0)
  replace T0 := Lib.hid T0
  replace A0 := Lib.hid A0
  have t0 := T0.out.1
  go_enter Try.func17, Try.ntmps17
  go_wp2_with (go_at_call 51; refine (HM.out _).mono ?_; rintro e W ⟨rfl, q, hW⟩; have A1 : Hid (Below w.heap.size w W) := by { rw [hW]; exact below_drewN A0.out q }; have T1 : Two W w.heap.size (.int .i64 P) (.slice o n c) := by { rw [hW]; exact Two.drewN T0.out q }; have HQ : Hid (PairS base W (.slice o n c) L) := by { rw [hW]; exact HP.out.keep (below_drewN (here _) q) }; clear hW HP A0 T0 t0; obtain ⟨t0, t1, tl⟩ := T1)
  go_loopw [6] (fun i wr => ∃ k : Nat, k ≤ n ∧ i = .int .i64 k ∧ wr = W ∧ Hid (∀ j, j < k → ¬ ((L.getD j (0, 0)).1 ≤ r ∧ r < (L.getD j (0, 0)).2))) (fun i _ => n - (intOf i).toNat)
  case atStart => exact ⟨0, Nat.zero_le _, rfl, rfl, fun j hj => absurd hj (Nat.not_lt_zero _)⟩
  case round =>
    obtain ⟨k, hk, rfl, rfl, HU⟩ := hrel
    by_cases z : k < n
    · have kz : decide ((k : Int) < (n : Int)) = true := decide_eq_true (by omega)
      obtain ⟨b, off, rfl, bl, cs⟩ := prs_here HQ.out (show k < L.length by omega)
      obtain ⟨c0, c1⟩ := cs k (by omega)
      obtain ⟨p, hp⟩ : ∃ p, (L.getD k (0, 0)).1 = p := ⟨_, rfl⟩
      obtain ⟨q, hq⟩ : ∃ q, (L.getD k (0, 0)).2 = q := ⟨_, rfl⟩
      rw [hp] at c0
      rw [hq] at c1
      clear cs
      have on : ¬ (p ≤ r ∧ r < q) → Hid (∀ j, j < k + 1 → ¬ ((L.getD j (0, 0)).1 ≤ r ∧ r < (L.getD j (0, 0)).2)) := fun u j hj => by
        rcases Nat.lt_or_ge j k with y | y
        · exact HU.out j y
        · obtain rfl : j = k := by omega
          rw [hp, hq]; exact u
      cases u : decide (p ≤ r)
      · have HU2 := on (fun q => by rw [decide_eq_true q.1] at u; cases u)
        clear on yes no HU hp hq HM
        go_wp2
        go_roundw
        case rel => exact ⟨k + 1, by omega, by go_num, by first | rfl | trivial, HU2⟩
        case measure => simp [intOf]; omega
      · cases t : decide (r < q)
        · have HU2 := on (fun q => by rw [decide_eq_true q.2] at t; cases t)
          clear on yes no HU hp hq HM
          go_wp2
          go_roundw
          case rel => exact ⟨k + 1, by omega, by go_num, by first | rfl | trivial, HU2⟩
          case measure => simp [intOf]; omega
        · have rr : Hid (R = true) := yes.out k z (by rw [hp]; exact of_decide_eq_true u) (by rw [hq]; exact of_decide_eq_true t)
          clear on yes no HU hp hq HM
          go_wp2
          go_ret
          exact ⟨by rw [rr.out]; rfl, A1.out⟩
    · have kz : decide ((k : Int) < (n : Int)) = false := decide_eq_false (by omega)
      obtain rfl : k = n := by omega
      have rr : Hid (R = false) := no.out HU.out
      clear yes no HU HQ HM
      go_wp2
      go_ret
      exact ⟨by rw [rr.out]; rfl, A1.out⟩
theorem take_snoc2 (M : List Sp) {k : Nat} (hk : k < M.length) : M.take (k + 1) = M.take k ++ [M.getD k (0, 0)] := by
  rw [List.take_add_one, List.getD_eq_getElem?_getD, List.getElem?_eq_getElem hk]; rfl
theorem cu_snoc (d : Int) (A : List Sp) (q : Sp) : cuL d (A ++ [q]) = cuL d A ++ (if q.1 < d then [(q.1, if q.2 < d then q.2 else d)] else []) := by
  unfold cuL
  by_cases h : q.1 < d
  · simp [List.filter_append, h]
  · simp [List.filter_append, h]
set_option maxRecDepth 100000 in
set_option maxHeartbeats 1000000 in
theorem rpcut (v : Value) (d : Int) (L : List Sp) (hn : L.length ≤ 1000000) {base : Nat} (w : World) (h : PairS base w v L) :
    Calls Try.prog 76 #[.int .i64 d, v] w fun e w' => (∃ v', e = .returned (.agg #[.int .i64 d, v']) ∧ w'.ownsRow w.heap.size 37 2 v' (cuL d L).length (pairs (cuL d L))) ∧ Below w.heap.size w w' := by
  obtain ⟨i0, hi, hz0, hz1, hz2⟩ := info_parts infoS
  obtain ⟨o, c, rfl⟩ := prs_shape h
  have PL := Lib.hid h
  have B0 := Lib.hid (grow (here w) (.cells #[.int .i64 0, .slice none 0 0] 24))
  have T0 := Lib.hid (Tuo.new w (.int .i64 0) (.slice none 0 0) 24)
  have I0 : Hid ((w.alloc (.cells #[.int .i64 0, .slice none 0 0] 24)).ownsRow (w.alloc (.cells #[.int .i64 0, .slice none 0 0] 24)).heap.size 37 2 (.slice none 0 0) (cuL d (L.take 0)).length (pairs (cuL d (L.take 0)))) := World.ownsRow_nil _ _ _ _
  have L0 : Hid (Below (w.alloc (.cells #[.int .i64 0, .slice none 0 0] 24)).heap.size (w.alloc (.cells #[.int .i64 0, .slice none 0 0] 24)) (w.alloc (.cells #[.int .i64 0, .slice none 0 0] 24))) := here _
  replace PL := Lib.hid (PL.out.keep B0.out)
  obtain ⟨n, hl⟩ : ∃ n, L.length = n := ⟨_, rfl⟩
  rw [hl] at hn PL ⊢
  clear h
  go_enter Try.func76, Try.ntmps76
  go_wp2
  generalize hW0 : w.alloc (.cells #[.int .i64 0, .slice none 0 0] 24) = W0 at *
  clear hW0
  go_loopw [5, 6] (fun v i wr => ∃ (k : Nat) (v' : Value), v' = v ∧ k ≤ n ∧ i = .int .i64 k ∧ Hid (wr.ownsRow W0.heap.size 37 2 v (cuL d (L.take k)).length (pairs (cuL d (L.take k)))) ∧ Hid (Below W0.heap.size W0 wr)) (fun _ i _ => n - (intOf i).toNat)
  case atStart => exact ⟨0, _, rfl, Nat.zero_le _, rfl, I0, L0⟩
  case round =>
    obtain ⟨k, v', rfl, hk, rfl, HO, HA⟩ := hrel
    clear I0 L0
    have HP := Lib.hid (PL.out.keep HA.out)
    by_cases z : k < n
    · have kz : decide ((k : Int) < (n : Int)) = true := decide_eq_true (by omega)
      obtain ⟨k1, hk1⟩ : ∃ k1, k + 1 = k1 := ⟨_, rfl⟩
      obtain ⟨b, off, rfl, bl, cs⟩ := prs_here HP.out (show k < L.length by omega)
      obtain ⟨c0, c1⟩ := cs k (by omega)
      have sn : Hid (cuL d (L.take k1) = cuL d (L.take k) ++ (if (L.getD k (0, 0)).1 < d then [((L.getD k (0, 0)).1, if (L.getD k (0, 0)).2 < d then (L.getD k (0, 0)).2 else d)] else [])) := by show _ = _; rw [← hk1, take_snoc2 L (by omega), cu_snoc]
      clear cs
      generalize L.getD k (0, 0) = q at *
      obtain ⟨x, y⟩ := q
      replace c0 : wr.cell? ⟨b, off + k * 2, none⟩ = some (.int .i64 x) := c0
      replace c1 : wr.cell? ⟨b, off + k * 2 + 1, none⟩ = some (.int .i64 y) := c1
      replace sn : Hid (cuL d (L.take k1) = cuL d (L.take k) ++ (if x < d then [(x, if y < d then y else d)] else [])) := sn
      by_cases xd : x < d
      · have kx := decide_eq_true xd
        rw [if_pos xd] at sn
        have et : (if y < d then y else d) = (if d < y then d else y) := by split <;> split <;> omega
        rw [et] at sn
        clear et
        have cl := cu_len d (L.take k)
        have cl2 : (L.take k).length ≤ k := by rw [List.length_take]; omega
        generalize cuL d (L.take k) = RR at *
        obtain ⟨RR1, hR1⟩ : ∃ R, cuL d (L.take k1) = R := ⟨_, rfl⟩
        rw [hR1] at sn
        obtain ⟨m, hm⟩ : ∃ m, RR.length = m := ⟨_, rfl⟩
        rw [hm] at HO
        have X1 := HO.out.alloc (.cells #[.int .i64 x, .int .i64 (if d < y then d else y)] 37)
        have X2 : ∀ (j : Nat) (u : Value), [Value.int .i64 x, .int .i64 (if d < y then d else y)][j]? = some u → (wr.alloc (.cells #[.int .i64 x, .int .i64 (if d < y then d else y)] 37)).cell? ((⟨wr.heap.size, 0, none⟩ : Addr).add j) = some u := fun j u hj => by rw [Addr.add_lit, Nat.zero_add, World.cell?_alloc_new]; simpa using hj
        have X3 : ∀ u ∈ [Value.int .i64 x, .int .i64 (if d < y then d else y)], u.oneCell' = true := fun u hu => by simp at hu; rcases hu with rfl | rfl <;> rfl
        have X4 : W0.heap.size ≤ (wr.alloc (.cells #[.int .i64 x, .int .i64 (if d < y then d else y)] 37)).heap.size := by have := HA.out.size; simp; omega
        have X5 : m + 1 ≤ maxLen := by unfold maxLen; omega
        replace X1 := Lib.hid X1
        replace X2 := Lib.hid X2
        replace X3 := Lib.hid X3
        replace X4 := Lib.hid X4
        replace X5 := Lib.hid X5
        go_wp2
        go_region_law (refine step_append_lies _ rfl _ _ 22 rfl W0.heap.size 37 i0 (.agg #[.int .i64 0, .int .i64 0]) 2 16 Try.underlying22 hi hz0 hz1 hz2 rfl (by decide) v' m (pairs RR) rfl X1.out ⟨wr.heap.size, 0, none⟩ 1 1 [.int .i64 x, .int .i64 (if d < y then d else y)] rfl rfl X2.out X3.out (by omega) X5.out (by omega) X4.out _ rfl ?_; intro g7 cap7 w7 hown hgrow _ _)
        all_goals
          have A7 : Hid (Below W0.heap.size W0 w7) := (grow HA.out _).drew.grown hgrow (by have := HA.out.size; simp; omega) (own_ge HO.out)
          have O7 : Hid (w7.ownsRow W0.heap.size 37 2 (.slice (some ⟨g7, 0, none⟩) (m + 1) cap7) RR1.length (pairs RR1)) := by show World.ownsRow _ _ _ _ _ _ _; rw [sn.out, pairs_append, List.length_append, hm]; exact hown
          clear hown hgrow HO HA HP sn c0 c1 bl X1 X2 X3 X4 X5
          go_wp2
          go_roundw
          case rel => exact ⟨k1, _, rfl, by omega, by first | rfl | (congr 1; omega) | go_num, by rw [hR1]; exact O7, A7⟩
          case measure => simp [intOf]; omega
      · have kx := decide_eq_false xd
        rw [if_neg xd, List.append_nil] at sn
        go_wp2
        go_roundw
        case rel => exact ⟨k1, _, rfl, by omega, by first | rfl | (congr 1; omega) | go_num, by rw [sn.out]; exact HO, HA⟩
        case measure => simp [intOf]; omega
    · have kz : decide ((k : Int) < (n : Int)) = false := decide_eq_false (by omega)
      obtain rfl : n = k := by omega
      rw [show L.take n = L from List.take_of_length_le (by omega)] at HO
      obtain ⟨o2, c2, e2⟩ := prs_shape (Sl.owns HO.out : PairS _ _ _ _)
      subst e2
      have T1 := T0.out.keep HA.out
      have B1 := Lib.hid (B0.out.trans (HA.out.mono B0.out.size))
      have lt0 := T0.out.t.lt
      have O1 := Lib.hid (Lib.hid (fun u v => own_weak (ownsRow_setCell_below (ownsRow_setCell_below HO.out (a := ⟨w.heap.size, 0, none⟩) lt0 u) (a := ⟨w.heap.size, 1, none⟩) lt0 v) B0.out.size))
      clear HP z kz
      have U1 := Lib.hid (Lib.hid (T1.put (.int .i64 d) (.slice o2 (cuL d L).length c2)))
      obtain ⟨⟨t0, t1, tl⟩, f0, f1⟩ := T1
      go_wp2
      have s0 := U1.out.out.c0
      have s1 := U1.out.out.c1
      have B2 := (B1.out.setCell (p := ⟨w.heap.size, 0, none⟩) (Nat.le_refl _) (.int .i64 d)).setCell (p := ⟨w.heap.size, 1, none⟩) (Nat.le_refl _) (.slice o2 (cuL d L).length c2)
      have O2 := O1.out.out (.int .i64 d) (.slice o2 (cuL d L).length c2)
      clear U1 O1 B1 t0 t1 f0 f1
      generalize (wr.setCell ⟨w.heap.size, 0, none⟩ (.int .i64 d)).setCell ⟨w.heap.size, 1, none⟩ (.slice o2 (cuL d L).length c2) = w9 at *
      refine bodyPost_ret (v := .agg #[.int .i64 d, .slice o2 (cuL d L).length c2]) (by simp [results, Try.results76, go_sem, s0, s1]) rfl ?_
      exact ⟨⟨_, rfl, O2⟩, B2⟩
end Go.Proofs.Ytaikeclfmmnelaa
