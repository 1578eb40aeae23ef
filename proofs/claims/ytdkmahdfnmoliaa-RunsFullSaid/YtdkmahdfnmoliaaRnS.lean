/- Contracts of civiltimeref12: Same, Measure, Rank, Next, Nth. -/
import Derived.Test.YtdkmahdfnmoliaaRnR
namespace Go.Proofs.Ytdkmahdfnmoliaa
open Go.RowKit
set_option linter.unusedVariables false

theorem drop_at {L : List Sp} {k : Nat} (h : k < L.length) : L.drop k = L.getD k (0, 0) :: L.drop (k + 1) := by
  rw [List.drop_eq_getElem_cons h, List.getD_eq_getElem?_getD, List.getElem?_eq_getElem h]; rfl
theorem va_at {L : List Sp} (h : vaB L = true) {k : Nat} (hk : k < L.length) : -4398046511104 ≤ (L.getD k (0, 0)).1 ∧ (L.getD k (0, 0)).2 ≤ 4398046511104 ∧ (L.getD k (0, 0)).1 < (L.getD k (0, 0)).2 := by
  obtain ⟨-, a, b⟩ := vaB_iff.1 h
  have m : L.getD k (0, 0) ∈ L := by rw [List.getD_eq_getElem?_getD, List.getElem?_eq_getElem hk]; exact List.getElem_mem hk
  exact ⟨(a _ m).1, (a _ m).2, b.lt _ m⟩
theorem va_len {L : List Sp} (h : vaB L = true) : L.length ≤ 2000 := (vaB_iff.1 h).1
set_option maxRecDepth 100000 in
set_option maxHeartbeats 1000000 in
theorem rnsame (v u : Value) (L M : List Sp) (hn : L.length ≤ maxLen) (hm : M.length ≤ maxLen) {base base' : Nat} (w : World) (h : PairS base w v L) (h' : PairS base' w u M) :
    Calls Try.prog 17 #[v, u] w fun e w' => e = .returned (.bool (decide (L = M))) ∧ Below w.heap.size w w' := by
  unfold maxLen at hn hm
  obtain ⟨o, c, rfl⟩ := prs_shape h
  obtain ⟨o', c', rfl⟩ := prs_shape h'
  have HP := Lib.hid h
  have HQ := Lib.hid h'
  clear h h'
  have A0 : Hid (Below w.heap.size w w) := here w
  by_cases ln : L.length = M.length
  · have kl : ((L.length : Int) != (M.length : Int)) = false := by rw [bne_eq_false_iff_eq]; omega
    have yes : Hid ((∀ j, j < L.length → L.getD j (0, 0) = M.getD j (0, 0)) → decide (L = M) = true) := fun q => decide_eq_true (list_eq_of ln q)
    have no : Hid (∀ j, j < L.length → ¬ L.getD j (0, 0) = M.getD j (0, 0) → decide (L = M) = false) := fun j hj q => decide_eq_false (fun e => q (by rw [e]))
    obtain ⟨n, hl⟩ : ∃ n, L.length = n := ⟨_, rfl⟩
    rw [← ln] at HQ kl ⊢
    rw [hl] at hn yes no HP HQ kl ⊢
    have hl2 : M.length = n := by omega
    clear ln hm
    generalize decide (L = M) = R at *
    go_enter Try.func17, Try.ntmps17
    go_wp2
    go_loopw [5] (fun i wr => ∃ k : Nat, k ≤ n ∧ i = .int .i64 k ∧ Hid (∀ j, j < k → L.getD j (0, 0) = M.getD j (0, 0)) ∧ Hid (Below w.heap.size w wr) ∧ Hid (PairS base wr (.slice o n c) L) ∧ Hid (PairS base' wr (.slice o' n c') M)) (fun i _ => n - (intOf i).toNat)
    case atStart => exact ⟨0, Nat.zero_le _, rfl, fun j hj => absurd hj (Nat.not_lt_zero _), A0, HP, HQ⟩
    case round =>
      obtain ⟨k, hk, rfl, HU, HA, P1, P2⟩ := hrel
      clear A0 HP HQ
      by_cases z : k < n
      · have kz : decide ((k : Int) < (n : Int)) = true := decide_eq_true (by omega)
        obtain ⟨b, off, rfl, bl, cs⟩ := prs_here P1.out (show k < L.length by omega)
        obtain ⟨c0, c1⟩ := cs k (by omega)
        obtain ⟨b', off', rfl, bl', cs'⟩ := prs_here P2.out (show k < M.length by omega)
        obtain ⟨d0, d1⟩ := cs' k (by omega)
        have on : L.getD k (0, 0) = M.getD k (0, 0) → Hid (∀ j, j < k + 1 → L.getD j (0, 0) = M.getD j (0, 0)) := fun u j hj => by
          rcases Nat.lt_or_ge j k with y | y
          · exact HU.out j y
          · obtain rfl : j = k := by omega
            exact u
        have off1 := no.out k z
        clear cs cs' HU no yes
        generalize L.getD k (0, 0) = p at *
        generalize M.getD k (0, 0) = q at *
        by_cases u : p.1 = q.1
        · have ku : (p.1 != q.1) = false := by rw [bne_eq_false_iff_eq]; exact u
          by_cases t : p.2 = q.2
          · have kt : (p.2 != q.2) = false := by rw [bne_eq_false_iff_eq]; exact t
            have HU2 := on (Prod.ext u t)
            clear on off1 u t
            go_wp2
            go_quiet (fail)
            have A2 := Lib.hid (below_drewN HA.out nq)
            have P3 := Lib.hid (P1.out.keep (below_drewN (here wr) nq))
            have P4 := Lib.hid (P2.out.keep (below_drewN (here wr) nq))
            clear HA P1 P2 c0 c1 d0 d1 bl bl'
            go_wp2
            go_roundw
            case rel => exact ⟨k + 1, by omega, by go_num, HU2, A2, P3, P4⟩
            case measure => simp [intOf]; omega
          · have kt : (p.2 != q.2) = true := by rw [bne_iff_ne]; exact t
            have r : Hid (R = false) := off1 (fun e => t (by rw [e]))
            clear on off1 u t
            go_wp2
            go_quiet (fail)
            go_wp2
            go_ret
            exact ⟨by rw [r.out]; rfl, below_drewN HA.out _⟩
        · have ku : (p.1 != q.1) = true := by rw [bne_iff_ne]; exact u
          have r : Hid (R = false) := off1 (fun e => u (by rw [e]))
          clear on off1 u
          go_wp2
          go_quiet (fail)
          go_wp2
          go_ret
          exact ⟨by rw [r.out]; rfl, below_drewN HA.out _⟩
      · have kz : decide ((k : Int) < (n : Int)) = false := decide_eq_false (by omega)
        obtain rfl : k = n := by omega
        have r : Hid (R = true) := yes.out (fun j hj => HU.out j (by omega))
        clear yes no HU P1 P2
        go_wp2
        go_ret
        exact ⟨by rw [r.out]; rfl, HA.out⟩
  · have kl : ((L.length : Int) != (M.length : Int)) = true := by rw [bne_iff_ne]; omega
    have r : Hid (decide (L = M) = false) := decide_eq_false (fun e => ln (by rw [e]))
    generalize decide (L = M) = R at *
    clear ln
    go_enter Try.func17, Try.ntmps17
    go_wp2
    go_ret
    exact ⟨by rw [r.out]; rfl, A0.out⟩
set_option maxRecDepth 100000 in
set_option maxHeartbeats 1000000 in
theorem rnmeasure (v : Value) (L : List Sp) (va : vaB L = true) {base : Nat} (w : World) (h : PairS base w v L) :
    Calls Try.prog 38 #[v] w fun e w' => e = .returned (.int .i64 (msL L)) ∧ Below w.heap.size w w' := by
  have hn := va_len va
  obtain ⟨o, c, rfl⟩ := prs_shape h
  have HP := Lib.hid h
  have A0 : Hid (Below w.heap.size w w) := here w
  have AT := Lib.hid (fun k hk => va_at va (k := k) hk)
  have DR := Lib.hid (fun k hk => drop_at (L := L) (k := k) hk)
  obtain ⟨n, hl⟩ : ∃ n, L.length = n := ⟨_, rfl⟩
  rw [hl] at hn AT DR HP ⊢
  generalize hR : msL L = R
  have R0 : Hid ((0 : Int) + msL (L.drop 0) = R) := by show _ = _; rw [List.drop_zero, hR, Int.zero_add]
  have end' : Hid (msL (L.drop n) = 0) := by show _ = _; rw [List.drop_of_length_le (by omega)]; rfl
  clear va h hR
  go_enter Try.func38, Try.ntmps38
  go_wp2
  go_loopw [3, 4] (fun s i wr => ∃ (k : Nat) (t : Int), k ≤ n ∧ s = .int .i64 t ∧ i = .int .i64 k ∧ 0 ≤ t ∧ t ≤ k * 8796093022208 ∧ Hid (t + msL (L.drop k) = R) ∧ Hid (Below w.heap.size w wr) ∧ Hid (PairS base wr (.slice o n c) L)) (fun _ i _ => n - (intOf i).toNat)
  case atStart => exact ⟨0, 0, Nat.zero_le _, rfl, rfl, by omega, by omega, R0, A0, HP⟩
  case round =>
    obtain ⟨k, t, hk, rfl, rfl, t0, t1, HU, HA, HP⟩ := hrel
    clear A0 R0
    by_cases z : k < n
    · skip
      have kz : decide ((k : Int) < (n : Int)) = true := decide_eq_true (by omega)
      obtain ⟨b, off, rfl, bl, cs⟩ := prs_here HP.out (show k < L.length by omega)
      obtain ⟨c0, c1⟩ := cs k (by omega)
      obtain ⟨a0, a1, a2⟩ := AT.out k z
      have dr := DR.out k z
      have HU2 : Hid (t + (L.getD k (0, 0)).2 - (L.getD k (0, 0)).1 + msL (L.drop (k + 1)) = R) := by
        have := HU.out
        rw [dr] at this
        show _ = _
        have e : msL (L.getD k (0, 0) :: L.drop (k + 1)) = ((L.getD k (0, 0)).2 - (L.getD k (0, 0)).1) + msL (L.drop (k + 1)) := rfl
        omega
      clear cs dr AT DR HU end'
      generalize L.getD k (0, 0) = p at *
      have t3 : (k : Int) ≤ 2000 := by omega
      obtain ⟨s, hs⟩ : ∃ s, t + p.2 = s := ⟨_, rfl⟩
      obtain ⟨r, hr⟩ : ∃ r, s - p.1 = r := ⟨_, rfl⟩
      have s0 : -4398046511104 ≤ s ∧ s ≤ 17596583045332992 := by omega
      obtain ⟨s0, s1⟩ := s0
      have r0 : 0 ≤ r ∧ r ≤ ((k + 1 : Nat) : Int) * 8796093022208 := by omega
      obtain ⟨r0, r1⟩ := r0
      have r2 : r ≤ 17592186044416000 := by omega
      rw [hs, hr] at HU2
      go_wp2
      go_quiet (fail)
      have A2 := Lib.hid (below_drewN HA.out nq)
      have P2 := Lib.hid (HP.out.keep (below_drewN (here wr) nq))
      clear HA HP c0 c1 bl
      go_wp2
      go_roundw
      case rel => exact ⟨k + 1, r, by omega, rfl, by go_num, r0, r1, HU2, A2, P2⟩
      case measure => simp [intOf]; omega
    · have kz : decide ((k : Int) < (n : Int)) = false := decide_eq_false (by omega)
      obtain rfl : k = n := by omega
      have r : Hid (t = R) := by have := HU.out; have := end'.out; show _ = _; omega
      clear HU HP AT DR end'
      go_wp2
      go_ret
      exact ⟨by rw [r.out]; rfl, HA.out⟩
set_option maxRecDepth 100000 in
set_option maxHeartbeats 1000000 in
theorem rnrank (v : Value) (L : List Sp) (va : vaB L = true) (x : Int) {base : Nat} (w : World) (h : PairS base w v L) :
    Calls Try.prog 39 #[v, .int .i64 x] w fun e w' => e = .returned (.int .i64 (rkL L x)) ∧ Below w.heap.size w w' := by
  have hn := va_len va
  obtain ⟨o, c, rfl⟩ := prs_shape h
  have HP := Lib.hid h
  have A0 : Hid (Below w.heap.size w w) := here w
  have AT := Lib.hid (fun k hk => va_at va (k := k) hk)
  have DR := Lib.hid (fun k hk => drop_at (L := L) (k := k) hk)
  obtain ⟨n, hl⟩ : ∃ n, L.length = n := ⟨_, rfl⟩
  rw [hl] at hn AT DR HP ⊢
  generalize hR : rkL L x = R
  have R0 : Hid ((0 : Int) + rkL (L.drop 0) x = R) := by show _ = _; rw [List.drop_zero, hR, Int.zero_add]
  have end' : Hid (rkL (L.drop n) x = 0) := by show _ = _; rw [List.drop_of_length_le (by omega)]; rfl
  clear va h hR
  go_enter Try.func39, Try.ntmps39
  go_wp2
  go_loopw [5, 6] (fun s i wr => ∃ (k : Nat) (t : Int), k ≤ n ∧ s = .int .i64 t ∧ i = .int .i64 k ∧ 0 ≤ t ∧ t ≤ k * 8796093022208 ∧ Hid (t + rkL (L.drop k) x = R) ∧ Hid (Below w.heap.size w wr) ∧ Hid (PairS base wr (.slice o n c) L)) (fun _ i _ => n - (intOf i).toNat)
  case atStart => exact ⟨0, 0, Nat.zero_le _, rfl, rfl, by omega, by omega, R0, A0, HP⟩
  case round =>
    obtain ⟨k, t, hk, rfl, rfl, t0, t1, HU, HA, HP⟩ := hrel
    clear A0 R0
    by_cases z : k < n
    · skip
      have kz : decide ((k : Int) < (n : Int)) = true := decide_eq_true (by omega)
      obtain ⟨b, off, rfl, bl, cs⟩ := prs_here HP.out (show k < L.length by omega)
      obtain ⟨c0, c1⟩ := cs k (by omega)
      obtain ⟨a0, a1, a2⟩ := AT.out k z
      have dr := DR.out k z
      have HU1 : t + (clS (L.getD k (0, 0)) x + rkL (L.drop (k + 1)) x) = R := by
        have := HU.out
        rw [dr] at this
        exact this
      clear cs dr AT DR HU end'
      unfold clS at HU1
      generalize L.getD k (0, 0) = p at *
      have t3 : (k : Int) ≤ 2000 := by omega
      by_cases u : p.2 ≤ x
      · have ku := decide_eq_true u
        rw [if_pos u] at HU1
        obtain ⟨s, hs⟩ : ∃ s, t + p.2 = s := ⟨_, rfl⟩
        obtain ⟨r, hr⟩ : ∃ r, s - p.1 = r := ⟨_, rfl⟩
        have HU2 : Hid (r + rkL (L.drop (k + 1)) x = R) := by show _ = _; omega
        clear HU1 u
        have s0 : -4398046511104 ≤ s ∧ s ≤ 17596583045332992 := by omega
        obtain ⟨s0, s1⟩ := s0
        have r0 : 0 ≤ r ∧ r ≤ ((k + 1 : Nat) : Int) * 8796093022208 := by omega
        obtain ⟨r0, r1⟩ := r0
        have r2 : r ≤ 17592186044416000 := by omega
        go_wp2
        go_quiet (fail)
        have A2 := Lib.hid (below_drewN HA.out nq)
        have P2 := Lib.hid (HP.out.keep (below_drewN (here wr) nq))
        clear HA HP c0 c1 bl
        go_wp2
        go_roundw
        case rel => exact ⟨k + 1, r, by omega, rfl, by go_num, r0, r1, HU2, A2, P2⟩
        case measure => simp [intOf]; omega
      · have ku := decide_eq_false u
        rw [if_neg u] at HU1
        by_cases y : p.1 < x
        · have ky := decide_eq_true y
          rw [if_pos y] at HU1
          obtain ⟨s, hs⟩ : ∃ s, t + x = s := ⟨_, rfl⟩
          obtain ⟨r, hr⟩ : ∃ r, s - p.1 = r := ⟨_, rfl⟩
          have HU2 : Hid (r + rkL (L.drop (k + 1)) x = R) := by show _ = _; omega
          have s0 : -4398046511104 ≤ s ∧ s ≤ 17596583045332992 := by omega
          obtain ⟨s0, s1⟩ := s0
          have r0 : 0 ≤ r ∧ r ≤ ((k + 1 : Nat) : Int) * 8796093022208 := by omega
          obtain ⟨r0, r1⟩ := r0
          have r2 : r ≤ 17592186044416000 := by omega
          clear HU1
          go_wp2
          go_roundw
          case rel => exact ⟨k + 1, r, by omega, rfl, by go_num, r0, r1, HU2, HA, HP⟩
          case measure => simp [intOf]; omega
        · have ky := decide_eq_false y
          rw [if_neg y, Int.zero_add] at HU1
          have HU2 : Hid (t + rkL (L.drop (k + 1)) x = R) := HU1
          have t2 : t ≤ ((k + 1 : Nat) : Int) * 8796093022208 := by omega
          clear HU1
          go_wp2
          go_roundw
          case rel => exact ⟨k + 1, t, by omega, rfl, by go_num, t0, t2, HU2, HA, HP⟩
          case measure => simp [intOf]; omega
    · have kz : decide ((k : Int) < (n : Int)) = false := decide_eq_false (by omega)
      obtain rfl : k = n := by omega
      have r : Hid (t = R) := by have := HU.out; have := end'.out; show _ = _; omega
      clear HU HP AT DR end'
      go_wp2
      go_ret
      exact ⟨by rw [r.out]; rfl, HA.out⟩
set_option maxRecDepth 100000 in
set_option maxHeartbeats 1000000 in
theorem rnnext (v : Value) (L : List Sp) (va : vaB L = true) (x : Int) {base : Nat} (w : World) (h : PairS base w v L) :
    Calls Try.prog 36 #[v, .int .i64 x] w fun e w' => e = .returned (.tuple #[.int .i64 (nextL L x).1, .bool (nextL L x).2]) ∧ w = w' := by
  have hn := va_len va
  obtain ⟨o, c, rfl⟩ := prs_shape h
  have HP := Lib.hid h
  have A0 : Hid (Below w.heap.size w w) := here w
  have AT := Lib.hid (fun k hk => va_at va (k := k) hk)
  have DR := Lib.hid (fun k hk => drop_at (L := L) (k := k) hk)
  obtain ⟨n, hl⟩ : ∃ n, L.length = n := ⟨_, rfl⟩
  rw [hl] at hn AT DR HP ⊢
  generalize hR : nextL L x = R
  have R0 : Hid (nextL (L.drop 0) x = R) := by show _ = _; rw [List.drop_zero, hR]
  have end' : Hid (nextL (L.drop n) x = (0, false)) := by show _ = _; rw [List.drop_of_length_le (by omega)]; rfl
  clear va h hR A0
  go_enter Try.func36, Try.ntmps36
  go_wp2
  go_loopw [6] (fun i wr => ∃ k : Nat, k ≤ n ∧ i = .int .i64 k ∧ wr = w ∧ Hid (nextL (L.drop k) x = R)) (fun i _ => n - (intOf i).toNat)
  case atStart => exact ⟨0, Nat.zero_le _, rfl, rfl, R0⟩
  case round =>
    obtain ⟨k, hk, rfl, rfl, HU⟩ := hrel
    clear R0
    by_cases z : k < n
    · skip
      have kz : decide ((k : Int) < (n : Int)) = true := decide_eq_true (by omega)
      obtain ⟨b, off, rfl, bl, cs⟩ := prs_here HP.out (show k < L.length by omega)
      obtain ⟨c0, c1⟩ := cs k (by omega)
      obtain ⟨a0, a1, a2⟩ := AT.out k z
      have dr := DR.out k z
      have HU1 : (if x < (L.getD k (0, 0)).2 then (if x < (L.getD k (0, 0)).1 then ((L.getD k (0, 0)).1, true) else (x, true)) else nextL (L.drop (k + 1)) x) = R := by
        have := HU.out
        rw [dr] at this
        exact this
      clear cs dr AT DR HU end'
      generalize L.getD k (0, 0) = p at *
      by_cases u : x < p.2
      · have ku := decide_eq_true u
        rw [if_pos u] at HU1
        by_cases y : x < p.1
        · have ky := decide_eq_true y
          rw [if_pos y] at HU1
          subst HU1
          go_wp2
          go_ret2
          exact ⟨rfl, rfl⟩
        · have ky := decide_eq_false y
          rw [if_neg y] at HU1
          subst HU1
          go_wp2
          go_ret2
          exact ⟨rfl, rfl⟩
      · have ku := decide_eq_false u
        rw [if_neg u] at HU1
        have HU2 : Hid (nextL (L.drop (k + 1)) x = R) := HU1
        clear HU1
        go_wp2
        go_roundw
        case rel => exact ⟨k + 1, by omega, by go_num, by first | rfl | trivial, HU2⟩
        case measure => simp [intOf]; omega
    · have kz : decide ((k : Int) < (n : Int)) = false := decide_eq_false (by omega)
      obtain rfl : k = n := by omega
      have r : Hid (R = (0, false)) := HU.out.symm.trans end'.out
      clear HU HP AT DR end'
      go_wp2
      go_ret2
      exact ⟨by rw [r.out]; rfl, rfl⟩
set_option maxRecDepth 100000 in
set_option maxHeartbeats 1000000 in
theorem rnnth (v : Value) (L : List Sp) (hn' : L.length ≤ maxLen) (m : Int) (hm : I64 m) {base : Nat} (w : World) (h : PairS base w v L) :
    Calls Try.prog 32 #[v, .int .i64 m] w fun e w' => e = .returned (if vaB L then (if decide (m < 0) || decide (msL L ≤ m) then .tuple #[.int .i64 0, .int .i64 2] else .tuple #[.int .i64 (nthL L m), .int .i64 0]) else .tuple #[.int .i64 0, .int .i64 1]) ∧ Below w.heap.size w w' := by
  have HV := Lib.hid (fun w (h : PairS base w v L) => rnvalid v L hn' w h)
  cases va : vaB L
  · rw [if_neg (by simp)]
    rw [va] at HV
    replace h := Lib.hid h
    clear va
    go_enter Try.func32, Try.ntmps32
    go_wp2_with fail
    refine (HV.out _ h.out).mono ?_
    rintro e w1 ⟨rfl, hb⟩
    replace hb := Lib.hid hb
    go_wp2
    go_ret2
    exact ⟨rfl, hb.out⟩
  rw [if_pos rfl]
  rw [va] at HV
  have HM := Lib.hid (fun w (h : PairS base w v L) => rnmeasure v L va w h)
  have ms := ms_nonneg (vaB_iff.1 va).2.2
  have hn := va_len va
  obtain ⟨o, c, rfl⟩ := prs_shape h
  have HP := Lib.hid h
  have A0 : Hid (Below w.heap.size w w) := here w
  have AT := Lib.hid (fun k hk => va_at va (k := k) hk)
  have DR := Lib.hid (fun k hk => drop_at (L := L) (k := k) hk)
  obtain ⟨n, hl⟩ : ∃ n, L.length = n := ⟨_, rfl⟩
  rw [hl] at hn AT DR HP ⊢
  have NT : Hid (nthL (L.drop 0) m = nthL L m) := by show _ = _; rw [List.drop_zero]
  have MS : Hid (msL (L.drop 0) = msL L) := by show _ = _; rw [List.drop_zero]
  have end' : Hid (msL (L.drop n) = 0) := by show _ = _; rw [List.drop_of_length_le (by omega)]; rfl
  rw [hl] at HV HM
  generalize nthL L m = R at *
  generalize msL L = Q at *
  clear va h hn'
  by_cases m0 : m < 0
  · have k0 := decide_eq_true m0
    rw [k0, Bool.true_or, if_pos rfl]
    clear NT MS end' AT DR HM
    go_enter Try.func32, Try.ntmps32
    go_wp2_with fail
    refine (HV.out _ HP.out).mono ?_
    rintro e w1 ⟨rfl, hb⟩
    replace hb := Lib.hid hb
    go_wp2
    go_ret2
    exact ⟨rfl, hb.out⟩
  have k0 := decide_eq_false m0
  rw [k0, Bool.false_or]
  by_cases m1 : Q ≤ m
  · have k1 := decide_eq_true m1
    rw [k1, if_pos rfl]
    clear NT MS end' AT DR
    go_enter Try.func32, Try.ntmps32
    go_wp2_with fail
    refine (HV.out _ HP.out).mono ?_
    rintro e w1 ⟨rfl, hb⟩
    have P1 := Lib.hid (HP.out.keep hb)
    have A1 := Lib.hid (down A0.out hb)
    clear hb HP A0
    go_wp2_with fail
    refine (HM.out _ P1.out).mono ?_
    rintro e w2 ⟨rfl, hb⟩
    have A2 := Lib.hid (down A1.out hb)
    clear hb P1 A1
    go_wp2
    go_ret2
    exact ⟨rfl, A2.out⟩
  have k1 := decide_eq_false m1
  rw [k1, if_neg (by simp)]
  have MS0 : Hid (0 ≤ m ∧ m < msL (L.drop 0)) := by show _ ∧ _; rw [MS.out]; omega
  clear MS
  go_enter Try.func32, Try.ntmps32
  go_wp2_with fail
  refine (HV.out _ HP.out).mono ?_
  rintro e w1 ⟨rfl, hb⟩
  have P1 := Lib.hid (HP.out.keep hb)
  have A1 := Lib.hid (down A0.out hb)
  clear hb HP A0
  go_wp2_with fail
  refine (HM.out _ P1.out).mono ?_
  rintro e w2 ⟨rfl, hb⟩
  have P2 := Lib.hid (P1.out.keep hb)
  have A2 := Lib.hid (down A1.out hb)
  clear hb P1 A1 HV HM ms
  obtain ⟨-, mb⟩ := hm
  go_wp2
  clear k0 k1 m0 m1
  have mm : m ≤ m := Int.le_refl _
  go_loopw [1, 6] (fun s i wr => ∃ (k : Nat) (t : Int), k ≤ n ∧ s = .int .i64 t ∧ i = .int .i64 k ∧ t ≤ m ∧ Hid (0 ≤ t ∧ t < msL (L.drop k)) ∧ Hid (nthL (L.drop k) t = R) ∧ Hid (Below w.heap.size w wr) ∧ Hid (PairS base wr (.slice o n c) L)) (fun _ i _ => n - (intOf i).toNat)
  case atStart => exact ⟨0, m, Nat.zero_le _, rfl, rfl, mm, MS0, NT, A2, P2⟩
  case round =>
    obtain ⟨k, t, hk, rfl, rfl, tm, HB, HU, HA, HP⟩ := hrel
    clear A2 P2 NT MS0 mm
    have z : k < n := by
      rcases Nat.lt_or_ge k n with y | y
      · exact y
      · obtain rfl : k = n := by omega
        have := HB.out; have := end'.out; omega
    obtain ⟨b, off, rfl, bl, cs⟩ := prs_here HP.out (show k < L.length by omega)
    obtain ⟨c0, c1⟩ := cs k (by omega)
    obtain ⟨a0, a1, a2⟩ := AT.out k z
    have dr := DR.out k z
    obtain ⟨t0, t1⟩ := HB.out
    have HU1 : (if (L.getD k (0, 0)).2 - (L.getD k (0, 0)).1 ≤ t then nthL (L.drop (k + 1)) (t - ((L.getD k (0, 0)).2 - (L.getD k (0, 0)).1)) else (L.getD k (0, 0)).1 + t) = R := by
      have := HU.out
      rw [dr] at this
      exact this
    have HB1 : t < ((L.getD k (0, 0)).2 - (L.getD k (0, 0)).1) + msL (L.drop (k + 1)) := by
      rw [dr] at t1
      exact t1
    clear cs dr AT DR HU HB end' t1
    generalize L.getD k (0, 0) = p at *
    obtain ⟨s, hs⟩ : ∃ s, p.2 - p.1 = s := ⟨_, rfl⟩
    rw [hs] at HU1 HB1
    have s0 : 0 < s ∧ s ≤ 8796093022208 := by omega
    obtain ⟨s0, s1⟩ := s0
    by_cases u : s ≤ t
    · have ku := decide_eq_true u
      rw [if_pos u] at HU1
      obtain ⟨r, hr⟩ : ∃ r, t - s = r := ⟨_, rfl⟩
      rw [hr] at HU1
      have HB2 : Hid (0 ≤ r ∧ r < msL (L.drop (k + 1))) := by show _ ∧ _; omega
      have HU2 : Hid (nthL (L.drop (k + 1)) r = R) := HU1
      have rm : r ≤ m := by omega
      have cc0 := c0
      have cc1 := c1
      clear HU1 HB1 u
      go_wp2
      go_quiet (fail)
      have A2 := Lib.hid (below_drewN HA.out nq)
      have P2 := Lib.hid (HP.out.keep (below_drewN (here wr) nq))
      obtain ⟨w3, hw3⟩ : ∃ w3 : World, wr.drewN nq = w3 := ⟨_, rfl⟩
      rw [hw3] at A2 P2 ⊢
      have d0 : w3.cell? ⟨b, off + k * 2, none⟩ = some (.int .i64 p.1) := by rw [← hw3]; exact cc0
      have d1 : w3.cell? ⟨b, off + k * 2 + 1, none⟩ = some (.int .i64 p.2) := by rw [← hw3]; exact cc1
      clear hw3 cc0 cc1 c0 c1 bl HA HP ku
      go_wp2
      go_quiet (fail)
      have A3 := Lib.hid (below_drewN A2.out nq)
      have P3 := Lib.hid (P2.out.keep (below_drewN (here w3) nq))
      clear A2 P2 d0 d1
      go_wp2
      go_roundw
      case rel => exact ⟨k + 1, r, by omega, rfl, by go_num, rm, HB2, HU2, A3, P3⟩
      case measure => simp [intOf]; omega
    · have ku := decide_eq_false u
      rw [if_neg u] at HU1
      obtain ⟨r, hr⟩ : ∃ r, p.1 + t = r := ⟨_, rfl⟩
      rw [hr] at HU1
      have r0 : -4398046511104 ≤ r ∧ r ≤ 4398046511104 := by omega
      obtain ⟨r0, r1⟩ := r0
      subst HU1
      have cc0 := c0
      clear HB1 u
      go_wp2
      go_quiet (fail)
      have A2 := Lib.hid (below_drewN HA.out nq)
      obtain ⟨w3, hw3⟩ : ∃ w3 : World, wr.drewN nq = w3 := ⟨_, rfl⟩
      rw [hw3] at A2 ⊢
      have d0 : w3.cell? ⟨b, off + k * 2, none⟩ = some (.int .i64 p.1) := by rw [← hw3]; exact cc0
      clear hw3 cc0 c0 c1 bl HA HP ku
      go_wp2
      go_ret2
      exact ⟨rfl, A2.out⟩
end Go.Proofs.Ytdkmahdfnmoliaa
