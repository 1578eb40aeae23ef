/- Contracts of civiltimeref13: Next, below. -/
import Derived.Test.YtaikeclfmmnelaaQPeD
import Derived.Test.YtaikeclfmmnelaaQGA
namespace Go.Proofs.Ytaikeclfmmnelaa

open Go.RowKit

set_option linter.unusedVariables false

theorem pe_at {P : Int} {L : List Sp} (c : Cn L) (i : InP P L) {k : Nat} (hk : k < L.length) : 0 ≤ (L.getD k (0, 0)).1 ∧ (L.getD k (0, 0)).1 < (L.getD k (0, 0)).2 ∧ (L.getD k (0, 0)).2 ≤ P := by
  have m : L.getD k (0, 0) ∈ L := by rw [List.getD_eq_getElem?_getD, List.getElem?_eq_getElem hk]; exact List.getElem_mem hk
  have := i _ m
  exact ⟨this.1, c.lt _ m, this.2⟩
theorem drop_at3 {L : List Sp} {k : Nat} (h : k < L.length) : L.drop k = L.getD k (0, 0) :: L.drop (k + 1) := by
  rw [List.drop_eq_getElem_cons h, List.getD_eq_getElem?_getD, List.getElem?_eq_getElem h]; rfl
theorem ms_le : ∀ {L : List Sp} {a b : Int}, Cn L → a ≤ b → (∀ q, q ∈ L → a ≤ q.1 ∧ q.2 ≤ b) → msL L ≤ b - a
  | [], a, b, _, h, _ => by show (0 : Int) ≤ _; omega
  | p :: L, a, b, c, h, i => by
    have hp := i p List.mem_cons_self
    have := ms_le (L := L) (a := p.2) (b := b) c.2.2 hp.2 (fun q hq => ⟨by have := c.2.1 q hq; omega, (i q (List.mem_cons_of_mem _ hq)).2⟩)
    show p.2 - p.1 + msL L ≤ _
    omega
theorem qm_bound {x P M : Int} (P0 : 0 < P) (M0 : 0 ≤ M) (M1 : M ≤ P) (P1 : P ≤ 4398046511104) (x0 : -4398046511104 ≤ x) (x1 : x ≤ 4398046511104) : -8796093022208 ≤ x / P * M ∧ x / P * M ≤ 8796093022208 := by
  have e := Int.emod_add_mul_ediv x P
  have m0 := Int.emod_nonneg x (show P ≠ 0 by omega)
  have m1 := Int.emod_lt_of_pos x P0
  rw [Int.mul_comm] at e
  generalize x / P = q at *
  rcases Int.le_total 0 q with h | h
  · have a := Int.mul_nonneg h M0
    have b := Int.mul_le_mul_of_nonneg_left M1 h
    omega
  · have a := Int.mul_nonneg (show 0 ≤ -q by omega) M0
    have b := Int.mul_le_mul_of_nonneg_left M1 (show 0 ≤ -q by omega)
    rw [Int.neg_mul] at a b
    rw [Int.neg_mul] at b
    omega
set_option maxRecDepth 100000 in
set_option maxHeartbeats 1000000 in
theorem rpbelow (v : Value) (P : Int) (L : List Sp) (hn : L.length ≤ 2000) (cn : Cn L) (ip : InP P L) (P0 : 0 < P) (P1 : P ≤ 4398046511104) (x : Int) (x0 : -4398046511104 ≤ x) (x1 : x ≤ 4398046511104) {base : Nat} (w : World) (h : PairS base w v L) :
    Calls Try.prog 73 #[.agg #[.int .i64 P, v], .int .i64 x] w fun e w' => e = .returned (.int .i64 (blV P L x)) ∧ Below w.heap.size w w' := by
  have HM := Lib.hid (fun w => refdiv_all x P (by omega) (by omega) (by omega) (by omega) w)
  rw [dR_pos P0, dQ_pos P0] at HM
  have m0 := Int.emod_nonneg x (show P ≠ 0 by omega)
  have m1 := Int.emod_lt_of_pos x P0
  obtain ⟨b0, b1⟩ := qm_bound P0 (ms_nonneg cn) (by have := ms_le cn (show 0 ≤ P by omega) ip; omega) P1 x0 x1
  have AT := Lib.hid (fun k hk => pe_at cn ip (k := k) hk)
  have DR := Lib.hid (fun k hk => drop_at3 (L := L) (k := k) hk)
  have hv : blV P L x = x / P * msL L + rkL L (x % P) := rfl
  rw [hv]
  clear hv
  generalize x % P = r at *
  generalize x / P = q0 at *
  obtain ⟨o, c, rfl⟩ := prs_shape h
  have T0 := Lib.hid (Two.new (here (w.alloc (.cells #[.int .i64 P, .slice o L.length c] 24))) : Two _ w.heap.size (.int .i64 P) (.slice o L.length c))
  have A0 := Lib.hid (grow (here w) (.cells #[.int .i64 P, .slice o L.length c] 24))
  have HP := Lib.hid (h.keep A0.out)
  obtain ⟨n, hl⟩ : ∃ n, L.length = n := ⟨_, rfl⟩
  rw [hl] at hn AT DR HP T0 A0 ⊢
  clear h cn ip
  generalize hM : msL L = M at *
  generalize hR : rkL L r = R at *
  have R0 : Hid ((0 : Int) + rkL (L.drop 0) r = R) := by show _ = _; rw [List.drop_zero, hR, Int.zero_add]
  have M0 : Hid ((0 : Int) + msL (L.drop 0) = M) := by show _ = _; rw [List.drop_zero, hM, Int.zero_add]
  have end' : Hid (rkL (L.drop n) r = 0 ∧ msL (L.drop n) = 0) := by show _ ∧ _; rw [List.drop_of_length_le (by omega)]; exact ⟨rfl, rfl⟩
  clear hR hM
  have t1 := T0.out.c1
  have t0 := T0.out.c0
  go_enter Try.func73, Try.ntmps73
  go_wp2_with (go_at_call 80; refine (HM.out _).mono ?_; rintro e W ⟨rfl, q, hW⟩; have A1 : Hid (Below w.heap.size w W) := by { rw [hW]; exact below_drewN A0.out q }; have T1 : Hid (Two W w.heap.size (.int .i64 P) (.slice o n c)) := by { rw [hW]; exact Two.drewN T0.out q }; have HQ : Hid (PairS base W (.slice o n c) L) := by { rw [hW]; exact HP.out.keep (below_drewN (here _) q) }; clear hW HP A0 T0 t0 t1 HM)
  go_loopw [8, 9, 10] (fun s1 s2 i wr => ∃ (k : Nat) (e t : Int), k ≤ n ∧ s1 = .int .i64 e ∧ s2 = .int .i64 t ∧ i = .int .i64 k ∧ 0 ≤ e ∧ e ≤ k * 4398046511104 ∧ 0 ≤ t ∧ t ≤ k * 4398046511104 ∧ Hid (t + rkL (L.drop k) r = R) ∧ Hid (e + msL (L.drop k) = M) ∧ Hid (Below w.heap.size w wr) ∧ Hid (Two wr w.heap.size (.int .i64 P) (.slice o n c)) ∧ Hid (PairS base wr (.slice o n c) L)) (fun _ _ i _ => n - (intOf i).toNat)
  case atStart => exact ⟨0, 0, 0, Nat.zero_le _, rfl, rfl, rfl, by omega, by omega, by omega, by omega, R0, M0, A1, T1, HQ⟩
  case round =>
    obtain ⟨k, e, t, hk, rfl, rfl, rfl, e0, e1, u0, u1, HU, HE, HA, TT, HP⟩ := hrel
    clear A1 R0 M0 T1 HQ
    obtain ⟨t0, t1, tl⟩ := TT.out
    by_cases z : k < n
    · have kz : decide ((k : Int) < (n : Int)) = true := decide_eq_true (by omega)
      obtain ⟨b, off, rfl, bl, cs⟩ := prs_here HP.out (show k < L.length by omega)
      obtain ⟨c0, c1⟩ := cs k (by omega)
      obtain ⟨a0, a1, a2⟩ := AT.out k z
      have dr := DR.out k z
      have HU1 : t + (clS (L.getD k (0, 0)) r + rkL (L.drop (k + 1)) r) = R := by
        have := HU.out
        rw [dr] at this
        exact this
      have HE1 : e + ((L.getD k (0, 0)).2 - (L.getD k (0, 0)).1 + msL (L.drop (k + 1))) = M := by
        have := HE.out
        rw [dr] at this
        exact this
      clear cs dr AT DR HU HE end'
      unfold clS at HU1
      generalize L.getD k (0, 0) = p at *
      obtain ⟨y0, y1⟩ := p
      have t3 : (k : Int) ≤ 2000 := by omega
      obtain ⟨ea, hea⟩ : ∃ ea, e + y1 = ea := ⟨_, rfl⟩
      obtain ⟨eb, heb⟩ : ∃ eb, ea - y0 = eb := ⟨_, rfl⟩
      replace a0 : 0 ≤ y0 := a0
      replace a1 : y0 < y1 := a1
      replace a2 : y1 ≤ P := a2
      have HE2 : Hid (eb + msL (L.drop (k + 1)) = M) := by show _ = _; have : e + (y1 - y0 + msL (L.drop (k + 1))) = M := HE1; omega
      clear HE1
      obtain ⟨ea0, ea1⟩ : 0 ≤ ea ∧ ea ≤ ((k + 1 : Nat) : Int) * 4398046511104 := by omega
      obtain ⟨eb0, eb1⟩ : 0 ≤ eb ∧ eb ≤ ((k + 1 : Nat) : Int) * 4398046511104 := by omega
      obtain ⟨ea2, eb2, u2⟩ : ea ≤ 9000000000000000 ∧ eb ≤ 9000000000000000 ∧ t ≤ 9000000000000000 := by omega
      go_wp2
      go_quiet (fail)
      obtain ⟨w5, hw5⟩ : ∃ w5 : World, wr.drewN nq = w5 := ⟨_, rfl⟩
      rw [hw5]
      have A5 := Lib.hid (show Below w.heap.size w w5 by rw [← hw5]; exact below_drewN HA.out _)
      have P5 := Lib.hid (show PairS base w5 (.slice (some ⟨b, off, none⟩) n c) L by rw [← hw5]; exact HP.out.keep (below_drewN (here wr) nq))
      have T5 := Lib.hid (show Two w5 w.heap.size (.int .i64 P) (.slice (some ⟨b, off, none⟩) n c) by rw [← hw5]; exact TT.out.drewN nq)
      have C5 : w5.cell? ⟨b, off + k * 2, none⟩ = some (.int .i64 y0) ∧ w5.cell? ⟨b, off + k * 2 + 1, none⟩ = some (.int .i64 y1) ∧ b < w5.heap.size := by rw [← hw5]; exact ⟨c0, c1, bl⟩
      clear hw5 HA HP TT t0 t1 tl c0 c1 bl
      obtain ⟨c0, c1, bl⟩ := C5
      obtain ⟨t0, t1, tl⟩ := T5.out
      by_cases uu : y1 < r
      · have HU1' : t + (y1 - y0 + rkL (L.drop (k + 1)) r) = R := by rw [if_pos (show y1 ≤ r by omega)] at HU1; exact HU1
        have yy : 0 < y1 - y0 := by omega
        have HU2 : Hid (t + (y1 - y0) + rkL (L.drop (k + 1)) r = R) := by show _ = _; omega
        clear HU1 HU1'
        go_wp2
        go_quiet (fail)
        have A6 := Lib.hid (below_drewN A5.out nq)
        have P6 := Lib.hid (P5.out.keep (below_drewN (here w5) nq))
        have T6 := Lib.hid (T5.out.drewN nq)
        clear A5 P5 T5 t0 t1 c0 c1 bl
        go_wp2
        go_roundw
        case rel => exact ⟨k + 1, eb, t + (y1 - y0), by omega, rfl, by first | rfl | (simp; done) | (simp [yy]; done) | (congr 1; omega), by go_num, eb0, eb1, by omega, by omega, HU2, HE2, A6, T6, P6⟩
        case measure => simp [intOf]; omega
      · by_cases yy : 0 < r - y0
        · have HU1' : t + (r - y0 + rkL (L.drop (k + 1)) r) = R := by
            replace HU1 : t + ((if y1 ≤ r then y1 - y0 else if y0 < r then r - y0 else 0) + rkL (L.drop (k + 1)) r) = R := HU1
            have : (if y1 ≤ r then y1 - y0 else if y0 < r then r - y0 else 0) = r - y0 := by split <;> (try split) <;> omega
            rw [this] at HU1; exact HU1
          have HU2 : Hid (t + (r - y0) + rkL (L.drop (k + 1)) r = R) := by show _ = _; omega
          clear HU1 HU1'
          go_wp2
          go_quiet (fail)
          have A6 := Lib.hid (below_drewN A5.out nq)
          have P6 := Lib.hid (P5.out.keep (below_drewN (here w5) nq))
          have T6 := Lib.hid (T5.out.drewN nq)
          clear A5 P5 T5 t0 t1 c0 c1 bl
          go_wp2
          go_roundw
          case rel => exact ⟨k + 1, eb, t + (r - y0), by omega, rfl, by first | rfl | (simp; done) | (simp [yy]; done) | (congr 1; omega), by go_num, eb0, eb1, by omega, by omega, HU2, HE2, A6, T6, P6⟩
          case measure => simp [intOf]; omega
        · have HU1' : t + (0 + rkL (L.drop (k + 1)) r) = R := by
            replace HU1 : t + ((if y1 ≤ r then y1 - y0 else if y0 < r then r - y0 else 0) + rkL (L.drop (k + 1)) r) = R := HU1
            have : (if y1 ≤ r then y1 - y0 else if y0 < r then r - y0 else 0) = 0 := by split <;> (try split) <;> omega
            rw [this] at HU1; exact HU1
          have HU2 : Hid (t + 0 + rkL (L.drop (k + 1)) r = R) := by show _ = _; omega
          clear HU1 HU1'
          go_wp2
          go_quiet (fail)
          have A6 := Lib.hid (below_drewN A5.out nq)
          have P6 := Lib.hid (P5.out.keep (below_drewN (here w5) nq))
          have T6 := Lib.hid (T5.out.drewN nq)
          clear A5 P5 T5 t0 t1 c0 c1 bl
          go_wp2
          go_roundw
          case rel => exact ⟨k + 1, eb, t + 0, by omega, rfl, by first | rfl | (simp; done) | (simp [yy]; done) | (congr 1; omega), by go_num, eb0, eb1, by omega, by omega, HU2, HE2, A6, T6, P6⟩
          case measure => simp [intOf]; omega
    · have kz : decide ((k : Int) < (n : Int)) = false := decide_eq_false (by omega)
      obtain rfl : k = n := by omega
      obtain rfl : R = t := by have := HU.out; have := end'.out.1; omega
      obtain rfl : M = e := by have := HE.out; have := end'.out.2; omega
      clear HU HP AT DR end' HE
      have t9 : R ≤ 9000000000000000 := by omega
      go_wp2
      go_ret
      exact ⟨rfl, HA.out⟩
end Go.Proofs.Ytaikeclfmmnelaa
