/- Contracts of package periodic: Valid. -/
import Derived.Test.YtaikeclfmmnelaaQPeKD
namespace Go.Proofs.Ytaikeclfmmnelaa

open Go.RowKit

set_option linter.unusedVariables false

def ipB (P : Int) (L : List Sp) : Bool := L.all fun q => decide (0 ≤ q.1) && decide (q.2 ≤ P)
theorem ip_iff {P : Int} {L : List Sp} : ipB P L = true ↔ InP P L := by
  unfold ipB InP
  simp [List.all_eq_true]
/-- A set is valid. -/
noncomputable def pvB (P : Int) (L : List Sp) : Bool := decide (1 ≤ P) && decide (P ≤ 12622780800) && vaB L && ipB P L && decide (leF P (hsP P L) = P)
structure PV (P : Int) (L : List Sp) : Prop where
  p0 : 1 ≤ P
  p1 : P ≤ 12622780800
  va : vaB L = true
  ip : InP P L
  ls : Lst (hsP P L) P P
theorem pv_iff {P : Int} {L : List Sp} : pvB P L = true ↔ PV P L := by
  unfold pvB
  simp only [Bool.and_eq_true, decide_eq_true_eq, ip_iff]
  constructor
  · rintro ⟨⟨⟨⟨a, b⟩, c⟩, d⟩, e⟩
    refine ⟨a, b, c, d, ?_⟩
    have := le_lst (f := hsP P L) (show 0 < P by omega) hs_per
    rwa [e] at this
  · rintro ⟨a, b, c, d, e⟩
    exact ⟨⟨⟨⟨a, b⟩, c⟩, d⟩, le_eq e⟩
theorem PV.len {P : Int} {L : List Sp} (h : PV P L) : L.length ≤ 2000 := (vaB_iff.1 h.va).1
theorem PV.ln {P : Int} {L : List Sp} (h : PV P L) : Ln L := (vaB_iff.1 h.va).2.1
theorem PV.cn {P : Int} {L : List Sp} (h : PV P L) : Cn L := (vaB_iff.1 h.va).2.2
theorem PV.fm {P : Int} {L : List Sp} (h : PV P L) : fmP P (hsP P L) = (P, L) := fm_self h.cn h.ip h.ls
/-- The first and the last span decide whether all lie in the period. -/
theorem ip_ends {P : Int} {L : List Sp} (c : Cn L) (n : 0 < L.length) : InP P L ↔ 0 ≤ (L.getD 0 (0, 0)).1 ∧ (L.getD (L.length - 1) (0, 0)).2 ≤ P := by
  constructor
  · intro h
    exact ⟨(h _ (getD_mem n)).1, (h _ (getD_mem (by omega))).2⟩
  · rintro ⟨a, b⟩ q hq
    obtain ⟨j, hj, rfl⟩ := mem_getD hq
    have l0 := cn_lo c (Nat.zero_le j) hj
    have l1 := cn_lo c (show j ≤ L.length - 1 by omega) (by omega)
    omega
set_option maxRecDepth 100000 in
set_option maxHeartbeats 3000000 in
theorem upvalid (va : Value) (P : Int) (L : List Sp) (hL : L.length ≤ maxLen) (hP : I64 P) {ba : Nat} (w : World) (h : PairS ba w va L) :
    Calls Try.prog 15 #[.agg #[.int .i64 P, va]] w fun e w' => e = .returned (.bool (pvB P L)) ∧ Below w.heap.size w w' := by
  have mx : L.length ≤ 9223372036854775807 := by unfold maxLen at hL; omega
  have T1 := Two.new (here (w.alloc (.cells #[.int .i64 P, va] 24)))
  have A1 := Lib.hid (grow (here w) (.cells #[.int .i64 P, va] 24))
  have HP := Lib.hid (h.keep A1.out)
  have HI := Lib.hid (fun W => upisper P W)
  have HV := Lib.hid (ruvalid va L hL _ HP.out)
  replace T1 := Lib.hid T1
  obtain ⟨o, c, rfl⟩ := prs_shape h
  have t0 := T1.out.c0
  have t1 := T1.out.c1
  have tl := T1.out.lt
  have bad : (decide (1 ≤ P) && decide (P ≤ 12622780800)) = false ∨ vaB L = false ∨ ipB P L = false → Hid (pvB P L = false) := fun x => by
    show _ = _
    unfold pvB
    rcases x with x | x | x
    · rw [x]; rfl
    · rw [x]; simp
    · rw [x]; simp
  clear h
  cases i : (decide (1 ≤ P) && decide (P ≤ 12622780800))
  · have r := bad (.inl i)
    rw [i] at HI
    clear HV bad i hP
    go_enter Try.func15, Try.ntmps15
    go_wp2_with fail
    refine (HI.out _).mono ?_
    rintro e w2 ⟨rfl, rfl⟩
    go_wp2
    go_ret
    exact ⟨by rw [r.out]; rfl, A1.out⟩
  · rw [i] at HI
    rw [Bool.and_eq_true, decide_eq_true_iff, decide_eq_true_iff] at i
    obtain ⟨P0', P1⟩ := i
    have P0 : 0 < P := by omega
    cases u : vaB L
    · have r := bad (.inr (.inl u))
      rw [u] at HV
      clear bad u hP
      go_enter Try.func15, Try.ntmps15
      go_wp2_with fail
      refine (HI.out _).mono ?_
      rintro e w2 ⟨rfl, rfl⟩
      go_wp2_with fail
      refine HV.out.mono ?_
      rintro e w3 ⟨rfl, hb⟩
      have A3 := Lib.hid (down A1.out hb)
      clear hb A1 HP HI HV
      go_wp2
      go_ret
      exact ⟨by rw [r.out]; rfl, A3.out⟩
    · rw [u] at HV
      obtain ⟨ln, -, cn⟩ := vaB_iff.1 u
      have cc := Lib.hid cn
      obtain ⟨n, hl⟩ : ∃ n, L.length = n := ⟨_, rfl⟩
      have YES : InP P L → Hid (pvB P L = decide (leF P (hsP P L) = P)) := fun x => by
        show _ = _
        unfold pvB
        rw [u, ip_iff.2 x, decide_eq_true P0', decide_eq_true P1]; simp
      have CIf : InP P L → Hid (Cir P (hsP P L) L) := fun x => cir_in P0 cn x
      have IE := fun x => @ip_ends P L cn x
      have VA := fun k (hk : k < L.length) => va_at u hk
      rw [hl] at HV HP ln IE VA A1 T1 t0 t1 tl ⊢
      go_enter Try.func15, Try.ntmps15
      go_wp2_with fail
      refine (HI.out _).mono ?_
      rintro e w2 ⟨rfl, rfl⟩
      go_wp2_with fail
      refine HV.out.mono ?_
      rintro e w2 ⟨rfl, hb⟩
      have A2 := Lib.hid (down A1.out hb)
      have T2 := Lib.hid (T1.out.keep hb)
      replace HP := Lib.hid (HP.out.keep hb)
      clear hb A1 HI HV T1 u cn
      have t0 := T2.out.c0
      have t1 := T2.out.c1
      have tl := T2.out.lt
      rcases Nat.eq_zero_or_pos n with z | z
      · have e0 : L = [] := List.eq_nil_of_length_eq_zero (by omega)
        have kz : decide (0 < (n : Int)) = false := decide_eq_false (by omega)
        have kz2 : decide (0 < n) = false := decide_eq_false (by omega)
        replace hl := Lib.hid hl
        replace z := Lib.hid z
        have ipx : InP P L := by rw [e0]; intro q hq; cases hq
        have CI := CIf ipx
        have r := YES ipx
        clear CIf YES IE VA bad e0 ipx
        go_wp2
        go_quiet (fail)
        replace A2 := Lib.hid (below_drewN A2.out nq)
        replace HP := Lib.hid (HP.out.keep (below_drewN (here w2) nq))
        replace T2 := Lib.hid (T2.out.keep (below_drewN (here w2) nq))
        clear t0 t1 tl
        generalize w2.drewN nq = w2 at *
        have t0 := T2.out.c0
        have t1 := T2.out.c1
        have tl := T2.out.lt
        have HC : Hid (∀ W, PairS ba W (.slice o n c) L → Calls Try.prog 48 #[.int .i64 P, .slice o n c] W fun e w' => (∃ Q v' M, e = .returned (.tuple #[.int .i64 Q, v']) ∧ OwnS W.heap.size w' v' M ∧ CrV P (hsP P L) Q M ∧ M.length ≤ n + 1) ∧ Below W.heap.size W w') := fun W h => (upcircle _ P L _ CI.out (by rw [hl.out]; omega) P1 W h).mono (by rintro e w ⟨⟨Q, v, M, a, b, c, d⟩, hb⟩; exact ⟨⟨Q, v, M, a, b, c, by rw [hl.out] at d; exact d⟩, hb⟩)
        have HL : Hid (∀ Q (M : List Sp) v, CrV P (hsP P L) Q M → M.length ≤ 100000 → ∀ B W, OwnS B W v M → Calls Try.prog 47 #[.int .i64 Q, v] W fun e w' => e = .returned (.int .i64 (leF P (hsP P L))) ∧ Below W.heap.size W w') := fun Q M v C ml B W h => upleast v P Q M _ C (by omega) (CrV.same C P0) (by rcases C.len with ⟨a, -⟩ | ⟨a, -⟩ <;> omega) W h
        generalize leF P (hsP P L) = D at *
        go_wp2
        go_region_with (first | (go_at_call 48; (with_reducible refine (HC.out _ (by first | exact HP.out.keep (Below.drew (here _)) | exact HP.out)).mono ?_); rintro e w5 ⟨⟨Q, v5, M, rfl, O5, C5, m5⟩, hb⟩; have hB := Lib.hid (down (Below.drew (here w2)) hb); have hT := (T2.out.keep hB.out).c0; replace O5 := Lib.hid O5; replace C5 := Lib.hid C5; clear hb) | (go_at_call 47; (with_reducible refine (HL.out _ M _ C5.out (by omega) _ _ O5.out).mono ?_); rintro e w6 ⟨rfl, hb⟩; have hB6 := Lib.hid (down hB.out hb); have hT6 := (T2.out.keep hB6.out).c0; clear hb))
        all_goals go_wp2
        all_goals go_ret
        all_goals exact ⟨by rw [r.out]; rfl, down A2.out hB6.out⟩
      · have kz : decide (0 < (n : Int)) = true := decide_eq_true (by omega)
        have kz2 : decide (0 < n) = true := decide_eq_true z
        obtain ⟨K, hK⟩ : ∃ K, n - 1 = K := ⟨_, rfl⟩
        have k1 : (n : Int) - 1 = K := by omega
        have k2 : decide (0 ≤ (K : Int)) = true := decide_eq_true (by omega)
        have k3 : decide (0 ≤ K) = true := decide_eq_true (by omega)
        have km : (K : Int) < (n : Int) := by omega
        have km' : K < n := by omega
        have zi : (0 : Int) < (n : Int) := by omega
        obtain ⟨b, off, rfl, bl, cs⟩ := prs_here HP.out (show 0 < L.length by omega)
        obtain ⟨c0, -⟩ := cs 0 (by omega)
        obtain ⟨-, d1⟩ := cs K (by omega)
        rw [Nat.zero_mul, Nat.add_zero] at c0
        have IE := IE z
        rw [hK] at IE
        have v0 := VA 0 z
        have v1 := VA K km'
        obtain ⟨x, hx⟩ : ∃ x, (L.getD 0 (0, 0)).1 = x := ⟨_, rfl⟩
        obtain ⟨y, hy⟩ : ∃ y, (L.getD K (0, 0)).2 = y := ⟨_, rfl⟩
        rw [hx] at c0 IE
        rw [hy] at d1 IE
        replace hl := Lib.hid hl
        clear cs hx hy VA hK
        by_cases e0 : x < 0
        · have ke : decide (x < 0) = true := decide_eq_true e0
          have r := bad (.inr (.inr (by rw [← Bool.not_eq_true, ip_iff]; intro q; have := (IE.1 q).1; omega)))
          clear IE bad YES CIf e0
          go_wp2
          go_quiet (fail)
          go_wp2
          go_ret
          exact ⟨by rw [r.out]; rfl, below_drewN A2.out nq⟩
        · have ke : decide (x < 0) = false := decide_eq_false e0
          by_cases e1 : P < y
          · have kf : decide (P < y) = true := decide_eq_true e1
            have r := bad (.inr (.inr (by rw [← Bool.not_eq_true, ip_iff]; intro q; have := (IE.1 q).2; omega)))
            clear IE bad YES CIf e0 e1
            go_wp2
            go_quiet (fail)
            go_wp2
            go_ret
            exact ⟨by rw [r.out]; rfl, below_drewN A2.out nq⟩
          · have kf : decide (P < y) = false := decide_eq_false e1
            have ipx : InP P L := IE.2 ⟨by omega, by omega⟩
            have CI := CIf ipx
            have r := YES ipx
            clear CIf YES IE bad ipx e0 e1
            go_wp2
            go_quiet (fail)
            clear c0 d1 ke kf bl v0 v1 k1 k2 k3 km km' zi kz kz2
            obtain ⟨o, ho⟩ : ∃ o, some (⟨b, off, none⟩ : Addr) = o := ⟨_, rfl⟩
            rw [ho] at HP T2 ⊢
            clear ho
            replace A2 := Lib.hid (below_drewN A2.out nq)
            replace HP := Lib.hid (HP.out.keep (below_drewN (here w2) nq))
            replace T2 := Lib.hid (T2.out.keep (below_drewN (here w2) nq))
            clear t0 t1 tl
            generalize w2.drewN nq = w2 at *
            have t0 := T2.out.c0
            have t1 := T2.out.c1
            have tl := T2.out.lt
            have HC : Hid (∀ W, PairS ba W (.slice o n c) L → Calls Try.prog 48 #[.int .i64 P, .slice o n c] W fun e w' => (∃ Q v' M, e = .returned (.tuple #[.int .i64 Q, v']) ∧ OwnS W.heap.size w' v' M ∧ CrV P (hsP P L) Q M ∧ M.length ≤ n + 1) ∧ Below W.heap.size W w') := fun W h => (upcircle _ P L _ CI.out (by rw [hl.out]; omega) P1 W h).mono (by rintro e w ⟨⟨Q, v, M, a, b, c, d⟩, hb⟩; exact ⟨⟨Q, v, M, a, b, c, by rw [hl.out] at d; exact d⟩, hb⟩)
            have HL : Hid (∀ Q (M : List Sp) v, CrV P (hsP P L) Q M → M.length ≤ 100000 → ∀ B W, OwnS B W v M → Calls Try.prog 47 #[.int .i64 Q, v] W fun e w' => e = .returned (.int .i64 (leF P (hsP P L))) ∧ Below W.heap.size W w') := fun Q M v C ml B W h => upleast v P Q M _ C (by omega) (CrV.same C P0) (by rcases C.len with ⟨a, -⟩ | ⟨a, -⟩ <;> omega) W h
            generalize leF P (hsP P L) = D at *
            go_wp2
            go_region_with (first | (go_at_call 48; (with_reducible refine (HC.out _ (by first | exact HP.out.keep (Below.drew (here _)) | exact HP.out)).mono ?_); rintro e w5 ⟨⟨Q, v5, M, rfl, O5, C5, m5⟩, hb⟩; have hB := Lib.hid (down (Below.drew (here w2)) hb); have hT := (T2.out.keep hB.out).c0; replace O5 := Lib.hid O5; replace C5 := Lib.hid C5; clear hb) | (go_at_call 47; (with_reducible refine (HL.out _ M _ C5.out (by omega) _ _ O5.out).mono ?_); rintro e w6 ⟨rfl, hb⟩; have hB6 := Lib.hid (down hB.out hb); have hT6 := (T2.out.keep hB6.out).c0; clear hb))
            all_goals go_wp2
            all_goals go_ret
            all_goals exact ⟨by rw [r.out]; rfl, down A2.out hB6.out⟩
end Go.Proofs.Ytaikeclfmmnelaa
