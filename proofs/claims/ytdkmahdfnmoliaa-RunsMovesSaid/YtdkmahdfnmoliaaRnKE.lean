/- Contracts of package runs: length, Has, Measure, Rank, Next, Nth. -/
import Derived.Test.YtdkmahdfnmoliaaRnKD
namespace Go.Proofs.Ytdkmahdfnmoliaa
open Go.RowKit
set_option linter.unusedVariables false

theorem msl_bound : ∀ (L : List Sp), (∀ p, p ∈ L → p.1 < p.2 ∧ p.2 - p.1 ≤ 8796093022208) → 0 ≤ msL L ∧ msL L ≤ L.length * 8796093022208
  | [], _ => ⟨Int.le_refl _, by simp [msL]⟩
  | p :: L, h => by
    obtain ⟨a, b⟩ := msl_bound L (fun q hq => h q (List.mem_cons_of_mem _ hq))
    have c := h p List.mem_cons_self
    rw [msL, List.length_cons]
    omega
/-- Valid spans, no more than a list may have. -/
def Few (L : List Sp) : Prop := L.length ≤ 2000 ∧ ∀ p, p ∈ L → -4398046511104 ≤ p.1 ∧ p.2 ≤ 4398046511104 ∧ p.1 < p.2
theorem few_of {A : List Sp} (h : vaB A = true) : Few A := ⟨va_len h, fun p hp => ⟨(va_ln h p hp).1, (va_ln h p hp).2, (va_cn h).lt p hp⟩⟩
theorem few_take {A : List Sp} (h : vaB A = true) (i : Nat) : Few (A.take i) := ⟨by rw [List.length_take]; have := va_len h; omega, fun p hp => (few_of h).2 p (List.mem_of_mem_take hp)⟩
theorem few_ms {L : List Sp} (h : Few L) : 0 ≤ msL L ∧ msL L ≤ 17592186044416000 := by
  have := msl_bound L (fun p hp => by have := h.2 p hp; omega)
  have := h.1
  omega
set_option maxRecDepth 100000 in
set_option maxHeartbeats 1000000 in
theorem rilen (a b : Int) (h : spB (a, b) = true) (w : World) :
    Calls Try.prog 64 #[.agg #[.int .i64 a, .int .i64 b]] w fun e w' => e = .returned (.int .i64 (b - a)) ∧ Below w.heap.size w w' := by
  have HV := Lib.hid (fun w => riv a b w)
  rw [h] at HV
  obtain ⟨q0, q1, q2⟩ := spB_iff.1 h
  replace q0 : -4398046511104 ≤ a := q0
  replace q1 : b ≤ 4398046511104 := q1
  replace q2 : a < b := q2
  clear h
  obtain ⟨w1, hw1⟩ : ∃ w1 : World, w.alloc (.cells #[.int .i64 a, .int .i64 b] 33) = w1 := ⟨_, rfl⟩
  have X1 : Two w1 w.heap.size (.int .i64 a) (.int .i64 b) := by rw [← hw1]; exact Two.new (here _)
  have A1 : Below w.heap.size w w1 := by rw [← hw1]; exact (grow (here w) _)
  replace X1 := Lib.hid X1
  replace A1 := Lib.hid A1
  obtain ⟨x0, x1, xl⟩ := X1.out
  go_enter Try.func64, Try.ntmps64
  go_wp2_with fail
  refine (HV.out _).mono ?_
  rintro e w2 ⟨rfl, hb⟩
  clear x0 x1 xl
  have A2 := Lib.hid (down A1.out hb)
  have X2 := Lib.hid (X1.out.keep hb)
  clear hb A1 X1
  obtain ⟨x0, x1, xl⟩ := X2.out
  go_wp2
  go_ret
  exact ⟨rfl, A2.out⟩
set_option maxRecDepth 100000 in
set_option maxHeartbeats 1000000 in
theorem rulength (v : Value) (L : List Sp) (fw : Few L) {base : Nat} (w : World) (h : PairS base w v L) :
    Calls Try.prog 65 #[v] w fun e w' => e = .returned (.int .i64 (msL L)) ∧ Below w.heap.size w w' := by
  have hn := fw.1
  obtain ⟨o, c, rfl⟩ := prs_shape h
  have HP0 := Lib.hid h
  have A0 : Hid (Below w.heap.size w w) := here w
  have AT := Lib.hid (fun k (hk : k < L.length) => fw.2 _ (getD_mem hk))
  have DR := Lib.hid (fun k hk => drop_at (L := L) (k := k) hk)
  obtain ⟨n, hl⟩ : ∃ n, L.length = n := ⟨_, rfl⟩
  rw [hl] at hn AT DR HP0 ⊢
  generalize hR : msL L = R
  have R0 : Hid ((0 : Int) + msL (L.drop 0) = R) := by show _ = _; rw [List.drop_zero, hR, Int.zero_add]
  have end' : Hid (msL (L.drop n) = 0) := by show _ = _; rw [List.drop_of_length_le (by omega)]; rfl
  clear fw h hR
  go_enter Try.func65, Try.ntmps65
  go_wp2
  go_loopw [3, 8] (fun s i wr => ∃ (k : Nat) (t : Int), k ≤ n ∧ s = .int .i64 t ∧ i = .int .i64 k ∧ 0 ≤ t ∧ t ≤ k * 8796093022208 ∧ Hid (t + msL (L.drop k) = R) ∧ Hid (Below w.heap.size w wr)) (fun _ i _ => n - (intOf i).toNat)
  case atStart => exact ⟨0, 0, Nat.zero_le _, rfl, rfl, by omega, by omega, R0, A0⟩
  case round =>
    obtain ⟨k, t, hk, rfl, rfl, t0, t1, HU, HA⟩ := hrel
    have HP := Lib.hid (HP0.out.keep HA.out)
    clear A0 R0
    by_cases z : k < n
    · have kz : decide ((k : Int) < (n : Int)) = true := decide_eq_true (by omega)
      obtain ⟨b, off, rfl, bl, cs⟩ := prs_here HP.out (show k < L.length by omega)
      obtain ⟨c0, c1⟩ := cs k (by omega)
      obtain ⟨a0, a1, a2⟩ := AT.out k z
      have dr := DR.out k z
      have HU2 : Hid (t + ((L.getD k (0, 0)).2 - (L.getD k (0, 0)).1) + msL (L.drop (k + 1)) = R) := by
        have := HU.out
        rw [dr] at this
        show _ = _
        have e : msL (L.getD k (0, 0) :: L.drop (k + 1)) = ((L.getD k (0, 0)).2 - (L.getD k (0, 0)).1) + msL (L.drop (k + 1)) := rfl
        omega
      have HL := Lib.hid (fun W => rilen (L.getD k (0, 0)).1 (L.getD k (0, 0)).2 (spB_iff.2 ⟨a0, a1, a2⟩) W)
      clear cs dr AT DR HU end'
      generalize L.getD k (0, 0) = p at *
      obtain ⟨x, y⟩ := p
      replace c0 : wr.cell? ⟨b, off + k * 2, none⟩ = some (.int .i64 x) := c0
      replace c1 : wr.cell? ⟨b, off + k * 2 + 1, none⟩ = some (.int .i64 y) := c1
      replace a0 : -4398046511104 ≤ x := a0
      replace a1 : y ≤ 4398046511104 := a1
      replace a2 : x < y := a2
      replace HL : Hid (∀ W, Calls Try.prog 64 #[.agg #[.int .i64 x, .int .i64 y]] W fun e w' => e = .returned (.int .i64 (y - x)) ∧ Below W.heap.size W w') := HL
      replace HU2 : Hid (t + (y - x) + msL (L.drop (k + 1)) = R) := HU2
      have t3 : (k : Int) ≤ 2000 := by omega
      obtain ⟨s, hs⟩ : ∃ s, y - x = s := ⟨_, rfl⟩
      obtain ⟨r, hr⟩ : ∃ r, t + s = r := ⟨_, rfl⟩
      have r0 : 0 ≤ r ∧ r ≤ ((k + 1 : Nat) : Int) * 8796093022208 := by omega
      obtain ⟨r0, r1⟩ := r0
      have r2 : r ≤ 17592186044416000 := by omega
      rw [hs] at HL
      rw [hs, hr] at HU2
      have s0 : 0 ≤ s ∧ s ≤ 8796093022208 := by omega
      obtain ⟨s0, s1⟩ := s0
      clear hs a0 a1 a2
      obtain ⟨b0, b1, bl2⟩ := Two.new (here (wr.alloc (.cells #[.int .i64 x, .int .i64 y] 33)))
      go_wp2_with fail
      refine (HL.out _).mono ?_
      rintro e w1 ⟨rfl, hb⟩
      have A1 := Lib.hid (down (grow HA.out _) hb)
      clear hb HA HP c0 c1 bl b0 b1 bl2
      go_wp2
      go_roundw
      case rel => exact ⟨k + 1, r, by omega, rfl, by go_num, r0, r1, HU2, A1⟩
      case measure => simp [intOf]; omega
    · have kz : decide ((k : Int) < (n : Int)) = false := decide_eq_false (by omega)
      obtain rfl : k = n := by omega
      have r : Hid (t = R) := by have := HU.out; have := end'.out; show _ = _; omega
      clear HU HP AT DR end'
      go_wp2
      go_ret
      exact ⟨by rw [r.out]; rfl, HA.out⟩
theorem rumeasure (va : Value) (A : List Sp) (hA : A.length ≤ maxLen) {ba : Nat} (w : World) (a : PairS ba w va A) :
    Calls Try.prog 34 #[va] w fun e w' => e = .returned (.int .i64 (if vaB A then msL A else 0)) ∧ Below w.heap.size w w' := by
  have HV := ruvalid va A hA w a
  cases p : vaB A
  · rw [p] at HV
    rw [if_neg (by simp)]
    clear a p hA
    go_enter Try.func34, Try.ntmps34
    go_wp2_with fail
    refine HV.mono ?_
    rintro e w1 ⟨rfl, hb⟩
    replace hb := Lib.hid hb
    go_wp2
    go_ret
    exact ⟨rfl, hb.out⟩
  · rw [p] at HV
    rw [if_pos rfl]
    have HL := Lib.hid (fun W (h : Below w.heap.size w W) => rulength va A (few_of p) W (a.keep h))
    generalize msL A = M at *
    clear a p hA
    go_enter Try.func34, Try.ntmps34
    go_wp2_with fail
    refine HV.mono ?_
    rintro e w1 ⟨rfl, hb⟩
    go_wp2_with fail
    refine (HL.out _ hb).mono ?_
    rintro e w2 ⟨rfl, h2⟩
    have A2 := Lib.hid (down hb h2)
    clear hb h2
    go_wp2
    go_ret
    exact ⟨rfl, A2.out⟩
theorem ruhas (va : Value) (A : List Sp) (hA : A.length ≤ maxLen) {ba : Nat} (x : Int) (hx : I64 x) (w : World) (a : PairS ba w va A) :
    Calls Try.prog 29 #[va, .int .i64 x] w fun e w' => e = .returned (.bool (vaB A && inB A x)) ∧ Below w.heap.size w w' := by
  have HV := ruvalid va A hA w a
  cases p : vaB A
  · rw [p] at HV
    rw [Bool.false_and]
    clear a p hA
    go_enter Try.func29, Try.ntmps29
    go_wp2_with fail
    refine HV.mono ?_
    rintro e w1 ⟨rfl, hb⟩
    replace hb := Lib.hid hb
    go_wp2
    go_ret
    exact ⟨rfl, hb.out⟩
  · rw [p] at HV
    rw [Bool.true_and, ← fd_in (va_cn p)]
    have HF := Lib.hid (fun W (h : Below w.heap.size w W) => rufind va A p x W (a.keep h))
    generalize fdN A x = K at *
    generalize fdH A x = H at *
    clear a p hA
    go_enter Try.func29, Try.ntmps29
    go_wp2_with fail
    refine HV.mono ?_
    rintro e w1 ⟨rfl, hb⟩
    go_wp2_with fail
    refine (HF.out _ hb).mono ?_
    rintro e w2 ⟨rfl, h2⟩
    have A2 := Lib.hid (down hb h2)
    clear hb h2
    go_wp2
    go_ret
    exact ⟨rfl, A2.out⟩
set_option maxRecDepth 100000 in
set_option maxHeartbeats 1000000 in
theorem runext (va : Value) (A : List Sp) (hA : A.length ≤ maxLen) {ba : Nat} (x : Int) (hx : I64 x) (w : World) (a : PairS ba w va A) :
    Calls Try.prog 33 #[va, .int .i64 x] w fun e w' => e = .returned (.tuple #[.int .i64 (if vaB A then (nextL A x).1 else 0), .bool (if vaB A then (nextL A x).2 else false)]) ∧ Below w.heap.size w w' := by
  have HV := ruvalid va A hA w a
  cases p : vaB A
  · rw [p] at HV
    rw [if_neg (by simp), if_neg (by simp)]
    clear a p hA
    go_enter Try.func33, Try.ntmps33
    go_wp2_with fail
    refine HV.mono ?_
    rintro e w1 ⟨rfl, hb⟩
    replace hb := Lib.hid hb
    go_wp2
    go_ret2
    exact ⟨rfl, hb.out⟩
  · rw [p] at HV
    rw [if_pos rfl, if_pos rfl, fd_next (va_cn p)]
    have HF := Lib.hid (fun W (h : Below w.heap.size w W) => rufind va A p x W (a.keep h))
    have hl := va_len p
    have hK := fd_le A x
    obtain ⟨o, c, rfl⟩ := prs_shape a
    have PA := Lib.hid a
    clear a p hA
    obtain ⟨n, hn⟩ : ∃ n, A.length = n := ⟨_, rfl⟩
    obtain ⟨K, hKe⟩ : ∃ K, fdN A x = K := ⟨_, rfl⟩
    rw [hn] at hl hK PA HF HV ⊢
    rw [hKe] at hK HF ⊢
    generalize fdH A x = H at *
    by_cases u : K = n
    · rw [if_pos u]
      have ku : ((K : Int) == (n : Int)) = true := beq_iff_eq.2 (by omega)
      clear u
      go_enter Try.func33, Try.ntmps33
      go_wp2_with fail
      refine HV.mono ?_
      rintro e w1 ⟨rfl, hb⟩
      go_wp2_with fail
      refine (HF.out _ hb).mono ?_
      rintro e w2 ⟨rfl, h2⟩
      have A2 := Lib.hid (down hb h2)
      clear hb h2
      go_wp2
      go_ret2
      exact ⟨rfl, A2.out⟩
    · rw [if_neg u]
      have ku : ((K : Int) == (n : Int)) = false := by rw [beq_eq_false_iff_ne]; omega
      have kn : K < n := by omega
      obtain ⟨f, hf⟩ : ∃ f, (A.getD K (0, 0)).1 = f := ⟨_, rfl⟩
      rw [hf]
      clear u
      go_enter Try.func33, Try.ntmps33
      go_wp2_with fail
      refine HV.mono ?_
      rintro e w1 ⟨rfl, hb⟩
      go_wp2_with fail
      refine (HF.out _ hb).mono ?_
      rintro e w2 ⟨rfl, h2⟩
      have A2 := Lib.hid (down hb h2)
      obtain ⟨b, off, rfl, bl, cs⟩ := prs_here (PA.out.keep A2.out) (show K < A.length by omega)
      obtain ⟨c0, -⟩ := cs K (by omega)
      rw [hf] at c0
      clear hb h2 cs hf
      go_wp2
      all_goals
        go_ret2
        exact ⟨rfl, A2.out⟩
set_option maxRecDepth 100000 in
set_option maxHeartbeats 1000000 in
theorem rurank (va : Value) (A : List Sp) (hA : A.length ≤ maxLen) {ba : Nat} (x : Int) (hx : I64 x) (cp : CapS va) (w : World) (a : PairS ba w va A) :
    Calls Try.prog 35 #[va, .int .i64 x] w fun e w' => e = .returned (.int .i64 (if vaB A then rkL A x else 0)) ∧ Below w.heap.size w w' := by
  have HV := ruvalid va A hA w a
  cases p : vaB A
  · rw [p] at HV
    rw [if_neg (by simp)]
    clear a p hA cp
    go_enter Try.func35, Try.ntmps35
    go_wp2_with fail
    refine HV.mono ?_
    rintro e w1 ⟨rfl, hb⟩
    replace hb := Lib.hid hb
    go_wp2
    go_ret
    exact ⟨rfl, hb.out⟩
  · rw [p] at HV
    rw [if_pos rfl, fd_rank (va_cn p)]
    have HF := Lib.hid (fun W (h : Below w.heap.size w W) => rufind va A p x W (a.keep h))
    have hl := va_len p
    have hK := fd_le A x
    obtain ⟨o, c, rfl⟩ := prs_shape a
    obtain ⟨o', n', c', e', cap⟩ := cp
    injection e' with e1 e2 e3
    subst e1; subst e2; subst e3
    have HL := Lib.hid (fun W (h : Below w.heap.size w W) => rulength (.slice o (fdN A x) c) (A.take (fdN A x)) (few_take p _) W (prs_take (a.keep h) hK))
    have mb := few_ms (few_take p (fdN A x))
    have va := Lib.hid (fun k hk => va_at p (k := k) hk)
    have PA := Lib.hid a
    have FH : Hid (fdH A x = true → fdN A x < A.length ∧ (A.getD (fdN A x) (0, 0)).1 ≤ x ∧ x < (A.getD (fdN A x) (0, 0)).2) := fun h => by
      have h' : fdH A x = true := h
      unfold fdH at h
      rw [Bool.and_eq_true, decide_eq_true_iff, decide_eq_true_iff] at h
      refine ⟨h.1, h.2, ?_⟩
      have q := fun q => Nat.lt_irrefl _ ((fd_iff (va_cn p) (x := x) h.1).1 q)
      exact Int.not_le.1 q
    clear a hA
    obtain ⟨n, hn⟩ : ∃ n, A.length = n := ⟨_, rfl⟩
    obtain ⟨K, hKe⟩ : ∃ K, fdN A x = K := ⟨_, rfl⟩
    rw [hn] at hl hK PA HF HV cap FH va ⊢
    rw [hKe] at hK HF HL mb FH ⊢
    generalize msL (A.take K) = M at *
    have kc : K ≤ c := by omega
    obtain ⟨m0, m1⟩ := mb
    cases hH : fdH A x
    · rw [hH] at HF
      rw [if_neg (by simp), Int.add_zero]
      clear FH va hH p
      go_enter Try.func35, Try.ntmps35
      go_wp2_with fail
      refine HV.mono ?_
      rintro e w1 ⟨rfl, hb⟩
      go_wp2_with fail
      refine (HF.out _ hb).mono ?_
      rintro e w2 ⟨rfl, h2⟩
      have A2 := Lib.hid (down hb h2)
      clear hb h2
      go_wp2_with fail
      refine (HL.out _ A2.out).mono ?_
      rintro e w3 ⟨rfl, h3⟩
      have A3 := Lib.hid (down A2.out h3)
      clear h3 A2
      go_wp2
      go_ret
      exact ⟨rfl, A3.out⟩
    · rw [hH] at HF
      rw [if_pos rfl]
      obtain ⟨kn, f0, f1⟩ := FH.out hH
      obtain ⟨v0, v1, v2⟩ := va.out K kn
      obtain ⟨f, hf⟩ : ∃ f, (A.getD K (0, 0)).1 = f := ⟨_, rfl⟩
      rw [hf] at f0 v0 v2 ⊢
      obtain ⟨s, hs⟩ : ∃ s, M + x = s := ⟨_, rfl⟩
      obtain ⟨r, hr⟩ : ∃ r, s - f = r := ⟨_, rfl⟩
      have e1 : M + (x - f) = r := by omega
      rw [e1]
      have b0 : -4398046511104 ≤ s ∧ s ≤ 20000000000000000 := by omega
      obtain ⟨b0, b1⟩ := b0
      have b2 : 0 ≤ r ∧ r ≤ 20000000000000000 := by omega
      obtain ⟨b2, b3⟩ := b2
      clear FH va hH p e1 v0 v1 v2 f1 f0
      go_enter Try.func35, Try.ntmps35
      go_wp2_with fail
      refine HV.mono ?_
      rintro e w1 ⟨rfl, hb⟩
      go_wp2_with fail
      refine (HF.out _ hb).mono ?_
      rintro e w2 ⟨rfl, h2⟩
      have A2 := Lib.hid (down hb h2)
      have P2 := Lib.hid (PA.out.keep A2.out)
      obtain ⟨b, off, rfl, bl, -⟩ := prs_here P2.out (show K < A.length by omega)
      have p0 : ∀ x' : Kept w2, x'.wd.cell? ⟨b, off + K * 2, none⟩ = some (.int .i64 f) := fun x' => by
        obtain ⟨b', off', e, -, cs⟩ := prs_here (P2.out.keep x'.ok) (show K < A.length by omega)
        injection e with e; injection e with e1 e2
        subst e1; subst e2
        rw [(cs K (by omega)).1, hf]
      have GL : Hid (∀ x' : Kept w2, _) := fun x' => HL.out x'.wd (down A2.out x'.ok)
      clear hb h2 hf
      go_wp2
      refine wp_region_kept (by kernel_rfl) (by kernel_rfl) ?_
      repeat (go_big_quiet_step ((go_at_call 65; exact kept_call _ (GL.out _))))
      refine wpQuiet_nil ?_
      intro w3 hx
      obtain ⟨⟨x3, hb3⟩, hw⟩ := hx
      replace hw : w3 = x3 := hw
      subst x3
      have A3 := Lib.hid (down A2.out hb3)
      clear hb3 p0 A2
      go_wp2
      go_ret
      exact ⟨rfl, A3.out⟩
set_option maxRecDepth 100000 in
set_option maxHeartbeats 1000000 in
theorem runth (va : Value) (A : List Sp) (hA : A.length ≤ maxLen) {ba : Nat} (n : Int) (hn : I64 n) (w : World) (a : PairS ba w va A) :
    Calls Try.prog 31 #[va, .int .i64 n] w fun e w' => e = .returned (if vaB A then (if decide (n < 0) || decide (msL A ≤ n) then .tuple #[.int .i64 0, .int .i64 2] else .tuple #[.int .i64 (nthL A n), .int .i64 0]) else .tuple #[.int .i64 0, .int .i64 1]) ∧ Below w.heap.size w w' := by
  have HV := ruvalid va A hA w a
  cases p : vaB A
  · rw [p] at HV
    rw [if_neg (by simp)]
    clear a p hA
    go_enter Try.func31, Try.ntmps31
    go_wp2_with fail
    refine HV.mono ?_
    rintro e w1 ⟨rfl, hb⟩
    replace hb := Lib.hid hb
    go_wp2
    go_ret2
    exact ⟨rfl, hb.out⟩
  rw [p] at HV
  rw [if_pos rfl]
  by_cases n0 : n < 0
  · have k0 := decide_eq_true n0
    rw [k0, Bool.true_or, if_pos rfl]
    clear a p hA n0
    go_enter Try.func31, Try.ntmps31
    go_wp2_with fail
    refine HV.mono ?_
    rintro e w1 ⟨rfl, hb⟩
    replace hb := Lib.hid hb
    go_wp2
    go_ret2
    exact ⟨rfl, hb.out⟩
  have k0 := decide_eq_false n0
  rw [k0, Bool.false_or]
  have fw := few_of p
  have hl := fw.1
  have ms := few_ms fw
  obtain ⟨o, c, rfl⟩ := prs_shape a
  have PA := Lib.hid a
  have AT := Lib.hid (fun k (hk : k < A.length) => fw.2 _ (getD_mem hk))
  have DR := Lib.hid (fun k hk => drop_at (L := A) (k := k) hk)
  obtain ⟨l, hle⟩ : ∃ l, A.length = l := ⟨_, rfl⟩
  rw [hle] at hl AT DR PA HV ⊢
  obtain ⟨res, hres⟩ : ∃ res, (if decide (msL A ≤ n) = true then Value.tuple #[.int .i64 0, .int .i64 2] else .tuple #[.int .i64 (nthL A n), .int .i64 0]) = res := ⟨_, rfl⟩
  rw [hres]
  have R0 : Hid ((if decide (msL (A.drop 0) ≤ n) = true then Value.tuple #[.int .i64 0, .int .i64 2] else .tuple #[.int .i64 (nthL (A.drop 0) n), .int .i64 0]) = res) := by show _ = _; rw [List.drop_zero]; exact hres
  have end' : Hid (msL (A.drop l) = 0) := by show _ = _; rw [List.drop_of_length_le (by omega)]; rfl
  obtain ⟨-, nb⟩ := hn
  clear a p hA hres fw ms
  go_enter Try.func31, Try.ntmps31
  go_wp2_with fail
  refine HV.mono ?_
  rintro e w1 ⟨rfl, hb⟩
  have A1 := Lib.hid hb
  clear hb HV
  go_wp2
  clear k0
  have nn : n ≤ n := Int.le_refl _
  go_loopw [1, 18] (fun s i wr => ∃ (k : Nat) (t : Int), k ≤ l ∧ s = .int .i64 t ∧ i = .int .i64 k ∧ 0 ≤ t ∧ t ≤ n ∧ Hid ((if decide (msL (A.drop k) ≤ t) = true then Value.tuple #[.int .i64 0, .int .i64 2] else .tuple #[.int .i64 (nthL (A.drop k) t), .int .i64 0]) = res) ∧ Hid (Below w.heap.size w wr)) (fun _ i _ => l - (intOf i).toNat)
  case atStart => exact ⟨0, n, Nat.zero_le _, rfl, rfl, by omega, nn, R0, A1⟩
  case round =>
    obtain ⟨k, t, hk, rfl, rfl, t0, t1, HU, HA⟩ := hrel
    have HP := Lib.hid (PA.out.keep HA.out)
    clear A1 R0 nn
    by_cases z : k < l
    · have kz : decide ((k : Int) < (l : Int)) = true := decide_eq_true (by omega)
      obtain ⟨b, off, rfl, bl, cs⟩ := prs_here HP.out (show k < A.length by omega)
      obtain ⟨c0, c1⟩ := cs k (by omega)
      obtain ⟨a0, a1, a2⟩ := AT.out k z
      have dr := DR.out k z
      have HU1 : (if decide (((A.getD k (0, 0)).2 - (A.getD k (0, 0)).1) + msL (A.drop (k + 1)) ≤ t) = true then Value.tuple #[.int .i64 0, .int .i64 2] else .tuple #[.int .i64 (if (A.getD k (0, 0)).2 - (A.getD k (0, 0)).1 ≤ t then nthL (A.drop (k + 1)) (t - ((A.getD k (0, 0)).2 - (A.getD k (0, 0)).1)) else (A.getD k (0, 0)).1 + t), .int .i64 0]) = res := by
        have := HU.out
        rw [dr] at this
        exact this
      have rest : 0 ≤ msL (A.drop (k + 1)) := (msl_bound _ (fun p hp => by
        obtain ⟨j, hj, e⟩ := mem_getD (List.mem_of_mem_drop hp)
        have := AT.out j (by omega)
        rw [e] at this; omega)).1
      have HL := Lib.hid (fun W => rilen (A.getD k (0, 0)).1 (A.getD k (0, 0)).2 (spB_iff.2 ⟨a0, a1, a2⟩) W)
      clear cs dr AT DR HU end'
      generalize A.getD k (0, 0) = p at *
      obtain ⟨x, y⟩ := p
      replace c0 : wr.cell? ⟨b, off + k * 2, none⟩ = some (.int .i64 x) := c0
      replace c1 : wr.cell? ⟨b, off + k * 2 + 1, none⟩ = some (.int .i64 y) := c1
      replace a0 : -4398046511104 ≤ x := a0
      replace a1 : y ≤ 4398046511104 := a1
      replace a2 : x < y := a2
      replace HL : Hid (∀ W, Calls Try.prog 64 #[.agg #[.int .i64 x, .int .i64 y]] W fun e w' => e = .returned (.int .i64 (y - x)) ∧ Below W.heap.size W w') := HL
      replace HU1 : (if decide ((y - x) + msL (A.drop (k + 1)) ≤ t) = true then Value.tuple #[.int .i64 0, .int .i64 2] else .tuple #[.int .i64 (if y - x ≤ t then nthL (A.drop (k + 1)) (t - (y - x)) else x + t), .int .i64 0]) = res := HU1
      obtain ⟨s, hs⟩ : ∃ s, y - x = s := ⟨_, rfl⟩
      rw [hs] at HL HU1
      obtain ⟨b0, b1, bl2⟩ := Two.new (here (wr.alloc (.cells #[.int .i64 x, .int .i64 y] 33)))
      have X0 := Lib.hid (Two.new (here (wr.alloc (.cells #[.int .i64 x, .int .i64 y] 33))))
      have s0 : 0 < s ∧ s ≤ 8796093022208 := by omega
      obtain ⟨s0, s1⟩ := s0
      by_cases u : t < s
      · have ku := decide_eq_true u
        rw [decide_eq_false (by omega), if_neg (by simp), if_neg (by omega)] at HU1
        obtain ⟨r, hr⟩ : ∃ r, x + t = r := ⟨_, rfl⟩
        rw [hr] at HU1
        have r0 : -4398046511104 ≤ r ∧ r ≤ 4398046511104 := by omega
        obtain ⟨r0, r1⟩ := r0
        subst HU1
        clear a0 a1 a2 hs u rest
        go_wp2_with fail
        refine (HL.out _).mono ?_
        rintro e w2 ⟨rfl, hb⟩
        have A2 := Lib.hid (down (grow HA.out _) hb)
        have X2 := X0.out.keep hb
        clear hb HA HP c0 c1 bl b0 b1 bl2 X0
        obtain ⟨b0, b1, bl2⟩ := X2
        go_wp2
        go_ret2
        exact ⟨rfl, A2.out⟩
      · have ku := decide_eq_false u
        rw [if_pos (show s ≤ t by omega)] at HU1
        obtain ⟨r, hr⟩ : ∃ r, t - s = r := ⟨_, rfl⟩
        rw [hr] at HU1
        have HU2 : Hid ((if decide (msL (A.drop (k + 1)) ≤ r) = true then Value.tuple #[.int .i64 0, .int .i64 2] else .tuple #[.int .i64 (nthL (A.drop (k + 1)) r), .int .i64 0]) = res) := by
          show _ = _
          rw [← HU1, decide_eq_decide.2 (show msL (A.drop (k + 1)) ≤ r ↔ s + msL (A.drop (k + 1)) ≤ t by omega)]
        have r0 : 0 ≤ r ∧ r ≤ n := by omega
        obtain ⟨r0, r1⟩ := r0
        clear a0 a1 a2 hs u rest HU1 X0
        go_wp2_with fail
        refine (HL.out _).mono ?_
        rintro e w2 ⟨rfl, hb⟩
        have A2 := Lib.hid (down (grow HA.out _) hb)
        clear hb HA HP c0 c1 bl b0 b1 bl2
        go_wp2
        go_roundw
        case rel => exact ⟨k + 1, r, by omega, rfl, by go_num, r0, r1, HU2, A2⟩
        case measure => simp [intOf]; omega
    · have kz : decide ((k : Int) < (l : Int)) = false := decide_eq_false (by omega)
      obtain rfl : k = l := by omega
      have hU := HU.out
      rw [end'.out, decide_eq_true t0, if_pos rfl] at hU
      subst hU
      clear HU HP AT DR end'
      go_wp2
      go_ret2
      exact ⟨rfl, HA.out⟩
end Go.Proofs.Ytdkmahdfnmoliaa
