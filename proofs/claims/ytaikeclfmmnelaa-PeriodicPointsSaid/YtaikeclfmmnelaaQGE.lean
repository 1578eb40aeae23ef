/- Contracts of package runs: find, length, Has, Measure, Rank, Next, Nth. -/
import Derived.Test.YtaikeclfmmnelaaQGK
import Derived.Test.YtaikeclfmmnelaaQGD
import Derived.Test.YtaikeclfmmnelaaQGA
import Derived.Deep.LoopGhost
import Derived.Shelf.RegionOpenPlain
namespace Go.Proofs.Ytaikeclfmmnelaa

open Go.RowKit

set_option linter.unusedVariables false

/-- A slice's length is within its room. -/
def CapS (v : Value) : Prop := ∃ o n c, v = .slice o n c ∧ n ≤ c
theorem cap_own {w : World} {base : Nat} {e : TypeId} {size : Nat} {v : Value} {n : Nat} {xs : List Value} (h : w.ownsRow base e size v n xs) : CapS v := by
  rcases h.2 with ⟨rfl, -⟩ | ⟨g, cap, cur, rfl, -, -, hn, -⟩
  · exact ⟨_, _, _, rfl, Nat.le_refl _⟩
  · exact ⟨_, _, _, rfl, hn⟩
theorem cap_nil : CapS (.slice none 0 0) := ⟨_, _, _, rfl, Nat.le_refl _⟩
theorem prs_take {base : Nat} {w : World} {o : Option Addr} {c : Nat} {L : List Sp} (h : PairS base w (.slice o L.length c) L) {i : Nat} (hi : i ≤ L.length) : PairS base w (.slice o i c) (L.take i) := by
  have hl : (L.take i).length = i := by rw [List.length_take]; omega
  show Sl _ _ _ _ _
  rw [hl]
  rcases Nat.eq_zero_or_pos i with rfl | z
  · exact .inl ⟨rfl, _, _, rfl⟩
  · rcases h with ⟨h0, -⟩ | ⟨b, off, c', e, hb, l⟩
    · omega
    · injection e with e1 e2 e3
      subst e1; subst e3
      refine .inr ⟨b, off, c, rfl, hb, ⟨l.lt, fun j u hu => l.cell j u ?_⟩⟩
      have q : pairs L = pairs (L.take i) ++ pairs (L.drop i) := by rw [← pairs_append, List.take_append_drop]
      rw [q, List.getElem?_append_left (List.getElem?_eq_some_iff.1 hu).1]; exact hu
def cfS (y x t : Int) : Int := if y ≤ t then -1 else if t < x then 1 else 0
set_option maxRecDepth 100000 in
set_option maxHeartbeats 1000000 in
theorem rufcmp (x y t : Int) (w : World) :
    Calls Try.prog 98 #[.agg #[.int .i64 x, .int .i64 y], .int .i64 t] w fun e w' => e = .returned (.int .i64 (cfS y x t)) ∧ Below w.heap.size w w' := by
  obtain ⟨x0, x1, xlt⟩ := Two.new (here (w.alloc (.cells #[.int .i64 x, .int .i64 y] 37)))
  have A1 := Lib.hid (grow (here w) (.cells #[.int .i64 x, .int .i64 y] 37))
  unfold cfS
  by_cases p : y ≤ t
  · have kp := decide_eq_true p
    rw [if_pos p]
    clear p
    go_enter Try.func98, Try.ntmps98
    go_wp2
    go_ret
    exact ⟨rfl, A1.out⟩
  · have kp := decide_eq_false p
    rw [if_neg p]
    by_cases q : t < x
    · have kq := decide_eq_true q
      rw [if_pos q]
      clear p q
      go_enter Try.func98, Try.ntmps98
      go_wp2
      go_ret
      exact ⟨rfl, A1.out⟩
    · have kq := decide_eq_false q
      rw [if_neg q]
      clear p q
      go_enter Try.func98, Try.ntmps98
      go_wp2
      go_ret
      exact ⟨rfl, A1.out⟩
set_option maxRecDepth 100000 in
set_option maxHeartbeats 1000000 in
theorem rusearch (v : Value) (A : List Sp) (va : vaB A = true) (t : Int) {ba : Nat} (w : World) (a : PairS ba w v A) :
    Calls Try.prog 97 #[v, .int .i64 t, .func (.func 98) #[] #[]] w fun e w' => e = .returned (.tuple #[.int .i64 (fdN A t), .bool (fdH A t)]) ∧ Below w.heap.size w w' := by
  have hl := va_len va
  have IFF := Lib.hid (fun j (hj : j < A.length) => fd_iff (va_cn va) (x := t) hj)
  have hK := fd_le A t
  obtain ⟨o, c, rfl⟩ := prs_shape a
  have PA := Lib.hid a
  have FH : Hid (fdH A t = (decide (fdN A t < A.length) && decide ((A.getD (fdN A t) (0, 0)).1 ≤ t))) := rfl
  clear a va
  obtain ⟨n, hn⟩ : ∃ n, A.length = n := ⟨_, rfl⟩
  obtain ⟨K, hKe⟩ : ∃ K, fdN A t = K := ⟨_, rfl⟩
  rw [hn] at hl IFF hK PA FH ⊢
  rw [hKe] at IFF hK FH ⊢
  generalize fdH A t = H at *
  go_enter Try.func97, Try.ntmps97
  go_wp2
  go_loopw [9, 10] (fun a b wr => ∃ x y : Nat, x ≤ K ∧ K ≤ y ∧ y ≤ n ∧ a = .int .i64 x ∧ b = .int .i64 y ∧ Hid (Below w.heap.size w wr)) (fun a b _ => (intOf b - intOf a).toNat)
  case atStart => exact ⟨0, n, Nat.zero_le _, hK, Nat.le_refl _, rfl, rfl, here w⟩
  case round =>
    obtain ⟨x, y, hx, hy, yn, rfl, rfl, HA⟩ := hrel
    have HP := Lib.hid (PA.out.keep HA.out)
    by_cases z : x < y
    · have kz : decide ((x : Int) < (y : Int)) = true := decide_eq_true (by omega)
      obtain ⟨h, hh⟩ : ∃ h : Nat, (x + y) / 2 = h := ⟨_, rfl⟩
      have e1 : ((x : Int) + (y : Int)) / 2 = (h : Int) := by omega
      have e2 : (x + y) / 2 = h := hh
      obtain ⟨b, off, rfl, bl, cs⟩ := prs_here HP.out (show h < A.length by omega)
      obtain ⟨c0, c1⟩ := cs h (by omega)
      have hlt : h < n := by omega
      have iff := IFF.out h hlt
      clear cs
      generalize A.getD h (0, 0) = q at *
      obtain ⟨f, g⟩ := q
      replace c0 : wr.cell? ⟨b, off + h * 2, none⟩ = some (.int .i64 f) := c0
      replace c1 : wr.cell? ⟨b, off + h * 2 + 1, none⟩ = some (.int .i64 g) := c1
      replace iff : g ≤ t ↔ h < K := iff
      by_cases u : h < K
      · have HC := Lib.hid (fun W => rufcmp f g t W)
        rw [show cfS g f t = -1 by unfold cfS; rw [if_pos (iff.2 u)]] at HC
        have le1 : x ≤ h := by omega
        have le2 : h + 1 ≤ K := by omega
        clear iff
        go_wp2_with fail
        refine (HC.out _).mono ?_
        rintro e w1 ⟨rfl, hb⟩
        have A1 := Lib.hid (down HA.out hb)
        clear hb c0 c1 bl HP HA
        go_wp2
        go_roundw
        case rel => exact ⟨h + 1, y, le2, hy, yn, by go_num, rfl, A1⟩
        case measure => simp [intOf]; omega
      · obtain ⟨r, hr⟩ : ∃ r, cfS g f t = r := ⟨_, rfl⟩
        have HC := Lib.hid (fun W => rufcmp f g t W)
        have r0 : decide (r < 0) = false := decide_eq_false (by rw [← hr]; unfold cfS; rw [if_neg (fun w => u (iff.1 w))]; split <;> omega)
        rw [hr] at HC
        clear iff hr
        go_wp2_with fail
        refine (HC.out _).mono ?_
        rintro e w1 ⟨rfl, hb⟩
        have A1 := Lib.hid (down HA.out hb)
        clear hb c0 c1 bl HP HA
        go_wp2
        go_roundw
        case rel => exact ⟨x, h, hx, by omega, by omega, rfl, by first | rfl | go_num, A1⟩
        case measure => simp [intOf]; omega
    · obtain rfl : x = K := by omega
      obtain rfl : y = x := by omega
      have kz : decide ((y : Int) < (y : Int)) = false := decide_eq_false (by omega)
      by_cases u : y < n
      · have ku : decide ((y : Int) < (n : Int)) = true := decide_eq_true (by omega)
        obtain ⟨b, off, rfl, bl, cs⟩ := prs_here HP.out (show y < A.length by omega)
        obtain ⟨c0, c1⟩ := cs y (by omega)
        have iff := IFF.out y u
        rw [decide_eq_true u, Bool.true_and] at FH
        clear cs IFF
        generalize A.getD y (0, 0) = q at *
        obtain ⟨f, g⟩ := q
        replace c0 : wr.cell? ⟨b, off + y * 2, none⟩ = some (.int .i64 f) := c0
        replace c1 : wr.cell? ⟨b, off + y * 2 + 1, none⟩ = some (.int .i64 g) := c1
        replace iff : g ≤ t ↔ y < y := iff
        replace FH : Hid (H = decide (f ≤ t)) := FH
        have HC := Lib.hid (fun W => rufcmp f g t W)
        have ce : (cfS g f t == 0) = decide (f ≤ t) := by
          unfold cfS
          rw [if_neg (fun w => absurd (iff.1 w) (Nat.lt_irrefl _))]
          by_cases q : t < f
          · rw [if_pos q, decide_eq_false (by omega)]; rfl
          · rw [if_neg q, decide_eq_true (by omega)]; rfl
        rw [← FH.out] at ce
        generalize cfS g f t = r at *
        clear iff FH z
        go_wp2_with fail
        refine (HC.out _).mono ?_
        rintro e w1 ⟨rfl, hb⟩
        have A1 := Lib.hid (down HA.out hb)
        clear hb c0 c1 bl HP HA
        go_wp2
        go_ret2
        exact ⟨rfl, A1.out⟩
      · have ku : decide ((y : Int) < (n : Int)) = false := decide_eq_false (by omega)
        rw [decide_eq_false u, Bool.false_and] at FH
        have hH := FH.out
        subst hH
        clear FH IFF z HP
        go_wp2
        go_ret2
        exact ⟨rfl, HA.out⟩
set_option maxRecDepth 100000 in
set_option maxHeartbeats 1000000 in
theorem rufind (v : Value) (A : List Sp) (va : vaB A = true) (t : Int) {ba : Nat} (w : World) (a : PairS ba w v A) :
    Calls Try.prog 78 #[v, .int .i64 t] w fun e w' => e = .returned (.tuple #[.int .i64 (fdN A t), .bool (fdH A t)]) ∧ Below w.heap.size w w' := by
  have HS := rusearch v A va t w a
  generalize fdN A t = K at *
  generalize fdH A t = H at *
  clear a va
  go_enter Try.func78, Try.ntmps78
  go_wp2_with fail
  refine HS.mono ?_
  rintro e w1 ⟨rfl, hb⟩
  replace hb := Lib.hid hb
  go_wp2
  go_ret2
  exact ⟨rfl, hb.out⟩
end Go.Proofs.Ytaikeclfmmnelaa
/- Contracts of package runs: length, Has, Measure, Rank, Next, Nth. -/
namespace Go.Proofs.Ytaikeclfmmnelaa

open Go.RowKit

set_option linter.unusedVariables false

theorem msl_bound : ∀ (L : List Sp), (∀ p, p ∈ L → p.1 < p.2 ∧ p.2 - p.1 ≤ 8796093022208) → 0 ≤ msL L ∧ msL L ≤ L.length * 8796093022208
  | [], _ => ⟨Int.le_refl _, by simp [msL]⟩
  | p :: L, h => by
    obtain ⟨a, b⟩ := msl_bound L (fun q hq => h q (List.mem_cons_of_mem _ hq))
    have c := h p List.mem_cons_self
    rw [msL, List.length_cons]
    omega
/-- Valid spans, no more than a list may have. -/
def Few (L : List Sp) : Prop := L.length ≤ 2000 ∧ ∀ p, p ∈ L → -4398046511104 ≤ p.1 ∧ p.2 ≤ 4398046511104 ∧ p.1 < p.2
theorem few_of {A : List Sp} (h : vaB A = true) : Few A := ⟨va_len h, fun p hp => ⟨(va_ln h p hp).1, (va_ln h p hp).2, (va_cn h).lt p hp⟩⟩
theorem few_take {A : List Sp} (h : vaB A = true) (i : Nat) : Few (A.take i) := ⟨by rw [List.length_take]; have := va_len h; omega, fun p hp => (few_of h).2 p (List.mem_of_mem_take hp)⟩
theorem few_ms {L : List Sp} (h : Few L) : 0 ≤ msL L ∧ msL L ≤ 17592186044416000 := by
  have := msl_bound L (fun p hp => by have := h.2 p hp; omega)
  have := h.1
  omega
set_option maxRecDepth 100000 in
set_option maxHeartbeats 1000000 in
theorem rilen (a b : Int) (h : spB (a, b) = true) (w : World) :
    Calls Try.prog 56 #[.agg #[.int .i64 a, .int .i64 b]] w fun e w' => e = .returned (.int .i64 (b - a)) ∧ Below w.heap.size w w' := by
  have HV := Lib.hid (fun w => riv a b w)
  rw [h] at HV
  obtain ⟨q0, q1, q2⟩ := spB_iff.1 h
  replace q0 : -4398046511104 ≤ a := q0
  replace q1 : b ≤ 4398046511104 := q1
  replace q2 : a < b := q2
  clear h
  obtain ⟨w1, hw1⟩ : ∃ w1 : World, w.alloc (.cells #[.int .i64 a, .int .i64 b] 37) = w1 := ⟨_, rfl⟩
  have X1 : Two w1 w.heap.size (.int .i64 a) (.int .i64 b) := by rw [← hw1]; exact Two.new (here _)
  have A1 : Below w.heap.size w w1 := by rw [← hw1]; exact (grow (here w) _)
  replace X1 := Lib.hid X1
  replace A1 := Lib.hid A1
  obtain ⟨x0, x1, xl⟩ := X1.out
  go_enter Try.func56, Try.ntmps56
  go_wp2_with fail
  refine (HV.out _).mono ?_
  rintro e w2 ⟨rfl, hb⟩
  clear x0 x1 xl
  have A2 := Lib.hid (down A1.out hb)
  have X2 := Lib.hid (X1.out.keep hb)
  clear hb A1 X1
  obtain ⟨x0, x1, xl⟩ := X2.out
  go_wp2
  go_ret
  exact ⟨rfl, A2.out⟩
set_option maxRecDepth 100000 in
set_option maxHeartbeats 1000000 in
theorem rulength (v : Value) (L : List Sp) (fw : Few L) {base : Nat} (w : World) (h : PairS base w v L) :
    Calls Try.prog 74 #[v] w fun e w' => e = .returned (.int .i64 (msL L)) ∧ Below w.heap.size w w' := by
  have hn := fw.1
  obtain ⟨o, c, rfl⟩ := prs_shape h
  have HP0 := Lib.hid h
  have A0 : Hid (Below w.heap.size w w) := here w
  have AT := Lib.hid (fun k (hk : k < L.length) => fw.2 _ (getD_mem hk))
  have DR := Lib.hid (fun k hk => drop_at (L := L) (k := k) hk)
  obtain ⟨n, hl⟩ : ∃ n, L.length = n := ⟨_, rfl⟩
  rw [hl] at hn AT DR HP0 ⊢
  generalize hR : msL L = R
  have R0 : Hid ((0 : Int) + msL (L.drop 0) = R) := by show _ = _; rw [List.drop_zero, hR, Int.zero_add]
  have end' : Hid (msL (L.drop n) = 0) := by show _ = _; rw [List.drop_of_length_le (by omega)]; rfl
  clear fw h hR
  go_enter Try.func74, Try.ntmps74
  go_wp2
  go_loopw [3, 8] (fun s i wr => ∃ (k : Nat) (t : Int), k ≤ n ∧ s = .int .i64 t ∧ i = .int .i64 k ∧ 0 ≤ t ∧ t ≤ k * 8796093022208 ∧ Hid (t + msL (L.drop k) = R) ∧ Hid (Below w.heap.size w wr)) (fun _ i _ => n - (intOf i).toNat)
  case atStart => exact ⟨0, 0, Nat.zero_le _, rfl, rfl, by omega, by omega, R0, A0⟩
  case round =>
    obtain ⟨k, t, hk, rfl, rfl, t0, t1, HU, HA⟩ := hrel
    have HP := Lib.hid (HP0.out.keep HA.out)
    clear A0 R0
    by_cases z : k < n
    · have kz : decide ((k : Int) < (n : Int)) = true := decide_eq_true (by omega)
      obtain ⟨b, off, rfl, bl, cs⟩ := prs_here HP.out (show k < L.length by omega)
      obtain ⟨c0, c1⟩ := cs k (by omega)
      obtain ⟨a0, a1, a2⟩ := AT.out k z
      have dr := DR.out k z
      have HU2 : Hid (t + ((L.getD k (0, 0)).2 - (L.getD k (0, 0)).1) + msL (L.drop (k + 1)) = R) := by
        have := HU.out
        rw [dr] at this
        show _ = _
        have e : msL (L.getD k (0, 0) :: L.drop (k + 1)) = ((L.getD k (0, 0)).2 - (L.getD k (0, 0)).1) + msL (L.drop (k + 1)) := rfl
        omega
      have HL := Lib.hid (fun W => rilen (L.getD k (0, 0)).1 (L.getD k (0, 0)).2 (spB_iff.2 ⟨a0, a1, a2⟩) W)
      clear cs dr AT DR HU end'
      generalize L.getD k (0, 0) = p at *
      obtain ⟨x, y⟩ := p
      replace c0 : wr.cell? ⟨b, off + k * 2, none⟩ = some (.int .i64 x) := c0
      replace c1 : wr.cell? ⟨b, off + k * 2 + 1, none⟩ = some (.int .i64 y) := c1
      replace a0 : -4398046511104 ≤ x := a0
      replace a1 : y ≤ 4398046511104 := a1
      replace a2 : x < y := a2
      replace HL : Hid (∀ W, Calls Try.prog 56 #[.agg #[.int .i64 x, .int .i64 y]] W fun e w' => e = .returned (.int .i64 (y - x)) ∧ Below W.heap.size W w') := HL
      replace HU2 : Hid (t + (y - x) + msL (L.drop (k + 1)) = R) := HU2
      have t3 : (k : Int) ≤ 2000 := by omega
      obtain ⟨s, hs⟩ : ∃ s, y - x = s := ⟨_, rfl⟩
      obtain ⟨r, hr⟩ : ∃ r, t + s = r := ⟨_, rfl⟩
      have r0 : 0 ≤ r ∧ r ≤ ((k + 1 : Nat) : Int) * 8796093022208 := by omega
      obtain ⟨r0, r1⟩ := r0
      have r2 : r ≤ 17592186044416000 := by omega
      rw [hs] at HL
      rw [hs, hr] at HU2
      have s0 : 0 ≤ s ∧ s ≤ 8796093022208 := by omega
      obtain ⟨s0, s1⟩ := s0
      clear hs a0 a1 a2
      obtain ⟨b0, b1, bl2⟩ := Two.new (here (wr.alloc (.cells #[.int .i64 x, .int .i64 y] 37)))
      go_wp2_with fail
      refine (HL.out _).mono ?_
      rintro e w1 ⟨rfl, hb⟩
      have A1 := Lib.hid (down (grow HA.out _) hb)
      clear hb HA HP c0 c1 bl b0 b1 bl2
      go_wp2
      go_roundw
      case rel => exact ⟨k + 1, r, by omega, rfl, by go_num, r0, r1, HU2, A1⟩
      case measure => simp [intOf]; omega
    · have kz : decide ((k : Int) < (n : Int)) = false := decide_eq_false (by omega)
      obtain rfl : k = n := by omega
      have r : Hid (t = R) := by have := HU.out; have := end'.out; show _ = _; omega
      clear HU HP AT DR end'
      go_wp2
      go_ret
      exact ⟨by rw [r.out]; rfl, HA.out⟩
theorem rumeasure (va : Value) (A : List Sp) (hA : A.length ≤ maxLen) {ba : Nat} (w : World) (a : PairS ba w va A) :
    Calls Try.prog 39 #[va] w fun e w' => e = .returned (.int .i64 (if vaB A then msL A else 0)) ∧ Below w.heap.size w w' := by
  have HV := ruvalid va A hA w a
  cases p : vaB A
  · rw [p] at HV
    rw [if_neg (by simp)]
    clear a p hA
    go_enter Try.func39, Try.ntmps39
    go_wp2_with fail
    refine HV.mono ?_
    rintro e w1 ⟨rfl, hb⟩
    replace hb := Lib.hid hb
    go_wp2
    go_ret
    exact ⟨rfl, hb.out⟩
  · rw [p] at HV
    rw [if_pos rfl]
    have HL := Lib.hid (fun W (h : Below w.heap.size w W) => rulength va A (few_of p) W (a.keep h))
    generalize msL A = M at *
    clear a p hA
    go_enter Try.func39, Try.ntmps39
    go_wp2_with fail
    refine HV.mono ?_
    rintro e w1 ⟨rfl, hb⟩
    go_wp2_with fail
    refine (HL.out _ hb).mono ?_
    rintro e w2 ⟨rfl, h2⟩
    have A2 := Lib.hid (down hb h2)
    clear hb h2
    go_wp2
    go_ret
    exact ⟨rfl, A2.out⟩
theorem ruhas (va : Value) (A : List Sp) (hA : A.length ≤ maxLen) {ba : Nat} (x : Int) (hx : I64 x) (w : World) (a : PairS ba w va A) :
    Calls Try.prog 49 #[va, .int .i64 x] w fun e w' => e = .returned (.bool (vaB A && inB A x)) ∧ Below w.heap.size w w' := by
  have HV := ruvalid va A hA w a
  cases p : vaB A
  · rw [p] at HV
    rw [Bool.false_and]
    clear a p hA
    go_enter Try.func49, Try.ntmps49
    go_wp2_with fail
    refine HV.mono ?_
    rintro e w1 ⟨rfl, hb⟩
    replace hb := Lib.hid hb
    go_wp2
    go_ret
    exact ⟨rfl, hb.out⟩
  · rw [p] at HV
    rw [Bool.true_and, ← fd_in (va_cn p)]
    have HF := Lib.hid (fun W (h : Below w.heap.size w W) => rufind va A p x W (a.keep h))
    generalize fdN A x = K at *
    generalize fdH A x = H at *
    clear a p hA
    go_enter Try.func49, Try.ntmps49
    go_wp2_with fail
    refine HV.mono ?_
    rintro e w1 ⟨rfl, hb⟩
    go_wp2_with fail
    refine (HF.out _ hb).mono ?_
    rintro e w2 ⟨rfl, h2⟩
    have A2 := Lib.hid (down hb h2)
    clear hb h2
    go_wp2
    go_ret
    exact ⟨rfl, A2.out⟩
set_option maxRecDepth 100000 in
set_option maxHeartbeats 1000000 in
theorem runext (va : Value) (A : List Sp) (hA : A.length ≤ maxLen) {ba : Nat} (x : Int) (hx : I64 x) (w : World) (a : PairS ba w va A) :
    Calls Try.prog 75 #[va, .int .i64 x] w fun e w' => e = .returned (.tuple #[.int .i64 (if vaB A then (nextL A x).1 else 0), .bool (if vaB A then (nextL A x).2 else false)]) ∧ Below w.heap.size w w' := by
  have HV := ruvalid va A hA w a
  cases p : vaB A
  · rw [p] at HV
    rw [if_neg (by simp), if_neg (by simp)]
    clear a p hA
    go_enter Try.func75, Try.ntmps75
    go_wp2_with fail
    refine HV.mono ?_
    rintro e w1 ⟨rfl, hb⟩
    replace hb := Lib.hid hb
    go_wp2
    go_ret2
    exact ⟨rfl, hb.out⟩
  · rw [p] at HV
    rw [if_pos rfl, if_pos rfl, fd_next (va_cn p)]
    have HF := Lib.hid (fun W (h : Below w.heap.size w W) => rufind va A p x W (a.keep h))
    have hl := va_len p
    have hK := fd_le A x
    obtain ⟨o, c, rfl⟩ := prs_shape a
    have PA := Lib.hid a
    clear a p hA
    obtain ⟨n, hn⟩ : ∃ n, A.length = n := ⟨_, rfl⟩
    obtain ⟨K, hKe⟩ : ∃ K, fdN A x = K := ⟨_, rfl⟩
    rw [hn] at hl hK PA HF HV ⊢
    rw [hKe] at hK HF ⊢
    generalize fdH A x = H at *
    by_cases u : K = n
    · rw [if_pos u]
      have ku : ((K : Int) == (n : Int)) = true := beq_iff_eq.2 (by omega)
      clear u
      go_enter Try.func75, Try.ntmps75
      go_wp2_with fail
      refine HV.mono ?_
      rintro e w1 ⟨rfl, hb⟩
      go_wp2_with fail
      refine (HF.out _ hb).mono ?_
      rintro e w2 ⟨rfl, h2⟩
      have A2 := Lib.hid (down hb h2)
      clear hb h2
      go_wp2
      go_ret2
      exact ⟨rfl, A2.out⟩
    · rw [if_neg u]
      have ku : ((K : Int) == (n : Int)) = false := by rw [beq_eq_false_iff_ne]; omega
      have kn : K < n := by omega
      obtain ⟨f, hf⟩ : ∃ f, (A.getD K (0, 0)).1 = f := ⟨_, rfl⟩
      rw [hf]
      clear u
      go_enter Try.func75, Try.ntmps75
      go_wp2_with fail
      refine HV.mono ?_
      rintro e w1 ⟨rfl, hb⟩
      go_wp2_with fail
      refine (HF.out _ hb).mono ?_
      rintro e w2 ⟨rfl, h2⟩
      have A2 := Lib.hid (down hb h2)
      obtain ⟨b, off, rfl, bl, cs⟩ := prs_here (PA.out.keep A2.out) (show K < A.length by omega)
      obtain ⟨c0, -⟩ := cs K (by omega)
      rw [hf] at c0
      clear hb h2 cs hf
      go_wp2
      all_goals
        go_ret2
        exact ⟨rfl, A2.out⟩
set_option maxRecDepth 100000 in
set_option maxHeartbeats 1000000 in
theorem rurank (va : Value) (A : List Sp) (hA : A.length ≤ maxLen) {ba : Nat} (x : Int) (hx : I64 x) (cp : CapS va) (w : World) (a : PairS ba w va A) :
    Calls Try.prog 96 #[va, .int .i64 x] w fun e w' => e = .returned (.int .i64 (if vaB A then rkL A x else 0)) ∧ Below w.heap.size w w' := by
  have HV := ruvalid va A hA w a
  cases p : vaB A
  · rw [p] at HV
    rw [if_neg (by simp)]
    clear a p hA cp
    go_enter Try.func96, Try.ntmps96
    go_wp2_with fail
    refine HV.mono ?_
    rintro e w1 ⟨rfl, hb⟩
    replace hb := Lib.hid hb
    go_wp2
    go_ret
    exact ⟨rfl, hb.out⟩
  · rw [p] at HV
    rw [if_pos rfl, fd_rank (va_cn p)]
    have HF := Lib.hid (fun W (h : Below w.heap.size w W) => rufind va A p x W (a.keep h))
    have hl := va_len p
    have hK := fd_le A x
    obtain ⟨o, c, rfl⟩ := prs_shape a
    obtain ⟨o', n', c', e', cap⟩ := cp
    injection e' with e1 e2 e3
    subst e1; subst e2; subst e3
    have HL := Lib.hid (fun W (h : Below w.heap.size w W) => rulength (.slice o (fdN A x) c) (A.take (fdN A x)) (few_take p _) W (prs_take (a.keep h) hK))
    have mb := few_ms (few_take p (fdN A x))
    have va := Lib.hid (fun k hk => va_at p (k := k) hk)
    have PA := Lib.hid a
    have FH : Hid (fdH A x = true → fdN A x < A.length ∧ (A.getD (fdN A x) (0, 0)).1 ≤ x ∧ x < (A.getD (fdN A x) (0, 0)).2) := fun h => by
      have h' : fdH A x = true := h
      unfold fdH at h
      rw [Bool.and_eq_true, decide_eq_true_iff, decide_eq_true_iff] at h
      refine ⟨h.1, h.2, ?_⟩
      have q := fun q => Nat.lt_irrefl _ ((fd_iff (va_cn p) (x := x) h.1).1 q)
      exact Int.not_le.1 q
    clear a hA
    obtain ⟨n, hn⟩ : ∃ n, A.length = n := ⟨_, rfl⟩
    obtain ⟨K, hKe⟩ : ∃ K, fdN A x = K := ⟨_, rfl⟩
    rw [hn] at hl hK PA HF HV cap FH va ⊢
    rw [hKe] at hK HF HL mb FH ⊢
    generalize msL (A.take K) = M at *
    have kc : K ≤ c := by omega
    obtain ⟨m0, m1⟩ := mb
    cases hH : fdH A x
    · rw [hH] at HF
      rw [if_neg (by simp), Int.add_zero]
      clear FH va hH p
      go_enter Try.func96, Try.ntmps96
      go_wp2_with fail
      refine HV.mono ?_
      rintro e w1 ⟨rfl, hb⟩
      go_wp2_with fail
      refine (HF.out _ hb).mono ?_
      rintro e w2 ⟨rfl, h2⟩
      have A2 := Lib.hid (down hb h2)
      clear hb h2
      go_wp2_with fail
      refine (HL.out _ A2.out).mono ?_
      rintro e w3 ⟨rfl, h3⟩
      have A3 := Lib.hid (down A2.out h3)
      clear h3 A2
      go_wp2
      go_ret
      exact ⟨rfl, A3.out⟩
    · rw [hH] at HF
      rw [if_pos rfl]
      obtain ⟨kn, f0, f1⟩ := FH.out hH
      obtain ⟨v0, v1, v2⟩ := va.out K kn
      obtain ⟨f, hf⟩ : ∃ f, (A.getD K (0, 0)).1 = f := ⟨_, rfl⟩
      rw [hf] at f0 v0 v2 ⊢
      obtain ⟨s, hs⟩ : ∃ s, M + x = s := ⟨_, rfl⟩
      obtain ⟨r, hr⟩ : ∃ r, s - f = r := ⟨_, rfl⟩
      have e1 : M + (x - f) = r := by omega
      rw [e1]
      have b0 : -4398046511104 ≤ s ∧ s ≤ 20000000000000000 := by omega
      obtain ⟨b0, b1⟩ := b0
      have b2 : 0 ≤ r ∧ r ≤ 20000000000000000 := by omega
      obtain ⟨b2, b3⟩ := b2
      clear FH va hH p e1 v0 v1 v2 f1 f0
      go_enter Try.func96, Try.ntmps96
      go_wp2_with fail
      refine HV.mono ?_
      rintro e w1 ⟨rfl, hb⟩
      go_wp2_with fail
      refine (HF.out _ hb).mono ?_
      rintro e w2 ⟨rfl, h2⟩
      have A2 := Lib.hid (down hb h2)
      have P2 := Lib.hid (PA.out.keep A2.out)
      obtain ⟨b, off, rfl, bl, -⟩ := prs_here P2.out (show K < A.length by omega)
      have p0 : ∀ x' : Kept w2, x'.wd.cell? ⟨b, off + K * 2, none⟩ = some (.int .i64 f) := fun x' => by
        obtain ⟨b', off', e, -, cs⟩ := prs_here (P2.out.keep x'.ok) (show K < A.length by omega)
        injection e with e; injection e with e1 e2
        subst e1; subst e2
        rw [(cs K (by omega)).1, hf]
      have GL : Hid (∀ x' : Kept w2, _) := fun x' => HL.out x'.wd (down A2.out x'.ok)
      clear hb h2 hf
      go_wp2
      refine wp_region_kept (by kernel_rfl) (by kernel_rfl) ?_
      repeat (go_big_quiet_step ((go_at_call 74; exact kept_call _ (GL.out _))))
      refine wpQuiet_nil ?_
      intro w3 hx
      obtain ⟨⟨x3, hb3⟩, hw⟩ := hx
      replace hw : w3 = x3 := hw
      subst x3
      have A3 := Lib.hid (down A2.out hb3)
      clear hb3 p0 A2
      go_wp2
      go_ret
      exact ⟨rfl, A3.out⟩
end Go.Proofs.Ytaikeclfmmnelaa
