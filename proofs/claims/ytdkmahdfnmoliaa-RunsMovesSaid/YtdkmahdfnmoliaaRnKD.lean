/- Contracts of package runs: find, length, Has, Measure, Rank, Next, Nth. -/
import Derived.Test.YtdkmahdfnmoliaaRnKA
import Derived.Test.YtdkmahdfnmoliaaRnZ
import Derived.Test.YtdkmahdfnmoliaaRnL
import Derived.Deep.LoopGhost
import Derived.Shelf.RegionOpenPlain
namespace Go.Proofs.Ytdkmahdfnmoliaa
open Go.RowKit
set_option linter.unusedVariables false

/-- A slice's length is within its room. -/
def CapS (v : Value) : Prop := ∃ o n c, v = .slice o n c ∧ n ≤ c
theorem cap_own {w : World} {base : Nat} {e : TypeId} {size : Nat} {v : Value} {n : Nat} {xs : List Value} (h : w.ownsRow base e size v n xs) : CapS v := by
  rcases h.2 with ⟨rfl, -⟩ | ⟨g, cap, cur, rfl, -, -, hn, -⟩
  · exact ⟨_, _, _, rfl, Nat.le_refl _⟩
  · exact ⟨_, _, _, rfl, hn⟩
theorem cap_nil : CapS (.slice none 0 0) := ⟨_, _, _, rfl, Nat.le_refl _⟩
theorem prs_take {base : Nat} {w : World} {o : Option Addr} {c : Nat} {L : List Sp} (h : PairS base w (.slice o L.length c) L) {i : Nat} (hi : i ≤ L.length) : PairS base w (.slice o i c) (L.take i) := by
  have hl : (L.take i).length = i := by rw [List.length_take]; omega
  show Sl _ _ _ _ _
  rw [hl]
  rcases Nat.eq_zero_or_pos i with rfl | z
  · exact .inl ⟨rfl, _, _, rfl⟩
  · rcases h with ⟨h0, -⟩ | ⟨b, off, c', e, hb, l⟩
    · omega
    · injection e with e1 e2 e3
      subst e1; subst e3
      refine .inr ⟨b, off, c, rfl, hb, ⟨l.lt, fun j u hu => l.cell j u ?_⟩⟩
      have q : pairs L = pairs (L.take i) ++ pairs (L.drop i) := by rw [← pairs_append, List.take_append_drop]
      rw [q, List.getElem?_append_left (List.getElem?_eq_some_iff.1 hu).1]; exact hu
def cfS (y x t : Int) : Int := if y ≤ t then -1 else if t < x then 1 else 0
set_option maxRecDepth 100000 in
set_option maxHeartbeats 1000000 in
theorem rufcmp (x y t : Int) (w : World) :
    Calls Try.prog 78 #[.agg #[.int .i64 x, .int .i64 y], .int .i64 t] w fun e w' => e = .returned (.int .i64 (cfS y x t)) ∧ Below w.heap.size w w' := by
  obtain ⟨x0, x1, xlt⟩ := Two.new (here (w.alloc (.cells #[.int .i64 x, .int .i64 y] 33)))
  have A1 := Lib.hid (grow (here w) (.cells #[.int .i64 x, .int .i64 y] 33))
  unfold cfS
  by_cases p : y ≤ t
  · have kp := decide_eq_true p
    rw [if_pos p]
    clear p
    go_enter Try.func78, Try.ntmps78
    go_wp2
    go_ret
    exact ⟨rfl, A1.out⟩
  · have kp := decide_eq_false p
    rw [if_neg p]
    by_cases q : t < x
    · have kq := decide_eq_true q
      rw [if_pos q]
      clear p q
      go_enter Try.func78, Try.ntmps78
      go_wp2
      go_ret
      exact ⟨rfl, A1.out⟩
    · have kq := decide_eq_false q
      rw [if_neg q]
      clear p q
      go_enter Try.func78, Try.ntmps78
      go_wp2
      go_ret
      exact ⟨rfl, A1.out⟩
set_option maxRecDepth 100000 in
set_option maxHeartbeats 1000000 in
theorem rusearch (v : Value) (A : List Sp) (va : vaB A = true) (t : Int) {ba : Nat} (w : World) (a : PairS ba w v A) :
    Calls Try.prog 77 #[v, .int .i64 t, .func (.func 78) #[] #[]] w fun e w' => e = .returned (.tuple #[.int .i64 (fdN A t), .bool (fdH A t)]) ∧ Below w.heap.size w w' := by
  have hl := va_len va
  have IFF := Lib.hid (fun j (hj : j < A.length) => fd_iff (va_cn va) (x := t) hj)
  have hK := fd_le A t
  obtain ⟨o, c, rfl⟩ := prs_shape a
  have PA := Lib.hid a
  have FH : Hid (fdH A t = (decide (fdN A t < A.length) && decide ((A.getD (fdN A t) (0, 0)).1 ≤ t))) := rfl
  clear a va
  obtain ⟨n, hn⟩ : ∃ n, A.length = n := ⟨_, rfl⟩
  obtain ⟨K, hKe⟩ : ∃ K, fdN A t = K := ⟨_, rfl⟩
  rw [hn] at hl IFF hK PA FH ⊢
  rw [hKe] at IFF hK FH ⊢
  generalize fdH A t = H at *
  go_enter Try.func77, Try.ntmps77
  go_wp2
  go_loopw [9, 10] (fun a b wr => ∃ x y : Nat, x ≤ K ∧ K ≤ y ∧ y ≤ n ∧ a = .int .i64 x ∧ b = .int .i64 y ∧ Hid (Below w.heap.size w wr)) (fun a b _ => (intOf b - intOf a).toNat)
  case atStart => exact ⟨0, n, Nat.zero_le _, hK, Nat.le_refl _, rfl, rfl, here w⟩
  case round =>
    obtain ⟨x, y, hx, hy, yn, rfl, rfl, HA⟩ := hrel
    have HP := Lib.hid (PA.out.keep HA.out)
    by_cases z : x < y
    · have kz : decide ((x : Int) < (y : Int)) = true := decide_eq_true (by omega)
      obtain ⟨h, hh⟩ : ∃ h : Nat, (x + y) / 2 = h := ⟨_, rfl⟩
      have e1 : ((x : Int) + (y : Int)) / 2 = (h : Int) := by omega
      have e2 : (x + y) / 2 = h := hh
      obtain ⟨b, off, rfl, bl, cs⟩ := prs_here HP.out (show h < A.length by omega)
      obtain ⟨c0, c1⟩ := cs h (by omega)
      have hlt : h < n := by omega
      have iff := IFF.out h hlt
      clear cs
      generalize A.getD h (0, 0) = q at *
      obtain ⟨f, g⟩ := q
      replace c0 : wr.cell? ⟨b, off + h * 2, none⟩ = some (.int .i64 f) := c0
      replace c1 : wr.cell? ⟨b, off + h * 2 + 1, none⟩ = some (.int .i64 g) := c1
      replace iff : g ≤ t ↔ h < K := iff
      by_cases u : h < K
      · have HC := Lib.hid (fun W => rufcmp f g t W)
        rw [show cfS g f t = -1 by unfold cfS; rw [if_pos (iff.2 u)]] at HC
        have le1 : x ≤ h := by omega
        have le2 : h + 1 ≤ K := by omega
        clear iff
        go_wp2_with fail
        refine (HC.out _).mono ?_
        rintro e w1 ⟨rfl, hb⟩
        have A1 := Lib.hid (down HA.out hb)
        clear hb c0 c1 bl HP HA
        go_wp2
        go_roundw
        case rel => exact ⟨h + 1, y, le2, hy, yn, by go_num, rfl, A1⟩
        case measure => simp [intOf]; omega
      · obtain ⟨r, hr⟩ : ∃ r, cfS g f t = r := ⟨_, rfl⟩
        have HC := Lib.hid (fun W => rufcmp f g t W)
        have r0 : decide (r < 0) = false := decide_eq_false (by rw [← hr]; unfold cfS; rw [if_neg (fun w => u (iff.1 w))]; split <;> omega)
        rw [hr] at HC
        clear iff hr
        go_wp2_with fail
        refine (HC.out _).mono ?_
        rintro e w1 ⟨rfl, hb⟩
        have A1 := Lib.hid (down HA.out hb)
        clear hb c0 c1 bl HP HA
        go_wp2
        go_roundw
        case rel => exact ⟨x, h, hx, by omega, by omega, rfl, by first | rfl | go_num, A1⟩
        case measure => simp [intOf]; omega
    · obtain rfl : x = K := by omega
      obtain rfl : y = x := by omega
      have kz : decide ((y : Int) < (y : Int)) = false := decide_eq_false (by omega)
      by_cases u : y < n
      · have ku : decide ((y : Int) < (n : Int)) = true := decide_eq_true (by omega)
        obtain ⟨b, off, rfl, bl, cs⟩ := prs_here HP.out (show y < A.length by omega)
        obtain ⟨c0, c1⟩ := cs y (by omega)
        have iff := IFF.out y u
        rw [decide_eq_true u, Bool.true_and] at FH
        clear cs IFF
        generalize A.getD y (0, 0) = q at *
        obtain ⟨f, g⟩ := q
        replace c0 : wr.cell? ⟨b, off + y * 2, none⟩ = some (.int .i64 f) := c0
        replace c1 : wr.cell? ⟨b, off + y * 2 + 1, none⟩ = some (.int .i64 g) := c1
        replace iff : g ≤ t ↔ y < y := iff
        replace FH : Hid (H = decide (f ≤ t)) := FH
        have HC := Lib.hid (fun W => rufcmp f g t W)
        have ce : (cfS g f t == 0) = decide (f ≤ t) := by
          unfold cfS
          rw [if_neg (fun w => absurd (iff.1 w) (Nat.lt_irrefl _))]
          by_cases q : t < f
          · rw [if_pos q, decide_eq_false (by omega)]; rfl
          · rw [if_neg q, decide_eq_true (by omega)]; rfl
        rw [← FH.out] at ce
        generalize cfS g f t = r at *
        clear iff FH z
        go_wp2_with fail
        refine (HC.out _).mono ?_
        rintro e w1 ⟨rfl, hb⟩
        have A1 := Lib.hid (down HA.out hb)
        clear hb c0 c1 bl HP HA
        go_wp2
        go_ret2
        exact ⟨rfl, A1.out⟩
      · have ku : decide ((y : Int) < (n : Int)) = false := decide_eq_false (by omega)
        rw [decide_eq_false u, Bool.false_and] at FH
        have hH := FH.out
        subst hH
        clear FH IFF z HP
        go_wp2
        go_ret2
        exact ⟨rfl, HA.out⟩
set_option maxRecDepth 100000 in
set_option maxHeartbeats 1000000 in
theorem rufind (v : Value) (A : List Sp) (va : vaB A = true) (t : Int) {ba : Nat} (w : World) (a : PairS ba w v A) :
    Calls Try.prog 63 #[v, .int .i64 t] w fun e w' => e = .returned (.tuple #[.int .i64 (fdN A t), .bool (fdH A t)]) ∧ Below w.heap.size w w' := by
  have HS := rusearch v A va t w a
  generalize fdN A t = K at *
  generalize fdH A t = H at *
  clear a va
  go_enter Try.func63, Try.ntmps63
  go_wp2_with fail
  refine HS.mono ?_
  rintro e w1 ⟨rfl, hb⟩
  replace hb := Lib.hid hb
  go_wp2
  go_ret2
  exact ⟨rfl, hb.out⟩
end Go.Proofs.Ytdkmahdfnmoliaa
