/- Contracts of civiltimeref13: ends. -/
import Derived.Test.YtaikeclfmmnelaaQGK
import Derived.Test.YtaikeclfmmnelaaQGA
import Derived.Test.YtaikeclfmmnelaaQGD
import Derived.StillTailTactics
import Derived.Deep.AppendLies
import Derived.Deep.RegionLaw
namespace Go.Proofs.Ytaikeclfmmnelaa

open Go.RowKit

set_option linter.unusedVariables false

theorem tak_snoc (M : List Sp) {k : Nat} (hk : k < M.length) : M.take (k + 1) = M.take k ++ [M.getD k (0, 0)] := by
  rw [List.take_add_one, List.getD_eq_getElem?_getD, List.getElem?_eq_getElem hk]; rfl
theorem fl_snoc {A : List Sp} {k : Nat} (h : k < A.length) : flL (A.take (k + 1)) = flL (A.take k) ++ [(A.getD k (0, 0)).1, (A.getD k (0, 0)).2] := by
  rw [tak_snoc A h, fl_app]; rfl
theorem take_snoc' {l : List Int} {k : Nat} (h : k < l.length) : l.take (k + 1) = l.take k ++ [l.getD k 0] := by
  rw [List.take_add_one, List.getD_eq_getElem?_getD, List.getElem?_eq_getElem h]; rfl
theorem peh_here {base : Nat} {w : World} {o : Option Addr} {n c : Nat} {L : List Int} (h : IntS base w (.slice o n c) L) {i : Nat} (hi : i < L.length) :
    ∃ b off, o = some ⟨b, off, none⟩ ∧ b < w.heap.size ∧ ∀ j, j < L.length → w.cell? ⟨b, off + j, none⟩ = some (.int .i64 (L.getD j 0)) := by
  rcases h with ⟨h0, -⟩ | ⟨b, off, c', e, -, l⟩
  · omega
  · injection e with e1 e2 e3
    exact ⟨b, off, e1, l.lt, fun j hj => ints_at l j hj⟩
theorem peh_shape {base : Nat} {w : World} {v : Value} {L : List Int} (h : IntS base w v L) : ∃ o c, v = .slice o L.length c := by
  rcases h with ⟨h0, a, c, rfl⟩ | ⟨b, off, c, rfl, -⟩
  · exact ⟨a, c, by rw [h0]⟩
  · exact ⟨_, _, rfl⟩
theorem ints_app (a b : List Int) : ints (a ++ b) = ints a ++ ints b := by simp [ints]
set_option maxRecDepth 100000 in
set_option maxHeartbeats 2000000 in
theorem rpends (va vb : Value) (A B : List Sp) (hA : A.length ≤ 100000) (hB : B.length ≤ 100000) {ba bb : Nat} (w : World) (a : PairS ba w va A) (b : PairS bb w vb B) :
    Calls Try.prog 86 #[va, vb] w fun e w' => (∃ v', e = .returned v' ∧ IntS w.heap.size w' v' (cuts A B)) ∧ Below w.heap.size w w' := by
  obtain ⟨i0, hi, hz0, hz1, hz2⟩ := info_parts infoI
  obtain ⟨oa, ca, rfl⟩ := prs_shape a
  obtain ⟨ob, cb, rfl⟩ := prs_shape b
  have PA := Lib.hid a
  have PB := Lib.hid b
  have I0 : Hid (w.ownsRow w.heap.size 3 1 (.slice none 0 0) (2 * 0) (ints (flL (A.take 0)))) := World.ownsRow_nil _ _ _ _
  have L0 : Hid (Below w.heap.size w w) := here w
  clear a b
  obtain ⟨n, hn⟩ : ∃ n, A.length = n := ⟨_, rfl⟩
  obtain ⟨m, hm⟩ : ∃ m, B.length = m := ⟨_, rfl⟩
  rw [hn] at hA PA ⊢
  rw [hm] at hB PB ⊢
  go_enter Try.func86, Try.ntmps86
  go_wp2
  go_loopw [5, 8] (fun v i wr => ∃ (k : Nat) (v' : Value), v' = v ∧ k ≤ n ∧ i = .int .i64 k ∧ Hid (wr.ownsRow w.heap.size 3 1 v (2 * k) (ints (flL (A.take k)))) ∧ Hid (Below w.heap.size w wr)) (fun _ i _ => n - (intOf i).toNat)
  case atStart => exact ⟨0, _, rfl, Nat.zero_le _, rfl, I0, L0⟩
  case round =>
    obtain ⟨k, v', rfl, hk, rfl, HO, HA⟩ := hrel
    clear I0 L0
    have HP := Lib.hid (PA.out.keep HA.out)
    by_cases z : k < n
    · have kz : decide ((k : Int) < (n : Int)) = true := decide_eq_true (by omega)
      obtain ⟨k1, hk1⟩ : ∃ k1, k + 1 = k1 := ⟨_, rfl⟩
      obtain ⟨b, off, rfl, bl, cs⟩ := prs_here HP.out (show k < A.length by omega)
      obtain ⟨c0, c1⟩ := cs k (by omega)
      have sn : Hid (flL (A.take k1) = flL (A.take k) ++ [(A.getD k (0, 0)).1, (A.getD k (0, 0)).2]) := by show _ = _; rw [← hk1]; exact fl_snoc (by omega)
      clear cs
      generalize A.getD k (0, 0) = q at *
      obtain ⟨x, y⟩ := q
      replace c0 : wr.cell? ⟨b, off + k * 2, none⟩ = some (.int .i64 x) := c0
      replace c1 : wr.cell? ⟨b, off + k * 2 + 1, none⟩ = some (.int .i64 y) := c1
      have X1 := HO.out.alloc (.cells #[.int .i64 x, .int .i64 y] 3)
      have X2 : ∀ (j : Nat) (u : Value), [Value.int .i64 x, .int .i64 y][j]? = some u → (wr.alloc (.cells #[.int .i64 x, .int .i64 y] 3)).cell? ((⟨wr.heap.size, 0, none⟩ : Addr).add j) = some u := fun j u hj => by rw [Addr.add_lit, Nat.zero_add, World.cell?_alloc_new]; simpa using hj
      have X3 : ∀ u ∈ [Value.int .i64 x, .int .i64 y], u.oneCell' = true := fun u hu => by simp at hu; rcases hu with rfl | rfl <;> rfl
      have X4 : w.heap.size ≤ (wr.alloc (.cells #[.int .i64 x, .int .i64 y] 3)).heap.size := by have := HA.out.size; simp; omega
      have X5 : 2 * k + 2 ≤ maxLen := by unfold maxLen; omega
      replace X1 := Lib.hid X1
      replace X2 := Lib.hid X2
      replace X3 := Lib.hid X3
      replace X4 := Lib.hid X4
      replace X5 := Lib.hid X5
      go_wp2
      go_region_law (refine step_append_lies _ rfl _ _ 48 rfl w.heap.size 3 i0 (.int .i64 0) 1 8 Try.underlying48 hi hz0 hz1 hz2 rfl (by decide) v' (2 * k) (ints (flL (A.take k))) rfl X1.out ⟨wr.heap.size, 0, none⟩ 2 2 [.int .i64 x, .int .i64 y] rfl rfl X2.out X3.out (by omega) X5.out (by omega) X4.out _ rfl ?_; intro g7 cap7 w7 hown hgrow _ _)
      all_goals
        have A7 : Hid (Below w.heap.size w w7) := (grow HA.out _).drew.grown hgrow (by have := HA.out.size; simp; omega) (own_ge HO.out)
        have O7 : Hid (w7.ownsRow w.heap.size 3 1 (.slice (some ⟨g7, 0, none⟩) (2 * k + 2) cap7) (2 * k1) (ints (flL (A.take k1)))) := by show World.ownsRow _ _ _ _ _ _ _; rw [show 2 * k1 = 2 * k + 2 by omega, sn.out, ints_app]; exact hown
        clear hown hgrow HO HA HP sn c0 c1 bl X1 X2 X3 X4 X5
        go_wp2
        go_roundw
        case rel => exact ⟨k1, _, rfl, by omega, by first | rfl | (congr 1; omega) | go_num, O7, A7⟩
        case measure => simp [intOf]; omega
    · have kz : decide ((k : Int) < (n : Int)) = false := decide_eq_false (by omega)
      obtain rfl : n = k := by omega
      have tk : A.take n = A := List.take_of_length_le (by omega)
      rw [tk] at HO
      clear tk z HP kz
      obtain ⟨vx, hvx⟩ : ∃ vx, v' = vx := ⟨_, rfl⟩
      rw [hvx] at HO ⊢
      obtain ⟨w2, hw2⟩ : ∃ w2, wr = w2 := ⟨_, rfl⟩
      rw [hw2] at HO HA ⊢
      clear hvx hw2
      have XS : Hid (IntS w.heap.size w2 vx (flL A)) := by show Sl _ _ _ _ _; rw [fl_len, hn]; exact Sl.owns HO.out
      have A2 := HA
      have PB2 := Lib.hid (PB.out.keep HA.out)
      have I1 : Hid (w2.ownsRow w2.heap.size 3 1 (.slice none 0 0) (2 * 0) (ints (flL (B.take 0)))) := World.ownsRow_nil _ _ _ _
      have L1 : Hid (Below w2.heap.size w2 w2) := here w2
      have kz0 : decide ((n : Int) < (n : Int)) = false := decide_eq_false (by omega)
      clear HO HA PA
      go_wp2
      go_loopw [6, 9] (fun v i wr => ∃ (k : Nat) (v' : Value), v' = v ∧ k ≤ m ∧ i = .int .i64 k ∧ Hid (wr.ownsRow w2.heap.size 3 1 v (2 * k) (ints (flL (B.take k)))) ∧ Hid (Below w2.heap.size w2 wr)) (fun _ i _ => m - (intOf i).toNat)
      case atStart => exact ⟨0, _, rfl, Nat.zero_le _, rfl, I1, L1⟩
      case round =>
        obtain ⟨k, v', rfl, hk, rfl, HO, HA⟩ := hrel
        clear I1 L1
        have HP := Lib.hid (PB2.out.keep HA.out)
        by_cases z : k < m
        · have kz : decide ((k : Int) < (m : Int)) = true := decide_eq_true (by omega)
          obtain ⟨k1, hk1⟩ : ∃ k1, k + 1 = k1 := ⟨_, rfl⟩
          obtain ⟨b, off, rfl, bl, cs⟩ := prs_here HP.out (show k < B.length by omega)
          obtain ⟨c0, c1⟩ := cs k (by omega)
          have sn : Hid (flL (B.take k1) = flL (B.take k) ++ [(B.getD k (0, 0)).1, (B.getD k (0, 0)).2]) := by show _ = _; rw [← hk1]; exact fl_snoc (by omega)
          clear cs
          generalize B.getD k (0, 0) = q at *
          obtain ⟨x, y⟩ := q
          replace c0 : wr.cell? ⟨b, off + k * 2, none⟩ = some (.int .i64 x) := c0
          replace c1 : wr.cell? ⟨b, off + k * 2 + 1, none⟩ = some (.int .i64 y) := c1
          have X1 := HO.out.alloc (.cells #[.int .i64 x, .int .i64 y] 3)
          have X2 : ∀ (j : Nat) (u : Value), [Value.int .i64 x, .int .i64 y][j]? = some u → (wr.alloc (.cells #[.int .i64 x, .int .i64 y] 3)).cell? ((⟨wr.heap.size, 0, none⟩ : Addr).add j) = some u := fun j u hj => by rw [Addr.add_lit, Nat.zero_add, World.cell?_alloc_new]; simpa using hj
          have X3 : ∀ u ∈ [Value.int .i64 x, .int .i64 y], u.oneCell' = true := fun u hu => by simp at hu; rcases hu with rfl | rfl <;> rfl
          have X4 : w2.heap.size ≤ (wr.alloc (.cells #[.int .i64 x, .int .i64 y] 3)).heap.size := by have := HA.out.size; simp; omega
          have X5 : 2 * k + 2 ≤ maxLen := by unfold maxLen; omega
          replace X1 := Lib.hid X1
          replace X2 := Lib.hid X2
          replace X3 := Lib.hid X3
          replace X4 := Lib.hid X4
          replace X5 := Lib.hid X5
          go_wp2
          go_region_law (refine step_append_lies _ rfl _ _ 48 rfl w2.heap.size 3 i0 (.int .i64 0) 1 8 Try.underlying48 hi hz0 hz1 hz2 rfl (by decide) v' (2 * k) (ints (flL (B.take k))) rfl X1.out ⟨wr.heap.size, 0, none⟩ 2 2 [.int .i64 x, .int .i64 y] rfl rfl X2.out X3.out (by omega) X5.out (by omega) X4.out _ rfl ?_; intro g7 cap7 w7 hown hgrow _ _)
          all_goals
            have A7 : Hid (Below w2.heap.size w2 w7) := (grow HA.out _).drew.grown hgrow (by have := HA.out.size; simp; omega) (own_ge HO.out)
            have O7 : Hid (w7.ownsRow w2.heap.size 3 1 (.slice (some ⟨g7, 0, none⟩) (2 * k + 2) cap7) (2 * k1) (ints (flL (B.take k1)))) := by show World.ownsRow _ _ _ _ _ _ _; rw [show 2 * k1 = 2 * k + 2 by omega, sn.out, ints_app]; exact hown
            clear hown hgrow HO HA HP sn c0 c1 bl X1 X2 X3 X4 X5
            go_wp2
            go_roundw
            case rel => exact ⟨k1, _, rfl, by omega, by first | rfl | (congr 1; omega) | go_num, O7, A7⟩
            case measure => simp [intOf]; omega
        · have kz : decide ((k : Int) < (m : Int)) = false := decide_eq_false (by omega)
          obtain rfl : m = k := by omega
          have tk : B.take m = B := List.take_of_length_le (by omega)
          rw [tk] at HO
          clear tk z HP kz
          obtain ⟨vy, hvy⟩ : ∃ vy, v' = vy := ⟨_, rfl⟩
          rw [hvy] at HO ⊢
          obtain ⟨w3, hw3⟩ : ∃ w3, wr = w3 := ⟨_, rfl⟩
          rw [hw3] at HO HA ⊢
          clear hvy hw3
          have YS : Hid (IntS w2.heap.size w3 vy (flL B)) := by show Sl _ _ _ _ _; rw [fl_len, hm]; exact Sl.owns HO.out
          replace XS := Lib.hid (XS.out.keep HA.out)
          have A3 := Lib.hid (down A2.out HA.out)
          clear HO HA PB PB2 A2
          have CU : Hid (cuts A B = mgZ (flL A) (flL B)) := rfl
          have lx : (flL A).length ≤ 200000 := by rw [fl_len]; omega
          have ly : (flL B).length ≤ 200000 := by rw [fl_len]; omega
          generalize flL A = X at *
          generalize flL B = Y at *
          obtain ⟨ox, cx', rfl⟩ := peh_shape XS.out
          obtain ⟨oy, cy', rfl⟩ := peh_shape YS.out
          obtain ⟨n1, hn1⟩ : ∃ n1, X.length = n1 := ⟨_, rfl⟩
          obtain ⟨n2, hn2⟩ : ∃ n2, Y.length = n2 := ⟨_, rfl⟩
          rw [hn1] at XS lx ⊢
          rw [hn2] at YS ly ⊢
          have I2 : Hid (w3.ownsRow w3.heap.size 3 1 (.slice none 0 0) (0 + 0) (ints [])) := World.ownsRow_nil _ _ _ _
          have L2 : Hid (Below w3.heap.size w3 w3) := here w3
          have M2 : Hid (([] : List Int) ++ mgZ (X.drop 0) (Y.drop 0) = mgZ X Y) := rfl
          go_wp2
          go_loopw [7, 10, 11] (fun v i j wr => ∃ (p q : Nat) (v' : Value) (RR : List Int), v' = v ∧ p ≤ n1 ∧ q ≤ n2 ∧ i = .int .i64 p ∧ j = .int .i64 q ∧ Hid (RR ++ mgZ (X.drop p) (Y.drop q) = mgZ X Y) ∧ Hid (wr.ownsRow w3.heap.size 3 1 v (p + q) (ints RR)) ∧ Hid (Below w3.heap.size w3 wr)) (fun _ i j _ => n1 + n2 - ((intOf i).toNat + (intOf j).toNat))
          case atStart => exact ⟨0, 0, _, [], rfl, Nat.zero_le _, Nat.zero_le _, rfl, rfl, M2, I2, L2⟩
          case round =>
            obtain ⟨p, q, v', RR, rfl, hp, hq, rfl, rfl, MG, HO, HA⟩ := hrel
            have XP := Lib.hid (XS.out.keep HA.out)
            have YP := Lib.hid (YS.out.keep HA.out)
            clear I2 L2 M2
            by_cases z1 : p < n1
            · have k1 : decide ((p : Int) < (n1 : Int)) = true := decide_eq_true (by omega)
              obtain ⟨bx, fx, rfl, blx, csx⟩ := peh_here XP.out (show p < X.length by omega)
              have cx := csx p (by omega)
              clear csx
              by_cases z2 : q < n2
              · have k2 : ((q : Int) == (n2 : Int)) = false := by rw [beq_eq_false_iff_ne]; omega
                obtain ⟨by', fy, rfl, bly, csy⟩ := peh_here YP.out (show q < Y.length by omega)
                have cy := csy q (by omega)
                clear csy
                by_cases le : X.getD p 0 ≤ Y.getD q 0
                · have k3 := decide_eq_true le
                  have MG2 : Hid ((RR ++ [X.getD p 0]) ++ mgZ (X.drop (p + 1)) (Y.drop q) = mgZ X Y) := by
                    have st := mgz_left (x := X) (y := Y) (i := p) (k := q) (by omega) (.inr le); show _ = _; rw [← MG.out, st, List.append_assoc]; rfl
                  clear le MG
                  obtain ⟨t, ht⟩ : ∃ t, X.getD p 0 = t := ⟨_, rfl⟩
                  rw [ht] at cx k3 MG2
                  generalize Y.getD q 0 = u at *
                  clear ht
                  go_wp2
                  go_quiet (fail)
                  obtain ⟨w5, hw5⟩ : ∃ w5 : World, wr.drewN nq = w5 := ⟨_, rfl⟩
                  rw [hw5]
                  have A5 := Lib.hid (show Below w3.heap.size w3 w5 by rw [← hw5]; exact below_drewN HA.out _)
                  have O5 : Hid (w5.ownsRow w3.heap.size 3 1 v' (p + q) (ints RR)) := by show World.ownsRow _ _ _ _ _ _ _; rw [← hw5]; exact HO.out
                  have c5 : w5.cell? ⟨bx, fx + p, none⟩ = some (.int .i64 t) := by rw [← hw5]; exact cx
                  clear hw5 HO HA XP YP cx cy
                  go_wp2_with (at_builtin; refine wpList_append_own _ rfl _ _ 48 rfl w3.heap.size 3 i0 (.int .i64 0) 1 8 Try.underlying48 hi hz0 hz1 hz2 rfl (by decide) v' (p + q) (ints RR) rfl (O5.out.alloc _) ⟨w5.heap.size, 0, none⟩ 1 1 [.int .i64 t] rfl rfl ?c1 ?c2 ?c3 ?c4 ?c5 ?_)
                  case c1 => intro j u hj; rw [Addr.add_lit, Nat.zero_add, World.cell?_alloc_new]; simpa using hj
                  case c2 => intro u hu; simp at hu; subst hu; rfl
                  case c3 => unfold maxLen; omega
                  case c4 => omega
                  case c5 => have := A5.out.size; simp; omega
                  intro v7 w7 hown hgrow _
                  have A7 : Hid (Below w3.heap.size w3 w7) := (A5.out.alloc A5.out.size _).grown hgrow (by have := A5.out.size; simp; omega) (own_ge O5.out)
                  have O7 : Hid (w7.ownsRow w3.heap.size 3 1 v7 (p + 1 + q) (ints (RR ++ [t]))) := by show World.ownsRow _ _ _ _ _ _ _; rw [show p + 1 + q = p + q + 1 by omega, ints_app]; exact hown
                  clear hown hgrow A5 O5 c5
                  go_wp2
                  go_roundw
                  case rel => exact ⟨p + 1, q, _, RR ++ [t], rfl, by omega, by omega, by go_num, rfl, MG2, O7, A7⟩
                  case measure => simp [intOf]; omega
                · have k3 := decide_eq_false le
                  have MG2 : Hid ((RR ++ [Y.getD q 0]) ++ mgZ (X.drop p) (Y.drop (q + 1)) = mgZ X Y) := by
                    have st := mgz_right' (x := X) (y := Y) (i := p) (k := q) (by omega) (.inr (by omega)); show _ = _; rw [← MG.out, st, List.append_assoc]; rfl
                  clear le MG
                  obtain ⟨t, ht⟩ : ∃ t, Y.getD q 0 = t := ⟨_, rfl⟩
                  rw [ht] at cy k3 MG2
                  generalize X.getD p 0 = u at *
                  clear ht
                  go_wp2
                  go_quiet (fail)
                  obtain ⟨w5, hw5⟩ : ∃ w5 : World, wr.drewN nq = w5 := ⟨_, rfl⟩
                  rw [hw5]
                  have A5 := Lib.hid (show Below w3.heap.size w3 w5 by rw [← hw5]; exact below_drewN HA.out _)
                  have O5 : Hid (w5.ownsRow w3.heap.size 3 1 v' (p + q) (ints RR)) := by show World.ownsRow _ _ _ _ _ _ _; rw [← hw5]; exact HO.out
                  have c5 : w5.cell? ⟨by', fy + q, none⟩ = some (.int .i64 t) := by rw [← hw5]; exact cy
                  clear hw5 HO HA XP YP cx cy
                  go_wp2_with (at_builtin; refine wpList_append_own _ rfl _ _ 48 rfl w3.heap.size 3 i0 (.int .i64 0) 1 8 Try.underlying48 hi hz0 hz1 hz2 rfl (by decide) v' (p + q) (ints RR) rfl (O5.out.alloc _) ⟨w5.heap.size, 0, none⟩ 1 1 [.int .i64 t] rfl rfl ?c1 ?c2 ?c3 ?c4 ?c5 ?_)
                  case c1 => intro j u hj; rw [Addr.add_lit, Nat.zero_add, World.cell?_alloc_new]; simpa using hj
                  case c2 => intro u hu; simp at hu; subst hu; rfl
                  case c3 => unfold maxLen; omega
                  case c4 => omega
                  case c5 => have := A5.out.size; simp; omega
                  intro v7 w7 hown hgrow _
                  have A7 : Hid (Below w3.heap.size w3 w7) := (A5.out.alloc A5.out.size _).grown hgrow (by have := A5.out.size; simp; omega) (own_ge O5.out)
                  have O7 : Hid (w7.ownsRow w3.heap.size 3 1 v7 (p + (q + 1)) (ints (RR ++ [t]))) := by show World.ownsRow _ _ _ _ _ _ _; rw [show p + (q + 1) = p + q + 1 by omega, ints_app]; exact hown
                  clear hown hgrow A5 O5 c5
                  go_wp2
                  go_roundw
                  case rel => exact ⟨p, q + 1, _, RR ++ [t], rfl, by omega, by omega, rfl, by go_num, MG2, O7, A7⟩
                  case measure => simp [intOf]; omega
              · have k2 : ((q : Int) == (n2 : Int)) = true := beq_iff_eq.2 (by omega)
                have MG2 : Hid ((RR ++ [X.getD p 0]) ++ mgZ (X.drop (p + 1)) (Y.drop q) = mgZ X Y) := by
                  have st := mgz_left (x := X) (y := Y) (i := p) (k := q) (by omega) (.inl (by omega)); show _ = _; rw [← MG.out, st, List.append_assoc]; rfl
                clear MG
                obtain ⟨t, ht⟩ : ∃ t, X.getD p 0 = t := ⟨_, rfl⟩
                rw [ht] at cx MG2
                clear ht
                go_wp2
                go_quiet (fail)
                obtain ⟨w5, hw5⟩ : ∃ w5 : World, wr.drewN nq = w5 := ⟨_, rfl⟩
                rw [hw5]
                have A5 := Lib.hid (show Below w3.heap.size w3 w5 by rw [← hw5]; exact below_drewN HA.out _)
                have O5 : Hid (w5.ownsRow w3.heap.size 3 1 v' (p + q) (ints RR)) := by show World.ownsRow _ _ _ _ _ _ _; rw [← hw5]; exact HO.out
                have c5 : w5.cell? ⟨bx, fx + p, none⟩ = some (.int .i64 t) := by rw [← hw5]; exact cx
                clear hw5 HO HA XP YP cx
                go_wp2_with (at_builtin; refine wpList_append_own _ rfl _ _ 48 rfl w3.heap.size 3 i0 (.int .i64 0) 1 8 Try.underlying48 hi hz0 hz1 hz2 rfl (by decide) v' (p + q) (ints RR) rfl (O5.out.alloc _) ⟨w5.heap.size, 0, none⟩ 1 1 [.int .i64 t] rfl rfl ?c1 ?c2 ?c3 ?c4 ?c5 ?_)
                case c1 => intro j u hj; rw [Addr.add_lit, Nat.zero_add, World.cell?_alloc_new]; simpa using hj
                case c2 => intro u hu; simp at hu; subst hu; rfl
                case c3 => unfold maxLen; omega
                case c4 => omega
                case c5 => have := A5.out.size; simp; omega
                intro v7 w7 hown hgrow _
                have A7 : Hid (Below w3.heap.size w3 w7) := (A5.out.alloc A5.out.size _).grown hgrow (by have := A5.out.size; simp; omega) (own_ge O5.out)
                have O7 : Hid (w7.ownsRow w3.heap.size 3 1 v7 (p + 1 + q) (ints (RR ++ [t]))) := by show World.ownsRow _ _ _ _ _ _ _; rw [show p + 1 + q = p + q + 1 by omega, ints_app]; exact hown
                clear hown hgrow A5 O5 c5
                go_wp2
                go_roundw
                case rel => exact ⟨p + 1, q, _, RR ++ [t], rfl, by omega, by omega, by go_num, rfl, MG2, O7, A7⟩
                case measure => simp [intOf]; omega
            · have k1 : decide ((p : Int) < (n1 : Int)) = false := decide_eq_false (by omega)
              by_cases z2 : q < n2
              · have k2 : ((q : Int) == (n2 : Int)) = false := by rw [beq_eq_false_iff_ne]; omega
                have k4 : decide ((q : Int) < (n2 : Int)) = true := decide_eq_true (by omega)
                obtain ⟨by', fy, rfl, bly, csy⟩ := peh_here YP.out (show q < Y.length by omega)
                have cy := csy q (by omega)
                clear csy
                have MG2 : Hid ((RR ++ [Y.getD q 0]) ++ mgZ (X.drop p) (Y.drop (q + 1)) = mgZ X Y) := by
                  have st := mgz_right' (x := X) (y := Y) (i := p) (k := q) (by omega) (.inl (by omega)); show _ = _; rw [← MG.out, st, List.append_assoc]; rfl
                clear MG
                obtain ⟨t, ht⟩ : ∃ t, Y.getD q 0 = t := ⟨_, rfl⟩
                rw [ht] at cy MG2
                clear ht
                go_wp2
                go_quiet (fail)
                obtain ⟨w5, hw5⟩ : ∃ w5 : World, wr.drewN nq = w5 := ⟨_, rfl⟩
                rw [hw5]
                have A5 := Lib.hid (show Below w3.heap.size w3 w5 by rw [← hw5]; exact below_drewN HA.out _)
                have O5 : Hid (w5.ownsRow w3.heap.size 3 1 v' (p + q) (ints RR)) := by show World.ownsRow _ _ _ _ _ _ _; rw [← hw5]; exact HO.out
                have c5 : w5.cell? ⟨by', fy + q, none⟩ = some (.int .i64 t) := by rw [← hw5]; exact cy
                clear hw5 HO HA XP YP cy
                go_wp2_with (at_builtin; refine wpList_append_own _ rfl _ _ 48 rfl w3.heap.size 3 i0 (.int .i64 0) 1 8 Try.underlying48 hi hz0 hz1 hz2 rfl (by decide) v' (p + q) (ints RR) rfl (O5.out.alloc _) ⟨w5.heap.size, 0, none⟩ 1 1 [.int .i64 t] rfl rfl ?c1 ?c2 ?c3 ?c4 ?c5 ?_)
                case c1 => intro j u hj; rw [Addr.add_lit, Nat.zero_add, World.cell?_alloc_new]; simpa using hj
                case c2 => intro u hu; simp at hu; subst hu; rfl
                case c3 => unfold maxLen; omega
                case c4 => omega
                case c5 => have := A5.out.size; simp; omega
                intro v7 w7 hown hgrow _
                have A7 : Hid (Below w3.heap.size w3 w7) := (A5.out.alloc A5.out.size _).grown hgrow (by have := A5.out.size; simp; omega) (own_ge O5.out)
                have O7 : Hid (w7.ownsRow w3.heap.size 3 1 v7 (p + (q + 1)) (ints (RR ++ [t]))) := by show World.ownsRow _ _ _ _ _ _ _; rw [show p + (q + 1) = p + q + 1 by omega, ints_app]; exact hown
                clear hown hgrow A5 O5 c5
                go_wp2
                go_roundw
                case rel => exact ⟨p, q + 1, _, RR ++ [t], rfl, by omega, by omega, rfl, by go_num, MG2, O7, A7⟩
                case measure => simp [intOf]; omega
              · have k4 : decide ((q : Int) < (n2 : Int)) = false := decide_eq_false (by omega)
                have RE : RR = cuts A B := by
                  have := MG.out
                  rw [List.drop_of_length_le (by omega), List.drop_of_length_le (by omega), mgZ, List.append_nil] at this
                  rw [CU.out, this]
                have s3 := A3.out.size
                have P9 : Hid (IntS w.heap.size wr v' (cuts A B)) := by
                  rw [RE] at HO
                  show Sl _ _ _ _ _
                  have := Sl.owns (own_weak HO.out s3)
                  rw [CU.out, mgz_len, hn1, hn2]
                  rw [CU.out] at this
                  rw [show n1 + n2 = p + q by omega]; exact this
                have A9 := Lib.hid (down A3.out HA.out)
                clear RE HO HA MG XP YP z1 z2
                have e1 := of_decide_eq_false k1
                have e4 := of_decide_eq_false k4
                go_wp2
                all_goals first
                  | (exfalso; have hx := ‹¬n1 ≤ p›; omega)
                  | (exfalso; have hx := ‹p < n1 ∨ q < n2›; omega)
                  | (go_ret; exact ⟨⟨_, rfl, P9.out⟩, A9.out⟩)
end Go.Proofs.Ytaikeclfmmnelaa
