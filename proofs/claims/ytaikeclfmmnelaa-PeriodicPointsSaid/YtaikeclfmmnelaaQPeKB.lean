/- Contracts of package periodic: circle. -/
import Derived.Test.YtaikeclfmmnelaaQPeKA
import Derived.Deep.RegionWith
namespace Go.Proofs.Ytaikeclfmmnelaa

open Go.RowKit

set_option linter.unusedVariables false

set_option maxRecDepth 100000 in
set_option maxHeartbeats 1000000 in
theorem upcircle (v : Value) (P : Int) (L : List Sp) (f : Int → Bool) (H : Cir P f L) (hn : L.length ≤ 1000000) (P1 : P ≤ 12622780800) {base : Nat} (w : World) (h : PairS base w v L) :
    Calls Try.prog 48 #[.int .i64 P, v] w fun e w' => (∃ Q v' M, e = .returned (.tuple #[.int .i64 Q, v']) ∧ OwnS w.heap.size w' v' M ∧ CrV P f Q M ∧ M.length ≤ L.length + 1) ∧ Below w.heap.size w w' := by
  have HC := Lib.hid (ruclone v L L.length rfl hn w h)
  have P0 := H.P0
  replace H := Lib.hid H
  clear h
  go_enter Try.func48, Try.ntmps48
  go_wp2_with fail
  refine HC.out.mono ?_
  rintro e w1 ⟨v1, rfl, O1, A1⟩
  have S1 := Lib.hid (owns_of rfl O1)
  replace A1 := Lib.hid A1
  clear O1 HC
  go_wp2
  go_loopw [1, 6] (fun u p wr => ∃ (M : List Sp) (o : Option Addr) (m c : Nat) (p' : Value), M.length = m ∧ m ≤ L.length ∧ u = .slice o m c ∧ p' = p ∧ Hid (Cir P f M) ∧ Hid (OwnS w.heap.size wr (.slice o m c) M) ∧ Hid (Below w.heap.size w wr)) (fun u _ _ => match u with | .slice _ n _ => n | _ => 0)
  case atStart =>
    obtain ⟨o, c, e, l, k⟩ := S1.out.sh
    refine ⟨L, o, L.length, c, _, rfl, Nat.le_refl _, e, rfl, H, ?_, A1⟩
    show OwnS _ _ _ _
    rw [← e]; exact S1.out
  case round =>
    obtain ⟨M, o, m, c, p', hm, hl, rfl, rfl, HM, HO, HA⟩ := hrel
    clear S1 A1 H
    rcases Nat.lt_or_ge 1 m with z1 | z1
    · have kz1 : decide (1 < (m : Int)) = true := decide_eq_true (by omega)
      obtain ⟨p, M', rfl⟩ : ∃ p M', M = p :: M' := by
        cases M with
        | nil => simp at hm; omega
        | cons p M' => exact ⟨p, M', rfl⟩
      obtain ⟨R, q, rfl⟩ : ∃ R q, M' = R ++ [q] := by
        rcases snoc_cases M' with e | e
        · subst e; simp at hm; omega
        · exact e
      obtain ⟨r, hr⟩ : ∃ r, R.length = r := ⟨_, rfl⟩
      have lm : (p :: (R ++ [q])).length = r + 2 := by simp [hr]
      obtain ⟨K, hK⟩ : ∃ K, r + 1 = K := ⟨_, rfl⟩
      have hm2 : m = K + 1 := by omega
      obtain ⟨b, off, rfl, cl, bB, bl, cs, fz⟩ := HO.out.at (show 0 < m by omega)
      obtain ⟨c0, c1⟩ := cs 0 (by omega)
      obtain ⟨d0, d1⟩ := cs K (by omega)
      have eq : (p :: (R ++ [q])).getD K (0, 0) = q := by
        rw [← hK, ← hr]
        have := app_right R [q] 0
        rw [Nat.add_zero] at this
        exact this
      rw [eq] at d0 d1
      rw [Nat.zero_mul, Nat.add_zero] at c0 c1
      replace c0 : wr.cell? ⟨b, off, none⟩ = some (.int .i64 p.1) := c0
      replace c1 : wr.cell? ⟨b, off + 1, none⟩ = some (.int .i64 p.2) := c1
      have lp := HM.out.lo p (List.mem_cons_self ..)
      have lq := HM.out.lo q (List.mem_cons_of_mem _ (List.mem_append_right _ (List.mem_singleton.2 rfl)))
      have ltp := HM.out.cn.1
      have qp := HM.out.cn.2.1 q (List.mem_append_right _ (List.mem_singleton.2 rfl))
      have k1 : (m : Int) - 1 = K := by omega
      have k2 : decide (0 ≤ (K : Int)) = true := decide_eq_true (by omega)
      have k3 : decide (0 ≤ K) = true := decide_eq_true (by omega)
      have km : (K : Int) < (m : Int) := by omega
      have km' : K < m := by omega
      have zn : 0 < m := by omega
      by_cases t : p.1 + P ≤ q.2
      · have kt : decide (p.1 + P ≤ q.2) = true := decide_eq_true t
        have HN : Hid (Cir P f (R ++ [(q.1, if q.2 < p.2 + P then p.2 + P else q.2)])) := cir_step HM.out t
        obtain ⟨y, hy⟩ : ∃ y, (if q.2 < p.2 + P then p.2 + P else q.2) = y := ⟨_, rfl⟩
        have hy2 : max q.2 (p.2 + P) = y := by rw [← hy]; split <;> omega
        rw [hy] at HN
        have ca : 1 < c := by omega
        have OW : ∀ n, Hid (OwnS w.heap.size ((wr.drewN n).setCell ⟨b, off + K * 2 + 1, none⟩ (.int .i64 y)) (.slice (some ⟨b, off + 2, none⟩) (m - 1) (c - 1)) (R ++ [(q.1, y)])) := fun n => by
          have := (HO.out.keep (below_drewN (here wr) n)).last (R := p :: R) (q := q) y
          rw [show (p :: R).length = K by simp; omega] at this
          have := OwnS.tail (M := R ++ [(q.1, y)]) (p := p) this
          show OwnS _ _ _ _
          have e2 : (R ++ [(q.1, y)]).length = m - 1 := by simp; omega
          rw [e2] at this
          exact this
        have AW : ∀ n, Hid (Below w.heap.size w ((wr.drewN n).setCell ⟨b, off + K * 2 + 1, none⟩ (.int .i64 y))) := fun n => (below_drewN HA.out n).setCell (p := ⟨b, off + K * 2 + 1, none⟩) bB _
        have f1 := fz (off + K * 2 + 1)
        obtain ⟨px, py⟩ := p
        obtain ⟨qx, qy⟩ := q
        have le2 : Hid (∀ t : Sp, (R ++ [t]).length = m - 1) := by show ∀ t, _ = _; intro t; simp; omega
        have ml : m - 1 ≤ L.length := by omega
        clear HO HA HM cs fz eq hm hr lm hK hm2 qp hy
        replace c0 : wr.cell? ⟨b, off, none⟩ = some (.int .i64 px) := c0
        replace c1 : wr.cell? ⟨b, off + 1, none⟩ = some (.int .i64 py) := c1
        replace d0 : wr.cell? ⟨b, off + K * 2, none⟩ = some (.int .i64 qx) := d0
        replace d1 : wr.cell? ⟨b, off + K * 2 + 1, none⟩ = some (.int .i64 qy) := d1
        replace kt : decide (px + P ≤ qy) = true := kt
        replace hy2 : max qy (py + P) = y := hy2
        replace lp : 0 ≤ px ∧ px < P ∧ py ≤ 2 * P := lp
        replace lq : 0 ≤ qx ∧ qx < P ∧ qy ≤ 2 * P := lq
        replace ltp : px < py := ltp
        go_wp2
        go_quiet (fail)
        go_wp2
        go_region
        have O7 := OW (nq + 1)
        have A7 := AW (nq + 1)
        generalize (wr.drewN (nq + 1)).setCell ⟨b, off + K * 2 + 1, none⟩ (.int .i64 y) = w7 at *
        clear OW AW c0 c1 d0 d1 f1 kt t lp lq ltp hy2 bl
        have lx := le2.out (qx, y)
        replace le2 := Lib.hid lx
        clear lx
        go_wp2
        go_roundw
        case rel => exact ⟨R ++ [(qx, y)], _, m - 1, _, _, le2.out, ml, rfl, rfl, HN, O7, A7⟩
        case measure => simp; omega
      · have kt : decide (p.1 + P ≤ q.2) = false := decide_eq_false t
        have EX : (p :: (R ++ [q])).length = 1 ∨ ((p :: (R ++ [q])).getD ((p :: (R ++ [q])).length - 1) (0, 0)).2 < ((p :: (R ++ [q])).getD 0 (0, 0)).1 + P := by
          rw [lm, show r + 2 - 1 = K by omega, eq]
          right; show q.2 < p.1 + P; omega
        have lm2 : 0 < (p :: (R ++ [q])).length := by omega
        clear cs eq hr lm hK hm2 qp
        generalize p :: (R ++ [q]) = M at *
        obtain ⟨px, py⟩ := p
        obtain ⟨qx, qy⟩ := q
        replace c0 : wr.cell? ⟨b, off, none⟩ = some (.int .i64 px) := c0
        replace c1 : wr.cell? ⟨b, off + 1, none⟩ = some (.int .i64 py) := c1
        replace d0 : wr.cell? ⟨b, off + K * 2, none⟩ = some (.int .i64 qx) := d0
        replace d1 : wr.cell? ⟨b, off + K * 2 + 1, none⟩ = some (.int .i64 qy) := d1
        replace kt : decide (px + P ≤ qy) = false := kt
        replace lp : 0 ≤ px ∧ px < P ∧ py ≤ 2 * P := lp
        replace lq : 0 ≤ qx ∧ qx < P ∧ qy ≤ 2 * P := lq
        replace ltp : px < py := ltp
        replace hm := Lib.hid hm
        replace EX := Lib.hid EX
        go_wp2
        go_quiet (fail)
        clear c0 c1 fz d0 d1 kt t lp lq ltp
        obtain ⟨o, ho⟩ : ∃ o, some (⟨b, off, none⟩ : Addr) = o := ⟨_, rfl⟩
        rw [ho] at HO ⊢
        clear ho
        have mp : 0 < m := by omega
        obtain ⟨w3, hw3⟩ : ∃ w3, wr.drewN nq = w3 := ⟨_, rfl⟩
        replace HO := Lib.hid (HO.out.keep (below_drewN (here wr) nq))
        rw [hw3] at HO
        replace HA : Hid (Below w.heap.size w w3) := by show Below _ _ _; rw [← hw3]; exact below_drewN HA.out nq
        rw [hw3]
        clear hw3
        obtain ⟨b, off, rfl, cl, bB, bl, cs, -⟩ := HO.out.at (mp)
        have m0 : 0 < M.length := by rw [hm.out]; exact mp
        obtain ⟨c0, c1⟩ := cs 0 m0
        rw [Nat.zero_mul, Nat.add_zero] at c0 c1
        have lo := HM.out.lo _ (getD_mem m0)
        have lt := HM.out.cn.lt _ (getD_mem m0)
        have t1 : P ≤ (M.getD 0 (0, 0)).2 - (M.getD 0 (0, 0)).1 → Hid (∀ x, f x = true) := fun t => cir_all HM.out m0 t
        have t2 : (M.getD 0 (0, 0)).2 - (M.getD 0 (0, 0)).1 < P → Hid (Crc P f M) := fun t => cir_crc HM.out m0 t EX.out
        have ml : Hid (M.length ≤ L.length + 1) := by show _ ≤ _; rw [hm.out]; omega
        clear cs EX hm
        generalize M.getD 0 (0, 0) = p at *
        obtain ⟨x, y⟩ := p
        replace lo : 0 ≤ x ∧ x < P ∧ y ≤ 2 * P := lo
        replace lt : x < y := lt
        replace t1 : P ≤ y - x → Hid (∀ x, f x = true) := t1
        replace t2 : y - x < P → Hid (Crc P f M) := t2
        replace c0 : w3.cell? ⟨b, off, none⟩ = some (.int .i64 x) := c0
        replace c1 : w3.cell? ⟨b, off + 1, none⟩ = some (.int .i64 y) := c1
        have HL := Lib.hid (rilen x y (spB_iff.2 ⟨by show _ ≤ x; omega, by show y ≤ _; omega, lt⟩) w3)
        have zm : ((m : Int) == 0) = false := by rw [beq_eq_false_iff_ne]; omega
        by_cases z : P ≤ y - x
        · have kz : decide (P ≤ y - x) = true := decide_eq_true z
          have T := t1 z
          clear t1 t2 HM HO
          go_wp2_with fail
          refine HL.out.mono ?_
          rintro e w5 ⟨rfl, hb⟩
          have A5 := Lib.hid (down HA.out hb)
          clear hb HA HL c0 c1
          go_wp2
          go_ret2
          refine ⟨⟨_, _, [(0, 1)], rfl, ?_, .inr (.inl ⟨rfl, rfl, T.out⟩), ?_⟩, grow A5.out _⟩
          · refine ⟨_, 1, rfl, Nat.le_refl _, fun _ => ⟨w5.heap.size, 0, rfl, A5.out.size, by simp, fun j hj => ?_, fun j => World.frozen?_alloc_new _ _ _ _⟩⟩
            obtain rfl : j = 0 := by simp at hj; omega
            exact ⟨by rw [World.cell?_alloc_new]; rfl, by rw [World.cell?_alloc_new]; rfl⟩
          · show 1 ≤ L.length + 1; omega
        · have kz : decide (P ≤ y - x) = false := decide_eq_false z
          have T := t2 (by omega)
          clear t1 t2 HM
          go_wp2_with fail
          refine HL.out.mono ?_
          rintro e w5 ⟨rfl, hb⟩
          have A5 := Lib.hid (down HA.out hb)
          have O5 := Lib.hid (HO.out.keep hb)
          clear hb HA HL c0 c1 HO
          go_wp2
          go_ret2
          exact ⟨⟨_, _, M, rfl, O5.out, .inr (.inr ⟨rfl, T.out⟩), ml.out⟩, A5.out⟩
    · have kz1 : decide (1 < (m : Int)) = false := decide_eq_false (by omega)
      rcases Nat.eq_zero_or_pos m with zm0 | zm0
      · subst zm0
        obtain rfl : M = [] := List.eq_nil_of_length_eq_zero hm
        have T := Lib.hid (cir_nil HM.out)
        clear HM HO hm
        go_wp2
        go_quiet (fail)
        have A5 := Lib.hid (below_drewN HA.out nq)
        go_wp2
        go_ret2
        exact ⟨⟨_, _, [], rfl, OwnS.nil _ _, .inl ⟨rfl, rfl, T.out⟩, by simp⟩, A5.out⟩
      · have EX : Hid (M.length = 1 ∨ (M.getD (M.length - 1) (0, 0)).2 < (M.getD 0 (0, 0)).1 + P) := .inl (by omega)
        replace hm := Lib.hid hm
        clear z1
        go_wp2
        go_quiet (fail)
        have mp : 0 < m := by omega
        obtain ⟨w3, hw3⟩ : ∃ w3, wr.drewN nq = w3 := ⟨_, rfl⟩
        replace HO := Lib.hid (HO.out.keep (below_drewN (here wr) nq))
        rw [hw3] at HO
        replace HA : Hid (Below w.heap.size w w3) := by show Below _ _ _; rw [← hw3]; exact below_drewN HA.out nq
        rw [hw3]
        clear hw3
        obtain ⟨b, off, rfl, cl, bB, bl, cs, -⟩ := HO.out.at (mp)
        have m0 : 0 < M.length := by rw [hm.out]; exact mp
        obtain ⟨c0, c1⟩ := cs 0 m0
        rw [Nat.zero_mul, Nat.add_zero] at c0 c1
        have lo := HM.out.lo _ (getD_mem m0)
        have lt := HM.out.cn.lt _ (getD_mem m0)
        have t1 : P ≤ (M.getD 0 (0, 0)).2 - (M.getD 0 (0, 0)).1 → Hid (∀ x, f x = true) := fun t => cir_all HM.out m0 t
        have t2 : (M.getD 0 (0, 0)).2 - (M.getD 0 (0, 0)).1 < P → Hid (Crc P f M) := fun t => cir_crc HM.out m0 t EX.out
        have ml : Hid (M.length ≤ L.length + 1) := by show _ ≤ _; rw [hm.out]; omega
        clear cs EX hm
        generalize M.getD 0 (0, 0) = p at *
        obtain ⟨x, y⟩ := p
        replace lo : 0 ≤ x ∧ x < P ∧ y ≤ 2 * P := lo
        replace lt : x < y := lt
        replace t1 : P ≤ y - x → Hid (∀ x, f x = true) := t1
        replace t2 : y - x < P → Hid (Crc P f M) := t2
        replace c0 : w3.cell? ⟨b, off, none⟩ = some (.int .i64 x) := c0
        replace c1 : w3.cell? ⟨b, off + 1, none⟩ = some (.int .i64 y) := c1
        have HL := Lib.hid (rilen x y (spB_iff.2 ⟨by show _ ≤ x; omega, by show y ≤ _; omega, lt⟩) w3)
        have zm : ((m : Int) == 0) = false := by rw [beq_eq_false_iff_ne]; omega
        by_cases z : P ≤ y - x
        · have kz : decide (P ≤ y - x) = true := decide_eq_true z
          have T := t1 z
          clear t1 t2 HM HO
          go_wp2_with fail
          refine HL.out.mono ?_
          rintro e w5 ⟨rfl, hb⟩
          have A5 := Lib.hid (down HA.out hb)
          clear hb HA HL c0 c1
          go_wp2
          go_ret2
          refine ⟨⟨_, _, [(0, 1)], rfl, ?_, .inr (.inl ⟨rfl, rfl, T.out⟩), ?_⟩, grow A5.out _⟩
          · refine ⟨_, 1, rfl, Nat.le_refl _, fun _ => ⟨w5.heap.size, 0, rfl, A5.out.size, by simp, fun j hj => ?_, fun j => World.frozen?_alloc_new _ _ _ _⟩⟩
            obtain rfl : j = 0 := by simp at hj; omega
            exact ⟨by rw [World.cell?_alloc_new]; rfl, by rw [World.cell?_alloc_new]; rfl⟩
          · show 1 ≤ L.length + 1; omega
        · have kz : decide (P ≤ y - x) = false := decide_eq_false z
          have T := t2 (by omega)
          clear t1 t2 HM
          go_wp2_with fail
          refine HL.out.mono ?_
          rintro e w5 ⟨rfl, hb⟩
          have A5 := Lib.hid (down HA.out hb)
          have O5 := Lib.hid (HO.out.keep hb)
          clear hb HA HL c0 c1 HO
          go_wp2
          go_ret2
          exact ⟨⟨_, _, M, rfl, O5.out, .inr (.inr ⟨rfl, T.out⟩), ml.out⟩, A5.out⟩
end Go.Proofs.Ytaikeclfmmnelaa
