/- Contracts of civiltimeref09: tables, totals, atomic times. -/
import Derived.Test.YtocimbiidloofaaDoorLtV
import Derived.Deep.QuietTactic
import Derived.BigQuiet
import Derived.Outline
namespace Go.Proofs.YtocimbiidloofaaDoor
open Go.RowKit
set_option linter.unusedVariables false

theorem rlins (t : Int) (h : I64 t) (w : World) :
    Calls Tryd.prog 19 #[.int .i64 t] w fun e w' => e = .returned (.bool (inB t)) ∧ w = w' := by
  obtain ⟨h0, h1⟩ := h
  rw [inB_eq]
  obtain ⟨a, ha⟩ : ∃ a, decide (-62135596800 ≤ t) = a := ⟨_, rfl⟩
  obtain ⟨b, hb⟩ : ∃ a, decide (t < 253402300800) = a := ⟨_, rfl⟩
  rw [ha, hb]
  cases a <;> cases b
  all_goals
    go_enter Tryd.func19, Tryd.ntmps19
    go_wp2
    go_ret
    exact ⟨rfl, rfl⟩
set_option maxRecDepth 100000 in
set_option maxHeartbeats 1000000 in
theorem rltot (v : Value) (ps : List (Int × Int)) (t : Int) (ht : I64 t) (w : World) (h : LT w v ps) :
    Calls Tryd.prog 35 #[.agg #[v], .int .i64 t] w fun e w' => e = .returned (.int .i64 (ltN ps t)) ∧ Below w.heap.size w w' := by
  obtain ⟨ao, cp, rfl⟩ := h.shape
  have hl := h.len
  unfold maxLen at hl
  have L0 := Lib.hid (h.old (.cells #[.slice ao ps.length cp] 25))
  have B0 := Lib.hid (One.new (here (w.alloc (.cells #[.slice ao ps.length cp] 25))))
  clear h
  have bd : Hid (∀ k, cntP (fun i => decide (ltA ps i ≤ t)) k ≤ k) := fun k => cntP_le _ k
  have fin : Hid (cntP (fun i => decide (ltA ps i ≤ t)) ps.length = ltN ps t) := rfl
  have yes := Lib.hid (fun k => @cntP_yes (fun i => decide (ltA ps i ≤ t)) k)
  have no := Lib.hid (fun k => @cntP_no (fun i => decide (ltA ps i ≤ t)) k)
  generalize cntP (fun i => decide (ltA ps i ≤ t)) = c at *
  obtain ⟨t0, t1⟩ := ht
  go_enter Tryd.func35, Tryd.ntmps35
  go_wp2
  go_loopw [5, 6] (fun a b wr => ∃ k : Nat, k ≤ ps.length ∧ a = .int .i64 (c k) ∧ b = .int .i64 k ∧ Hid (Below w.heap.size w wr) ∧ Hid (One wr w.heap.size (.slice ao ps.length cp)) ∧ Hid (LT wr (.slice ao ps.length cp) ps)) (fun _ b _ => ps.length - (intOf b).toNat)
  case atStart => exact ⟨0, Nat.zero_le _, by have := bd.out 0; rw [show c 0 = 0 by omega]; rfl, rfl, grow (here w) _, B0.out, L0.out⟩
  case round =>
    obtain ⟨k, hk, rfl, rfl, HA, HB, HL⟩ := hrel
    obtain ⟨bx, blt⟩ := HB.out
    by_cases z : k < ps.length
    · have kz : decide ((k : Int) < (ps.length : Int)) = true := decide_eq_true (by omega)
      obtain ⟨b, off, rfl, bl, cs⟩ := HL.out.at z
      obtain ⟨c0, c1⟩ := cs k z
      have ck := bd.out k
      have wf := (HL.out.wf k z).1
      obtain ⟨f0, f1⟩ := wf
      have yk := Lib.hid (yes.out k)
      have nk := Lib.hid (no.out k)
      clear yes no bd cs fin L0 B0
      generalize ltA ps k = x at *
      generalize ltT ps k = y at *
      by_cases q : x ≤ t
      · have kq : decide (x ≤ t) = true := decide_eq_true q
        have yk' : Hid (c (k + 1) = c k + 1) := yk.out kq
        clear yk nk q
        go_wp2
        go_roundw
        case rel => exact ⟨k + 1, by omega, by rw [yk'.out]; go_num, by go_num, HA, HB, HL⟩
        case measure => simp [intOf]; omega
      · have kq : decide (x ≤ t) = false := decide_eq_false q
        have nk' : Hid (c (k + 1) = c k) := nk.out kq
        clear yk nk q
        go_wp2
        go_roundw
        case rel => exact ⟨k + 1, by omega, by rw [nk'.out], by go_num, HA, HB, HL⟩
        case measure => simp [intOf]; omega
    · have kz : decide ((k : Int) < (ps.length : Int)) = false := decide_eq_false (by omega)
      have e : Hid (c k = ltN ps t) := by show _ = _; rw [← fin.out]; congr 1; omega
      clear yes no bd fin L0 B0
      go_wp2
      go_ret
      exact ⟨by rw [e.out]; rfl, HA.out⟩
theorem rlat (v : Value) (ps : List (Int × Int)) (t : Int) (ht : inB t = true) (hl : ps.length ≤ 100000) (w : World) (h : LT w v ps) :
    Calls Tryd.prog 20 #[.agg #[v], .int .i64 t] w fun e w' => e = .returned (.int .i64 (ltW ps t)) ∧ Below w.heap.size w w' := by
  rw [inB_iff] at ht
  obtain ⟨t0, t1⟩ := ht
  have HT := Lib.hid (rltot v ps t ⟨by omega, by omega⟩ _ (h.old (.cells #[v] 25)))
  have A0 := Lib.hid (grow (here w) (.cells #[v] 25))
  have nb := ltN_le ps t
  unfold ltW
  generalize ltN ps t = n at *
  clear h
  go_enter Tryd.func20, Tryd.ntmps20
  go_wp2_with fail
  refine HT.out.mono ?_
  rintro e w1 ⟨rfl, hb⟩
  have A1 := Lib.hid (down A0.out hb)
  clear hb
  go_wp2
  go_ret
  exact ⟨rfl, A1.out⟩
set_option maxRecDepth 100000 in
set_option maxHeartbeats 1000000 in
theorem rlciv_out (v : Value) (ps : List (Int × Int)) (a : Int) (ha : I64 a) (hl : ps.length ≤ 100000) (w : World) (h : LT w v ps) (hb : acB ps a = false) :
    Calls Tryd.prog 18 #[.agg #[v], .int .i64 a] w fun e w' => e = .returned (.tuple #[.int .i64 0, .bool false, .int .i64 2]) ∧ Below w.heap.size w w' := by
  obtain ⟨ao, cp, rfl⟩ := h.shape
  obtain ⟨a0, a1⟩ := ha
  have c : a < -62135596800 ∨ -62135596800 ≤ a ∧ 253402300800 + (ps.length : Int) ≤ a := by
    rw [← Bool.not_eq_true, acB_iff] at hb; omega
  clear h hb
  generalize ps.length = n at *
  have B0 := (One.new (here (w.alloc (.cells #[.slice ao n cp] 25))))
  obtain ⟨bx, blt⟩ := B0
  rcases c with c | ⟨c, d⟩
  · have k := decide_eq_true c
    go_enter Tryd.func18, Tryd.ntmps18
    go_wp2
    exact bodyPost_ret (v := .tuple #[.int .i64 0, .bool false, .int .i64 2]) (by simp [results, Tryd.results18, go_sem]) rfl ⟨rfl, grow (here w) _⟩
  · have k : decide (a < -62135596800) = false := decide_eq_false (by omega)
    have j : decide (253402300800 + (n : Int) ≤ a) = true := decide_eq_true d
    go_enter Tryd.func18, Tryd.ntmps18
    go_wp2
    exact bodyPost_ret (v := .tuple #[.int .i64 0, .bool false, .int .i64 2]) (by simp [results, Tryd.results18, go_sem]) rfl ⟨rfl, grow (here w) _⟩
set_option maxRecDepth 100000 in
set_option maxHeartbeats 1000000 in
theorem rlciv_in (v : Value) (ps : List (Int × Int)) (a : Int) (ok : ltB ps = true) (hb : acB ps a = true) (w : World) (h : LT w v ps) :
    Calls Tryd.prog 18 #[.agg #[v], .int .i64 a] w fun e w' => e = .returned (.tuple #[.int .i64 (ltU ps a), .bool (ltI ps a), .int .i64 0]) ∧ Below w.heap.size w w' := by
  obtain ⟨ao, cp, rfl⟩ := h.shape
  have hl := h.len
  unfold maxLen at hl
  have L0 := Lib.hid (h.old (.cells #[.slice ao ps.length cp] 25))
  have B0 := Lib.hid (One.new (here (w.alloc (.cells #[.slice ao ps.length cp] 25))))
  clear h
  have n1 := (ltB_iff.1 ok).1
  have kle := ltK_le ps a
  have jK : Hid (ltI ps a = true → 0 < ltK ps a) := fun j => (ltI_iff.1 j).1
  have lo : Hid (∀ i, i < ltK ps a → ¬ (i + 1 = ltK ps a ∧ ltI ps a = true) → ltA ps i + i < a) := by
    show ∀ i, _
    intro i hi hn
    have q := (ltK_at ok a).1 i hi
    have u := (ltB_iff.1 ok).2
    rcases Nat.lt_or_ge (i + 1) (ltK ps a) with z | z
    · have p := (ltK_at ok a).1 (i + 1) z
      have := lt_less u (show i < i + 1 by omega) (by omega)
      omega
    · have e : i + 1 = ltK ps a := by omega
      rcases Int.lt_or_le (ltA ps i + i) a with y | y
      · exact y
      · exact absurd ⟨e, ltI_iff.2 ⟨by omega, by rw [← e]; show ltA ps i + (i : Int) = a; omega⟩⟩ hn
  have top : Hid (∀ i, i + 1 = ltK ps a → ltI ps a = true → ltA ps i + i = a ∧ ltU ps a = ltA ps i) := by
    show ∀ i, _
    intro i e hI
    have q := (ltI_iff.1 hI).2
    rw [← e] at q
    refine ⟨q, ?_⟩
    rw [ltU_yes hI, ← e]; rfl
  have up : Hid (∀ i, ltK ps a ≤ i → i < ps.length → a < ltA ps i + i) := (ltK_at ok a).2
  have tot : Hid (∀ i, i < ps.length → ltT ps i = i + 1 ∧ -62135596800 < ltA ps i ∧ ltA ps i < 253402300800) := fun i hi => by have := ltS_iff.1 ((ltB_iff.1 ok).2 i hi); omega
  have un : Hid (ltI ps a = false → ltU ps a = a - ltK ps a) := ltU_no
  obtain ⟨a0, a1⟩ := acB_iff.1 hb
  have g1 : decide (a < -62135596800) = false := decide_eq_false (by omega)
  have g2 : decide (253402300800 + (ps.length : Int) ≤ a) = false := decide_eq_false (by omega)
  clear hb ok
  generalize ltI ps a = J at *
  generalize ltU ps a = U at *
  generalize ltK ps a = K at *
  go_enter Tryd.func18, Tryd.ntmps18
  go_wp2
  go_loopw [7, 8] (fun s i wr => ∃ k : Nat, k ≤ ps.length ∧ Hid (J = true → k < K) ∧ s = .int .i64 ((min k K : Nat) : Int) ∧ i = .int .i64 k ∧ Hid (Below w.heap.size w wr) ∧ Hid (One wr w.heap.size (.slice ao ps.length cp)) ∧ Hid (LT wr (.slice ao ps.length cp) ps)) (fun _ i _ => ps.length - (intOf i).toNat)
  case atStart => exact ⟨0, Nat.zero_le _, jK.out, by simp, rfl, grow (here w) _, B0.out, L0.out⟩
  case round =>
    obtain ⟨k, hk, HJ, rfl, rfl, HA, HB, HL⟩ := hrel
    obtain ⟨bx, blt⟩ := HB.out
    have mb : ((min k K : Nat) : Int) ≤ 100 := by omega
    have mb0 : 0 ≤ ((min k K : Nat) : Int) := by omega
    by_cases z : k < ps.length
    · have kz : decide ((k : Int) < (ps.length : Int)) = true := decide_eq_true (by omega)
      obtain ⟨b, off, rfl, bl, cs⟩ := HL.out.at z
      obtain ⟨c0, c1⟩ := cs k z
      obtain ⟨tk, f0, f1⟩ := tot.out k z
      have lok := Lib.hid (lo.out k)
      have topk := Lib.hid (top.out k)
      have upk := Lib.hid (fun e => up.out k e z)
      clear lo top up tot un cs L0 B0
      generalize ltA ps k = x at *
      generalize ltT ps k = y at *
      have y0 : 1 ≤ y := by omega
      have y1 : y ≤ 100 := by omega
      replace tk := Lib.hid tk
      obtain ⟨w4, hw4⟩ : ∃ w4 : World, wr.alloc (.cells #[.int .i64 x, .int .i64 y] 33) = w4 := ⟨_, rfl⟩
      have A4 : Hid (Below w.heap.size w w4) := by rw [← hw4]; exact grow HA.out _
      have B4 : Hid (One w4 w.heap.size (.slice (some ⟨b, off, none⟩) ps.length cp)) := by rw [← hw4]; exact HB.out.old _
      have L4 : Hid (LT w4 (.slice (some ⟨b, off, none⟩) ps.length cp) ps) := by rw [← hw4]; exact HL.out.old _
      have X4 : Hid (Two w4 wr.heap.size (.int .i64 x) (.int .i64 y)) := by rw [← hw4]; exact Two.new (here _)
      obtain ⟨x0, x1, xlt⟩ := X4.out
      obtain ⟨bx4, blt4⟩ := B4.out
      have fate : (k + 1 = K ∧ J = true ∧ U = x ∧ (a == x + y - 1) = true) ∨ (k < K ∧ ¬ (k + 1 = K ∧ J = true) ∧ (a == x + y - 1) = false ∧ decide (x + y - 1 < a) = true) ∨ (K ≤ k ∧ (a == x + y - 1) = false ∧ decide (x + y - 1 < a) = false) := by
        have t := tk.out
        by_cases p : K ≤ k
        · have q := upk.out p
          exact .inr (.inr ⟨p, by rw [beq_eq_false_iff_ne]; omega, decide_eq_false (by omega)⟩)
        · by_cases r : k + 1 = K ∧ J = true
          · have q := topk.out r.1 r.2
            exact .inl ⟨r.1, r.2, q.2, by rw [beq_iff_eq]; omega⟩
          · have q := lok.out (by omega) r
            exact .inr (.inl ⟨by omega, r, by rw [beq_eq_false_iff_ne]; omega, decide_eq_true (by omega)⟩)
      clear lok topk upk HA HB HL
      rcases fate with ⟨-, rfl, rfl, q⟩ | ⟨p, r, q, q'⟩ | ⟨p, q, q'⟩
      · go_wp2
        exact bodyPost_ret (v := .tuple #[.int .i64 U, .bool true, .int .i64 0]) (by simp [results, Tryd.results18, go_sem]) rfl ⟨rfl, A4.out⟩
      · have HJ' : Hid (J = true → k + 1 < K) := fun j => by have : ¬ k + 1 = K := fun e => r ⟨e, j⟩; omega
        clear r
        go_wp2
        go_roundw
        case rel => exact ⟨k + 1, by omega, HJ', by rw [show min (k + 1) K = k + 1 by omega, tk.out]; go_num, by go_num, A4, B4, L4⟩
        case measure => simp [intOf]; omega
      · have HJ' : Hid (J = true → k + 1 < K) := fun j => by have := HJ.out j; omega
        go_wp2
        go_roundw
        case rel => exact ⟨k + 1, by omega, HJ', by rw [show min (k + 1) K = min k K by omega], by go_num, A4, B4, L4⟩
        case measure => simp [intOf]; omega
    · have kz : decide ((k : Int) < (ps.length : Int)) = false := decide_eq_false (by omega)
      have e : min k K = K := by omega
      have jf : J = false := by
        cases J
        · rfl
        · have := HJ.out rfl; omega
      have ue := Lib.hid (un.out jf)
      subst jf
      rw [e]
      clear lo top up tot un L0 B0
      go_wp2
      exact bodyPost_ret (v := .tuple #[.int .i64 (a - K), .bool false, .int .i64 0]) (by simp [results, Tryd.results18, go_sem]) rfl ⟨by rw [ue.out], HA.out⟩
end Go.Proofs.YtocimbiidloofaaDoor
