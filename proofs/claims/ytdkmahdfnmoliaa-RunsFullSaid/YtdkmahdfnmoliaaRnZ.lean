/- Contracts of civiltimeref12: Move. -/
import Derived.Test.YtdkmahdfnmoliaaRnY
namespace Go.Proofs.Ytdkmahdfnmoliaa
open Go.RowKit
set_option linter.unusedVariables false

theorem sh_at (L : List Sp) (n : Int) {k : Nat} (hk : k < L.length) : (shL L n).getD k (0, 0) = ((L.getD k (0, 0)).1 + n, (L.getD k (0, 0)).2 + n) := by
  unfold shL
  rw [List.getD_eq_getElem?_getD, List.getD_eq_getElem?_getD, List.getElem?_map, List.getElem?_eq_getElem hk]; rfl
theorem take_snoc (M : List Sp) {k : Nat} (hk : k < M.length) : M.take (k + 1) = M.take k ++ [M.getD k (0, 0)] := by
  rw [List.take_add_one, List.getD_eq_getElem?_getD, List.getElem?_eq_getElem hk]; rfl
set_option maxRecDepth 100000 in
set_option maxHeartbeats 2000000 in
theorem rnmove (va : Value) (L : List Sp) (hL : L.length ≤ maxLen) (n : Int) (hn : I64 n) {base : Nat} (w : World) (h : PairS base w va L) :
    Calls Try.prog 44 #[va, .int .i64 n] w fun e w' => (∃ v', e = .returned (.tuple #[v', .int .i64 (moV L n).2]) ∧ PairS w.heap.size w' v' (moV L n).1) ∧ Below w.heap.size w w' := by
  obtain ⟨n0, n1⟩ := hn
  obtain ⟨i0, hi, hz0, hz1, hz2⟩ := info_parts infoS
  have VA := rnvalid va L hL w h
  have HL := Lib.hid h
  cases p : vaB L
  · rw [p] at VA
    have r2 : Hid (moV L n = ([], 1)) := by show _ = _; unfold moV; rw [p]; rfl
    clear p h HL
    go_enter Try.func44, Try.ntmps44
    go_wp2_with fail
    refine VA.mono ?_
    rintro e w1 ⟨rfl, hb⟩
    go_wp2
    go_ret2
    rw [r2.out]
    exact ⟨⟨_, rfl, prs_nil _ _⟩, hb⟩
  rw [p] at VA
  by_cases u : 8796093022208 < n
  · have uk : decide (8796093022208 < n) = true := decide_eq_true u
    have r2 : Hid (moV L n = ([], 2)) := by show _ = _; unfold moV; rw [p, uk]; rfl
    clear p h HL
    go_enter Try.func44, Try.ntmps44
    go_wp2_with fail
    refine VA.mono ?_
    rintro e w1 ⟨rfl, hb⟩
    go_wp2
    go_ret2
    rw [r2.out]
    exact ⟨⟨_, rfl, prs_nil _ _⟩, hb⟩
  have uk : decide (8796093022208 < n) = false := decide_eq_false u
  by_cases t : n < -8796093022208
  · have tk : decide (n < -8796093022208) = true := decide_eq_true t
    have r2 : Hid (moV L n = ([], 2)) := by show _ = _; unfold moV; rw [p, uk, tk]; rfl
    clear p h HL
    go_enter Try.func44, Try.ntmps44
    go_wp2_with fail
    refine VA.mono ?_
    rintro e w1 ⟨rfl, hb⟩
    go_wp2
    go_ret2
    rw [r2.out]
    exact ⟨⟨_, rfl, prs_nil _ _⟩, hb⟩
  have tk : decide (n < -8796093022208) = false := decide_eq_false t
  have r0 : Hid (moV L n = if spsB (shL L n) then (shL L n, 0) else ([], 2)) := by show _ = _; unfold moV; rw [p, uk, tk]; rfl
  have la := va_len p
  have AT := Lib.hid (fun k hk => va_at p (k := k) hk)
  have SA := Lib.hid (fun k hk => sh_at L n (k := k) hk)
  have sl := sh_len L n
  obtain ⟨o, c, rfl⟩ := prs_shape h
  have SPS := Lib.hid (spsB_at (L := shL L n))
  obtain ⟨N, hl⟩ : ∃ N, L.length = N := ⟨_, rfl⟩
  rw [hl] at HL AT SA sl la ⊢
  rw [hl] at VA
  generalize shL L n = M at *
  have TS := Lib.hid (fun k hk => take_snoc M (k := k) hk)
  clear p h hL
  go_enter Try.func44, Try.ntmps44
  go_wp2_with fail
  refine VA.mono ?_
  rintro e w1 ⟨rfl, hb⟩
  have A1 := Lib.hid hb
  have I0 : Hid (w1.ownsRow w.heap.size 33 2 (.slice none 0 0) 0 (pairs (M.take 0))) := World.ownsRow_nil _ _ _ _
  clear hb VA
  go_wp2
  go_loopw [6, 7] (fun s i wr => ∃ (k : Nat) (s' : Value), s' = s ∧ k ≤ N ∧ i = .int .i64 k ∧ Hid (∀ j, j < k → spB (M.getD j (0, 0)) = true) ∧ Hid (wr.ownsRow w.heap.size 33 2 s k (pairs (M.take k))) ∧ Hid (Below w.heap.size w wr)) (fun _ i _ => N - (intOf i).toNat)
  case atStart => exact ⟨0, _, rfl, Nat.zero_le _, rfl, fun j hj => absurd hj (Nat.not_lt_zero _), I0, A1⟩
  case round =>
    obtain ⟨k, s', rfl, hk, rfl, HU, HO, HA⟩ := hrel
    have HP := Lib.hid (HL.out.keep HA.out)
    clear A1 I0
    by_cases z : k < N
    · obtain ⟨k1, hk1⟩ : ∃ k1, k + 1 = k1 := ⟨_, rfl⟩
      have kz : decide ((k : Int) < (N : Int)) = true := decide_eq_true (by omega)
      obtain ⟨b, off, rfl, bl, cs⟩ := prs_here HP.out (show k < L.length by omega)
      obtain ⟨c0, c1⟩ := cs k (by omega)
      obtain ⟨a0, a1, a2⟩ := AT.out k z
      have sa := SA.out k z
      have ts := TS.out k (by omega)
      rw [sa] at ts
      clear cs AT SA TS
      generalize L.getD k (0, 0) = q at *
      obtain ⟨x, y⟩ := q
      replace c0 : wr.cell? ⟨b, off + k * 2, none⟩ = some (.int .i64 x) := c0
      replace c1 : wr.cell? ⟨b, off + k * 2 + 1, none⟩ = some (.int .i64 y) := c1
      replace a0 : -4398046511104 ≤ x := a0
      replace a1 : y ≤ 4398046511104 := a1
      replace a2 : x < y := a2
      have VS := Lib.hid (fun w => rnspan (x + n) (y + n) w)
      go_wp2
      go_region
      refine at_world (G := fun W' => Exit.then _ _ Exit.normal _ W') (fun W' => Below wr.heap.size wr W' ∧ Two W' wr.heap.size (.int .i64 (x + n)) (.int .i64 (y + n))) ⟨(grow (here _) _).drew, (Two.new (here _)).drewN 1⟩ ?_
      rintro W ⟨AW, TW⟩
      have OW := Lib.hid (owns_below HO.out AW)
      have BW := Lib.hid (down HA.out AW)
      have TW2 := Lib.hid TW
      obtain ⟨t0, t1, tl⟩ := TW
      clear AW HO HA HP c0 c1 bl
      obtain ⟨x', hx'⟩ : ∃ x', x + n = x' := ⟨_, rfl⟩
      obtain ⟨y', hy'⟩ : ∃ y', y + n = y' := ⟨_, rfl⟩
      simp only [hx', hy'] at VS sa ts TW2 t0 t1 ⊢
      cases v : spB (x', y')
      · rw [v] at VS
        have r2 : Hid (moV L n = ([], 2)) := by
          show _ = _; rw [r0.out]
          have : spsB M = false := by
            rw [← Bool.not_eq_true, SPS.out]; intro f
            have := f k (by omega)
            rw [sa, v] at this; cases this
          rw [this]; rfl
        clear v sa ts SPS r0 HU OW TW2 hx' hy'
        go_wp2_with fail
        refine (VS.out _).mono ?_
        rintro e w3 ⟨rfl, hb⟩
        have B3 := down BW.out hb
        clear hb t0 t1 tl
        go_wp2
        go_ret2
        rw [r2.out]
        exact ⟨⟨_, rfl, prs_nil _ _⟩, B3⟩
      · rw [v] at VS
        have HU2 : Hid (∀ j, j < k1 → spB (M.getD j (0, 0)) = true) := fun j hj => by
          rcases Nat.lt_or_ge j k with q | q
          · exact HU.out j q
          · obtain rfl : j = k := by omega
            rw [sa]; exact v
        rw [hk1] at ts
        replace ts := Lib.hid ts
        clear v sa SPS r0 HU hx' hy' u t
        go_wp2_with fail
        refine (VS.out _).mono ?_
        rintro e w3 ⟨rfl, hb⟩
        have B3 := Lib.hid (down BW.out hb)
        have O3 := Lib.hid (owns_below OW.out hb)
        have T3 := TW2.out.keep hb
        clear hb t0 t1 tl BW OW TW2
        obtain ⟨t0, t1, tl⟩ := T3
        go_wp2_with (at_builtin; refine wpList_append_own _ rfl _ _ 22 rfl w.heap.size 33 i0 (.agg #[.int .i64 0, .int .i64 0]) 2 16 Try.underlying22 hi hz0 hz1 hz2 rfl (by decide) s' k (pairs (M.take k)) rfl (O3.out.alloc _) ⟨w3.heap.size, 0, none⟩ 1 1 [.int .i64 x', .int .i64 y'] rfl rfl ?c1 ?c2 ?c3 ?c4 ?c5 ?_)
        case c1 => intro j u hj; rw [Addr.add_lit, Nat.zero_add, World.cell?_alloc_new]; simpa using hj
        case c2 => intro u hu; simp at hu; rcases hu with rfl | rfl <;> rfl
        case c3 => unfold maxLen; omega
        case c4 => omega
        case c5 => have := B3.out.size; simp; omega
        intro v4 w4 hown hgrow _
        have B4 : Hid (Below w.heap.size w w4) := (B3.out.alloc B3.out.size _).grown hgrow (by have := B3.out.size; simp; omega) (own_ge O3.out)
        have O4 : Hid (w4.ownsRow w.heap.size 33 2 v4 k1 (pairs (M.take k1))) := by show World.ownsRow _ _ _ _ _ _ _; rw [ts.out, pairs_append]; exact hown
        clear hown hgrow O3 B3 t0 t1 tl ts
        go_wp2
        go_roundw
        case rel => exact ⟨k1, _, rfl, by omega, by first | rfl | (congr 1; omega) | go_num, HU2, O4, B4⟩
        case measure => simp [intOf]; omega
    · obtain rfl : k = N := by omega
      have kz : decide ((k : Int) < (k : Int)) = false := decide_eq_false (by omega)
      have tk : M.take k = M := List.take_of_length_le (by omega)
      have sp : spsB M = true := SPS.out.2 (fun i hi => HU.out i (by omega))
      have r2 : Hid (moV L n = (M, 0)) := by show _ = _; rw [r0.out, sp]; rfl
      have O2 := HO.out
      rw [tk] at O2
      have P2 : Hid (PairS w.heap.size wr s' M) := by show Sl _ _ _ _ _; rw [sl]; exact Sl.owns O2
      clear sp tk SPS r0 HU O2 HO HP AT SA TS
      go_wp2
      go_ret2
      rw [r2.out]
      exact ⟨⟨_, rfl, P2.out⟩, HA.out⟩
end Go.Proofs.Ytdkmahdfnmoliaa
