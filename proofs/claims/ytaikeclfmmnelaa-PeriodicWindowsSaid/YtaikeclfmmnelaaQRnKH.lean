/- Contracts of package runs: Union, Meet, Minus, Either, Not, Move. -/
import Derived.Test.YtaikeclfmmnelaaQRnKC
import Derived.Test.YtaikeclfmmnelaaQGE
import Derived.Test.YtaikeclfmmnelaaQGB
import Derived.Lay
namespace Go.Proofs.Ytaikeclfmmnelaa

open Go.RowKit

set_option linter.unusedVariables false

theorem ruunion_keep (x y : Bool) (w : World) : Calls Try.prog 90 #[.bool x, .bool y] w fun e w' => e = .returned (.bool (kpB 1 x y)) ∧ w = w' := by
  cases x <;> cases y
  all_goals
    go_enter Try.func90, Try.ntmps90
    go_wp2
    go_ret
    exact ⟨rfl, rfl⟩
theorem ruunion (va vb : Value) (A B : List Sp) (hA : A.length ≤ maxLen) (hB : B.length ≤ maxLen) {ba bb : Nat} (w : World) (a : PairS ba w va A) (b : PairS bb w vb B) :
    Calls Try.prog 63 #[va, vb] w fun e w' => (∃ v', e = .returned (.tuple #[v', .int .i64 (ruAp 1 A B).2]) ∧ PairS w.heap.size w' v' (ruAp 1 A B).1 ∧ CapS v') ∧ Below w.heap.size w w' := by
  have HC := Lib.hid (rucombine 1 90 (enters_of Try.func90 (by kernel_rfl) rfl) ruunion_keep va vb A B hA hB w a b)
  generalize ruAp 1 A B = R at *
  clear a b hA hB
  go_enter Try.func63, Try.ntmps63
  go_wp2_with fail
  refine HC.out.mono ?_
  rintro e w1 ⟨⟨v, rfl, P1, C1⟩, hb⟩
  replace hb := Lib.hid hb
  replace P1 := Lib.hid P1
  go_wp2
  go_ret2
  exact ⟨⟨_, rfl, P1.out, C1⟩, hb.out⟩
theorem rumeet_keep (x y : Bool) (w : World) : Calls Try.prog 91 #[.bool x, .bool y] w fun e w' => e = .returned (.bool (kpB 2 x y)) ∧ w = w' := by
  cases x <;> cases y
  all_goals
    go_enter Try.func91, Try.ntmps91
    go_wp2
    go_ret
    exact ⟨rfl, rfl⟩
theorem rumeet (va vb : Value) (A B : List Sp) (hA : A.length ≤ maxLen) (hB : B.length ≤ maxLen) {ba bb : Nat} (w : World) (a : PairS ba w va A) (b : PairS bb w vb B) :
    Calls Try.prog 64 #[va, vb] w fun e w' => (∃ v', e = .returned (.tuple #[v', .int .i64 (ruAp 2 A B).2]) ∧ PairS w.heap.size w' v' (ruAp 2 A B).1 ∧ CapS v') ∧ Below w.heap.size w w' := by
  have HC := Lib.hid (rucombine 2 91 (enters_of Try.func91 (by kernel_rfl) rfl) rumeet_keep va vb A B hA hB w a b)
  generalize ruAp 2 A B = R at *
  clear a b hA hB
  go_enter Try.func64, Try.ntmps64
  go_wp2_with fail
  refine HC.out.mono ?_
  rintro e w1 ⟨⟨v, rfl, P1, C1⟩, hb⟩
  replace hb := Lib.hid hb
  replace P1 := Lib.hid P1
  go_wp2
  go_ret2
  exact ⟨⟨_, rfl, P1.out, C1⟩, hb.out⟩
theorem ruminus_keep (x y : Bool) (w : World) : Calls Try.prog 92 #[.bool x, .bool y] w fun e w' => e = .returned (.bool (kpB 3 x y)) ∧ w = w' := by
  cases x <;> cases y
  all_goals
    go_enter Try.func92, Try.ntmps92
    go_wp2
    go_ret
    exact ⟨rfl, rfl⟩
theorem ruminus (va vb : Value) (A B : List Sp) (hA : A.length ≤ maxLen) (hB : B.length ≤ maxLen) {ba bb : Nat} (w : World) (a : PairS ba w va A) (b : PairS bb w vb B) :
    Calls Try.prog 65 #[va, vb] w fun e w' => (∃ v', e = .returned (.tuple #[v', .int .i64 (ruAp 3 A B).2]) ∧ PairS w.heap.size w' v' (ruAp 3 A B).1 ∧ CapS v') ∧ Below w.heap.size w w' := by
  have HC := Lib.hid (rucombine 3 92 (enters_of Try.func92 (by kernel_rfl) rfl) ruminus_keep va vb A B hA hB w a b)
  generalize ruAp 3 A B = R at *
  clear a b hA hB
  go_enter Try.func65, Try.ntmps65
  go_wp2_with fail
  refine HC.out.mono ?_
  rintro e w1 ⟨⟨v, rfl, P1, C1⟩, hb⟩
  replace hb := Lib.hid hb
  replace P1 := Lib.hid P1
  go_wp2
  go_ret2
  exact ⟨⟨_, rfl, P1.out, C1⟩, hb.out⟩
set_option maxRecDepth 100000 in
set_option maxHeartbeats 1000000 in
theorem runot (va : Value) (A : List Sp) (hA : A.length ≤ maxLen) {ba : Nat} (x y : Int) (hx : I64 x) (hy : I64 y) (w : World) (a : PairS ba w va A) :
    Calls Try.prog 68 #[va, .agg #[.int .i64 x, .int .i64 y]] w fun e w' => (∃ v', e = .returned (.tuple #[v', .int .i64 (ruNot A (x, y)).2]) ∧ PairS w.heap.size w' v' (ruNot A (x, y)).1 ∧ CapS v') ∧ Below w.heap.size w w' := by
  obtain ⟨w1, hw1⟩ : ∃ w1 : World, w.alloc (.cells #[.int .i64 x, .int .i64 y] 37) = w1 := ⟨_, rfl⟩
  have A1 : Below w.heap.size w w1 := by rw [← hw1]; exact grow (here w) _
  have s1 : w1.heap.size = w.heap.size + 1 := by rw [← hw1, size_two]
  have PB : PairS w.heap.size (w1.alloc (.cells #[.int .i64 x, .int .i64 y] 37)) (.slice (some ⟨w1.heap.size, 0, none⟩) 1 1) [(x, y)] := by
    refine .inr ⟨w1.heap.size, 0, 1, rfl, by omega, by simp, fun j u hu => ?_⟩
    rw [Nat.zero_add, World.cell?_alloc_new]; simpa [pairs] using hu
  have HC := Lib.hid (ruminus (.slice (some ⟨w1.heap.size, 0, none⟩) 1 1) va [(x, y)] A (by show 1 ≤ maxLen; unfold maxLen; omega) hA (w1.alloc (.cells #[.int .i64 x, .int .i64 y] 37)) PB (a.keep (grow A1 _)))
  rw [not_ap] at HC
  have A2 := Lib.hid (grow A1 (.cells #[.int .i64 x, .int .i64 y] 37))
  have s2 : w.heap.size ≤ (w1.alloc (.cells #[.int .i64 x, .int .i64 y] 37)).heap.size := A2.out.size
  generalize ruNot A (x, y) = R at *
  have X1 : Two w1 w.heap.size (.int .i64 x) (.int .i64 y) := by rw [← hw1]; exact Two.new (here _)
  obtain ⟨x0, x1, xl⟩ := X1
  replace s2 := Lib.hid s2
  clear a hA PB A1 s1
  go_enter Try.func68, Try.ntmps68
  go_wp2_with fail
  refine HC.out.mono ?_
  rintro e w3 ⟨⟨v, rfl, P1, C1⟩, hb⟩
  have A3 := Lib.hid (down A2.out hb)
  replace P1 := Lib.hid (Sl.weak P1 s2.out)
  clear hb
  go_wp2
  go_ret2
  exact ⟨⟨_, rfl, P1.out, C1⟩, A3.out⟩
set_option maxRecDepth 100000 in
set_option maxHeartbeats 2000000 in
theorem rumove (va : Value) (A : List Sp) (hA : A.length ≤ maxLen) {ba : Nat} (n : Int) (hn : I64 n) (w : World) (a : PairS ba w va A) :
    Calls Try.prog 70 #[va, .int .i64 n] w fun e w' => (∃ v', e = .returned (.tuple #[v', .int .i64 (moV A n).2]) ∧ PairS w.heap.size w' v' (moV A n).1) ∧ Below w.heap.size w w' := by
  have hn' := hn
  obtain ⟨n0, n1⟩ := hn
  obtain ⟨i0, hi, hz0, hz1, hz2⟩ := info_parts infoS
  have VA := ruvalid va A hA w a
  have HL := Lib.hid a
  cases p : vaB A
  · rw [p] at VA
    have r2 : Hid (moV A n = ([], 1)) := by show _ = _; unfold moV; rw [p]; rfl
    clear p a HL
    go_enter Try.func70, Try.ntmps70
    go_wp2_with fail
    refine VA.mono ?_
    rintro e w1 ⟨rfl, hb⟩
    replace hb := Lib.hid hb
    go_wp2
    go_ret2
    rw [r2.out]
    exact ⟨⟨_, rfl, Sl.none _ _⟩, hb.out⟩
  rw [p] at VA
  by_cases t : n < -8796093022208
  · have tk : decide (n < -8796093022208) = true := decide_eq_true t
    have r2 : Hid (moV A n = ([], 2)) := by show _ = _; unfold moV; rw [p, tk, Bool.or_true]; rfl
    clear p a HL
    go_enter Try.func70, Try.ntmps70
    go_wp2_with fail
    refine VA.mono ?_
    rintro e w1 ⟨rfl, hb⟩
    replace hb := Lib.hid hb
    go_wp2
    go_ret2
    rw [r2.out]
    exact ⟨⟨_, rfl, Sl.none _ _⟩, hb.out⟩
  have tk : decide (n < -8796093022208) = false := decide_eq_false t
  by_cases u : 8796093022208 < n
  · have uk : decide (8796093022208 < n) = true := decide_eq_true u
    have r2 : Hid (moV A n = ([], 2)) := by show _ = _; unfold moV; rw [p, uk, Bool.true_or]; rfl
    clear p a HL
    go_enter Try.func70, Try.ntmps70
    go_wp2_with fail
    refine VA.mono ?_
    rintro e w1 ⟨rfl, hb⟩
    replace hb := Lib.hid hb
    go_wp2
    go_ret2
    rw [r2.out]
    exact ⟨⟨_, rfl, Sl.none _ _⟩, hb.out⟩
  have uk : decide (8796093022208 < n) = false := decide_eq_false u
  have r0 : Hid (moV A n = if spsB (shL A n) then (shL A n, 0) else ([], 2)) := by show _ = _; unfold moV; rw [p, uk, tk]; rfl
  have la := va_len p
  have AT := Lib.hid (fun k hk => va_at p (k := k) hk)
  have SA := Lib.hid (fun k hk => sh_at A n (k := k) hk)
  have sl := sh_len A n
  obtain ⟨o, c, rfl⟩ := prs_shape a
  have SPS := Lib.hid (spsB_at (L := shL A n))
  obtain ⟨N, hl⟩ : ∃ N, A.length = N := ⟨_, rfl⟩
  rw [hl] at HL AT SA sl la ⊢
  rw [hl] at VA
  generalize shL A n = M at *
  have TS := Lib.hid (fun k hk => take_snoc M (k := k) hk)
  clear p a hA
  go_enter Try.func70, Try.ntmps70
  go_wp2_with fail
  refine VA.mono ?_
  rintro e w1 ⟨rfl, hb⟩
  have A1 := Lib.hid hb
  have I0 : Hid (w1.ownsRow w.heap.size 37 2 (.slice none 0 0) 0 (pairs (M.take 0))) := World.ownsRow_nil _ _ _ _
  clear hb VA
  go_wp2
  go_loopw [6, 24] (fun s i wr => ∃ (k : Nat) (s' : Value), s' = s ∧ k ≤ N ∧ i = .int .i64 k ∧ Hid (∀ j, j < k → spB (M.getD j (0, 0)) = true) ∧ Hid (wr.ownsRow w.heap.size 37 2 s k (pairs (M.take k))) ∧ Hid (Below w.heap.size w wr)) (fun _ i _ => N - (intOf i).toNat)
  case atStart => exact ⟨0, _, rfl, Nat.zero_le _, rfl, fun j hj => absurd hj (Nat.not_lt_zero _), I0, A1⟩
  case round =>
    obtain ⟨k, s', rfl, hk, rfl, HU, HO, HA⟩ := hrel
    have HP := Lib.hid (HL.out.keep HA.out)
    clear A1 I0
    by_cases z : k < N
    · obtain ⟨k1, hk1⟩ : ∃ k1, k + 1 = k1 := ⟨_, rfl⟩
      have kz : decide ((k : Int) < (N : Int)) = true := decide_eq_true (by omega)
      obtain ⟨b, off, rfl, bl, cs⟩ := prs_here HP.out (show k < A.length by omega)
      obtain ⟨c0, c1⟩ := cs k (by omega)
      obtain ⟨a0, a1, a2⟩ := AT.out k z
      have sa := SA.out k z
      have ts := TS.out k (by omega)
      rw [sa] at ts
      clear cs AT SA TS
      generalize A.getD k (0, 0) = q at *
      obtain ⟨x, y⟩ := q
      replace c0 : wr.cell? ⟨b, off + k * 2, none⟩ = some (.int .i64 x) := c0
      replace c1 : wr.cell? ⟨b, off + k * 2 + 1, none⟩ = some (.int .i64 y) := c1
      replace a0 : -4398046511104 ≤ x := a0
      replace a1 : y ≤ 4398046511104 := a1
      replace a2 : x < y := a2
      have iv : ivB x y = true := ivB_iff.2 ⟨a0, a1, a2⟩
      have se : spB (x + n, y + n) = ivB (x + n) (y + n) := by
        rw [Bool.eq_iff_iff, spB_iff, ivB_iff]
      have HM := Lib.hid (fun W => iumove x y ⟨by omega, by omega⟩ ⟨by omega, by omega⟩ n hn' W)
      obtain ⟨b0, b1, bl2⟩ := Two.new (here (wr.alloc (.cells #[.int .i64 x, .int .i64 y] 37)))
      have OW := Lib.hid (HO.out.alloc (.cells #[.int .i64 x, .int .i64 y] 37))
      have BW := Lib.hid (grow HA.out (.cells #[.int .i64 x, .int .i64 y] 37))
      cases v : spB (x + n, y + n)
      · have e2 : mvE x y n = 2 := by unfold mvE; rw [iv, if_pos rfl, ← se, v]; rfl
        have f2 : mvF x y n = 0 := by unfold mvF; rw [e2]; rfl
        have t2 : mvT x y n = 0 := by unfold mvT; rw [e2]; rfl
        rw [e2, f2, t2] at HM
        have r2 : Hid (moV A n = ([], 2)) := by
          show _ = _; rw [r0.out]
          have : spsB M = false := by
            rw [← Bool.not_eq_true, SPS.out]; intro f
            have := f k (by omega)
            rw [sa, v] at this; cases this
          rw [this]; rfl
        clear v sa ts SPS r0 HU e2 f2 t2 iv se a0 a1 a2 OW
        go_wp2_with fail
        refine (HM.out _).mono ?_
        rintro e w3 ⟨rfl, hb⟩
        have B3 := Lib.hid (grow (down BW.out hb) (.cells #[.int .i64 0, .int .i64 0] 37))
        clear hb b0 b1 bl2 BW c0 c1 bl HP HO HA
        go_wp2
        go_ret2
        rw [r2.out]
        exact ⟨⟨_, rfl, Sl.none _ _⟩, B3.out⟩
      · have e2 : mvE x y n = 0 := by unfold mvE; rw [iv, if_pos rfl, ← se, v]; rfl
        have f2 : mvF x y n = x + n := by unfold mvF; rw [e2]; rfl
        have t2 : mvT x y n = y + n := by unfold mvT; rw [e2]; rfl
        rw [e2, f2, t2] at HM
        have HU2 : Hid (∀ j, j < k1 → spB (M.getD j (0, 0)) = true) := fun j hj => by
          rcases Nat.lt_or_ge j k with q | q
          · exact HU.out j q
          · obtain rfl : j = k := by omega
            rw [sa]; exact v
        rw [hk1] at ts
        replace ts := Lib.hid ts
        clear v sa SPS r0 HU e2 f2 t2 iv se a0 a1 a2
        obtain ⟨x', hx'⟩ : ∃ x', x + n = x' := ⟨_, rfl⟩
        obtain ⟨y', hy'⟩ : ∃ y', y + n = y' := ⟨_, rfl⟩
        rw [hx', hy'] at HM ts
        clear hx' hy' u t uk tk
        go_wp2_with fail
        refine (HM.out _).mono ?_
        rintro e w3 ⟨rfl, hb⟩
        obtain ⟨w5, hw5⟩ : ∃ w5 : World, w3.alloc (.cells #[.int .i64 x', .int .i64 y'] 37) = w5 := ⟨_, rfl⟩
        have B3 := Lib.hid (grow (down BW.out hb) (.cells #[.int .i64 x', .int .i64 y'] 37))
        have O3 := Lib.hid ((owns_below OW.out hb).alloc (.cells #[.int .i64 x', .int .i64 y'] 37))
        clear hb b0 b1 bl2 BW OW c0 c1 bl HP HO HA
        have X5 : Two w5 w3.heap.size (.int .i64 x') (.int .i64 y') := by rw [← hw5]; exact Two.new (here _)
        obtain ⟨b0, b1, bl2⟩ := X5
        rw [hw5] at B3 O3
        go_wp2_with (at_builtin; refine wpList_append_own _ rfl _ _ 22 rfl w.heap.size 37 i0 (.agg #[.int .i64 0, .int .i64 0]) 2 16 Try.underlying22 hi hz0 hz1 hz2 rfl (by decide) s' k (pairs (M.take k)) rfl (O3.out.alloc _) ⟨w5.heap.size, 0, none⟩ 1 1 [.int .i64 x', .int .i64 y'] rfl rfl ?c1 ?c2 ?c3 ?c4 ?c5 ?_)
        case c1 => intro j u hj; rw [Addr.add_lit, Nat.zero_add, World.cell?_alloc_new]; simpa using hj
        case c2 => intro u hu; simp at hu; rcases hu with rfl | rfl <;> rfl
        case c3 => unfold maxLen; omega
        case c4 => omega
        case c5 => have := B3.out.size; simp at this ⊢; omega
        intro v4 w4 hown hgrow _
        have B4 : Hid (Below w.heap.size w w4) := (B3.out.alloc B3.out.size _).grown hgrow (by have := B3.out.size; simp at this ⊢; omega) (own_ge O3.out)
        have O4 : Hid (w4.ownsRow w.heap.size 37 2 v4 k1 (pairs (M.take k1))) := by show World.ownsRow _ _ _ _ _ _ _; rw [ts.out, pairs_append]; exact hown
        clear hown hgrow O3 B3 b0 b1 bl2 ts hw5
        go_wp2
        go_roundw
        case rel => exact ⟨k1, _, rfl, by omega, by first | rfl | (congr 1; omega) | go_num, HU2, O4, B4⟩
        case measure => simp [intOf]; omega
    · obtain rfl : k = N := by omega
      have kz : decide ((k : Int) < (k : Int)) = false := decide_eq_false (by omega)
      have tk : M.take k = M := List.take_of_length_le (by omega)
      have sp : spsB M = true := SPS.out.2 (fun i hi => HU.out i (by omega))
      have r2 : Hid (moV A n = (M, 0)) := by show _ = _; rw [r0.out, sp]; rfl
      have O2 := HO.out
      rw [tk] at O2
      have P2 : Hid (PairS w.heap.size wr s' M) := by show Sl _ _ _ _ _; rw [sl]; exact Sl.owns O2
      clear sp tk SPS r0 HU O2 HO HP AT SA TS
      go_wp2
      go_ret2
      rw [r2.out]
      exact ⟨⟨_, rfl, P2.out⟩, HA.out⟩
end Go.Proofs.Ytaikeclfmmnelaa
