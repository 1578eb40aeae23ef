/- Contracts of package leap: a table that is read. -/
import Derived.Test.YtocimbiidloofaaGreatDoorLtU2

import Derived.Test.YtocimbiidloofaaGreatDoorLtTxt

import Derived.Test.YtocimbiidloofaaGreatDoorLCut

import Derived.Test.YtocimbiidloofaaGreatDoorLCivT

import Derived.Test.YtocimbiidloofaaGreatDoorLCkA

import Derived.Test.YtocimbiidloofaaGreatDoorLOwn

import Derived.OwnWalk

namespace Go.Proofs.YtocimbiidloofaaGreatDoor

open Go.RowKit

set_option linter.unusedVariables false

structure Tabs (w : World) : Prop where
  lens : Lens w
  tab : Tab w
  ev : Ev w
theorem Tabs.below {w w' : World} (h : Tabs w) (hb : Below w.heap.size w w') : Tabs w' := ⟨lens_below h.lens hb, tab_below h.tab hb, ev_below h.ev hb⟩
theorem infoStepU : (Tryz.prog.info? 35).map (fun i => (i.zero, i.size, i.bytes)) = some (some (.agg #[.int .i64 0, .int .i64 0]), 2, 16) := by kernel_rfl
/-- What civil.Parse answers to a line. -/
def pdE (c : List UInt8) : Int := if formL c then (if vld (yearOf c) (monOf c) (dayOf c) then 0 else 1) else 3
theorem pdE_iff (c : List UInt8) : pdE c = 0 ↔ isD c = true := by
  unfold pdE isD
  cases formL c
  · simp
  · cases vld (yearOf c) (monOf c) (dayOf c) <;> simp
theorem ulpd (s : ByteArray) (hs : s.size ≤ maxLen) (w : World) (ht : Tabs w) :
    Calls Tryz.prog 34 #[.string s] w fun e w' => (∃ Y M D : Int, e = .returned (.tuple #[.agg #[.int .i64 Y, .int .i64 M, .int .i64 D], .int .i64 (pdE s.data.toList)]) ∧ (isD s.data.toList = true → vld Y M D = true ∧ dayN Y M D = dyOf s.data.toList)) ∧ Below w.heap.size w w' := by
  cases h : formL s.data.toList
  · refine (cparse_form s hs h w).mono ?_
    rintro e w' ⟨rfl, hb⟩
    refine ⟨⟨0, 0, 0, by unfold pdE; rw [h]; rfl, fun q => ?_⟩, hb⟩
    unfold isD at q; rw [h] at q; cases q
  · refine (cparse_some s h _ _ _ _ rfl rfl rfl rfl w ht.lens ht.ev).mono ?_
    rintro e w' ⟨rfl, hb⟩
    refine ⟨⟨_, _, _, by unfold pdE; rw [h]; rfl, fun q => ?_⟩, hb⟩
    have v := (isD_form q).2
    rw [v]
    exact ⟨v, rfl⟩
/-- The length of a text. -/
def strZ : Value → Nat
  | .string r => r.size
  | _ => 0
/-- What readSteps hands back. -/
def RdOK (l : List UInt8) (base : Nat) (w : World) (e : Ending) : Prop :=
  (ltForm l = true ∧ ∃ v, e = .returned (.tuple #[v, .bool true]) ∧ PairS base w v (ltRows l (l.length / 11))) ∨ (ltForm l = false ∧ e = .returned (.tuple #[.slice none 0 0, .bool false]))
set_option maxRecDepth 100000 in
set_option maxHeartbeats 1000000 in
theorem ulread (s : ByteArray) (hs : s.size ≤ 2000) (w : World) (ht : Tabs w) :
    Calls Tryz.prog 19 #[.string s] w fun e w' => RdOK s.data.toList w.heap.size w' e ∧ Below w.heap.size w w' := by
  have hl : s.data.toList.length = s.size := Array.length_toList
  have HP := Lib.hid (fun u hu w h => ulpd u hu w h)
  have HK := Lib.hid (fun Y M D v w h => kof_yes Y M D 0 0 0 v (by decide) w h)
  have FB := Lib.hid (fun k i => @lt_bad s.data.toList k i)
  have FC := Lib.hid (fun k i => @lt_cut s.data.toList k i)
  have FT := Lib.hid (fun k => @lt_tail s.data.toList k)
  have FE := Lib.hid (fun k => @lt_end s.data.toList k)
  have SZ := Lib.hid hl
  have HTB := Lib.hid ht
  have s0 : Hid (s.data.toList = s.data.toList.drop (11 * 0)) := by show _ = _; simp
  obtain ⟨i0, hi, hz0, hz1, hz2⟩ := info_parts infoStepU
  clear hl ht
  go_enter Tryz.func19, Tryz.ntmps19
  go_wp2
  go_loopw [0, 2] (fun a b wr => ∃ (k : Nat) (r : ByteArray) (v : Value), 11 * k ≤ s.size ∧ a = .string r ∧ b = v ∧ Hid (r.data.toList = s.data.toList.drop (11 * k)) ∧ Hid (∀ j, j < k → ltG s.data.toList j = true) ∧ Hid (Below w.heap.size w wr) ∧ Hid (wr.ownsRow w.heap.size 35 2 v k (pairs (ltRows s.data.toList k)))) (fun a _ _ => strZ a)
  case atStart => exact ⟨0, s, _, Nat.zero_le _, rfl, rfl, s0.out, fun j hj => absurd hj (Nat.not_lt_zero _), here w, by show World.ownsRow _ _ _ _ _ _ _; exact World.ownsRow_nil _ _ _ _⟩
  case round =>
    obtain ⟨k, r, v, ks, rfl, rfl, HR, HG, HA, HO⟩ := hrel
    obtain ⟨ao, cp, rfl⟩ := (Sl.owns HO.out).shape
    have rl : r.data.toList.length = r.size := Array.length_toList
    have rz : r.size = s.size - 11 * k := by rw [← rl, HR.out, List.length_drop, SZ.out]
    by_cases z : r.size = 0
    · have e0 : r = ⟨#[]⟩ := by
        apply ByteArray.ext
        exact Array.eq_empty_of_size_eq_zero z
      have f := FE.out k (by have := SZ.out; omega) HG.out
      have PS := Sl.owns HO.out
      have PL : Hid (PairS w.heap.size wr (.slice ao k cp) (ltRows s.data.toList (s.data.toList.length / 11))) := by
        rw [f.2]; show Sl _ _ _ _ _; rw [ltRows_len]; exact PS
      have F1 := Lib.hid f.1
      clear f PS HO HR rl rz z HP HK FB FC FT FE HG
      subst e0
      go_wp2
      go_ret2
      exact ⟨.inl ⟨F1.out, _, rfl, PL.out⟩, HA.out⟩
    · have ne : r.toList.isEmpty = false := by
        rw [ByteArray.toList_eq, List.isEmpty_eq_false_iff]; intro e; rw [e] at rl; simp at rl; omega
      have hT : ∀ w', Below w.heap.size w w' → Tabs w' := fun w' h => HTB.out.below h
      rcases first_at 10 r.data.toList with h | ⟨i, hi', f, e⟩
      · have FF : Hid (ltForm s.data.toList = false) := FT.out k (by have := SZ.out; omega) (fun j h0 h1 => by
          have q := h (j - 11 * k) (by have := SZ.out; omega)
          rw [HR.out] at q
          simpa [List.getD_eq_getElem?_getD, List.getElem?_drop, show 11 * k + (j - 11 * k) = j by omega] using q)
        have HC := Lib.hid (fun w => cut_no r (by omega) 10 h w)
        have HQ := Lib.hid (fun w h => HP.out r (by unfold maxLen; omega) w h)
        generalize pdE r.data.toList = E at *
        clear h FB FC FT FE HG HR HP HK rl
        go_wp2_with fail
        refine (HC.out _).mono ?_
        rintro e w3 ⟨rfl, m, rfl⟩
        go_wp2_with fail
        refine (HQ.out _ (hT _ (below_drewN HA.out m))).mono ?_
        rintro e w5 ⟨⟨Y, M, D, rfl, -⟩, hb⟩
        have A5 := Lib.hid (down (below_drewN HA.out m) hb)
        clear hb
        have X5 := Box.new (here (w5.alloc (.cells #[.int .i64 Y, .int .i64 M, .int .i64 D] 45)))
        obtain ⟨x0, x1, x2, xlt⟩ := X5
        go_wp2
        go_ret2
        exact ⟨.inr ⟨FF.out, rfl⟩, grow A5.out _⟩
      · have hab : 11 * k + i < s.data.toList.length := by have := SZ.out; omega
        have nl : s.data.toList.getD (11 * k + i) 0 = 10 := by
          rw [HR.out] at e
          simpa [List.getD_eq_getElem?_getD, List.getElem?_drop] using e
        have free : ∀ j, 11 * k ≤ j → j < 11 * k + i → ¬ s.data.toList.getD j 0 = 10 := fun j h0 h1 => by
          have q := f (j - 11 * k) (by omega)
          rw [HR.out] at q
          simpa [List.getD_eq_getElem?_getD, List.getElem?_drop, show 11 * k + (j - 11 * k) = j by omega] using q
        have HC := Lib.hid (fun w => cut_yes r (by omega) 10 i hi' f e w)
        have hc : (r.extract 0 i).data.toList = (s.data.toList.drop (11 * k)).take (11 * k + i - 11 * k) := by
          rw [Lib.extract_data r 0 i, HR.out, List.drop_zero]; congr 1; omega
        have hd : Hid ((r.extract (i + 1) r.size).data.toList = s.data.toList.drop (11 * k + (i + 1))) := by
          show _ = _
          rw [Lib.extract_data r (i + 1) r.size, List.take_of_length_le (by rw [List.length_drop]; omega), HR.out, List.drop_drop]
        have hz : (r.extract (i + 1) r.size).size < r.size := by rw [ByteArray.size_extract]; omega
        have HQ := Lib.hid (fun w h => HP.out (r.extract 0 i) (by rw [ByteArray.size_extract]; unfold maxLen; omega) w h)
        rw [hc] at HQ
        have pd := pdE_iff ((s.data.toList.drop (11 * k)).take (11 * k + i - 11 * k))
        clear HP f e hc hi' rl rz z
        generalize r.extract 0 i = r1 at *
        generalize r.extract (i + 1) r.size = r2 at *
        cases g : isD ((s.data.toList.drop (11 * k)).take (11 * k + i - 11 * k))
        · have FF : Hid (ltForm s.data.toList = false) := FB.out k (11 * k + i) (by omega) hab free nl g
          have ke : (pdE ((s.data.toList.drop (11 * k)).take (11 * k + i - 11 * k)) != 0) = true := by
            rw [bne_iff_ne]; intro q; rw [pd.1 q] at g; cases g
          clear FB FC FT FE HG hab nl free pd g hd
          generalize pdE ((s.data.toList.drop (11 * k)).take (11 * k + i - 11 * k)) = E at *
          go_wp2_with fail
          refine (HC.out _).mono ?_
          rintro e w3 ⟨rfl, m, rfl⟩
          go_wp2_with fail
          refine (HQ.out _ (hT _ (below_drewN HA.out m))).mono ?_
          rintro e w5 ⟨⟨Y, M, D, rfl, -⟩, hb⟩
          have A5 := Lib.hid (down (below_drewN HA.out m) hb)
          clear hb
          have X5 := Box.new (here (w5.alloc (.cells #[.int .i64 Y, .int .i64 M, .int .i64 D] 45)))
          obtain ⟨x0, x1, x2, xlt⟩ := X5
          go_wp2
          go_ret2
          exact ⟨.inr ⟨FF.out, rfl⟩, grow A5.out _⟩
        · obtain ⟨ei, gk⟩ := FC.out k (11 * k + i) g hab nl
          have HG' : Hid (∀ j, j < k + 1 → ltG s.data.toList j = true) := fun j hj => by
            rcases Nat.lt_or_ge j k with c | c
            · exact HG.out j c
            · obtain rfl : j = k := by omega
              exact gk
          have bd := dyOf_bd g
          have rs := Lib.hid (ltRows_succ s.data.toList k)
          have rk : Hid (ltRow s.data.toList k = ((dyOf ((s.data.toList.drop (11 * k)).take (11 * k + i - 11 * k)) + 1) * 86400, (k : Int) + 1)) := by show _ = _; unfold ltRow; rw [ei, show 11 * k + 10 - 11 * k = 10 by omega]
          rw [pd.2 g, g] at HQ
          have hR' : Hid (r2.data.toList = s.data.toList.drop (11 * (k + 1))) := by show _ = _; rw [hd.out]; congr 1; omega
          have kb : k ≤ 181 := by have := SZ.out; omega
          have ks' : 11 * (k + 1) ≤ s.size := by have := SZ.out; omega
          clear g gk FB FC FT FE HG hab nl free pd hd ei
          generalize dyOf ((s.data.toList.drop (11 * k)).take (11 * k + i - 11 * k)) = y at *
          go_wp2_with fail
          refine (HC.out _).mono ?_
          rintro e w3 ⟨rfl, m, rfl⟩
          have A4 := Lib.hid (below_drewN HA.out m)
          have O4 : Hid ((wr.drewN m).ownsRow w.heap.size 35 2 (.slice ao k cp) k (pairs (ltRows s.data.toList k))) := owns_below HO.out (below_drewN (here wr) m)
          go_wp2_with fail
          refine (HQ.out _ (hT _ A4.out)).mono ?_
          rintro e w5 ⟨⟨Y, M, D, rfl, hv⟩, hb⟩
          obtain ⟨v, dy⟩ := hv trivial
          have A5 := Lib.hid (down A4.out hb)
          have O5 : Hid (w5.ownsRow w.heap.size 35 2 (.slice ao k cp) k (pairs (ltRows s.data.toList k))) := owns_below O4.out hb
          clear hb hv HQ HC A4 O4 HA HO
          obtain ⟨w6, hw6⟩ : ∃ w6 : World, w5.alloc (.cells #[.int .i64 Y, .int .i64 M, .int .i64 D] 45) = w6 := ⟨_, rfl⟩
          have X6 : Box w6 w5.heap.size (.int .i64 Y) (.int .i64 M) (.int .i64 D) := by rw [← hw6]; exact Box.new (here _)
          have A6 : Hid (Below w.heap.size w w6) := by rw [← hw6]; exact grow A5.out _
          have O6 : Hid (w6.ownsRow w.heap.size 35 2 (.slice ao k cp) k (pairs (ltRows s.data.toList k))) := by rw [← hw6]; exact owns_below O5.out (grow (here w5) _)
          have hk := HK.out Y M D v w6 (hT _ A6.out).lens
          obtain ⟨N, hN⟩ : ∃ N, 86400 * dayN Y M D + secT 0 0 0 = N := ⟨_, rfl⟩
          have nb : N = 86400 * y := by rw [← hN, dy]; simp [secT]
          rw [hN] at hk
          have n0 : -62135596800 ≤ N := by omega
          have n1 : N < 253402300800 := by omega
          obtain ⟨YY, hY⟩ : ∃ Z, N + 86400 = Z := ⟨_, rfl⟩
          have hYY : Hid ((y + 1) * 86400 = YY) := by show _ = _; omega
          replace hk := Lib.hid hk
          replace v := Lib.hid v
          replace dy := Lib.hid dy
          replace nb := Lib.hid nb
          clear hN A5 O5
          obtain ⟨x0, x1, x2, xlt⟩ := X6
          go_wp2_with fail
          refine hk.out.mono ?_
          rintro e w7 ⟨rfl, hb⟩
          have A7 := Lib.hid (down A6.out hb)
          have O7 : Hid (w7.ownsRow w.heap.size 35 2 (.slice ao k cp) k (pairs (ltRows s.data.toList k))) := owns_below O6.out hb
          have S7 : Hid (w.heap.size ≤ w7.heap.size) := A7.out.size
          clear hb hk x0 x1 x2 xlt hw6 A6 O6
          go_wp2_with (at_builtin; refine wpList_append_own _ rfl _ _ 22 rfl w.heap.size 35 i0 (.agg #[.int .i64 0, .int .i64 0]) 2 16 Tryz.underlying22 hi hz0 hz1 hz2 rfl (by decide) (.slice ao k cp) k (pairs (ltRows s.data.toList k)) rfl (O7.out.alloc _) ⟨w7.heap.size, 0, none⟩ 1 1 [.int .i64 YY, .int .i64 (k + 1)] rfl rfl ?c1 ?c2 ?c3 ?c4 ?c5 ?_)
          case c1 =>
            intro j u hj
            rw [Addr.add_lit, Nat.zero_add, World.cell?_alloc_new]
            simpa using hj
          case c2 => intro u hu; simp at hu; rcases hu with rfl | rfl <;> rfl
          case c3 => unfold maxLen; omega
          case c4 => omega
          case c5 => have := S7.out; simp; omega
          intro v' w8 hown hgrow _
          obtain ⟨ao', cp', rfl⟩ := (Sl.owns hown).shape
          have G : Below w.heap.size w7 w8 := ((Below.refl _ _).alloc S7.out _).grown hgrow (by have := S7.out; simp; omega) (own_ge O7.out)
          have A8 := Lib.hid (A7.out.trans G)
          have O8 : Hid (w8.ownsRow w.heap.size 35 2 (.slice ao' (k + 1) cp') (k + 1) (pairs (ltRows s.data.toList (k + 1)))) := by
            show World.ownsRow _ _ _ _ _ _ _
            rw [rs.out, rk.out, hYY.out, pairs_append]; exact hown
          clear hown hgrow G A7 O7 S7
          go_wp2
          go_roundw
          case rel => exact ⟨k + 1, r2, _, ks', rfl, rfl, hR', HG', A8, O8⟩
          case measure => show r2.size < r.size; exact hz
/-- A variable of one cell that may be written. -/
structure Uar (w : World) (b : Nat) (v : Value) : Prop where
  c : w.cell? ⟨b, 0, none⟩ = some v
  f : w.frozen? ⟨b, 0, none⟩ = false
  lt : b < w.heap.size
theorem Uar.keep {w w' : World} {b : Nat} {v : Value} (h : Uar w b v) (hb : Below w.heap.size w w') : Uar w' b v :=
  ⟨by rw [hb.cell (p := ⟨b, 0, none⟩) h.lt]; exact h.c, by rw [hb.frozen (p := ⟨b, 0, none⟩) h.lt]; exact h.f, by have := hb.size; have := h.lt; omega⟩
theorem Uar.new (w : World) (v : Value) (t : TypeId) : Uar (w.alloc (.cells #[v] t)) w.heap.size v :=
  ⟨by rw [World.cell?_alloc_new]; rfl, World.frozen?_alloc_new _ _ _ _, by simp⟩
theorem Uar.put {w : World} {b : Nat} {v : Value} (h : Uar w b v) (u : Value) : Uar (w.setCell ⟨b, 0, none⟩ u) b u :=
  ⟨World.cell?_setCell_same w _ u h.c, by rw [World.frozen?_setCell]; exact h.f, by rw [size_set]; exact h.lt⟩
set_option maxRecDepth 100000 in
set_option maxHeartbeats 1000000 in
theorem ulparse (s : ByteArray) (hs : s.size ≤ maxLen) (w : World) (ht : Tabs w) :
    Calls Tryz.prog 9 #[.string s] w fun e w' => (∃ v, e = .returned (.tuple #[.agg #[v], .int .i64 (lpE s.data.toList)]) ∧ PairS w.heap.size w' v (lpL s.data.toList)) ∧ Below w.heap.size w w' := by
  have hl : s.data.toList.length = s.size := Array.length_toList
  unfold maxLen at hs
  obtain ⟨w1, hw1⟩ : ∃ w1 : World, w.alloc (.cells #[.slice none 0 0] 24) = w1 := ⟨_, rfl⟩
  have R1 : Hid (Uar w1 w.heap.size (.slice none 0 0)) := by rw [← hw1]; exact Uar.new _ _ _
  have A1 : Hid (Below w.heap.size w w1) := by rw [← hw1]; exact grow (here w) _
  have s1 : w1.heap.size = w.heap.size + 1 := by rw [← hw1]; exact size_two _ _
  have z1 : w1.setCell ⟨w.heap.size, 0, none⟩ (.slice none 0 0) = w1 := by rw [← hw1, World.setCell_alloc_new]; rfl
  by_cases h2 : 2000 < s.size
  · have k2 : decide (2000 < (s.size : Int)) = true := decide_eq_true (by omega)
    have q := lp_full (l := s.data.toList) (by omega)
    have hE := Lib.hid q.1
    have hL := Lib.hid q.2
    have A9 := A1
    clear q h2 hl ht
    obtain ⟨x0, xf, xlt⟩ := R1.out
    go_enter Tryz.func9, Tryz.ntmps9
    go_wp2
    exact bodyPost_ret (v := .tuple #[.agg #[.slice none 0 0], .int .i64 5]) (by simp [results, Tryz.results9, go_sem, x0]) rfl ⟨⟨_, by rw [hE.out], by show PairS _ _ _ _; rw [hL.out]; exact Sl.none _ _⟩, A9.out⟩
  · have k2 : decide (2000 < (s.size : Int)) = false := decide_eq_false (by omega)
    have HR := Lib.hid (ulread s (by omega) w1 (ht.below (by rw [← hw1]; exact grow (here w) _)))
    have HV := Lib.hid (fun v ps w h => ulvalid v ps w h)
    have QF := Lib.hid (fun f => @lp_form s.data.toList (by omega) f)
    have QA := Lib.hid (fun f b => @lp_arg s.data.toList (by omega) f b)
    have QO := Lib.hid (fun f b => @lp_ok s.data.toList (by omega) f b)
    have SZ : Hid (s.data.toList.length ≤ 2000) := by show _ ≤ _; omega
    have S1 : Hid (w1.heap.size = w.heap.size + 1) := s1
    clear h2 hl ht s1
    obtain ⟨x0, xf, xlt⟩ := R1.out
    go_enter Tryz.func9, Tryz.ntmps9
    go_wp2_with fail
    refine HR.out.mono ?_
    rintro e w2 ⟨rd, hb⟩
    have A2 := Lib.hid (down A1.out hb)
    have R2 := Lib.hid (R1.out.keep hb)
    clear hb HR x0 xf xlt z1 A1 R1 hw1
    rcases rd with ⟨f, v, rfl, P⟩ | ⟨f, rfl⟩
    · have P2 := Lib.hid P
      have f1 : Hid (ltForm s.data.toList = true) := f
      obtain ⟨ao, cp, rfl⟩ := Sl.shape P
      have F2 := ltForm_iff.1 f
      have LL : Hid (LT w2 (.slice ao (ltRows s.data.toList (s.data.toList.length / 11)).length cp) (ltRows s.data.toList (s.data.toList.length / 11))) := LT.of P (by rw [ltRows_len]; have := SZ.out; omega) (fun j hj => by
        rw [ltRows_len] at hj
        unfold ltA ltT
        rw [ltRows_at _ hj]
        have b := ltRow_bd (F2.2 j hj)
        refine ⟨⟨by omega, by omega⟩, ?_⟩
        show I64 ((j : Int) + 1)
        have := SZ.out
        exact ⟨by omega, by omega⟩)
      have hV := Lib.hid (fun w h => HV.out (.slice ao (ltRows s.data.toList (s.data.toList.length / 11)).length cp) (ltRows s.data.toList (s.data.toList.length / 11)) w h)
      clear f F2 P HV QF
      generalize (ltRows s.data.toList (s.data.toList.length / 11)).length = n at *
      obtain ⟨w3, hw3⟩ : ∃ w3 : World, w2.alloc (.cells #[.slice ao n cp] 24) = w3 := ⟨_, rfl⟩
      have O3 : Hid (One w3 w2.heap.size (.slice ao n cp)) := by rw [← hw3]; exact One.new (here _)
      have A3 : Hid (Below w.heap.size w w3) := by rw [← hw3]; exact grow A2.out _
      have R3 : Hid (Uar w3 w.heap.size (.slice none 0 0)) := by rw [← hw3]; exact R2.out.keep (grow (here w2) _)
      have P3 : Hid (PairS w1.heap.size w3 (.slice ao n cp) (ltRows s.data.toList (s.data.toList.length / 11))) := by rw [← hw3]; exact P2.out.keep (grow (here w2) _)
      have L3 : Hid (LT w3 (.slice ao n cp) (ltRows s.data.toList (s.data.toList.length / 11))) := by rw [← hw3]; exact LL.out.old _
      clear A2 R2 P2 LL
      obtain ⟨o0, olt⟩ := O3.out
      cases b : ltB (ltRows s.data.toList (s.data.toList.length / 11))
      · have q := QA.out f1.out b
        have hE := Lib.hid q.1
        have hL := Lib.hid q.2
        rw [b] at hV
        clear q QA QO b
        go_wp2_with fail
        refine (hV.out _ L3.out).mono ?_
        rintro e w4 ⟨rfl, hb⟩
        have A4 := Lib.hid (down A3.out hb)
        have R4 := Lib.hid (R3.out.keep hb)
        clear hb A3 R3 L3 O3 o0 olt hV hw3
        obtain ⟨y0, yf, ylt⟩ := R4.out
        obtain ⟨w9, hw9⟩ : ∃ w9 : World, w4.setCell ⟨w.heap.size, 0, none⟩ (.slice none 0 0) = w9 := ⟨_, rfl⟩
        have R9 : Hid (Uar w9 w.heap.size (.slice none 0 0)) := by rw [← hw9]; exact R4.out.put _
        have A9 : Hid (Below w.heap.size w w9) := by rw [← hw9]; exact A4.out.setCell (Nat.le_refl _) _
        obtain ⟨x0, xf, xlt⟩ := R9.out
        go_wp2
        exact bodyPost_ret (v := .tuple #[.agg #[.slice none 0 0], .int .i64 1]) (by simp [results, Tryz.results9, go_sem, x0]) rfl ⟨⟨_, by rw [hE.out], by show PairS _ _ _ _; rw [hL.out]; exact Sl.none _ _⟩, A9.out⟩
      · have q := QO.out f1.out b
        have hE := Lib.hid q.1
        have hL := Lib.hid q.2
        rw [b] at hV
        clear q QA QO b
        go_wp2_with fail
        refine (hV.out _ L3.out).mono ?_
        rintro e w4 ⟨rfl, hb⟩
        have A4 := Lib.hid (down A3.out hb)
        have R4 := Lib.hid (R3.out.keep hb)
        have O4 := Lib.hid (O3.out.keep hb)
        have P4 : Hid (PairS w1.heap.size w4 (.slice ao n cp) (ltRows s.data.toList (s.data.toList.length / 11))) := P3.out.keep hb
        clear hb A3 R3 L3 O3 P3 o0 olt hV hw3
        obtain ⟨y0, yf, ylt⟩ := R4.out
        obtain ⟨o0, olt⟩ := O4.out
        obtain ⟨w9, hw9⟩ : ∃ w9 : World, w4.setCell ⟨w.heap.size, 0, none⟩ (.slice ao n cp) = w9 := ⟨_, rfl⟩
        have R9 : Hid (Uar w9 w.heap.size (.slice ao n cp)) := by rw [← hw9]; exact R4.out.put _
        have A9 : Hid (Below w.heap.size w w9) := by rw [← hw9]; exact A4.out.setCell (Nat.le_refl _) _
        have P9 : Hid (PairS w.heap.size w9 (.slice ao n cp) (ltRows s.data.toList (s.data.toList.length / 11))) := by rw [← hw9]; exact Sl.weak (Sl.far P4.out (by have := S1.out; omega) _) (by have := S1.out; omega)
        obtain ⟨x0, xf, xlt⟩ := R9.out
        go_wp2
        exact bodyPost_ret (v := .tuple #[.agg #[.slice ao n cp], .int .i64 0]) (by simp [results, Tryz.results9, go_sem, x0]) rfl ⟨⟨_, by rw [hE.out], by show PairS _ _ _ _; rw [hL.out]; exact P9.out⟩, A9.out⟩
    · have q := QF.out f
      have hE := Lib.hid q.1
      have hL := Lib.hid q.2
      clear q QF QA QO HV f
      obtain ⟨w3, hw3⟩ : ∃ w3 : World, w2.alloc (.cells #[.slice none 0 0] 24) = w3 := ⟨_, rfl⟩
      have A3 : Hid (Below w.heap.size w w3) := by rw [← hw3]; exact grow A2.out _
      have R3 : Hid (Uar w3 w.heap.size (.slice none 0 0)) := by rw [← hw3]; exact R2.out.keep (grow (here w2) _)
      have z3 : w3.setCell ⟨w2.heap.size, 0, none⟩ (.slice none 0 0) = w3 := by rw [← hw3, World.setCell_alloc_new]; rfl
      have T3 : Uar w3 w2.heap.size (.slice none 0 0) := by rw [← hw3]; exact Uar.new _ _ _
      obtain ⟨t0, tf, tlt⟩ := T3
      clear A2 R2
      obtain ⟨y0, yf, ylt⟩ := R3.out
      obtain ⟨w9, hw9⟩ : ∃ w9 : World, w3.setCell ⟨w.heap.size, 0, none⟩ (.slice none 0 0) = w9 := ⟨_, rfl⟩
      have R9 : Hid (Uar w9 w.heap.size (.slice none 0 0)) := by rw [← hw9]; exact R3.out.put _
      have A9 : Hid (Below w.heap.size w w9) := by rw [← hw9]; exact A3.out.setCell (Nat.le_refl _) _
      obtain ⟨x0, xf, xlt⟩ := R9.out
      go_wp2
      exact bodyPost_ret (v := .tuple #[.agg #[.slice none 0 0], .int .i64 3]) (by simp [results, Tryz.results9, go_sem, x0]) rfl ⟨⟨_, by rw [hE.out], by show PairS _ _ _ _; rw [hL.out]; exact Sl.none _ _⟩, A9.out⟩
end Go.Proofs.YtocimbiidloofaaGreatDoor
