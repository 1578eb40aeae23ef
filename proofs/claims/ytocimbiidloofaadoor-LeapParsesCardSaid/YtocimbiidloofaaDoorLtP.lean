/- The contract of civiltimeref09.Parse. -/
import Derived.Test.YtocimbiidloofaaDoorLtD
import Derived.Test.YtocimbiidloofaaDoorLtS
import Derived.Test.YtocimbiidloofaaDoorLOwn
import Derived.OwnWalk
namespace Go.Proofs.YtocimbiidloofaaDoor
open Go.RowKit
set_option linter.unusedVariables false

theorem infoStep : (Tryd.prog.info? 33).map (fun i => (i.zero, i.size, i.bytes)) = some (some (.agg #[.int .i64 0, .int .i64 0]), 2, 16) := by kernel_rfl
/-- A variable of one cell that may be written. -/
structure Var (w : World) (b : Nat) (v : Value) : Prop where
  c : w.cell? ⟨b, 0, none⟩ = some v
  f : w.frozen? ⟨b, 0, none⟩ = false
  lt : b < w.heap.size
theorem Var.under {w w' : World} {B b : Nat} {v : Value} (h : Var w b v) (hb : Below B w w') (l : b < B) (hB : B ≤ w.heap.size) : Var w' b v :=
  ⟨by rw [hb.cell (p := ⟨b, 0, none⟩) l]; exact h.c, by rw [hb.frozen (p := ⟨b, 0, none⟩) l]; exact h.f, by have := hb.size; have := h.lt; omega⟩
theorem Var.keep {w w' : World} {b : Nat} {v : Value} (h : Var w b v) (hb : Below w.heap.size w w') : Var w' b v := h.under hb h.lt (Nat.le_refl _)
theorem Var.new (w : World) (v : Value) (t : TypeId) : Var (w.alloc (.cells #[v] t)) w.heap.size v :=
  ⟨by rw [World.cell?_alloc_new]; rfl, World.frozen?_alloc_new _ _ _ _, by simp⟩
theorem Var.put {w : World} {b : Nat} {v : Value} (h : Var w b v) (u : Value) : Var (w.setCell ⟨b, 0, none⟩ u) b u :=
  ⟨World.cell?_setCell_same w _ u h.c, by rw [World.frozen?_setCell]; exact h.f, by rw [size_set]; exact h.lt⟩
theorem Var.far {w : World} {b c : Nat} {v : Value} (h : Var w b v) (ne : c ≠ b) (u : Value) : Var (w.setCell ⟨c, 0, none⟩ u) b v :=
  ⟨by rw [World.cell?_setCell_other (h := fun e => ne (congrArg Addr.block e))]; exact h.c, by rw [World.frozen?_setCell]; exact h.f, by rw [size_set]; exact h.lt⟩
set_option maxRecDepth 100000 in
set_option maxHeartbeats 1000000 in
theorem rlparse (s : ByteArray) (hs : s.size ≤ maxLen) (w : World) :
    Calls Tryd.prog 12 #[.string s] w fun e w' => (∃ v, e = .returned (.tuple #[.agg #[v], .int .i64 (lpE s.data.toList)]) ∧ PairS w.heap.size w' v (lpL s.data.toList)) ∧ Below w.heap.size w w' := by
  have hl : s.data.toList.length = s.size := Array.length_toList
  unfold maxLen at hs
  obtain ⟨w1, hw1⟩ : ∃ w1 : World, w.alloc (.cells #[.slice none 0 0] 25) = w1 := ⟨_, rfl⟩
  have R1 : Hid (Var w1 w.heap.size (.slice none 0 0)) := by rw [← hw1]; exact Var.new _ _ _
  have A1 : Hid (Below w.heap.size w w1) := by rw [← hw1]; exact grow (here w) _
  have s1 : w1.heap.size = w.heap.size + 1 := by rw [← hw1]; exact size_two _ _
  have z1 : w1.setCell ⟨w.heap.size, 0, none⟩ (.slice none 0 0) = w1 := by rw [← hw1, World.setCell_alloc_new]; rfl
  obtain ⟨r0, rf, rlt⟩ := R1.out
  by_cases h2 : 2000 < s.size
  · have k2 : decide (2000 < (s.size : Int)) = true := decide_eq_true (by omega)
    have q := lp_full (l := s.data.toList) (by omega)
    have hE := Lib.hid q.1
    have hL := Lib.hid q.2
    clear q h2 hl
    go_enter Tryd.func12, Tryd.ntmps12
    go_wp2
    exact bodyPost_ret (v := .tuple #[.agg #[.slice none 0 0], .int .i64 5]) (by simp [results, Tryd.results12, go_sem, r0]) rfl ⟨⟨_, by rw [hE.out], by show PairS _ _ _ _; rw [hL.out]; exact Sl.none _ _⟩, A1.out⟩
  · have k2 : decide (2000 < (s.size : Int)) = false := decide_eq_false (by omega)
    obtain ⟨w2, hw2⟩ : ∃ w2 : World, w1.alloc (.cells #[.slice none 0 0] 25) = w2 := ⟨_, rfl⟩
    have T2 : Hid (Var w2 (w.heap.size + 1) (.slice none 0 0)) := by rw [← hw2, ← s1]; exact Var.new _ _ _
    have R2 : Hid (Var w2 w.heap.size (.slice none 0 0)) := by rw [← hw2]; exact R1.out.keep (grow (here w1) _)
    have A2 : Hid (Below w.heap.size w w2) := by rw [← hw2]; exact grow A1.out _
    have z2 : Hid (w.heap.size + 2 ≤ w2.heap.size) := by show _ ≤ _; rw [← hw2, size_two, s1]; exact Nat.le_refl _
    have y2 : w2.setCell ⟨w.heap.size + 1, 0, none⟩ (.slice none 0 0) = w2 := by rw [← hw2, ← s1, World.setCell_alloc_new]; rfl
    have HD := Lib.hid (fun u (hu : u.size ≤ maxLen) w => rldate u hu w)
    have HV := Lib.hid (fun v ps w h => rlvalid v ps w h)
    have FB := Lib.hid (fun k i => @lt_bad s.data.toList k i)
    have FC := Lib.hid (fun k i => @lt_cut s.data.toList k i)
    have FT := Lib.hid (fun k => @lt_tail s.data.toList k)
    have FE := Lib.hid (fun k => @lt_end s.data.toList k)
    have QF := Lib.hid (fun f => @lp_form s.data.toList (by omega) f)
    have QA := Lib.hid (fun f b => @lp_arg s.data.toList (by omega) f b)
    have QO := Lib.hid (fun f b => @lp_ok s.data.toList (by omega) f b)
    have SZ := Lib.hid hl
    have s2000 : s.size ≤ 2000 := by omega
    obtain ⟨i0, hi, hz0, hz1, hz2⟩ := info_parts infoStep
    clear h2 hl
    go_enter Tryd.func12, Tryd.ntmps12
    go_wp2
    go_loopw [5, 6] (fun a b wr => ∃ (k i : Nat) (v : Value), 11 * k ≤ i ∧ i ≤ s.size ∧ a = .int .i64 (11 * k) ∧ b = .int .i64 i ∧ Hid (∀ j, j < k → ltG s.data.toList j = true) ∧ Hid (∀ j, 11 * k ≤ j → j < i → ¬ s.data.toList.getD j 0 = 10) ∧ Hid (Below w.heap.size w wr) ∧ Hid (Var wr w.heap.size (.slice none 0 0)) ∧ Hid (Var wr (w.heap.size + 1) v) ∧ Hid (wr.ownsRow (w.heap.size + 2) 33 2 v k (pairs (ltRows s.data.toList k))) ∧ Hid (w.heap.size + 2 ≤ wr.heap.size)) (fun _ b _ => s.size - (intOf b).toNat)
    case atStart => exact ⟨0, 0, _, Nat.le_refl _, Nat.zero_le _, rfl, rfl, fun j hj => absurd hj (Nat.not_lt_zero _), fun j _ hj => absurd hj (Nat.not_lt_zero _), A2.out, R2.out, T2.out, by show World.ownsRow _ _ _ _ _ _ _; exact World.ownsRow_nil _ _ _ _, z2.out⟩
    case round =>
      obtain ⟨k, i, v, ki, is, rfl, rfl, HG, HF, HA, HR, HT, HO, HZ⟩ := hrel
      obtain ⟨ao, cp, rfl⟩ := (Sl.owns HO.out).shape
      clear A2 R2 T2 z2 y2 A1 R1 r0 rf rlt
      by_cases z : i < s.size
      · have iz : decide ((i : Int) < (s.size : Int)) = true := decide_eq_true (by omega)
        have hx := Lib.hid (at_getD z)
        by_cases e : ((s[i]'z).toNat : Int) = 10
        · have ke : (((s[i]'z).toNat : Int) != 10) = false := by simpa using e
          have nl : Hid (s.data.toList.getD i 0 = 10) := by show _ = _; rw [hx.out, ← UInt8.toNat_inj]; show _ = 10; omega
          have hc : Hid ((s.extract (11 * k) i).data.toList = (s.data.toList.drop (11 * k)).take (i - 11 * k)) := Lib.extract_data s (11 * k) i
          have hD := fun w => HD.out (s.extract (11 * k) i) (by rw [ByteArray.size_extract]; unfold maxLen; omega) w
          rw [hc.out] at hD
          clear e hx HD
          cases g : isD ((s.data.toList.drop (11 * k)).take (i - 11 * k))
          · have f := FB.out k i ki (by have := SZ.out; omega) HF.out nl.out g
            have hE := Lib.hid (QF.out f).1
            have hL := Lib.hid (QF.out f).2
            rw [g] at hD
            replace hD := Lib.hid hD
            clear g f FB FC FT FE QF QA QO hc nl HG HF HV
            go_wp2_with fail
            refine (hD.out _).mono ?_
            rintro e w5 ⟨rfl, hb⟩
            have A5 := Lib.hid (down HA.out hb)
            have R5 := Lib.hid (HR.out.keep hb)
            clear hb HA HR HT HO
            obtain ⟨r0, rf, rlt⟩ := R5.out
            obtain ⟨w6, hw6⟩ : ∃ w6 : World, w5.setCell ⟨w.heap.size, 0, none⟩ (.slice none 0 0) = w6 := ⟨_, rfl⟩
            have R6 : Hid (Var w6 w.heap.size (.slice none 0 0)) := by rw [← hw6]; exact R5.out.put _
            have A6 : Hid (Below w.heap.size w w6) := by rw [← hw6]; exact A5.out.setCell (Nat.le_refl _) _
            obtain ⟨x0, xf, xlt⟩ := R6.out
            go_wp2
            exact bodyPost_ret (v := .tuple #[.agg #[.slice none 0 0], .int .i64 3]) (by simp [results, Tryd.results12, go_sem, x0]) rfl ⟨⟨_, by rw [hE.out], by show PairS _ _ _ _; rw [hL.out]; exact Sl.none _ _⟩, A6.out⟩
          · obtain ⟨ei, gk⟩ := FC.out k i g (by have := SZ.out; omega) nl.out
            have HG' : Hid (∀ j, j < k + 1 → ltG s.data.toList j = true) := fun j hj => by
              rcases Nat.lt_or_ge j k with c | c
              · exact HG.out j c
              · obtain rfl : j = k := by omega
                exact gk
            have bd := dyOf_bd g
            have rs := Lib.hid (ltRows_succ s.data.toList k)
            have rk : Hid (ltRow s.data.toList k = ((dyOf ((s.data.toList.drop (11 * k)).take (i - 11 * k)) + 1) * 86400, (k : Int) + 1)) := by show _ = _; unfold ltRow; rw [ei, show 11 * k + 10 - 11 * k = 10 by omega]
            rw [g] at hD
            replace hD := Lib.hid hD
            replace ei := Lib.hid ei
            clear g gk FB FC FT FE QF QA QO hc nl HG HF HV
            generalize dyOf ((s.data.toList.drop (11 * k)).take (i - 11 * k)) = y at *
            simp only [if_true] at hD
            go_wp2_with fail
            refine (hD.out _).mono ?_
            rintro e w5 ⟨rfl, hb⟩
            have A5 := Lib.hid (down HA.out hb)
            have R5 := Lib.hid (HR.out.keep hb)
            have T5 := Lib.hid (HT.out.keep hb)
            have O5 := Lib.hid (owns_below HO.out hb)
            have S5 : Hid (w.heap.size + 2 ≤ w5.heap.size) := Nat.le_trans HZ.out hb.size
            clear hb HA HR HT HO HZ hD
            obtain ⟨t0, tf, tlt⟩ := T5.out
            obtain ⟨Y, hY⟩ : ∃ Y, (y + 1) * 86400 = Y := ⟨_, rfl⟩
            have kb : k ≤ 200 := by have := ei.out; omega
            go_wp2_with (at_builtin; refine wpList_append_own _ rfl _ _ 23 rfl (w.heap.size + 2) 33 i0 (.agg #[.int .i64 0, .int .i64 0]) 2 16 Tryd.underlying23 hi hz0 hz1 hz2 rfl (by decide) (.slice ao k cp) k (pairs (ltRows s.data.toList k)) rfl (O5.out.alloc _) ⟨w5.heap.size, 0, none⟩ 1 1 [.int .i64 Y, .int .i64 (k + 1)] rfl rfl ?c1 ?c2 ?c3 ?c4 ?c5 ?_)
            case c1 =>
              intro j u hj
              rw [Addr.add_lit, Nat.zero_add, World.cell?_alloc_new]
              simpa using hj
            case c2 => intro u hu; simp at hu; rcases hu with rfl | rfl <;> rfl
            case c3 => unfold maxLen; omega
            case c4 => omega
            case c5 => have := S5.out; simp; omega
            intro v' w7 hown hgrow _
            obtain ⟨ao', cp', rfl⟩ := (Sl.owns hown).shape
            have G : Below (w.heap.size + 2) w5 w7 := ((Below.refl _ _).alloc S5.out _).grown hgrow (by have := S5.out; simp; omega) (own_ge O5.out)
            have A7 := Lib.hid (A5.out.trans (G.mono (by omega)))
            have R7 := Lib.hid (R5.out.under G (by omega) S5.out)
            have T7 := Lib.hid (T5.out.under G (by omega) S5.out)
            have S7 : Hid (w.heap.size + 2 ≤ w7.heap.size) := Nat.le_trans S5.out G.size
            have O7 : Hid (w7.ownsRow (w.heap.size + 2) 33 2 (.slice ao' (k + 1) cp') (k + 1) (pairs (ltRows s.data.toList (k + 1)))) := by
              show World.ownsRow _ _ _ _ _ _ _
              rw [rs.out, rk.out, hY, pairs_append]; exact hown
            clear hown hgrow G A5 R5 T5 O5 S5 t0 tf tlt
            obtain ⟨t0, tf, tlt⟩ := T7.out
            obtain ⟨w8, hw8⟩ : ∃ w8 : World, w7.setCell ⟨w.heap.size + 1, 0, none⟩ (.slice ao' (k + 1) cp') = w8 := ⟨_, rfl⟩
            have A8 : Hid (Below w.heap.size w w8) := by rw [← hw8]; exact A7.out.setCell (by show _ ≤ w.heap.size + 1; omega) _
            have R8 : Hid (Var w8 w.heap.size (.slice none 0 0)) := by rw [← hw8]; exact R7.out.far (by omega) _
            have T8 : Hid (Var w8 (w.heap.size + 1) (.slice ao' (k + 1) cp')) := by rw [← hw8]; exact T7.out.put _
            have O8 : Hid (w8.ownsRow (w.heap.size + 2) 33 2 (.slice ao' (k + 1) cp') (k + 1) (pairs (ltRows s.data.toList (k + 1)))) := by
              show World.ownsRow _ _ _ _ _ _ _
              rw [← hw8]; exact ownsRow_setCell_below O7.out (by show w.heap.size + 1 < _; omega) _
            have S8 : Hid (w.heap.size + 2 ≤ w8.heap.size) := by show _ ≤ _; rw [← hw8, size_set]; exact S7.out
            clear A7 R7 T7 O7 S7
            have ie : i = 11 * k + 10 := ei.out
            go_wp2
            go_roundw
            case rel => exact ⟨k + 1, i + 1, _, by omega, by omega, by go_num, by go_num, HG', fun j h0 h1 => by omega, A8, R8, T8, O8, S8⟩
            case measure => simp [intOf]; omega
        · have ke : (((s[i]'z).toNat : Int) != 10) = true := by simpa using e
          have HF' : Hid (∀ j, 11 * k ≤ j → j < i + 1 → ¬ s.data.toList.getD j 0 = 10) := fun j h0 h1 => by
            rcases Nat.lt_or_ge j i with c | c
            · exact HF.out j h0 c
            · obtain rfl : j = i := by omega
              rw [hx.out, ← UInt8.toNat_inj]; show ¬ _ = 10; omega
          clear e hx HF
          go_wp2
          go_roundw
          case rel => exact ⟨k, i + 1, _, by omega, by omega, rfl, by go_num, HG, HF', HA, HR, HT, HO, HZ⟩
          case measure => simp [intOf]; omega
      · have iz : decide ((i : Int) < (s.size : Int)) = false := decide_eq_false (by omega)
        have e : i = s.size := by omega
        by_cases m : 11 * k < s.size
        · have km : decide (11 * (k : Int) < (s.size : Int)) = true := decide_eq_true (by omega)
          have f := FT.out k (by have := SZ.out; omega) (fun j h0 h1 => HF.out j h0 (by have := SZ.out; omega))
          have hE := Lib.hid (QF.out f).1
          have hL := Lib.hid (QF.out f).2
          clear f FB FC FT FE QF QA QO HG HF HV HD
          obtain ⟨r0, rf, rlt⟩ := HR.out
          obtain ⟨w6, hw6⟩ : ∃ w6 : World, wr.setCell ⟨w.heap.size, 0, none⟩ (.slice none 0 0) = w6 := ⟨_, rfl⟩
          have R6 : Hid (Var w6 w.heap.size (.slice none 0 0)) := by rw [← hw6]; exact HR.out.put _
          have A6 : Hid (Below w.heap.size w w6) := by rw [← hw6]; exact HA.out.setCell (Nat.le_refl _) _
          obtain ⟨x0, xf, xlt⟩ := R6.out
          go_wp2
          exact bodyPost_ret (v := .tuple #[.agg #[.slice none 0 0], .int .i64 3]) (by simp [results, Tryd.results12, go_sem, x0]) rfl ⟨⟨_, by rw [hE.out], by show PairS _ _ _ _; rw [hL.out]; exact Sl.none _ _⟩, A6.out⟩
        · have km : decide (11 * (k : Int) < (s.size : Int)) = false := decide_eq_false (by omega)
          have f := FE.out k (by have := SZ.out; omega) HG.out
          have kb : k ≤ 200 := by omega
          have PS := Sl.owns HO.out
          have PL : Hid (PairS (w.heap.size + 2) wr (.slice ao k cp) (ltRows s.data.toList k)) := by show Sl _ _ _ _ _; rw [ltRows_len]; exact PS
          have LL : Hid (LT wr (.slice ao k cp) (ltRows s.data.toList k)) := LT.of PL.out (by rw [ltRows_len]; omega) (fun j hj => by
            rw [ltRows_len] at hj
            unfold ltA ltT
            rw [ltRows_at _ hj]
            have b := ltRow_bd (HG.out j hj)
            refine ⟨⟨by omega, by omega⟩, ?_⟩
            show I64 ((j : Int) + 1)
            exact ⟨by omega, by omega⟩)
          have hV := Lib.hid (fun w h => HV.out (.slice ao k cp) (ltRows s.data.toList k) w h)
          clear HV HD FB FC FT FE QF HG HF PS
          obtain ⟨t0, tf, tlt⟩ := HT.out
          cases b : ltB (ltRows s.data.toList k)
          · have q := QA.out f.1 (by rw [f.2]; exact b)
            have hE := Lib.hid q.1
            have hL := Lib.hid q.2
            rw [b] at hV
            clear q QA QO f b
            go_wp2_with fail
            refine (hV.out _ LL.out).mono ?_
            rintro e w5 ⟨rfl, hb⟩
            have A5 := Lib.hid (down HA.out hb)
            have R5 := Lib.hid (HR.out.keep hb)
            have T5 := Lib.hid (HT.out.keep hb)
            have P5 : Hid (PairS (w.heap.size + 2) w5 (.slice ao k cp) (ltRows s.data.toList k)) := PL.out.keep hb
            clear hb HA HR HT HO t0 tf tlt PL LL hV
            obtain ⟨r0, rf, rlt⟩ := R5.out
            obtain ⟨t0, tf, tlt⟩ := T5.out
            obtain ⟨w6, hw6⟩ : ∃ w6 : World, w5.setCell ⟨w.heap.size, 0, none⟩ (.slice none 0 0) = w6 := ⟨_, rfl⟩
            have R6 : Hid (Var w6 w.heap.size (.slice none 0 0)) := by rw [← hw6]; exact R5.out.put _
            have A6 : Hid (Below w.heap.size w w6) := by rw [← hw6]; exact A5.out.setCell (Nat.le_refl _) _
            obtain ⟨x0, xf, xlt⟩ := R6.out
            go_wp2
            exact bodyPost_ret (v := .tuple #[.agg #[.slice none 0 0], .int .i64 1]) (by simp [results, Tryd.results12, go_sem, x0]) rfl ⟨⟨_, by rw [hE.out], by show PairS _ _ _ _; rw [hL.out]; exact Sl.none _ _⟩, A6.out⟩
          · have q := QO.out f.1 (by rw [f.2]; exact b)
            rw [f.2] at q
            have hE := Lib.hid q.1
            have hL := Lib.hid q.2
            rw [b] at hV
            clear q QA QO f b
            go_wp2_with fail
            refine (hV.out _ LL.out).mono ?_
            rintro e w5 ⟨rfl, hb⟩
            have A5 := Lib.hid (down HA.out hb)
            have R5 := Lib.hid (HR.out.keep hb)
            have T5 := Lib.hid (HT.out.keep hb)
            have P5 : Hid (PairS (w.heap.size + 2) w5 (.slice ao k cp) (ltRows s.data.toList k)) := PL.out.keep hb
            clear hb HA HR HT HO t0 tf tlt PL LL hV
            obtain ⟨r0, rf, rlt⟩ := R5.out
            obtain ⟨t0, tf, tlt⟩ := T5.out
            obtain ⟨w6, hw6⟩ : ∃ w6 : World, w5.setCell ⟨w.heap.size, 0, none⟩ (.slice ao k cp) = w6 := ⟨_, rfl⟩
            have R6 : Hid (Var w6 w.heap.size (.slice ao k cp)) := by rw [← hw6]; exact R5.out.put _
            have A6 : Hid (Below w.heap.size w w6) := by rw [← hw6]; exact A5.out.setCell (Nat.le_refl _) _
            have P6 : Hid (PairS w.heap.size w6 (.slice ao k cp) (ltRows s.data.toList k)) := by rw [← hw6]; exact Sl.weak (Sl.far P5.out (by omega) _) (by omega)
            obtain ⟨x0, xf, xlt⟩ := R6.out
            go_wp2
            exact bodyPost_ret (v := .tuple #[.agg #[.slice ao k cp], .int .i64 0]) (by simp [results, Tryd.results12, go_sem, x0]) rfl ⟨⟨_, by rw [hE.out], by show PairS _ _ _ _; rw [hL.out]; exact P6.out⟩, A6.out⟩
end Go.Proofs.YtocimbiidloofaaDoor
