/- IntervalCovers where an interval is not valid. -/
import Derived.Test.YtknlhhjooamfhaaDoorIvAwake
import Derived.BigQuiet
import Derived.Deep.QuietTactic
import Derived.Deep.RegionHeld3
import Derived.Deep.Cut
import Derived.Outline
namespace Go.Proofs.YtknlhhjooamfhaaDoor
open Go.RowKit
set_option linter.unusedVariables false

theorem pairs_here {base : Nat} {w : World} {o : Option Addr} {n c : Nat} {ps : List (Int × Int)} (h : PairS base w (.slice o n c) ps) {i : Nat} (hi : i < ps.length) :
    ∃ b off, o = some ⟨b, off, none⟩ ∧ b < w.heap.size ∧ ∀ j, j < ps.length → w.cell? ⟨b, off + j * 2, none⟩ = some (.int .i64 (ps.getD j (0, 0)).1) ∧ w.cell? ⟨b, off + j * 2 + 1, none⟩ = some (.int .i64 (ps.getD j (0, 0)).2) := by
  rcases h with ⟨h0, -⟩ | ⟨b, off, c', e, -, l⟩
  · omega
  · injection e with e1 e2 e3
    exact ⟨b, off, e1, l.lt, fun j hj => pairs_at l j hj⟩
def cfN (x : Int) (L : List (Int × Int)) (k : Nat) : Nat := ((L.take k).filter (fun p => hsB p.1 p.2 x)).length
theorem cf_step (x : Int) (L : List (Int × Int)) {k : Nat} (h : k < L.length) : cfN x L (k + 1) = cfN x L k + (if hsB (L.getD k (0, 0)).1 (L.getD k (0, 0)).2 x then 1 else 0) := by
  unfold cfN
  have e : L.getD k (0, 0) = L[k] := by simp [List.getD_eq_getElem?_getD, h]
  rw [List.take_succ_eq_append_getElem h, List.filter_append, List.length_append, e]
  congr 1
  cases q : hsB L[k].1 L[k].2 x
  · rw [List.filter_cons_of_neg (by rw [q]; simp)]; rfl
  · rw [List.filter_cons_of_pos (by rw [q])]; rfl
theorem cf_le (x : Int) (L : List (Int × Int)) (k : Nat) : cfN x L k ≤ L.length := by
  unfold cfN
  exact Nat.le_trans (List.length_filter_le _ _) (by rw [List.length_take]; omega)
theorem mn_wf {a b c d : Int} (ha : I64 a) (hb : I64 b) (hc : I64 c) (hd : I64 d) : ∀ j, j < (mnL a b c d).length → I64 ((mnL a b c d).getD j (0, 0)).1 ∧ I64 ((mnL a b c d).getD j (0, 0)).2 := by
  have h2 : I64 (hiV b c) := by unfold hiV; split <;> assumption
  have l2 : I64 (loV a d) := by unfold loV; split <;> assumption
  have all : ∀ p ∈ mnL a b c d, I64 p.1 ∧ I64 p.2 := by
    intro p hp
    unfold mnL mnA mnZ at hp
    split at hp
    · rw [List.mem_append] at hp
      rcases hp with hp | hp
      · split at hp
        · simp at hp; subst hp; exact ⟨ha, h2⟩
        · simp at hp
      · split at hp
        · simp at hp; subst hp; exact ⟨l2, hb⟩
        · simp at hp
    · simp at hp
  intro j hj
  have e : (mnL a b c d).getD j (0, 0) = (mnL a b c d)[j] := by simp [List.getD_eq_getElem?_getD, hj]
  rw [e]; exact all _ (List.getElem_mem hj)
set_option maxRecDepth 100000 in
set_option maxHeartbeats 4000000 in
theorem cov_no (a b c d x : Int) (ha : I64 a) (hb : I64 b) (hc : I64 c) (hd : I64 d) (hx : I64 x) (no : (ivB a b && ivB c d) = false) (w : World) (ht : Tabs w) :
    Calls Tryd.prog 8 #[.agg #[.int .i64 a, .int .i64 b], .agg #[.int .i64 c, .int .i64 d], .int .i64 x] w fun e w' => e = .returned (.bool true) ∧ Below w.heap.size w w' := by
  have AW := Lib.hid (fun w ht => awake_all w ht)
  replace ht := Lib.hid ht
  have wfL := mn_wf ha hb hc hd
  have HM := fun w ht => uvmeet a b c d ha hb hc hd w ht
  have HN := fun w ht => uvminus a b c d ha hb hc hd w ht
  have HH := fun w ht => uvhull a b c d ha hb hc hd w ht
  have HVA := fun w ht => uvvalid a b ha hb w ht
  have HVB := fun w ht => uvvalid c d hc hd w ht
  have Hhas := fun k (hk : k < (mnL a b c d).length) w ht => uvhas ((mnL a b c d).getD k (0, 0)).1 ((mnL a b c d).getD k (0, 0)).2 (wfL k hk).1 (wfL k hk).2 x hx w ht
  have F0 : cfN x (mnL a b c d) 0 = 0 := rfl
  have Fst := fun k (hk : k < (mnL a b c d).length) => cf_step x (mnL a b c d) hk
  have n2 : (mnL a b c d).length ≤ 2 := by
    unfold mnL mnA mnZ
    split
    · rw [List.length_append]; split <;> split <;> simp
    · simp
  have Fle := fun k => Nat.le_trans (cf_le x (mnL a b c d) k) n2
  have FL : cfN x (mnL a b c d) (mnL a b c d).length = ((mnL a b c d).filter (fun p => hsB p.1 p.2 x)).length := by unfold cfN; rw [List.take_length]
  rw [show mtB a b c d = false by unfold mtB; rw [no]; rfl] at HM
  rw [show hlF a b c d = 0 by unfold hlF; rw [no]; rfl, show hlT a b c d = 0 by unfold hlT; rw [no]; rfl, show hlE a b c d = 1 by unfold hlE; rw [no]; rfl] at HH
  replace FL : cfN x (mnL a b c d) (mnL a b c d).length = 0 := by rw [FL, mnL_out no]; rfl
  clear wfL
  generalize cfN x (mnL a b c d) = F at *
  generalize mnL a b c d = L at *
  generalize mtF a b c d = mf at *
  generalize mtT a b c d = mt at *
  replace HM := Lib.hid HM
  replace HN := Lib.hid HN
  replace HH := Lib.hid HH
  replace Hhas := Lib.hid Hhas
  replace F0 := Lib.hid F0
  replace Fst := Lib.hid Fst
  replace Fle := Lib.hid Fle
  replace FL := Lib.hid FL
  obtain ⟨x0, x1⟩ := hx
  clear ha hb hc hd
  cases va : ivB a b
  · rw [va] at HVA
    clear no va HVB
    replace HVA := Lib.hid HVA
    go_enter Tryd.func8, Tryd.ntmps8
    go_wp2_with fail
    refine (AW.out _ (ht.out.below (grow (grow (here w) _) _))).mono ?_
    rintro e w1 ⟨rfl, hb⟩
    have A1 := Lib.hid (down (grow (grow (here w) _) _) hb)
    have X1 := Lib.hid (Two.fst hb)
    have Y1 := Lib.hid (Two.snd hb)
    clear hb
    obtain ⟨x1_0, x1_1, x1_z⟩ := X1.out
    obtain ⟨y1_0, y1_1, y1_z⟩ := Y1.out
    go_wp2_with fail
    refine (HM.out _ (ht.out.below A1.out)).mono ?_
    rintro e w2 ⟨rfl, hb⟩
    have A2 := Lib.hid (down A1.out hb)
    have X2 := Lib.hid (X1.out.keep hb)
    have Y2 := Lib.hid (Y1.out.keep hb)
    clear hb A1 X1 Y1 x1_0 x1_1 x1_z y1_0 y1_1 y1_z
    obtain ⟨x2_0, x2_1, x2_z⟩ := X2.out
    obtain ⟨y2_0, y2_1, y2_z⟩ := Y2.out
    go_wp2_with fail
    refine (HN.out _ (ht.out.below (grow A2.out _))).mono ?_
    rintro e w3 ⟨⟨v, rfl, Q⟩, hb⟩
    obtain ⟨o, cp, rfl⟩ := Sl.shape Q
    have A3 := Lib.hid (down (grow A2.out _) hb)
    have X3 := Lib.hid ((X2.out.old _).keep hb)
    have Y3 := Lib.hid ((Y2.out.old _).keep hb)
    have M3 := Lib.hid (Two.new hb)
    clear hb A2 X2 Y2 x2_0 x2_1 x2_z y2_0 y2_1 y2_z
    obtain ⟨x3_0, x3_1, x3_z⟩ := X3.out
    obtain ⟨y3_0, y3_1, y3_z⟩ := Y3.out
    obtain ⟨m3_0, m3_1, m3_z⟩ := M3.out
    have Q3 := Lib.hid Q
    clear Q
    clear HN HM AW
    go_wp2
    go_loopw [9, 29] (fun l i wr => ∃ k : Nat, k ≤ L.length ∧ l = .int .i64 (F k) ∧ i = .int .i64 k ∧ Hid (Below w.heap.size w wr) ∧ Hid (Two wr (w.heap.size) (.int .i64 (a)) (.int .i64 (b))) ∧ Hid (Two wr (w.heap.size + 1) (.int .i64 (c)) (.int .i64 (d))) ∧ Hid (Two wr (w2.heap.size) (.int .i64 (mf)) (.int .i64 (mt))) ∧ Hid (PairS 0 wr (.slice o L.length cp) L)) (fun _ i _ => L.length - (intOf i).toNat)
    case atStart => exact ⟨0, Nat.zero_le _, by rw [F0.out]; rfl, rfl, A3.out, X3.out, Y3.out, M3.out, Sl.weak Q3.out (Nat.zero_le _)⟩
    case round =>
      obtain ⟨k, hk, rfl, rfl, HA, HX, HY, HM, HQ⟩ := hrel
      clear x3_0 x3_1 x3_z y3_0 y3_1 y3_z m3_0 m3_1 m3_z A3 X3 Y3 M3 Q3
      by_cases z : k < L.length
      · have kz : decide ((k : Int) < (L.length : Int)) = true := decide_eq_true (by omega)
        obtain ⟨b', off, rfl, bl, cs⟩ := pairs_here HQ.out z
        obtain ⟨c0, c1⟩ := cs k z
        have hh := fun w ht => Hhas.out k z w ht
        have st := Lib.hid (Fst.out k z)
        have fk := Fle.out k
        clear cs Hhas Fst Fle F0 FL
        generalize (L.getD k (0, 0)).1 = p1 at *
        generalize (L.getD k (0, 0)).2 = p2 at *
        obtain ⟨w4, hw4⟩ : ∃ w4 : World, wr.alloc (.cells #[.int .i64 p1, .int .i64 p2] 23) = w4 := ⟨_, rfl⟩
        have A4 : Hid (Below w.heap.size w w4) := by rw [← hw4]; exact grow HA.out _
        have X4 : Hid (Two w4 (w.heap.size) (.int .i64 (a)) (.int .i64 (b))) := by rw [← hw4]; exact HX.out.old _
        have Y4 : Hid (Two w4 (w.heap.size + 1) (.int .i64 (c)) (.int .i64 (d))) := by rw [← hw4]; exact HY.out.old _
        have M4 : Hid (Two w4 (w2.heap.size) (.int .i64 (mf)) (.int .i64 (mt))) := by rw [← hw4]; exact HM.out.old _
        have Q4 : Hid (PairS 0 w4 (.slice (some ⟨b', off, none⟩) L.length cp) L) := by rw [← hw4]; exact HQ.out.keep (grow (here wr) _)
        have S4 : Two w4 wr.heap.size (.int .i64 p1) (.int .i64 p2) := by rw [← hw4]; exact Two.new (here _)
        obtain ⟨s0, s1, sl⟩ := S4
        have hh' := Lib.hid (hh w4 (ht.out.below A4.out))
        clear HA HX HY HM HQ hh
        generalize F k = fk' at *
        cases q : hsB p1 p2 x
        · rw [q] at hh' st
          clear q
          go_wp2_with fail
          refine hh'.out.mono ?_
          rintro e w5 ⟨rfl, hb⟩
          have A5 := Lib.hid (down A4.out hb)
          have X5 := Lib.hid (X4.out.keep hb)
          have Y5 := Lib.hid (Y4.out.keep hb)
          have M5 := Lib.hid (M4.out.keep hb)
          have Q5 := Lib.hid (Q4.out.keep hb)
          clear hb A4 X4 Y4 M4 Q4 s0 s1 sl hh' c0 c1 hw4
          go_wp2
          go_roundw
          case rel => exact ⟨k + 1, by omega, by rw [st.out]; rfl, by go_num, A5, X5, Y5, M5, Q5⟩
          case measure => simp [intOf]; omega
        · rw [q] at hh' st
          clear q
          go_wp2_with fail
          refine hh'.out.mono ?_
          rintro e w5 ⟨rfl, hb⟩
          have A5 := Lib.hid (down A4.out hb)
          have X5 := Lib.hid (X4.out.keep hb)
          have Y5 := Lib.hid (Y4.out.keep hb)
          have M5 := Lib.hid (M4.out.keep hb)
          have Q5 := Lib.hid (Q4.out.keep hb)
          clear hb A4 X4 Y4 M4 Q4 s0 s1 sl hh' c0 c1 hw4
          go_wp2
          go_roundw
          case rel => exact ⟨k + 1, by omega, by rw [st.out]; go_num, by go_num, A5, X5, Y5, M5, Q5⟩
          case measure => simp [intOf]; omega
      · have kz : decide ((k : Int) < (L.length : Int)) = false := decide_eq_false (by omega)
        have fe : Hid (((F k : Nat) : Int) = 0) := by show _ = _; rw [show k = L.length by omega, FL.out]; rfl
        rw [fe.out]
        have A10 := HA
        have X10 := HX
        have Y10 := HY
        have M10 := HM
        clear HA HX HY HM HQ Hhas Fst Fle F0 FL fe
        obtain ⟨w10, hw10⟩ : ∃ u : World, u = wr := ⟨_, rfl⟩
        subst hw10
        obtain ⟨x10_0, x10_1, x10_z⟩ := X10.out
        obtain ⟨y10_0, y10_1, y10_z⟩ := Y10.out
        obtain ⟨m10_0, m10_1, m10_z⟩ := M10.out
        go_wp2_with fail
        refine (HH.out _ (ht.out.below A10.out)).mono ?_
        rintro e w11 ⟨rfl, hb⟩
        have A11 := Lib.hid (down A10.out hb)
        have X11 := Lib.hid (X10.out.keep hb)
        have Y11 := Lib.hid (Y10.out.keep hb)
        have M11 := Lib.hid (M10.out.keep hb)
        clear hb A10 X10 Y10 M10 x10_0 x10_1 x10_z y10_0 y10_1 y10_z m10_0 m10_1 m10_z
        obtain ⟨x11_0, x11_1, x11_z⟩ := X11.out
        obtain ⟨y11_0, y11_1, y11_z⟩ := Y11.out
        obtain ⟨m11_0, m11_1, m11_z⟩ := M11.out
        go_wp2_with fail
        refine (HVA.out _ (ht.out.below (grow A11.out _))).mono ?_
        rintro e w12 ⟨rfl, hb⟩
        have A12 := Lib.hid (down (grow A11.out _) hb)
        have X12 := Lib.hid ((X11.out.old _).keep hb)
        have Y12 := Lib.hid ((Y11.out.old _).keep hb)
        have M12 := Lib.hid ((M11.out.old _).keep hb)
        have H12 := Lib.hid (Two.new hb)
        clear hb A11 X11 Y11 M11 x11_0 x11_1 x11_z y11_0 y11_1 y11_z m11_0 m11_1 m11_z
        obtain ⟨x12_0, x12_1, x12_z⟩ := X12.out
        obtain ⟨y12_0, y12_1, y12_z⟩ := Y12.out
        obtain ⟨m12_0, m12_1, m12_z⟩ := M12.out
        obtain ⟨h12_0, h12_1, h12_z⟩ := H12.out
        go_wp2
        go_ret
        exact ⟨rfl, by first | exact A12.out | exact grow A12.out _ | exact below_drewN A12.out _ | exact grow (grow A12.out _) _ | exact grow (grow (grow A12.out _) _) _⟩
  · rw [va] at HVA
    cases vb : ivB c d
    · rw [vb] at HVB
      clear no va vb
      replace HVA := Lib.hid HVA
      replace HVB := Lib.hid HVB
      go_enter Tryd.func8, Tryd.ntmps8
      go_wp2_with fail
      refine (AW.out _ (ht.out.below (grow (grow (here w) _) _))).mono ?_
      rintro e w1 ⟨rfl, hb⟩
      have A1 := Lib.hid (down (grow (grow (here w) _) _) hb)
      have X1 := Lib.hid (Two.fst hb)
      have Y1 := Lib.hid (Two.snd hb)
      clear hb
      obtain ⟨x1_0, x1_1, x1_z⟩ := X1.out
      obtain ⟨y1_0, y1_1, y1_z⟩ := Y1.out
      go_wp2_with fail
      refine (HM.out _ (ht.out.below A1.out)).mono ?_
      rintro e w2 ⟨rfl, hb⟩
      have A2 := Lib.hid (down A1.out hb)
      have X2 := Lib.hid (X1.out.keep hb)
      have Y2 := Lib.hid (Y1.out.keep hb)
      clear hb A1 X1 Y1 x1_0 x1_1 x1_z y1_0 y1_1 y1_z
      obtain ⟨x2_0, x2_1, x2_z⟩ := X2.out
      obtain ⟨y2_0, y2_1, y2_z⟩ := Y2.out
      go_wp2_with fail
      refine (HN.out _ (ht.out.below (grow A2.out _))).mono ?_
      rintro e w3 ⟨⟨v, rfl, Q⟩, hb⟩
      obtain ⟨o, cp, rfl⟩ := Sl.shape Q
      have A3 := Lib.hid (down (grow A2.out _) hb)
      have X3 := Lib.hid ((X2.out.old _).keep hb)
      have Y3 := Lib.hid ((Y2.out.old _).keep hb)
      have M3 := Lib.hid (Two.new hb)
      clear hb A2 X2 Y2 x2_0 x2_1 x2_z y2_0 y2_1 y2_z
      obtain ⟨x3_0, x3_1, x3_z⟩ := X3.out
      obtain ⟨y3_0, y3_1, y3_z⟩ := Y3.out
      obtain ⟨m3_0, m3_1, m3_z⟩ := M3.out
      have Q3 := Lib.hid Q
      clear Q
      clear HN HM AW
      go_wp2
      go_loopw [9, 29] (fun l i wr => ∃ k : Nat, k ≤ L.length ∧ l = .int .i64 (F k) ∧ i = .int .i64 k ∧ Hid (Below w.heap.size w wr) ∧ Hid (Two wr (w.heap.size) (.int .i64 (a)) (.int .i64 (b))) ∧ Hid (Two wr (w.heap.size + 1) (.int .i64 (c)) (.int .i64 (d))) ∧ Hid (Two wr (w2.heap.size) (.int .i64 (mf)) (.int .i64 (mt))) ∧ Hid (PairS 0 wr (.slice o L.length cp) L)) (fun _ i _ => L.length - (intOf i).toNat)
      case atStart => exact ⟨0, Nat.zero_le _, by rw [F0.out]; rfl, rfl, A3.out, X3.out, Y3.out, M3.out, Sl.weak Q3.out (Nat.zero_le _)⟩
      case round =>
        obtain ⟨k, hk, rfl, rfl, HA, HX, HY, HM, HQ⟩ := hrel
        clear x3_0 x3_1 x3_z y3_0 y3_1 y3_z m3_0 m3_1 m3_z A3 X3 Y3 M3 Q3
        by_cases z : k < L.length
        · have kz : decide ((k : Int) < (L.length : Int)) = true := decide_eq_true (by omega)
          obtain ⟨b', off, rfl, bl, cs⟩ := pairs_here HQ.out z
          obtain ⟨c0, c1⟩ := cs k z
          have hh := fun w ht => Hhas.out k z w ht
          have st := Lib.hid (Fst.out k z)
          have fk := Fle.out k
          clear cs Hhas Fst Fle F0 FL
          generalize (L.getD k (0, 0)).1 = p1 at *
          generalize (L.getD k (0, 0)).2 = p2 at *
          obtain ⟨w4, hw4⟩ : ∃ w4 : World, wr.alloc (.cells #[.int .i64 p1, .int .i64 p2] 23) = w4 := ⟨_, rfl⟩
          have A4 : Hid (Below w.heap.size w w4) := by rw [← hw4]; exact grow HA.out _
          have X4 : Hid (Two w4 (w.heap.size) (.int .i64 (a)) (.int .i64 (b))) := by rw [← hw4]; exact HX.out.old _
          have Y4 : Hid (Two w4 (w.heap.size + 1) (.int .i64 (c)) (.int .i64 (d))) := by rw [← hw4]; exact HY.out.old _
          have M4 : Hid (Two w4 (w2.heap.size) (.int .i64 (mf)) (.int .i64 (mt))) := by rw [← hw4]; exact HM.out.old _
          have Q4 : Hid (PairS 0 w4 (.slice (some ⟨b', off, none⟩) L.length cp) L) := by rw [← hw4]; exact HQ.out.keep (grow (here wr) _)
          have S4 : Two w4 wr.heap.size (.int .i64 p1) (.int .i64 p2) := by rw [← hw4]; exact Two.new (here _)
          obtain ⟨s0, s1, sl⟩ := S4
          have hh' := Lib.hid (hh w4 (ht.out.below A4.out))
          clear HA HX HY HM HQ hh
          generalize F k = fk' at *
          cases q : hsB p1 p2 x
          · rw [q] at hh' st
            clear q
            go_wp2_with fail
            refine hh'.out.mono ?_
            rintro e w5 ⟨rfl, hb⟩
            have A5 := Lib.hid (down A4.out hb)
            have X5 := Lib.hid (X4.out.keep hb)
            have Y5 := Lib.hid (Y4.out.keep hb)
            have M5 := Lib.hid (M4.out.keep hb)
            have Q5 := Lib.hid (Q4.out.keep hb)
            clear hb A4 X4 Y4 M4 Q4 s0 s1 sl hh' c0 c1 hw4
            go_wp2
            go_roundw
            case rel => exact ⟨k + 1, by omega, by rw [st.out]; rfl, by go_num, A5, X5, Y5, M5, Q5⟩
            case measure => simp [intOf]; omega
          · rw [q] at hh' st
            clear q
            go_wp2_with fail
            refine hh'.out.mono ?_
            rintro e w5 ⟨rfl, hb⟩
            have A5 := Lib.hid (down A4.out hb)
            have X5 := Lib.hid (X4.out.keep hb)
            have Y5 := Lib.hid (Y4.out.keep hb)
            have M5 := Lib.hid (M4.out.keep hb)
            have Q5 := Lib.hid (Q4.out.keep hb)
            clear hb A4 X4 Y4 M4 Q4 s0 s1 sl hh' c0 c1 hw4
            go_wp2
            go_roundw
            case rel => exact ⟨k + 1, by omega, by rw [st.out]; go_num, by go_num, A5, X5, Y5, M5, Q5⟩
            case measure => simp [intOf]; omega
        · have kz : decide ((k : Int) < (L.length : Int)) = false := decide_eq_false (by omega)
          have fe : Hid (((F k : Nat) : Int) = 0) := by show _ = _; rw [show k = L.length by omega, FL.out]; rfl
          rw [fe.out]
          have A10 := HA
          have X10 := HX
          have Y10 := HY
          have M10 := HM
          clear HA HX HY HM HQ Hhas Fst Fle F0 FL fe
          obtain ⟨w10, hw10⟩ : ∃ u : World, u = wr := ⟨_, rfl⟩
          subst hw10
          obtain ⟨x10_0, x10_1, x10_z⟩ := X10.out
          obtain ⟨y10_0, y10_1, y10_z⟩ := Y10.out
          obtain ⟨m10_0, m10_1, m10_z⟩ := M10.out
          go_wp2_with fail
          refine (HH.out _ (ht.out.below A10.out)).mono ?_
          rintro e w11 ⟨rfl, hb⟩
          have A11 := Lib.hid (down A10.out hb)
          have X11 := Lib.hid (X10.out.keep hb)
          have Y11 := Lib.hid (Y10.out.keep hb)
          have M11 := Lib.hid (M10.out.keep hb)
          clear hb A10 X10 Y10 M10 x10_0 x10_1 x10_z y10_0 y10_1 y10_z m10_0 m10_1 m10_z
          obtain ⟨x11_0, x11_1, x11_z⟩ := X11.out
          obtain ⟨y11_0, y11_1, y11_z⟩ := Y11.out
          obtain ⟨m11_0, m11_1, m11_z⟩ := M11.out
          go_wp2_with fail
          refine (HVA.out _ (ht.out.below (grow A11.out _))).mono ?_
          rintro e w12 ⟨rfl, hb⟩
          have A12 := Lib.hid (down (grow A11.out _) hb)
          have X12 := Lib.hid ((X11.out.old _).keep hb)
          have Y12 := Lib.hid ((Y11.out.old _).keep hb)
          have M12 := Lib.hid ((M11.out.old _).keep hb)
          have H12 := Lib.hid (Two.new hb)
          clear hb A11 X11 Y11 M11 x11_0 x11_1 x11_z y11_0 y11_1 y11_z m11_0 m11_1 m11_z
          obtain ⟨x12_0, x12_1, x12_z⟩ := X12.out
          obtain ⟨y12_0, y12_1, y12_z⟩ := Y12.out
          obtain ⟨m12_0, m12_1, m12_z⟩ := M12.out
          obtain ⟨h12_0, h12_1, h12_z⟩ := H12.out
          go_wp2_with fail
          refine (HVB.out _ (ht.out.below A12.out)).mono ?_
          rintro e w13 ⟨rfl, hb⟩
          have A13 := Lib.hid (down A12.out hb)
          have X13 := Lib.hid (X12.out.keep hb)
          have Y13 := Lib.hid (Y12.out.keep hb)
          have M13 := Lib.hid (M12.out.keep hb)
          have H13 := Lib.hid (H12.out.keep hb)
          clear hb A12 X12 Y12 M12 H12 x12_0 x12_1 x12_z y12_0 y12_1 y12_z m12_0 m12_1 m12_z h12_0 h12_1 h12_z
          obtain ⟨x13_0, x13_1, x13_z⟩ := X13.out
          obtain ⟨y13_0, y13_1, y13_z⟩ := Y13.out
          obtain ⟨m13_0, m13_1, m13_z⟩ := M13.out
          obtain ⟨h13_0, h13_1, h13_z⟩ := H13.out
          go_wp2
          go_ret
          exact ⟨rfl, by first | exact A13.out | exact grow A13.out _ | exact below_drewN A13.out _ | exact grow (grow A13.out _) _ | exact grow (grow (grow A13.out _) _) _⟩
    · rw [va, vb] at no; cases no
end Go.Proofs.YtknlhhjooamfhaaDoor
