/- The walk of LeapMinutes: the Go text returns true, at every input. -/
import Derived.Test.YtocimbiidloofaaDoorLtLawA
import Derived.BigQuiet
import Derived.Deep.QuietTactic
import Derived.Deep.Cut
import Derived.Outline
namespace Go.Proofs.YtocimbiidloofaaDoor
open Go.RowKit
set_option linter.unusedVariables false

/-- Whether one of the first steps is at an instant. -/
def hK (ps : List (Int × Int)) (x : Int) (k : Nat) : Bool := (List.range k).any fun i => decide (ltA ps i = x)
theorem hK_succ (ps : List (Int × Int)) (x : Int) (k : Nat) : hK ps x (k + 1) = (hK ps x k || (ltA ps k == x)) := by
  unfold hK
  rw [List.range_succ, List.any_append, List.any_cons, List.any_nil, Bool.or_false]
  rfl
namespace LeapMinutes
set_option maxRecDepth 100000 in
set_option maxHeartbeats 2000000 in
theorem walk (v : Value) (ps : List (Int × Int)) (x : Int) (hx : (Lit.int .i64 x).wf = true) (w : World) (h : LT w v ps) (ht : Tabs w) :
    Calls Tryd.prog 7 #[.agg #[v], .int .i64 x] w fun e w' => e = .returned (.bool true) ∧ Below w.heap.size w w' := by
  replace hx := i64_wf hx
  obtain ⟨ao, cp, rfl⟩ := h.shape
  have TL0 := Lib.hid h
  have HL := fun w h => rlong (.slice ao ps.length cp) ps w h
  have HV := fun w h => ulvalid (.slice ao ps.length cp) ps w h
  have RV := fun w h => rlvalid (.slice ao ps.length cp) ps w h
  clear h
  by_cases l : 300 < ps.length
  · rw [decide_eq_true l] at HL
    clear l
    replace HL := Lib.hid HL
    have AW := Lib.hid (fun w ht => awake_all w ht)
    replace ht := Lib.hid ht
    go_enter Tryd.func7, Tryd.ntmps7
    go_wp2_with fail
    refine (AW.out _ (ht.out.below (grow (here w) _))).mono ?_
    rintro e w1 ⟨rfl, hb⟩
    have A1 := Lib.hid (down (grow (here w) _) hb)
    have T1 := Lib.hid (One.new hb)
    have TL1 := Lib.hid ((TL0.out.keep (grow (here _) _)).keep hb)
    clear hb TL0
    obtain ⟨t1_0, t1_z⟩ := T1.out
    go_wp2_with fail
    refine (HL.out _ TL1.out).mono ?_
    rintro e w2 ⟨rfl, hb⟩
    have A2 := Lib.hid (down A1.out hb)
    have T2 := Lib.hid (T1.out.keep hb)
    have TL2 := Lib.hid (TL1.out.keep hb)
    clear hb A1 T1 TL1 t1_0 t1_z
    obtain ⟨t2_0, t2_z⟩ := T2.out
    go_wp2_with fail
    refine (AW.out _ (ht.out.below A2.out)).mono ?_
    rintro e w3 ⟨rfl, hb⟩
    have A3 := Lib.hid (down A2.out hb)
    have T3 := Lib.hid (T2.out.keep hb)
    have TL3 := Lib.hid (TL2.out.keep hb)
    clear hb A2 T2 TL2 t2_0 t2_z
    obtain ⟨t3_0, t3_z⟩ := T3.out
    go_wp2
    go_ret
    exact ⟨rfl, by first | exact A3.out | exact grow A3.out _ | exact below_drewN A3.out _ | exact grow (grow A3.out _) _ | exact grow (grow (grow A3.out _) _) _⟩
  rw [decide_eq_false l] at HL
  replace HL := Lib.hid HL
  have HM := fun w h => ulmin (.slice ao ps.length cp) ps x hx w h
  have RI := fun w => rlins x hx w
  cases b : ltB ps
  · rw [lm_no b, (la_no b x).2] at HM
    rw [b] at HV
    clear b l RI RV
    replace HM := Lib.hid HM
    replace HV := Lib.hid HV
    have AW := Lib.hid (fun w ht => awake_all w ht)
    replace ht := Lib.hid ht
    go_enter Tryd.func7, Tryd.ntmps7
    go_wp2_with fail
    refine (AW.out _ (ht.out.below (grow (here w) _))).mono ?_
    rintro e w1 ⟨rfl, hb⟩
    have A1 := Lib.hid (down (grow (here w) _) hb)
    have T1 := Lib.hid (One.new hb)
    have TL1 := Lib.hid ((TL0.out.keep (grow (here _) _)).keep hb)
    clear hb TL0
    obtain ⟨t1_0, t1_z⟩ := T1.out
    go_wp2_with fail
    refine (HL.out _ TL1.out).mono ?_
    rintro e w2 ⟨rfl, hb⟩
    have A2 := Lib.hid (down A1.out hb)
    have T2 := Lib.hid (T1.out.keep hb)
    have TL2 := Lib.hid (TL1.out.keep hb)
    clear hb A1 T1 TL1 t1_0 t1_z
    obtain ⟨t2_0, t2_z⟩ := T2.out
    go_wp2_with fail
    refine (HM.out _ TL2.out).mono ?_
    rintro e w3 ⟨rfl, hb⟩
    have A3 := Lib.hid (down A2.out hb)
    have T3 := Lib.hid (T2.out.keep hb)
    have TL3 := Lib.hid (TL2.out.keep hb)
    clear hb A2 T2 TL2 t2_0 t2_z
    obtain ⟨t3_0, t3_z⟩ := T3.out
    go_wp2_with fail
    refine (HV.out _ TL3.out).mono ?_
    rintro e w4 ⟨rfl, hb⟩
    have A4 := Lib.hid (down A3.out hb)
    have T4 := Lib.hid (T3.out.keep hb)
    have TL4 := Lib.hid (TL3.out.keep hb)
    clear hb A3 T3 TL3 t3_0 t3_z
    obtain ⟨t4_0, t4_z⟩ := T4.out
    go_wp2
    go_ret
    exact ⟨rfl, by first | exact A4.out | exact grow A4.out _ | exact below_drewN A4.out _ | exact grow (grow A4.out _) _ | exact grow (grow (grow A4.out _) _) _⟩
  rw [b] at HV
  cases i : inB x
  · rw [lm_out b i, (la_out b i).2] at HM
    rw [i] at RI
    clear b l i RV
    replace HM := Lib.hid HM
    replace HV := Lib.hid HV
    replace RI := Lib.hid RI
    have AW := Lib.hid (fun w ht => awake_all w ht)
    replace ht := Lib.hid ht
    go_enter Tryd.func7, Tryd.ntmps7
    go_wp2_with fail
    refine (AW.out _ (ht.out.below (grow (here w) _))).mono ?_
    rintro e w1 ⟨rfl, hb⟩
    have A1 := Lib.hid (down (grow (here w) _) hb)
    have T1 := Lib.hid (One.new hb)
    have TL1 := Lib.hid ((TL0.out.keep (grow (here _) _)).keep hb)
    clear hb TL0
    obtain ⟨t1_0, t1_z⟩ := T1.out
    go_wp2_with fail
    refine (HL.out _ TL1.out).mono ?_
    rintro e w2 ⟨rfl, hb⟩
    have A2 := Lib.hid (down A1.out hb)
    have T2 := Lib.hid (T1.out.keep hb)
    have TL2 := Lib.hid (TL1.out.keep hb)
    clear hb A1 T1 TL1 t1_0 t1_z
    obtain ⟨t2_0, t2_z⟩ := T2.out
    go_wp2_with fail
    refine (HM.out _ TL2.out).mono ?_
    rintro e w3 ⟨rfl, hb⟩
    have A3 := Lib.hid (down A2.out hb)
    have T3 := Lib.hid (T2.out.keep hb)
    have TL3 := Lib.hid (TL2.out.keep hb)
    clear hb A2 T2 TL2 t2_0 t2_z
    obtain ⟨t3_0, t3_z⟩ := T3.out
    go_wp2_with fail
    refine (HV.out _ TL3.out).mono ?_
    rintro e w4 ⟨rfl, hb⟩
    have A4 := Lib.hid (down A3.out hb)
    have T4 := Lib.hid (T3.out.keep hb)
    have TL4 := Lib.hid (TL3.out.keep hb)
    clear hb A3 T3 TL3 t3_0 t3_z
    obtain ⟨t4_0, t4_z⟩ := T4.out
    go_wp2_with fail
    refine (RI.out _).mono ?_
    rintro e x1 ⟨rfl, rfl⟩
    go_wp2
    go_ret
    exact ⟨rfl, by first | exact A4.out | exact grow A4.out _ | exact below_drewN A4.out _ | exact grow (grow A4.out _) _ | exact grow (grow (grow A4.out _) _) _⟩
  rw [lm_in b i, (la_in b i).2] at HM
  rw [i] at RI
  have fb := ltF_bd i
  have lm := lt_minute b i
  have hr : (x + 62135596800).tmod 60 = (x + 62135596800) % 60 := Int.tmod_eq_emod_of_nonneg (by have := inB_iff.1 i; omega)
  obtain ⟨r, e1⟩ : ∃ r, (x + 62135596800).tmod 60 = r := ⟨_, rfl⟩
  have e2 : x - r = ltF x := by unfold ltF; rw [← e1, hr]
  have rb : 0 ≤ r ∧ r < 60 := by rw [← e1, hr]; omega
  have xb := inB_iff.1 i
  have RF := fun w => rlins (ltF x + 60) ⟨by omega, by omega⟩ w
  obtain ⟨M, hM⟩ : ∃ M : Int, (if ltH ps (ltF x + 60) then 61 else 60) = M := ⟨_, rfl⟩
  rw [hM] at HM
  replace hM : Hid ((if ltH ps (ltF x + 60) then (61 : Int) else 60) = M) := hM
  clear hr
  cases j : inB (ltF x + 60)
  · rw [j] at RF
    clear b i j lm RV fb
    generalize ltF x = F at *
    replace HM := Lib.hid HM
    replace HV := Lib.hid HV
    replace RI := Lib.hid RI
    replace RF := Lib.hid RF
    have AW := Lib.hid (fun w ht => awake_all w ht)
    replace ht := Lib.hid ht
    go_enter Tryd.func7, Tryd.ntmps7
    go_wp2_with fail
    refine (AW.out _ (ht.out.below (grow (here w) _))).mono ?_
    rintro e w1 ⟨rfl, hb⟩
    have A1 := Lib.hid (down (grow (here w) _) hb)
    have T1 := Lib.hid (One.new hb)
    have TL1 := Lib.hid ((TL0.out.keep (grow (here _) _)).keep hb)
    clear hb TL0
    obtain ⟨t1_0, t1_z⟩ := T1.out
    go_wp2_with fail
    refine (HL.out _ TL1.out).mono ?_
    rintro e w2 ⟨rfl, hb⟩
    have A2 := Lib.hid (down A1.out hb)
    have T2 := Lib.hid (T1.out.keep hb)
    have TL2 := Lib.hid (TL1.out.keep hb)
    clear hb A1 T1 TL1 t1_0 t1_z
    obtain ⟨t2_0, t2_z⟩ := T2.out
    go_wp2_with fail
    refine (HM.out _ TL2.out).mono ?_
    rintro e w3 ⟨rfl, hb⟩
    have A3 := Lib.hid (down A2.out hb)
    have T3 := Lib.hid (T2.out.keep hb)
    have TL3 := Lib.hid (TL2.out.keep hb)
    clear hb A2 T2 TL2 t2_0 t2_z
    obtain ⟨t3_0, t3_z⟩ := T3.out
    go_wp2_with fail
    refine (HV.out _ TL3.out).mono ?_
    rintro e w4 ⟨rfl, hb⟩
    have A4 := Lib.hid (down A3.out hb)
    have T4 := Lib.hid (T3.out.keep hb)
    have TL4 := Lib.hid (TL3.out.keep hb)
    clear hb A3 T3 TL3 t3_0 t3_z
    obtain ⟨t4_0, t4_z⟩ := T4.out
    go_wp2_with fail
    refine (RI.out _).mono ?_
    rintro e x1 ⟨rfl, rfl⟩
    go_wp2
    go_loopw [8, 52] (fun a b wr => ∃ (k : Nat) (Wn : Int), k ≤ ps.length ∧ a = .int .i64 Wn ∧ Hid (Wn = if hK ps (F + 60) k then 61 else 60) ∧ b = .int .i64 k ∧ Hid (Below w.heap.size w wr) ∧ Hid (One wr w.heap.size (.slice ao ps.length cp)) ∧ Hid (LT wr (.slice ao ps.length cp) ps)) (fun _ b _ => ps.length - (intOf b).toNat)
    case atStart => exact ⟨0, 60, Nat.zero_le _, rfl, rfl, rfl, A4.out, T4.out, TL4.out⟩
    case round =>
      clear A4 T4 TL4 t4_0 t4_z
      obtain ⟨k, Wn, hk, rfl, HW, rfl, A9, T9, TL9⟩ := hrel
      by_cases z : k < ps.length
      · skip
        have kz : decide ((k : Int) < (ps.length : Int)) = true := decide_eq_true (by omega)
        obtain ⟨bq, off, rfl, bl, cs⟩ := TL9.out.at z
        obtain ⟨c0, c1⟩ := cs k z
        have wf := TL9.out.wf k z
        have hs := Lib.hid (hK_succ ps (F + 60) k)
        clear cs
        generalize ltA ps k = u at *
        generalize ltT ps k = y at *
        obtain ⟨⟨f0, f1⟩, f2, f3⟩ := wf
        obtain ⟨w4, hw4⟩ : ∃ w4 : World, wr.alloc (.cells #[.int .i64 u, .int .i64 y] 33) = w4 := ⟨_, rfl⟩
        have A4 : Hid (Below w.heap.size w w4) := by rw [← hw4]; exact grow A9.out _
        have B4 : Hid (One w4 w.heap.size (.slice (some ⟨bq, off, none⟩) ps.length cp)) := by rw [← hw4]; exact T9.out.old _
        have L4 : Hid (LT w4 (.slice (some ⟨bq, off, none⟩) ps.length cp) ps) := by rw [← hw4]; exact TL9.out.old _
        have X4 : Hid (Two w4 wr.heap.size (.int .i64 u) (.int .i64 y)) := by rw [← hw4]; exact Two.new (here _)
        obtain ⟨x0, x1, xlt⟩ := X4.out
        clear A9 T9 TL9
        by_cases q : u = F + 60
        · have kq : (u == F + 60) = true := by simpa using q
          have HW' : Hid ((61 : Int) = if hK ps (F + 60) (k + 1) then 61 else 60) := by show _ = _; rw [hs.out, kq, Bool.or_true]; rfl
          clear q HW hs
          go_wp2
          go_roundw
          case rel => exact ⟨k + 1, 61, by omega, rfl, HW', by go_num, A4, B4, L4⟩
          case measure => simp [intOf]; omega
        · have kq : (u == F + 60) = false := by simpa using q
          have HW' : Hid (Wn = if hK ps (F + 60) (k + 1) then 61 else 60) := by show _ = _; rw [hs.out, kq, Bool.or_false]; exact HW.out
          clear q HW hs
          go_wp2
          go_roundw
          case rel => exact ⟨k + 1, Wn, by omega, rfl, HW', by go_num, A4, B4, L4⟩
          case measure => simp [intOf]; omega
      · skip
        have kz : decide ((k : Int) < (ps.length : Int)) = false := decide_eq_false (by omega)
        have e : k = ps.length := by omega
        have we : Wn = M := by rw [HW.out, e, ← hM.out]; rfl
        subst we
        have kW : (Wn != Wn) = false := by simp
        have kW2 : (Wn == Wn) = true := by simp
        clear HW e hM
        obtain ⟨t9_0, t9_z⟩ := T9.out
        go_wp2_with fail
        refine (RF.out _).mono ?_
        rintro e x2 ⟨rfl, rfl⟩
        go_wp2
        go_ret
        exact ⟨rfl, by first | exact A9.out | exact grow A9.out _ | exact below_drewN A9.out _ | exact grow (grow A9.out _) _ | exact grow (grow (grow A9.out _) _) _⟩
  · have fi : inB (ltF x) = true := inB_iff.2 (by omega)
    obtain ⟨e3, e4⟩ := ld_in b fi j
    have HD := fun w h => uldist (.slice ao ps.length cp) ps (ltF x) (ltF x + 60) ⟨by omega, by omega⟩ ⟨by omega, by omega⟩ w h
    have e5 : ltW ps (ltF x + 60) - ltW ps (ltF x) = M := by
      rw [← hM.out]
      unfold ltW
      rw [lm]
      split <;> simp <;> omega
    rw [e3, e4, e5] at HD
    rw [j] at RF
    clear b i j lm RV fi e3 e4 e5
    generalize ltF x = F at *
    replace HM := Lib.hid HM
    replace HV := Lib.hid HV
    replace RI := Lib.hid RI
    replace RF := Lib.hid RF
    replace HD := Lib.hid HD
    have AW := Lib.hid (fun w ht => awake_all w ht)
    replace ht := Lib.hid ht
    go_enter Tryd.func7, Tryd.ntmps7
    go_wp2_with fail
    refine (AW.out _ (ht.out.below (grow (here w) _))).mono ?_
    rintro e w1 ⟨rfl, hb⟩
    have A1 := Lib.hid (down (grow (here w) _) hb)
    have T1 := Lib.hid (One.new hb)
    have TL1 := Lib.hid ((TL0.out.keep (grow (here _) _)).keep hb)
    clear hb TL0
    obtain ⟨t1_0, t1_z⟩ := T1.out
    go_wp2_with fail
    refine (HL.out _ TL1.out).mono ?_
    rintro e w2 ⟨rfl, hb⟩
    have A2 := Lib.hid (down A1.out hb)
    have T2 := Lib.hid (T1.out.keep hb)
    have TL2 := Lib.hid (TL1.out.keep hb)
    clear hb A1 T1 TL1 t1_0 t1_z
    obtain ⟨t2_0, t2_z⟩ := T2.out
    go_wp2_with fail
    refine (HM.out _ TL2.out).mono ?_
    rintro e w3 ⟨rfl, hb⟩
    have A3 := Lib.hid (down A2.out hb)
    have T3 := Lib.hid (T2.out.keep hb)
    have TL3 := Lib.hid (TL2.out.keep hb)
    clear hb A2 T2 TL2 t2_0 t2_z
    obtain ⟨t3_0, t3_z⟩ := T3.out
    go_wp2_with fail
    refine (HV.out _ TL3.out).mono ?_
    rintro e w4 ⟨rfl, hb⟩
    have A4 := Lib.hid (down A3.out hb)
    have T4 := Lib.hid (T3.out.keep hb)
    have TL4 := Lib.hid (TL3.out.keep hb)
    clear hb A3 T3 TL3 t3_0 t3_z
    obtain ⟨t4_0, t4_z⟩ := T4.out
    go_wp2_with fail
    refine (RI.out _).mono ?_
    rintro e x1 ⟨rfl, rfl⟩
    go_wp2
    go_loopw [8, 52] (fun a b wr => ∃ (k : Nat) (Wn : Int), k ≤ ps.length ∧ a = .int .i64 Wn ∧ Hid (Wn = if hK ps (F + 60) k then 61 else 60) ∧ b = .int .i64 k ∧ Hid (Below w.heap.size w wr) ∧ Hid (One wr w.heap.size (.slice ao ps.length cp)) ∧ Hid (LT wr (.slice ao ps.length cp) ps)) (fun _ b _ => ps.length - (intOf b).toNat)
    case atStart => exact ⟨0, 60, Nat.zero_le _, rfl, rfl, rfl, A4.out, T4.out, TL4.out⟩
    case round =>
      clear A4 T4 TL4 t4_0 t4_z
      obtain ⟨k, Wn, hk, rfl, HW, rfl, A9, T9, TL9⟩ := hrel
      by_cases z : k < ps.length
      · skip
        have kz : decide ((k : Int) < (ps.length : Int)) = true := decide_eq_true (by omega)
        obtain ⟨bq, off, rfl, bl, cs⟩ := TL9.out.at z
        obtain ⟨c0, c1⟩ := cs k z
        have wf := TL9.out.wf k z
        have hs := Lib.hid (hK_succ ps (F + 60) k)
        clear cs
        generalize ltA ps k = u at *
        generalize ltT ps k = y at *
        obtain ⟨⟨f0, f1⟩, f2, f3⟩ := wf
        obtain ⟨w4, hw4⟩ : ∃ w4 : World, wr.alloc (.cells #[.int .i64 u, .int .i64 y] 33) = w4 := ⟨_, rfl⟩
        have A4 : Hid (Below w.heap.size w w4) := by rw [← hw4]; exact grow A9.out _
        have B4 : Hid (One w4 w.heap.size (.slice (some ⟨bq, off, none⟩) ps.length cp)) := by rw [← hw4]; exact T9.out.old _
        have L4 : Hid (LT w4 (.slice (some ⟨bq, off, none⟩) ps.length cp) ps) := by rw [← hw4]; exact TL9.out.old _
        have X4 : Hid (Two w4 wr.heap.size (.int .i64 u) (.int .i64 y)) := by rw [← hw4]; exact Two.new (here _)
        obtain ⟨x0, x1, xlt⟩ := X4.out
        clear A9 T9 TL9
        by_cases q : u = F + 60
        · have kq : (u == F + 60) = true := by simpa using q
          have HW' : Hid ((61 : Int) = if hK ps (F + 60) (k + 1) then 61 else 60) := by show _ = _; rw [hs.out, kq, Bool.or_true]; rfl
          clear q HW hs
          go_wp2
          go_roundw
          case rel => exact ⟨k + 1, 61, by omega, rfl, HW', by go_num, A4, B4, L4⟩
          case measure => simp [intOf]; omega
        · have kq : (u == F + 60) = false := by simpa using q
          have HW' : Hid (Wn = if hK ps (F + 60) (k + 1) then 61 else 60) := by show _ = _; rw [hs.out, kq, Bool.or_false]; exact HW.out
          clear q HW hs
          go_wp2
          go_roundw
          case rel => exact ⟨k + 1, Wn, by omega, rfl, HW', by go_num, A4, B4, L4⟩
          case measure => simp [intOf]; omega
      · skip
        have kz : decide ((k : Int) < (ps.length : Int)) = false := decide_eq_false (by omega)
        have e : k = ps.length := by omega
        have we : Wn = M := by rw [HW.out, e, ← hM.out]; rfl
        subst we
        have kW : (Wn != Wn) = false := by simp
        have kW2 : (Wn == Wn) = true := by simp
        clear HW e hM
        obtain ⟨t9_0, t9_z⟩ := T9.out
        go_wp2_with fail
        refine (RF.out _).mono ?_
        rintro e x2 ⟨rfl, rfl⟩
        go_wp2_with fail
        refine (HD.out _ TL9.out).mono ?_
        rintro e w10 ⟨rfl, hb⟩
        have A10 := Lib.hid (down A9.out hb)
        have T10 := Lib.hid (T9.out.keep hb)
        have TL10 := Lib.hid (TL9.out.keep hb)
        clear hb A9 T9 TL9 t9_0 t9_z
        obtain ⟨t10_0, t10_z⟩ := T10.out
        go_wp2
        go_ret
        exact ⟨rfl, by first | exact A10.out | exact grow A10.out _ | exact below_drewN A10.out _ | exact grow (grow A10.out _) _ | exact grow (grow (grow A10.out _) _) _⟩
end LeapMinutes
end Go.Proofs.YtocimbiidloofaaDoor
