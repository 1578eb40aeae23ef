/- The walk of LeapDays: the Go text returns true, at every input. -/
import Derived.Test.YtocimbiidloofaaDoorLtLawA
import Derived.BigQuiet
import Derived.Deep.QuietTactic
import Derived.Deep.Cut
import Derived.Outline
namespace Go.Proofs.YtocimbiidloofaaDoor
open Go.RowKit
set_option linter.unusedVariables false

theorem rdayf (a b F : Int) (ha : I64 a) (hb : I64 b) (f0 : -62135596800 ≤ F) (f1 : F ≤ 253402300800) (q : Nat) (w : World) (h : One w q (.int .i64 F)) :
    Calls Tryd.prog 26 #[.agg #[.int .i64 a, .int .i64 b], .pointer (some ⟨q, 0, none⟩)] w fun e w' => e = .returned (.bool (a == F + 86400)) ∧ Below w.heap.size w w' := by
  obtain ⟨a0, a1⟩ := ha
  obtain ⟨b0, b1⟩ := hb
  obtain ⟨w1, hw1⟩ : ∃ w1 : World, w.alloc (.cells #[.int .i64 a, .int .i64 b] 33) = w1 := ⟨_, rfl⟩
  have A1 : Hid (Below w.heap.size w w1) := by rw [← hw1]; exact grow (here w) _
  obtain ⟨q0, qlt⟩ : One w1 q (.int .i64 F) := by rw [← hw1]; exact h.old _
  obtain ⟨x0, x1, xlt⟩ : Two w1 w.heap.size (.int .i64 a) (.int .i64 b) := by rw [← hw1]; exact Two.new (here _)
  clear h
  go_enter Tryd.func26, Tryd.ntmps26
  go_wp2
  go_ret
  exact ⟨rfl, A1.out⟩
set_option maxRecDepth 100000 in
theorem xidx (ao : Option Addr) (cp : Nat) (ps : List (Int × Int)) (F : Int) (hl : ps.length ≤ 1000) (f0 : -62135596800 ≤ F) (f1 : F ≤ 253402300800) (q : Nat) (w : World) (h : LT w (.slice ao ps.length cp) ps) (hq : One w q (.int .i64 F)) :
    Calls Tryd.prog 25 #[.slice ao ps.length cp, .func (.func 26) #[] #[.pointer (some ⟨q, 0, none⟩)]] w fun e w' => (∃ i : Int, e = .returned (.int .i64 i) ∧ I64 i ∧ (0 ≤ i ↔ ltH ps (F + 86400) = true)) ∧ Below w.heap.size w w' := by
  have TL0 := Lib.hid h
  have Q0 := Lib.hid hq
  have HC := Lib.hid (fun a b ha hb w h => rdayf a b F ha hb f0 f1 q w h)
  have yes := Lib.hid (fun k (hk : k < ps.length) (e : ltA ps k = F + 86400) => ltH_iff.2 ⟨k, hk, e⟩)
  have no : Hid ((∀ i, i < ps.length → ¬ ltA ps i = F + 86400) → ltH ps (F + 86400) = false) := fun g => by
    rw [← Bool.not_eq_true, ltH_iff]; rintro ⟨i, hi, e⟩; exact g i hi e
  clear h hq
  go_enter Tryd.func25, Tryd.ntmps25
  go_wp2
  go_loopw [8] (fun a wr => ∃ k : Nat, k ≤ ps.length ∧ a = .int .i64 k ∧ Hid (∀ i, i < k → ¬ ltA ps i = F + 86400) ∧ Hid (Below w.heap.size w wr) ∧ Hid (LT wr (.slice ao ps.length cp) ps) ∧ Hid (One wr q (.int .i64 F))) (fun a _ => ps.length - (intOf a).toNat)
  case atStart => exact ⟨0, Nat.zero_le _, rfl, fun i hi => absurd hi (Nat.not_lt_zero _), here w, TL0.out, Q0.out⟩
  case round =>
    obtain ⟨k, hk, rfl, HE, HA, HL, HQ⟩ := hrel
    by_cases z : k < ps.length
    · have kz : decide ((k : Int) < (ps.length : Int)) = true := decide_eq_true (by omega)
      obtain ⟨b, off, rfl, bl, cs⟩ := HL.out.at z
      obtain ⟨c0, c1⟩ := cs k z
      obtain ⟨wf1, wf2⟩ := HL.out.wf k z
      have hC := fun w h => HC.out (ltA ps k) (ltT ps k) wf1 wf2 w h
      have yk := Lib.hid (yes.out k z)
      have step : Hid (¬ ltA ps k = F + 86400 → ∀ i, i < k + 1 → ¬ ltA ps i = F + 86400) := fun e i hi => by
        rcases Nat.lt_or_ge i k with c | c
        · exact HE.out i c
        · obtain rfl : i = k := by omega
          exact e
      clear cs yes no HC HE TL0 Q0
      generalize ltA ps k = x at *
      generalize ltT ps k = y at *
      by_cases e : x = F + 86400
      · have ke : (x == F + 86400) = true := by simpa using e
        have hH := Lib.hid (yk.out e)
        rw [ke] at hC
        replace hC := Lib.hid hC
        clear yk step e ke wf1 wf2
        go_wp2_with fail
        refine (hC.out _ HQ.out).mono ?_
        rintro e w5 ⟨rfl, hb⟩
        have A5 := Lib.hid (down HA.out hb)
        clear hb HA HL HQ
        go_wp2
        go_ret
        exact ⟨⟨(k : Int), rfl, ⟨by omega, by omega⟩, fun _ => hH.out, fun _ => by omega⟩, A5.out⟩
      · have ke : (x == F + 86400) = false := by simpa using e
        have HE' := Lib.hid (step.out e)
        rw [ke] at hC
        replace hC := Lib.hid hC
        clear yk step e ke wf1 wf2
        go_wp2_with fail
        refine (hC.out _ HQ.out).mono ?_
        rintro e w5 ⟨rfl, hb⟩
        have A5 := Lib.hid (down HA.out hb)
        have L5 := Lib.hid (HL.out.keep hb)
        have Q5 := Lib.hid (HQ.out.keep hb)
        clear hb HA HL HQ c0 c1
        go_wp2
        go_roundw
        case rel => exact ⟨k + 1, by omega, by go_num, HE', A5, L5, Q5⟩
        case measure => simp [intOf]; omega
    · have kz : decide ((k : Int) < (ps.length : Int)) = false := decide_eq_false (by omega)
      have e : k = ps.length := by omega
      have hH := Lib.hid (no.out (by rw [← e]; exact HE.out))
      clear yes no HC HE TL0 Q0 e
      go_wp2
      go_ret
      exact ⟨⟨-1, rfl, ⟨by omega, by omega⟩, fun q => absurd q (by omega), fun q => by rw [hH.out] at q; cases q⟩, HA.out⟩
namespace LeapDays
set_option maxRecDepth 100000 in
set_option maxHeartbeats 2000000 in
theorem walk (v : Value) (ps : List (Int × Int)) (d : Int) (hd : (Lit.int .i64 d).wf = true) (w : World) (h : LT w v ps) (ht : Tabs w) :
    Calls Tryd.prog 9 #[.agg #[v], .int .i64 d] w fun e w' => e = .returned (.bool true) ∧ Below w.heap.size w w' := by
  replace hd := i64_wf hd
  obtain ⟨ao, cp, rfl⟩ := h.shape
  have TL0 := Lib.hid h
  have HL := fun w h => rlong (.slice ao ps.length cp) ps w h
  have HV := fun w h => ulvalid (.slice ao ps.length cp) ps w h
  have RV := fun w h => rlvalid (.slice ao ps.length cp) ps w h
  clear h
  by_cases l : 300 < ps.length
  · rw [decide_eq_true l] at HL
    clear l
    replace HL := Lib.hid HL
    have AW := Lib.hid (fun w ht => awake_all w ht)
    replace ht := Lib.hid ht
    go_enter Tryd.func9, Tryd.ntmps9
    go_wp2_with fail
    refine (AW.out _ (ht.out.below (grow (here w) _))).mono ?_
    rintro e w1 ⟨rfl, hb⟩
    have A1 := Lib.hid (down (grow (here w) _) hb)
    have T1 := Lib.hid (One.new hb)
    have TL1 := Lib.hid ((TL0.out.keep (grow (here _) _)).keep hb)
    clear hb TL0
    obtain ⟨t1_0, t1_z⟩ := T1.out
    go_wp2_with fail
    refine (HL.out _ TL1.out).mono ?_
    rintro e w2 ⟨rfl, hb⟩
    have A2 := Lib.hid (down A1.out hb)
    have T2 := Lib.hid (T1.out.keep hb)
    have TL2 := Lib.hid (TL1.out.keep hb)
    clear hb A1 T1 TL1 t1_0 t1_z
    obtain ⟨t2_0, t2_z⟩ := T2.out
    go_wp2_with fail
    refine (AW.out _ (ht.out.below A2.out)).mono ?_
    rintro e w3 ⟨rfl, hb⟩
    have A3 := Lib.hid (down A2.out hb)
    have T3 := Lib.hid (T2.out.keep hb)
    have TL3 := Lib.hid (TL2.out.keep hb)
    clear hb A2 T2 TL2 t2_0 t2_z
    obtain ⟨t3_0, t3_z⟩ := T3.out
    go_wp2
    go_ret
    exact ⟨rfl, by first | exact A3.out | exact grow A3.out _ | exact below_drewN A3.out _ | exact grow (grow A3.out _) _ | exact grow (grow (grow A3.out _) _) _⟩
  rw [decide_eq_false l] at HL
  replace HL := Lib.hid HL
  cases b : ltB ps
  · rw [b] at HV
    clear b RV
    replace HV := Lib.hid HV
    have AW := Lib.hid (fun w ht => awake_all w ht)
    replace ht := Lib.hid ht
    go_enter Tryd.func9, Tryd.ntmps9
    go_wp2_with fail
    refine (AW.out _ (ht.out.below (grow (here w) _))).mono ?_
    rintro e w1 ⟨rfl, hb⟩
    have A1 := Lib.hid (down (grow (here w) _) hb)
    have T1 := Lib.hid (One.new hb)
    have TL1 := Lib.hid ((TL0.out.keep (grow (here _) _)).keep hb)
    clear hb TL0
    obtain ⟨t1_0, t1_z⟩ := T1.out
    go_wp2_with fail
    refine (HL.out _ TL1.out).mono ?_
    rintro e w2 ⟨rfl, hb⟩
    have A2 := Lib.hid (down A1.out hb)
    have T2 := Lib.hid (T1.out.keep hb)
    have TL2 := Lib.hid (TL1.out.keep hb)
    clear hb A1 T1 TL1 t1_0 t1_z
    obtain ⟨t2_0, t2_z⟩ := T2.out
    go_wp2_with fail
    refine (HV.out _ TL2.out).mono ?_
    rintro e w3 ⟨rfl, hb⟩
    have A3 := Lib.hid (down A2.out hb)
    have T3 := Lib.hid (T2.out.keep hb)
    have TL3 := Lib.hid (TL2.out.keep hb)
    clear hb A2 T2 TL2 t2_0 t2_z
    obtain ⟨t3_0, t3_z⟩ := T3.out
    go_wp2_with fail
    refine (AW.out _ (ht.out.below A3.out)).mono ?_
    rintro e w4 ⟨rfl, hb⟩
    have A4 := Lib.hid (down A3.out hb)
    have T4 := Lib.hid (T3.out.keep hb)
    have TL4 := Lib.hid (TL3.out.keep hb)
    clear hb A3 T3 TL3 t3_0 t3_z
    obtain ⟨t4_0, t4_z⟩ := T4.out
    go_wp2
    go_ret
    exact ⟨rfl, by first | exact A4.out | exact grow A4.out _ | exact below_drewN A4.out _ | exact grow (grow A4.out _) _ | exact grow (grow (grow A4.out _) _) _⟩
  rw [b] at HV
  replace HV := Lib.hid HV
  clear RV
  by_cases lo : d < -719162
  · have k1 : decide (d < -719162) = true := decide_eq_true lo
    clear b l lo
    have AW := Lib.hid (fun w ht => awake_all w ht)
    replace ht := Lib.hid ht
    go_enter Tryd.func9, Tryd.ntmps9
    go_wp2_with fail
    refine (AW.out _ (ht.out.below (grow (here w) _))).mono ?_
    rintro e w1 ⟨rfl, hb⟩
    have A1 := Lib.hid (down (grow (here w) _) hb)
    have T1 := Lib.hid (One.new hb)
    have TL1 := Lib.hid ((TL0.out.keep (grow (here _) _)).keep hb)
    clear hb TL0
    obtain ⟨t1_0, t1_z⟩ := T1.out
    go_wp2_with fail
    refine (HL.out _ TL1.out).mono ?_
    rintro e w2 ⟨rfl, hb⟩
    have A2 := Lib.hid (down A1.out hb)
    have T2 := Lib.hid (T1.out.keep hb)
    have TL2 := Lib.hid (TL1.out.keep hb)
    clear hb A1 T1 TL1 t1_0 t1_z
    obtain ⟨t2_0, t2_z⟩ := T2.out
    go_wp2_with fail
    refine (HV.out _ TL2.out).mono ?_
    rintro e w3 ⟨rfl, hb⟩
    have A3 := Lib.hid (down A2.out hb)
    have T3 := Lib.hid (T2.out.keep hb)
    have TL3 := Lib.hid (TL2.out.keep hb)
    clear hb A2 T2 TL2 t2_0 t2_z
    obtain ⟨t3_0, t3_z⟩ := T3.out
    go_wp2_with fail
    refine (AW.out _ (ht.out.below A3.out)).mono ?_
    rintro e w4 ⟨rfl, hb⟩
    have A4 := Lib.hid (down A3.out hb)
    have T4 := Lib.hid (T3.out.keep hb)
    have TL4 := Lib.hid (TL3.out.keep hb)
    clear hb A3 T3 TL3 t3_0 t3_z
    obtain ⟨t4_0, t4_z⟩ := T4.out
    go_wp2
    go_ret
    exact ⟨rfl, by first | exact A4.out | exact grow A4.out _ | exact below_drewN A4.out _ | exact grow (grow A4.out _) _ | exact grow (grow (grow A4.out _) _) _⟩
  have k1 : decide (d < -719162) = false := decide_eq_false lo
  by_cases up : 2932896 ≤ d
  · have k2 : decide (2932896 ≤ d) = true := decide_eq_true up
    clear b l lo up
    have AW := Lib.hid (fun w ht => awake_all w ht)
    replace ht := Lib.hid ht
    go_enter Tryd.func9, Tryd.ntmps9
    go_wp2_with fail
    refine (AW.out _ (ht.out.below (grow (here w) _))).mono ?_
    rintro e w1 ⟨rfl, hb⟩
    have A1 := Lib.hid (down (grow (here w) _) hb)
    have T1 := Lib.hid (One.new hb)
    have TL1 := Lib.hid ((TL0.out.keep (grow (here _) _)).keep hb)
    clear hb TL0
    obtain ⟨t1_0, t1_z⟩ := T1.out
    go_wp2_with fail
    refine (HL.out _ TL1.out).mono ?_
    rintro e w2 ⟨rfl, hb⟩
    have A2 := Lib.hid (down A1.out hb)
    have T2 := Lib.hid (T1.out.keep hb)
    have TL2 := Lib.hid (TL1.out.keep hb)
    clear hb A1 T1 TL1 t1_0 t1_z
    obtain ⟨t2_0, t2_z⟩ := T2.out
    go_wp2_with fail
    refine (HV.out _ TL2.out).mono ?_
    rintro e w3 ⟨rfl, hb⟩
    have A3 := Lib.hid (down A2.out hb)
    have T3 := Lib.hid (T2.out.keep hb)
    have TL3 := Lib.hid (TL2.out.keep hb)
    clear hb A2 T2 TL2 t2_0 t2_z
    obtain ⟨t3_0, t3_z⟩ := T3.out
    go_wp2_with fail
    refine (AW.out _ (ht.out.below A3.out)).mono ?_
    rintro e w4 ⟨rfl, hb⟩
    have A4 := Lib.hid (down A3.out hb)
    have T4 := Lib.hid (T3.out.keep hb)
    have TL4 := Lib.hid (TL3.out.keep hb)
    clear hb A3 T3 TL3 t3_0 t3_z
    obtain ⟨t4_0, t4_z⟩ := T4.out
    go_wp2
    go_ret
    exact ⟨rfl, by first | exact A4.out | exact grow A4.out _ | exact below_drewN A4.out _ | exact grow (grow A4.out _) _ | exact grow (grow (grow A4.out _) _) _⟩
  have k2 : decide (2932896 ≤ d) = false := decide_eq_false up
  have hmf : ∀ (fn : Fn) (first cap : Array Value) (w : World), (Instr.makeFunc fn first cap).run Tryd.prog w = .ok (.func fn first cap) w := fun _ _ _ _ => rfl
  have i0 : inB (86400 * d) = true := inB_iff.2 (by omega)
  have i1 : inB (86400 * d + 86400) = true := inB_iff.2 (by omega)
  have ld := lt_day b d
  have nl := (ltB_iff.1 b).1
  obtain ⟨e1, e2⟩ := ld_in b i0 i1
  obtain ⟨e3, e4⟩ := ld_in ltB_nil i0 i1
  have HD := fun w h => uldist (.slice ao ps.length cp) ps (86400 * d) (86400 * d + 86400) ⟨by omega, by omega⟩ ⟨by omega, by omega⟩ w h
  have HE := fun w => uldist (.slice none 0 0) [] (86400 * d) (86400 * d + 86400) ⟨by omega, by omega⟩ ⟨by omega, by omega⟩ w (LT.nil w)
  have HX := fun q w h hq => xidx ao cp ps (86400 * d) (by omega) (by omega) (by omega) q w h hq
  have e5 : ltW [] (86400 * d + 86400) - ltW [] (86400 * d) = 86400 := by unfold ltW; rw [lt_nil, lt_nil]; simp; omega
  have e6 : ltW ps (86400 * d + 86400) - ltW ps (86400 * d) = 86400 + (if ltH ps (86400 * d + 86400) then 1 else 0) := by
    unfold ltW
    rw [ld]
    split <;> simp <;> omega
  rw [e1, e2, e6] at HD
  rw [e3, e4, e5] at HE
  obtain ⟨F, hF⟩ : ∃ F, d * 86400 = F := ⟨_, rfl⟩
  have hF2 : 86400 * d = F := by omega
  rw [hF2] at HD HE HX
  have fb : -62135596800 ≤ F ∧ F ≤ 253402214400 := by omega
  clear e1 e2 e3 e4 e5 e6 ld i0 i1 b nl lo up
  cases g : ltH ps (F + 86400)
  · rw [g] at HD
    simp only [Bool.false_eq_true, if_false, Int.add_zero] at HD
    clear l
    replace HD := Lib.hid HD
    replace HE := Lib.hid HE
    replace HX := Lib.hid HX
    have gg := g
    have AW := Lib.hid (fun w ht => awake_all w ht)
    replace ht := Lib.hid ht
    go_enter Tryd.func9, Tryd.ntmps9
    go_wp2_with fail
    refine (AW.out _ (ht.out.below (grow (here w) _))).mono ?_
    rintro e w1 ⟨rfl, hb⟩
    have A1 := Lib.hid (down (grow (here w) _) hb)
    have T1 := Lib.hid (One.new hb)
    have TL1 := Lib.hid ((TL0.out.keep (grow (here _) _)).keep hb)
    clear hb TL0
    obtain ⟨t1_0, t1_z⟩ := T1.out
    go_wp2_with fail
    refine (HL.out _ TL1.out).mono ?_
    rintro e w2 ⟨rfl, hb⟩
    have A2 := Lib.hid (down A1.out hb)
    have T2 := Lib.hid (T1.out.keep hb)
    have TL2 := Lib.hid (TL1.out.keep hb)
    clear hb A1 T1 TL1 t1_0 t1_z
    obtain ⟨t2_0, t2_z⟩ := T2.out
    go_wp2_with fail
    refine (HV.out _ TL2.out).mono ?_
    rintro e w3 ⟨rfl, hb⟩
    have A3 := Lib.hid (down A2.out hb)
    have T3 := Lib.hid (T2.out.keep hb)
    have TL3 := Lib.hid (TL2.out.keep hb)
    clear hb A2 T2 TL2 t2_0 t2_z
    obtain ⟨t3_0, t3_z⟩ := T3.out
    go_wp2_with fail
    refine (HD.out _ (TL3.out.keep (grow (here _) _))).mono ?_
    rintro e w4 ⟨rfl, hb⟩
    have A4 := Lib.hid (down (grow A3.out _) hb)
    have T4 := Lib.hid ((T3.out.old _).keep hb)
    have Q4 := Lib.hid (One.new hb)
    have TL4 := Lib.hid ((TL3.out.keep (grow (here _) _)).keep hb)
    clear hb A3 T3 TL3 t3_0 t3_z
    obtain ⟨t4_0, t4_z⟩ := T4.out
    obtain ⟨q4_0, q4_z⟩ := Q4.out
    go_wp2_with fail
    refine (HX.out _ _ TL4.out Q4.out).mono ?_
    rintro e w5 ⟨⟨i, rfl, ⟨i0, i1⟩, hi⟩, hb⟩
    have i2 : i < 0 := by
      rcases Int.lt_or_le i 0 with z | z
      · exact z
      · rw [hi.1 z] at g; cases g
    have i3 : decide (i < 0) = true := decide_eq_true (by omega)
    have i4 : decide (0 ≤ i) = false := decide_eq_false (by omega)
    clear hi
    have A5 := Lib.hid (down A4.out hb)
    have T5 := Lib.hid (T4.out.keep hb)
    have Q5 := Lib.hid (Q4.out.keep hb)
    have TL5 := Lib.hid (TL4.out.keep hb)
    clear hb A4 T4 Q4 TL4 t4_0 t4_z q4_0 q4_z
    obtain ⟨t5_0, t5_z⟩ := T5.out
    obtain ⟨q5_0, q5_z⟩ := Q5.out
    go_wp2_with fail
    refine (HE.out _).mono ?_
    rintro e w6 ⟨rfl, hb⟩
    have A6 := Lib.hid (down A5.out hb)
    have T6 := Lib.hid (T5.out.keep hb)
    have Q6 := Lib.hid (Q5.out.keep hb)
    have TL6 := Lib.hid (TL5.out.keep hb)
    clear hb A5 T5 Q5 TL5 t5_0 t5_z q5_0 q5_z
    obtain ⟨t6_0, t6_z⟩ := T6.out
    obtain ⟨q6_0, q6_z⟩ := Q6.out
    go_wp2
    go_ret
    exact ⟨rfl, by first | exact A6.out | exact grow A6.out _ | exact below_drewN A6.out _ | exact grow (grow A6.out _) _ | exact grow (grow (grow A6.out _) _) _⟩
  · rw [g] at HD
    simp only [if_true] at HD
    clear l
    rw [show (86400 : Int) + 1 = 86401 by decide] at HD
    replace HD := Lib.hid HD
    replace HE := Lib.hid HE
    replace HX := Lib.hid HX
    have gg := g
    have AW := Lib.hid (fun w ht => awake_all w ht)
    replace ht := Lib.hid ht
    go_enter Tryd.func9, Tryd.ntmps9
    go_wp2_with fail
    refine (AW.out _ (ht.out.below (grow (here w) _))).mono ?_
    rintro e w1 ⟨rfl, hb⟩
    have A1 := Lib.hid (down (grow (here w) _) hb)
    have T1 := Lib.hid (One.new hb)
    have TL1 := Lib.hid ((TL0.out.keep (grow (here _) _)).keep hb)
    clear hb TL0
    obtain ⟨t1_0, t1_z⟩ := T1.out
    go_wp2_with fail
    refine (HL.out _ TL1.out).mono ?_
    rintro e w2 ⟨rfl, hb⟩
    have A2 := Lib.hid (down A1.out hb)
    have T2 := Lib.hid (T1.out.keep hb)
    have TL2 := Lib.hid (TL1.out.keep hb)
    clear hb A1 T1 TL1 t1_0 t1_z
    obtain ⟨t2_0, t2_z⟩ := T2.out
    go_wp2_with fail
    refine (HV.out _ TL2.out).mono ?_
    rintro e w3 ⟨rfl, hb⟩
    have A3 := Lib.hid (down A2.out hb)
    have T3 := Lib.hid (T2.out.keep hb)
    have TL3 := Lib.hid (TL2.out.keep hb)
    clear hb A2 T2 TL2 t2_0 t2_z
    obtain ⟨t3_0, t3_z⟩ := T3.out
    go_wp2_with fail
    refine (HD.out _ (TL3.out.keep (grow (here _) _))).mono ?_
    rintro e w4 ⟨rfl, hb⟩
    have A4 := Lib.hid (down (grow A3.out _) hb)
    have T4 := Lib.hid ((T3.out.old _).keep hb)
    have Q4 := Lib.hid (One.new hb)
    have TL4 := Lib.hid ((TL3.out.keep (grow (here _) _)).keep hb)
    clear hb A3 T3 TL3 t3_0 t3_z
    obtain ⟨t4_0, t4_z⟩ := T4.out
    obtain ⟨q4_0, q4_z⟩ := Q4.out
    go_wp2_with fail
    refine (HX.out _ _ TL4.out Q4.out).mono ?_
    rintro e w5 ⟨⟨i, rfl, ⟨i0, i1⟩, hi⟩, hb⟩
    have i2 : 0 ≤ i := hi.2 g
    have i3 : decide (i < 0) = false := decide_eq_false (by omega)
    have i4 : decide (0 ≤ i) = true := decide_eq_true (by omega)
    clear hi
    have A5 := Lib.hid (down A4.out hb)
    have T5 := Lib.hid (T4.out.keep hb)
    have Q5 := Lib.hid (Q4.out.keep hb)
    have TL5 := Lib.hid (TL4.out.keep hb)
    clear hb A4 T4 Q4 TL4 t4_0 t4_z q4_0 q4_z
    obtain ⟨t5_0, t5_z⟩ := T5.out
    obtain ⟨q5_0, q5_z⟩ := Q5.out
    go_wp2_with fail
    refine (HE.out _).mono ?_
    rintro e w6 ⟨rfl, hb⟩
    have A6 := Lib.hid (down A5.out hb)
    have T6 := Lib.hid (T5.out.keep hb)
    have Q6 := Lib.hid (Q5.out.keep hb)
    have TL6 := Lib.hid (TL5.out.keep hb)
    clear hb A5 T5 Q5 TL5 t5_0 t5_z q5_0 q5_z
    obtain ⟨t6_0, t6_z⟩ := T6.out
    obtain ⟨q6_0, q6_z⟩ := Q6.out
    go_wp2
    go_ret
    exact ⟨rfl, by first | exact A6.out | exact grow A6.out _ | exact below_drewN A6.out _ | exact grow (grow A6.out _) _ | exact grow (grow (grow A6.out _) _) _⟩
end LeapDays
end Go.Proofs.YtocimbiidloofaaDoor
