/- The contract of package leap: the text of a table. -/
import Derived.Test.YtocimbiidloofaaGreatDoorLtU

import Derived.Test.YtocimbiidloofaaGreatDoorLBld

import Derived.Test.YtocimbiidloofaaGreatDoorLDt

namespace Go.Proofs.YtocimbiidloofaaGreatDoor

open Go.RowKit

set_option linter.unusedVariables false

/-- A boxed struct of six cells, its first three. -/
structure Hex (w : World) (b : Nat) (y m d : Int) : Prop where
  c0 : w.cell? ⟨b, 0, none⟩ = some (.int .i64 y)
  c1 : w.cell? ⟨b, 1, none⟩ = some (.int .i64 m)
  c2 : w.cell? ⟨b, 2, none⟩ = some (.int .i64 d)
  lt : b < w.heap.size
theorem Hex.new (w : World) (y m d : Int) (p q r : Value) (t : TypeId) : Hex (w.alloc (.cells #[.int .i64 y, .int .i64 m, .int .i64 d, p, q, r] t)) w.heap.size y m d := by
  refine ⟨?_, ?_, ?_, by simp⟩ <;> (rw [World.cell?_alloc_new]; rfl)
set_option maxRecDepth 100000 in
set_option maxHeartbeats 1000000 in
theorem ultext (v : Value) (ps : List (Int × Int)) (w : World) (h : LT w v ps) (ht : Tabs w) :
    Calls Tryz.prog 6 #[.agg #[v]] w fun e w' => e = .returned (.tuple #[.string ⟨(if ltB ps then ltX ps ps.length else []).toArray⟩, .int .i64 (if ltB ps then 0 else 1)]) ∧ Below w.heap.size w w' := by
  have HV := Lib.hid (fun w h => ulvalid v ps w h)
  obtain ⟨w1, hw1⟩ : ∃ w1 : World, w.alloc (.cells #[v] 24) = w1 := ⟨_, rfl⟩
  have A1 : Hid (Below w.heap.size w w1) := by rw [← hw1]; exact grow (here w) _
  have B1 : Hid (One w1 w.heap.size v) := by rw [← hw1]; exact One.new (here _)
  have L1 : Hid (LT w1 v ps) := by rw [← hw1]; exact h.old _
  have HTB := Lib.hid ht
  have L0 := Lib.hid h
  clear h ht
  obtain ⟨bx, blt⟩ := B1.out
  cases ok : ltB ps
  · rw [ok] at HV
    go_enter Tryz.func6, Tryz.ntmps6
    go_wp2_with fail
    refine (HV.out _ L1.out).mono ?_
    rintro e w2 ⟨rfl, hb⟩
    have A2 := Lib.hid (down A1.out hb)
    clear hb
    go_wp2
    go_ret2
    exact ⟨rfl, A2.out⟩
  · rw [ok] at HV
    obtain ⟨nl, up⟩ := ltB_iff.1 ok
    have len := Lib.hid (fun k (hk : k ≤ ps.length) => ltX_len up k hk)
    have st := Lib.hid (fun k (hk : k < ps.length) => ltDay_bd (up k hk))
    have tt := Lib.hid (fun k (hk : k < ps.length) => (ltS_iff.1 (up k hk)).2.2.2.1)
    have more : Hid (∀ k, ltX ps (k + 1) = (ltX ps k ++ textD (dtY (ltDay ps k)) (dtM (ltDay ps k)) (dtD (ltDay ps k))) ++ [10]) := fun k => by show ltX ps k ++ ltLine ps k = _; unfold ltLine; rw [List.append_assoc]
    have tl : Hid (∀ k, (textD (dtY (ltDay ps k)) (dtM (ltDay ps k)) (dtD (ltDay ps k))).length ≤ 10) := fun k => by
      unfold textD
      split
      · simp [digL_length]
      · simp
    have nil : Hid (ltX ps 0 = []) := rfl
    clear ok up
    go_enter Tryz.func6, Tryz.ntmps6
    go_wp2_with fail
    refine (HV.out _ L1.out).mono ?_
    rintro e w2 ⟨rfl, hb⟩
    have A2 := Lib.hid (down A1.out hb)
    have B2 := Lib.hid (B1.out.keep hb)
    have L2 := Lib.hid (L1.out.keep hb)
    clear hb A1 B1 L1 HV bx blt hw1
    obtain ⟨w3, hw3⟩ : ∃ w3 : World, w2.alloc (.cells #[.pointer none, .slice none 0 0] 43) = w3 := ⟨_, rfl⟩
    obtain ⟨nb, hnb⟩ : ∃ nb, w2.heap.size = nb := ⟨_, rfl⟩
    have A3 : Hid (Below w.heap.size w w3) := by rw [← hw3]; exact grow A2.out _
    have B3 : Hid (One w3 w.heap.size v) := by rw [← hw3]; exact B2.out.old _
    have L3 : Hid (LT w3 v ps) := by rw [← hw3]; exact L2.out.old _
    have K3 : Hid (Bld nb nb [] w3) := by rw [← hw3, ← hnb]; exact Bld.new w2
    have nbs : Hid (w2.heap.size ≤ nb ∧ w.heap.size < nb) := ⟨by omega, by rw [← hnb]; exact B2.out.lt⟩
    obtain ⟨ao, cp, rfl⟩ := L3.out.shape
    obtain ⟨bx, blt⟩ := B3.out
    go_wp2
    go_loopw [15] (fun i wr => ∃ k : Nat, k ≤ ps.length ∧ i = .int .i64 k ∧ Hid (Below w.heap.size w wr) ∧ Hid (One wr w.heap.size (.slice ao ps.length cp)) ∧ Hid (LT wr (.slice ao ps.length cp) ps) ∧ Hid (Bld nb nb (ltX ps k) wr)) (fun i _ => ps.length - (intOf i).toNat)
    case atStart => exact ⟨0, Nat.zero_le _, rfl, A3.out, B3.out, L3.out, K3.out⟩
    case round =>
      obtain ⟨k, hk, rfl, HA, HB, HL, HK⟩ := hrel
      clear bx blt A3 B3 L3 K3 hw3 hnb B2 L2 A2
      obtain ⟨bx, blt⟩ := HB.out
      by_cases z : k < ps.length
      · have kz : decide ((k : Int) < (ps.length : Int)) = true := decide_eq_true (by omega)
        obtain ⟨b, off, rfl, bl, cs⟩ := HL.out.at z
        obtain ⟨c0, c1⟩ := cs k z
        obtain ⟨d0, d1, d2⟩ := st.out k z
        have lk := len.out k hk
        have mk := Lib.hid (more.out k)
        have tk := tl.out k
        have ty := tt.out k z
        have dt := dt_of d0 (by omega)
        obtain ⟨n, hn⟩ : ∃ n, ltA ps k - 1 = n := ⟨_, rfl⟩
        have HM := fun w => kmom_yes n (dtY (ltDay ps k)) (dtM (ltDay ps k)) (dtD (ltDay ps k)) 23 59 59 dt.1 (by decide) (by rw [dt.2, ← hn, ← d2]; unfold secT; omega) w
        have HX := fun w (h : Tabs w) => ctext_yes (dtY (ltDay ps k)) (dtM (ltDay ps k)) (dtD (ltDay ps k)) dt.1 w h.lens h.tab
        have HW := fun (T : List UInt8) w (h : Bld nb nb (ltX ps k) w) (hT : T.length ≤ 10) (hw : nb ≤ w.heap.size) => bld_string nb nb (ltX ps k) ⟨T.toArray⟩ w h (by have : (⟨T.toArray⟩ : ByteArray).size = T.length := List.size_toArray; omega) hw
        have HC := fun (T : List UInt8) w (h : Bld nb nb T w) (hT : T.length ≤ 1200) (hw : nb ≤ w.heap.size) => bld_byte nb nb T 10 w h (by omega) hw
        have lx : (ltX ps k).length ≤ 1100 := by omega
        have x0 : -62135596800 ≤ ltA ps k ∧ ltA ps k ≤ 253402300800 := by omega
        have y0 : 1 ≤ ltT ps k ∧ ltT ps k ≤ 100 := by omega
        clear cs st len more tl dt lk ty tt
        generalize textD (dtY (ltDay ps k)) (dtM (ltDay ps k)) (dtD (ltDay ps k)) = Y at *
        generalize ltX ps k = X at *
        generalize dtY (ltDay ps k) = yy at *
        generalize dtM (ltDay ps k) = mm at *
        generalize dtD (ltDay ps k) = dd at *
        generalize ltDay ps k = D at *
        generalize ltA ps k = x at *
        generalize ltT ps k = y at *
        replace d2 := Lib.hid d2
        replace HM := Lib.hid HM
        replace HX := Lib.hid HX
        replace HW := Lib.hid HW
        replace HC := Lib.hid HC
        clear d0 d1
        obtain ⟨w4, hw4⟩ : ∃ w4 : World, wr.alloc (.cells #[.int .i64 x, .int .i64 y] 35) = w4 := ⟨_, rfl⟩
        have A4 : Hid (Below w.heap.size w w4) := by rw [← hw4]; exact grow HA.out _
        have B4 : Hid (One w4 w.heap.size (.slice (some ⟨b, off, none⟩) ps.length cp)) := by rw [← hw4]; exact HB.out.old _
        have L4 : Hid (LT w4 (.slice (some ⟨b, off, none⟩) ps.length cp) ps) := by rw [← hw4]; exact HL.out.old _
        have X4 : Hid (Two w4 wr.heap.size (.int .i64 x) (.int .i64 y)) := by rw [← hw4]; exact Two.new (here _)
        obtain ⟨s0, s1, slt⟩ := X4.out
        have K4 : Hid (Bld nb nb X w4) := by rw [← hw4]; exact HK.out.keep (grow (here wr) _)
        clear HA HB HL HK bx blt
        go_wp2_with fail
        refine (HM.out _).mono ?_
        rintro e w5 ⟨rfl, hb⟩
        have A5 := Lib.hid (down A4.out hb)
        have B5 := Lib.hid (B4.out.keep hb)
        have L5 := Lib.hid (L4.out.keep hb)
        have K5 : Hid (Bld nb nb X w5) := K4.out.keep hb
        clear hb A4 B4 L4 K4 X4 s0 s1 slt c0 c1 bl hw4
        obtain ⟨w6, hw6⟩ : ∃ w6 : World, w5.alloc (.cells #[.int .i64 yy, .int .i64 mm, .int .i64 dd, .int .i64 23, .int .i64 59, .int .i64 59] 49) = w6 := ⟨_, rfl⟩
        have H6 : Hex w6 w5.heap.size yy mm dd := by rw [← hw6]; exact Hex.new _ _ _ _ _ _ _ _
        have A6 : Hid (Below w.heap.size w w6) := by rw [← hw6]; exact grow A5.out _
        have B6 : Hid (One w6 w.heap.size (.slice (some ⟨b, off, none⟩) ps.length cp)) := by rw [← hw6]; exact B5.out.old _
        have L6 : Hid (LT w6 (.slice (some ⟨b, off, none⟩) ps.length cp) ps) := by rw [← hw6]; exact L5.out.old _
        have K6 : Hid (Bld nb nb X w6) := by rw [← hw6]; exact K5.out.keep (grow (here w5) _)
        obtain ⟨h0, h1, h2, hlt⟩ := H6
        clear A5 B5 L5 K5
        go_wp2_with fail
        refine (HX.out _ (HTB.out.below A6.out)).mono ?_
        rintro e w7 ⟨rfl, hb⟩
        have A7 := Lib.hid (down A6.out hb)
        have B7 := Lib.hid (B6.out.keep hb)
        have L7 := Lib.hid (L6.out.keep hb)
        have K7 : Hid (Bld nb nb X w7) := K6.out.keep hb
        clear hb A6 B6 L6 K6 h0 h1 h2 hlt hw6
        go_wp2_with fail
        refine (HW.out Y _ K7.out tk (Nat.le_of_lt K7.out.lt)).mono ?_
        rintro e w8 ⟨rfl, K8, hb⟩
        replace K8 : Hid (Bld nb nb (X ++ Y) w8) := K8
        have A8 := Lib.hid (A7.out.trans (hb.mono (Nat.le_of_lt nbs.out.2)))
        have B8 := Lib.hid (B7.out.under hb nbs.out.2)
        have L8 : Hid (LT w8 (.slice (some ⟨b, off, none⟩) ps.length cp) ps) := L0.out.keep A8.out
        clear hb A7 B7 L7 K7
        go_wp2_with fail
        refine (HC.out _ _ K8.out (by rw [List.length_append]; omega) (Nat.le_of_lt K8.out.lt)).mono ?_
        rintro e w9 ⟨rfl, K9, hb⟩
        replace K9 : Hid (Bld nb nb (X ++ Y ++ [10]) w9) := K9
        rw [← mk.out] at K9
        have A9 := Lib.hid (A8.out.trans (hb.mono (Nat.le_of_lt nbs.out.2)))
        have B9 := Lib.hid (B8.out.under hb nbs.out.2)
        have L9 : Hid (LT w9 (.slice (some ⟨b, off, none⟩) ps.length cp) ps) := L0.out.keep A9.out
        clear hb A8 B8 L8 K8
        go_wp2
        go_roundw
        case rel => exact ⟨k + 1, by omega, by go_num, A9, B9, L9, K9⟩
        case measure => simp [intOf]; omega
      · have kz : decide ((k : Int) < (ps.length : Int)) = false := decide_eq_false (by omega)
        have e : k = ps.length := by omega
        have HR := Lib.hid (bld_read nb nb (ltX ps k) wr HK.out (Nat.le_of_lt HK.out.lt))
        have E : Hid (ltX ps k = ltX ps ps.length) := by show _ = _; rw [e]
        generalize ltX ps k = X at *
        clear st len more tl tt e
        go_wp2_with fail
        refine HR.out.mono ?_
        rintro e w5 ⟨rfl, hb⟩
        have A5 := Lib.hid (HA.out.trans (hb.mono (Nat.le_of_lt nbs.out.2)))
        clear hb
        go_wp2
        go_ret2
        exact ⟨by rw [E.out]; rfl, A5.out⟩
end Go.Proofs.YtocimbiidloofaaGreatDoor
