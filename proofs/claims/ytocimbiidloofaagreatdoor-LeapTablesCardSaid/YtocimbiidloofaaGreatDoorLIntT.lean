/- Contracts of strconv.FormatUint at base 10 and of integer.Text (Shelf: internal_strconv_small, _numDigits, _formatBase10, strings_Repeat). -/
import Derived.Test.YtocimbiidloofaaGreatDoorLIntM

import Derived.Test.YtocimbiidloofaaGreatDoorShelf

import Derived.Test.YtocimbiidloofaaGreatDoorLDig

import Derived.Test.YtocimbiidloofaaGreatDoorLGen

import Derived.Lib.AppendIntMem

import Derived.Lib.ItoaLen

import Derived.Lib.Walk

import Derived.WalkLawsBesides

import Derived.WalkSpells

namespace Go.Proofs.YtocimbiidloofaaGreatDoor

open Go.RowKit Go.Sort Go.Lib

set_option linter.unusedVariables false

theorem fmtU_small (i : Nat) (hi : i < 100) (w : World) :
    Calls Tryz.prog 62 #[.int .u64 i, .int .i64 10] w fun e w' => e = .returned (.string ⟨(Lib.decDigits i).toArray⟩) ∧ w = w' := by
  go_enter Tryz.func62, Tryz.ntmps62
  go_wp2_with (go_at_call 75; refine (Tryz.internal_strconv_small i hi _).mono ?_; rintro e w' ⟨rfl, rfl⟩)
  go_ret
  exact ⟨rfl, rfl⟩
set_option maxHeartbeats 800000 in
set_option maxRecDepth 100000 in
theorem fmtU_big (u : Nat) (hu1 : 100 ≤ u) (hu64 : u < 18446744073709551616) (w : World) (htab : Lib.TabIs Tryz.prog w "internal/strconv.uint64pow10" .u64 Lib.pow10Tab) :
    Calls Tryz.prog 62 #[.int .u64 u, .int .i64 10] w fun e w' => e = .returned (.string ⟨(Lib.decDigits u).toArray⟩) ∧ Below w.heap.size w w' := by
  have hnd20 : Lib.nDigits u ≤ 20 := by have := Lib.numDigits_eq u (by omega) hu64; split at this <;> omega
  have hb3 : Lib.nDigits u ≤ 24 := by omega
  have hal : Tryz.prog.arrayLen 111 = 24 := by kernel_rfl
  have hsl2 : ∀ W, (Instr.sliceAt 111 (.pointer (some ⟨w.heap.size, 0, none⟩)) none (some (.int .i64 (Lib.nDigits u : Int))) none).run Tryz.prog W = .ok (.slice (some ⟨w.heap.size, 0, none⟩) (Lib.nDigits u) 24) W := fun W => by
    rw [run_sliceAt_array_h W 111 ⟨w.heap.size, 0, none⟩ (by simp [Program.arrayLen, Program.elem, Tryz.underlying111]) .i64 (Lib.nDigits u : Int) (by omega) (by rw [hal]; omega)]
    go_simp
  have hH0 := Lib.holds_zero0 w 111 (Lib.nDigits u) (by omega)
  have hfmt := Tryz.internal_strconv_formatBase10 w.heap.size 0 24 u (Array.replicate (Lib.nDigits u) 0) (w.alloc (.cells Lib.zeros24 111)) hH0 (by rw [Array.size_replicate]; exact Lib.lt_pow_nDigits u) hu64 (by rw [Array.size_replicate]; omega)
  rw [Array.size_replicate] at hfmt
  have HH0 := Lib.hid hH0
  clear hH0 hal
  go_enter Tryz.func62, Tryz.ntmps62
  go_wp2_with (go_at_call 76; refine (Tryz.internal_strconv_numDigits u (by omega) hu64 _ (Lib.tabIs_alloc htab _)).mono ?_; rintro e w' ⟨rfl, rfl⟩)
  go_at_call 77
  refine hfmt.mono ?_
  rintro e w' ⟨rfl, k, v', dk, rfl, hF⟩
  have hcv : (convert 41 9 (.slice (some ⟨w.heap.size, 0, none⟩) (Lib.nDigits u) 24)).run Tryz.prog ((putRow (fun (b : UInt8) => Value.int .u8 (b.toNat : Int)) (w.alloc (.cells Lib.zeros24 111)) w.heap.size 0 dk).drewN k) = .ok (.string ⟨(Lib.decDigits u).toArray⟩) ((putRow (fun (b : UInt8) => Value.int .u8 (b.toNat : Int)) (w.alloc (.cells Lib.zeros24 111)) w.heap.size 0 dk).drewN k) := by
    have h := run_convert_bytes_back (P := Tryz.prog) ((putRow (fun (b : UInt8) => Value.int .u8 (b.toNat : Int)) (w.alloc (.cells Lib.zeros24 111)) w.heap.size 0 dk).drewN k) 41 9 5 ⟨w.heap.size, 0, none⟩ 24 (Lib.decDigits u) Tryz.underlying41 Tryz.underlying5 Tryz.underlying9 (fun j hj => by
      rw [Lib.row_is_numeral hF j hj, Lib.add_plain, World.cell?_drewN]
      exact cell?_putRow (fun (b : UInt8) => Value.int .u8 (b.toNat : Int)) _ w.heap.size 0 _ dk HH0.out (by rw [hF.size, Array.size_replicate]) j (by rw [hF.size]; rw [Lib.decDigits_length] at hj; exact hj))
    rw [Lib.decDigits_length] at h
    exact h
  go_wp2
  go_ret
  obtain ⟨os, eo⟩ := Lib.fin_at w (.cells Lib.zeros24 111) dk k 0
  exact ⟨rfl, by rw [show zeros24 = _ from rfl] at eo; rw [eo]; exact below_grow _ _ (Nat.le_refl _) _ _⟩
theorem fmt_any (u : Int) (h0 : 0 ≤ u) (h1 : u < 18446744073709551616) (w : World) (htab : Lib.TabIs Tryz.prog w "internal/strconv.uint64pow10" .u64 Lib.pow10Tab) :
    Calls Tryz.prog 46 #[.int .u64 u, .int .i64 10] w fun e w' => e = .returned (.string ⟨(Lib.decDigits u.toNat).toArray⟩) ∧ Below w.heap.size w w' := by
  obtain ⟨n, rfl⟩ := Int.eq_ofNat_of_zero_le h0
  have H : Calls Tryz.prog 62 #[.int .u64 n, .int .i64 10] w fun e w' => e = .returned (.string ⟨(Lib.decDigits n).toArray⟩) ∧ Below w.heap.size w w' := by
    by_cases h : n < 100
    · exact (fmtU_small n h w).mono fun e w' ⟨he, hw⟩ => ⟨he, by subst hw; exact Below.refl _ _⟩
    · exact fmtU_big n (by omega) (by omega) w htab
  rw [Int.toNat_natCast]
  replace H := Lib.hid H
  generalize Lib.decDigits n = l at *
  go_enter Tryz.func46, Tryz.ntmps46
  go_wp2_with fail
  refine H.out.mono ?_
  rintro e w' ⟨rfl, hb⟩
  go_wp2
  go_ret
  exact ⟨rfl, hb⟩
theorem rep_zero (c : Int) (h0 : 0 ≤ c) (h1 : c ≤ 20) (w : World) :
    Calls Tryz.prog 48 #[.string ⟨#[48]⟩, .int .i64 c] w fun e w' => e = .returned (.string ⟨(Lib.repeatL [48] c.toNat).toArray⟩) ∧ Below w.heap.size w w' := by
  obtain ⟨n, rfl⟩ := Int.eq_ofNat_of_zero_le h0
  rw [Int.toNat_natCast]
  exact Tryz.strings_Repeat ⟨#[48]⟩ n w (by omega) (by show 1 * n ≤ _; omega)
set_option maxHeartbeats 400000 in
theorem text_all (n digits : Int) (h0 : -9223372036854775808 ≤ n) (h1 : n ≤ 9223372036854775807) (h2 : -9223372036854775808 ≤ digits) (h3 : digits ≤ 9223372036854775807) (w : World) (htab : Lib.TabIs Tryz.prog w "internal/strconv.uint64pow10" .u64 Lib.pow10Tab) :
    Calls Tryz.prog 32 #[.int .i64 n, .int .i64 digits] w fun e w' => e = .returned (.string ⟨(textL n digits).toArray⟩) ∧ Below w.heap.size w w' := by
  by_cases hd : digits < 0 ∨ 20 < digits
  · unfold textL
    rw [if_pos hd]
    rcases hd with hd | hd
    · have k1 : decide (digits < 0) = true := by simpa using hd
      go_enter Tryz.func32, Tryz.ntmps32
      go_wp2
      go_ret
      exact ⟨rfl, Below.refl _ _⟩
    · have k1 : decide (digits < 0) = false := by simp; omega
      have k2 : decide (20 < digits) = true := by simpa using hd
      go_enter Tryz.func32, Tryz.ntmps32
      go_wp2
      go_ret
      exact ⟨rfl, Below.refl _ _⟩
  · have HM := Lib.hid (fun w => mag_all n h0 h1 w)
    obtain ⟨m0, m1⟩ := mg_bd h0 h1
    have HF := Lib.hid (fun w htab => fmt_any (mg n) m0 (by omega) w htab)
    have hl : 1 ≤ (Lib.decDigits (mg n).toNat).length ∧ (Lib.decDigits (mg n).toNat).length ≤ 20 := by
      rw [Lib.decDigits_length]
      by_cases z : (mg n).toNat = 0
      · rw [z, Lib.nDigits_small (by omega)]; omega
      · have p : 1 ≤ Lib.nDigits (mg n).toNat := by rw [Lib.nDigits]; split <;> omega
        refine ⟨p, ?_⟩
        clear p
        have := Lib.numDigits_eq (mg n).toNat (by omega) (by omega); split at this <;> omega
    have HT : textL n digits = (if n < 0 then [45] else []) ++ (Lib.repeatL [48] (digits - (Lib.decDigits (mg n).toNat).length).toNat ++ Lib.decDigits (mg n).toNat) := by unfold textL; rw [if_neg hd]
    replace HT := Lib.hid HT
    generalize Lib.decDigits (mg n).toNat = l at *
    generalize mg n = m at *
    obtain ⟨l0, l1⟩ := hl
    have d0 : 0 ≤ digits := by omega
    have d1 : digits ≤ 20 := by omega
    have k1 : decide (digits < 0) = false := by simp; omega
    have k2 : decide (20 < digits) = false := by simp; omega
    clear hd
    go_enter Tryz.func32, Tryz.ntmps32
    go_wp2_with fail
    refine (HM.out _).mono ?_
    rintro e w' ⟨rfl, rfl⟩
    go_wp2_with fail
    refine (HF.out _ htab).mono ?_
    rintro e w' ⟨rfl, hb⟩
    go_wp2_with fail
    refine (rep_zero _ (by omega) (by omega) _).mono ?_
    rintro e w2 ⟨rfl, hb2⟩
    have hb3 := hb.trans (hb2.mono hb.size)
    have hmax : (max 0 (digits - (l.length : Int))).toNat = (digits - (l.length : Int)).toNat := by omega
    have rl : (Lib.repeatL [48] (max 0 (digits - (l.length : Int))).toNat).length ≤ 20 := by
      rw [Lib.repeatL_length, hmax]; simp only [List.length_singleton]; omega
    rw [← hmax] at HT
    clear hmax
    generalize Lib.repeatL [48] (max 0 (digits - (l.length : Int))).toNat = r at *
    by_cases hn : n < 0
    · have k3 : decide (n < 0) = true := by simpa using hn
      go_wp2
      go_ret
      refine ⟨?_, hb3⟩
      rw [HT.out, if_pos hn, ← ba_append, ← ba_append]
      rfl
    · have k3 : decide (n < 0) = false := by simpa using hn
      go_wp2
      go_ret
      refine ⟨?_, hb3⟩
      rw [HT.out, if_neg (by omega), List.nil_append, ← ba_append]
      rfl
abbrev Tab (w : World) : Prop := Lib.TabIs Tryz.prog w "internal/strconv.uint64pow10" .u64 Lib.pow10Tab
theorem gTab : Tryz.prog.globalNamed "internal/strconv.uint64pow10" = some 2 := by kernel_rfl
theorem tab_below {w w' : World} (h : Tab w) (hb : Below w.heap.size w w') : Tab w' := Joins.tab_stays gTab h hb (Nat.le_refl _)
/-- integer.Text of a number of at most k digits. -/
theorem ctext (n : Int) (k : Nat) (n0 : 0 ≤ n) (n1 : n < 10 ^ (k + 1)) (hk : k ≤ 9) (w : World) (ht : Tab w) :
    Calls Tryz.prog 32 #[.int .i64 n, .int .i64 ((k + 1 : Nat) : Int)] w fun e w' => e = .returned (.string ⟨(digL (k + 1) n).toArray⟩) ∧ Below w.heap.size w w' := by
  have p : (10 : Int) ^ (k + 1) ≤ 10000000000 := by
    have q : k = 0 ∨ k = 1 ∨ k = 2 ∨ k = 3 ∨ k = 4 ∨ k = 5 ∨ k = 6 ∨ k = 7 ∨ k = 8 ∨ k = 9 := by omega
    rcases q with rfl | rfl | rfl | rfl | rfl | rfl | rfl | rfl | rfl | rfl <;> decide
  have h := text_all n ((k + 1 : Nat) : Int) (by omega) (by omega) (by omega) (by omega) w ht
  rw [textL_digL n0 n1 (by omega)] at h
  exact h
end Go.Proofs.YtocimbiidloofaaGreatDoor
