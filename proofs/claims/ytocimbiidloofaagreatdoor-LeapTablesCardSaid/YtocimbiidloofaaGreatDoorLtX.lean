/- Contracts of civiltimeref09: texts of tables. -/
import Derived.Test.YtocimbiidloofaaGreatDoorLtTxt

import Derived.Test.YtocimbiidloofaaGreatDoorLtV

import Derived.Test.YtocimbiidloofaaGreatDoorLRefN

import Derived.Test.YtocimbiidloofaaGreatDoorLRefJ

import Derived.Deep.QuietTactic

import Derived.BigQuiet

import Derived.Outline

namespace Go.Proofs.YtocimbiidloofaaGreatDoor

open Go.RowKit

set_option linter.unusedVariables false

theorem rdig (n : Int) (k : Nat) (n0 : 0 ≤ n) (n1 : n < 10 ^ (k + 1)) (hk : k ≤ 9) (w : World) :
    Calls Tryz.prog 37 #[.int .i64 n, .int .i64 ((k + 1 : Nat) : Int)] w fun e w' => e = .returned (.string ⟨(digL (k + 1) n).toArray⟩) ∧ Below w.heap.size w w' := by
  have p : (10 : Int) ^ (k + 1) ≤ 10000000000 := by
    have q : k = 0 ∨ k = 1 ∨ k = 2 ∨ k = 3 ∨ k = 4 ∨ k = 5 ∨ k = 6 ∨ k = 7 ∨ k = 8 ∨ k = 9 := by omega
    rcases q with rfl | rfl | rfl | rfl | rfl | rfl | rfl | rfl | rfl | rfl <;> decide
  have h := reftext_all n ((k + 1 : Nat) : Int) (by omega) (by omega) (by omega) (by omega) w
  rw [textL_digL n0 n1 (by omega)] at h
  exact h
set_option maxRecDepth 100000 in
set_option maxHeartbeats 1000000 in
theorem rldtext (n y m d : Int) (h : vld y m d = true) (hn : dayN y m d = n) (w : World) :
    Calls Tryz.prog 20 #[.int .i64 n] w fun e w' => e = .returned (.string ⟨(textD y m d).toArray⟩) ∧ Below w.heap.size w w' := by
  obtain ⟨y0, y1, m0, m1, d0, d1⟩ := vld_bd h
  have HF := Lib.hid (fun w => rjfields n y m d h hn w)
  have HY : Hid (∀ w, Calls Tryz.prog 37 #[.int .i64 y, .int .i64 4] w fun e w' => e = .returned (.string ⟨(digL 4 y).toArray⟩) ∧ Below w.heap.size w w') := fun w => rdig y 3 (by omega) (by omega) (by omega) w
  have HM : Hid (∀ w, Calls Tryz.prog 37 #[.int .i64 m, .int .i64 2] w fun e w' => e = .returned (.string ⟨(digL 2 m).toArray⟩) ∧ Below w.heap.size w w') := fun w => rdig m 1 (by omega) (by omega) (by omega) w
  have HD : Hid (∀ w, Calls Tryz.prog 37 #[.int .i64 d, .int .i64 2] w fun e w' => e = .returned (.string ⟨(digL 2 d).toArray⟩) ∧ Below w.heap.size w w') := fun w => rdig d 1 (by omega) (by omega) (by omega) w
  have HT : Hid (textD y m d = digL 4 y ++ [45] ++ digL 2 m ++ [45] ++ digL 2 d) := by show _ = _; unfold textD; rw [if_pos h]
  have ly := digL_length 4 y
  have lm := digL_length 2 m
  have ld := digL_length 2 d
  generalize digL 4 y = a at *
  generalize digL 2 m = b at *
  generalize digL 2 d = c at *
  have ly' : a.length ≤ 4 := by omega
  have lm' : b.length ≤ 2 := by omega
  have ld' : c.length ≤ 2 := by omega
  have nr := day_range h
  rw [hn] at nr
  obtain ⟨n0, n1⟩ := nr
  clear ly lm ld h hn
  go_enter Tryz.func20, Tryz.ntmps20
  go_wp2_with fail
  refine (HF.out _).mono ?_
  rintro e w1 ⟨rfl, hb⟩
  have A1 := Lib.hid hb
  clear hb
  go_wp2
  obtain ⟨w2, hw2⟩ : ∃ w2 : World, w1.alloc (.cells #[.int .i64 y, .int .i64 m, .int .i64 d] 45) = w2 := ⟨_, rfl⟩
  rw [hw2]
  have A2 : Hid (Below w.heap.size w w2) := by rw [← hw2]; exact grow A1.out _
  have B2 : Hid (Box w2 w1.heap.size (.int .i64 y) (.int .i64 m) (.int .i64 d)) := by rw [← hw2]; exact Box.new (here _)
  clear hw2
  have k0 : ∀ x : Kept w2, x.wd.cell? ⟨w1.heap.size, 0, none⟩ = some (.int .i64 y) := fun x => (B2.out.keep x.ok).c0
  have k1 : ∀ x : Kept w2, x.wd.cell? ⟨w1.heap.size, 1, none⟩ = some (.int .i64 m) := fun x => (B2.out.keep x.ok).c1
  have k2 : ∀ x : Kept w2, x.wd.cell? ⟨w1.heap.size, 2, none⟩ = some (.int .i64 d) := fun x => (B2.out.keep x.ok).c2
  refine wp_region_kept (by kernel_rfl) (by kernel_rfl) ?_
  repeat (go_big_quiet_step ((go_at_call 37; first | (with_reducible exact kept_call _ (HY.out _)) | (with_reducible exact kept_call _ (HM.out _)) | exact kept_call _ (HD.out _))))
  refine wpQuiet_nil ?_
  intro _ hx
  obtain ⟨⟨w3, hb2⟩, hw⟩ := hx
  subst hw
  go_wp2
  go_ret
  refine ⟨?_, down A2.out hb2⟩
  rw [HT.out, ← ba_append, ← ba_append, ← ba_append, ← ba_append]
  rfl
theorem ten_quo {D x : Int} (h : (D + 1) * 86400 = x) : x.tdiv 86400 = D + 1 := by rw [← h]; exact Int.mul_tdiv_cancel _ (by decide)
set_option maxRecDepth 100000 in
set_option maxHeartbeats 1000000 in
theorem rltext (v : Value) (ps : List (Int × Int)) (ok : ltB ps = true) (w : World) (h : LT w v ps) :
    Calls Tryz.prog 10 #[.agg #[v]] w fun e w' => e = .returned (.string ⟨(ltX ps ps.length).toArray⟩) ∧ Below w.heap.size w w' := by
  obtain ⟨ao, cp, rfl⟩ := h.shape
  have L0 := Lib.hid (h.old (.cells #[.slice ao ps.length cp] 24))
  have B0 := Lib.hid (One.new (here (w.alloc (.cells #[.slice ao ps.length cp] 24))))
  clear h
  obtain ⟨nl, up⟩ := ltB_iff.1 ok
  have len := Lib.hid (fun k (hk : k ≤ ps.length) => ltX_len up k hk)
  have st := Lib.hid (fun k (hk : k < ps.length) => ltDay_bd (up k hk))
  have more : Hid (∀ k, ltX ps (k + 1) = ltX ps k ++ (textD (dtY (ltDay ps k)) (dtM (ltDay ps k)) (dtD (ltDay ps k)) ++ [10])) := fun k => rfl
  have tl : Hid (∀ k, (textD (dtY (ltDay ps k)) (dtM (ltDay ps k)) (dtD (ltDay ps k))).length ≤ 10) := fun k => by
    unfold textD
    split
    · simp [digL_length]
    · simp
  clear ok up
  go_enter Tryz.func10, Tryz.ntmps10
  go_wp2
  go_loopw [3, 4] (fun s i wr => ∃ k : Nat, k ≤ ps.length ∧ s = .string ⟨(ltX ps k).toArray⟩ ∧ i = .int .i64 k ∧ Hid (Below w.heap.size w wr) ∧ Hid (One wr w.heap.size (.slice ao ps.length cp)) ∧ Hid (LT wr (.slice ao ps.length cp) ps)) (fun _ i _ => ps.length - (intOf i).toNat)
  case atStart => exact ⟨0, Nat.zero_le _, rfl, rfl, grow (here w) _, B0.out, L0.out⟩
  case round =>
    obtain ⟨k, hk, rfl, rfl, HA, HB, HL⟩ := hrel
    obtain ⟨bx, blt⟩ := HB.out
    by_cases z : k < ps.length
    · have kz : decide ((k : Int) < (ps.length : Int)) = true := decide_eq_true (by omega)
      obtain ⟨b, off, rfl, bl, cs⟩ := HL.out.at z
      obtain ⟨c0, c1⟩ := cs k z
      obtain ⟨d0, d1, d2⟩ := st.out k z
      have lk := len.out k hk
      have mk := Lib.hid (more.out k)
      have tk := tl.out k
      have dt := dt_of d0 (by omega)
      have HD := fun w => rldtext (ltDay ps k) _ _ _ dt.1 dt.2 w
      have hq := ten_quo d2
      have lk' : (ltX ps k).length ≤ 1100 := by omega
      clear cs st len more tl L0 B0 dt lk
      generalize textD (dtY (ltDay ps k)) (dtM (ltDay ps k)) (dtD (ltDay ps k)) = Y at *
      generalize ltX ps k = X at *
      generalize ltDay ps k = D at *
      generalize ltA ps k = x at *
      have x0 : -62135596800 ≤ x ∧ x ≤ 253402300800 := by omega
      replace d2 := Lib.hid d2
      replace HD := Lib.hid HD
      go_wp2_with fail
      refine (HD.out _).mono ?_
      rintro e w5 ⟨rfl, hb⟩
      have A5 := Lib.hid (down HA.out hb)
      have B5 := Lib.hid (HB.out.keep hb)
      have L5 := Lib.hid (HL.out.keep hb)
      clear hb HA HB HL c0 c1 bx blt
      go_wp2
      go_roundw
      case rel => exact ⟨k + 1, by omega, by rw [mk.out, ← ba_append, ← ba_append]; first | rfl | simp [ba_append], by go_num, A5, B5, L5⟩
      case measure => simp [intOf]; omega
    · have kz : decide ((k : Int) < (ps.length : Int)) = false := decide_eq_false (by omega)
      have e : k = ps.length := by omega
      clear st len more tl L0 B0
      go_wp2
      go_ret
      exact ⟨by rw [e]; rfl, HA.out⟩
end Go.Proofs.YtocimbiidloofaaGreatDoor
