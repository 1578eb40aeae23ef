/- The contract of civiltimeref09.Valid. -/
import Derived.Test.YtocimbiidloofaaGreatDoorLtV

import Derived.Deep.QuietTactic

import Derived.BigQuiet

import Derived.Outline

namespace Go.Proofs.YtocimbiidloofaaGreatDoor

open Go.RowKit

set_option linter.unusedVariables false

set_option maxRecDepth 100000 in
set_option maxHeartbeats 1000000 in
theorem rlvalid (v : Value) (ps : List (Int × Int)) (w : World) (h : LT w v ps) :
    Calls Tryz.prog 7 #[.agg #[v]] w fun e w' => e = .returned (.bool (ltB ps)) ∧ Below w.heap.size w w' := by
  obtain ⟨ao, cp, rfl⟩ := h.shape
  have hl := h.len
  unfold maxLen at hl
  have L0 := Lib.hid (h.old (.cells #[.slice ao ps.length cp] 24))
  have B0 := Lib.hid (One.new (here (w.alloc (.cells #[.slice ao ps.length cp] 24))))
  clear h
  by_cases l : 100 < ps.length
  · rw [ltB_long l]
    have kl : decide (100 < (ps.length : Int)) = true := decide_eq_true (by omega)
    obtain ⟨bx, blt⟩ := B0.out
    clear l L0 B0
    generalize ps.length = n at *
    go_enter Tryz.func7, Tryz.ntmps7
    go_wp2
    go_ret
    exact ⟨rfl, grow (here w) _⟩
  · have kl : decide (100 < (ps.length : Int)) = false := decide_eq_false (by omega)
    have good : Hid (ltUpto ps ps.length → ltB ps = true) := fun u => ltB_iff.2 ⟨by omega, u⟩
    have bad := Lib.hid (fun i => @ltB_no ps i)
    go_enter Tryz.func7, Tryz.ntmps7
    go_wp2
    go_loopw [3] (fun i wr => ∃ k : Nat, k ≤ ps.length ∧ i = .int .i64 k ∧ Hid (ltUpto ps k) ∧ Hid (Below w.heap.size w wr) ∧ Hid (One wr w.heap.size (.slice ao ps.length cp)) ∧ Hid (LT wr (.slice ao ps.length cp) ps)) (fun i _ => ps.length - (intOf i).toNat)
    case atStart => exact ⟨0, Nat.zero_le _, rfl, fun i hi => absurd hi (Nat.not_lt_zero _), grow (here w) _, B0.out, L0.out⟩
    case round =>
      obtain ⟨k, hk, rfl, HU, HA, HB, HL⟩ := hrel
      obtain ⟨bx, blt⟩ := HB.out
      by_cases z : k < ps.length
      · have kz : decide ((k : Int) < (ps.length : Int)) = true := decide_eq_true (by omega)
        obtain ⟨b, off, rfl, bl, cs⟩ := HL.out.at z
        obtain ⟨c0, c1⟩ := cs k z
        have wf := HL.out.wf k z
        have HS : Hid (ltS ps k = decide (-62135596800 < ltA ps k ∧ ltA ps k < 253402300800 ∧ ltA ps k % 86400 = 0 ∧ ltT ps k = k + 1 ∧ (k = 0 ∨ ltA ps (k - 1) < ltA ps k))) := rfl
        have HN : Hid (ltS ps k = false → ltB ps = false) := fun e => bad.out k z e
        have HY : Hid (ltS ps k = true → ltUpto ps (k + 1)) := fun e i hi => by
          rcases Nat.lt_or_ge i k with q | q
          · exact HU.out i q
          · obtain rfl : i = k := by omega
            exact e
        clear good bad L0 B0 HU
        have cp' := fun (j : Nat) (e : k = j + 1) => (cs j (by omega)).1
        have wp' := fun (j : Nat) (e : k = j + 1) => (HL.out.wf j (by omega)).1
        have hp' : Hid (∀ j : Nat, k = j + 1 → ltA ps (k - 1) = ltA ps j) := fun j e => by subst e; rfl
        generalize ltS ps k = sk at *
        generalize ltA ps (k - 1) = xp at *
        generalize ltA ps k = x at *
        generalize ltT ps k = y at *
        obtain ⟨⟨f0, f1⟩, f2, f3⟩ := wf
        obtain ⟨w4, hw4⟩ : ∃ w4 : World, wr.alloc (.cells #[.int .i64 x, .int .i64 y] 35) = w4 := ⟨_, rfl⟩
        have A4 : Hid (Below w.heap.size w w4) := by rw [← hw4]; exact grow HA.out _
        have B4 : Hid (One w4 w.heap.size (.slice (some ⟨b, off, none⟩) ps.length cp)) := by rw [← hw4]; exact HB.out.old _
        have L4 : Hid (LT w4 (.slice (some ⟨b, off, none⟩) ps.length cp) ps) := by rw [← hw4]; exact HL.out.old _
        have X4 : Hid (Two w4 wr.heap.size (.int .i64 x) (.int .i64 y)) := by rw [← hw4]; exact Two.new (here _)
        obtain ⟨x0, x1, xlt⟩ := X4.out
        obtain ⟨bx4, blt4⟩ := B4.out
        clear HA HB HL cs
        obtain ⟨r, hr⟩ : ∃ r, x.tmod 86400 = r := ⟨_, rfl⟩
        have hr2 := Lib.hid (@tmod_zero x)
        rw [hr] at hr2
        by_cases t1 : x ≤ -62135596800
        · have sn : sk = false := by rw [HS.out]; exact decide_eq_false (by omega)
          have hn := Lib.hid (HN.out sn)
          have e1 : decide (x ≤ -62135596800) = true := decide_eq_true t1
          clear HS HN HY sn
          go_wp2
          go_quiet (fail)
          obtain ⟨w5, hw5⟩ : ∃ w5 : World, w4.drewN nq = w5 := ⟨_, rfl⟩
          rw [hw5]
          have hb : Below w4.heap.size w4 w5 := by rw [← hw5]; exact below_drewN (here _) _
          clear hw5 hw4
          have A5 := Lib.hid (down A4.out hb)
          have B5 := Lib.hid (B4.out.keep hb)
          have L5 := Lib.hid (L4.out.keep hb)
          clear hb A4 B4 L4 X4 x0 x1 xlt bx4 blt4
          go_wp2
          go_ret
          exact ⟨by rw [hn.out]; rfl, A5.out⟩
        · have e1 : decide (x ≤ -62135596800) = false := decide_eq_false t1
          by_cases t2 : 253402300800 ≤ x
          · have sn : sk = false := by rw [HS.out]; exact decide_eq_false (by omega)
            have hn := Lib.hid (HN.out sn)
            have e2 : decide (253402300800 ≤ x) = true := decide_eq_true t2
            clear HS HN HY sn
            go_wp2
            go_quiet (fail)
            obtain ⟨w5, hw5⟩ : ∃ w5 : World, w4.drewN nq = w5 := ⟨_, rfl⟩
            rw [hw5]
            have hb : Below w4.heap.size w4 w5 := by rw [← hw5]; exact below_drewN (here _) _
            clear hw5 hw4
            have A5 := Lib.hid (down A4.out hb)
            have B5 := Lib.hid (B4.out.keep hb)
            have L5 := Lib.hid (L4.out.keep hb)
            clear hb A4 B4 L4 X4 x0 x1 xlt bx4 blt4
            go_wp2
            go_ret
            exact ⟨by rw [hn.out]; rfl, A5.out⟩
          · have e2 : decide (253402300800 ≤ x) = false := decide_eq_false t2
            by_cases t3 : r = 0
            · have e3 : (r != 0) = false := by simpa using t3
              by_cases t4 : y = k + 1
              · have e4 : (y != (k : Int) + 1) = false := by simpa using t4
                by_cases k0 : k = 0
                · have e5 : decide (0 < (k : Int)) = false := decide_eq_false (by omega)
                  have e5' : decide (0 < k) = false := decide_eq_false (by omega)
                  have sn : sk = true := by rw [HS.out]; have := hr2.out.1 t3; exact decide_eq_true (by omega)
                  have HU' := Lib.hid (HY.out sn)
                  clear HS HN HY sn t3 t4 k0
                  go_wp2
                  go_quiet (fail)
                  obtain ⟨w5, hw5⟩ : ∃ w5 : World, w4.drewN nq = w5 := ⟨_, rfl⟩
                  rw [hw5]
                  have hb : Below w4.heap.size w4 w5 := by rw [← hw5]; exact below_drewN (here _) _
                  clear hw5 hw4
                  have A5 := Lib.hid (down A4.out hb)
                  have B5 := Lib.hid (B4.out.keep hb)
                  have L5 := Lib.hid (L4.out.keep hb)
                  clear hb A4 B4 L4 X4 x0 x1 xlt bx4 blt4
                  go_wp2
                  go_roundw
                  case rel => exact ⟨k + 1, by omega, by go_num, HU', A5, B5, L5⟩
                  case measure => simp [intOf]; omega
                · have e5 : decide (0 < (k : Int)) = true := decide_eq_true (by omega)
                  have e5' : decide (0 < k) = true := decide_eq_true (by omega)
                  obtain ⟨j, hj⟩ : ∃ j, k = j + 1 := ⟨k - 1, by omega⟩
                  have cj := cp' j hj
                  have wj := wp' j hj
                  have ej := hp'.out j hj
                  rw [← ej] at cj wj
                  obtain ⟨g0, g1⟩ := wj
                  have KJ : w4.cell? ⟨b, off + j * 2, none⟩ = some (.int .i64 xp) := by
                    rw [← hw4, World.cell?_alloc_old _ _ _ (by show b ≠ _; omega)]; exact cj
                  have js : ((k : Int) - 1) = (j : Int) := by omega
                  by_cases t5 : x ≤ xp
                  · have sn : sk = false := by rw [HS.out]; exact decide_eq_false (by omega)
                    have hn := Lib.hid (HN.out sn)
                    have e6 : decide (x ≤ xp) = true := decide_eq_true t5
                    clear HS HN HY sn t3 t4 cp' wp' hp' ej cj hj k0
                    go_wp2
                    go_quiet (fail)
                    obtain ⟨w5, hw5⟩ : ∃ w5 : World, w4.drewN nq = w5 := ⟨_, rfl⟩
                    rw [hw5]
                    have hb : Below w4.heap.size w4 w5 := by rw [← hw5]; exact below_drewN (here _) _
                    clear hw5 hw4
                    have A5 := Lib.hid (down A4.out hb)
                    have B5 := Lib.hid (B4.out.keep hb)
                    have L5 := Lib.hid (L4.out.keep hb)
                    clear hb A4 B4 L4 X4 x0 x1 xlt bx4 blt4
                    go_wp2
                    go_ret
                    exact ⟨by rw [hn.out]; rfl, A5.out⟩
                  · have e6 : decide (x ≤ xp) = false := decide_eq_false t5
                    have sn : sk = true := by rw [HS.out]; have := hr2.out.1 t3; exact decide_eq_true (by omega)
                    have HU' := Lib.hid (HY.out sn)
                    clear HS HN HY sn t3 t4 cp' wp' hp' ej cj hj k0
                    go_wp2
                    go_quiet (fail)
                    obtain ⟨w5, hw5⟩ : ∃ w5 : World, w4.drewN nq = w5 := ⟨_, rfl⟩
                    rw [hw5]
                    have hb : Below w4.heap.size w4 w5 := by rw [← hw5]; exact below_drewN (here _) _
                    clear hw5 hw4
                    have A5 := Lib.hid (down A4.out hb)
                    have B5 := Lib.hid (B4.out.keep hb)
                    have L5 := Lib.hid (L4.out.keep hb)
                    clear hb A4 B4 L4 X4 x0 x1 xlt bx4 blt4
                    go_wp2
                    go_roundw
                    case rel => exact ⟨k + 1, by omega, by go_num, HU', A5, B5, L5⟩
                    case measure => simp [intOf]; omega
              · have sn : sk = false := by rw [HS.out]; exact decide_eq_false (by omega)
                have hn := Lib.hid (HN.out sn)
                have e4 : (y != (k : Int) + 1) = true := by simpa using t4
                clear HS HN HY sn t3
                go_wp2
                go_quiet (fail)
                obtain ⟨w5, hw5⟩ : ∃ w5 : World, w4.drewN nq = w5 := ⟨_, rfl⟩
                rw [hw5]
                have hb : Below w4.heap.size w4 w5 := by rw [← hw5]; exact below_drewN (here _) _
                clear hw5 hw4
                have A5 := Lib.hid (down A4.out hb)
                have B5 := Lib.hid (B4.out.keep hb)
                have L5 := Lib.hid (L4.out.keep hb)
                clear hb A4 B4 L4 X4 x0 x1 xlt bx4 blt4
                go_wp2
                go_ret
                exact ⟨by rw [hn.out]; rfl, A5.out⟩
            · have sn : sk = false := by rw [HS.out]; have := hr2.out; exact decide_eq_false (fun q => t3 (this.2 q.2.2.1))
              have hn := Lib.hid (HN.out sn)
              have e3 : (r != 0) = true := by simpa using t3
              clear HS HN HY sn
              go_wp2
              go_quiet (fail)
              obtain ⟨w5, hw5⟩ : ∃ w5 : World, w4.drewN nq = w5 := ⟨_, rfl⟩
              rw [hw5]
              have hb : Below w4.heap.size w4 w5 := by rw [← hw5]; exact below_drewN (here _) _
              clear hw5 hw4
              have A5 := Lib.hid (down A4.out hb)
              have B5 := Lib.hid (B4.out.keep hb)
              have L5 := Lib.hid (L4.out.keep hb)
              clear hb A4 B4 L4 X4 x0 x1 xlt bx4 blt4
              go_wp2
              go_ret
              exact ⟨by rw [hn.out]; rfl, A5.out⟩
      · have kz : decide ((k : Int) < (ps.length : Int)) = false := decide_eq_false (by omega)
        have e : k = ps.length := by omega
        have g := good.out (by rw [← e]; exact HU.out)
        replace g := Lib.hid g
        clear good bad L0 B0 HU
        go_wp2
        go_ret
        exact ⟨by rw [g.out]; rfl, HA.out⟩
end Go.Proofs.YtocimbiidloofaaGreatDoor
