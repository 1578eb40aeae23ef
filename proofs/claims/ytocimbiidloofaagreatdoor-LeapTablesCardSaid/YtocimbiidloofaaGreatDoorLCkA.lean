/- Boxes of six cells; contracts of clock (times, instants, moments, Round) and of civiltimeref04 (the same). -/
import Derived.Test.YtocimbiidloofaaGreatDoorLCivA

import Derived.Test.YtocimbiidloofaaGreatDoorLRefA

import Derived.Test.YtocimbiidloofaaGreatDoorLRefI

import Derived.Test.YtocimbiidloofaaGreatDoorLCkM

import Derived.Test.YtocimbiidloofaaGreatDoorLGen

namespace Go.Proofs.YtocimbiidloofaaGreatDoor

open Go.RowKit

set_option linter.unusedVariables false


structure Six (w : World) (b : Nat) (p q r x y z : Value) : Prop where
  c0 : w.cell? ⟨b, 0, none⟩ = some p
  c1 : w.cell? ⟨b, 1, none⟩ = some q
  c2 : w.cell? ⟨b, 2, none⟩ = some r
  c3 : w.cell? ⟨b, 3, none⟩ = some x
  c4 : w.cell? ⟨b, 4, none⟩ = some y
  c5 : w.cell? ⟨b, 5, none⟩ = some z
  lt : b < w.heap.size
theorem Six.keep {w w' : World} {b : Nat} {p q r x y z : Value} (h : Six w b p q r x y z) (hb : Below w.heap.size w w') : Six w' b p q r x y z := by
  have l := h.lt
  refine ⟨?_, ?_, ?_, ?_, ?_, ?_, by have := hb.size; omega⟩
  · rw [hb.cell (p := ⟨b, 0, none⟩) l]; exact h.c0
  · rw [hb.cell (p := ⟨b, 1, none⟩) l]; exact h.c1
  · rw [hb.cell (p := ⟨b, 2, none⟩) l]; exact h.c2
  · rw [hb.cell (p := ⟨b, 3, none⟩) l]; exact h.c3
  · rw [hb.cell (p := ⟨b, 4, none⟩) l]; exact h.c4
  · rw [hb.cell (p := ⟨b, 5, none⟩) l]; exact h.c5
theorem Six.new {w w' : World} {p q r x y z : Value} {t : TypeId} (hb : Below (w.alloc (.cells #[p, q, r, x, y, z] t)).heap.size (w.alloc (.cells #[p, q, r, x, y, z] t)) w') : Six w' w.heap.size p q r x y z := by
  have hs : w.heap.size < (w.alloc (.cells #[p, q, r, x, y, z] t)).heap.size := by simp
  have := hb.size
  refine ⟨?_, ?_, ?_, ?_, ?_, ?_, by simp at this; omega⟩
  · rw [hb.cell (p := ⟨w.heap.size, 0, none⟩) hs, World.cell?_alloc_new]; rfl
  · rw [hb.cell (p := ⟨w.heap.size, 1, none⟩) hs, World.cell?_alloc_new]; rfl
  · rw [hb.cell (p := ⟨w.heap.size, 2, none⟩) hs, World.cell?_alloc_new]; rfl
  · rw [hb.cell (p := ⟨w.heap.size, 3, none⟩) hs, World.cell?_alloc_new]; rfl
  · rw [hb.cell (p := ⟨w.heap.size, 4, none⟩) hs, World.cell?_alloc_new]; rfl
  · rw [hb.cell (p := ⟨w.heap.size, 5, none⟩) hs, World.cell?_alloc_new]; rfl
theorem Six.old {w : World} {b : Nat} {p q r x y z : Value} (h : Six w b p q r x y z) (o : Obj) : Six (w.alloc o) b p q r x y z := h.keep (grow (here w) o)
theorem Six.drewN {w : World} {b : Nat} {p q r x y z : Value} (h : Six w b p q r x y z) (n : Nat) : Six (w.drewN n) b p q r x y z := h.keep (below_drewN (here w) n)
theorem Six.snd {w w' : World} {o : Obj} {p q r x y z : Value} {t : TypeId} (hb : Below ((w.alloc o).alloc (.cells #[p, q, r, x, y, z] t)).heap.size ((w.alloc o).alloc (.cells #[p, q, r, x, y, z] t)) w') : Six w' (w.heap.size + 1) p q r x y z := by
  have h := Six.new hb; rw [size_two] at h; exact h
theorem Six.fst {w w' : World} {o : Obj} {p q r x y z : Value} {t : TypeId} (hb : Below ((w.alloc (.cells #[p, q, r, x, y, z] t)).alloc o).heap.size ((w.alloc (.cells #[p, q, r, x, y, z] t)).alloc o) w') : Six w' w.heap.size p q r x y z :=
  ((Six.new (here (w.alloc (.cells #[p, q, r, x, y, z] t)))).old o).keep hb
theorem Box.fst {w w' : World} {o : Obj} {x y z : Value} {t : TypeId} (hb : Below ((w.alloc (.cells #[x, y, z] t)).alloc o).heap.size ((w.alloc (.cells #[x, y, z] t)).alloc o) w') : Box w' w.heap.size x y z :=
  ((Box.new (here (w.alloc (.cells #[x, y, z] t)))).old o).keep hb
/-- A boxed struct of six cells that may be written. -/
structure Free6 (w : World) (b : Nat) : Prop where
  f0 : w.frozen? ⟨b, 0, none⟩ = false
  f1 : w.frozen? ⟨b, 1, none⟩ = false
  f2 : w.frozen? ⟨b, 2, none⟩ = false
  f3 : w.frozen? ⟨b, 3, none⟩ = false
  f4 : w.frozen? ⟨b, 4, none⟩ = false
  f5 : w.frozen? ⟨b, 5, none⟩ = false
theorem Free6.new {w w' : World} {cs : Array Value} {t : TypeId} (hb : Below (w.alloc (.cells cs t)).heap.size (w.alloc (.cells cs t)) w') : Free6 w' w.heap.size := by
  have e : w.heap.size < (w.alloc (.cells cs t)).heap.size := by simp
  refine ⟨?_, ?_, ?_, ?_, ?_, ?_⟩
  · rw [hb.frozen (p := ⟨w.heap.size, 0, none⟩) e]; exact World.frozen?_alloc_new _ _ _ _
  · rw [hb.frozen (p := ⟨w.heap.size, 1, none⟩) e]; exact World.frozen?_alloc_new _ _ _ _
  · rw [hb.frozen (p := ⟨w.heap.size, 2, none⟩) e]; exact World.frozen?_alloc_new _ _ _ _
  · rw [hb.frozen (p := ⟨w.heap.size, 3, none⟩) e]; exact World.frozen?_alloc_new _ _ _ _
  · rw [hb.frozen (p := ⟨w.heap.size, 4, none⟩) e]; exact World.frozen?_alloc_new _ _ _ _
  · rw [hb.frozen (p := ⟨w.heap.size, 5, none⟩) e]; exact World.frozen?_alloc_new _ _ _ _
theorem Free6.keep {w w' : World} {b : Nat} (h : Free6 w b) (l : b < w.heap.size) (hb : Below w.heap.size w w') : Free6 w' b :=
  ⟨by rw [hb.frozen (p := ⟨b, 0, none⟩) l]; exact h.f0, by rw [hb.frozen (p := ⟨b, 1, none⟩) l]; exact h.f1, by rw [hb.frozen (p := ⟨b, 2, none⟩) l]; exact h.f2, by rw [hb.frozen (p := ⟨b, 3, none⟩) l]; exact h.f3, by rw [hb.frozen (p := ⟨b, 4, none⟩) l]; exact h.f4, by rw [hb.frozen (p := ⟨b, 5, none⟩) l]; exact h.f5⟩
theorem Below.set6 {w w1 : World} {b : Nat} (h : Below w.heap.size w w1) (hb : w.heap.size ≤ b) (p q r x y z : Value) :
    Below w.heap.size w ((((((w1.setCell ⟨b, 0, none⟩ p).setCell ⟨b, 1, none⟩ q).setCell ⟨b, 2, none⟩ r).setCell ⟨b, 3, none⟩ x).setCell ⟨b, 4, none⟩ y).setCell ⟨b, 5, none⟩ z) :=
  (((((h.setCell hb p).setCell hb q).setCell hb r).setCell hb x).setCell hb y).setCell hb z

theorem insB_eq {t : Int} : insB t = (decide (-62135596800 ≤ t) && decide (t < 253402300800)) := by unfold insB; simp
theorem linB_eq {t : Int} : linB t = (decide (-4398046511104 ≤ t) && decide (t ≤ 4398046511104)) := by unfold linB; simp
def secB (s : Int) : Bool := decide (0 ≤ s ∧ s < 86400)
theorem secB_eq {s : Int} : secB s = (decide (0 ≤ s) && decide (s < 86400)) := by unfold secB; simp
theorem secB_iff {s : Int} : secB s = true ↔ 0 ≤ s ∧ s < 86400 := by unfold secB; simp
theorem vldT_eq {h m s : Int} : vldT h m s = (((((decide (0 ≤ h) && decide (h < 24)) && decide (0 ≤ m)) && decide (m < 60)) && decide (0 ≤ s)) && decide (s < 60)) := by
  rw [Bool.eq_iff_iff, vldT_iff]; simp only [Bool.and_eq_true, decide_eq_true_eq]; omega
theorem vldT_eq2 {h m s : Int} : vldT h m s = (((((decide (0 ≤ h) && decide (h ≤ 23)) && decide (0 ≤ m)) && decide (m ≤ 59)) && decide (0 ≤ s)) && decide (s ≤ 59)) := by
  rw [Bool.eq_iff_iff, vldT_iff]; simp only [Bool.and_eq_true, decide_eq_true_eq]; omega
theorem ksec (n : Int) (hn : I64 n) (w : World) :
    Calls Tryz.prog 43 #[.int .i64 n] w fun e w' => e = .returned (.bool (secB n)) ∧ w = w' := by
  obtain ⟨h0, h1⟩ := hn
  rw [secB_eq]
  obtain ⟨a, ha⟩ : ∃ a, decide (0 ≤ n) = a := ⟨_, rfl⟩
  obtain ⟨b, hb⟩ : ∃ a, decide (n < 86400) = a := ⟨_, rfl⟩
  rw [ha, hb]
  cases a <;> cases b
  all_goals
    go_enter Tryz.func43, Tryz.ntmps43
    go_wp2
    go_ret
    exact ⟨rfl, rfl⟩
set_option maxHeartbeats 1000000 in
theorem kvt (h m s : Int) (hh : I64 h) (hm : I64 m) (hs : I64 s) (w : World) :
    Calls Tryz.prog 70 #[.agg #[.int .i64 h, .int .i64 m, .int .i64 s]] w fun e w' => e = .returned (.bool (vldT h m s)) ∧ Below w.heap.size w w' := by
  rw [vldT_eq2]
  obtain ⟨a, ha⟩ : ∃ a, decide (0 ≤ h) = a := ⟨_, rfl⟩
  obtain ⟨b, hb⟩ : ∃ a, decide (h ≤ 23) = a := ⟨_, rfl⟩
  obtain ⟨c, hc⟩ : ∃ a, decide (0 ≤ m) = a := ⟨_, rfl⟩
  obtain ⟨d, hd⟩ : ∃ a, decide (m ≤ 59) = a := ⟨_, rfl⟩
  obtain ⟨e, he⟩ : ∃ a, decide (0 ≤ s) = a := ⟨_, rfl⟩
  obtain ⟨f, hf⟩ : ∃ a, decide (s ≤ 59) = a := ⟨_, rfl⟩
  rw [ha, hb, hc, hd, he, hf]
  clear hh hm hs
  cases a
  case' true =>
    cases b
    case' true =>
      cases c
      case' true =>
        cases d
        case' true =>
          cases e
          case' true => cases f
  all_goals
    go_enter Tryz.func70, Tryz.ntmps70
    go_wp2
    go_ret
    exact ⟨rfl, grow (here w) _⟩
theorem ksecs (h m s : Int) (v : vldT h m s = true) (w : World) :
    Calls Tryz.prog 54 #[.agg #[.int .i64 h, .int .i64 m, .int .i64 s]] w fun e w' => e = .returned (.tuple #[.int .i64 (secT h m s), .int .i64 0]) ∧ Below w.heap.size w w' := by
  obtain ⟨⟨a, b⟩, ⟨c, d⟩, e, f⟩ := vldT_iff.1 v
  have HV := fun w => kvt h m s ⟨by omega, by omega⟩ ⟨by omega, by omega⟩ ⟨by omega, by omega⟩ w
  rw [v] at HV
  replace HV := Lib.hid HV
  unfold secT
  clear v
  go_enter Tryz.func54, Tryz.ntmps54
  go_wp2_with fail
  refine (HV.out _).mono ?_
  rintro e w1 ⟨rfl, hb⟩
  have A1 := Lib.hid (down (grow (here w) _) hb)
  obtain ⟨c0, c1, c2⟩ := box_cells hb
  clear hb
  go_wp2
  go_ret2
  exact ⟨rfl, A1.out⟩
theorem ksecs_no (h m s : Int) (hh : I64 h) (hm : I64 m) (hs : I64 s) (v : vldT h m s = false) (w : World) :
    Calls Tryz.prog 54 #[.agg #[.int .i64 h, .int .i64 m, .int .i64 s]] w fun e w' => e = .returned (.tuple #[.int .i64 0, .int .i64 1]) ∧ Below w.heap.size w w' := by
  have HV := fun w => kvt h m s hh hm hs w
  rw [v] at HV
  replace HV := Lib.hid HV
  clear v
  go_enter Tryz.func54, Tryz.ntmps54
  go_wp2_with fail
  refine (HV.out _).mono ?_
  rintro e w1 ⟨rfl, hb⟩
  have A1 := Lib.hid (down (grow (here w) _) hb)
  clear hb
  go_wp2
  go_ret2
  exact ⟨rfl, A1.out⟩
theorem ktime (n : Int) (n0 : 0 ≤ n) (n1 : n < 86400) (w : World) :
    Calls Tryz.prog 29 #[.int .i64 n] w fun e w' => e = .returned (.tuple #[.agg #[.int .i64 (tH n), .int .i64 (tM n), .int .i64 (tS n)], .int .i64 0]) ∧ Below w.heap.size w w' := by
  have HV := fun w => ksec n ⟨by omega, by omega⟩ w
  rw [secB_iff.2 ⟨n0, n1⟩] at HV
  replace HV := Lib.hid HV
  have e : Hid (tM n = n % 3600 / 60) := by show tM n = _; unfold tM; omega
  rw [e.out]
  unfold tH tS
  clear e
  go_enter Tryz.func29, Tryz.ntmps29
  go_wp2_with fail
  refine (HV.out _).mono ?_
  rintro e w1 ⟨rfl, rfl⟩
  go_wp2
  exact bodyPost_ret (v := .tuple #[.agg #[.int .i64 (n / 3600), .int .i64 (n % 3600 / 60), .int .i64 (n % 60)], .int .i64 0]) (by simp [results, Tryz.results29, go_sem]) rfl ⟨rfl, grow (here w) _⟩
theorem ktime_no (n : Int) (hn : I64 n) (h : secB n = false) (w : World) :
    Calls Tryz.prog 29 #[.int .i64 n] w fun e w' => e = .returned (.tuple #[.agg #[.int .i64 0, .int .i64 0, .int .i64 0], .int .i64 2]) ∧ Below w.heap.size w w' := by
  have HV := fun w => ksec n hn w
  rw [h] at HV
  replace HV := Lib.hid HV
  clear h
  go_enter Tryz.func29, Tryz.ntmps29
  go_wp2_with fail
  refine (HV.out _).mono ?_
  rintro e w1 ⟨rfl, rfl⟩
  go_wp2
  exact bodyPost_ret (v := .tuple #[.agg #[.int .i64 0, .int .i64 0, .int .i64 0], .int .i64 2]) (by simp [results, Tryz.results29, go_sem]) rfl ⟨rfl, grow (here w) _⟩
theorem kat_yes (d s : Int) (d0 : -719162 ≤ d) (d1 : d < 2932897) (s0 : 0 ≤ s) (s1 : s < 86400) (w : World) :
    Calls Tryz.prog 55 #[.int .i64 d, .int .i64 s] w fun e w' => e = .returned (.tuple #[.int .i64 (86400 * d + s), .int .i64 0]) ∧ w = w' := by
  have HV := fun w => ksec s ⟨by omega, by omega⟩ w
  rw [secB_iff.2 ⟨s0, s1⟩] at HV
  replace HV := Lib.hid HV
  go_enter Tryz.func55, Tryz.ntmps55
  go_wp2_with fail
  refine (HV.out _).mono ?_
  rintro e w1 ⟨rfl, rfl⟩
  go_wp2
  go_ret2
  exact ⟨rfl, rfl⟩
theorem kat_no (d s : Int) (hd : I64 d) (hs : I64 s) (h : d < -719162 ∨ 2932897 ≤ d ∨ secB s = false) (w : World) :
    Calls Tryz.prog 55 #[.int .i64 d, .int .i64 s] w fun e w' => e = .returned (.tuple #[.int .i64 0, .int .i64 2]) ∧ w = w' := by
  have HV := fun w => ksec s hs w
  obtain ⟨h0, h1⟩ := hd
  by_cases a : d < -719162
  · have k : decide (d < -719162) = true := decide_eq_true a
    go_enter Tryz.func55, Tryz.ntmps55
    go_wp2
    go_ret2
    exact ⟨rfl, rfl⟩
  · have k : decide (d < -719162) = false := decide_eq_false a
    by_cases b : 2932897 ≤ d
    · have k2 : decide (2932897 ≤ d) = true := decide_eq_true b
      go_enter Tryz.func55, Tryz.ntmps55
      go_wp2
      go_ret2
      exact ⟨rfl, rfl⟩
    · have k2 : decide (2932897 ≤ d) = false := decide_eq_false b
      have c : secB s = false := h.elim (fun x => absurd x a) (fun x => x.elim (fun y => absurd y b) id)
      rw [c] at HV
      replace HV := Lib.hid HV
      clear h c
      go_enter Tryz.func55, Tryz.ntmps55
      go_wp2_with fail
      refine (HV.out _).mono ?_
      rintro e w1 ⟨rfl, rfl⟩
      go_wp2
      go_ret2
      exact ⟨rfl, rfl⟩
theorem ksplit (n : Int) (h : insB n = true) (w : World) :
    Calls Tryz.prog 27 #[.int .i64 n] w fun e w' => e = .returned (.tuple #[.int .i64 (n / 86400), .int .i64 (n % 86400), .int .i64 0]) ∧ ∃ k, w' = w.drewN k := by
  obtain ⟨h0, h1⟩ := insB_iff.1 h
  have HD := Lib.hid (fun w => cdiv n 86400 ⟨by omega, by omega⟩ (by omega) (by omega) w)
  have k : decide (n < -62135596800) = false := decide_eq_false (by omega)
  have k2 : decide (253402300800 ≤ n) = false := decide_eq_false (by omega)
  clear h
  generalize n / 86400 = a at *
  generalize n % 86400 = b at *
  go_enter Tryz.func27, Tryz.ntmps27
  go_wp2_with fail
  refine (HD.out _).mono ?_
  rintro e w' ⟨rfl, n, rfl⟩
  go_wp2
  go_ret3
  exact ⟨rfl, _, rfl⟩
theorem ksplit_no (n : Int) (hn : I64 n) (h : insB n = false) (w : World) :
    Calls Tryz.prog 27 #[.int .i64 n] w fun e w' => e = .returned (.tuple #[.int .i64 0, .int .i64 0, .int .i64 2]) ∧ w = w' := by
  obtain ⟨h0, h1⟩ := hn
  have h' : ¬ (-62135596800 ≤ n ∧ n < 253402300800) := fun x => by rw [insB_iff.2 x] at h; cases h
  clear h
  by_cases a : n < -62135596800
  · have k : decide (n < -62135596800) = true := decide_eq_true a
    go_enter Tryz.func27, Tryz.ntmps27
    go_wp2
    go_ret3
    exact ⟨rfl, rfl⟩
  · have k : decide (n < -62135596800) = false := decide_eq_false a
    have k2 : decide (253402300800 ≤ n) = true := decide_eq_true (by omega)
    clear h'
    go_enter Tryz.func27, Tryz.ntmps27
    go_wp2
    go_ret3
    exact ⟨rfl, rfl⟩

set_option maxHeartbeats 1000000 in
theorem kvm (y o d h m s : Int) (hy : I64 y) (ho : I64 o) (hd : I64 d) (hh : I64 h) (hm : I64 m) (hs : I64 s) (w : World) (ht : Lens w) :
    Calls Tryz.prog 52 #[.agg #[.int .i64 y, .int .i64 o, .int .i64 d, .int .i64 h, .int .i64 m, .int .i64 s]] w fun e w' => e = .returned (.bool (vld y o d && vldT h m s)) ∧ Below w.heap.size w w' := by
  have HV := Lib.hid (fun w ht => cvalid y o d hy ho hd w ht)
  have HT := Lib.hid (fun w => kvt h m s hh hm hs w)
  generalize vld y o d = V at *
  generalize vldT h m s = T at *
  replace ht := Lib.hid ht
  clear hy ho hd hh hm hs
  cases V
  · go_enter Tryz.func52, Tryz.ntmps52
    go_wp2_with fail
    refine (HV.out _ (lens_alloc ht.out _)).mono ?_
    rintro e w1 ⟨rfl, hb⟩
    have A1 := Lib.hid (down (grow (here w) _) hb)
    clear hb
    go_wp2
    go_ret
    exact ⟨rfl, A1.out⟩
  · go_enter Tryz.func52, Tryz.ntmps52
    go_wp2_with fail
    refine (HV.out _ (lens_alloc ht.out _)).mono ?_
    rintro e w1 ⟨rfl, hb⟩
    have A1 := Lib.hid (down (grow (here w) _) hb)
    have B1 := Six.new hb
    clear hb
    obtain ⟨c0, c1, c2, c3, c4, c5, z⟩ := B1
    go_wp2_with fail
    refine (HT.out _).mono ?_
    rintro e w2 ⟨rfl, hb⟩
    have A2 := Lib.hid (down A1.out hb)
    clear hb
    go_wp2
    go_ret
    exact ⟨rfl, A2.out⟩
theorem kof_no (y o d h m s : Int) (hy : I64 y) (ho : I64 o) (hd : I64 d) (hh : I64 h) (hm : I64 m) (hs : I64 s) (v : (vld y o d && vldT h m s) = false) (w : World) (ht : Lens w) :
    Calls Tryz.prog 35 #[.agg #[.int .i64 y, .int .i64 o, .int .i64 d, .int .i64 h, .int .i64 m, .int .i64 s]] w fun e w' => e = .returned (.tuple #[.int .i64 0, .int .i64 1]) ∧ Below w.heap.size w w' := by
  have HV := fun w ht => kvm y o d h m s hy ho hd hh hm hs w ht
  rw [v] at HV
  replace HV := Lib.hid HV
  replace ht := Lib.hid ht
  clear v
  go_enter Tryz.func35, Tryz.ntmps35
  go_wp2_with fail
  refine (HV.out _ (lens_alloc ht.out _)).mono ?_
  rintro e w1 ⟨rfl, hb⟩
  have A1 := Lib.hid (down (grow (here w) _) hb)
  clear hb
  go_wp2
  go_ret2
  exact ⟨rfl, A1.out⟩
set_option maxHeartbeats 1000000 in
theorem kof_yes (y o d h m s : Int) (v : vld y o d = true) (t : vldT h m s = true) (w : World) (ht : Lens w) :
    Calls Tryz.prog 35 #[.agg #[.int .i64 y, .int .i64 o, .int .i64 d, .int .i64 h, .int .i64 m, .int .i64 s]] w fun e w' => e = .returned (.tuple #[.int .i64 (86400 * dayN y o d + secT h m s), .int .i64 0]) ∧ Below w.heap.size w w' := by
  obtain ⟨y0, y1, m0, m1, d0, d1⟩ := vld_bd v
  obtain ⟨⟨t0, t1⟩, ⟨t2, t3⟩, t4, t5⟩ := vldT_iff.1 t
  have r := day_range v
  have q := secT_bd t
  have HV := fun w ht => kvm y o d h m s ⟨by omega, by omega⟩ ⟨by omega, by omega⟩ ⟨by omega, by omega⟩ ⟨by omega, by omega⟩ ⟨by omega, by omega⟩ ⟨by omega, by omega⟩ w ht
  have HD := Lib.hid (fun w ht => cday_yes y o d v w ht)
  have HS := Lib.hid (fun w => ksecs h m s t w)
  rw [v, t] at HV
  replace HV := Lib.hid HV
  generalize dayN y o d = D at *
  generalize secT h m s = S at *
  have HA := Lib.hid (fun w => kat_yes D S r.1 r.2 q.1 q.2 w)
  replace ht := Lib.hid ht
  clear v t r q
  go_enter Tryz.func35, Tryz.ntmps35
  go_wp2_with fail
  refine (HV.out _ (lens_alloc ht.out _)).mono ?_
  rintro e w1 ⟨rfl, hb⟩
  have A1 := Lib.hid (down (grow (here w) _) hb)
  have B1 := Lib.hid (Six.new hb)
  clear hb
  obtain ⟨c0, c1, c2, c3, c4, c5, z⟩ := B1.out
  go_wp2_with fail
  refine (HD.out _ (lens_below ht.out A1.out)).mono ?_
  rintro e w2 ⟨rfl, hb⟩
  have A2 := Lib.hid (down A1.out hb)
  have B2 := Lib.hid (B1.out.keep hb)
  clear hb A1 B1 c0 c1 c2 c3 c4 c5 z
  obtain ⟨c0, c1, c2, c3, c4, c5, z⟩ := B2.out
  go_wp2_with fail
  refine (HS.out _).mono ?_
  rintro e w3 ⟨rfl, hb⟩
  have A3 := Lib.hid (down A2.out hb)
  clear hb A2 B2 c0 c1 c2 c3 c4 c5 z
  go_wp2_with fail
  refine (HA.out _).mono ?_
  rintro e w4 ⟨rfl, rfl⟩
  go_wp2
  go_ret2
  exact ⟨rfl, A3.out⟩
theorem kmom_no (n : Int) (hn : I64 n) (h : insB n = false) (w : World) :
    Calls Tryz.prog 14 #[.int .i64 n] w fun e w' => e = .returned (.tuple #[.agg #[.int .i64 0, .int .i64 0, .int .i64 0, .int .i64 0, .int .i64 0, .int .i64 0], .int .i64 2]) ∧ Below w.heap.size w w' := by
  have HS := Lib.hid (fun w => ksplit_no n hn h w)
  clear h
  go_enter Tryz.func14, Tryz.ntmps14
  go_wp2_with fail
  refine (HS.out _).mono ?_
  rintro e w1 ⟨rfl, rfl⟩
  go_wp2
  exact bodyPost_ret (v := .tuple #[.agg #[.int .i64 0, .int .i64 0, .int .i64 0, .int .i64 0, .int .i64 0, .int .i64 0], .int .i64 2]) (by simp [results, Tryz.results14, go_sem]) rfl ⟨rfl, grow (here w) _⟩
set_option maxHeartbeats 1000000 in
theorem kmom_yes (n y o d h m s : Int) (v : vld y o d = true) (t : vldT h m s = true) (e : 86400 * dayN y o d + secT h m s = n) (w : World) :
    Calls Tryz.prog 14 #[.int .i64 n] w fun e w' => e = .returned (.tuple #[.agg #[.int .i64 y, .int .i64 o, .int .i64 d, .int .i64 h, .int .i64 m, .int .i64 s], .int .i64 0]) ∧ Below w.heap.size w w' := by
  have r := day_range v
  have q := secT_bd t
  have j := ins_join r.1 r.2 q.1 q.2
  have f := time_forth t
  rw [e] at j
  have HS := fun w => ksplit n j.1 w
  rw [j.2.1, j.2.2] at HS
  have HD := Lib.hid (fun w => cdate_yes (dayN y o d) y o d v rfl w)
  have HT := fun w => ktime (secT h m s) q.1 q.2 w
  rw [f.1, f.2.1, f.2.2] at HT
  replace HT := Lib.hid HT
  replace HS := Lib.hid HS
  generalize dayN y o d = D at *
  generalize secT h m s = S at *
  clear v t e r q j f
  go_enter Tryz.func14, Tryz.ntmps14
  go_wp2_with fail
  refine (HS.out _).mono ?_
  rintro e w1 ⟨rfl, k, rfl⟩
  have A1 := Lib.hid (below_drewN (grow (here w) (.cells #[.int .i64 0, .int .i64 0, .int .i64 0, .int .i64 0, .int .i64 0, .int .i64 0] 49)) k)
  have F1 := Lib.hid (Free6.new (below_drewN (here (w.alloc (.cells #[.int .i64 0, .int .i64 0, .int .i64 0, .int .i64 0, .int .i64 0, .int .i64 0] 49))) k))
  have S1 := Lib.hid (Six.new (below_drewN (here (w.alloc (.cells #[.int .i64 0, .int .i64 0, .int .i64 0, .int .i64 0, .int .i64 0, .int .i64 0] 49))) k))
  obtain ⟨w2, hw2⟩ : ∃ w2, (w.alloc (.cells #[.int .i64 0, .int .i64 0, .int .i64 0, .int .i64 0, .int .i64 0, .int .i64 0] 49)).drewN k = w2 := ⟨_, rfl⟩
  rw [hw2] at A1 F1 S1
  rw [hw2]
  clear hw2
  go_wp2_with fail
  refine (HD.out _).mono ?_
  rintro e w3 ⟨rfl, hb⟩
  have A3 := Lib.hid (down A1.out hb)
  have S3 := Lib.hid (S1.out.keep hb)
  have F3 := Lib.hid (F1.out.keep S1.out.lt hb)
  clear hb A1 F1 S1
  go_wp2_with fail
  refine (HT.out _).mono ?_
  rintro e w4 ⟨rfl, hb⟩
  have A4 := Lib.hid (down (grow A3.out _) hb)
  have S4 := Lib.hid ((S3.out.old _).keep hb)
  have F4 := Lib.hid ((F3.out.keep S3.out.lt (grow (here _) _)).keep (S3.out.old _).lt hb)
  have B4 := Lib.hid (Box.new hb)
  clear hb A3 F3 S3
  have A5 := Lib.hid (grow A4.out (.cells #[.int .i64 h, .int .i64 m, .int .i64 s] 47))
  have S5 := Lib.hid (S4.out.old (.cells #[.int .i64 h, .int .i64 m, .int .i64 s] 47))
  have F5 := Lib.hid (F4.out.keep S4.out.lt (grow (here _) (.cells #[.int .i64 h, .int .i64 m, .int .i64 s] 47)))
  have B5 := Lib.hid (B4.out.old (.cells #[.int .i64 h, .int .i64 m, .int .i64 s] 47))
  have C5 := Lib.hid (Box.new (here (w4.alloc (.cells #[.int .i64 h, .int .i64 m, .int .i64 s] 47))))
  clear A4 S4 F4 B4
  obtain ⟨w5, hw5⟩ : ∃ w5, w4.alloc (.cells #[.int .i64 h, .int .i64 m, .int .i64 s] 47) = w5 := ⟨_, rfl⟩
  rw [hw5] at A5 S5 F5 B5 C5
  obtain ⟨b0, b1, b2, zb⟩ := B5.out
  obtain ⟨c0, c1, c2, zc⟩ := C5.out
  obtain ⟨f0, f1, f2, f3, f4, f5⟩ := F5.out
  obtain ⟨g0, g1, g2, g3, g4, g5, -⟩ := S5.out
  go_wp2
  exact bodyPost_ret (v := .tuple #[.agg #[.int .i64 y, .int .i64 o, .int .i64 d, .int .i64 h, .int .i64 m, .int .i64 s], .int .i64 0]) (by simp [results, Tryz.results14, go_sem, g0, g1, g2, g3, g4, g5]) rfl ⟨rfl, Below.set6 A5.out (Nat.le_refl _) _ _ _ _ _ _⟩
def argB (u k : Int) : Bool := decide (1 ≤ u ∧ u ≤ 4398046511104 ∧ 1 ≤ k ∧ k ≤ 3)
theorem argB_iff {u k : Int} : argB u k = true ↔ 1 ≤ u ∧ u ≤ 4398046511104 ∧ 1 ≤ k ∧ k ≤ 3 := by unfold argB; simp
/-- What Round returns: the multiple, and the error number. -/
def rV (n u k : Int) : Int := if argB u k && linB n && linB (rndV n u k) then rndV n u k else 0
def rE (n u k : Int) : Int := if argB u k then (if linB n && linB (rndV n u k) then 0 else 2) else 1
theorem arg_no {u k : Int} (h : argB u k = false) : (decide (u < 1) || decide (4398046511104 < u) || decide (k < 1) || decide (3 < k)) = true := by
  have : ¬ (1 ≤ u ∧ u ≤ 4398046511104 ∧ 1 ≤ k ∧ k ≤ 3) := fun x => by rw [argB_iff.2 x] at h; cases h
  simp only [Bool.or_eq_true, decide_eq_true_eq]; omega
theorem Six.drew {w : World} {b : Nat} {p q r x y z : Value} (h : Six w b p q r x y z) : Six w.drew b p q r x y z := h.drewN 1
theorem Free6.drew {w : World} {b : Nat} (h : Free6 w b) : Free6 w.drew b := ⟨h.f0, h.f1, h.f2, h.f3, h.f4, h.f5⟩
end Go.Proofs.YtocimbiidloofaaGreatDoor
