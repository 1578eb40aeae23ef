/- Contracts of package leap: valid tables, totals, checks. -/
import Derived.Test.YtocimbiidloofaaGreatDoorLtV

import Derived.Test.YtocimbiidloofaaGreatDoorLSrch

import Derived.Deep.QuietTactic

import Derived.BigQuiet

import Derived.Outline

namespace Go.Proofs.YtocimbiidloofaaGreatDoor

open Go.RowKit

set_option linter.unusedVariables false

/-- The instant that the next step must be behind. -/
def prevT (ps : List (Int × Int)) : Nat → Int
  | 0 => -62135596800
  | k + 1 => ltA ps k
theorem prev_step {ps : List (Int × Int)} {k : Nat} (h : ltUpto ps k) : ltS ps k = decide (prevT ps k < ltA ps k ∧ ltA ps k < 253402300800 ∧ ltA ps k % 86400 = 0 ∧ ltT ps k = k + 1) := by
  unfold ltS
  cases k with
  | zero => show decide _ = decide (-62135596800 < _ ∧ _); exact decide_eq_decide.2 (by simp)
  | succ j =>
    have q := ltS_iff.1 (h j (by omega))
    show decide _ = decide (ltA ps j < _ ∧ _)
    refine decide_eq_decide.2 ?_
    rw [show j + 1 - 1 = j by omega]
    have n0 : ¬ j + 1 = 0 := by omega
    constructor
    · rintro ⟨a, b, c, d, e⟩
      rcases e with e | e
      · exact absurd e n0
      · exact ⟨e, b, c, d⟩
    · rintro ⟨a, b, c, d⟩
      exact ⟨by omega, b, c, d, .inr a⟩
set_option maxRecDepth 100000 in
set_option maxHeartbeats 1000000 in
theorem ulvalid (v : Value) (ps : List (Int × Int)) (w : World) (h : LT w v ps) :
    Calls Tryz.prog 8 #[.agg #[v]] w fun e w' => e = .returned (.bool (ltB ps)) ∧ Below w.heap.size w w' := by
  obtain ⟨ao, cp, rfl⟩ := h.shape
  have hl := h.len
  unfold maxLen at hl
  have L0 := Lib.hid (h.old (.cells #[.slice ao ps.length cp] 24))
  have B0 := Lib.hid (One.new (here (w.alloc (.cells #[.slice ao ps.length cp] 24))))
  clear h
  by_cases l : 100 < ps.length
  · rw [ltB_long l]
    have kl : decide (100 < (ps.length : Int)) = true := decide_eq_true (by omega)
    obtain ⟨bx, blt⟩ := B0.out
    clear l L0 B0
    generalize ps.length = n at *
    go_enter Tryz.func8, Tryz.ntmps8
    go_wp2
    go_ret
    exact ⟨rfl, grow (here w) _⟩
  · have kl : decide (100 < (ps.length : Int)) = false := decide_eq_false (by omega)
    have good : Hid (ltUpto ps ps.length → ltB ps = true) := fun u => ltB_iff.2 ⟨by omega, u⟩
    have bad := Lib.hid (fun i => @ltB_no ps i)
    go_enter Tryz.func8, Tryz.ntmps8
    obtain ⟨bx, blt⟩ := B0.out
    go_wp2
    go_loopw [3, 13] (fun p i wr => ∃ k : Nat, k ≤ ps.length ∧ p = .int .i64 (prevT ps k) ∧ i = .int .i64 k ∧ Hid (ltUpto ps k) ∧ Hid (Below w.heap.size w wr) ∧ Hid (One wr w.heap.size (.slice ao ps.length cp)) ∧ Hid (LT wr (.slice ao ps.length cp) ps)) (fun _ i _ => ps.length - (intOf i).toNat)
    case atStart => exact ⟨0, Nat.zero_le _, rfl, rfl, fun i hi => absurd hi (Nat.not_lt_zero _), grow (here w) _, B0.out, L0.out⟩
    case round =>
      obtain ⟨k, hk, rfl, rfl, HU, HA, HB, HL⟩ := hrel
      clear bx blt
      obtain ⟨bx, blt⟩ := HB.out
      by_cases z : k < ps.length
      · have kz : decide ((k : Int) < (ps.length : Int)) = true := decide_eq_true (by omega)
        obtain ⟨b, off, rfl, bl, cs⟩ := HL.out.at z
        obtain ⟨c0, c1⟩ := cs k z
        have wf := HL.out.wf k z
        have HS := Lib.hid (prev_step HU.out)
        have HN : Hid (ltS ps k = false → ltB ps = false) := fun e => bad.out k z e
        have HY : Hid (ltS ps k = true → ltUpto ps (k + 1)) := fun e i hi => by
          rcases Nat.lt_or_ge i k with q | q
          · exact HU.out i q
          · obtain rfl : i = k := by omega
            exact e
        have HX : Hid (prevT ps (k + 1) = ltA ps k) := rfl
        clear good bad L0 B0 HU
        generalize ltS ps k = sk at *
        generalize prevT ps k = xp at *
        generalize ltA ps k = x at *
        generalize ltT ps k = y at *
        obtain ⟨⟨f0, f1⟩, f2, f3⟩ := wf
        obtain ⟨w4, hw4⟩ : ∃ w4 : World, wr.alloc (.cells #[.int .i64 x, .int .i64 y] 35) = w4 := ⟨_, rfl⟩
        have A4 : Hid (Below w.heap.size w w4) := by rw [← hw4]; exact grow HA.out _
        have B4 : Hid (One w4 w.heap.size (.slice (some ⟨b, off, none⟩) ps.length cp)) := by rw [← hw4]; exact HB.out.old _
        have L4 : Hid (LT w4 (.slice (some ⟨b, off, none⟩) ps.length cp) ps) := by rw [← hw4]; exact HL.out.old _
        have X4 : Hid (Two w4 wr.heap.size (.int .i64 x) (.int .i64 y)) := by rw [← hw4]; exact Two.new (here _)
        obtain ⟨x0, x1, xlt⟩ := X4.out
        obtain ⟨bx4, blt4⟩ := B4.out
        clear HA HB HL cs
        obtain ⟨r, hr⟩ : ∃ r, x.tmod 86400 = r := ⟨_, rfl⟩
        have hr2 := Lib.hid (@tmod_zero x)
        rw [hr] at hr2
        by_cases t1 : x ≤ xp
        · have sn : sk = false := by rw [HS.out]; exact decide_eq_false (by omega)
          have hn := Lib.hid (HN.out sn)
          have e1 : decide (x ≤ xp) = true := decide_eq_true t1
          clear HS HN HY sn t1
          go_wp2
          go_ret
          exact ⟨by rw [hn.out]; rfl, A4.out⟩
        · have e1 : decide (x ≤ xp) = false := decide_eq_false t1
          by_cases t2 : 253402300800 ≤ x
          · have sn : sk = false := by rw [HS.out]; exact decide_eq_false (by omega)
            have hn := Lib.hid (HN.out sn)
            have e2 : decide (253402300800 ≤ x) = true := decide_eq_true t2
            clear HS HN HY sn t1 t2
            go_wp2
            go_ret
            exact ⟨by rw [hn.out]; rfl, A4.out⟩
          · have e2 : decide (253402300800 ≤ x) = false := decide_eq_false t2
            by_cases t3 : r = 0
            · have e3 : (r != 0) = false := by simpa using t3
              by_cases t4 : y = k + 1
              · have e4 : (y != (k : Int) + 1) = false := by simpa using t4
                have sn : sk = true := by rw [HS.out]; have := hr2.out.1 t3; exact decide_eq_true (by omega)
                have HU' := Lib.hid (HY.out sn)
                clear HS HN HY sn t1 t2 t3 t4
                go_wp2
                go_roundw
                case rel => exact ⟨k + 1, by omega, by rw [HX.out], by go_num, HU', A4, B4, L4⟩
                case measure => simp [intOf]; omega
              · have sn : sk = false := by rw [HS.out]; exact decide_eq_false (by omega)
                have hn := Lib.hid (HN.out sn)
                have e4 : (y != (k : Int) + 1) = true := by simpa using t4
                clear HS HN HY sn t1 t2 t3 t4
                go_wp2
                go_ret
                exact ⟨by rw [hn.out]; rfl, A4.out⟩
            · have sn : sk = false := by rw [HS.out]; have := hr2.out; exact decide_eq_false (fun q => t3 (this.2 q.2.2.1))
              have hn := Lib.hid (HN.out sn)
              have e3 : (r != 0) = true := by simpa using t3
              clear HS HN HY sn t1 t2 t3
              go_wp2
              go_ret
              exact ⟨by rw [hn.out]; rfl, A4.out⟩
      · have kz : decide ((k : Int) < (ps.length : Int)) = false := decide_eq_false (by omega)
        have e : k = ps.length := by omega
        have g := good.out (by rw [← e]; exact HU.out)
        replace g := Lib.hid g
        clear good bad L0 B0 HU
        go_wp2
        go_ret
        exact ⟨by rw [g.out]; rfl, HA.out⟩
theorem ulend (v : Value) (ps : List (Int × Int)) (n1 : ps.length ≤ 100) (w : World) (h : LT w v ps) :
    Calls Tryz.prog 23 #[.agg #[v]] w fun e w' => e = .returned (.int .i64 (253402300800 + ps.length)) ∧ Below w.heap.size w w' := by
  obtain ⟨ao, cp, rfl⟩ := h.shape
  have hl := h.len
  unfold maxLen at hl
  have L0 := Lib.hid (h.old (.cells #[.slice ao ps.length cp] 24))
  have B0 := Lib.hid (One.new (here (w.alloc (.cells #[.slice ao ps.length cp] 24))))
  clear h
  obtain ⟨bx, blt⟩ := B0.out
  clear L0 B0
  generalize ps.length = n at *
  go_enter Tryz.func23, Tryz.ntmps23
  go_wp2
  go_ret
  exact ⟨rfl, grow (here w) _⟩
theorem ulins (x y : Int) (hx : -62135596800 < x ∧ x < 253402300800) (hy : 1 ≤ y ∧ y ≤ 100) (w : World) :
    Calls Tryz.prog 26 #[.agg #[.int .i64 x, .int .i64 y]] w fun e w' => e = .returned (.int .i64 (x + y - 1)) ∧ Below w.heap.size w w' := by
  obtain ⟨x0, x1⟩ := hx
  obtain ⟨y0, y1⟩ := hy
  have T := Two.new (here (w.alloc (.cells #[.int .i64 x, .int .i64 y] 35)))
  obtain ⟨c0, c1, lt⟩ := T
  go_enter Tryz.func26, Tryz.ntmps26
  go_wp2
  go_ret
  exact ⟨rfl, grow (here w) _⟩
set_option maxRecDepth 100000 in
set_option maxHeartbeats 1000000 in
theorem ulfun (v : Value) (ps : List (Int × Int)) (t : Int) (i : Nat) (hi : i < ps.length) (b c : Nat) (w : World) (hb : One w b v) (hc : One w c (.int .i64 t)) (h : LT w v ps) :
    Calls Tryz.prog 59 #[.int .i64 i, .pointer (some ⟨b, 0, none⟩), .pointer (some ⟨c, 0, none⟩)] w fun e w' => e = .returned (.bool (decide (t < ltA ps i))) ∧ Below w.heap.size w w' := by
  have hl := h.len
  unfold maxLen at hl
  obtain ⟨ao, cp, rfl⟩ := h.shape
  obtain ⟨d, off, rfl, dl, cs⟩ := h.at hi
  obtain ⟨c0, c1⟩ := cs i hi
  obtain ⟨bx, blt⟩ := hb
  obtain ⟨cx, clt⟩ := hc
  clear cs h
  generalize ltA ps i = x at *
  generalize ltT ps i = y at *
  generalize ps.length = n at *
  go_enter Tryz.func59, Tryz.ntmps59
  go_wp2
  go_quiet (fail)
  go_wp2
  go_ret
  exact ⟨rfl, below_drewN (here w) _⟩
set_option maxRecDepth 100000 in
set_option maxHeartbeats 1000000 in
theorem ultot (v : Value) (ps : List (Int × Int)) (t : Int) (ok : ltB ps = true) (w : World) (h : LT w v ps) :
    Calls Tryz.prog 38 #[.agg #[v], .int .i64 t] w fun e w' => e = .returned (.int .i64 (ltN ps t)) ∧ Below w.heap.size w w' := by
  have n1 := (ltB_iff.1 ok).1
  obtain ⟨ao, cp, rfl⟩ := h.shape
  obtain ⟨w1, hw1⟩ : ∃ w1 : World, w.alloc (.cells #[.slice ao ps.length cp] 24) = w1 := ⟨_, rfl⟩
  obtain ⟨w2, hw2⟩ : ∃ w2 : World, w1.alloc (.cells #[.int .i64 t] 3) = w2 := ⟨_, rfl⟩
  have s1 : w1.heap.size = w.heap.size + 1 := by rw [← hw1]; exact size_two _ _
  have B1 : One w1 w.heap.size (.slice ao ps.length cp) := by rw [← hw1]; exact One.new (here _)
  have B2 : One w2 w.heap.size (.slice ao ps.length cp) := by rw [← hw2]; exact B1.old _
  have C2 : One w2 (w.heap.size + 1) (.int .i64 t) := by rw [← hw2, ← s1]; exact One.new (here _)
  have L2 : LT w2 (.slice ao ps.length cp) ps := by rw [← hw2, ← hw1]; exact (h.old _).old _
  have A2 : Below w.heap.size w w2 := by rw [← hw2, ← hw1]; exact grow (grow (here w) _) _
  have at' := ltN_at ok t
  have HS := Lib.hid (search_all ps.length (ltN ps t) (fun i => decide (t < ltA ps i)) 59 #[.pointer (some ⟨w.heap.size, 0, none⟩), .pointer (some ⟨w.heap.size + 1, 0, none⟩)] (by omega) w2 (fun _ _ => rfl) (ltN_le ps t)
    (fun i hi => decide_eq_false (by have := at'.1 i hi; omega)) (fun i h0 h1 => decide_eq_true (at'.2 i h0 h1))
    (fun i w' hi hb => ulfun _ ps t i hi _ _ w' (B2.keep hb) (C2.keep hb) (L2.keep hb)))
  have hmf : ∀ (fn : Fn) (first cap : Array Value) (w : World), (Instr.makeFunc fn first cap).run Tryz.prog w = .ok (.func fn first cap) w := fun _ _ _ _ => rfl
  obtain ⟨bx, blt⟩ := B2
  replace A2 := Lib.hid A2
  clear at' C2 L2 B1 h ok
  generalize ltN ps t = K at *
  generalize ps.length = n at *
  go_enter Tryz.func38, Tryz.ntmps38
  go_wp2_with fail
  refine HS.out.mono ?_
  rintro e w3 ⟨rfl, hb⟩
  have A3 := Lib.hid (down A2.out hb)
  clear hb
  go_wp2
  go_ret
  exact ⟨rfl, A3.out⟩
theorem ulatom (v : Value) (ps : List (Int × Int)) (t : Int) (ok : ltB ps = true) (ht : inB t = true) (w : World) (h : LT w v ps) :
    Calls Tryz.prog 22 #[.agg #[v], .int .i64 t] w fun e w' => e = .returned (.int .i64 (ltW ps t)) ∧ Below w.heap.size w w' := by
  rw [inB_iff] at ht
  obtain ⟨t0, t1⟩ := ht
  have nb := ltN_le ps t
  have n1 := (ltB_iff.1 ok).1
  have HT := Lib.hid (fun w h => ultot v ps t ok w h)
  have L1 := Lib.hid (h.old (.cells #[v] 24))
  have A1 := Lib.hid (grow (here w) (.cells #[v] 24))
  obtain ⟨bx, blt⟩ := One.new (here (w.alloc (.cells #[v] 24)))
  unfold ltW
  generalize ltN ps t = n at *
  clear h ok
  go_enter Tryz.func22, Tryz.ntmps22
  go_wp2_with fail
  refine (HT.out _ L1.out).mono ?_
  rintro e w1 ⟨rfl, hb⟩
  have A2 := Lib.hid (down A1.out hb)
  clear hb
  go_wp2
  go_ret
  exact ⟨rfl, A2.out⟩
set_option maxRecDepth 100000 in
set_option maxHeartbeats 1000000 in
/-- What check answers. -/
def ckE (ps : List (Int × Int)) (zs : List Int) : Int := if ltB ps then (if zs.all inB then 0 else 2) else 1
theorem ulcheck (v : Value) (ps : List (Int × Int)) (zs : List Int) (b off n c : Nat) (hn : zs.length = n) (n2 : n ≤ 2) (w : World) (h : LT w v ps) (hz : Lies w b off (ints zs)) :
    Calls Tryz.prog 21 #[.agg #[v], .slice (some ⟨b, off, none⟩) n c] w fun e w' => e = .returned (.int .i64 (ckE ps zs)) ∧ Below w.heap.size w w' := by
  have HV := Lib.hid (fun w h => ulvalid v ps w h)
  have L1 := Lib.hid (h.old (.cells #[v] 24))
  have A1 := Lib.hid (grow (here w) (.cells #[v] 24))
  have Z1 := Lib.hid (hz.keep (grow (here w) (.cells #[v] 24)))
  obtain ⟨bx, blt⟩ := One.new (here (w.alloc (.cells #[v] 24)))
  clear h hz
  cases ok : ltB ps
  · have hE : Hid (ckE ps zs = 1) := by show _ = _; unfold ckE; rw [ok]; rfl
    rw [ok] at HV
    go_enter Tryz.func21, Tryz.ntmps21
    go_wp2_with fail
    refine (HV.out _ L1.out).mono ?_
    rintro e w1 ⟨rfl, hb⟩
    have A2 := Lib.hid (down A1.out hb)
    clear hb
    go_wp2
    go_ret
    exact ⟨by rw [hE.out]; rfl, A2.out⟩
  · have hE : Hid (ckE ps zs = if zs.all inB then 0 else 2) := by show _ = _; unfold ckE; rw [ok]; rfl
    rw [ok] at HV
    have CL := Lib.hid hn
    go_enter Tryz.func21, Tryz.ntmps21
    go_wp2_with fail
    refine (HV.out _ L1.out).mono ?_
    rintro e w1 ⟨rfl, hb⟩
    have A2 := Lib.hid (down A1.out hb)
    have Z2 := Lib.hid (Z1.out.keep hb)
    clear hb bx blt L1 A1 Z1 HV
    go_wp2
    go_loop [12] (fun i => ∃ k : Nat, k ≤ n ∧ i = .int .i64 k ∧ Hid (∀ j, j < k → inB (zs.getD j 0) = true)) (fun i => n - (intOf i).toNat)
    case atStart => exact ⟨0, Nat.zero_le _, rfl, fun j hj => absurd hj (Nat.not_lt_zero _)⟩
    case round =>
      obtain ⟨k, hk, rfl, HG⟩ := hrel
      by_cases z : k < n
      · have kz : decide ((k : Int) < (n : Int)) = true := decide_eq_true (by omega)
        have d1 := ints_at Z2.out k (by have := CL.out; omega)
        have zt := Z2.out.lt
        have no : Hid (inB (zs.getD k 0) = false → ckE ps zs = 2) := fun e => by
          rw [hE.out, if_neg]
          intro a
          rw [List.all_eq_true] at a
          have kl : k < zs.length := by have := CL.out; omega
          have m := a (zs.getD k 0) (by rw [List.getD_eq_getElem?_getD, List.getElem?_eq_getElem kl]; exact List.getElem_mem kl)
          rw [e] at m; cases m
        have yes : Hid (inB (zs.getD k 0) = true → ∀ j, j < k + 1 → inB (zs.getD j 0) = true) := fun e j hj => by
          rcases Nat.lt_or_ge j k with q | q
          · exact HG.out j q
          · obtain rfl : j = k := by omega
            exact e
        have eb := Lib.hid (@inB_eq (zs.getD k 0))
        clear HG
        generalize zs.getD k 0 = x at *
        by_cases t1 : x < -62135596800
        · have e1 : decide (x < -62135596800) = true := decide_eq_true t1
          have hn := Lib.hid (no.out (by rw [eb.out, decide_eq_false (by omega : ¬ -62135596800 ≤ x)]; rfl))
          clear no yes eb t1
          go_wp2
          go_ret
          exact ⟨by rw [hn.out]; rfl, A2.out⟩
        · have e1 : decide (x < -62135596800) = false := decide_eq_false t1
          by_cases t2 : 253402300800 ≤ x
          · have e2 : decide (253402300800 ≤ x) = true := decide_eq_true t2
            have hn := Lib.hid (no.out (by rw [eb.out, decide_eq_false (by omega : ¬ x < 253402300800), Bool.and_false]))
            clear no yes eb t1 t2
            go_wp2
            go_ret
            exact ⟨by rw [hn.out]; rfl, A2.out⟩
          · have e2 : decide (253402300800 ≤ x) = false := decide_eq_false t2
            have HG' := Lib.hid (yes.out (by rw [eb.out, decide_eq_true (by omega : -62135596800 ≤ x), decide_eq_true (by omega : x < 253402300800)]; rfl))
            clear no yes eb t1 t2
            go_wp2
            go_round
            case rel => exact ⟨k + 1, by omega, by go_num, HG'⟩
            case measure => simp [intOf]; omega
      · have kz : decide ((k : Int) < (n : Int)) = false := decide_eq_false (by omega)
        have hn : Hid (ckE ps zs = 0) := by
          show _ = _
          rw [hE.out, if_pos]
          rw [List.all_eq_true]
          intro x hx
          obtain ⟨j, hj, rfl⟩ := List.getElem_of_mem hx
          have := HG.out j (by have := CL.out; omega)
          simpa [List.getD_eq_getElem?_getD, hj] using this
        clear HG hE CL
        go_wp2
        go_ret
        exact ⟨by rw [hn.out]; rfl, A2.out⟩
end Go.Proofs.YtocimbiidloofaaGreatDoor
