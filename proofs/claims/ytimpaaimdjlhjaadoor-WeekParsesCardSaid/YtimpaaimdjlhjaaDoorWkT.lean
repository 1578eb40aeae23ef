/- Contracts of week.number, hasLayout, Text. -/
import Derived.Test.YtimpaaimdjlhjaaDoorWkA
import Derived.Test.YtimpaaimdjlhjaaDoorWkDig
import Derived.Test.YtimpaaimdjlhjaaDoorLIntT
import Derived.Test.YtimpaaimdjlhjaaDoorLIntP
namespace Go.Proofs.YtimpaaimdjlhjaaDoor
open Go.RowKit
set_option linter.unusedVariables false

theorem strNums_all {xs : List Int} (h : ∀ x ∈ xs, 48 ≤ x ∧ x ≤ 57) : valD 0 (strOfNums xs).data.toList = valX 0 xs ∧ (strOfNums xs).data.toList.all isDig = true ∧ (strOfNums xs).size = xs.length := by
  obtain ⟨a, b⟩ := valX_str xs 0 h
  exact ⟨by rw [strOfNums_data]; exact a, by rw [strOfNums_data]; exact b, strOfNums_size xs⟩
theorem knumber (xs : List Int) (b off len cap : Nat) (hx : ∀ x ∈ xs, 48 ≤ x ∧ x ≤ 57) (hl : xs.length = len) (l0 : 0 < len) (l1 : len ≤ 4) (w : World) (hev : Ev w)
    (hcell : ∀ i, i < len → w.cell? ⟨b, off + i, none⟩ = some (.int .u8 (xs.getD i 0))) :
    Calls Tryd.prog 46 #[.slice (some ⟨b, off, none⟩) len cap] w fun e w' => e = .returned (.int .i64 (valX 0 xs)) ∧ Below w.heap.size w w' := by
  have hc := run_convert_bytes_arg (P := Tryd.prog) w 65 5 Tryd.underlying65 Tryd.underlying5 b off len cap xs hl hcell 9 Tryd.underlying9
  obtain ⟨d1, d2, d3⟩ := strNums_all hx
  have HP := fun w hev => cnumber (strOfNums xs) (by omega) (by omega) d2 w hev
  rw [d1] at HP
  generalize strOfNums xs = D at *
  generalize valX 0 xs = v at *
  replace HP := Lib.hid HP
  replace hev := Lib.hid hev
  clear hcell hx d1 d2 d3
  go_enter Tryd.func46, Tryd.ntmps46
  go_wp2_with fail
  refine (HP.out _ hev.out).mono ?_
  rintro e w1 ⟨rfl, hb⟩
  go_wp2
  go_ret
  exact ⟨rfl, hb⟩
/-- A row of ten bytes that may be written. -/
structure RowX (w : World) (b : Nat) (f : Nat → Int) : Prop where
  c : ∀ j, j < 10 → w.cell? ⟨b, j, none⟩ = some (.int .u8 (f j))
  fr : ∀ j, j < 10 → w.frozen? ⟨b, j, none⟩ = false
  lt : b < w.heap.size
theorem RowX.keep {w w' : World} {b : Nat} {f : Nat → Int} (h : RowX w b f) (hb : Below w.heap.size w w') : RowX w' b f := by
  have l := h.lt
  refine ⟨fun j hj => ?_, fun j hj => ?_, by have := hb.size; omega⟩
  · rw [hb.cell (p := ⟨b, j, none⟩) l]; exact h.c j hj
  · rw [hb.frozen (p := ⟨b, j, none⟩) l]; exact h.fr j hj
theorem RowX.put {w : World} {b : Nat} {f : Nat → Int} (h : RowX w b f) (k : Nat) (hk : k < 10) (v : Int) : RowX (w.setCell ⟨b, k, none⟩ (.int .u8 v)) b (fun j => if j = k then v else f j) := by
  refine ⟨fun j hj => ?_, fun j hj => by rw [World.frozen?_setCell]; exact h.fr j hj, by rw [size_set]; exact h.lt⟩
  by_cases e : j = k
  · subst e; rw [if_pos rfl]; exact World.cell?_setCell_same w _ _ (h.c j hj)
  · rw [if_neg e, World.cell?_setCell_other (h := by simp)]; exact h.c j hj
theorem RowX.form {w : World} {b : Nat} {f g : Nat → Int} (h : RowX w b f) (e : ∀ j, j < 10 → f j = g j) : RowX w b g :=
  ⟨fun j hj => by rw [← e j hj]; exact h.c j hj, h.fr, h.lt⟩
/-- The first k bytes are turned. -/
def turned (X : Nat → Int) (k j : Nat) : Int := if j < k then nrm (X j) else X j
theorem turned_yes {w : World} {b : Nat} {X : Nat → Int} {k : Nat} (h : RowX w b (turned X k)) (hk : k < 10) (hd : 48 ≤ X k ∧ X k ≤ 57) : RowX (w.setCell ⟨b, k, none⟩ (.int .u8 48)) b (turned X (k + 1)) :=
  (h.put k hk 48).form fun j hj => by
    unfold turned
    by_cases e : j = k
    · subst e; rw [if_pos rfl, if_pos (by omega)]; unfold nrm; rw [if_pos hd]
    · rw [if_neg e]
      by_cases l : j < k
      · rw [if_pos l, if_pos (by omega)]
      · rw [if_neg l, if_neg (by omega)]
theorem turned_no {w : World} {b : Nat} {X : Nat → Int} {k : Nat} (h : RowX w b (turned X k)) (hd : ¬ (48 ≤ X k ∧ X k ≤ 57)) : RowX w b (turned X (k + 1)) :=
  h.form fun j hj => by
    unfold turned
    by_cases e : j = k
    · subst e; rw [if_neg (by omega), if_pos (by omega)]; unfold nrm; rw [if_neg hd]
    · by_cases l : j < k
      · rw [if_pos l, if_pos (by omega)]
      · rw [if_neg l, if_neg (by omega)]
theorem ix_all (X : Nat → Int) (k : Nat) (hk : k < 10) (w : World) : (Instr.index 64 (.agg #[.int .u8 (X 0), .int .u8 (X 1), .int .u8 (X 2), .int .u8 (X 3), .int .u8 (X 4), .int .u8 (X 5), .int .u8 (X 6), .int .u8 (X 7), .int .u8 (X 8), .int .u8 (X 9)]) (.int .i64 (k : Int))).run Tryd.prog w = .ok (.int .u8 (X k)) w := by
  have h0 : ∀ w, (Instr.index 64 (.agg #[.int .u8 (X 0), .int .u8 (X 1), .int .u8 (X 2), .int .u8 (X 3), .int .u8 (X 4), .int .u8 (X 5), .int .u8 (X 6), .int .u8 (X 7), .int .u8 (X 8), .int .u8 (X 9)]) (.int .i64 0)).run Tryd.prog w = .ok (.int .u8 (X 0)) w := fun _ => by kernel_rfl
  have h1 : ∀ w, (Instr.index 64 (.agg #[.int .u8 (X 0), .int .u8 (X 1), .int .u8 (X 2), .int .u8 (X 3), .int .u8 (X 4), .int .u8 (X 5), .int .u8 (X 6), .int .u8 (X 7), .int .u8 (X 8), .int .u8 (X 9)]) (.int .i64 1)).run Tryd.prog w = .ok (.int .u8 (X 1)) w := fun _ => by kernel_rfl
  have h2 : ∀ w, (Instr.index 64 (.agg #[.int .u8 (X 0), .int .u8 (X 1), .int .u8 (X 2), .int .u8 (X 3), .int .u8 (X 4), .int .u8 (X 5), .int .u8 (X 6), .int .u8 (X 7), .int .u8 (X 8), .int .u8 (X 9)]) (.int .i64 2)).run Tryd.prog w = .ok (.int .u8 (X 2)) w := fun _ => by kernel_rfl
  have h3 : ∀ w, (Instr.index 64 (.agg #[.int .u8 (X 0), .int .u8 (X 1), .int .u8 (X 2), .int .u8 (X 3), .int .u8 (X 4), .int .u8 (X 5), .int .u8 (X 6), .int .u8 (X 7), .int .u8 (X 8), .int .u8 (X 9)]) (.int .i64 3)).run Tryd.prog w = .ok (.int .u8 (X 3)) w := fun _ => by kernel_rfl
  have h4 : ∀ w, (Instr.index 64 (.agg #[.int .u8 (X 0), .int .u8 (X 1), .int .u8 (X 2), .int .u8 (X 3), .int .u8 (X 4), .int .u8 (X 5), .int .u8 (X 6), .int .u8 (X 7), .int .u8 (X 8), .int .u8 (X 9)]) (.int .i64 4)).run Tryd.prog w = .ok (.int .u8 (X 4)) w := fun _ => by kernel_rfl
  have h5 : ∀ w, (Instr.index 64 (.agg #[.int .u8 (X 0), .int .u8 (X 1), .int .u8 (X 2), .int .u8 (X 3), .int .u8 (X 4), .int .u8 (X 5), .int .u8 (X 6), .int .u8 (X 7), .int .u8 (X 8), .int .u8 (X 9)]) (.int .i64 5)).run Tryd.prog w = .ok (.int .u8 (X 5)) w := fun _ => by kernel_rfl
  have h6 : ∀ w, (Instr.index 64 (.agg #[.int .u8 (X 0), .int .u8 (X 1), .int .u8 (X 2), .int .u8 (X 3), .int .u8 (X 4), .int .u8 (X 5), .int .u8 (X 6), .int .u8 (X 7), .int .u8 (X 8), .int .u8 (X 9)]) (.int .i64 6)).run Tryd.prog w = .ok (.int .u8 (X 6)) w := fun _ => by kernel_rfl
  have h7 : ∀ w, (Instr.index 64 (.agg #[.int .u8 (X 0), .int .u8 (X 1), .int .u8 (X 2), .int .u8 (X 3), .int .u8 (X 4), .int .u8 (X 5), .int .u8 (X 6), .int .u8 (X 7), .int .u8 (X 8), .int .u8 (X 9)]) (.int .i64 7)).run Tryd.prog w = .ok (.int .u8 (X 7)) w := fun _ => by kernel_rfl
  have h8 : ∀ w, (Instr.index 64 (.agg #[.int .u8 (X 0), .int .u8 (X 1), .int .u8 (X 2), .int .u8 (X 3), .int .u8 (X 4), .int .u8 (X 5), .int .u8 (X 6), .int .u8 (X 7), .int .u8 (X 8), .int .u8 (X 9)]) (.int .i64 8)).run Tryd.prog w = .ok (.int .u8 (X 8)) w := fun _ => by kernel_rfl
  have h9 : ∀ w, (Instr.index 64 (.agg #[.int .u8 (X 0), .int .u8 (X 1), .int .u8 (X 2), .int .u8 (X 3), .int .u8 (X 4), .int .u8 (X 5), .int .u8 (X 6), .int .u8 (X 7), .int .u8 (X 8), .int .u8 (X 9)]) (.int .i64 9)).run Tryd.prog w = .ok (.int .u8 (X 9)) w := fun _ => by kernel_rfl
  have c : k = 0 ∨ k = 1 ∨ k = 2 ∨ k = 3 ∨ k = 4 ∨ k = 5 ∨ k = 6 ∨ k = 7 ∨ k = 8 ∨ k = 9 := by omega
  rcases c with rfl | rfl | rfl | rfl | rfl | rfl | rfl | rfl | rfl | rfl
  · exact h0 w
  · exact h1 w
  · exact h2 w
  · exact h3 w
  · exact h4 w
  · exact h5 w
  · exact h6 w
  · exact h7 w
  · exact h8 w
  · exact h9 w
set_option maxRecDepth 100000 in
set_option maxHeartbeats 4000000 in
theorem klayout (X : Nat → Int) (hX : ∀ j, 0 ≤ X j ∧ X j ≤ 255) (ok : Bool) (hok : okX X = ok) (w : World) :
    Calls Tryd.prog 45 #[.agg #[.int .u8 (X 0), .int .u8 (X 1), .int .u8 (X 2), .int .u8 (X 3), .int .u8 (X 4), .int .u8 (X 5), .int .u8 (X 6), .int .u8 (X 7), .int .u8 (X 8), .int .u8 (X 9)]] w fun e w' => e = .returned (.bool ok) ∧ Below w.heap.size w w' := by
  have hS := str_ten X hX
  rw [hok] at hS
  replace hX := Lib.hid hX
  clear hok
  have hR : RowX (w.alloc (.cells #[.int .u8 (X 0), .int .u8 (X 1), .int .u8 (X 2), .int .u8 (X 3), .int .u8 (X 4), .int .u8 (X 5), .int .u8 (X 6), .int .u8 (X 7), .int .u8 (X 8), .int .u8 (X 9)] 64)) w.heap.size X := by
    refine ⟨fun j hj => ?_, fun j hj => World.frozen?_alloc_new _ _ _ _, by simp⟩
    rw [World.cell?_alloc_new]
    have c : j = 0 ∨ j = 1 ∨ j = 2 ∨ j = 3 ∨ j = 4 ∨ j = 5 ∨ j = 6 ∨ j = 7 ∨ j = 8 ∨ j = 9 := by omega
    rcases c with rfl | rfl | rfl | rfl | rfl | rfl | rfl | rfl | rfl | rfl <;> rfl
  replace hR := Lib.hid (hR.form (g := turned X 0) fun j _ => by unfold turned; rw [if_neg (by omega)])
  replace hS := Lib.hid hS
  go_enter Tryd.func45, Tryd.ntmps45
  go_wp2
  go_loopw [6, 3, 4] (fun i _ _ wr => ∃ k : Nat, k ≤ 10 ∧ i = .int .i64 k ∧ Hid (RowX wr w.heap.size (turned X k)) ∧ Hid (Below w.heap.size w wr)) (fun i _ _ _ => 10 - (intOf i).toNat)
  case atStart => exact ⟨0, Nat.zero_le _, rfl, hR, Lib.hid (grow (here _) _)⟩
  case round =>
    obtain ⟨k, hk, rfl, R, A⟩ := hrel
    clear hR
    by_cases hlt : k < 10
    · clear hS
      have ix := fun w => ix_all X k hlt w
      by_cases d0 : 48 ≤ X k
      · by_cases d1 : X k ≤ 57
        · have R' := Lib.hid (turned_yes R.out hlt ⟨d0, d1⟩)
          have A' : Hid (Below w.heap.size w (wr.setCell ⟨w.heap.size, k, none⟩ (.int .u8 48))) := Lib.hid (A.out.setCell (Nat.le_refl _) _)
          have cc := R.out.c k hlt
          have cf := R.out.fr k hlt
          generalize turned X k k = y at *
          clear R A
          go_wp2
          go_roundw
          case rel => exact ⟨k + 1, by omega, by go_num, R', A'⟩
          case measure => simp [intOf]; omega
        · have R' := Lib.hid (turned_no R.out (k := k) (by omega))
          clear R
          go_wp2
          go_roundw
          case rel => exact ⟨k + 1, by omega, by go_num, R', A⟩
          case measure => simp [intOf]; omega
      · have R' := Lib.hid (turned_no R.out (k := k) (by omega))
        clear R
        go_wp2
        go_roundw
        case rel => exact ⟨k + 1, by omega, by go_num, R', A⟩
        case measure => simp [intOf]; omega
    · obtain rfl : k = 10 := by omega
      have hc := run_convert_bytes_arg (P := Tryd.prog) wr 65 5 Tryd.underlying65 Tryd.underlying5 w.heap.size 0 10 10 ((List.range 10).map fun j => nrm (X j)) (by simp) (fun i hi => by
        rw [Nat.zero_add, R.out.c i hi]
        unfold turned; rw [if_pos hi]
        have c : i = 0 ∨ i = 1 ∨ i = 2 ∨ i = 3 ∨ i = 4 ∨ i = 5 ∨ i = 6 ∨ i = 7 ∨ i = 8 ∨ i = 9 := by omega
        rcases c with rfl | rfl | rfl | rfl | rfl | rfl | rfl | rfl | rfl | rfl <;> rfl) 9 Tryd.underlying9
      generalize strOfNums ((List.range 10).map fun j => nrm (X j)) = S at *
      cases ok
      · have hne : ¬ S = ⟨#[48, 48, 48, 48, 45, 87, 48, 48, 45, 48]⟩ := fun e => by have := hS.out.1 e; simp at this
        have hne2 : (S.toList == [48, 48, 48, 48, 45, 87, 48, 48, 45, 48]) = false := by
          rw [beq_eq_false_iff_ne, ByteArray.toList_eq]
          exact fun e => hne (by apply ByteArray.ext; apply Array.toList_inj.1; exact e)
        clear hS R hX
        go_wp2
        go_ret
        exact ⟨rfl, A.out⟩
      · have he : S = ⟨#[48, 48, 48, 48, 45, 87, 48, 48, 45, 48]⟩ := hS.out.2 rfl
        subst he
        clear hS R hX
        go_wp2
        go_ret
        exact ⟨rfl, A.out⟩
theorem ktext_no (Y W D : Int) (hY : I64 Y) (hW : I64 W) (hD : I64 D) (h : knwB Y W D = false) (w : World) :
    Calls Tryd.prog 26 #[.agg #[.int .i64 Y, .int .i64 W, .int .i64 D]] w fun e w' => e = .returned (.string ⟨#[]⟩) ∧ Below w.heap.size w w' := by
  have HY := fun w => kyear Y hY w
  have HD := fun w => kwday D hD w
  obtain ⟨h0, h1⟩ := hW
  unfold knwB at h
  obtain ⟨a, ha⟩ : ∃ a, yrB Y = a := ⟨_, rfl⟩
  obtain ⟨d, hd⟩ : ∃ a, (decide (1 ≤ D) && decide (D ≤ 7)) = a := ⟨_, rfl⟩
  obtain ⟨b, hb⟩ : ∃ a, decide (W < 1) = a := ⟨_, rfl⟩
  obtain ⟨c, hc⟩ : ∃ a, decide (54 < W) = a := ⟨_, rfl⟩
  have b' : decide (1 ≤ W) = !b := by rw [← hb, ← decide_not]; exact decide_eq_decide.2 (by omega)
  have c' : decide (W ≤ 54) = !c := by rw [← hc, ← decide_not]; exact decide_eq_decide.2 (by omega)
  rw [ha, hd, b', c'] at h
  rw [ha] at HY
  rw [hd] at HD
  replace HY := Lib.hid HY
  replace HD := Lib.hid HD
  clear ha hd b' c'
  cases a <;> cases b <;> cases c <;> cases d <;> (try cases h)
  all_goals
    go_enter Tryd.func26, Tryd.ntmps26
    go_wp2_with fail
    refine (HY.out _).mono ?_
    rintro e w1 ⟨rfl, rfl⟩
    first
    | (go_wp2_with fail
       refine (HD.out _).mono ?_
       rintro e w2 ⟨rfl, rfl⟩
       go_wp2
       go_ret
       exact ⟨rfl, grow (here _) _⟩)
    | (go_wp2
       go_ret
       exact ⟨rfl, grow (here _) _⟩)
set_option maxHeartbeats 1000000 in
theorem ktext_yes (Y W D : Int) (h : knwB Y W D = true) (w : World) (hp : Tab w) :
    Calls Tryd.prog 26 #[.agg #[.int .i64 Y, .int .i64 W, .int .i64 D]] w fun e w' => e = .returned (.string ⟨(textW Y W D).toArray⟩) ∧ Below w.heap.size w w' := by
  obtain ⟨⟨y0, y1⟩, ⟨w0, w1⟩, d0, d1⟩ := knwB_iff.1 h
  have HV := fun w => kyear Y ⟨by omega, by omega⟩ w
  rw [yrB_iff.2 ⟨y0, y1⟩] at HV
  have HK := fun w => kwday D ⟨by omega, by omega⟩ w
  rw [decide_eq_true d0, decide_eq_true d1] at HK
  replace HV := Lib.hid HV
  replace HK := Lib.hid HK
  have HY : Hid (∀ w, Tab w → Calls Tryd.prog 48 #[.int .i64 Y, .int .i64 4] w fun e w' => e = .returned (.string ⟨(digL 4 Y).toArray⟩) ∧ Below w.heap.size w w') := fun w ht => ctext Y 3 (by omega) (by omega) (by omega) w ht
  have HM : Hid (∀ w, Tab w → Calls Tryd.prog 48 #[.int .i64 W, .int .i64 2] w fun e w' => e = .returned (.string ⟨(digL 2 W).toArray⟩) ∧ Below w.heap.size w w') := fun w ht => ctext W 1 (by omega) (by omega) (by omega) w ht
  have HD : Hid (∀ w, Tab w → Calls Tryd.prog 48 #[.int .i64 D, .int .i64 1] w fun e w' => e = .returned (.string ⟨(digL 1 D).toArray⟩) ∧ Below w.heap.size w w') := fun w ht => ctext D 0 (by omega) (by omega) (by omega) w ht
  have HT : Hid (textW Y W D = digL 4 Y ++ [45, 87] ++ digL 2 W ++ [45] ++ digL 1 D) := by show _ = _; unfold textW; rw [if_pos h]
  have ly := digL_length 4 Y
  have lm := digL_length 2 W
  have ld := digL_length 1 D
  generalize digL 4 Y = a at *
  generalize digL 2 W = b at *
  generalize digL 1 D = c at *
  have ly' : a.length ≤ 4 := by omega
  have lm' : b.length ≤ 2 := by omega
  have ld' : c.length ≤ 1 := by omega
  replace hp := Lib.hid hp
  clear ly lm ld h
  go_enter Tryd.func26, Tryd.ntmps26
  obtain ⟨w1, hw1⟩ : ∃ w1 : World, w.alloc (.cells #[.int .i64 Y, .int .i64 W, .int .i64 D] 26) = w1 := ⟨_, rfl⟩
  have A1 : Hid (Below w.heap.size w w1) := by rw [← hw1]; exact grow (here _) _
  have B1 : Hid (Box w1 w.heap.size (.int .i64 Y) (.int .i64 W) (.int .i64 D)) := by rw [← hw1]; exact Box.new (here _)
  obtain ⟨c0, c1, c2, z⟩ := B1.out
  go_wp2_with fail
  clear hw1
  refine (HV.out _).mono ?_
  rintro e w2 ⟨rfl, rfl⟩
  go_wp2_with fail
  refine (HK.out _).mono ?_
  rintro e w2 ⟨rfl, rfl⟩
  have HP : Hid (∀ x : Kept w1, Tab x.wd) := fun x => tab_below hp.out (down A1.out x.ok)
  have k0 : ∀ x : Kept w1, x.wd.cell? ⟨w.heap.size, 0, none⟩ = some (.int .i64 Y) := fun x => (B1.out.keep x.ok).c0
  have k1 : ∀ x : Kept w1, x.wd.cell? ⟨w.heap.size, 1, none⟩ = some (.int .i64 W) := fun x => (B1.out.keep x.ok).c1
  have k2 : ∀ x : Kept w1, x.wd.cell? ⟨w.heap.size, 2, none⟩ = some (.int .i64 D) := fun x => (B1.out.keep x.ok).c2
  go_wp2
  refine wp_region_kept (by kernel_rfl) (by kernel_rfl) ?_
  repeat (go_big_quiet_step ((go_at_call 48; first | (with_reducible exact kept_call _ (HY.out _ (HP.out _))) | (with_reducible exact kept_call _ (HM.out _ (HP.out _))) | exact kept_call _ (HD.out _ (HP.out _)))))
  refine wpQuiet_nil ?_
  intro _ hx
  obtain ⟨⟨w3, hb3⟩, hw⟩ := hx
  subst hw
  go_wp2
  go_ret
  refine ⟨?_, down A1.out hb3⟩
  rw [HT.out, ← ba_append, ← ba_append, ← ba_append, ← ba_append]
  rfl
theorem ktext (Y W D : Int) (hY : I64 Y) (hW : I64 W) (hD : I64 D) (w : World) (hp : Tab w) :
    Calls Tryd.prog 26 #[.agg #[.int .i64 Y, .int .i64 W, .int .i64 D]] w fun e w' => e = .returned (.string ⟨(textW Y W D).toArray⟩) ∧ Below w.heap.size w w' := by
  by_cases h : knwB Y W D = true
  · exact ktext_yes Y W D h w hp
  · have e : textW Y W D = [] := by unfold textW; rw [if_neg h]
    rw [e]
    exact ktext_no Y W D hY hW hD (by simpa using h) w
end Go.Proofs.YtimpaaimdjlhjaaDoor
