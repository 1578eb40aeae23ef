/- Contracts of the reference's texts of dates of weeks. -/
import Derived.Test.YtimpaaimdjlhjaaDoorWkQ
namespace Go.Proofs.YtimpaaimdjlhjaaDoor
open Go.RowKit
set_option linter.unusedVariables false

theorem rknown (Y W D : Int) (hY : I64 Y) (hW : I64 W) (hD : I64 D) (w : World) :
    Calls Tryd.prog 47 #[.agg #[.int .i64 Y, .int .i64 W, .int .i64 D]] w fun e w' => e = .returned (.bool (knwB Y W D)) ∧ Below w.heap.size w w' := by
  obtain ⟨h0, h1⟩ := hY
  obtain ⟨h2, h3⟩ := hW
  obtain ⟨h4, h5⟩ := hD
  unfold knwB
  rw [yrB_eq]
  by_cases a1 : 1 ≤ Y
  · by_cases a2 : Y ≤ 9999
    · by_cases b1 : 1 ≤ W
      · by_cases b2 : W ≤ 54
        · by_cases c1 : 1 ≤ D
          · by_cases c2 : D ≤ 7
            · rw [decide_eq_true a1, decide_eq_true a2, decide_eq_true b1, decide_eq_true b2, decide_eq_true c1, decide_eq_true c2]
              go_enter Tryd.func47, Tryd.ntmps47
              go_wp2
              go_ret
              exact ⟨rfl, grow (here _) _⟩
            · rw [decide_eq_false c2, Bool.and_false, Bool.and_false]
              go_enter Tryd.func47, Tryd.ntmps47
              go_wp2
              go_ret
              exact ⟨rfl, grow (here _) _⟩
          · rw [decide_eq_false c1, Bool.false_and, Bool.and_false]
            go_enter Tryd.func47, Tryd.ntmps47
            go_wp2
            go_ret
            exact ⟨rfl, grow (here _) _⟩
        · rw [decide_eq_false b2, Bool.and_false, Bool.and_false, Bool.false_and]
          go_enter Tryd.func47, Tryd.ntmps47
          go_wp2
          go_ret
          exact ⟨rfl, grow (here _) _⟩
      · rw [decide_eq_false b1, Bool.false_and, Bool.and_false, Bool.false_and]
        go_enter Tryd.func47, Tryd.ntmps47
        go_wp2
        go_ret
        exact ⟨rfl, grow (here _) _⟩
    · rw [decide_eq_false a2, Bool.and_false, Bool.false_and, Bool.false_and]
      go_enter Tryd.func47, Tryd.ntmps47
      go_wp2
      go_ret
      exact ⟨rfl, grow (here _) _⟩
  · rw [decide_eq_false a1, Bool.false_and, Bool.false_and, Bool.false_and]
    go_enter Tryd.func47, Tryd.ntmps47
    go_wp2
    go_ret
    exact ⟨rfl, grow (here _) _⟩
set_option maxHeartbeats 400000 in
theorem rdigits (n : Int) (k : Nat) (n0 : 0 ≤ n) (n1 : n ≤ 1000000) (k1 : k ≤ 10) (w : World) :
    Calls Tryd.prog 49 #[.int .i64 n, .int .i64 k] w fun e w' => e = .returned (.string ⟨(digL k n).toArray⟩) ∧ Below w.heap.size w w' := by
  go_enter Tryd.func49, Tryd.ntmps49
  go_wp2
  go_loopw [0, 5, 6] (fun a s i wr => ∃ (j : Nat) (x : Int) (l : List UInt8), j ≤ k ∧ 0 ≤ x ∧ x ≤ 1000000 ∧ l.length ≤ 10 ∧ Hid (digL (k - j) x ++ l = digL k n ∧ l.length = j) ∧ a = .int .i64 x ∧ s = .string ⟨l.toArray⟩ ∧ i = .int .i64 j ∧ Hid (Below w.heap.size w wr)) (fun _ _ i _ => k - (intOf i).toNat)
  case atStart => exact ⟨0, n, [], Nat.zero_le _, n0, n1, by simp, ⟨by simp, rfl⟩, rfl, rfl, rfl, Lib.hid (here w)⟩
  case round =>
    obtain ⟨j, x, l, hj, x0, x1, hl, HI, rfl, rfl, rfl, A⟩ := hrel
    by_cases z : j < k
    · have kz : decide ((j : Int) < (k : Int)) = true := decide_eq_true (by omega)
      obtain ⟨D, hD⟩ : ∃ D, x % 10 = D := ⟨_, rfl⟩
      have D0 : 0 ≤ D := by omega
      have D1 : D ≤ 9 := by omega
      have HS : Hid (digL (k - (j + 1)) (x / 10) ++ (dgt D :: l) = digL k n ∧ (dgt D :: l).length = j + 1) := by
        obtain ⟨h, h2⟩ := HI.out
        refine ⟨?_, by rw [List.length_cons, h2]⟩
        rw [← h, show k - j = (k - (j + 1)) + 1 by omega]
        show _ = (digL (k - (j + 1)) (x / 10) ++ [dgt (x % 10)]) ++ l
        rw [hD, List.append_assoc]; rfl
      have hl2 : l.length + 1 ≤ 10 := by have := HI.out.2; omega
      clear HI
      have kj : ((j : Int) + 1).toNat = j + 1 := by omega
      have hc := run_convert_bytes_arg (P := Tryd.prog) (wr.alloc (.cells #[.int .u8 (48 + D)] 5)) 65 5 Tryd.underlying65 Tryd.underlying5 wr.heap.size 0 1 1 [48 + D] rfl (fun i hi => by
        obtain rfl : i = 0 := by omega
        rw [World.cell?_alloc_new]; rfl) 9 Tryd.underlying9
      have hs : strOfNums [48 + D] = ⟨#[dgt D]⟩ := by
        show (⟨#[UInt8.ofNat (48 + D).toNat]⟩ : ByteArray) = ⟨#[UInt8.ofNat (48 + D.toNat)]⟩
        rw [show (48 + D).toNat = 48 + D.toNat by omega]
      rw [hs] at hc
      have A' := Lib.hid (grow A.out (.cells #[.int .u8 (48 + D)] 5))
      go_wp2
      go_roundw
      case rel => exact ⟨j + 1, x / 10, dgt D :: l, by omega, by omega, by omega, by rw [List.length_cons]; exact hl2, HS, rfl, str_cons _ _, by go_num, A'⟩
      case measure => simp [intOf]; omega
    · have kz : decide ((j : Int) < (k : Int)) = false := decide_eq_false (by omega)
      have HE : Hid (digL k n = l) := by
        obtain ⟨h, h2⟩ := HI.out
        show digL k n = l
        rw [← h, show k - j = 0 by omega]; rfl
      clear HI
      go_wp2
      go_ret
      exact ⟨by rw [HE.out]; rfl, A.out⟩
theorem rtext_no (Y W D : Int) (hY : I64 Y) (hW : I64 W) (hD : I64 D) (h : knwB Y W D = false) (w : World) :
    Calls Tryd.prog 27 #[.agg #[.int .i64 Y, .int .i64 W, .int .i64 D]] w fun e w' => e = .returned (.string ⟨#[]⟩) ∧ Below w.heap.size w w' := by
  have HV := fun w => rknown Y W D hY hW hD w
  rw [h] at HV
  replace HV := Lib.hid HV
  clear h
  go_enter Tryd.func27, Tryd.ntmps27
  go_wp2_with fail
  refine (HV.out _).mono ?_
  rintro e w1 ⟨rfl, hb⟩
  have A1 := Lib.hid (down (grow (here w) _) hb)
  clear hb
  go_wp2
  go_ret
  exact ⟨rfl, A1.out⟩
set_option maxHeartbeats 1000000 in
theorem rtext_yes (Y W D : Int) (h : knwB Y W D = true) (w : World) :
    Calls Tryd.prog 27 #[.agg #[.int .i64 Y, .int .i64 W, .int .i64 D]] w fun e w' => e = .returned (.string ⟨(textW Y W D).toArray⟩) ∧ Below w.heap.size w w' := by
  obtain ⟨⟨y0, y1⟩, ⟨w0, w1⟩, d0, d1⟩ := knwB_iff.1 h
  have HV := fun w => rknown Y W D ⟨by omega, by omega⟩ ⟨by omega, by omega⟩ ⟨by omega, by omega⟩ w
  rw [h] at HV
  replace HV := Lib.hid HV
  have HY : Hid (∀ w, Calls Tryd.prog 49 #[.int .i64 Y, .int .i64 4] w fun e w' => e = .returned (.string ⟨(digL 4 Y).toArray⟩) ∧ Below w.heap.size w w') := fun w => rdigits Y 4 (by omega) (by omega) (by omega) w
  have HM : Hid (∀ w, Calls Tryd.prog 49 #[.int .i64 W, .int .i64 2] w fun e w' => e = .returned (.string ⟨(digL 2 W).toArray⟩) ∧ Below w.heap.size w w') := fun w => rdigits W 2 (by omega) (by omega) (by omega) w
  have HD : Hid (∀ w, Calls Tryd.prog 49 #[.int .i64 D, .int .i64 1] w fun e w' => e = .returned (.string ⟨(digL 1 D).toArray⟩) ∧ Below w.heap.size w w') := fun w => rdigits D 1 (by omega) (by omega) (by omega) w
  have HT : Hid (textW Y W D = digL 4 Y ++ [45, 87] ++ digL 2 W ++ [45] ++ digL 1 D) := by show _ = _; unfold textW; rw [if_pos h]
  have ly := digL_length 4 Y
  have lm := digL_length 2 W
  have ld := digL_length 1 D
  generalize digL 4 Y = a at *
  generalize digL 2 W = b at *
  generalize digL 1 D = c at *
  have ly' : a.length ≤ 4 := by omega
  have lm' : b.length ≤ 2 := by omega
  have ld' : c.length ≤ 1 := by omega
  clear ly lm ld h
  go_enter Tryd.func27, Tryd.ntmps27
  go_wp2_with fail
  refine (HV.out _).mono ?_
  rintro e w1 ⟨rfl, hb⟩
  have A1 := Lib.hid (down (grow (here w) _) hb)
  have B1 := Lib.hid (Box.new hb)
  have k0 : ∀ x : Kept w1, x.wd.cell? ⟨w.heap.size, 0, none⟩ = some (.int .i64 Y) := fun x => (B1.out.keep x.ok).c0
  have k1 : ∀ x : Kept w1, x.wd.cell? ⟨w.heap.size, 1, none⟩ = some (.int .i64 W) := fun x => (B1.out.keep x.ok).c1
  have k2 : ∀ x : Kept w1, x.wd.cell? ⟨w.heap.size, 2, none⟩ = some (.int .i64 D) := fun x => (B1.out.keep x.ok).c2
  clear hb
  go_wp2
  refine wp_region_kept (by kernel_rfl) (by kernel_rfl) ?_
  repeat (go_big_quiet_step ((go_at_call 49; first | (with_reducible exact kept_call _ (HY.out _)) | (with_reducible exact kept_call _ (HM.out _)) | exact kept_call _ (HD.out _))))
  refine wpQuiet_nil ?_
  intro _ hx
  obtain ⟨⟨w3, hb3⟩, hw⟩ := hx
  subst hw
  go_wp2
  go_ret
  refine ⟨?_, down A1.out hb3⟩
  rw [HT.out, ← ba_append, ← ba_append, ← ba_append, ← ba_append]
  rfl
theorem rtext (Y W D : Int) (hY : I64 Y) (hW : I64 W) (hD : I64 D) (w : World) :
    Calls Tryd.prog 27 #[.agg #[.int .i64 Y, .int .i64 W, .int .i64 D]] w fun e w' => e = .returned (.string ⟨(textW Y W D).toArray⟩) ∧ Below w.heap.size w w' := by
  by_cases h : knwB Y W D = true
  · exact rtext_yes Y W D h w
  · have e : textW Y W D = [] := by unfold textW; rw [if_neg h]
    rw [e]
    exact rtext_no Y W D hY hW hD (by simpa using h) w
end Go.Proofs.YtimpaaimdjlhjaaDoor
