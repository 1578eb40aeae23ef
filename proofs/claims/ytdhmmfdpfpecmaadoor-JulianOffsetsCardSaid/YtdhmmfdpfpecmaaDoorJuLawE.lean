/- The walks of JulianOffsets and JulianWeekdays: the Go text returns true, at every input. -/
import Derived.Test.YtdhmmfdpfpecmaaDoorJuAwake
namespace Go.Proofs.YtdhmmfdpfpecmaaDoor
open Go.RowKit
set_option linter.unusedVariables false

namespace JulianOffsets
set_option maxRecDepth 100000 in
set_option maxHeartbeats 2000000 in
theorem no (n : Int) (hn : I64 n) (h : n < -719162 ∨ 2932897 ≤ n) (w : World) (ht : Tabs w) :
    Calls Tryd.prog 8 #[.int .i64 n] w fun e w' => e = .returned (.bool true) ∧ Below w.heap.size w w' := by
  have HO := Lib.hid (fun w => ujoff_no n hn h w)
  have HR := Lib.hid (fun w => right_no n hn h w)
  clear h
  have AW := Lib.hid (fun w ht => awake_all w ht)
  replace ht := Lib.hid ht
  go_enter Tryd.func8, Tryd.ntmps8
  go_wp2_with fail
  refine (AW.out _ (ht.out.below (here w))).mono ?_
  rintro e w1 ⟨rfl, hb⟩
  have A1 := Lib.hid (down (here w) hb)
  clear hb
  go_wp2_with fail
  refine (HO.out _).mono ?_
  rintro e w2 ⟨rfl, hb⟩
  have A2 := Lib.hid (down A1.out hb)
  clear hb A1
  go_wp2_with fail
  refine (HR.out _).mono ?_
  rintro e x1 ⟨rfl, rfl⟩
  go_wp2
  go_ret
  exact ⟨rfl, by first | exact A2.out | exact grow A2.out _ | exact below_drewN A2.out _ | exact grow (grow A2.out _) _ | exact grow (grow (grow A2.out _) _) _⟩
set_option maxRecDepth 100000 in
set_option maxHeartbeats 2000000 in
theorem yes (n y m d yy o : Int) (h : vld y m d = true) (he : dayN y m d = n) (hm : m < 3 ∧ yy = y - 1 ∨ 3 ≤ m ∧ yy = y) (ho : offN yy = o) (w : World) (ht : Tabs w) :
    Calls Tryd.prog 8 #[.int .i64 n] w fun e w' => e = .returned (.bool true) ∧ Below w.heap.size w w' := by
  obtain ⟨r0, r1⟩ := day_range h
  rw [he] at r0 r1
  have HR := Lib.hid (fun w => right_yes n r0 r1 w)
  have HO := fun w => ujoff_yes n y m d yy h he hm w
  have RO := fun w => rjoff n y m d yy h he hm w
  rw [ho] at HO RO
  have HG := fun w => cdate_yes n y m d h he w
  have HJ := fun w ht => ujday_yes y m d (vld_jvld h) w ht
  have jd := jday_off h hm
  rw [he, ho] at jd
  rw [jd] at HJ
  have ob : -800 ≤ o ∧ o ≤ 800 := by
    obtain ⟨y0, y1, -, -, -, -⟩ := vld_bd h
    have b := offN_bd (yy := yy) (by omega) (by omega)
    omega
  obtain ⟨ob0, ob1⟩ := ob
  have t : dyB (n + o) = true ∨ dyB (n + o) = false ∧ decide (n + o < -719162) = true ∨ dyB (n + o) = false ∧ decide (n + o < -719162) = false ∧ decide (2932897 ≤ n + o) = true := by
    by_cases k : -719162 ≤ n + o ∧ n + o < 2932897
    · exact .inl (dyB_iff.2 k)
    · have z := jdyB_no k
      by_cases l : n + o < -719162
      · exact .inr (.inl ⟨z, decide_eq_true l⟩)
      · exact .inr (.inr ⟨z, decide_eq_false l, decide_eq_true (by omega)⟩)
  clear h he hm ho jd
  have AW := Lib.hid (fun w ht => awake_all w ht)
  replace ht := Lib.hid ht
  replace HO := Lib.hid HO
  replace RO := Lib.hid RO
  replace HG := Lib.hid HG
  rcases t with k | ⟨k, k2⟩ | ⟨k, k2, k3⟩
  all_goals
    rw [k] at HJ
    clear k
    replace HJ := Lib.hid HJ
    go_enter Tryd.func8, Tryd.ntmps8
    go_wp2_with fail
    refine (AW.out _ (ht.out.below (here w))).mono ?_
    rintro e w1 ⟨rfl, hb⟩
    have A1 := Lib.hid (down (here w) hb)
    clear hb
    go_wp2_with fail
    refine (HO.out _).mono ?_
    rintro e w2 ⟨rfl, hb⟩
    have A2 := Lib.hid (down A1.out hb)
    clear hb A1
    go_wp2_with fail
    refine (HR.out _).mono ?_
    rintro e x1 ⟨rfl, rfl⟩
    go_wp2_with fail
    refine (HG.out _).mono ?_
    rintro e w3 ⟨rfl, hb⟩
    have A3 := Lib.hid (down A2.out hb)
    clear hb A2
    go_wp2_with fail
    refine (RO.out _).mono ?_
    rintro e w4 ⟨rfl, hb⟩
    have A4 := Lib.hid (down (grow A3.out _) hb)
    have G4 := Lib.hid (Box.new hb)
    clear hb A3
    obtain ⟨g4_0, g4_1, g4_2, g4_z⟩ := G4.out
    go_wp2_with fail
    refine (HJ.out _ (ht.out.below A4.out).jl).mono ?_
    rintro e w5 ⟨rfl, hb⟩
    have A5 := Lib.hid (down A4.out hb)
    have G5 := Lib.hid (G4.out.keep hb)
    clear hb A4 G4 g4_0 g4_1 g4_2 g4_z
    obtain ⟨g5_0, g5_1, g5_2, g5_z⟩ := G5.out
    go_wp2
    go_ret
    exact ⟨rfl, by first | exact A5.out | exact grow A5.out _ | exact below_drewN A5.out _ | exact grow (grow A5.out _) _ | exact grow (grow (grow A5.out _) _) _⟩
theorem walk (n : Int) (hn : (Lit.int .i64 n).wf = true) (w : World) (ht : Tabs w) :
    Calls Tryd.prog 8 #[.int .i64 n] w fun e w' => e = .returned (.bool true) ∧ Below w.heap.size w w' := by
  by_cases h : n < -719162 ∨ 2932897 ≤ n
  · exact no n (i64_wf hn) h w ht
  · obtain ⟨y, m, d, hv, he⟩ := date_of (n := n) (by omega) (by omega)
    by_cases k : m < 3
    · exact yes n y m d _ _ hv he (.inl ⟨k, rfl⟩) rfl w ht
    · exact yes n y m d _ _ hv he (.inr ⟨by omega, rfl⟩) rfl w ht
end JulianOffsets
namespace JulianWeekdays
set_option maxRecDepth 100000 in
set_option maxHeartbeats 2000000 in
theorem no (n : Int) (hn : I64 n) (h : n < -719162 ∨ 2932897 ≤ n) (w : World) (ht : Tabs w) :
    Calls Tryd.prog 11 #[.int .i64 n] w fun e w' => e = .returned (.bool true) ∧ Below w.heap.size w w' := by
  have HR := Lib.hid (fun w => right_no n hn h w)
  clear h
  have AW := Lib.hid (fun w ht => awake_all w ht)
  replace ht := Lib.hid ht
  go_enter Tryd.func11, Tryd.ntmps11
  go_wp2_with fail
  refine (AW.out _ (ht.out.below (here w))).mono ?_
  rintro e w1 ⟨rfl, hb⟩
  have A1 := Lib.hid (down (here w) hb)
  clear hb
  go_wp2_with fail
  refine (HR.out _).mono ?_
  rintro e x1 ⟨rfl, rfl⟩
  go_wp2_with fail
  refine (AW.out _ (ht.out.below A1.out)).mono ?_
  rintro e w2 ⟨rfl, hb⟩
  have A2 := Lib.hid (down A1.out hb)
  clear hb A1
  go_wp2
  go_ret
  exact ⟨rfl, by first | exact A2.out | exact grow A2.out _ | exact below_drewN A2.out _ | exact grow (grow A2.out _) _ | exact grow (grow (grow A2.out _) _) _⟩
set_option maxRecDepth 100000 in
set_option maxHeartbeats 2000000 in
theorem yes (n : Int) (r0 : -719162 ≤ n) (r1 : n < 2932897) (w : World) (ht : Tabs w) :
    Calls Tryd.prog 11 #[.int .i64 n] w fun e w' => e = .returned (.bool true) ∧ Below w.heap.size w w' := by
  have HR := Lib.hid (fun w => right_yes n r0 r1 w)
  have HN := Lib.hid (fun w => ujnumber_in n r0 r1 w)
  have HM := fun w => cmod7 (n + 2440588) ⟨by omega, by omega⟩ w
  have HW := fun w => cweekday n ⟨by omega, by omega⟩ w
  rw [← jnumber r0 r1] at HW
  have b : 0 ≤ (n + 2440588) % 7 ∧ (n + 2440588) % 7 ≤ 6 := by omega
  generalize (n + 2440588) % 7 = x at *
  obtain ⟨b0, b1⟩ := b
  have AW := Lib.hid (fun w ht => awake_all w ht)
  replace ht := Lib.hid ht
  replace HM := Lib.hid HM
  replace HW := Lib.hid HW
  go_enter Tryd.func11, Tryd.ntmps11
  go_wp2_with fail
  refine (AW.out _ (ht.out.below (here w))).mono ?_
  rintro e w1 ⟨rfl, hb⟩
  have A1 := Lib.hid (down (here w) hb)
  clear hb
  go_wp2_with fail
  refine (HR.out _).mono ?_
  rintro e x1 ⟨rfl, rfl⟩
  go_wp2_with fail
  refine (HN.out _).mono ?_
  rintro e x2 ⟨rfl, rfl⟩
  go_wp2_with fail
  refine (HM.out _).mono ?_
  rintro e y1 ⟨rfl, dn1, rfl⟩
  go_wp2_with fail
  refine (HW.out _).mono ?_
  rintro e y2 ⟨rfl, dn2, rfl⟩
  go_wp2
  go_ret
  exact ⟨rfl, by first | exact A1.out | exact grow A1.out _ | exact below_drewN A1.out _ | exact grow (grow A1.out _) _ | exact grow (grow (grow A1.out _) _) _⟩
theorem walk (n : Int) (hn : (Lit.int .i64 n).wf = true) (w : World) (ht : Tabs w) :
    Calls Tryd.prog 11 #[.int .i64 n] w fun e w' => e = .returned (.bool true) ∧ Below w.heap.size w w' := by
  by_cases h : n < -719162 ∨ 2932897 ≤ n
  · exact no n (i64_wf hn) h w ht
  · exact yes n (by omega) (by omega) w ht
end JulianWeekdays
end Go.Proofs.YtdhmmfdpfpecmaaDoor
