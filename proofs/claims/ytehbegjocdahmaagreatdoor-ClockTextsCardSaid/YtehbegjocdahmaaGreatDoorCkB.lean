/- Contracts of package clock and its reference: moments, and instants of moments. -/
import Derived.Test.YtehbegjocdahmaaGreatDoorCkA

import Derived.Test.YtehbegjocdahmaaGreatDoorLRefI

namespace Go.Proofs.YtehbegjocdahmaaGreatDoor

open Go.RowKit

set_option linter.unusedVariables false

set_option maxHeartbeats 1000000 in
theorem kvm (y o d h m s : Int) (hy : I64 y) (ho : I64 o) (hd : I64 d) (hh : I64 h) (hm : I64 m) (hs : I64 s) (w : World) (ht : Lens w) :
    Calls Tryz.prog 14 #[.agg #[.int .i64 y, .int .i64 o, .int .i64 d, .int .i64 h, .int .i64 m, .int .i64 s]] w fun e w' => e = .returned (.bool (vld y o d && vldT h m s)) ∧ Below w.heap.size w w' := by
  have HV := Lib.hid (fun w ht => cvalid y o d hy ho hd w ht)
  have HT := Lib.hid (fun w => kvt h m s hh hm hs w)
  generalize vld y o d = V at *
  generalize vldT h m s = T at *
  replace ht := Lib.hid ht
  clear hy ho hd hh hm hs
  cases V
  · go_enter Tryz.func14, Tryz.ntmps14
    go_wp2_with fail
    refine (HV.out _ (lens_alloc ht.out _)).mono ?_
    rintro e w1 ⟨rfl, hb⟩
    have A1 := Lib.hid (down (grow (here w) _) hb)
    clear hb
    go_wp2
    go_ret
    exact ⟨rfl, A1.out⟩
  · go_enter Tryz.func14, Tryz.ntmps14
    go_wp2_with fail
    refine (HV.out _ (lens_alloc ht.out _)).mono ?_
    rintro e w1 ⟨rfl, hb⟩
    have A1 := Lib.hid (down (grow (here w) _) hb)
    have B1 := Six.new hb
    clear hb
    obtain ⟨c0, c1, c2, c3, c4, c5, z⟩ := B1
    go_wp2_with fail
    refine (HT.out _).mono ?_
    rintro e w2 ⟨rfl, hb⟩
    have A2 := Lib.hid (down A1.out hb)
    clear hb
    go_wp2
    go_ret
    exact ⟨rfl, A2.out⟩
set_option maxHeartbeats 1000000 in
theorem rvm (y o d h m s : Int) (hy : I64 y) (ho : I64 o) (hd : I64 d) (hh : I64 h) (hm : I64 m) (hs : I64 s) (w : World) :
    Calls Tryz.prog 6 #[.agg #[.int .i64 y, .int .i64 o, .int .i64 d, .int .i64 h, .int .i64 m, .int .i64 s]] w fun e w' => e = .returned (.bool (vld y o d && vldT h m s)) ∧ Below w.heap.size w w' := by
  have HV := Lib.hid (fun w => refvalid y o d hy ho hd w)
  have HT := Lib.hid (fun w => rvt h m s hh hm hs w)
  generalize vld y o d = V at *
  generalize vldT h m s = T at *
  clear hy ho hd hh hm hs
  cases V
  · go_enter Tryz.func6, Tryz.ntmps6
    go_wp2_with fail
    refine (HV.out _).mono ?_
    rintro e w1 ⟨rfl, hb⟩
    have A1 := Lib.hid (down (grow (here w) _) hb)
    clear hb
    go_wp2
    go_ret
    exact ⟨rfl, A1.out⟩
  · go_enter Tryz.func6, Tryz.ntmps6
    go_wp2_with fail
    refine (HV.out _).mono ?_
    rintro e w1 ⟨rfl, hb⟩
    have A1 := Lib.hid (down (grow (here w) _) hb)
    have B1 := Six.new hb
    clear hb
    obtain ⟨c0, c1, c2, c3, c4, c5, z⟩ := B1
    go_wp2_with fail
    refine (HT.out _).mono ?_
    rintro e w2 ⟨rfl, hb⟩
    have A2 := Lib.hid (down A1.out hb)
    clear hb
    go_wp2
    go_ret
    exact ⟨rfl, A2.out⟩
theorem kmom_no (n : Int) (hn : I64 n) (h : insB n = false) (w : World) :
    Calls Tryz.prog 10 #[.int .i64 n] w fun e w' => e = .returned (.tuple #[.agg #[.int .i64 0, .int .i64 0, .int .i64 0, .int .i64 0, .int .i64 0, .int .i64 0], .int .i64 2]) ∧ Below w.heap.size w w' := by
  have HS := Lib.hid (fun w => ksplit_no n hn h w)
  clear h
  go_enter Tryz.func10, Tryz.ntmps10
  go_wp2_with fail
  refine (HS.out _).mono ?_
  rintro e w1 ⟨rfl, rfl⟩
  go_wp2
  exact bodyPost_ret (v := .tuple #[.agg #[.int .i64 0, .int .i64 0, .int .i64 0, .int .i64 0, .int .i64 0, .int .i64 0], .int .i64 2]) (by simp [results, Tryz.results10, go_sem]) rfl ⟨rfl, grow (here w) _⟩
set_option maxHeartbeats 1000000 in
theorem kmom_yes (n y o d h m s : Int) (v : vld y o d = true) (t : vldT h m s = true) (e : 86400 * dayN y o d + secT h m s = n) (w : World) :
    Calls Tryz.prog 10 #[.int .i64 n] w fun e w' => e = .returned (.tuple #[.agg #[.int .i64 y, .int .i64 o, .int .i64 d, .int .i64 h, .int .i64 m, .int .i64 s], .int .i64 0]) ∧ Below w.heap.size w w' := by
  have r := day_range v
  have q := secT_bd t
  have j := ins_join r.1 r.2 q.1 q.2
  have f := time_forth t
  rw [e] at j
  have HS := fun w => ksplit n j.1 w
  rw [j.2.1, j.2.2] at HS
  have HD := Lib.hid (fun w => cdate_yes (dayN y o d) y o d v rfl w)
  have HT := fun w => ktime (secT h m s) q.1 q.2 w
  rw [f.1, f.2.1, f.2.2] at HT
  replace HT := Lib.hid HT
  replace HS := Lib.hid HS
  generalize dayN y o d = D at *
  generalize secT h m s = S at *
  clear v t e r q j f
  go_enter Tryz.func10, Tryz.ntmps10
  go_wp2_with fail
  refine (HS.out _).mono ?_
  rintro e w1 ⟨rfl, k, rfl⟩
  have A1 := Lib.hid (below_drewN (grow (here w) (.cells #[.int .i64 0, .int .i64 0, .int .i64 0, .int .i64 0, .int .i64 0, .int .i64 0] 27)) k)
  have F1 := Lib.hid (Free6.new (below_drewN (here (w.alloc (.cells #[.int .i64 0, .int .i64 0, .int .i64 0, .int .i64 0, .int .i64 0, .int .i64 0] 27))) k))
  have S1 := Lib.hid (Six.new (below_drewN (here (w.alloc (.cells #[.int .i64 0, .int .i64 0, .int .i64 0, .int .i64 0, .int .i64 0, .int .i64 0] 27))) k))
  obtain ⟨w2, hw2⟩ : ∃ w2, (w.alloc (.cells #[.int .i64 0, .int .i64 0, .int .i64 0, .int .i64 0, .int .i64 0, .int .i64 0] 27)).drewN k = w2 := ⟨_, rfl⟩
  rw [hw2] at A1 F1 S1
  rw [hw2]
  clear hw2
  go_wp2_with fail
  refine (HD.out _).mono ?_
  rintro e w3 ⟨rfl, hb⟩
  have A3 := Lib.hid (down A1.out hb)
  have S3 := Lib.hid (S1.out.keep hb)
  have F3 := Lib.hid (F1.out.keep S1.out.lt hb)
  clear hb A1 F1 S1
  go_wp2_with fail
  refine (HT.out _).mono ?_
  rintro e w4 ⟨rfl, hb⟩
  have A4 := Lib.hid (down (grow A3.out _) hb)
  have S4 := Lib.hid ((S3.out.old _).keep hb)
  have F4 := Lib.hid ((F3.out.keep S3.out.lt (grow (here _) _)).keep (S3.out.old _).lt hb)
  have B4 := Lib.hid (Box.new hb)
  clear hb A3 F3 S3
  have A5 := Lib.hid (grow A4.out (.cells #[.int .i64 h, .int .i64 m, .int .i64 s] 25))
  have S5 := Lib.hid (S4.out.old (.cells #[.int .i64 h, .int .i64 m, .int .i64 s] 25))
  have F5 := Lib.hid (F4.out.keep S4.out.lt (grow (here _) (.cells #[.int .i64 h, .int .i64 m, .int .i64 s] 25)))
  have B5 := Lib.hid (B4.out.old (.cells #[.int .i64 h, .int .i64 m, .int .i64 s] 25))
  have C5 := Lib.hid (Box.new (here (w4.alloc (.cells #[.int .i64 h, .int .i64 m, .int .i64 s] 25))))
  clear A4 S4 F4 B4
  obtain ⟨w5, hw5⟩ : ∃ w5, w4.alloc (.cells #[.int .i64 h, .int .i64 m, .int .i64 s] 25) = w5 := ⟨_, rfl⟩
  rw [hw5] at A5 S5 F5 B5 C5
  obtain ⟨b0, b1, b2, zb⟩ := B5.out
  obtain ⟨c0, c1, c2, zc⟩ := C5.out
  obtain ⟨f0, f1, f2, f3, f4, f5⟩ := F5.out
  obtain ⟨g0, g1, g2, g3, g4, g5, -⟩ := S5.out
  go_wp2
  exact bodyPost_ret (v := .tuple #[.agg #[.int .i64 y, .int .i64 o, .int .i64 d, .int .i64 h, .int .i64 m, .int .i64 s], .int .i64 0]) (by simp [results, Tryz.results10, go_sem, g0, g1, g2, g3, g4, g5]) rfl ⟨rfl, Below.set6 A5.out (Nat.le_refl _) _ _ _ _ _ _⟩
end Go.Proofs.YtehbegjocdahmaaGreatDoor
