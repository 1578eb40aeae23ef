/- The contract of the reference's Parse. -/
import Derived.Test.YtehbegjocdahmaaGreatDoorZC

import Derived.Deep.RegionHeld3

namespace Go.Proofs.YtehbegjocdahmaaGreatDoor

open Go.RowKit

set_option linter.unusedVariables false

theorem rparse_form (s : ByteArray) (hs : s.size ≤ maxLen) (h : mfL s.data.toList = false) (w : World) :
    Calls Tryz.prog 9 #[.string s] w fun e w' => e = .returned (.tuple #[.agg #[.int .i64 0, .int .i64 0, .int .i64 0, .int .i64 0, .int .i64 0, .int .i64 0], .int .i64 3]) ∧ Below w.heap.size w w' := by
  have HF := fun w => rform s hs w
  rw [h] at HF
  replace HF := Lib.hid HF
  clear h
  go_enter Tryz.func9, Tryz.ntmps9
  go_wp2_with fail
  refine (HF.out _).mono ?_
  rintro e w' ⟨rfl, rfl⟩
  go_wp2
  exact bodyPost_ret (v := .tuple #[.agg #[.int .i64 0, .int .i64 0, .int .i64 0, .int .i64 0, .int .i64 0, .int .i64 0], .int .i64 3]) (by simp [results, Tryz.results9, go_sem]) rfl ⟨rfl, grow (here _) _⟩
theorem num_at (s : ByteArray) (h : mfL s.data.toList = true) (a b n : Nat) (V : Int) (hb : b = a + n) (n4 : n ≤ 4) (ha : a + n ≤ 19) (hn : ∀ i, i < n → a + i ≠ 4 ∧ a + i ≠ 7 ∧ a + i ≠ 10 ∧ a + i ≠ 13 ∧ a + i ≠ 16) (hV : fld s.data.toList a n = V) (w : World) :
    Calls Tryz.prog 25 #[.string (s.extract a b)] w fun e w' => e = .returned (.int .i64 V) ∧ w = w' := by
  subst hb
  obtain ⟨p, q⟩ := mf_fld h a n ha hn
  have e1 : (s.extract a (a + n)).data.toList = (s.data.toList.drop a).take n := by rw [Lib.extract_data]; congr 1; omega
  have z1 : (s.extract a (a + n)).size = n := (Array.length_toList (xs := (s.extract a (a + n)).data)).symm.trans (by rw [e1]; exact q)
  have := rnumber (s.extract a (a + n)) (by omega) (dig_at (by rw [e1]; exact p)) w
  rw [e1] at this
  rw [← hV]; exact this
set_option maxRecDepth 100000 in
set_option maxHeartbeats 40000000 in
theorem rparse_some (s : ByteArray) (h : mfL s.data.toList = true) (ok : Bool) (Y O D H M S : Int) (hk : (vld Y O D && vldT H M S) = ok)
    (e1 : fld s.data.toList 0 4 = Y) (e2 : fld s.data.toList 5 2 = O) (e3 : fld s.data.toList 8 2 = D) (e4 : fld s.data.toList 11 2 = H) (e5 : fld s.data.toList 14 2 = M) (e6 : fld s.data.toList 17 2 = S) (w : World) :
    Calls Tryz.prog 9 #[.string s] w fun e w' => e = .returned (.tuple #[.agg #[.int .i64 (if ok then Y else 0), .int .i64 (if ok then O else 0), .int .i64 (if ok then D else 0), .int .i64 (if ok then H else 0), .int .i64 (if ok then M else 0), .int .i64 (if ok then S else 0)], .int .i64 (if ok then 0 else 1)]) ∧ Below w.heap.size w w' := by
  obtain ⟨hl, -⟩ := mf_of h
  have hz : s.size = 19 := by rw [← hl]; exact Array.length_toList.symm
  have HF := fun w => rform s (by rw [hz]; unfold maxLen; omega) w
  rw [h] at HF
  replace HF := Lib.hid HF
  have bd : ∀ a n, n ≤ 4 → a + n ≤ 19 → (∀ i, i < n → a + i ≠ 4 ∧ a + i ≠ 7 ∧ a + i ≠ 10 ∧ a + i ≠ 13 ∧ a + i ≠ 16) → 0 ≤ fld s.data.toList a n ∧ fld s.data.toList a n ≤ 9999 := fun a n h1 h2 h3 => by
    obtain ⟨p, q⟩ := mf_fld h a n h2 h3
    exact valD_four p (by omega)
  have b1 := bd 0 4 (by omega) (by omega) (by omega)
  have b2 := bd 5 2 (by omega) (by omega) (by omega)
  have b3 := bd 8 2 (by omega) (by omega) (by omega)
  have b4 := bd 11 2 (by omega) (by omega) (by omega)
  have b5 := bd 14 2 (by omega) (by omega) (by omega)
  have b6 := bd 17 2 (by omega) (by omega) (by omega)
  rw [e1] at b1
  rw [e2] at b2
  rw [e3] at b3
  rw [e4] at b4
  rw [e5] at b5
  rw [e6] at b6
  have N1 := fun w => num_at s h 0 4 4 Y rfl (by omega) (by omega) (by omega) e1 w
  have N2 := fun w => num_at s h 5 7 2 O rfl (by omega) (by omega) (by omega) e2 w
  have N3 := fun w => num_at s h 8 10 2 D rfl (by omega) (by omega) (by omega) e3 w
  have N4 := fun w => num_at s h 11 13 2 H rfl (by omega) (by omega) (by omega) e4 w
  have N5 := fun w => num_at s h 14 16 2 M rfl (by omega) (by omega) (by omega) e5 w
  have N6 := fun w => num_at s h 17 19 2 S rfl (by omega) (by omega) (by omega) e6 w
  have HV := fun w => rvm Y O D H M S ⟨by omega, by omega⟩ ⟨by omega, by omega⟩ ⟨by omega, by omega⟩ ⟨by omega, by omega⟩ ⟨by omega, by omega⟩ ⟨by omega, by omega⟩ w
  rw [hk] at HV
  replace HV := Lib.hid HV
  have L1 : ∀ W : World, (Instr.slice 9 (.string s) (some (.int .i64 0)) (some (.int .i64 4)) none).run Tryz.prog W = .ok (.string (s.extract 0 4)) W := fun W => run_slice_string W 9 s .i64 .i64 0 4 Tryz.underlying9 (by omega) (by omega) (by omega)
  have L2 : ∀ W : World, (Instr.slice 9 (.string s) (some (.int .i64 5)) (some (.int .i64 7)) none).run Tryz.prog W = .ok (.string (s.extract 5 7)) W := fun W => run_slice_string W 9 s .i64 .i64 5 7 Tryz.underlying9 (by omega) (by omega) (by omega)
  have L3 : ∀ W : World, (Instr.slice 9 (.string s) (some (.int .i64 8)) (some (.int .i64 10)) none).run Tryz.prog W = .ok (.string (s.extract 8 10)) W := fun W => run_slice_string W 9 s .i64 .i64 8 10 Tryz.underlying9 (by omega) (by omega) (by omega)
  have L4 : ∀ W : World, (Instr.slice 9 (.string s) (some (.int .i64 11)) (some (.int .i64 13)) none).run Tryz.prog W = .ok (.string (s.extract 11 13)) W := fun W => run_slice_string W 9 s .i64 .i64 11 13 Tryz.underlying9 (by omega) (by omega) (by omega)
  have L5 : ∀ W : World, (Instr.slice 9 (.string s) (some (.int .i64 14)) (some (.int .i64 16)) none).run Tryz.prog W = .ok (.string (s.extract 14 16)) W := fun W => run_slice_string W 9 s .i64 .i64 14 16 Tryz.underlying9 (by omega) (by omega) (by omega)
  have L6 : ∀ W : World, (Instr.slice 9 (.string s) (some (.int .i64 17)) (some (.int .i64 19)) none).run Tryz.prog W = .ok (.string (s.extract 17 19)) W := fun W => run_slice_string W 9 s .i64 .i64 17 19 Tryz.underlying9 (by omega) (by omega) (by omega)
  clear h hl hz bd e1 e2 e3 e4 e5 e6 hk b1 b2 b3 b4 b5 b6
  generalize s.extract 0 4 = p1 at *
  generalize s.extract 5 7 = p2 at *
  generalize s.extract 8 10 = p3 at *
  generalize s.extract 11 13 = p4 at *
  generalize s.extract 14 16 = p5 at *
  generalize s.extract 17 19 = p6 at *
  replace N1 := Lib.hid N1
  replace N2 := Lib.hid N2
  replace N3 := Lib.hid N3
  replace N4 := Lib.hid N4
  replace N5 := Lib.hid N5
  replace N6 := Lib.hid N6
  go_enter Tryz.func9, Tryz.ntmps9
  go_wp2_with fail
  refine (HF.out _).mono ?_
  rintro e w' ⟨rfl, rfl⟩
  clear HF
  go_wp2
  go_region_held3 (fun _ => True) (trivial) (first | (go_at_call 25; (with_reducible refine (N1.out _).mono ?_); rintro e w' ⟨rfl, rfl⟩) | (go_at_call 25; (with_reducible refine (N2.out _).mono ?_); rintro e w' ⟨rfl, rfl⟩) | (go_at_call 25; (with_reducible refine (N3.out _).mono ?_); rintro e w' ⟨rfl, rfl⟩) | (go_at_call 25; (with_reducible refine (N4.out _).mono ?_); rintro e w' ⟨rfl, rfl⟩) | (go_at_call 25; (with_reducible refine (N5.out _).mono ?_); rintro e w' ⟨rfl, rfl⟩) | (go_at_call 25; (with_reducible refine (N6.out _).mono ?_); rintro e w' ⟨rfl, rfl⟩))
  all_goals
    have e1 : (w.alloc (.cells #[.int .i64 0, .int .i64 0, .int .i64 0, .int .i64 0, .int .i64 0, .int .i64 0] 27)).heap.size = w.heap.size + 1 := by simp
    have A1 := Lib.hid (grow (grow (here w) (.cells #[.int .i64 0, .int .i64 0, .int .i64 0, .int .i64 0, .int .i64 0, .int .i64 0] 27)) (.cells #[.int .i64 Y, .int .i64 O, .int .i64 D, .int .i64 H, .int .i64 M, .int .i64 S] 27)).drew
    have B1 := Lib.hid (((Six.new (here (w.alloc (.cells #[.int .i64 0, .int .i64 0, .int .i64 0, .int .i64 0, .int .i64 0, .int .i64 0] 27)))).old (.cells #[.int .i64 Y, .int .i64 O, .int .i64 D, .int .i64 H, .int .i64 M, .int .i64 S] 27)).drewN 1)
    have F1 := Lib.hid (((Free6.new (here (w.alloc (.cells #[.int .i64 0, .int .i64 0, .int .i64 0, .int .i64 0, .int .i64 0, .int .i64 0] 27)))).keep (by simp) (grow (here _) (.cells #[.int .i64 Y, .int .i64 O, .int .i64 D, .int .i64 H, .int .i64 M, .int .i64 S] 27))).keep (by rw [size_two, size_two]; omega) (below_drewN (here _) 1))
    have C1 := Lib.hid ((Six.new (here ((w.alloc (.cells #[.int .i64 0, .int .i64 0, .int .i64 0, .int .i64 0, .int .i64 0, .int .i64 0] 27)).alloc (.cells #[.int .i64 Y, .int .i64 O, .int .i64 D, .int .i64 H, .int .i64 M, .int .i64 S] 27)))).drewN 1)
    rw [e1] at C1
    change Hid (Below w.heap.size w ((w.alloc (.cells #[.int .i64 0, .int .i64 0, .int .i64 0, .int .i64 0, .int .i64 0, .int .i64 0] 27)).alloc (.cells #[.int .i64 Y, .int .i64 O, .int .i64 D, .int .i64 H, .int .i64 M, .int .i64 S] 27)).drew) at A1
    change Hid (Six ((w.alloc (.cells #[.int .i64 0, .int .i64 0, .int .i64 0, .int .i64 0, .int .i64 0, .int .i64 0] 27)).alloc (.cells #[.int .i64 Y, .int .i64 O, .int .i64 D, .int .i64 H, .int .i64 M, .int .i64 S] 27)).drew w.heap.size _ _ _ _ _ _) at B1
    change Hid (Free6 ((w.alloc (.cells #[.int .i64 0, .int .i64 0, .int .i64 0, .int .i64 0, .int .i64 0, .int .i64 0] 27)).alloc (.cells #[.int .i64 Y, .int .i64 O, .int .i64 D, .int .i64 H, .int .i64 M, .int .i64 S] 27)).drew w.heap.size) at F1
    change Hid (Six ((w.alloc (.cells #[.int .i64 0, .int .i64 0, .int .i64 0, .int .i64 0, .int .i64 0, .int .i64 0] 27)).alloc (.cells #[.int .i64 Y, .int .i64 O, .int .i64 D, .int .i64 H, .int .i64 M, .int .i64 S] 27)).drew (w.heap.size + 1) _ _ _ _ _ _) at C1
    generalize ((w.alloc (.cells #[.int .i64 0, .int .i64 0, .int .i64 0, .int .i64 0, .int .i64 0, .int .i64 0] 27)).alloc (.cells #[.int .i64 Y, .int .i64 O, .int .i64 D, .int .i64 H, .int .i64 M, .int .i64 S] 27)).drew = w1 at *
    obtain ⟨c0, c1, c2, c3, c4, c5, zc⟩ := C1.out
    clear e1
    go_wp2_with fail
    refine (HV.out _).mono ?_
    rintro e w4 ⟨rfl, hb⟩
    have A4 := Lib.hid (down A1.out hb)
    have B4 := Lib.hid (B1.out.keep hb)
    have C4 := Lib.hid (C1.out.keep hb)
    have F4 := Lib.hid (F1.out.keep B1.out.lt hb)
    clear hb A1 B1 C1 F1 c0 c1 c2 c3 c4 c5 zc
    obtain ⟨c0, c1, c2, c3, c4, c5, zc⟩ := B4.out
    obtain ⟨d0, d1, d2, d3, d4, d5, zd⟩ := C4.out
    obtain ⟨f0, f1, f2, f3, f4, f5⟩ := F4.out
    cases ok
    · go_wp2
      exact bodyPost_ret (v := .tuple #[.agg #[.int .i64 0, .int .i64 0, .int .i64 0, .int .i64 0, .int .i64 0, .int .i64 0], .int .i64 1]) (by simp [results, Tryz.results9, go_sem, c0, c1, c2, c3, c4, c5]) rfl ⟨rfl, Below.set6 A4.out (Nat.le_refl _) _ _ _ _ _ _⟩
    · go_wp2
      exact bodyPost_ret (v := .tuple #[.agg #[.int .i64 Y, .int .i64 O, .int .i64 D, .int .i64 H, .int .i64 M, .int .i64 S], .int .i64 0]) (by simp [results, Tryz.results9, go_sem, c0, c1, c2, c3, c4, c5]) rfl ⟨rfl, Below.set6 A4.out (Nat.le_refl _) _ _ _ _ _ _⟩
end Go.Proofs.YtehbegjocdahmaaGreatDoor
