/- The contract of clock.Parse. -/
import Derived.Test.YtehbegjocdahmaaGreatDoorZA

namespace Go.Proofs.YtehbegjocdahmaaGreatDoor

open Go.RowKit

set_option linter.unusedVariables false

set_option maxRecDepth 100000 in
set_option maxHeartbeats 1000000 in
theorem kparse_form (s : ByteArray) (hs : s.size ≤ maxLen) (h : mfL s.data.toList = false) (w : World) :
    Calls Tryz.prog 7 #[.string s] w fun e w' => e = .returned (.tuple #[.agg #[.int .i64 0, .int .i64 0, .int .i64 0, .int .i64 0, .int .i64 0, .int .i64 0], .int .i64 3]) ∧ Below w.heap.size w w' := by
  have HF := fun w => kmlay s hs w
  rw [h] at HF
  replace HF := Lib.hid HF
  clear h
  have A0 := Lib.hid (grow (grow (here w) (.cells #[.string s] 9)) (.cells #[.int .i64 0, .int .i64 0, .int .i64 0, .int .i64 0, .int .i64 0, .int .i64 0] 27))
  have R0 := Lib.hid (Six.new (here ((w.alloc (.cells #[.string s] 9)).alloc (.cells #[.int .i64 0, .int .i64 0, .int .i64 0, .int .i64 0, .int .i64 0, .int .i64 0] 27))))
  have G0 := Lib.hid (Free6.new (here ((w.alloc (.cells #[.string s] 9)).alloc (.cells #[.int .i64 0, .int .i64 0, .int .i64 0, .int .i64 0, .int .i64 0, .int .i64 0] 27))))
  rw [size_two] at R0 G0
  have hB : w.heap.size ≤ w.heap.size + 1 := Nat.le_succ _
  go_enter Tryz.func7, Tryz.ntmps7
  go_wp2_with fail
  refine (HF.out _).mono ?_
  rintro e w1 ⟨rfl, m, rfl⟩
  have A1 := Lib.hid (below_drewN A0.out m)
  have R1 := Lib.hid (R0.out.drewN m)
  have G1 : Hid (Free6 _ (w.heap.size + 1)) := Lib.hid (G0.out.keep R0.out.lt (below_drewN (here _) m))
  clear A0 R0 G0 HF
  obtain ⟨w1, hw1⟩ : ∃ w1, ((w.alloc (.cells #[.string s] 9)).alloc (.cells #[.int .i64 0, .int .i64 0, .int .i64 0, .int .i64 0, .int .i64 0, .int .i64 0] 27)).drewN m = w1 := ⟨_, rfl⟩
  rw [hw1] at A1 R1 G1
  rw [hw1]
  clear hw1
  obtain ⟨c0, c1, c2, c3, c4, c5, cz⟩ := R1.out
  obtain ⟨f0, f1, f2, f3, f4, f5⟩ := G1.out
  go_wp2
  exact bodyPost_ret (v := .tuple #[.agg #[.int .i64 0, .int .i64 0, .int .i64 0, .int .i64 0, .int .i64 0, .int .i64 0], .int .i64 3]) (by simp [results, Tryz.results7, go_sem, c0, c1, c2, c3, c4, c5]) rfl ⟨rfl, (((((A1.out.setCell hB _).setCell hB _).setCell hB _).setCell hB _).setCell hB _).setCell hB _⟩
set_option maxRecDepth 100000 in
set_option maxHeartbeats 4000000 in
theorem kparse_some (s : ByteArray) (h : mfL s.data.toList = true) (ok : Bool) (Y O D H M S : Int) (hk : (vld Y O D && vldT H M S) = ok)
    (e1 : fld s.data.toList 0 4 = Y) (e2 : fld s.data.toList 5 2 = O) (e3 : fld s.data.toList 8 2 = D) (e4 : fld s.data.toList 11 2 = H) (e5 : fld s.data.toList 14 2 = M) (e6 : fld s.data.toList 17 2 = S) (w : World) (ht : Lens w) (hev : Ev w) :
    Calls Tryz.prog 7 #[.string s] w fun e w' => e = .returned (.tuple #[.agg #[.int .i64 (if ok then Y else 0), .int .i64 (if ok then O else 0), .int .i64 (if ok then D else 0), .int .i64 (if ok then H else 0), .int .i64 (if ok then M else 0), .int .i64 (if ok then S else 0)], .int .i64 (if ok then 0 else 1)]) ∧ Below w.heap.size w w' := by
  obtain ⟨hl, -⟩ := mf_of h
  have hz : s.size = 19 := by rw [← hl]; exact Array.length_toList.symm
  have HF := fun w => kmlay s (by rw [hz]; unfold maxLen; omega) w
  rw [h] at HF
  replace HF := Lib.hid HF
  have bd : ∀ a n, n ≤ 4 → a + n ≤ 19 → (∀ i, i < n → a + i ≠ 4 ∧ a + i ≠ 7 ∧ a + i ≠ 10 ∧ a + i ≠ 13 ∧ a + i ≠ 16) → 0 ≤ fld s.data.toList a n ∧ fld s.data.toList a n ≤ 9999 := fun a n h1 h2 h3 => by
    obtain ⟨p, q⟩ := mf_fld h a n h2 h3
    exact valD_four p (by omega)
  have b1 := bd 0 4 (by omega) (by omega) (by omega)
  have b2 := bd 5 2 (by omega) (by omega) (by omega)
  have b3 := bd 8 2 (by omega) (by omega) (by omega)
  have b4 := bd 11 2 (by omega) (by omega) (by omega)
  have b5 := bd 14 2 (by omega) (by omega) (by omega)
  have b6 := bd 17 2 (by omega) (by omega) (by omega)
  rw [e1] at b1
  rw [e2] at b2
  rw [e3] at b3
  rw [e4] at b4
  rw [e5] at b5
  rw [e6] at b6
  have F1 : Hid (∀ (b : Nat) (w : World), One w b (.string s) → Ev w → Calls Tryz.prog 20 #[.int .i64 0, .int .i64 4, .pointer (some ⟨b, 0, none⟩)] w fun e w' => e = .returned (.int .i64 Y) ∧ Below w.heap.size w w') := fun b w ho he => by rw [← e1]; exact kfield s h 0 4 b (by omega) (by omega) (by omega) (by omega) w ho he
  have F2 : Hid (∀ (b : Nat) (w : World), One w b (.string s) → Ev w → Calls Tryz.prog 20 #[.int .i64 5, .int .i64 2, .pointer (some ⟨b, 0, none⟩)] w fun e w' => e = .returned (.int .i64 O) ∧ Below w.heap.size w w') := fun b w ho he => by rw [← e2]; exact kfield s h 5 2 b (by omega) (by omega) (by omega) (by omega) w ho he
  have F3 : Hid (∀ (b : Nat) (w : World), One w b (.string s) → Ev w → Calls Tryz.prog 20 #[.int .i64 8, .int .i64 2, .pointer (some ⟨b, 0, none⟩)] w fun e w' => e = .returned (.int .i64 D) ∧ Below w.heap.size w w') := fun b w ho he => by rw [← e3]; exact kfield s h 8 2 b (by omega) (by omega) (by omega) (by omega) w ho he
  have F4 : Hid (∀ (b : Nat) (w : World), One w b (.string s) → Ev w → Calls Tryz.prog 20 #[.int .i64 11, .int .i64 2, .pointer (some ⟨b, 0, none⟩)] w fun e w' => e = .returned (.int .i64 H) ∧ Below w.heap.size w w') := fun b w ho he => by rw [← e4]; exact kfield s h 11 2 b (by omega) (by omega) (by omega) (by omega) w ho he
  have F5 : Hid (∀ (b : Nat) (w : World), One w b (.string s) → Ev w → Calls Tryz.prog 20 #[.int .i64 14, .int .i64 2, .pointer (some ⟨b, 0, none⟩)] w fun e w' => e = .returned (.int .i64 M) ∧ Below w.heap.size w w') := fun b w ho he => by rw [← e5]; exact kfield s h 14 2 b (by omega) (by omega) (by omega) (by omega) w ho he
  have F6 : Hid (∀ (b : Nat) (w : World), One w b (.string s) → Ev w → Calls Tryz.prog 20 #[.int .i64 17, .int .i64 2, .pointer (some ⟨b, 0, none⟩)] w fun e w' => e = .returned (.int .i64 S) ∧ Below w.heap.size w w') := fun b w ho he => by rw [← e6]; exact kfield s h 17 2 b (by omega) (by omega) (by omega) (by omega) w ho he
  have HV := fun w ht => kvm Y O D H M S ⟨by omega, by omega⟩ ⟨by omega, by omega⟩ ⟨by omega, by omega⟩ ⟨by omega, by omega⟩ ⟨by omega, by omega⟩ ⟨by omega, by omega⟩ w ht
  rw [hk] at HV
  replace HV := Lib.hid HV
  have hmf : ∀ (fn : Fn) (first cap : Array Value) (w : World), (Instr.makeFunc fn first cap).run Tryz.prog w = .ok (.func fn first cap) w := fun _ _ _ _ => rfl
  replace ht := Lib.hid ht
  replace hev := Lib.hid hev
  have A0 := Lib.hid (grow (grow (here w) (.cells #[.string s] 9)) (.cells #[.int .i64 0, .int .i64 0, .int .i64 0, .int .i64 0, .int .i64 0, .int .i64 0] 27))
  have O0 := Lib.hid ((One.new (here (w.alloc (.cells #[.string s] 9)))).old (.cells #[.int .i64 0, .int .i64 0, .int .i64 0, .int .i64 0, .int .i64 0, .int .i64 0] 27))
  have R0 := Lib.hid (Six.new (here ((w.alloc (.cells #[.string s] 9)).alloc (.cells #[.int .i64 0, .int .i64 0, .int .i64 0, .int .i64 0, .int .i64 0, .int .i64 0] 27))))
  have G0 := Lib.hid (Free6.new (here ((w.alloc (.cells #[.string s] 9)).alloc (.cells #[.int .i64 0, .int .i64 0, .int .i64 0, .int .i64 0, .int .i64 0, .int .i64 0] 27))))
  rw [size_two] at R0 G0
  have hB : w.heap.size ≤ w.heap.size + 1 := Nat.le_succ _
  clear h hl hz bd e1 e2 e3 e4 e5 e6 hk b1 b2 b3 b4 b5 b6
  go_enter Tryz.func7, Tryz.ntmps7
  go_wp2_with fail
  refine (HF.out _).mono ?_
  rintro e w1 ⟨rfl, m, rfl⟩
  have A1 := Lib.hid (below_drewN A0.out m)
  have O1 := Lib.hid (O0.out.drewN m)
  have R1 := Lib.hid (R0.out.drewN m)
  have G1 : Hid (Free6 _ (w.heap.size + 1)) := Lib.hid (G0.out.keep R0.out.lt (below_drewN (here _) m))
  clear A0 O0 R0 G0
  obtain ⟨w1, hw1⟩ : ∃ w1, ((w.alloc (.cells #[.string s] 9)).alloc (.cells #[.int .i64 0, .int .i64 0, .int .i64 0, .int .i64 0, .int .i64 0, .int .i64 0] 27)).drewN m = w1 := ⟨_, rfl⟩
  rw [hw1] at A1 O1 R1 G1
  rw [hw1]
  clear hw1
  go_wp2_with fail
  refine (F1.out _ _ O1.out (ev_below hev.out A1.out)).mono ?_
  rintro e w2 ⟨rfl, hb⟩
  have A2 := Lib.hid (down A1.out hb)
  have O2 := Lib.hid (O1.out.keep hb)
  have R2 := Lib.hid (R1.out.keep hb)
  have G2 := Lib.hid (G1.out.keep R1.out.lt hb)
  clear hb A1 O1 R1 G1
  go_wp2_with fail
  refine (F2.out _ _ O2.out (ev_below hev.out A2.out)).mono ?_
  rintro e w3 ⟨rfl, hb⟩
  have A3 := Lib.hid (down A2.out hb)
  have O3 := Lib.hid (O2.out.keep hb)
  have R3 := Lib.hid (R2.out.keep hb)
  have G3 := Lib.hid (G2.out.keep R2.out.lt hb)
  clear hb A2 O2 R2 G2
  go_wp2_with fail
  refine (F3.out _ _ O3.out (ev_below hev.out A3.out)).mono ?_
  rintro e w4 ⟨rfl, hb⟩
  have A4 := Lib.hid (down A3.out hb)
  have O4 := Lib.hid (O3.out.keep hb)
  have R4 := Lib.hid (R3.out.keep hb)
  have G4 := Lib.hid (G3.out.keep R3.out.lt hb)
  clear hb A3 O3 R3 G3
  go_wp2_with fail
  refine (F4.out _ _ O4.out (ev_below hev.out A4.out)).mono ?_
  rintro e w5 ⟨rfl, hb⟩
  have A5 := Lib.hid (down A4.out hb)
  have O5 := Lib.hid (O4.out.keep hb)
  have R5 := Lib.hid (R4.out.keep hb)
  have G5 := Lib.hid (G4.out.keep R4.out.lt hb)
  clear hb A4 O4 R4 G4
  go_wp2_with fail
  refine (F5.out _ _ O5.out (ev_below hev.out A5.out)).mono ?_
  rintro e w6 ⟨rfl, hb⟩
  have A6 := Lib.hid (down A5.out hb)
  have O6 := Lib.hid (O5.out.keep hb)
  have R6 := Lib.hid (R5.out.keep hb)
  have G6 := Lib.hid (G5.out.keep R5.out.lt hb)
  clear hb A5 O5 R5 G5
  go_wp2_with fail
  refine (F6.out _ _ O6.out (ev_below hev.out A6.out)).mono ?_
  rintro e w7 ⟨rfl, hb⟩
  have A7 := Lib.hid (down A6.out hb)
  have R7 := Lib.hid (R6.out.keep hb)
  have G7 := Lib.hid (G6.out.keep R6.out.lt hb)
  clear hb A6 O6 R6 G6
  go_wp2_with fail
  refine (HV.out _ (lens_below ht.out (grow A7.out _))).mono ?_
  rintro e w8 ⟨rfl, hb⟩
  have A8 := Lib.hid (down (grow A7.out _) hb)
  have R8 := Lib.hid ((R7.out.old _).keep hb)
  have M8 := Lib.hid (Six.new hb)
  have G8 := Lib.hid ((G7.out.keep R7.out.lt (grow (here _) _)).keep (R7.out.old _).lt hb)
  clear hb A7 R7 G7
  obtain ⟨c0, c1, c2, c3, c4, c5, cz⟩ := R8.out
  obtain ⟨d0, d1, d2, d3, d4, d5, dz⟩ := M8.out
  obtain ⟨f0, f1, f2, f3, f4, f5⟩ := G8.out
  cases ok
  · go_wp2
    exact bodyPost_ret (v := .tuple #[.agg #[.int .i64 0, .int .i64 0, .int .i64 0, .int .i64 0, .int .i64 0, .int .i64 0], .int .i64 1]) (by simp [results, Tryz.results7, go_sem, c0, c1, c2, c3, c4, c5]) rfl ⟨rfl, (((((A8.out.setCell hB _).setCell hB _).setCell hB _).setCell hB _).setCell hB _).setCell hB _⟩
  · go_wp2
    exact bodyPost_ret (v := .tuple #[.agg #[.int .i64 Y, .int .i64 O, .int .i64 D, .int .i64 H, .int .i64 M, .int .i64 S], .int .i64 0]) (by simp [results, Tryz.results7, go_sem, c0, c1, c2, c3, c4, c5]) rfl ⟨rfl, (((((A8.out.setCell hB _).setCell hB _).setCell hB _).setCell hB _).setCell hB _).setCell hB _⟩
end Go.Proofs.YtehbegjocdahmaaGreatDoor
