/- The contract of the reference's Parse. -/
import Derived.Test.YtdhedkcbkchpgaaDoorCivQ
import Derived.Deep.RegionHeld3
namespace Go.Proofs.YtdhedkcbkchpgaaDoor
open Go.RowKit
set_option linter.unusedVariables false
theorem dig_all {t : ByteArray} (h : t.data.toList.all isDig = true) : ∀ k (hk : k < t.size), 48 ≤ t[k].toNat ∧ t[k].toNat ≤ 57 := fun k hk => by
  have hm : t[k] ∈ t.data.toList := by
    have : t[k] = t.data.toList[k]'(by simpa using hk) := rfl
    rw [this]; exact List.getElem_mem _
  exact isDig_iff.1 (List.all_eq_true.1 h _ hm)
theorem refparse_form (s : ByteArray) (hs : s.size ≤ maxLen) (h : formL s.data.toList = false) (w : World) :
    Calls Tryd.prog 34 #[.string s] w fun e w' => e = .returned (.tuple #[.agg #[.int .i64 0, .int .i64 0, .int .i64 0], .int .i64 3]) ∧ Below w.heap.size w w' := by
  have HF := fun w => refform s hs w
  rw [h] at HF
  replace HF := Lib.hid HF
  clear h
  go_enter Tryd.func34, Tryd.ntmps34
  go_wp2_with fail
  refine (HF.out _).mono ?_
  rintro e w' ⟨rfl, rfl⟩
  go_wp2
  exact bodyPost_ret (v := .tuple #[.agg #[.int .i64 0, .int .i64 0, .int .i64 0], .int .i64 3]) (by simp [results, Tryd.results34, go_sem]) rfl ⟨rfl, grow (here _) _⟩
set_option maxRecDepth 100000 in
set_option maxHeartbeats 4000000 in
theorem refparse_some (s : ByteArray) (h : formL s.data.toList = true) (b : Bool) (Y M D : Int) (hb : vld (yearOf s.data.toList) (monOf s.data.toList) (dayOf s.data.toList) = b)
    (hY : yearOf s.data.toList = Y) (hM : monOf s.data.toList = M) (hD : dayOf s.data.toList = D) (w : World) :
    Calls Tryd.prog 34 #[.string s] w fun e w' => e = .returned (.tuple #[.agg #[.int .i64 (if b then Y else 0), .int .i64 (if b then M else 0), .int .i64 (if b then D else 0)], .int .i64 (if b then 0 else 1)]) ∧ Below w.heap.size w w' := by
  obtain ⟨hz, ⟨z1, g1, v1⟩, ⟨z2, g2, v2⟩, ⟨z3, g3, v3⟩⟩ := parts_text h
  have HF := fun w => refform s (by rw [hz]; unfold maxLen; omega) w
  rw [h] at HF
  replace HF := Lib.hid HF
  have NA := fun w => refnumber (s.extract 0 4) (by omega) (dig_all g1) w
  have NB := fun w => refnumber (s.extract 5 7) (by omega) (dig_all g2) w
  have NC := fun w => refnumber (s.extract 8 s.size) (by omega) (dig_all g3) w
  have b1 := valD_four g1 (by rw [show (s.extract 0 4).data.toList.length = (s.extract 0 4).size from Array.length_toList]; omega)
  have b2 := valD_four g2 (by rw [show (s.extract 5 7).data.toList.length = (s.extract 5 7).size from Array.length_toList]; omega)
  have b3 := valD_four g3 (by rw [show (s.extract 8 s.size).data.toList.length = (s.extract 8 s.size).size from Array.length_toList]; omega)
  rw [v1, hY] at NA b1
  rw [v2, hM] at NB b2
  rw [v3, hD] at NC b3
  rw [hY, hM, hD] at hb
  have HV := fun w => refvalid Y M D ⟨by omega, by omega⟩ ⟨by omega, by omega⟩ ⟨by omega, by omega⟩ w
  rw [hb] at HV
  have HA := Lib.hid NA
  have HB := Lib.hid NB
  have HC := Lib.hid NC
  replace HV := Lib.hid HV
  clear NA NB NC
  have s10 : s.size ≤ 10 := by omega
  have s11 : 10 ≤ s.size := by omega
  have L1 : ∀ W : World, (Instr.slice 9 (.string s) none (some (.int .i64 4)) none).run Tryd.prog W = .ok (.string (s.extract 0 4)) W := fun W => run_slice_string_h W 9 s Tryd.underlying9 .i64 4 (by omega) (by omega)
  have L2 : ∀ W : World, (Instr.slice 9 (.string s) (some (.int .i64 5)) (some (.int .i64 7)) none).run Tryd.prog W = .ok (.string (s.extract 5 7)) W := fun W => run_slice_string W 9 s .i64 .i64 5 7 Tryd.underlying9 (by omega) (by omega) (by omega)
  have L3 : ∀ W : World, (Instr.slice 9 (.string s) (some (.int .i64 8)) none none).run Tryd.prog W = .ok (.string (s.extract 8 s.size)) W := fun W => run_slice_string_l W 9 s Tryd.underlying9 .i64 8 (by omega) (by omega)
  clear h hb hY hM hD z1 g1 v1 z2 g2 v2 z3 g3 v3 hz
  generalize s.extract 0 4 = p at *
  generalize s.extract 5 7 = q at *
  generalize s.extract 8 s.size = r at *
  go_enter Tryd.func34, Tryd.ntmps34
  go_wp2_with fail
  refine (HF.out _).mono ?_
  rintro e w' ⟨rfl, rfl⟩
  go_wp2
  go_region_held3 (fun _ => True) (trivial) (first | (go_at_call 48; (with_reducible refine (HA.out _).mono ?_); rintro e w' ⟨rfl, rfl⟩) | (go_at_call 48; (with_reducible refine (HB.out _).mono ?_); rintro e w' ⟨rfl, rfl⟩) | (go_at_call 48; (with_reducible refine (HC.out _).mono ?_); rintro e w' ⟨rfl, rfl⟩))
  all_goals
    have e1 : (w.alloc (.cells #[.int .i64 0, .int .i64 0, .int .i64 0] 23)).heap.size = w.heap.size + 1 := by simp
    have A1 := Lib.hid (grow (grow (here w) (.cells #[.int .i64 0, .int .i64 0, .int .i64 0] 23)) (.cells #[.int .i64 Y, .int .i64 M, .int .i64 D] 23)).drew
    have B1 := Lib.hid ((Box.new (here (w.alloc (.cells #[.int .i64 0, .int .i64 0, .int .i64 0] 23)))).old (.cells #[.int .i64 Y, .int .i64 M, .int .i64 D] 23)).drew
    have F1 := Lib.hid (((Free.new (here (w.alloc (.cells #[.int .i64 0, .int .i64 0, .int .i64 0] 23)))).keep (by simp) (grow (here _) (.cells #[.int .i64 Y, .int .i64 M, .int .i64 D] 23))).drewN 1)
    have C1 := Lib.hid (Box.new (here ((w.alloc (.cells #[.int .i64 0, .int .i64 0, .int .i64 0] 23)).alloc (.cells #[.int .i64 Y, .int .i64 M, .int .i64 D] 23)))).drew
    rw [e1] at C1
    change Hid (Free ((w.alloc (.cells #[.int .i64 0, .int .i64 0, .int .i64 0] 23)).alloc (.cells #[.int .i64 Y, .int .i64 M, .int .i64 D] 23)).drew w.heap.size) at F1
    generalize ((w.alloc (.cells #[.int .i64 0, .int .i64 0, .int .i64 0] 23)).alloc (.cells #[.int .i64 Y, .int .i64 M, .int .i64 D] 23)).drew = w1 at *
    obtain ⟨c0, c1, c2, zc⟩ := C1.out
    clear e1
    go_wp2_with fail
    refine (HV.out _).mono ?_
    rintro e w4 ⟨rfl, hb⟩
    have A4 := Lib.hid (down A1.out hb)
    have B4 := Lib.hid (B1.out.keep hb)
    have C4 := Lib.hid (C1.out.keep hb)
    have F4 := Lib.hid (F1.out.keep B1.out.lt hb)
    clear hb A1 B1 C1 F1 c0 c1 c2 zc
    obtain ⟨c0, c1, c2, zc⟩ := B4.out
    obtain ⟨d0, d1, d2, zd⟩ := C4.out
    obtain ⟨f0, f1, f2⟩ := F4.out
    cases b
    · go_wp2
      exact bodyPost_ret (v := .tuple #[.agg #[.int .i64 0, .int .i64 0, .int .i64 0], .int .i64 1]) (by simp [results, Tryd.results34, go_sem, c0, c1, c2]) rfl ⟨rfl, ((A4.out.setCell (Nat.le_refl _) _).setCell (Nat.le_refl _) _).setCell (Nat.le_refl _) _⟩
    · go_wp2
      exact bodyPost_ret (v := .tuple #[.agg #[.int .i64 Y, .int .i64 M, .int .i64 D], .int .i64 0]) (by simp [results, Tryd.results34, go_sem, c0, c1, c2]) rfl ⟨rfl, ((A4.out.setCell (Nat.le_refl _) _).setCell (Nat.le_refl _) _).setCell (Nat.le_refl _) _⟩
end Go.Proofs.YtdhedkcbkchpgaaDoor
