/- Contract of clock.sumParts; the table of units. -/
import Derived.Test.YtehbegjocdahmaaGreatDoorCkN

namespace Go.Proofs.YtehbegjocdahmaaGreatDoor

open Go.RowKit

set_option linter.unusedVariables false

def unitsA : Array Value := #[.int .u8 68, .int .i64 86400, .int .u8 72, .int .i64 3600, .int .u8 77, .int .i64 60, .int .u8 83, .int .i64 1]
def Units (w : World) : Prop := w.var? Tryz.prog "civiltime/clock.units" = some unitsA
theorem gUnits : Tryz.prog.globalNamed "civiltime/clock.units" = some 0 := by kernel_rfl
theorem units_below {w w' : World} (h : Units w) (hb : Below w.heap.size w w') : Units w' := Joins.var_stays gUnits h hb (Nat.le_refl _)
theorem units_cell {w : World} (h : Units w) (i : Nat) : w.cell? ⟨0, i, none⟩ = unitsA[i]? := World.var?_cell gUnits h i
/-- The units from the i-th on, up to the t-th. -/
def usAll : List (UInt8 × Int) := [(68, 86400), (72, 3600), (77, 60), (83, 1)]
def usR (i t : Nat) : List (UInt8 × Int) := (usAll.drop i).take (t - i)
theorem usR_end (t : Nat) : usR t t = [] := by unfold usR; simp
theorem usR_step {i t : Nat} (h : i < t) (ht : t ≤ 4) : ∃ c u, usAll[i]? = some (c, u) ∧ usR i t = (c, u) :: usR (i + 1) t := by
  have c : i = 0 ∨ i = 1 ∨ i = 2 ∨ i = 3 := by omega
  have d : t = 1 ∨ t = 2 ∨ t = 3 ∨ t = 4 := by omega
  rcases c with rfl | rfl | rfl | rfl <;> rcases d with rfl | rfl | rfl | rfl <;> first | omega | exact ⟨_, _, rfl, rfl⟩
/-- What is left, as text. -/
theorem cut_tail (r : ByteArray) (hlt : (r.data.toList.takeWhile isDig).length < r.size) :
    r.data.toList.dropWhile isDig ≠ [] ∧ (r.data.toList.dropWhile isDig).headD 0 = r[(r.data.toList.takeWhile isDig).length] ∧
    (r.extract ((r.data.toList.takeWhile isDig).length + 1) r.size).data.toList = (r.data.toList.dropWhile isDig).tail := by
  have hl : r.data.toList.length = r.size := Array.length_toList
  have e := dw_drop isDig r.data.toList
  rw [e]
  generalize (r.data.toList.takeWhile isDig).length = k at *
  refine ⟨by rw [← List.length_pos_iff, List.length_drop]; omega, ?_, ?_⟩
  · rw [← at_getD hlt]
    simp [List.headD_eq_head?_getD, List.head?_drop, List.getD_eq_getElem?_getD]
  · have := Lib.extract_data r (k + 1) r.size
    rw [this, List.take_of_length_le (by rw [List.length_drop]; omega), List.tail_drop]
theorem whole_nil (r : ByteArray) (h : (r.data.toList.takeWhile isDig).length = r.size) : r.data.toList.dropWhile isDig = [] := by
  have hl : r.data.toList.length = r.size := Array.length_toList
  rw [dw_drop, h, List.drop_eq_nil_iff]; omega
theorem tw_le (r : ByteArray) : (r.data.toList.takeWhile isDig).length ≤ r.size := by
  have hl : r.data.toList.length = r.size := Array.length_toList
  rw [← hl]; exact (List.takeWhile_sublist isDig).length_le
theorem str_nil (r : ByteArray) : (r.toList == []) = r.data.toList.isEmpty := by
  rw [ByteArray.toList_eq]
  cases r.data.toList <;> rfl
theorem dat_nil (r : ByteArray) : r.data.isEmpty = r.data.toList.isEmpty := Array.isEmpty_toList.symm
theorem ext_le (r : ByteArray) (a : Nat) : (r.extract a r.size).size ≤ r.size := by rw [ByteArray.size_extract]; omega
theorem sum_facts {r : ByteArray} {n : Int} {k t L : Nat} {V : Int} {R : Int × List UInt8} {c : UInt8} {u : Int} (hV : capV (r.data.toList.takeWhile isDig) = V) (hL : (r.data.toList.takeWhile isDig).length = L) (h : k < t) (ht : t ≤ 4)
    (HR : sumG capV (usR k t) n r.data.toList = R) (hc : usAll[k]? = some (c, u)) (hlt : L < r.size) :
    (L = 0 → sumG capV (usR (k + 1) t) n r.data.toList = R) ∧ (r[L] ≠ c → sumG capV (usR (k + 1) t) n r.data.toList = R) ∧
    (0 < L → r[L] = c → sumG capV (usR (k + 1) t) (n + V * u) (r.extract (L + 1) r.size).data.toList = R) := by
  subst hL hV
  obtain ⟨t1, t2, t3⟩ := cut_tail r hlt
  obtain ⟨c', u', e1, e2⟩ := usR_step h ht
  rw [hc, Option.some.injEq, Prod.mk.injEq] at e1
  obtain ⟨rfl, rfl⟩ := e1
  rw [e2] at HR
  refine ⟨fun z => ?_, fun z => ?_, fun z y => ?_⟩
  · rw [← HR, sumG_skip t1 (List.length_eq_zero_iff.1 z)]
  · rw [← HR, sumG_miss t1 (by rw [t2]; exact z)]
  · rw [← HR, sumG_hit t1 (List.length_pos_iff.1 z) (by rw [t2]; exact y), t3]
theorem cap_bd (l : List UInt8) (h : l.all isDig = true) : 0 ≤ capV l ∧ capV l ≤ 4398046511105 := by
  have p := valD_pos h
  unfold capV; split <;> omega
set_option maxRecDepth 100000 in
set_option maxHeartbeats 4000000 in
theorem ksum (s : ByteArray) (hs : s.size ≤ 1000000) (f t : Nat) (hft : f = 0 ∧ t = 1 ∨ f = 1 ∧ t = 4) (w : World) (hu : Units w) :
    Calls Tryz.prog 31 #[.string s, .int .i64 f, .int .i64 t] w fun e w' => e = .returned (.tuple #[.int .i64 (sumG capV (usR f t) 0 s.data.toList).1, .bool (sumG capV (usR f t) 0 s.data.toList).2.isEmpty]) ∧ ∃ m, w' = w.drewN m := by
  obtain ⟨R, hR⟩ : ∃ R, sumG capV (usR f t) 0 s.data.toList = R := ⟨_, rfl⟩
  rw [hR]
  replace hR := Lib.hid hR
  have f4 : f ≤ t ∧ t ≤ 4 := by omega
  obtain ⟨f5, t4⟩ := f4
  have g0 := units_cell hu 0
  have g1 := units_cell hu 1
  have g2 := units_cell hu 2
  have g3 := units_cell hu 3
  have g4 := units_cell hu 4
  have g5 := units_cell hu 5
  have g6 := units_cell hu 6
  have g7 := units_cell hu 7
  change _ = some (Value.int .u8 68) at g0
  change _ = some (Value.int .i64 86400) at g1
  change _ = some (Value.int .u8 72) at g2
  change _ = some (Value.int .i64 3600) at g3
  change _ = some (Value.int .u8 77) at g4
  change _ = some (Value.int .i64 60) at g5
  change _ = some (Value.int .u8 83) at g6
  change _ = some (Value.int .i64 1) at g7
  clear hu
  go_enter Tryz.func31, Tryz.ntmps31
  go_wp2
  go_step3
  go_wp2
  go_step3
  go_wp2
  go_loopw [0, 6, 8] (fun a b i wr => ∃ (k : Nat) (n : Int) (r : ByteArray), f ≤ k ∧ k ≤ t ∧ 0 ≤ n ∧ n ≤ 400000000000000000 * k ∧ r.size ≤ 1000000 ∧ Hid (sumG capV (usR k t) n r.data.toList = R) ∧ a = .string r ∧ b = .int .i64 n ∧ i = .int .i64 k ∧ ∃ m, wr = w.drewN m) (fun _ _ i _ => t - (intOf i).toNat)
  case atStart => exact ⟨f, 0, s, Nat.le_refl _, by omega, by omega, by omega, hs, hR, rfl, rfl, rfl, 0, rfl⟩
  case round =>
    obtain ⟨k, n, r, k0, k1, n0, n1, hr, HR, rfl, rfl, rfl, m, rfl⟩ := hrel
    clear hR
    by_cases hlt : k < t
    · have kz : decide ((k : Int) < (t : Int)) = true := decide_eq_true (by omega)
      obtain ⟨V, hV⟩ : ∃ V, capV (r.data.toList.takeWhile isDig) = V := ⟨_, rfl⟩
      obtain ⟨L, hL⟩ : ∃ L, (r.data.toList.takeWhile isDig).length = L := ⟨_, rfl⟩
      have HK := fun w => knum r hr w
      have Lle := tw_le r
      have vb := cap_bd (r.data.toList.takeWhile isDig) List.all_takeWhile
      rw [hV] at vb
      rw [hL] at Lle
      rw [hV, hL] at HK
      replace HK := Lib.hid HK
      obtain ⟨v0, v1⟩ := vb
      by_cases q : L = r.size
      · have HE : Hid (R = (n, r.data.toList)) := by
          have := sumG_stop (v := capV) (us := usR k t) (n := n) (whole_nil r (by rw [hL]; exact q))
          rw [HR.out] at this; exact this
        have qz : (((L : Nat) : Int) == (r.size : Int)) = true := by simp; omega
        clear HR hV hL q
        go_wp2_with fail
        refine (HK.out _).mono ?_
        rintro e w1 ⟨rfl, rfl⟩
        go_wp2
        rw [Exit.noGoto_ret]
        go_ret2
        exact ⟨by rw [HE.out, ← ByteArray.toList_eq]; rfl, _, rfl⟩
      · have Llt : L < r.size := by omega
        have qz : (((L : Nat) : Int) == (r.size : Int)) = false := by simp; omega
        have hcase : (k = 0 ∧ usAll[k]? = some (68, 86400)) ∨ (k = 1 ∧ usAll[k]? = some (72, 3600)) ∨ (k = 2 ∧ usAll[k]? = some (77, 60)) ∨ (k = 3 ∧ usAll[k]? = some (83, 1)) := by
          have c : k = 0 ∨ k = 1 ∨ k = 2 ∨ k = 3 := by omega
          rcases c with rfl | rfl | rfl | rfl
          · exact .inl ⟨rfl, rfl⟩
          · exact .inr (.inl ⟨rfl, rfl⟩)
          · exact .inr (.inr (.inl ⟨rfl, rfl⟩))
          · exact .inr (.inr (.inr ⟨rfl, rfl⟩))
        clear q
        by_cases z : L = 0
        · have zz : (((L : Nat) : Int) == 0) = true := by simp; omega
          have HS : Hid (sumG capV (usR (k + 1) t) n r.data.toList = R) := by
            rcases hcase with ⟨-, x⟩ | ⟨-, x⟩ | ⟨-, x⟩ | ⟨-, x⟩ <;> exact (sum_facts hV hL hlt t4 HR.out x Llt).1 z
          clear HR hV hL hcase z
          go_wp2_with fail
          refine (HK.out _).mono ?_
          rintro e w1 ⟨rfl, rfl⟩
          go_wp2
          go_quiet (fail)
          go_wp2
          go_roundw
          case rel => exact ⟨k + 1, n, r, by omega, by omega, by omega, by omega, hr, HS, rfl, rfl, by go_num, _, rfl⟩
          case measure => simp [intOf]; omega
        · have zz : (((L : Nat) : Int) == 0) = false := by simp; omega
          rcases hcase with ⟨rfl, x⟩ | ⟨rfl, x⟩ | ⟨rfl, x⟩ | ⟨rfl, x⟩
          all_goals
            obtain ⟨-, f2, f3⟩ := sum_facts hV hL hlt t4 HR.out x Llt
            replace f3 := f3 (by omega)
            clear HR hV hL x z
          · by_cases y : r[L] = 68
            · have HS := Lib.hid (f3 y)
              have yz : ((((r[L]'Llt).toNat : Nat) : Int) != 68) = false := by rw [y]; rfl
              clear f2 f3 y
              go_wp2_with fail
              refine (HK.out _).mono ?_
              rintro e w1 ⟨rfl, rfl⟩
              go_wp2
              go_quiet (fail)
              go_wp2
              go_roundw
              case rel => exact ⟨_, _, _, by omega, by omega, by omega, by omega, Nat.le_trans (ext_le r _) hr, HS.out, rfl, rfl, rfl, _, rfl⟩
              case measure => simp [intOf]; omega
            · have HS := Lib.hid (f2 y)
              have yz : ((((r[L]'Llt).toNat : Nat) : Int) != 68) = true := by
                rw [bne_iff_ne]; intro q; exact y (UInt8.toNat_inj.1 (by show _ = 68; omega))
              clear f2 f3 y
              go_wp2_with fail
              refine (HK.out _).mono ?_
              rintro e w1 ⟨rfl, rfl⟩
              go_wp2
              go_quiet (fail)
              go_wp2
              go_roundw
              case rel => exact ⟨_, n, r, by omega, by omega, by omega, by omega, hr, HS.out, rfl, rfl, rfl, _, rfl⟩
              case measure => simp [intOf]; omega
          · by_cases y : r[L] = 72
            · have HS := Lib.hid (f3 y)
              have yz : ((((r[L]'Llt).toNat : Nat) : Int) != 72) = false := by rw [y]; rfl
              clear f2 f3 y
              go_wp2_with fail
              refine (HK.out _).mono ?_
              rintro e w1 ⟨rfl, rfl⟩
              go_wp2
              go_quiet (fail)
              go_wp2
              go_roundw
              case rel => exact ⟨_, _, _, by omega, by omega, by omega, by omega, Nat.le_trans (ext_le r _) hr, HS.out, rfl, rfl, rfl, _, rfl⟩
              case measure => simp [intOf]; omega
            · have HS := Lib.hid (f2 y)
              have yz : ((((r[L]'Llt).toNat : Nat) : Int) != 72) = true := by
                rw [bne_iff_ne]; intro q; exact y (UInt8.toNat_inj.1 (by show _ = 72; omega))
              clear f2 f3 y
              go_wp2_with fail
              refine (HK.out _).mono ?_
              rintro e w1 ⟨rfl, rfl⟩
              go_wp2
              go_quiet (fail)
              go_wp2
              go_roundw
              case rel => exact ⟨_, n, r, by omega, by omega, by omega, by omega, hr, HS.out, rfl, rfl, rfl, _, rfl⟩
              case measure => simp [intOf]; omega
          · by_cases y : r[L] = 77
            · have HS := Lib.hid (f3 y)
              have yz : ((((r[L]'Llt).toNat : Nat) : Int) != 77) = false := by rw [y]; rfl
              clear f2 f3 y
              go_wp2_with fail
              refine (HK.out _).mono ?_
              rintro e w1 ⟨rfl, rfl⟩
              go_wp2
              go_quiet (fail)
              go_wp2
              go_roundw
              case rel => exact ⟨_, _, _, by omega, by omega, by omega, by omega, Nat.le_trans (ext_le r _) hr, HS.out, rfl, rfl, rfl, _, rfl⟩
              case measure => simp [intOf]; omega
            · have HS := Lib.hid (f2 y)
              have yz : ((((r[L]'Llt).toNat : Nat) : Int) != 77) = true := by
                rw [bne_iff_ne]; intro q; exact y (UInt8.toNat_inj.1 (by show _ = 77; omega))
              clear f2 f3 y
              go_wp2_with fail
              refine (HK.out _).mono ?_
              rintro e w1 ⟨rfl, rfl⟩
              go_wp2
              go_quiet (fail)
              go_wp2
              go_roundw
              case rel => exact ⟨_, n, r, by omega, by omega, by omega, by omega, hr, HS.out, rfl, rfl, rfl, _, rfl⟩
              case measure => simp [intOf]; omega
          · rw [Int.mul_one] at f3
            by_cases y : r[L] = 83
            · have HS := Lib.hid (f3 y)
              have yz : ((((r[L]'Llt).toNat : Nat) : Int) != 83) = false := by rw [y]; rfl
              clear f2 f3 y
              go_wp2_with fail
              refine (HK.out _).mono ?_
              rintro e w1 ⟨rfl, rfl⟩
              go_wp2
              go_quiet (fail)
              go_wp2
              go_roundw
              case rel => exact ⟨_, _, _, by omega, by omega, by omega, by omega, Nat.le_trans (ext_le r _) hr, HS.out, rfl, rfl, rfl, _, rfl⟩
              case measure => simp [intOf]; omega
            · have HS := Lib.hid (f2 y)
              have yz : ((((r[L]'Llt).toNat : Nat) : Int) != 83) = true := by
                rw [bne_iff_ne]; intro q; exact y (UInt8.toNat_inj.1 (by show _ = 83; omega))
              clear f2 f3 y
              go_wp2_with fail
              refine (HK.out _).mono ?_
              rintro e w1 ⟨rfl, rfl⟩
              go_wp2
              go_quiet (fail)
              go_wp2
              go_roundw
              case rel => exact ⟨_, n, r, by omega, by omega, by omega, by omega, hr, HS.out, rfl, rfl, rfl, _, rfl⟩
              case measure => simp [intOf]; omega
    · have kz : decide ((k : Int) < (t : Int)) = false := decide_eq_false (by omega)
      have HE : Hid (R = (n, r.data.toList)) := by
        obtain rfl : k = t := by omega
        have := HR.out
        rw [usR_end] at this
        exact this.symm
      clear HR
      go_wp2
      rw [Exit.noGoto_ret]
      go_ret2
      exact ⟨by rw [HE.out, ← ByteArray.toList_eq]; rfl, _, rfl⟩
end Go.Proofs.YtehbegjocdahmaaGreatDoor
