/- Contracts of strings.CutPrefix, strings.Cut at one byte, and of clock.ParseDuration. -/
import Derived.Test.YtehbegjocdahmaaGreatDoorCkU

import Derived.Test.YtehbegjocdahmaaGreatDoorShelfTwo

import Derived.Test.YtehbegjocdahmaaGreatDoorShelfThree

namespace Go.Proofs.YtehbegjocdahmaaGreatDoor

open Go.RowKit

set_option linter.unusedVariables false

theorem pre_one (l : List UInt8) (c : UInt8) : Lib.hasPrefix l [c] = (l.head? == some c) := by
  cases l with
  | nil => rfl
  | cons a r =>
    show ([c] : List UInt8).isPrefixOf (a :: r) = _
    simp [List.isPrefixOf]
    rw [Bool.eq_iff_iff]; simp only [beq_iff_eq]; exact eq_comm
/-- The text behind a first byte, if it is the given one. -/
def cutP (s : ByteArray) (c : UInt8) : ByteArray := if s.data.toList.head? == some c then s.extract 1 s.size else s
theorem cutP_list (s : ByteArray) (c : UInt8) : (cutP s c).data.toList = if s.data.toList.head? = some c then s.data.toList.tail else s.data.toList := by
  unfold cutP
  have hl : s.data.toList.length = s.size := Array.length_toList
  by_cases h : s.data.toList.head? = some c
  · rw [if_pos (by simpa using h), if_pos h]
    have := Lib.extract_data s 1 s.size
    rw [this, List.take_of_length_le (by rw [List.length_drop]; omega), List.drop_one]
  · rw [if_neg (by simpa using h), if_neg h]
theorem cutP_le (s : ByteArray) (c : UInt8) : (cutP s c).size ≤ s.size := by
  unfold cutP; split
  · exact ext_le s 1
  · exact Nat.le_refl _
theorem kcp (s : ByteArray) (hs : s.size ≤ 1000000) (c : UInt8) (w : World) :
    Calls Tryz.prog 29 #[.string s, .string ⟨#[c]⟩] w fun e w' => e = .returned (.tuple #[.string (cutP s c), .bool (s.data.toList.head? == some c)]) ∧ w = w' := by
  have HP := fun w => Tryz.stringslite_HasPrefix s ⟨#[c]⟩ w
  have e0 : (⟨#[c]⟩ : ByteArray).data.toList = [c] := rfl
  rw [e0, pre_one] at HP
  unfold cutP
  have key : ∀ w, Calls Tryz.prog 50 #[.string s, .string ⟨#[c]⟩] w fun e w' => e = .returned (.tuple #[.string (if s.data.toList.head? == some c then s.extract 1 s.size else s), .bool (s.data.toList.head? == some c)]) ∧ w = w' := by
    intro w
    by_cases h : (s.data.toList.head? == some c) = true
    · have hz : 1 ≤ s.size := by
        have hl : s.data.toList.length = s.size := Array.length_toList
        cases q : s.data.toList with
        | nil => rw [q] at h; simp at h
        | cons a r => rw [q, List.length_cons] at hl; omega
      rw [h] at HP ⊢
      replace HP := Lib.hid HP
      clear h e0
      go_enter Tryz.func50, Tryz.ntmps50
      go_wp2_with fail
      refine (HP.out _).mono ?_
      rintro e w' ⟨rfl, rfl⟩
      go_wp2
      go_ret2
      exact ⟨rfl, rfl⟩
    · rw [Bool.not_eq_true] at h
      rw [h] at HP ⊢
      replace HP := Lib.hid HP
      clear h e0
      go_enter Tryz.func50, Tryz.ntmps50
      go_wp2_with fail
      refine (HP.out _).mono ?_
      rintro e w' ⟨rfl, rfl⟩
      go_wp2
      go_ret2
      exact ⟨rfl, rfl⟩
  generalize (if s.data.toList.head? == some c then s.extract 1 s.size else s) = S at *
  generalize (s.data.toList.head? == some c) = b at *
  replace key := Lib.hid key
  clear HP e0
  go_enter Tryz.func29, Tryz.ntmps29
  go_wp2_with fail
  refine (key.out _).mono ?_
  rintro e w' ⟨rfl, rfl⟩
  go_wp2
  go_ret2
  exact ⟨rfl, rfl⟩
theorem ib_T (l : List UInt8) : Lib.indexByte l 84 = if timL l = [] then -1 else ((dayL l).length : Int) := by
  induction l with
  | nil => rfl
  | cons a r ih =>
    unfold Lib.indexByte
    by_cases h : a = 84
    · subst h
      rw [if_pos (by decide)]
      have e1 : timL (84 :: r) = 84 :: r := by unfold timL; rw [List.dropWhile_cons, if_neg (by decide)]
      have e2 : dayL (84 :: r) = [] := by unfold dayL; rw [List.takeWhile_cons, if_neg (by decide)]
      rw [e1, e2, if_neg (by simp)]; rfl
    · have hb : (a != 84) = true := by simpa using h
      rw [if_neg (by simpa using h)]
      have e1 : timL (a :: r) = timL r := by unfold timL; rw [List.dropWhile_cons, if_pos hb]
      have e2 : dayL (a :: r) = a :: dayL r := by unfold dayL; rw [List.takeWhile_cons, if_pos hb]
      rw [e1, e2, ih]
      by_cases z : timL r = []
      · rw [if_pos z, if_pos z, if_pos (by decide)]
      · rw [if_neg z, if_neg z, if_neg (by simp), List.length_cons]; omega
theorem day_take (l : List UInt8) : dayL l = l.take (dayL l).length := tw_take _ l
theorem tim_drop (l : List UInt8) : timL l = l.drop (dayL l).length := dw_drop _ l
set_option maxHeartbeats 1000000 in
theorem kcut (s : ByteArray) (hs : s.size ≤ 1000000) : ∃ a b : ByteArray, a.size ≤ 1000000 ∧ b.size ≤ 1000000 ∧ a.data.toList = dayL s.data.toList ∧ b.data.toList = (timL s.data.toList).tail ∧
    ∀ w, Calls Tryz.prog 30 #[.string s, .string ⟨#[84]⟩] w fun e w' => e = .returned (.tuple #[.string a, .string b, .bool (!(timL s.data.toList).isEmpty)]) ∧ ∃ m, w' = w.drewN m := by
  have hl : s.data.toList.length = s.size := Array.length_toList
  have HI := fun w => Tryz.stringslite_Index_one s 84 w
  rw [ib_T] at HI
  by_cases z : timL s.data.toList = []
  · refine ⟨s, ⟨#[]⟩, hs, by show 0 ≤ _; omega, ?_, by rw [z]; rfl, ?_⟩
    · have := day_tim s.data.toList; rw [z, List.append_nil] at this; exact this.symm
    · rw [z]
      rw [if_pos z] at HI
      replace HI := Lib.hid HI
      have key : Hid (∀ w, Calls Tryz.prog 51 #[.string s, .string ⟨#[84]⟩] w fun e w' => e = .returned (.tuple #[.string s, .string ⟨#[]⟩, .bool false]) ∧ ∃ m, w' = w.drewN m) := by
        intro w
        clear z
        go_enter Tryz.func51, Tryz.ntmps51
        go_wp2_with fail
        refine (HI.out _).mono ?_
        rintro e w' ⟨rfl, rfl⟩
        go_wp2
        go_ret3
        exact ⟨rfl, 0, rfl⟩
      intro w
      clear z HI
      go_enter Tryz.func30, Tryz.ntmps30
      go_wp2_with fail
      refine (key.out _).mono ?_
      rintro e w' ⟨rfl, m, rfl⟩
      go_wp2
      go_ret3
      exact ⟨rfl, _, rfl⟩
  · have t := tim_drop s.data.toList
    have d := day_take s.data.toList
    rw [if_neg z] at HI
    have tl : 0 < (timL s.data.toList).length := List.length_pos_iff.2 z
    have ha : (s.extract 0 (dayL s.data.toList).length).data.toList = dayL s.data.toList := by
      rw [Lib.extract_data s 0 _, List.drop_zero, Nat.sub_zero]; exact d.symm
    have hb : (s.extract ((dayL s.data.toList).length + 1) s.size).data.toList = (timL s.data.toList).tail := by
      rw [Lib.extract_data s _ _, List.take_of_length_le (by rw [List.length_drop]; omega), t, List.tail_drop]
    rw [t, List.length_drop] at tl
    refine ⟨s.extract 0 (dayL s.data.toList).length, s.extract ((dayL s.data.toList).length + 1) s.size, ?_, Nat.le_trans (ext_le _ _) hs, ha, hb, ?_⟩
    · rw [ByteArray.size_extract]; omega
    · have e : (timL s.data.toList).isEmpty = false := by simpa using z
      rw [e]
      generalize (dayL s.data.toList).length = i at *
      have i0 : i + 1 ≤ s.size := by omega
      replace HI := Lib.hid HI
      clear t d z tl ha hb e hl
      have key : Hid (∀ w, Calls Tryz.prog 51 #[.string s, .string ⟨#[84]⟩] w fun e w' => e = .returned (.tuple #[.string (s.extract 0 i), .string (s.extract (i + 1) s.size), .bool true]) ∧ ∃ m, w' = w.drewN m) := by
        intro w
        go_enter Tryz.func51, Tryz.ntmps51
        go_wp2_with fail
        refine (HI.out _).mono ?_
        rintro e w' ⟨rfl, rfl⟩
        go_wp2
        go_quiet (fail)
        go_wp2
        go_ret3
        exact ⟨rfl, _, rfl⟩
      intro w
      clear HI
      go_enter Tryz.func30, Tryz.ntmps30
      go_wp2_with fail
      refine (key.out _).mono ?_
      rintro e w' ⟨rfl, m, rfl⟩
      go_wp2
      go_ret3
      exact ⟨rfl, _, rfl⟩
theorem sum_bd : ∀ (us : List (UInt8 × Int)) (hus : ∀ x ∈ us, x.2 = 86400 ∨ x.2 = 3600 ∨ x.2 = 60 ∨ x.2 = 1) (n : Int) (l : List UInt8), 0 ≤ n → 0 ≤ (sumG capV us n l).1 ∧ (sumG capV us n l).1 ≤ n + 400000000000000000 * us.length
  | [], _, n, l, h => by simp [sumG]; exact h
  | (c, u) :: us, hus, n, l, h => by
    have hu := hus (c, u) (by simp)
    have hus' := fun x hx => hus x (List.mem_cons_of_mem _ hx)
    unfold sumG
    rw [List.length_cons]
    by_cases a : l.dropWhile isDig = []
    · rw [if_pos a]; show 0 ≤ n ∧ n ≤ _; omega
    · rw [if_neg a]
      by_cases b : l.takeWhile isDig = [] ∨ (l.dropWhile isDig).headD 0 ≠ c
      · rw [if_pos b]; have := sum_bd us hus' n l h; omega
      · rw [if_neg b]
        obtain ⟨v0, v1⟩ := cap_bd (l.takeWhile isDig) List.all_takeWhile
        generalize capV (l.takeWhile isDig) = v at *
        have hv : 0 ≤ v * u ∧ v * u ≤ 400000000000000000 := by
          show 0 ≤ v * u ∧ _
          dsimp only at hu
          rcases hu with rfl | rfl | rfl | rfl <;> omega
        have := sum_bd us hus' (n + v * u) (l.dropWhile isDig).tail (by omega)
        omega
theorem us_ok (us : List (UInt8 × Int)) (h : us = usR 0 1 ∨ us = usR 1 4) : ∀ x ∈ us, x.2 = 86400 ∨ x.2 = 3600 ∨ x.2 = 60 ∨ x.2 = 1 := by
  rcases h with rfl | rfl
  · intro x hx
    have : x ∈ [((68 : UInt8), (86400 : Int))] := hx
    simp at this; subst this; simp
  · intro x hx
    have : x ∈ [((72 : UInt8), (3600 : Int)), (77, 60), (83, 1)] := hx
    simp at this; rcases this with rfl | rfl | rfl <;> simp
theorem durP_cut {l : List UInt8} (h : (durB l).head? = some 80) : durP l = cutG (valD 0) (durB l).tail := by
  unfold durP
  generalize durB l = m at *
  cases m with
  | nil => simp at h
  | cons a r =>
    simp at h; subst h
    by_cases z : r = []
    · subst z; rw [if_neg (by simp)]; rfl
    · rw [if_pos ⟨rfl, by have := List.length_pos_iff.2 z; simp only [List.length_cons]; omega⟩]
      exact pd_cut r
/-- What ParseDuration returns for a text whose body follows a P: by the parts. -/
theorem dur_parts {l : List UInt8} (h : (durB l).head? = some 80) {A B : Int × List UInt8} (hA : sumG capV (usR 0 1) 0 (dayL (durB l).tail) = A) (hB : sumG capV (usR 1 4) 0 (timL (durB l).tail).tail = B) :
    (((dayL (durB l).tail = [] ∧ timL (durB l).tail = []) ∨ (timL (durB l).tail ≠ [] ∧ (timL (durB l).tail).tail = [])) → durV l = 0 ∧ durE l = 3) ∧
    (¬ ((dayL (durB l).tail = [] ∧ timL (durB l).tail = []) ∨ (timL (durB l).tail ≠ [] ∧ (timL (durB l).tail).tail = [])) →
      (¬ (A.2 = [] ∧ B.2 = []) → durV l = 0 ∧ durE l = 3) ∧ (A.2 = [] ∧ B.2 = [] → (4398046511104 < A.1 + B.1 → durV l = 0 ∧ durE l = 9) ∧ (¬ 4398046511104 < A.1 + B.1 → durV l = (if l.head? = some 45 then -(A.1 + B.1) else A.1 + B.1) ∧ durE l = 0))) := by
  have hg : ∀ l : List UInt8, l.all isDig = true → Ap (capV l) (valD 0 l) ∧ 0 ≤ capV l ∧ 0 ≤ valD 0 l := fun l h => ⟨cap_ap l, (cap_bd l h).1, valD_pos h⟩
  obtain ⟨a1, a2, a3, a4⟩ := sum_ap hg (usR 0 1) (us_ok _ (.inl rfl)) 0 0 (dayL (durB l).tail) (.inl rfl) (by omega) (by omega)
  obtain ⟨b1, b2, b3, b4⟩ := sum_ap hg (usR 1 4) (us_ok _ (.inr rfl)) 0 0 (timL (durB l).tail).tail (.inl rfl) (by omega) (by omega)
  have e := durP_cut h
  unfold cutG at e
  rw [show usD = usR 0 1 from rfl, show usT 0 = usR 1 4 from rfl] at e
  rw [hA] at a1 a2 a3
  rw [hB] at b1 b2 b3
  generalize sumG (valD 0) (usR 0 1) 0 (dayL (durB l).tail) = A' at *
  generalize sumG (valD 0) (usR 1 4) 0 (timL (durB l).tail).tail = B' at *
  unfold durV durE
  refine ⟨fun c => ?_, fun c => ⟨fun k => ?_, fun k => ⟨fun q => ?_, fun q => ?_⟩⟩⟩
  · rw [if_pos c] at e; rw [e]; exact ⟨rfl, rfl⟩
  · rw [if_neg c] at e
    have n : durP l = none := by
      rw [e]; unfold resG
      by_cases x : A'.2 = []
      · rw [if_pos x]
        have y : B'.2 ≠ [] := fun y => k ⟨by rw [a1, x], by rw [b1, y]⟩
        rw [if_neg y]; rfl
      · rw [if_neg x]; rfl
    rw [n]; exact ⟨rfl, rfl⟩
  · rw [if_neg c] at e
    have n : durP l = some (A'.1 + B'.1) := by
      rw [e]; unfold resG
      rw [if_pos (by rw [← a1]; exact k.1), if_pos (by rw [← b1]; exact k.2)]; rfl
    have big : 4398046511104 < A'.1 + B'.1 := by unfold Ap at a2 b2; omega
    rw [n]
    show (if 4398046511104 < A'.1 + B'.1 then (0 : Int) else _) = 0 ∧ (if 4398046511104 < A'.1 + B'.1 then (9 : Int) else 0) = 9
    rw [if_pos big, if_pos big]; exact ⟨rfl, rfl⟩
  · rw [if_neg c] at e
    have n : durP l = some (A'.1 + B'.1) := by
      rw [e]; unfold resG
      rw [if_pos (by rw [← a1]; exact k.1), if_pos (by rw [← b1]; exact k.2)]; rfl
    have same : A'.1 = A.1 ∧ B'.1 = B.1 := by unfold Ap at a2 b2; omega
    rw [n, same.1, same.2]
    show (if 4398046511104 < A.1 + B.1 then (0 : Int) else if l.head? = some 45 then -(A.1 + B.1) else A.1 + B.1) = _ ∧ (if 4398046511104 < A.1 + B.1 then (9 : Int) else 0) = 0
    rw [if_neg q, if_neg q]; exact ⟨rfl, rfl⟩
end Go.Proofs.YtehbegjocdahmaaGreatDoor
