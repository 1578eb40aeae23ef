/- The contract of clock.ParseDuration. -/
import Derived.Test.YtehbegjocdahmaaGreatDoorCkP

namespace Go.Proofs.YtehbegjocdahmaaGreatDoor

open Go.RowKit

set_option linter.unusedVariables false

set_option maxRecDepth 100000 in
set_option maxHeartbeats 4000000 in
theorem kpd_walk (s s1 s2 a b : ByteArray) (b0 b1 x y z p q : Bool) (A B V E : Int)
    (H1 : ∀ w, Calls Tryz.prog 29 #[.string s, .string ⟨#[45]⟩] w fun e w' => e = .returned (.tuple #[.string s1, .bool b0]) ∧ w = w')
    (H2 : ∀ w, Calls Tryz.prog 29 #[.string s1, .string ⟨#[80]⟩] w fun e w' => e = .returned (.tuple #[.string s2, .bool b1]) ∧ w = w')
    (H3 : ∀ w, Calls Tryz.prog 30 #[.string s2, .string ⟨#[84]⟩] w fun e w' => e = .returned (.tuple #[.string a, .string b, .bool z]) ∧ ∃ m, w' = w.drewN m)
    (hx : a.toList.isEmpty = x) (hy : b.toList.isEmpty = y)
    (H4 : ∀ w, Units w → Calls Tryz.prog 31 #[.string a, .int .i64 0, .int .i64 1] w fun e w' => e = .returned (.tuple #[.int .i64 A, .bool p]) ∧ ∃ m, w' = w.drewN m)
    (H5 : ∀ w, Units w → Calls Tryz.prog 31 #[.string b, .int .i64 1, .int .i64 4] w fun e w' => e = .returned (.tuple #[.int .i64 B, .bool q]) ∧ ∃ m, w' = w.drewN m)
    (A0 : 0 ≤ A) (A1 : A ≤ 400000000000000000) (B0 : 0 ≤ B) (B1 : B ≤ 1200000000000000000)
    (h : (!b1 || (x && !z) || (y && z)) = true ∧ V = 0 ∧ E = 3 ∨ (!b1 || (x && !z) || (y && z)) = false ∧ ((p && q) = false ∧ V = 0 ∧ E = 3 ∨ (p && q) = true ∧ (4398046511104 < A + B ∧ V = 0 ∧ E = 9 ∨ A + B ≤ 4398046511104 ∧ V = (if b0 then -(A + B) else A + B) ∧ E = 0)))
    (w : World) (hu : Units w) :
    Calls Tryz.prog 11 #[.string s] w fun e w' => e = .returned (.tuple #[.int .i64 V, .int .i64 E]) ∧ ∃ m, w' = w.drewN m := by
  have HL := fun w => kline (A + B) ⟨by omega, by omega⟩ w
  have nil1 : (a.toList == []) = a.toList.isEmpty := by cases a.toList <;> rfl
  have nil2 : (b.toList == []) = b.toList.isEmpty := by cases b.toList <;> rfl
  rw [hx] at nil1
  rw [hy] at nil2
  replace H1 := Lib.hid H1
  replace H2 := Lib.hid H2
  replace H3 := Lib.hid H3
  replace H4 := Lib.hid (fun m => H4 _ (show Units (w.drewN m) from hu))
  replace H5 := Lib.hid (fun m => H5 _ (show Units (w.drewN m) from hu))
  clear hu
  rcases h with ⟨h, rfl, rfl⟩ | ⟨h, ⟨k, rfl, rfl⟩ | ⟨k, ⟨j, rfl, rfl⟩ | ⟨j, rfl, rfl⟩⟩⟩
  · replace HL := Lib.hid HL
    clear H4 H5
    cases b1 <;> cases x <;> cases y <;> cases z <;> (try cases h)
    all_goals
      go_enter Tryz.func11, Tryz.ntmps11
      go_wp2_with fail
      refine (H1.out _).mono ?_
      rintro e w' ⟨rfl, rfl⟩
      go_wp2_with fail
      refine (H2.out _).mono ?_
      rintro e w' ⟨rfl, rfl⟩
      go_wp2_with fail
      refine (H3.out _).mono ?_
      rintro e w' ⟨rfl, m, rfl⟩
      go_wp2
      go_ret2
      exact ⟨rfl, _, rfl⟩
  · replace HL := Lib.hid HL
    cases b1 <;> cases x <;> cases y <;> cases z <;> (try cases h)
    all_goals
      cases p <;> cases q <;> (try cases k)
      all_goals
        go_enter Tryz.func11, Tryz.ntmps11
        go_wp2_with fail
        refine (H1.out _).mono ?_
        rintro e w' ⟨rfl, rfl⟩
        go_wp2_with fail
        refine (H2.out _).mono ?_
        rintro e w' ⟨rfl, rfl⟩
        go_wp2_with fail
        refine (H3.out _).mono ?_
        rintro e w' ⟨rfl, m, rfl⟩
        go_wp2_with fail
        refine (H4.out _).mono ?_
        rintro e w' ⟨rfl, m2, rfl⟩
        go_wp2_with fail
        refine (H5.out (m + m2)).mono ?_
        rintro e w' ⟨rfl, m3, rfl⟩
        go_wp2
        go_ret2
        exact ⟨rfl, _, rfl⟩
  · rw [show linB (A + B) = false by rw [← Bool.not_eq_true, linB_iff]; omega] at HL
    replace HL := Lib.hid HL
    cases p <;> cases q <;> (try cases k)
    cases b1 <;> cases x <;> cases y <;> cases z <;> (try cases h)
    all_goals
      go_enter Tryz.func11, Tryz.ntmps11
      go_wp2_with fail
      refine (H1.out _).mono ?_
      rintro e w' ⟨rfl, rfl⟩
      go_wp2_with fail
      refine (H2.out _).mono ?_
      rintro e w' ⟨rfl, rfl⟩
      go_wp2_with fail
      refine (H3.out _).mono ?_
      rintro e w' ⟨rfl, m, rfl⟩
      go_wp2_with fail
      refine (H4.out _).mono ?_
      rintro e w' ⟨rfl, m2, rfl⟩
      go_wp2_with fail
      refine (H5.out (m + m2)).mono ?_
      rintro e w' ⟨rfl, m3, rfl⟩
      go_wp2_with fail
      refine (HL.out _).mono ?_
      rintro e w' ⟨rfl, rfl⟩
      go_wp2
      go_ret2
      exact ⟨rfl, _, rfl⟩
  · rw [show linB (A + B) = true by rw [linB_iff]; omega] at HL
    replace HL := Lib.hid HL
    cases p <;> cases q <;> (try cases k)
    cases b1 <;> cases x <;> cases y <;> cases z <;> (try cases h)
    all_goals
      cases b0
      all_goals
        go_enter Tryz.func11, Tryz.ntmps11
        go_wp2_with fail
        refine (H1.out _).mono ?_
        rintro e w' ⟨rfl, rfl⟩
        go_wp2_with fail
        refine (H2.out _).mono ?_
        rintro e w' ⟨rfl, rfl⟩
        go_wp2_with fail
        refine (H3.out _).mono ?_
        rintro e w' ⟨rfl, m, rfl⟩
        go_wp2_with fail
        refine (H4.out _).mono ?_
        rintro e w' ⟨rfl, m2, rfl⟩
        go_wp2_with fail
        refine (H5.out (m + m2)).mono ?_
        rintro e w' ⟨rfl, m3, rfl⟩
        go_wp2_with fail
        refine (HL.out _).mono ?_
        rintro e w' ⟨rfl, rfl⟩
        go_wp2
        go_ret2
        exact ⟨rfl, _, rfl⟩
theorem kpd (s : ByteArray) (hs : s.size ≤ 1000000) (w : World) (hu : Units w) :
    Calls Tryz.prog 11 #[.string s] w fun e w' => e = .returned (.tuple #[.int .i64 (durV s.data.toList), .int .i64 (durE s.data.toList)]) ∧ ∃ m, w' = w.drewN m := by
  have s1 := Nat.le_trans (cutP_le s 45) hs
  have s2 := Nat.le_trans (cutP_le (cutP s 45) 80) s1
  obtain ⟨a, b, az, bz, al, bl, HC⟩ := kcut (cutP (cutP s 45) 80) s2
  have l1 : (cutP s 45).data.toList = durB s.data.toList := cutP_list s 45
  have l2 := cutP_list (cutP s 45) 80
  rw [l1] at l2
  have na := sum_bd (usR 0 1) (us_ok _ (.inl rfl)) 0 a.data.toList (by omega)
  have nb := sum_bd (usR 1 4) (us_ok _ (.inr rfl)) 0 b.data.toList (by omega)
  rw [show (usR 0 1).length = 1 from rfl] at na
  rw [show (usR 1 4).length = 3 from rfl] at nb
  refine kpd_walk s (cutP s 45) (cutP (cutP s 45) 80) a b (s.data.toList.head? == some 45) ((cutP s 45).data.toList.head? == some 80) a.data.toList.isEmpty b.data.toList.isEmpty (!(timL (cutP (cutP s 45) 80).data.toList).isEmpty) _ _ _ _ (durV s.data.toList) (durE s.data.toList)
    (fun w => kcp s hs 45 w) (fun w => kcp _ s1 80 w) HC (by rw [ByteArray.toList_eq]) (by rw [ByteArray.toList_eq]) (fun w hu => ksum a az 0 1 (.inl ⟨rfl, rfl⟩) w hu) (fun w hu => ksum b bz 1 4 (.inr ⟨rfl, rfl⟩) w hu) na.1 (by omega) nb.1 (by omega) ?_ w hu
  rw [l1]
  by_cases h : (durB s.data.toList).head? = some 80
  · rw [if_pos h] at l2
    rw [l2] at al bl ⊢
    obtain ⟨d1, d2⟩ := dur_parts h (A := sumG capV (usR 0 1) 0 a.data.toList) (B := sumG capV (usR 1 4) 0 b.data.toList) (by rw [al]) (by rw [bl])
    generalize sumG capV (usR 0 1) 0 a.data.toList = A at *
    generalize sumG capV (usR 1 4) 0 b.data.toList = B at *
    rw [al, bl]
    have eh : ((durB s.data.toList).head? == some 80) = true := by simpa using h
    rw [eh]
    generalize dayL (durB s.data.toList).tail = D at *
    generalize timL (durB s.data.toList).tail = T at *
    have cond : (!true || (D.isEmpty && !!T.isEmpty) || (T.tail.isEmpty && !T.isEmpty)) = true ↔ ((D = [] ∧ T = []) ∨ (T ≠ [] ∧ T.tail = [])) := by
      cases D <;> cases T <;> simp
    by_cases c : (D = [] ∧ T = []) ∨ (T ≠ [] ∧ T.tail = [])
    · left; exact ⟨cond.2 c, (d1 c).1, (d1 c).2⟩
    · right
      have cf : (!true || (D.isEmpty && !!T.isEmpty) || (T.tail.isEmpty && !T.isEmpty)) = false := by
        rw [← Bool.not_eq_true]; exact fun x => c (cond.1 x)
      refine ⟨cf, ?_⟩
      obtain ⟨e1, e2⟩ := d2 c
      have two : (A.2.isEmpty && B.2.isEmpty) = true ↔ A.2 = [] ∧ B.2 = [] := by simp
      by_cases k : A.2 = [] ∧ B.2 = []
      · right
        refine ⟨two.2 k, ?_⟩
        obtain ⟨f1, f2⟩ := e2 k
        by_cases q : 4398046511104 < A.1 + B.1
        · left; exact ⟨q, f1 q⟩
        · right
          refine ⟨by omega, ?_, (f2 q).2⟩
          rw [(f2 q).1]
          by_cases g : s.data.toList.head? = some 45
          · rw [if_pos g, if_pos (by simpa using g)]
          · rw [if_neg g, if_neg (by simpa using g)]
      · left
        refine ⟨?_, e1 k⟩
        rw [← Bool.not_eq_true]; exact fun x => k (two.1 x)
  · left
    have eh : ((durB s.data.toList).head? == some 80) = false := by simpa using h
    have n : durP s.data.toList = none := by unfold durP; rw [if_neg (fun x => h x.1)]
    rw [eh]
    unfold durV durE
    rw [n]
    exact ⟨rfl, rfl, rfl⟩
end Go.Proofs.YtehbegjocdahmaaGreatDoor
