/- Contract of civiltimeref11.Parse. -/
import Derived.Test.YtiaidmjhgfaobaaDoorAlX
import Derived.Test.YtiaidmjhgfaobaaDoorAlPar
import Derived.Deep.RegionWith
import Derived.OwnWalk
import Derived.Deep.QuietTactic
import Derived.BigQuiet
import Derived.Outline
namespace Go.Proofs.YtiaidmjhgfaobaaDoor
open Go.RowKit
set_option linter.unusedVariables false

/-- What the names so far say of a part. -/
def FI (P : ByteArray) (j : Nat) (z : Int) : Prop := (z = -1 ∧ ∀ m, m < j → ¬ nmV m = P) ∨ ∃ m, m < j ∧ z = m ∧ nmV m = P
theorem FI.yes {P : ByteArray} {j : Nat} {z : Int} (e : nmV j = P) : FI P (j + 1) j := .inr ⟨j, by omega, rfl, e⟩
theorem FI.no {P : ByteArray} {j : Nat} {z : Int} (h : FI P j z) (e : ¬ nmV j = P) : FI P (j + 1) z := by
  rcases h with ⟨h, g⟩ | ⟨m, a, b, c⟩
  · refine .inl ⟨h, fun m hm => ?_⟩
    rcases Nat.lt_or_ge m j with q | q
    · exact g m q
    · obtain rfl : m = j := by omega
      exact e
  · exact .inr ⟨m, by omega, b, c⟩
/-- A part of a text. -/
theorem ext_part (s : ByteArray) (f i : Nat) : (s.extract f i).data.toList = (s.data.toList.drop f).take (i - f) := Lib.extract_data s f i
theorem at_getD' {s : ByteArray} {k : Nat} (h : k < s.size) : s.data.toList.getD k 0 = s[k]'h := by
  have q : k < s.data.toList.length := by rw [Array.length_toList]; exact h
  rw [List.getD_eq_getElem?_getD, List.getElem?_eq_getElem q]
  rfl
set_option maxRecDepth 100000 in
set_option maxHeartbeats 1000000 in
theorem raparse (s : ByteArray) (hs : s.size ≤ maxLen) (w : World) :
    Calls Tryd.prog 26 #[.string s] w fun e w' => e = .returned (.tuple #[.int .i64 (psV s).1, .int .i64 (psV s).2]) ∧ Below w.heap.size w w' := by
  by_cases l : 200 < s.size
  · have kl : decide (200 < (s.size : Int)) = true := decide_eq_true (by omega)
    rw [show psV s = (0, 5) by unfold psV; rw [if_pos l]]
    clear l
    go_enter Tryd.func26, Tryd.ntmps26
    go_wp2
    go_ret2
    exact ⟨rfl, here w⟩
  have kl : decide (200 < (s.size : Int)) = false := decide_eq_false (by omega)
  by_cases e1 : s.data.toList = nneL
  · have k1 : (s.toList == [110, 111, 110, 101]) = true := by rw [beq_iff_eq, ByteArray.toList_eq]; exact e1
    rw [show psV s = (0, 0) by unfold psV; rw [if_neg l, if_pos e1]]
    clear l e1
    go_enter Tryd.func26, Tryd.ntmps26
    go_wp2
    go_ret2
    exact ⟨rfl, here w⟩
  have k1 : (s.toList == [110, 111, 110, 101]) = false := by rw [beq_eq_false_iff_ne, ByteArray.toList_eq]; exact e1
  by_cases e2 : s.data.toList = anyL
  · have k2 : (s.toList == [97, 110, 121]) = true := by rw [beq_iff_eq, ByteArray.toList_eq]; exact e2
    rw [show psV s = (8191, 0) by unfold psV; rw [if_neg l, if_neg e1, if_pos e2]]
    clear l e1 e2
    go_enter Tryd.func26, Tryd.ntmps26
    go_wp2
    go_ret2
    exact ⟨rfl, here w⟩
  have k2 : (s.toList == [97, 110, 121]) = false := by rw [beq_eq_false_iff_ne, ByteArray.toList_eq]; exact e2
  have RR : Hid (psF (rsL s.data.toList 0) 0 false = psV s) := by
    show _ = _
    rw [rs_start]; unfold psV; rw [if_neg l, if_neg e1, if_neg e2]
  have ln : s.data.toList.length = s.size := Array.length_toList
  have HN := Lib.hid ranames
  generalize psV s = R at *
  obtain ⟨R1, R2⟩ := R
  have l200 : s.size ≤ 200 := by omega
  clear l e1 e2 hs
  go_enter Tryd.func26, Tryd.ntmps26
  go_wp2
  go_loopw [4, 5, 6, 7] (fun ov fv tv iv wr => ∃ (i f o : Nat) (t : Bool), f ≤ i ∧ i ≤ s.size + 1 ∧ (i = s.size + 1 → f = i) ∧ o < 8192 ∧ ov = .int .i64 o ∧ fv = .int .i64 f ∧ tv = .bool t ∧ iv = .int .i64 i ∧ Hid (psF (rsL s.data.toList f) o t = (R1, R2)) ∧ Hid (∀ j, f ≤ j → j < i → ¬ s.data.toList.getD j 0 = 124) ∧ Hid (Below w.heap.size w wr)) (fun _ _ _ iv _ => s.size + 1 - (intOf iv).toNat)
  case atStart => exact ⟨0, 0, 0, false, by omega, by omega, fun _ => rfl, by omega, rfl, rfl, rfl, rfl, RR, fun j a b => absurd b (Nat.not_lt_zero _), here w⟩
  case round =>
    obtain ⟨i, f, o, t, hf, hi, hl, ho, rfl, rfl, rfl, rfl, HR, HJ, HA⟩ := hrel
    clear RR
    by_cases z : i ≤ s.size
    · have kz : decide ((i : Int) ≤ (s.size : Int)) = true := decide_eq_true (by omega)
      by_cases y : i < s.size ∧ ¬ s.data.toList.getD i 0 = 124
      · obtain ⟨y0, y1⟩ := y
        have ky : decide ((i : Int) < (s.size : Int)) = true := decide_eq_true (by omega)
        rw [at_getD' y0] at y1
        have kc : (((s[i]'y0).toNat : Int) != 124) = true := by
          rw [bne_iff_ne]
          intro q
          exact y1 (UInt8.toNat_inj.1 (by show _ = 124; omega))
        have HJ2 : Hid (∀ j, f ≤ j → j < i + 1 → ¬ s.data.toList.getD j 0 = 124) := fun j a b => by
          rcases Nat.lt_or_ge j i with q | q
          · exact HJ.out j a q
          · obtain rfl : j = i := by omega
            rw [at_getD' y0]; exact y1
        clear y1 hl HJ HN
        go_wp2
        go_roundw
        case rel => exact ⟨i + 1, f, o, t, by omega, by omega, by omega, ho, rfl, rfl, rfl, by go_num, HR, HJ2, HA⟩
        case measure => simp [intOf]; omega
      · have kc : Hid (i < s.size → s.data.toList.getD i 0 = 124) := fun q => Classical.byContradiction fun h => y ⟨q, h⟩
        obtain ⟨P, hP⟩ : ∃ P, s.extract f i = P := ⟨_, rfl⟩
        have ST := rs_step (l := s.data.toList) hf (by omega) HJ.out (by rw [ln]; exact kc.out)
        rw [← ext_part s f i, hP] at ST
        replace HR : Hid (psF (P.data.toList :: rsL s.data.toList (i + 1)) o t = (R1, R2)) := by show _ = _; rw [← ST]; exact HR.out
        have YES : Hid (∀ m, m < 13 → nmV m = P → psF (rsL s.data.toList (i + 1)) (o ||| 2 ^ m) (t || o.testBit m) = (R1, R2)) := fun m hm e => by
          have q := numP_at hm (show (nmV m).data.toList = P.data.toList by rw [e])
          rw [← HR.out, psF_yes (by omega), q]
        have NO : Hid ((∀ m, m < 13 → ¬ nmV m = P) → R1 = 0 ∧ R2 = 3) := fun h => by
          have q := HR.out
          rw [psF_no (numP_no fun j hj e => h j hj (ba_list e))] at q
          exact ⟨(congrArg Prod.fst q).symm, (congrArg Prod.snd q).symm⟩
        clear HR HJ ST
        by_cases yl : i < s.size
        · have ky : decide ((i : Int) < (s.size : Int)) = true := decide_eq_true (by omega)
          have kc2 : (((s[i]'yl).toNat : Int) != 124) = false := by
            have q := kc.out yl
            rw [at_getD' yl] at q
            rw [q]; rfl
          clear kc y
          go_wp2
          go_loopw [8, 9] (fun rv kv wr2 => ∃ (x : Int) (j : Nat), j ≤ 13 ∧ rv = .int .i64 x ∧ kv = .int .i64 j ∧ Hid (FI P j x) ∧ Hid (Below w.heap.size w wr2)) (fun _ kv _ => 13 - (intOf kv).toNat)
          case atStart => exact ⟨-1, 0, Nat.zero_le _, rfl, rfl, .inl ⟨rfl, fun m hm => absurd hm (Nat.not_lt_zero _)⟩, HA⟩
          case round =>
            obtain ⟨x, j, hj, rfl, rfl, HF, HB⟩ := hrel
            clear HA
            by_cases v : j ≤ 12
            · have kv : decide ((j : Int) ≤ 12) = true := decide_eq_true (by omega)
              have j13 : (j : Int) < 13 := by omega
              have NC : Hid (∀ (w' : World) (b' : Nat), NmsAt w' b' → w'.cell? ⟨b', j, none⟩ = some (.string (nmV j))) := fun w' b' h => h.c j (by omega)
              have FY : Hid (nmV j = P → FI P (j + 1) j) := fun e => FI.yes (z := x) e
              have FN : Hid (¬ nmV j = P → FI P (j + 1) x) := fun e => FI.no HF.out e
              clear HF YES NO
              generalize nmV j = S at *
              by_cases e : S = P
              · have FY2 := Lib.hid (FY.out e)
                have eq : (S.toList == P.toList) = true := by rw [e]; exact beq_self_eq_true _
                clear FY FN e
                go_wp2_with fail
                go_region_with (go_at_call 52; (with_reducible refine (HN.out _).mono ?_); rintro e w' ⟨⟨b', rfl, hn⟩, hb⟩; have nc := NC.out _ _ hn; have nl := hn.lt; have hq := Lib.hid (down (Below.drew (here _)) hb); clear hn hb)
                all_goals go_wp2
                all_goals go_roundw
                case' rel => exact ⟨j, j + 1, by omega, rfl, by go_num, FY2, Lib.hid (down HB.out hq.out)⟩
                case' measure => simp [intOf]; omega
              · have FN2 := Lib.hid (FN.out e)
                have ne : (S.toList == P.toList) = false := by rw [beq_eq_false_iff_ne, ByteArray.toList_eq, ByteArray.toList_eq]; exact fun x => e (ba_list x)
                clear FY FN e
                go_wp2_with fail
                go_region_with (go_at_call 52; (with_reducible refine (HN.out _).mono ?_); rintro e w' ⟨⟨b', rfl, hn⟩, hb⟩; have nc := NC.out _ _ hn; have nl := hn.lt; have hq := Lib.hid (down (Below.drew (here _)) hb); clear hn hb)
                all_goals go_wp2
                all_goals go_roundw
                case' rel => exact ⟨x, j + 1, by omega, rfl, by go_num, FN2, Lib.hid (down HB.out hq.out)⟩
                case' measure => simp [intOf]; omega
            · have kv : decide ((j : Int) ≤ 12) = false := decide_eq_false (by omega)
              obtain rfl : j = 13 := by omega
              rcases HF.out with ⟨rfl, g⟩ | ⟨m, hm, rfl, e⟩
              · obtain ⟨rfl, rfl⟩ := NO.out g
                clear HF YES NO g HN hP
                go_wp2
                go_ret2
                exact ⟨rfl, HB.out⟩
              · have nx := Lib.hid (YES.out m hm e)
                have hh := Lib.hid (fun w => rahas o m ho (by omega) w)
                have p := pow_lt (show m ≤ 12 by omega)
                have q1 := al_pow (show m ≤ 12 by omega)
                have q2 := or_i64 o (2 ^ m) (by omega) (by omega)
                have q3 := or_lt ho p
                obtain ⟨M, hM⟩ : ∃ M : Nat, 2 ^ m = M := ⟨_, rfl⟩
                rw [hM] at p q1 q2 q3 nx
                generalize o ||| M = O at *
                clear HF YES NO HN e hM hP
                have HZ : Hid (∀ k, i + 1 ≤ k → k < i + 1 → ¬ s.data.toList.getD k 0 = 124) := fun k a b => absurd a (by omega)
                cases t
                · rw [Bool.false_or] at nx
                  generalize o.testBit m = T at *
                  go_wp2_with fail
                  refine (hh.out _).mono ?_
                  rintro e wz ⟨rfl, rfl⟩
                  go_wp2
                  go_roundw
                  case rel => exact ⟨i + 1, i + 1, O, T, by omega, by omega, fun h => h.symm ▸ rfl, q3, rfl, by go_num, rfl, by go_num, nx, HZ, HB⟩
                  case measure => simp [intOf]; omega
                · rw [Bool.true_or] at nx
                  clear hh
                  go_wp2
                  go_roundw
                  case rel => exact ⟨i + 1, i + 1, O, true, by omega, by omega, fun h => h.symm ▸ rfl, q3, rfl, by go_num, rfl, by go_num, nx, HZ, HB⟩
                  case measure => simp [intOf]; omega
        · have ky : decide ((i : Int) < (s.size : Int)) = false := decide_eq_false (by omega)
          clear kc y
          go_wp2
          go_loopw [8, 9] (fun rv kv wr2 => ∃ (x : Int) (j : Nat), j ≤ 13 ∧ rv = .int .i64 x ∧ kv = .int .i64 j ∧ Hid (FI P j x) ∧ Hid (Below w.heap.size w wr2)) (fun _ kv _ => 13 - (intOf kv).toNat)
          case atStart => exact ⟨-1, 0, Nat.zero_le _, rfl, rfl, .inl ⟨rfl, fun m hm => absurd hm (Nat.not_lt_zero _)⟩, HA⟩
          case round =>
            obtain ⟨x, j, hj, rfl, rfl, HF, HB⟩ := hrel
            clear HA
            by_cases v : j ≤ 12
            · have kv : decide ((j : Int) ≤ 12) = true := decide_eq_true (by omega)
              have j13 : (j : Int) < 13 := by omega
              have NC : Hid (∀ (w' : World) (b' : Nat), NmsAt w' b' → w'.cell? ⟨b', j, none⟩ = some (.string (nmV j))) := fun w' b' h => h.c j (by omega)
              have FY : Hid (nmV j = P → FI P (j + 1) j) := fun e => FI.yes (z := x) e
              have FN : Hid (¬ nmV j = P → FI P (j + 1) x) := fun e => FI.no HF.out e
              clear HF YES NO
              generalize nmV j = S at *
              by_cases e : S = P
              · have FY2 := Lib.hid (FY.out e)
                have eq : (S.toList == P.toList) = true := by rw [e]; exact beq_self_eq_true _
                clear FY FN e
                go_wp2_with fail
                go_region_with (go_at_call 52; (with_reducible refine (HN.out _).mono ?_); rintro e w' ⟨⟨b', rfl, hn⟩, hb⟩; have nc := NC.out _ _ hn; have nl := hn.lt; have hq := Lib.hid (down (Below.drew (here _)) hb); clear hn hb)
                all_goals go_wp2
                all_goals go_roundw
                case' rel => exact ⟨j, j + 1, by omega, rfl, by go_num, FY2, Lib.hid (down HB.out hq.out)⟩
                case' measure => simp [intOf]; omega
              · have FN2 := Lib.hid (FN.out e)
                have ne : (S.toList == P.toList) = false := by rw [beq_eq_false_iff_ne, ByteArray.toList_eq, ByteArray.toList_eq]; exact fun x => e (ba_list x)
                clear FY FN e
                go_wp2_with fail
                go_region_with (go_at_call 52; (with_reducible refine (HN.out _).mono ?_); rintro e w' ⟨⟨b', rfl, hn⟩, hb⟩; have nc := NC.out _ _ hn; have nl := hn.lt; have hq := Lib.hid (down (Below.drew (here _)) hb); clear hn hb)
                all_goals go_wp2
                all_goals go_roundw
                case' rel => exact ⟨x, j + 1, by omega, rfl, by go_num, FN2, Lib.hid (down HB.out hq.out)⟩
                case' measure => simp [intOf]; omega
            · have kv : decide ((j : Int) ≤ 12) = false := decide_eq_false (by omega)
              obtain rfl : j = 13 := by omega
              rcases HF.out with ⟨rfl, g⟩ | ⟨m, hm, rfl, e⟩
              · obtain ⟨rfl, rfl⟩ := NO.out g
                clear HF YES NO g HN hP
                go_wp2
                go_ret2
                exact ⟨rfl, HB.out⟩
              · have nx := Lib.hid (YES.out m hm e)
                have hh := Lib.hid (fun w => rahas o m ho (by omega) w)
                have p := pow_lt (show m ≤ 12 by omega)
                have q1 := al_pow (show m ≤ 12 by omega)
                have q2 := or_i64 o (2 ^ m) (by omega) (by omega)
                have q3 := or_lt ho p
                obtain ⟨M, hM⟩ : ∃ M : Nat, 2 ^ m = M := ⟨_, rfl⟩
                rw [hM] at p q1 q2 q3 nx
                generalize o ||| M = O at *
                clear HF YES NO HN e hM hP
                have HZ : Hid (∀ k, i + 1 ≤ k → k < i + 1 → ¬ s.data.toList.getD k 0 = 124) := fun k a b => absurd a (by omega)
                cases t
                · rw [Bool.false_or] at nx
                  generalize o.testBit m = T at *
                  go_wp2_with fail
                  refine (hh.out _).mono ?_
                  rintro e wz ⟨rfl, rfl⟩
                  go_wp2
                  go_roundw
                  case rel => exact ⟨i + 1, i + 1, O, T, by omega, by omega, fun h => h.symm ▸ rfl, q3, rfl, by go_num, rfl, by go_num, nx, HZ, HB⟩
                  case measure => simp [intOf]; omega
                · rw [Bool.true_or] at nx
                  clear hh
                  go_wp2
                  go_roundw
                  case rel => exact ⟨i + 1, i + 1, O, true, by omega, by omega, fun h => h.symm ▸ rfl, q3, rfl, by go_num, rfl, by go_num, nx, HZ, HB⟩
                  case measure => simp [intOf]; omega
    · have kz : decide ((i : Int) ≤ (s.size : Int)) = false := decide_eq_false (by omega)
      obtain rfl : i = s.size + 1 := by omega
      obtain rfl := hl rfl
      have q := HR.out
      rw [← ln, rs_end] at q
      replace q : (if t then ((0 : Int), (8 : Int)) else ((o : Int), 0)) = (R1, R2) := q
      clear HR HJ HN ln
      cases t
      · obtain ⟨rfl, rfl⟩ : (o : Int) = R1 ∧ (0 : Int) = R2 := ⟨congrArg Prod.fst q, congrArg Prod.snd q⟩
        clear q
        go_wp2
        go_ret2
        exact ⟨rfl, HA.out⟩
      · obtain ⟨rfl, rfl⟩ : (0 : Int) = R1 ∧ (8 : Int) = R2 := ⟨congrArg Prod.fst q, congrArg Prod.snd q⟩
        clear q
        go_wp2
        go_ret2
        exact ⟨rfl, HA.out⟩
end Go.Proofs.YtiaidmjhgfaobaaDoor
