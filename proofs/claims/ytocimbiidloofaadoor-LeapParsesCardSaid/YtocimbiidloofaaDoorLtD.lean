/- The contract of civiltimeref09.date. -/
import Derived.Test.YtocimbiidloofaaDoorLtTxt
import Derived.Test.YtocimbiidloofaaDoorLRefN
import Derived.Test.YtocimbiidloofaaDoorLRefJ
import Derived.Deep.QuietTactic
import Derived.BigQuiet
import Derived.Outline
namespace Go.Proofs.YtocimbiidloofaaDoor
open Go.RowKit
set_option linter.unusedVariables false

/-- The reference's Parse of one to four digits. -/
theorem rnum (s : ByteArray) (h0 : 0 < s.size) (hs : s.size ≤ 4) (hd : s.data.toList.all isDig = true) (w : World) :
    Calls Tryd.prog 40 #[.string s] w fun e w' => e = .returned (.tuple #[.int .i64 (valD 0 s.data.toList), .int .i64 0]) ∧ w = w' := by
  have hl : s.data.toList.length = s.size := Array.length_toList
  have h := refparse_all s (by unfold maxLen; omega) w
  have b := valD_four hd (by omega)
  obtain ⟨c, r, e⟩ : ∃ c r, s.data.toList = c :: r := by
    cases hh : s.data.toList with
    | nil => rw [hh] at hl; simp at hl; omega
    | cons c r => exact ⟨c, r, rfl⟩
  have d : 48 ≤ c.toNat := by rw [e, List.all_cons, Bool.and_eq_true] at hd; exact (isDig_iff.1 hd.1).1
  have hc : c ≠ 45 := fun x => by rw [x] at d; exact absurd d (by decide)
  have i : isDecL s.data.toList = true := by
    unfold isDecL digsB
    rw [e, trim_cons, if_neg hc, ← e, hd, e]; rfl
  have n : num s.data.toList = valD 0 s.data.toList := by
    rw [e, num_pos r hc, ← e, val_valD _ _ hd]; rfl
  have f : pV s.data.toList = valD 0 s.data.toList ∧ pE s.data.toList = 0 := by
    unfold pV pE
    rw [if_neg (by omega), if_pos i, if_neg (by omega), if_pos i, n]
    exact ⟨xV_in ⟨by omega, by omega⟩, xE_in ⟨by omega, by omega⟩⟩
  rw [f.1, f.2] at h
  exact h
theorem isD_noform {c : List UInt8} (h : formL c = false) : isD c = false := by unfold isD; rw [h]; rfl
set_option maxRecDepth 100000 in
set_option maxHeartbeats 1000000 in
theorem rldate_form (s : ByteArray) (hs : s.size ≤ maxLen) (h : formL s.data.toList = false) (w : World) :
    Calls Tryd.prog 28 #[.string s] w fun e w' => e = .returned (.tuple #[.int .i64 0, .bool false]) ∧ Below w.heap.size w w' := by
  unfold maxLen at hs
  have hl : s.data.toList.length = s.size := Array.length_toList
  by_cases z : s.size = 10
  · have kz : ((s.size : Int) != 10) = false := by simp; omega
    have z1 : s.size ≤ 10 := by omega
    have z2 : 10 ≤ s.size := by omega
    have p4 : 4 < s.size := by omega
    have p7 : 7 < s.size := by omega
    have h4 : ((s[4]'p4).toNat : Int) = 45 ↔ s.data.toList.getD 4 0 = 45 := by
      rw [at_getD p4, ← UInt8.toNat_inj]; show _ ↔ _ = 45; omega
    have h7 : ((s[7]'p7).toNat : Int) = 45 ↔ s.data.toList.getD 7 0 = 45 := by
      rw [at_getD p7, ← UInt8.toNat_inj]; show _ ↔ _ = 45; omega
    by_cases q4 : ((s[4]'p4).toNat : Int) = 45
    · by_cases q7 : ((s[7]'p7).toNat : Int) = 45
      · have k4 : (((s[4]'p4).toNat : Int) != 45) = false := by simpa using q4
        have k7 : (((s[7]'p7).toNat : Int) != 45) = false := by simpa using q7
        have H4 := Lib.hid (h4.1 q4)
        have H7 := Lib.hid (h7.1 q7)
        have F : Hid (FormUpto s.data.toList 10 → False) := fun f => by rw [form_yes (by omega) f] at h; cases h
        clear q4 q7 h4 h7 h z hl
        go_enter Tryd.func28, Tryd.ntmps28
        go_wp2
        go_loop [4] (fun i => ∃ k : Nat, k ≤ 10 ∧ i = .int .i64 k ∧ Hid (FormUpto s.data.toList k)) (fun i => 10 - (intOf i).toNat)
        case atStart => exact ⟨0, Nat.zero_le _, rfl, fun i hi => absurd hi (Nat.not_lt_zero _)⟩
        case round =>
          obtain ⟨k, hk, rfl, HF⟩ := hrel
          by_cases y : k < 10
          · have ky : decide ((k : Int) < (s.size : Int)) = true := decide_eq_true (by omega)
            have ks : k < s.size := by omega
            have step : Hid (formAt s.data.toList k = true → FormUpto s.data.toList (k + 1)) := fun e i hi => by
              rcases Nat.lt_or_ge i k with p | p
              · exact HF.out i p
              · obtain rfl : i = k := by omega
                exact e
            by_cases e4 : k = 4
            · have a : Hid (FormUpto s.data.toList (k + 1)) := step.out (by unfold formAt; rw [if_pos (.inl e4), e4, H4.out]; rfl)
              have j4 : ((k : Int) != 4) = false := by simp; omega
              clear step HF F e4
              go_wp2
              go_round
              case rel => exact ⟨k + 1, by omega, by go_num, a⟩
              case measure => simp [intOf]; omega
            · have j4 : ((k : Int) != 4) = true := by simp; omega
              by_cases e7 : k = 7
              · have a : Hid (FormUpto s.data.toList (k + 1)) := step.out (by unfold formAt; rw [if_pos (.inr e7), e7, H7.out]; rfl)
                have j7 : ((k : Int) != 7) = false := by simp; omega
                clear step HF F e4 e7
                go_wp2
                go_round
                case rel => exact ⟨k + 1, by omega, by go_num, a⟩
                case measure => simp [intOf]; omega
              · have j7 : ((k : Int) != 7) = true := by simp; omega
                have fk : formAt s.data.toList k = isDig (s[k]'ks) := by unfold formAt; rw [if_neg (by omega), at_getD ks]
                by_cases d0 : ((s[k]'ks).toNat : Int) < 48
                · have x0 : decide (((s[k]'ks).toNat : Int) < 48) = true := decide_eq_true d0
                  clear step HF F e4 e7 fk
                  go_wp2
                  go_ret2
                  exact ⟨rfl, Below.refl _ _⟩
                · have x0 : decide (((s[k]'ks).toNat : Int) < 48) = false := decide_eq_false d0
                  by_cases d1 : 57 < ((s[k]'ks).toNat : Int)
                  · have x1 : decide (57 < ((s[k]'ks).toNat : Int)) = true := decide_eq_true d1
                    clear step HF F e4 e7 fk
                    go_wp2
                    go_ret2
                    exact ⟨rfl, Below.refl _ _⟩
                  · have x1 : decide (57 < ((s[k]'ks).toNat : Int)) = false := decide_eq_false d1
                    have a : Hid (FormUpto s.data.toList (k + 1)) := step.out (by rw [fk, isDig_iff]; omega)
                    clear step HF F e4 e7 fk
                    go_wp2
                    go_round
                    case rel => exact ⟨k + 1, by omega, by go_num, a⟩
                    case measure => simp [intOf]; omega
          · have e : k = 10 := by omega
            have f : FormUpto s.data.toList 10 := by rw [← e]; exact HF.out
            exact absurd f F.out
      · have k4 : (((s[4]'p4).toNat : Int) != 45) = false := by simpa using q4
        have k7 : (((s[7]'p7).toNat : Int) != 45) = true := by simpa using q7
        clear q4 q7 h4 h7 h z hl
        go_enter Tryd.func28, Tryd.ntmps28
        go_wp2
        go_ret2
        exact ⟨rfl, Below.refl _ _⟩
    · have k4 : (((s[4]'p4).toNat : Int) != 45) = true := by simpa using q4
      clear q4 h4 h7 h z hl
      go_enter Tryd.func28, Tryd.ntmps28
      go_wp2
      go_ret2
      exact ⟨rfl, Below.refl _ _⟩
  · have kz : ((s.size : Int) != 10) = true := by simp; omega
    clear z h hl
    go_enter Tryd.func28, Tryd.ntmps28
    go_wp2
    go_ret2
    exact ⟨rfl, Below.refl _ _⟩
set_option maxRecDepth 100000 in
set_option maxHeartbeats 1000000 in
theorem rldate_some (s : ByteArray) (h : formL s.data.toList = true) (b : Bool) (N : Int) (hb : vld (yearOf s.data.toList) (monOf s.data.toList) (dayOf s.data.toList) = b) (hN : (if b then dyOf s.data.toList else 0) = N) (w : World) :
    Calls Tryd.prog 28 #[.string s] w fun e w' => e = .returned (.tuple #[.int .i64 N, .bool b]) ∧ Below w.heap.size w w' := by
  obtain ⟨hz, ⟨z1, g1, v1⟩, ⟨z2, g2, v2⟩, ⟨z3, g3, v3⟩⟩ := parts_text h
  have all := (form_of h).2
  have HA := fun w => rnum (s.extract 0 4) (by omega) (by omega) g1 w
  have HB := fun w => rnum (s.extract 5 7) (by omega) (by omega) g2 w
  have HC := fun w => rnum (s.extract 8 s.size) (by omega) (by omega) g3 w
  have b1 := valD_four g1 (by rw [show (s.extract 0 4).data.toList.length = (s.extract 0 4).size from Array.length_toList]; omega)
  have b2 := valD_four g2 (by rw [show (s.extract 5 7).data.toList.length = (s.extract 5 7).size from Array.length_toList]; omega)
  have b3 := valD_four g3 (by rw [show (s.extract 8 s.size).data.toList.length = (s.extract 8 s.size).size from Array.length_toList]; omega)
  rw [v1] at HA b1
  rw [v2] at HB b2
  rw [v3] at HC b3
  have HG : ∀ w, Calls Tryd.prog 41 #[.agg #[.int .i64 (yearOf s.data.toList), .int .i64 (monOf s.data.toList), .int .i64 (dayOf s.data.toList)]] w fun e w' => e = .returned (.tuple #[.int .i64 N, .bool b]) ∧ Below w.heap.size w w' := by
    intro w
    cases b
    · rw [← hN]; exact rjgreg_no _ _ _ ⟨by omega, by omega⟩ ⟨by omega, by omega⟩ ⟨by omega, by omega⟩ hb w
    · rw [← hN]; exact rjgreg_yes _ _ _ hb w
  have p4 : 4 < s.size := by omega
  have p7 : 7 < s.size := by omega
  have k4 : ((s[4]'p4).toNat : Int) = 45 := by
    have := all 4 (by omega)
    unfold formAt at this
    rw [if_pos (.inl rfl), at_getD p4, beq_iff_eq] at this
    rw [this]; rfl
  have k7 : ((s[7]'p7).toNat : Int) = 45 := by
    have := all 7 (by omega)
    unfold formAt at this
    rw [if_pos (.inr rfl), at_getD p7, beq_iff_eq] at this
    rw [this]; rfl
  replace k4 : (((s[4]'p4).toNat : Int) != 45) = false := by simpa using k4
  replace k7 : (((s[7]'p7).toNat : Int) != 45) = false := by simpa using k7
  have s10 : s.size ≤ 10 := by omega
  have s11 : 10 ≤ s.size := by omega
  have kz : ((s.size : Int) != 10) = false := by simp; omega
  have dig : Hid (∀ k (hk : k < s.size), k ≠ 4 → k ≠ 7 → 48 ≤ (s[k]'hk).toNat ∧ (s[k]'hk).toNat ≤ 57) := by
    show ∀ k (hk : k < s.size), _
    intro k hk e4 e7
    have := all k (by omega)
    unfold formAt at this
    rw [if_neg (by omega), at_getD hk, isDig_iff] at this
    exact this
  replace HA := Lib.hid HA
  replace HB := Lib.hid HB
  replace HC := Lib.hid HC
  replace HG := Lib.hid HG
  clear h hb hN z1 g1 v1 z2 g2 v2 z3 g3 v3 hz all
  generalize yearOf s.data.toList = Y at *
  generalize monOf s.data.toList = M at *
  generalize dayOf s.data.toList = D at *
  go_enter Tryd.func28, Tryd.ntmps28
  go_wp2
  go_loop [4] (fun i => ∃ k : Nat, k ≤ 10 ∧ i = .int .i64 k) (fun i => 10 - (intOf i).toNat)
  case atStart => exact ⟨0, Nat.zero_le _, rfl⟩
  case round =>
    obtain ⟨k, hk, rfl⟩ := hrel
    by_cases y : k < 10
    · have ky : decide ((k : Int) < (s.size : Int)) = true := decide_eq_true (by omega)
      have ks : k < s.size := by omega
      by_cases e4 : k = 4
      · have j4 : ((k : Int) != 4) = false := by simp; omega
        clear e4 dig
        go_wp2
        go_round
        case rel => exact ⟨k + 1, by omega, by go_num⟩
        case measure => simp [intOf]; omega
      · have j4 : ((k : Int) != 4) = true := by simp; omega
        by_cases e7 : k = 7
        · have j7 : ((k : Int) != 7) = false := by simp; omega
          clear e4 e7 dig
          go_wp2
          go_round
          case rel => exact ⟨k + 1, by omega, by go_num⟩
          case measure => simp [intOf]; omega
        · have j7 : ((k : Int) != 7) = true := by simp; omega
          obtain ⟨d0, d1⟩ := dig.out k ks e4 e7
          have x0 : decide (((s[k]'ks).toNat : Int) < 48) = false := decide_eq_false (by omega)
          have x1 : decide (57 < ((s[k]'ks).toNat : Int)) = false := decide_eq_false (by omega)
          clear e4 e7 dig
          go_wp2
          go_round
          case rel => exact ⟨k + 1, by omega, by go_num⟩
          case measure => simp [intOf]; omega
    · have ky : decide ((k : Int) < (s.size : Int)) = false := decide_eq_false (by omega)
      clear dig
      go_wp2_with fail
      refine (HA.out _).mono ?_
      rintro e w1 ⟨rfl, rfl⟩
      go_wp2_with fail
      refine (HB.out _).mono ?_
      rintro e w2 ⟨rfl, rfl⟩
      go_wp2_with fail
      refine (HC.out _).mono ?_
      rintro e w3 ⟨rfl, rfl⟩
      go_wp2_with fail
      refine (HG.out _).mono ?_
      rintro e w4 ⟨rfl, hb⟩
      replace hb := Lib.hid hb
      go_wp2
      go_ret2
      exact ⟨rfl, hb.out⟩
theorem rldate (s : ByteArray) (hs : s.size ≤ maxLen) (w : World) :
    Calls Tryd.prog 28 #[.string s] w fun e w' => e = .returned (.tuple #[.int .i64 (if isD s.data.toList then dyOf s.data.toList else 0), .bool (isD s.data.toList)]) ∧ Below w.heap.size w w' := by
  cases h : formL s.data.toList
  · rw [isD_noform h]; exact rldate_form s hs h w
  · have e : isD s.data.toList = vld (yearOf s.data.toList) (monOf s.data.toList) (dayOf s.data.toList) := by unfold isD; rw [h]; rfl
    rw [e]
    exact rldate_some s h _ _ rfl rfl w
end Go.Proofs.YtocimbiidloofaaDoor
