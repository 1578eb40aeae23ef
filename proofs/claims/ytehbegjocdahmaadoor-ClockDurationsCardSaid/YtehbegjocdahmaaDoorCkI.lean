/- The contract of the reference's ParseDuration. -/
import Derived.Test.YtehbegjocdahmaaDoorCkH
namespace Go.Proofs.YtehbegjocdahmaaDoor
open Go.RowKit
set_option linter.unusedVariables false

set_option maxRecDepth 100000 in
set_option maxHeartbeats 8000000 in
theorem rpd_good (s r0 b : ByteArray) (neg : Bool) (hs : s.size ≤ 1000000) (hz : 0 < s.size) (h45 : ((s[0].toNat : Int) == 45) = neg) (h1 : neg = true → s.extract 1 s.size = r0) (h2 : neg = false → s = r0) (r2 : 2 ≤ r0.size) (r3 : r0.size ≤ 1000000)
    (h80 : (((r0[0]'(by omega)).toNat : Int) != 80) = false) (hb : r0.extract 1 r0.size = b) (bz : b.size ≤ 1000000) (R : Option Int) (hR : pdL (b.data.toList.length + 1) false 0 true 0 b.data.toList = R) (w : World) :
    Calls Tryd.prog 36 #[.string s] w fun e w' => e = .returned (.tuple #[.int .i64 (resV neg R), .int .i64 (resE R)]) ∧ w = w' := by
  have kz : decide (0 < (s.size : Int)) = true := decide_eq_true (by omega)
  have k2 : decide ((r0.size : Int) < 2) = false := decide_eq_false (by omega)
  replace hR := Lib.hid hR
  have r0z : 0 < r0.size := by omega
  cases neg
  · obtain rfl := h2 rfl
    clear h1 h2
    go_enter Tryd.func36, Tryd.ntmps36
    go_wp2
    clear hb h45 h80
    go_loop [0, 6, 7, 8, 9] (fun x y z u v => ∃ (r : ByteArray) (tot ex p : Int) (t o : Bool), r.size ≤ 1000000 ∧ 0 ≤ tot ∧ tot ≤ 8796093022208 ∧ 0 ≤ p ∧ p ≤ 4 ∧ Hid (0 ≤ ex ∧ Ap tot ex ∧ pdL (r.data.toList.length + 1) t p o ex r.data.toList = R) ∧ x = .string r ∧ y = .int .i64 tot ∧ z = .bool t ∧ u = .int .i64 p ∧ v = .bool o) (fun x _ _ _ _ => sizeS x)
    case atStart => exact ⟨b, 0, 0, 0, false, true, bz, by omega, by omega, by omega, by omega, Lib.hid ⟨by omega, .inl rfl, hR.out⟩, rfl, rfl, rfl, rfl, rfl⟩
    case round =>
      obtain ⟨r, tot, ex, p, t, o, rz, t0, t1, p0, p1, HI, rfl, rfl, rfl, rfl, rfl⟩ := hrel
      clear hR
      by_cases z : 0 < r.size
      · have zz : decide (0 < (r.size : Int)) = true := decide_eq_true (by omega)
        by_cases c : r[0] = 84
        · have cc : ((r[0].toNat : Int) == 84) = true := by rw [c]; rfl
          obtain ⟨f1, f2⟩ := pd_at_T z c HI.out.2.2
          obtain ⟨rest, -, -, sz⟩ := head_at z
          obtain ⟨r1, hr1⟩ : ∃ r1, r.extract 1 r.size = r1 := ⟨_, rfl⟩
          rw [hr1] at f2 sz
          have ei := HI.out
          cases t
          · have HN := Lib.hid (show 0 ≤ ex ∧ Ap tot ex ∧ _ from ⟨ei.1, ei.2.1, f2 rfl⟩)
            clear HI f1 f2 ei c
            go_wp2
            go_round
            case rel => exact ⟨r1, tot, ex, p, true, true, by omega, t0, t1, p0, p1, HN, rfl, rfl, rfl, rfl, rfl⟩
            case measure => simp [sizeS]; omega
          · have HN := Lib.hid (f1 rfl)
            clear HI f1 f2 ei c
            go_wp2
            go_ret2
            exact ⟨by rw [HN.out]; rfl, rfl⟩
        · have cc : ((r[0].toNat : Int) == 84) = false := by
            rw [beq_eq_false_iff_ne]; intro q; exact c (UInt8.toNat_inj.1 (by show _ = 84; omega))
          have ei := HI.out
          have PD := fun k hk => pd_at (k := k) z c hk ei.2.2
          replace PD := Lib.hid PD
          obtain ⟨ex0, ap, -⟩ := ei
          replace ap := Lib.hid ap
          replace ex0 := Lib.hid ex0
          clear HI c
          go_wp2
          go_loop [10, 11] (fun i a => ∃ (k : Nat) (n : Int), k ≤ r.size ∧ 0 ≤ n ∧ n ≤ 8796093022208 ∧ Hid (RRel r k n) ∧ i = .int .i64 k ∧ a = .int .i64 n) (fun i _ => r.size - (intOf i).toNat)
          case atStart => exact ⟨0, 0, Nat.zero_le _, by omega, by omega, Lib.hid (r_start r), rfl, rfl⟩
          case round =>
            obtain ⟨k, n, hk, n0, n1, HN, rfl, rfl⟩ := hrel
            by_cases hlt : k < r.size
            · have kk : decide ((k : Int) < (r.size : Int)) = true := decide_eq_true (by omega)
              have HD := fun w => rdigit r[k] w
              by_cases d : isDig r[k] = true
              · rw [d] at HD
                replace HD := Lib.hid HD
                have HS := r_step hlt HN.out d
                obtain ⟨c0, c1⟩ := isDig_iff.1 d
                clear HN d PD
                by_cases big : 8796093022208 < 10 * n + ((r[k].toNat : Int) - 48)
                · have bb : decide (8796093022208 < 10 * n + ((r[k].toNat : Int) - 48)) = true := decide_eq_true big
                  rw [show min (10 * n + ((r[k].toNat : Int) - 48)) 8796093022208 = 8796093022208 by omega] at HS
                  replace HS := Lib.hid HS
                  go_wp2_with fail
                  refine (HD.out _).mono ?_
                  rintro e w1 ⟨rfl, rfl⟩
                  go_wp2
                  go_round
                  case rel => exact ⟨k + 1, 8796093022208, by omega, by omega, by omega, HS, by go_num, rfl⟩
                  case measure => simp [intOf]; omega
                · have bb : decide (8796093022208 < 10 * n + ((r[k].toNat : Int) - 48)) = false := decide_eq_false big
                  rw [show min (10 * n + ((r[k].toNat : Int) - 48)) 8796093022208 = 10 * n + ((r[k].toNat : Int) - 48) by omega] at HS
                  replace HS := Lib.hid HS
                  go_wp2_with fail
                  refine (HD.out _).mono ?_
                  rintro e w1 ⟨rfl, rfl⟩
                  go_wp2
                  go_round
                  case rel => exact ⟨k + 1, _, by omega, by omega, by omega, HS, by go_num, rfl⟩
                  case measure => simp [intOf]; omega
              · rw [Bool.not_eq_true] at d
                rw [d] at HD
                replace HD := Lib.hid HD
                obtain ⟨s1, s2⟩ := r_stop hk HN.out (fun _ => d)
                obtain ⟨g1, g2⟩ := PD.out k s2
                by_cases q : k = 0
                · have kq : ((k : Int) == 0) = true := by simp; omega
                  have HE := Lib.hid (g1 (.inl q))
                  clear HN d PD s1 s2 g1 g2 q
                  go_wp2_with fail
                  refine (HD.out _).mono ?_
                  rintro e w1 ⟨rfl, rfl⟩
                  go_wp2
                  go_ret2
                  exact ⟨by rw [HE.out]; rfl, rfl⟩
                · have kq : ((k : Int) == 0) = false := by simp; omega
                  have kr : ((k : Int) == (r.size : Int)) = false := by simp; omega
                  obtain ⟨g3, g4⟩ := g2 hlt (by omega)
                  have HZ := fun w => rsize r[k] t w
                  have uo := unit_ok (c := r[k]) (t := t)
                  have va : 0 ≤ valD 0 (r.data.toList.takeWhile isDig) := valD_pos List.all_takeWhile
                  have am := ap_min va
                  rw [← s1] at am
                  generalize unitP r[k] t = P at *
                  generalize unitV r[k] t = U at *
                  clear HN d PD s1 s2 g1 g2 q
                  by_cases pl : P ≤ p
                  · have kp : decide (P ≤ p) = true := decide_eq_true pl
                    have HE := Lib.hid (g3 pl)
                    replace HZ := Lib.hid HZ
                    clear g3 g4 uo am va
                    go_wp2_with fail
                    refine (HD.out _).mono ?_
                    rintro e w1 ⟨rfl, rfl⟩
                    go_wp2_with fail
                    refine (HZ.out _).mono ?_
                    rintro e w1 ⟨rfl, rfl⟩
                    go_wp2
                    go_ret2
                    exact ⟨by rw [HE.out]; rfl, rfl⟩
                  · have kp : decide (P ≤ p) = false := decide_eq_false pl
                    have g5 := g4 (by omega)
                    obtain ⟨uo1, uo2⟩ := uo (by omega)
                    have rs := ext_size hlt
                    obtain ⟨r1, hr1⟩ : ∃ r1, r.extract (k + 1) r.size = r1 := ⟨_, rfl⟩
                    rw [hr1] at g5 rs
                    obtain ⟨a1, a2, a3⟩ := ap_mul ap.out am t0 ex0.out n0 va uo1
                    generalize ex + valD 0 (r.data.toList.takeWhile isDig) * U = EX at *
                    clear g3 g4 uo am va
                    rcases uo1 with rfl | rfl | rfl | rfl
                    all_goals
                      replace HZ := Lib.hid HZ
                    · by_cases big : 8796093022208 < tot + n * 86400
                      · have bb : decide (8796093022208 < tot + n * 86400) = true := decide_eq_true big
                        have HN := Lib.hid (show 0 ≤ EX ∧ Ap 8796093022208 EX ∧ _ from ⟨a3, ap_cap a1 big, g5⟩)
                        clear g5 a1 a3
                        go_wp2_with fail
                        refine (HD.out _).mono ?_
                        rintro e w1 ⟨rfl, rfl⟩
                        go_wp2_with fail
                        refine (HZ.out _).mono ?_
                        rintro e w1 ⟨rfl, rfl⟩
                        go_wp2
                        go_round
                        case rel => exact ⟨r1, 8796093022208, EX, P, t, false, by omega, by omega, by omega, by omega, by omega, HN, rfl, rfl, rfl, rfl, rfl⟩
                        case measure => simp [sizeS]; omega
                      · have bb : decide (8796093022208 < tot + n * 86400) = false := decide_eq_false big
                        have HN := Lib.hid (show 0 ≤ EX ∧ Ap (tot + n * 86400) EX ∧ _ from ⟨a3, a1, g5⟩)
                        clear g5 a1 a3
                        go_wp2_with fail
                        refine (HD.out _).mono ?_
                        rintro e w1 ⟨rfl, rfl⟩
                        go_wp2_with fail
                        refine (HZ.out _).mono ?_
                        rintro e w1 ⟨rfl, rfl⟩
                        go_wp2
                        go_round
                        case rel => exact ⟨r1, tot + n * 86400, EX, P, t, false, by omega, by omega, by omega, by omega, by omega, HN, rfl, rfl, rfl, rfl, rfl⟩
                        case measure => simp [sizeS]; omega
                    · by_cases big : 8796093022208 < tot + n * 3600
                      · have bb : decide (8796093022208 < tot + n * 3600) = true := decide_eq_true big
                        have HN := Lib.hid (show 0 ≤ EX ∧ Ap 8796093022208 EX ∧ _ from ⟨a3, ap_cap a1 big, g5⟩)
                        clear g5 a1 a3
                        go_wp2_with fail
                        refine (HD.out _).mono ?_
                        rintro e w1 ⟨rfl, rfl⟩
                        go_wp2_with fail
                        refine (HZ.out _).mono ?_
                        rintro e w1 ⟨rfl, rfl⟩
                        go_wp2
                        go_round
                        case rel => exact ⟨r1, 8796093022208, EX, P, t, false, by omega, by omega, by omega, by omega, by omega, HN, rfl, rfl, rfl, rfl, rfl⟩
                        case measure => simp [sizeS]; omega
                      · have bb : decide (8796093022208 < tot + n * 3600) = false := decide_eq_false big
                        have HN := Lib.hid (show 0 ≤ EX ∧ Ap (tot + n * 3600) EX ∧ _ from ⟨a3, a1, g5⟩)
                        clear g5 a1 a3
                        go_wp2_with fail
                        refine (HD.out _).mono ?_
                        rintro e w1 ⟨rfl, rfl⟩
                        go_wp2_with fail
                        refine (HZ.out _).mono ?_
                        rintro e w1 ⟨rfl, rfl⟩
                        go_wp2
                        go_round
                        case rel => exact ⟨r1, tot + n * 3600, EX, P, t, false, by omega, by omega, by omega, by omega, by omega, HN, rfl, rfl, rfl, rfl, rfl⟩
                        case measure => simp [sizeS]; omega
                    · by_cases big : 8796093022208 < tot + n * 60
                      · have bb : decide (8796093022208 < tot + n * 60) = true := decide_eq_true big
                        have HN := Lib.hid (show 0 ≤ EX ∧ Ap 8796093022208 EX ∧ _ from ⟨a3, ap_cap a1 big, g5⟩)
                        clear g5 a1 a3
                        go_wp2_with fail
                        refine (HD.out _).mono ?_
                        rintro e w1 ⟨rfl, rfl⟩
                        go_wp2_with fail
                        refine (HZ.out _).mono ?_
                        rintro e w1 ⟨rfl, rfl⟩
                        go_wp2
                        go_round
                        case rel => exact ⟨r1, 8796093022208, EX, P, t, false, by omega, by omega, by omega, by omega, by omega, HN, rfl, rfl, rfl, rfl, rfl⟩
                        case measure => simp [sizeS]; omega
                      · have bb : decide (8796093022208 < tot + n * 60) = false := decide_eq_false big
                        have HN := Lib.hid (show 0 ≤ EX ∧ Ap (tot + n * 60) EX ∧ _ from ⟨a3, a1, g5⟩)
                        clear g5 a1 a3
                        go_wp2_with fail
                        refine (HD.out _).mono ?_
                        rintro e w1 ⟨rfl, rfl⟩
                        go_wp2_with fail
                        refine (HZ.out _).mono ?_
                        rintro e w1 ⟨rfl, rfl⟩
                        go_wp2
                        go_round
                        case rel => exact ⟨r1, tot + n * 60, EX, P, t, false, by omega, by omega, by omega, by omega, by omega, HN, rfl, rfl, rfl, rfl, rfl⟩
                        case measure => simp [sizeS]; omega
                    · rw [Int.mul_one] at a1 a2
                      by_cases big : 8796093022208 < tot + n
                      · have bb : decide (8796093022208 < tot + n) = true := decide_eq_true big
                        have HN := Lib.hid (show 0 ≤ EX ∧ Ap 8796093022208 EX ∧ _ from ⟨a3, ap_cap a1 big, g5⟩)
                        clear g5 a1 a3
                        go_wp2_with fail
                        refine (HD.out _).mono ?_
                        rintro e w1 ⟨rfl, rfl⟩
                        go_wp2_with fail
                        refine (HZ.out _).mono ?_
                        rintro e w1 ⟨rfl, rfl⟩
                        go_wp2
                        go_round
                        case rel => exact ⟨r1, 8796093022208, EX, P, t, false, by omega, by omega, by omega, by omega, by omega, HN, rfl, rfl, rfl, rfl, rfl⟩
                        case measure => simp [sizeS]; omega
                      · have bb : decide (8796093022208 < tot + n) = false := decide_eq_false big
                        have HN := Lib.hid (show 0 ≤ EX ∧ Ap (tot + n) EX ∧ _ from ⟨a3, a1, g5⟩)
                        clear g5 a1 a3
                        go_wp2_with fail
                        refine (HD.out _).mono ?_
                        rintro e w1 ⟨rfl, rfl⟩
                        go_wp2_with fail
                        refine (HZ.out _).mono ?_
                        rintro e w1 ⟨rfl, rfl⟩
                        go_wp2
                        go_round
                        case rel => exact ⟨r1, tot + n, EX, P, t, false, by omega, by omega, by omega, by omega, by omega, HN, rfl, rfl, rfl, rfl, rfl⟩
                        case measure => simp [sizeS]; omega
            · have kk : decide ((k : Int) < (r.size : Int)) = false := decide_eq_false (by omega)
              obtain ⟨s1, s2⟩ := r_stop hk HN.out (fun x => absurd x hlt)
              obtain ⟨g1, -⟩ := PD.out k s2
              have HE := Lib.hid (g1 (.inr (by omega)))
              have kr : ((k : Int) == (r.size : Int)) = true := by simp; omega
              have kq : ((k : Int) == 0) = false := by simp; omega
              clear HN PD s1 s2 g1
              go_wp2
              go_ret2
              exact ⟨by rw [HE.out]; rfl, rfl⟩
      · have zz : decide (0 < (r.size : Int)) = false := decide_eq_false (by omega)
        obtain ⟨e0, e1, e2⟩ := HI.out
        have nil : r.data.toList = [] := by
          have hl : r.data.toList.length = r.size := Array.length_toList
          exact List.length_eq_zero_iff.1 (by omega)
        rw [nil] at e2
        cases o
        · have e3 : R = some ex := by rw [← e2]; rfl
          by_cases big : 4398046511104 < tot
          · have bb : decide (4398046511104 < tot) = true := decide_eq_true big
            have b2 : 4398046511104 < ex := by unfold Ap at e1; omega
            have HV : Hid (resV false R = 0 ∧ resE R = 9) := by
              rw [e3]
              show (if 4398046511104 < ex then (0 : Int) else _) = 0 ∧ (if 4398046511104 < ex then (9 : Int) else 0) = 9
              rw [if_pos b2, if_pos b2]; exact ⟨rfl, rfl⟩
            clear HI e0 e1 e2 e3 nil
            go_wp2
            go_ret2
            exact ⟨by rw [HV.out.1, HV.out.2]; rfl, rfl⟩
          · have bb : decide (4398046511104 < tot) = false := decide_eq_false big
            have b2 : ex = tot := by unfold Ap at e1; omega
            have HV : Hid (resV false R = tot ∧ resE R = 0) := by
              rw [e3, b2]
              show (if 4398046511104 < tot then (0 : Int) else tot) = tot ∧ (if 4398046511104 < tot then (9 : Int) else 0) = 0
              rw [if_neg big, if_neg big]; exact ⟨rfl, rfl⟩
            clear HI e0 e1 e2 e3 nil b2
            go_wp2
            go_ret2
            exact ⟨by rw [HV.out.1, HV.out.2]; rfl, rfl⟩
        · have HE : Hid (R = none) := by show R = none; rw [← e2]; rfl
          clear HI e0 e1 e2 nil
          go_wp2
          go_ret2
          exact ⟨by rw [HE.out]; rfl, rfl⟩
  · have e1 := h1 rfl
    clear h1 h2
    go_enter Tryd.func36, Tryd.ntmps36
    go_wp2
    clear hb h45 h80
    go_loop [0, 6, 7, 8, 9] (fun x y z u v => ∃ (r : ByteArray) (tot ex p : Int) (t o : Bool), r.size ≤ 1000000 ∧ 0 ≤ tot ∧ tot ≤ 8796093022208 ∧ 0 ≤ p ∧ p ≤ 4 ∧ Hid (0 ≤ ex ∧ Ap tot ex ∧ pdL (r.data.toList.length + 1) t p o ex r.data.toList = R) ∧ x = .string r ∧ y = .int .i64 tot ∧ z = .bool t ∧ u = .int .i64 p ∧ v = .bool o) (fun x _ _ _ _ => sizeS x)
    case atStart => exact ⟨b, 0, 0, 0, false, true, bz, by omega, by omega, by omega, by omega, Lib.hid ⟨by omega, .inl rfl, hR.out⟩, rfl, rfl, rfl, rfl, rfl⟩
    case round =>
      obtain ⟨r, tot, ex, p, t, o, rz, t0, t1, p0, p1, HI, rfl, rfl, rfl, rfl, rfl⟩ := hrel
      clear hR
      by_cases z : 0 < r.size
      · have zz : decide (0 < (r.size : Int)) = true := decide_eq_true (by omega)
        by_cases c : r[0] = 84
        · have cc : ((r[0].toNat : Int) == 84) = true := by rw [c]; rfl
          obtain ⟨f1, f2⟩ := pd_at_T z c HI.out.2.2
          obtain ⟨rest, -, -, sz⟩ := head_at z
          obtain ⟨r1, hr1⟩ : ∃ r1, r.extract 1 r.size = r1 := ⟨_, rfl⟩
          rw [hr1] at f2 sz
          have ei := HI.out
          cases t
          · have HN := Lib.hid (show 0 ≤ ex ∧ Ap tot ex ∧ _ from ⟨ei.1, ei.2.1, f2 rfl⟩)
            clear HI f1 f2 ei c
            go_wp2
            go_round
            case rel => exact ⟨r1, tot, ex, p, true, true, by omega, t0, t1, p0, p1, HN, rfl, rfl, rfl, rfl, rfl⟩
            case measure => simp [sizeS]; omega
          · have HN := Lib.hid (f1 rfl)
            clear HI f1 f2 ei c
            go_wp2
            go_ret2
            exact ⟨by rw [HN.out]; rfl, rfl⟩
        · have cc : ((r[0].toNat : Int) == 84) = false := by
            rw [beq_eq_false_iff_ne]; intro q; exact c (UInt8.toNat_inj.1 (by show _ = 84; omega))
          have ei := HI.out
          have PD := fun k hk => pd_at (k := k) z c hk ei.2.2
          replace PD := Lib.hid PD
          obtain ⟨ex0, ap, -⟩ := ei
          replace ap := Lib.hid ap
          replace ex0 := Lib.hid ex0
          clear HI c
          go_wp2
          go_loop [10, 11] (fun i a => ∃ (k : Nat) (n : Int), k ≤ r.size ∧ 0 ≤ n ∧ n ≤ 8796093022208 ∧ Hid (RRel r k n) ∧ i = .int .i64 k ∧ a = .int .i64 n) (fun i _ => r.size - (intOf i).toNat)
          case atStart => exact ⟨0, 0, Nat.zero_le _, by omega, by omega, Lib.hid (r_start r), rfl, rfl⟩
          case round =>
            obtain ⟨k, n, hk, n0, n1, HN, rfl, rfl⟩ := hrel
            by_cases hlt : k < r.size
            · have kk : decide ((k : Int) < (r.size : Int)) = true := decide_eq_true (by omega)
              have HD := fun w => rdigit r[k] w
              by_cases d : isDig r[k] = true
              · rw [d] at HD
                replace HD := Lib.hid HD
                have HS := r_step hlt HN.out d
                obtain ⟨c0, c1⟩ := isDig_iff.1 d
                clear HN d PD
                by_cases big : 8796093022208 < 10 * n + ((r[k].toNat : Int) - 48)
                · have bb : decide (8796093022208 < 10 * n + ((r[k].toNat : Int) - 48)) = true := decide_eq_true big
                  rw [show min (10 * n + ((r[k].toNat : Int) - 48)) 8796093022208 = 8796093022208 by omega] at HS
                  replace HS := Lib.hid HS
                  go_wp2_with fail
                  refine (HD.out _).mono ?_
                  rintro e w1 ⟨rfl, rfl⟩
                  go_wp2
                  go_round
                  case rel => exact ⟨k + 1, 8796093022208, by omega, by omega, by omega, HS, by go_num, rfl⟩
                  case measure => simp [intOf]; omega
                · have bb : decide (8796093022208 < 10 * n + ((r[k].toNat : Int) - 48)) = false := decide_eq_false big
                  rw [show min (10 * n + ((r[k].toNat : Int) - 48)) 8796093022208 = 10 * n + ((r[k].toNat : Int) - 48) by omega] at HS
                  replace HS := Lib.hid HS
                  go_wp2_with fail
                  refine (HD.out _).mono ?_
                  rintro e w1 ⟨rfl, rfl⟩
                  go_wp2
                  go_round
                  case rel => exact ⟨k + 1, _, by omega, by omega, by omega, HS, by go_num, rfl⟩
                  case measure => simp [intOf]; omega
              · rw [Bool.not_eq_true] at d
                rw [d] at HD
                replace HD := Lib.hid HD
                obtain ⟨s1, s2⟩ := r_stop hk HN.out (fun _ => d)
                obtain ⟨g1, g2⟩ := PD.out k s2
                by_cases q : k = 0
                · have kq : ((k : Int) == 0) = true := by simp; omega
                  have HE := Lib.hid (g1 (.inl q))
                  clear HN d PD s1 s2 g1 g2 q
                  go_wp2_with fail
                  refine (HD.out _).mono ?_
                  rintro e w1 ⟨rfl, rfl⟩
                  go_wp2
                  go_ret2
                  exact ⟨by rw [HE.out]; rfl, rfl⟩
                · have kq : ((k : Int) == 0) = false := by simp; omega
                  have kr : ((k : Int) == (r.size : Int)) = false := by simp; omega
                  obtain ⟨g3, g4⟩ := g2 hlt (by omega)
                  have HZ := fun w => rsize r[k] t w
                  have uo := unit_ok (c := r[k]) (t := t)
                  have va : 0 ≤ valD 0 (r.data.toList.takeWhile isDig) := valD_pos List.all_takeWhile
                  have am := ap_min va
                  rw [← s1] at am
                  generalize unitP r[k] t = P at *
                  generalize unitV r[k] t = U at *
                  clear HN d PD s1 s2 g1 g2 q
                  by_cases pl : P ≤ p
                  · have kp : decide (P ≤ p) = true := decide_eq_true pl
                    have HE := Lib.hid (g3 pl)
                    replace HZ := Lib.hid HZ
                    clear g3 g4 uo am va
                    go_wp2_with fail
                    refine (HD.out _).mono ?_
                    rintro e w1 ⟨rfl, rfl⟩
                    go_wp2_with fail
                    refine (HZ.out _).mono ?_
                    rintro e w1 ⟨rfl, rfl⟩
                    go_wp2
                    go_ret2
                    exact ⟨by rw [HE.out]; rfl, rfl⟩
                  · have kp : decide (P ≤ p) = false := decide_eq_false pl
                    have g5 := g4 (by omega)
                    obtain ⟨uo1, uo2⟩ := uo (by omega)
                    have rs := ext_size hlt
                    obtain ⟨r1, hr1⟩ : ∃ r1, r.extract (k + 1) r.size = r1 := ⟨_, rfl⟩
                    rw [hr1] at g5 rs
                    obtain ⟨a1, a2, a3⟩ := ap_mul ap.out am t0 ex0.out n0 va uo1
                    generalize ex + valD 0 (r.data.toList.takeWhile isDig) * U = EX at *
                    clear g3 g4 uo am va
                    rcases uo1 with rfl | rfl | rfl | rfl
                    all_goals
                      replace HZ := Lib.hid HZ
                    · by_cases big : 8796093022208 < tot + n * 86400
                      · have bb : decide (8796093022208 < tot + n * 86400) = true := decide_eq_true big
                        have HN := Lib.hid (show 0 ≤ EX ∧ Ap 8796093022208 EX ∧ _ from ⟨a3, ap_cap a1 big, g5⟩)
                        clear g5 a1 a3
                        go_wp2_with fail
                        refine (HD.out _).mono ?_
                        rintro e w1 ⟨rfl, rfl⟩
                        go_wp2_with fail
                        refine (HZ.out _).mono ?_
                        rintro e w1 ⟨rfl, rfl⟩
                        go_wp2
                        go_round
                        case rel => exact ⟨r1, 8796093022208, EX, P, t, false, by omega, by omega, by omega, by omega, by omega, HN, rfl, rfl, rfl, rfl, rfl⟩
                        case measure => simp [sizeS]; omega
                      · have bb : decide (8796093022208 < tot + n * 86400) = false := decide_eq_false big
                        have HN := Lib.hid (show 0 ≤ EX ∧ Ap (tot + n * 86400) EX ∧ _ from ⟨a3, a1, g5⟩)
                        clear g5 a1 a3
                        go_wp2_with fail
                        refine (HD.out _).mono ?_
                        rintro e w1 ⟨rfl, rfl⟩
                        go_wp2_with fail
                        refine (HZ.out _).mono ?_
                        rintro e w1 ⟨rfl, rfl⟩
                        go_wp2
                        go_round
                        case rel => exact ⟨r1, tot + n * 86400, EX, P, t, false, by omega, by omega, by omega, by omega, by omega, HN, rfl, rfl, rfl, rfl, rfl⟩
                        case measure => simp [sizeS]; omega
                    · by_cases big : 8796093022208 < tot + n * 3600
                      · have bb : decide (8796093022208 < tot + n * 3600) = true := decide_eq_true big
                        have HN := Lib.hid (show 0 ≤ EX ∧ Ap 8796093022208 EX ∧ _ from ⟨a3, ap_cap a1 big, g5⟩)
                        clear g5 a1 a3
                        go_wp2_with fail
                        refine (HD.out _).mono ?_
                        rintro e w1 ⟨rfl, rfl⟩
                        go_wp2_with fail
                        refine (HZ.out _).mono ?_
                        rintro e w1 ⟨rfl, rfl⟩
                        go_wp2
                        go_round
                        case rel => exact ⟨r1, 8796093022208, EX, P, t, false, by omega, by omega, by omega, by omega, by omega, HN, rfl, rfl, rfl, rfl, rfl⟩
                        case measure => simp [sizeS]; omega
                      · have bb : decide (8796093022208 < tot + n * 3600) = false := decide_eq_false big
                        have HN := Lib.hid (show 0 ≤ EX ∧ Ap (tot + n * 3600) EX ∧ _ from ⟨a3, a1, g5⟩)
                        clear g5 a1 a3
                        go_wp2_with fail
                        refine (HD.out _).mono ?_
                        rintro e w1 ⟨rfl, rfl⟩
                        go_wp2_with fail
                        refine (HZ.out _).mono ?_
                        rintro e w1 ⟨rfl, rfl⟩
                        go_wp2
                        go_round
                        case rel => exact ⟨r1, tot + n * 3600, EX, P, t, false, by omega, by omega, by omega, by omega, by omega, HN, rfl, rfl, rfl, rfl, rfl⟩
                        case measure => simp [sizeS]; omega
                    · by_cases big : 8796093022208 < tot + n * 60
                      · have bb : decide (8796093022208 < tot + n * 60) = true := decide_eq_true big
                        have HN := Lib.hid (show 0 ≤ EX ∧ Ap 8796093022208 EX ∧ _ from ⟨a3, ap_cap a1 big, g5⟩)
                        clear g5 a1 a3
                        go_wp2_with fail
                        refine (HD.out _).mono ?_
                        rintro e w1 ⟨rfl, rfl⟩
                        go_wp2_with fail
                        refine (HZ.out _).mono ?_
                        rintro e w1 ⟨rfl, rfl⟩
                        go_wp2
                        go_round
                        case rel => exact ⟨r1, 8796093022208, EX, P, t, false, by omega, by omega, by omega, by omega, by omega, HN, rfl, rfl, rfl, rfl, rfl⟩
                        case measure => simp [sizeS]; omega
                      · have bb : decide (8796093022208 < tot + n * 60) = false := decide_eq_false big
                        have HN := Lib.hid (show 0 ≤ EX ∧ Ap (tot + n * 60) EX ∧ _ from ⟨a3, a1, g5⟩)
                        clear g5 a1 a3
                        go_wp2_with fail
                        refine (HD.out _).mono ?_
                        rintro e w1 ⟨rfl, rfl⟩
                        go_wp2_with fail
                        refine (HZ.out _).mono ?_
                        rintro e w1 ⟨rfl, rfl⟩
                        go_wp2
                        go_round
                        case rel => exact ⟨r1, tot + n * 60, EX, P, t, false, by omega, by omega, by omega, by omega, by omega, HN, rfl, rfl, rfl, rfl, rfl⟩
                        case measure => simp [sizeS]; omega
                    · rw [Int.mul_one] at a1 a2
                      by_cases big : 8796093022208 < tot + n
                      · have bb : decide (8796093022208 < tot + n) = true := decide_eq_true big
                        have HN := Lib.hid (show 0 ≤ EX ∧ Ap 8796093022208 EX ∧ _ from ⟨a3, ap_cap a1 big, g5⟩)
                        clear g5 a1 a3
                        go_wp2_with fail
                        refine (HD.out _).mono ?_
                        rintro e w1 ⟨rfl, rfl⟩
                        go_wp2_with fail
                        refine (HZ.out _).mono ?_
                        rintro e w1 ⟨rfl, rfl⟩
                        go_wp2
                        go_round
                        case rel => exact ⟨r1, 8796093022208, EX, P, t, false, by omega, by omega, by omega, by omega, by omega, HN, rfl, rfl, rfl, rfl, rfl⟩
                        case measure => simp [sizeS]; omega
                      · have bb : decide (8796093022208 < tot + n) = false := decide_eq_false big
                        have HN := Lib.hid (show 0 ≤ EX ∧ Ap (tot + n) EX ∧ _ from ⟨a3, a1, g5⟩)
                        clear g5 a1 a3
                        go_wp2_with fail
                        refine (HD.out _).mono ?_
                        rintro e w1 ⟨rfl, rfl⟩
                        go_wp2_with fail
                        refine (HZ.out _).mono ?_
                        rintro e w1 ⟨rfl, rfl⟩
                        go_wp2
                        go_round
                        case rel => exact ⟨r1, tot + n, EX, P, t, false, by omega, by omega, by omega, by omega, by omega, HN, rfl, rfl, rfl, rfl, rfl⟩
                        case measure => simp [sizeS]; omega
            · have kk : decide ((k : Int) < (r.size : Int)) = false := decide_eq_false (by omega)
              obtain ⟨s1, s2⟩ := r_stop hk HN.out (fun x => absurd x hlt)
              obtain ⟨g1, -⟩ := PD.out k s2
              have HE := Lib.hid (g1 (.inr (by omega)))
              have kr : ((k : Int) == (r.size : Int)) = true := by simp; omega
              have kq : ((k : Int) == 0) = false := by simp; omega
              clear HN PD s1 s2 g1
              go_wp2
              go_ret2
              exact ⟨by rw [HE.out]; rfl, rfl⟩
      · have zz : decide (0 < (r.size : Int)) = false := decide_eq_false (by omega)
        obtain ⟨e0, e1, e2⟩ := HI.out
        have nil : r.data.toList = [] := by
          have hl : r.data.toList.length = r.size := Array.length_toList
          exact List.length_eq_zero_iff.1 (by omega)
        rw [nil] at e2
        cases o
        · have e3 : R = some ex := by rw [← e2]; rfl
          by_cases big : 4398046511104 < tot
          · have bb : decide (4398046511104 < tot) = true := decide_eq_true big
            have b2 : 4398046511104 < ex := by unfold Ap at e1; omega
            have HV : Hid (resV true R = 0 ∧ resE R = 9) := by
              rw [e3]
              show (if 4398046511104 < ex then (0 : Int) else _) = 0 ∧ (if 4398046511104 < ex then (9 : Int) else 0) = 9
              rw [if_pos b2, if_pos b2]; exact ⟨rfl, rfl⟩
            clear HI e0 e1 e2 e3 nil
            go_wp2
            go_ret2
            exact ⟨by rw [HV.out.1, HV.out.2]; rfl, rfl⟩
          · have bb : decide (4398046511104 < tot) = false := decide_eq_false big
            have b2 : ex = tot := by unfold Ap at e1; omega
            have HV : Hid (resV true R = -tot ∧ resE R = 0) := by
              rw [e3, b2]
              show (if 4398046511104 < tot then (0 : Int) else -tot) = -tot ∧ (if 4398046511104 < tot then (9 : Int) else 0) = 0
              rw [if_neg big, if_neg big]; exact ⟨rfl, rfl⟩
            clear HI e0 e1 e2 e3 nil b2
            go_wp2
            go_ret2
            exact ⟨by rw [HV.out.1, HV.out.2]; rfl, rfl⟩
        · have HE : Hid (R = none) := by show R = none; rw [← e2]; rfl
          clear HI e0 e1 e2 nil
          go_wp2
          go_ret2
          exact ⟨by rw [HE.out]; rfl, rfl⟩
end Go.Proofs.YtehbegjocdahmaaDoor
