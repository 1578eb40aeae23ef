/- The walk of AllenBack. -/
import Derived.Test.YtiaidmjhgfaobaaDoorAlAwaken
import Derived.Test.YtiaidmjhgfaobaaDoorAlBk
import Derived.BigQuiet
import Derived.Deep.QuietTactic
import Derived.Deep.RegionHeld3
import Derived.Deep.Cut
import Derived.Outline
namespace Go.Proofs.YtiaidmjhgfaobaaDoor
open Go.RowKit
set_option linter.unusedVariables false

theorem lisB (s : Int) (hs : I64 s) (w : World) :
    Calls Tryd.prog 36 #[.int .i64 s] w fun e w' => e = .returned (.bool (isS s)) ∧ w = w' := by
  obtain ⟨h0, h1⟩ := hs
  unfold isS
  cases p : decide (0 ≤ s) <;> cases q : decide (s ≤ 8191)
  all_goals
    go_enter Tryd.func36, Tryd.ntmps36
    go_wp2
    go_ret
    exact ⟨rfl, rfl⟩
theorem tx_step (L : List Int) (k : Nat) : txK L (k + 1) = (txK L k ++ (if 0 < k then [124] else [])) ++ (nmV (L.getD k 0).toNat).data.toList := rfl
set_option maxRecDepth 100000 in
set_option maxHeartbeats 4000000 in
theorem AllenBack.walk (s t : Int) (hs : (Lit.int .i64 s).wf = true) (ht8 : (Lit.int .u8 t).wf = true) (w : World) (ht : Tabs w) :
    Calls Tryd.prog 11 #[.int .i64 s, .int .u8 t] w fun e w' => e = .returned (.bool true) ∧ Below w.heap.size w w' := by
  replace hs := i64_wf hs
  obtain ⟨t0, t1⟩ := bounds_u8 ht8
  clear ht8
  have IA := fun w => lisB s hs w
  have HT := fun w ht => uatext s hs w ht
  have HS := fun w ht => uasingles s hs w ht
  have AW := Lib.hid (fun w ht => awake_all w ht)
  replace ht := Lib.hid ht
  cases v : isS s
  · rw [v] at IA
    have ns : ¬ (0 ≤ s ∧ s ≤ 8191) := fun h => by rw [isS_iff.2 h] at v; cases v
    have sv : sgV s = [] := by unfold sgV; rw [v]; rfl
    rw [show txB s = [] by unfold txB; rw [if_neg (by omega), if_neg (by omega), sv]; rfl] at HT
    rw [sv] at HS
    clear v ns sv hs
    replace IA := Lib.hid IA
    replace HT := Lib.hid HT
    replace HS := Lib.hid HS
    go_enter Tryd.func11, Tryd.ntmps11
    go_wp2_with fail
    refine (AW.out _ (ht.out.below (here w))).mono ?_
    rintro e w1 ⟨rfl, hb⟩
    have A1 := Lib.hid (down (here w) hb)
    clear hb
    go_wp2_with fail
    refine (HT.out _ (ht.out.below A1.out)).mono ?_
    rintro e w2 ⟨rfl, hb⟩
    have A2 := Lib.hid (down A1.out hb)
    clear hb A1
    go_wp2_with fail
    refine (IA.out _).mono ?_
    rintro e x1 ⟨rfl, rfl⟩
    go_wp2_with fail
    refine (HS.out _ (ht.out.below A2.out)).mono ?_
    rintro e w3 ⟨⟨v, rfl, Q⟩, hb⟩
    obtain ⟨ov, cv, rfl⟩ := Sl.shape Q
    clear Q
    have A3 := Lib.hid (down A2.out hb)
    clear hb A2
    go_wp2
    go_ret
    exact ⟨rfl, by first | exact A3.out | exact grow A3.out _ | exact below_drewN A3.out _ | exact grow (grow A3.out _) _ | exact grow (grow (grow A3.out _) _) _⟩
  · rw [v] at IA
    have v2 := isS_iff.1 v
    obtain ⟨S, rfl⟩ : ∃ S : Nat, s = S := ⟨s.toNat, by omega⟩
    have hS : S < 8192 := by omega
    have sv : sgV (S : Int) = toZ (sgN S 13) := by
      unfold sgV
      rw [v, if_pos rfl]
      exact sg_map S 13
    have sz : (⟨(txB (S : Int)).toArray⟩ : ByteArray).size ≤ 1000 := by
      show (txB (S : Int)).toArray.size ≤ 1000
      rw [List.size_toArray]
      unfold txB
      split
      · decide
      split
      · decide
      · rw [sv]
        have l13 := sgN_len S
        have m : ∀ j, j < (toZ (sgN S 13)).length → ∃ r : Nat, r < 13 ∧ (toZ (sgN S 13)).getD j 0 = r := fun j hj => by
          rw [toZ_len] at hj
          exact ⟨_, (sgN_mem.1 (getD_mem hj)).1, toZ_at hj⟩
        have := txK_len (toZ (sgN S 13)) m _ (Nat.le_refl _)
        rw [toZ_len] at this ⊢
        omega
    have HP := fun w ht => uaparse ⟨(txB (S : Int)).toArray⟩ sz w ht
    rw [back_set hS] at HP
    rw [sv] at HS
    clear sv sz v v2 hs
    by_cases e0 : (sgN S 13).length = 0
    · have S0 : S = 0 := by
        have o : orL (sgN S 13) = S := orL_set hS fun r => Iff.rfl
        rw [List.length_eq_zero_iff] at e0
        rw [e0] at o
        exact o.symm
      rw [List.length_eq_zero_iff] at e0
      rw [e0] at HS
      subst S0
      rw [show txB ((0 : Nat) : Int) = [110, 111, 110, 101] from rfl] at HT HP
      rw [show toZ [] = [] from rfl] at HS
      simp only [Int.cast_ofNat_Int] at HT HP HS IA ⊢
      clear hS e0
      replace IA := Lib.hid IA
      replace HT := Lib.hid HT
      replace HS := Lib.hid HS
      replace HP := Lib.hid HP
      go_enter Tryd.func11, Tryd.ntmps11
      go_wp2_with fail
      refine (AW.out _ (ht.out.below (here w))).mono ?_
      rintro e w1 ⟨rfl, hb⟩
      have A1 := Lib.hid (down (here w) hb)
      clear hb
      go_wp2_with fail
      refine (HT.out _ (ht.out.below A1.out)).mono ?_
      rintro e w2 ⟨rfl, hb⟩
      have A2 := Lib.hid (down A1.out hb)
      clear hb A1
      go_wp2_with fail
      refine (IA.out _).mono ?_
      rintro e x1 ⟨rfl, rfl⟩
      go_wp2_with fail
      refine (HP.out _ (ht.out.below A2.out)).mono ?_
      rintro e w3 ⟨rfl, hb⟩
      have A3 := Lib.hid (down A2.out hb)
      clear hb A2
      go_wp2_with fail
      refine (HS.out _ (ht.out.below A3.out)).mono ?_
      rintro e w4 ⟨⟨v, rfl, Q⟩, hb⟩
      obtain ⟨ov, cv, rfl⟩ := Sl.shape Q
      clear Q
      have A4 := Lib.hid (down A3.out hb)
      clear hb A3
      go_wp2
      go_ret
      exact ⟨rfl, by first | exact A4.out | exact grow A4.out _ | exact below_drewN A4.out _ | exact grow (grow A4.out _) _ | exact grow (grow (grow A4.out _) _) _⟩
    have n0 : 0 < (sgN S 13).length := Nat.pos_of_ne_zero e0
    have n13 := sgN_len S
    have nd := sgN_nodup S 13
    have mem : ∀ r, r ∈ sgN S 13 → r < 13 := fun r hr => (sgN_mem.1 hr).1
    obtain ⟨l, hl⟩ : ∃ l, sgN S 13 = l := ⟨_, rfl⟩
    have os := fun (r : List Nat) (h : ∀ x, x ∈ r ↔ x ∈ l) => orL_set hS (l := r) (fun x => by rw [h x, hl])
    rw [hl] at HS n0 n13 nd mem e0
    clear hl
    obtain ⟨T, hT⟩ : ∃ T : Nat, t = T := ⟨t.toNat, by omega⟩
    subst hT
    have rl := rot_len l T
    have rnd := rot_nodup nd T
    have rmem : ∀ r, r ∈ rotL l T → r < 13 := fun r hr => mem r (rot_sub hr)
    have ror : orL (rotL l T) = S := os (rotL l T) (fun x => ⟨rot_sub, rot_sup⟩)
    have HQ := fun w ht => uaparse ⟨(txK (toZ (rotL l T)) (rotL l T).length).toArray⟩ (by
      show (txK (toZ (rotL l T)) (rotL l T).length).toArray.size ≤ 1000
      rw [List.size_toArray]
      have m : ∀ j, j < (toZ (rotL l T)).length → ∃ r : Nat, r < 13 ∧ (toZ (rotL l T)).getD j 0 = r := fun j hj => by
        rw [toZ_len] at hj
        exact ⟨_, rmem _ (getD_mem hj), toZ_at hj⟩
      have := txK_len (toZ (rotL l T)) m (rotL l T).length (by rw [toZ_len]; exact Nat.le_refl _)
      omega) w ht
    rw [join_parse rmem rnd (by omega) (by omega), ror, rl] at HQ
    -- one round
    have ST : Hid (∀ k, k < l.length → ∃ r J : Nat, r ≤ 12 ∧ J < l.length ∧ ((k : Int) + T).tmod (l.length : Int) = J ∧ ((k : Int) + T) % (l.length : Int) = J ∧ (toZ l).getD J 0 = r ∧
        smN (rotL l T) k + 2 ^ r = smN (rotL l T) (k + 1) ∧ smN (rotL l T) k < 8192 ∧ (txK (toZ (rotL l T)) k).length ≤ 13 * k ∧
        txK (toZ (rotL l T)) (k + 1) = (txK (toZ (rotL l T)) k ++ (if 0 < k then [124] else [])) ++ (nmV r).data.toList) := by
      intro k hk
      have J := Nat.mod_lt (k + T) n0
      have q := smN_step rmem rnd (k := k) (by omega)
      rw [rot_at hk] at q
      have r13 := mem _ (getD_mem J)
      have ek : ((k : Int) + T) % (l.length : Int) = ((k + T) % l.length : Nat) := by rw [Int.natCast_emod, Int.natCast_add]
      have m : ∀ j, j < (toZ (rotL l T)).length → ∃ r : Nat, r < 13 ∧ (toZ (rotL l T)).getD j 0 = r := fun j hj => by
        rw [toZ_len] at hj
        exact ⟨_, rmem _ (getD_mem hj), toZ_at hj⟩
      refine ⟨l.getD ((k + T) % l.length) 0, (k + T) % l.length, by omega, J, ?_, ek, toZ_at J, q.1, q.2, txK_len _ m k (by rw [toZ_len]; omega), ?_⟩
      · rw [Int.tmod_eq_emod_of_nonneg (by omega)]; exact ek
      · rw [tx_step, toZ_at (by omega), rot_at hk, Int.toNat_natCast]
    have S0 : Hid (smN (rotL l T) 0 = 0) := by show (List.foldl _ 0 (List.take 0 _)) = 0; rw [List.take_zero]; rfl
    have SN : Hid (smN (rotL l T) l.length = S) := by rw [← rl, smN_all]; exact ror
    have X0 : Hid (txK (toZ (rotL l T)) 0 = []) := rfl
    have NM := Lib.hid (fun (r : Nat) (hr : r ≤ 12) w ht => iuname (r : Int) ⟨by omega, by omega⟩ w ht)
    have lz := toZ_len l
    generalize smN (rotL l T) = SM at *
    generalize txK (toZ (rotL l T)) = TX at *
    generalize toZ l = L at *
    generalize l.length = n at *
    generalize (⟨(txB (S : Int)).toArray⟩ : ByteArray) = X at *
    have k0 : ((n : Int) == 0) = false := by rw [beq_eq_false_iff_ne]; omega
    have k1 : ¬ (n : Int) = 0 := by omega
    clear nd mem os rl rnd rmem ror e0
    replace IA := Lib.hid IA
    replace HT := Lib.hid HT
    replace HS := Lib.hid HS
    replace HP := Lib.hid HP
    replace HQ := Lib.hid HQ
    go_enter Tryd.func11, Tryd.ntmps11
    go_wp2_with fail
    refine (AW.out _ (ht.out.below (here w))).mono ?_
    rintro e w1 ⟨rfl, hb⟩
    have A1 := Lib.hid (down (here w) hb)
    clear hb
    go_wp2_with fail
    refine (HT.out _ (ht.out.below A1.out)).mono ?_
    rintro e w2 ⟨rfl, hb⟩
    have A2 := Lib.hid (down A1.out hb)
    clear hb A1
    go_wp2_with fail
    refine (IA.out _).mono ?_
    rintro e x1 ⟨rfl, rfl⟩
    go_wp2_with fail
    refine (HP.out _ (ht.out.below A2.out)).mono ?_
    rintro e w3 ⟨rfl, hb⟩
    have A3 := Lib.hid (down A2.out hb)
    clear hb A2
    go_wp2_with fail
    refine (HS.out _ (ht.out.below A3.out)).mono ?_
    rintro e w4 ⟨⟨v, rfl, Q⟩, hb⟩
    obtain ⟨ov, cv, rfl⟩ := Sl.shape Q
    replace Q := Sl.weak Q (Nat.zero_le _)
    have A4 := Lib.hid (down A3.out hb)
    clear hb A3
    have Q4 := Lib.hid Q
    clear Q
    have A4' := A4
    go_wp2
    go_loopw [9, 10, 51] (fun a o i wr => ∃ k : Nat, k ≤ n ∧ a = .int .i64 (SM k) ∧ o = .string ⟨(TX k).toArray⟩ ∧ i = .int .i64 k ∧ Hid (Below w.heap.size w wr) ∧ Hid (IntS 0 wr (.slice ov L.length cv) L)) (fun _ _ i _ => n - (intOf i).toNat)
    case atStart => exact ⟨0, Nat.zero_le _, by rw [S0.out]; rfl, by rw [X0.out], rfl, A4, Q4⟩
    case round =>
      obtain ⟨k, hk, rfl, rfl, rfl, HA, HL⟩ := hrel
      clear A4 Q4 A4'
      by_cases z : k < n
      · have kz : decide ((k : Int) < (n : Int)) = true := decide_eq_true (by omega)
        obtain ⟨r, J, hr, hJ, m1, m2, gz, sm, sl, tl, tx⟩ := ST.out k z
        have nl : ¬ (n : Int) = 0 := by omega
        obtain ⟨b, off, rfl, bl, cs⟩ := ints_here HL.out (show J < L.length by omega)
        have cc := cs J (by omega)
        rw [gz] at cc
        have nm := Lib.hid (fun w ht => NM.out r hr w ht)
        rw [nmR_in hr] at nm
        have sz : (nmV r).size ≤ 12 := nm_small ⟨r, by omega⟩
        have ll : (nmV r).data.toList.length = (nmV r).size := Array.length_toList
        have nmL : nmV r = ⟨(nmV r).data.toList.toArray⟩ := rfl
        rw [nmL] at nm
        have pw := pow_lt hr
        have e1 := al_pow hr
        obtain ⟨M, hM⟩ : ∃ M : Nat, 2 ^ r = M := ⟨_, rfl⟩
        rw [hM] at pw e1 sm
        have tx' := Lib.hid tx
        have sm' := Lib.hid sm
        have J1 : (J : Int) < (n : Int) := by omega
        clear tx sm ST X0 S0 SN nmL hM gz NM cs
        generalize (nmV r).data.toList = N at *
        have n12 : N.length ≤ 12 := by omega
        clear sz ll
        have d0 : decide ((r : Int) < 0) = false := decide_eq_false (by omega)
        have d1 : decide (12 < (r : Int)) = false := decide_eq_false (by omega)
        by_cases k0' : k = 0
        · subst k0'
          simp only [Int.cast_ofNat_Int, Int.zero_add] at m1 m2
          have kl : decide (9223372036854775807 < (TX 0).length + N.length) = false := decide_eq_false (by omega)
          have T1 : Hid (INm wr) := (ht.out.below HA.out).nm
          go_wp2_with fail
          refine (nm.out _ T1.out).mono ?_
          rintro e w7 ⟨rfl, hb⟩
          have A7 := Lib.hid (down HA.out hb)
          have L7 := Lib.hid (HL.out.keep hb)
          clear hb HA HL T1
          go_wp2
          go_roundw
          case rel => exact ⟨0 + 1, by omega, by rw [← sm'.out]; rfl, by rw [ba_app, tx'.out]; simp, by go_num, A7, L7⟩
          case measure => simp [intOf]; omega
        · have kp : decide ((0 : Int) < (k : Int)) = true := decide_eq_true (by omega)
          have kl : decide (9223372036854775807 < (TX k).length + 1) = false := decide_eq_false (by omega)
          have km : decide (9223372036854775807 < (TX k).length + 1 + N.length) = false := decide_eq_false (by omega)
          have T1 : Hid (INm wr) := (ht.out.below HA.out).nm
          go_wp2_with fail
          refine (nm.out _ T1.out).mono ?_
          rintro e w7 ⟨rfl, hb⟩
          have A7 := Lib.hid (down HA.out hb)
          have L7 := Lib.hid (HL.out.keep hb)
          clear hb HA HL T1
          go_wp2
          go_roundw
          case rel => exact ⟨k + 1, by omega, by rw [← sm'.out]; rfl, by rw [show (⟨#[124]⟩ : ByteArray) = ⟨[124].toArray⟩ from rfl, ba_app, ba_app, tx'.out, if_pos (by omega)], by go_num, A7, L7⟩
          case measure => simp [intOf]; omega
      · have kz : decide ((k : Int) < (n : Int)) = false := decide_eq_false (by omega)
        obtain rfl : k = n := by omega
        rw [SN.out]
        have T1 : Hid (Tabs wr) := ht.out.below HA.out
        generalize (⟨(TX k).toArray⟩ : ByteArray) = Y at *
        clear ST X0 S0 SN HL NM
        go_wp2_with fail
        refine (HQ.out _ T1.out).mono ?_
        rintro e w8 ⟨rfl, hb⟩
        have A8 := Lib.hid (down HA.out hb)
        clear hb
        go_wp2
        go_ret
        exact ⟨rfl, A8.out⟩
end Go.Proofs.YtiaidmjhgfaobaaDoor
