/- Contracts of package civil's Text, hasLayout and Parse. -/
import Derived.Test.YtdhedkcbkchpgaaDoorKept
import Derived.Test.YtdhedkcbkchpgaaDoorCivA
import Derived.Test.YtdhedkcbkchpgaaDoorParseA
namespace Go.Proofs.YtdhedkcbkchpgaaDoor
open Go.RowKit
set_option linter.unusedVariables false

theorem dec_small {n : Nat} (h : n < 10) : Lib.decDigits n = [dgt (n : Int)] := by
  rw [Lib.decDigits, dif_pos h]; unfold dgt
  congr 2
theorem dec_step {n : Nat} (h : 10 ≤ n) : Lib.decDigits n = Lib.decDigits (n / 10) ++ [dgt ((n : Int) % 10)] := by
  rw [Lib.decDigits, dif_neg (by omega)]; unfold dgt
  congr 3
theorem rep_snoc (k : Nat) : Lib.repeatL [48] (k + 1) = Lib.repeatL [48] k ++ [48] := by
  induction k with
  | zero => rfl
  | succ k ih =>
    show [48] ++ Lib.repeatL [48] (k + 1) = ([48] ++ Lib.repeatL [48] k) ++ [48]
    rw [ih, List.append_assoc]
/-- Digits of fixed number: the decimal digits, filled up with zeros. -/
theorem digL_dec : ∀ (k n : Nat), n < 10 ^ (k + 1) → (Lib.decDigits n).length ≤ k + 1 ∧ digL (k + 1) (n : Int) = Lib.repeatL [48] (k + 1 - (Lib.decDigits n).length) ++ Lib.decDigits n := by
  intro k
  induction k with
  | zero =>
    intro n h
    have h' : n < 10 := by simpa using h
    rw [dec_small h']
    refine ⟨by simp, ?_⟩
    unfold digL digL
    rw [show (n : Int) % 10 = n by omega]; rfl
  | succ k ih =>
    intro n h
    by_cases c : n < 10
    · rw [dec_small c]
      refine ⟨by simp, ?_⟩
      unfold digL
      obtain ⟨-, e⟩ := ih 0 (Nat.pow_pos (by omega))
      rw [show (n : Int) / 10 = ((0 : Nat) : Int) by omega, e, dec_small (show 0 < 10 by omega), show (n : Int) % 10 = n by omega]
      show (Lib.repeatL [48] k ++ [48]) ++ _ = Lib.repeatL [48] (k + 1) ++ _
      rw [rep_snoc]
    · rw [dec_step (by omega)]
      obtain ⟨l, e⟩ := ih (n / 10) (by rw [Nat.pow_succ] at h; omega)
      refine ⟨by simp; omega, ?_⟩
      unfold digL
      rw [show (n : Int) / 10 = ((n / 10 : Nat) : Int) by omega, e, List.append_assoc, List.length_append]
      rw [show k + 1 + 1 - ((Lib.decDigits (n / 10)).length + [dgt ((n : Int) % 10)].length) = k + 1 - (Lib.decDigits (n / 10)).length by simp]
theorem textL_digL {n : Int} {k : Nat} (n0 : 0 ≤ n) (h : n < 10 ^ (k + 1)) (hk : k + 1 ≤ 20) : textL n ((k + 1 : Nat) : Int) = digL (k + 1) n := by
  obtain ⟨m, rfl⟩ := Int.eq_ofNat_of_zero_le n0
  have h' : m < 10 ^ (k + 1) := by exact_mod_cast h
  obtain ⟨l, e⟩ := digL_dec k m h'
  unfold textL
  rw [if_neg (by omega), if_neg (by omega), e, List.nil_append]
  have em : (mg (m : Int)).toNat = m := by unfold mg; rw [if_neg (by omega)]; omega
  rw [em]
  congr 2
  omega
abbrev Tab (w : World) : Prop := Lib.TabIs Tryd.prog w "internal/strconv.uint64pow10" .u64 Lib.pow10Tab
theorem gTab : Tryd.prog.globalNamed "internal/strconv.uint64pow10" = some 3 := by kernel_rfl
theorem tab_below {w w' : World} (h : Tab w) (hb : Below w.heap.size w w') : Tab w' := Joins.tab_stays gTab h hb (Nat.le_refl _)
theorem gErr : Tryd.prog.globalNamed "strconv.ErrRange" = some 2 := by kernel_rfl
theorem ev_below {w w' : World} (h : Ev w) (hb : Below w.heap.size w w') : Ev w' := by
  obtain ⟨tp, p, h⟩ := h
  exact ⟨tp, p, Joins.var_stays gErr h hb (Nat.le_refl _)⟩
/-- integer.Text of a number of at most k digits. -/
theorem ctext (n : Int) (k : Nat) (n0 : 0 ≤ n) (n1 : n < 10 ^ (k + 1)) (hk : k ≤ 9) (w : World) (ht : Tab w) :
    Calls Tryd.prog 49 #[.int .i64 n, .int .i64 ((k + 1 : Nat) : Int)] w fun e w' => e = .returned (.string ⟨(digL (k + 1) n).toArray⟩) ∧ Below w.heap.size w w' := by
  have p : (10 : Int) ^ (k + 1) ≤ 10000000000 := by
    have q : k = 0 ∨ k = 1 ∨ k = 2 ∨ k = 3 ∨ k = 4 ∨ k = 5 ∨ k = 6 ∨ k = 7 ∨ k = 8 ∨ k = 9 := by omega
    rcases q with rfl | rfl | rfl | rfl | rfl | rfl | rfl | rfl | rfl | rfl <;> decide
  have h := text_all n ((k + 1 : Nat) : Int) (by omega) (by omega) (by omega) (by omega) w ht
  rw [textL_digL n0 n1 (by omega)] at h
  exact h
theorem ctext_no (y m d : Int) (hy : I64 y) (hm : I64 m) (hd : I64 d) (h : vld y m d = false) (w : World) (ht : Lens w) :
    Calls Tryd.prog 35 #[.agg #[.int .i64 y, .int .i64 m, .int .i64 d]] w fun e w' => e = .returned (.string ⟨#[]⟩) ∧ Below w.heap.size w w' := by
  have HV := fun w ht => cvalid y m d hy hm hd w ht
  rw [h] at HV
  replace HV := Lib.hid HV
  replace ht := Lib.hid ht
  clear h
  go_enter Tryd.func35, Tryd.ntmps35
  go_wp2_with fail
  refine (HV.out _ (lens_alloc ht.out _)).mono ?_
  rintro e w1 ⟨rfl, hb⟩
  have A1 := Lib.hid (down (grow (here w) _) hb)
  clear hb
  go_wp2
  go_ret
  exact ⟨rfl, A1.out⟩
set_option maxHeartbeats 1000000 in
theorem ctext_yes (y m d : Int) (h : vld y m d = true) (w : World) (ht : Lens w) (hp : Tab w) :
    Calls Tryd.prog 35 #[.agg #[.int .i64 y, .int .i64 m, .int .i64 d]] w fun e w' => e = .returned (.string ⟨(textD y m d).toArray⟩) ∧ Below w.heap.size w w' := by
  obtain ⟨y0, y1, m0, m1, d0, d1⟩ := vld_bd h
  have HV := fun w ht => cvalid y m d ⟨by omega, by omega⟩ ⟨by omega, by omega⟩ ⟨by omega, by omega⟩ w ht
  rw [h] at HV
  replace HV := Lib.hid HV
  have HY : Hid (∀ w, Tab w → Calls Tryd.prog 49 #[.int .i64 y, .int .i64 4] w fun e w' => e = .returned (.string ⟨(digL 4 y).toArray⟩) ∧ Below w.heap.size w w') := fun w ht => ctext y 3 (by omega) (by omega) (by omega) w ht
  have HM : Hid (∀ w, Tab w → Calls Tryd.prog 49 #[.int .i64 m, .int .i64 2] w fun e w' => e = .returned (.string ⟨(digL 2 m).toArray⟩) ∧ Below w.heap.size w w') := fun w ht => ctext m 1 (by omega) (by omega) (by omega) w ht
  have HD : Hid (∀ w, Tab w → Calls Tryd.prog 49 #[.int .i64 d, .int .i64 2] w fun e w' => e = .returned (.string ⟨(digL 2 d).toArray⟩) ∧ Below w.heap.size w w') := fun w ht => ctext d 1 (by omega) (by omega) (by omega) w ht
  have HT : Hid (textD y m d = digL 4 y ++ [45] ++ digL 2 m ++ [45] ++ digL 2 d) := by show _ = _; unfold textD; rw [if_pos h]
  have ly := digL_length 4 y
  have lm := digL_length 2 m
  have ld := digL_length 2 d
  generalize digL 4 y = a at *
  generalize digL 2 m = b at *
  generalize digL 2 d = c at *
  have ly' : a.length ≤ 4 := by omega
  have lm' : b.length ≤ 2 := by omega
  have ld' : c.length ≤ 2 := by omega
  replace ht := Lib.hid ht
  replace hp := Lib.hid hp
  clear ly lm ld h
  go_enter Tryd.func35, Tryd.ntmps35
  go_wp2_with fail
  refine (HV.out _ (lens_alloc ht.out _)).mono ?_
  rintro e w1 ⟨rfl, hb⟩
  have A1 := Lib.hid (down (grow (here w) _) hb)
  have B1 := Lib.hid (Box.new hb)
  have HP : Hid (∀ x : Kept w1, Tab x.wd) := fun x => tab_below hp.out (down A1.out x.ok)
  have k0 : ∀ x : Kept w1, x.wd.cell? ⟨w.heap.size, 0, none⟩ = some (.int .i64 y) := fun x => (B1.out.keep x.ok).c0
  have k1 : ∀ x : Kept w1, x.wd.cell? ⟨w.heap.size, 1, none⟩ = some (.int .i64 m) := fun x => (B1.out.keep x.ok).c1
  have k2 : ∀ x : Kept w1, x.wd.cell? ⟨w.heap.size, 2, none⟩ = some (.int .i64 d) := fun x => (B1.out.keep x.ok).c2
  clear hb
  go_wp2
  refine wp_region_kept (by kernel_rfl) (by kernel_rfl) ?_
  repeat (go_big_quiet_step ((go_at_call 49; first | (with_reducible exact kept_call _ (HY.out _ (HP.out _))) | (with_reducible exact kept_call _ (HM.out _ (HP.out _))) | exact kept_call _ (HD.out _ (HP.out _)))))
  refine wpQuiet_nil ?_
  intro _ hx
  obtain ⟨⟨w2, hb2⟩, hw⟩ := hx
  subst hw
  go_wp2
  go_ret
  refine ⟨?_, down A1.out hb2⟩
  rw [HT.out, ← ba_append, ← ba_append, ← ba_append, ← ba_append]
  rfl
theorem ctextd (y m d : Int) (hy : I64 y) (hm : I64 m) (hd : I64 d) (w : World) (ht : Lens w) (hp : Tab w) :
    Calls Tryd.prog 35 #[.agg #[.int .i64 y, .int .i64 m, .int .i64 d]] w fun e w' => e = .returned (.string ⟨(textD y m d).toArray⟩) ∧ Below w.heap.size w w' := by
  by_cases h : vld y m d = true
  · exact ctext_yes y m d h w ht hp
  · have e : textD y m d = [] := by unfold textD; rw [if_neg h]
    rw [e]
    exact ctext_no y m d hy hm hd (by simpa using h) w ht
end Go.Proofs.YtdhedkcbkchpgaaDoor
