/- The walk of IntegerBack: the Go text returns true, at every input. -/
import Derived.Test.YtlggiaoaleodpaaDoorQ
namespace Go.Proofs.YtlggiaoaleodpaaDoor
open Go.RowKit
set_option linter.unusedVariables false

theorem dec_props : ∀ (m u : Nat), u ≤ m → (Lib.decDigits u).all isDig = true ∧ val 0 (Lib.decDigits u) = u := by
  intro m
  induction m with
  | zero =>
    intro u h
    obtain rfl : u = 0 := by omega
    rw [Lib.decDigits, dif_pos (by omega)]
    exact ⟨rfl, rfl⟩
  | succ m ih =>
    intro u h
    rw [Lib.decDigits]
    by_cases k : u < 10
    · rw [dif_pos k]
      have t : (UInt8.ofNat (48 + u)).toNat = 48 + u := by rw [UInt8.toNat_ofNat']; omega
      refine ⟨?_, ?_⟩
      · simp only [List.all_cons, List.all_nil, Bool.and_true, isDig_iff, t]; omega
      · show 0 * 10 + ((UInt8.ofNat (48 + u)).toNat - 48) = u
        rw [t]; omega
    · rw [dif_neg k]
      obtain ⟨a, b⟩ := ih (u / 10) (by omega)
      have t : (UInt8.ofNat (48 + u % 10)).toNat = 48 + u % 10 := by rw [UInt8.toNat_ofNat']; omega
      refine ⟨?_, ?_⟩
      · rw [List.all_append, a]
        simp only [List.all_cons, List.all_nil, Bool.and_true, Bool.true_and, isDig_iff, t]; omega
      · rw [val_append, b]
        show u / 10 * 10 + ((UInt8.ofNat (48 + u % 10)).toNat - 48) = u
        rw [t]; omega
theorem rep_props (l : List UInt8) (hl : l.all isDig = true) : ∀ j : Nat, (Lib.repeatL [48] j ++ l).all isDig = true ∧ val 0 (Lib.repeatL [48] j ++ l) = val 0 l
  | 0 => ⟨hl, rfl⟩
  | j + 1 => by
    obtain ⟨a, b⟩ := rep_props l hl j
    have e : Lib.repeatL [48] (j + 1) ++ l = 48 :: (Lib.repeatL [48] j ++ l) := rfl
    rw [e]
    refine ⟨?_, ?_⟩
    · rw [List.all_cons, a]; rfl
    · exact b
theorem text_back (n k : Int) (h0 : -9223372036854775808 ≤ n) (h1 : n ≤ 9223372036854775807) (k0 : 0 ≤ k) (k1 : k ≤ 20) :
    pV (textL n k) = n ∧ pE (textL n k) = 0 ∧ (textL n k).length ≤ 21 ∧ (n < 0 → k + 1 ≤ (textL n k).length ∧ 2 ≤ (textL n k).length ∧ (textL n k).head? = some 45) ∧ (0 ≤ n → k ≤ (textL n k).length ∧ 1 ≤ (textL n k).length) := by
  have m := mg_bd h0 h1
  have hl : 1 ≤ (Lib.decDigits (mg n).toNat).length ∧ (Lib.decDigits (mg n).toNat).length ≤ 20 := by
    rw [Lib.decDigits_length]
    have p : 1 ≤ Lib.nDigits (mg n).toNat := by rw [Lib.nDigits]; split <;> omega
    refine ⟨p, ?_⟩
    by_cases z : (mg n).toNat = 0
    · rw [z, Lib.nDigits_small (by omega)]; omega
    · clear p
      have := Lib.numDigits_eq (mg n).toNat (by omega) (by omega); split at this <;> omega
  obtain ⟨d1, d2⟩ := dec_props _ (mg n).toNat (Nat.le_refl _)
  obtain ⟨r1, r2⟩ := rep_props _ d1 (k - (Lib.decDigits (mg n).toNat).length).toNat
  rw [d2] at r2
  have bl : (Lib.repeatL [48] (k - (Lib.decDigits (mg n).toNat).length).toNat ++ Lib.decDigits (mg n).toNat).length = (k - (Lib.decDigits (mg n).toNat).length).toNat + (Lib.decDigits (mg n).toNat).length := by
    rw [List.length_append, Lib.repeatL_length]; simp
  have ht : textL n k = (if n < 0 then [45] else []) ++ (Lib.repeatL [48] (k - (Lib.decDigits (mg n).toNat).length).toNat ++ Lib.decDigits (mg n).toNat) := by unfold textL; rw [if_neg (by omega)]
  rw [ht]
  clear ht d1 d2
  generalize Lib.repeatL [48] (k - (Lib.decDigits (mg n).toNat).length).toNat ++ Lib.decDigits (mg n).toNat = b at *
  generalize (Lib.decDigits (mg n).toNat).length = q at *
  have bn : b ≠ [] := by intro e; rw [e] at bl; simp at bl; omega
  have db : digsB b = true := by unfold digsB; rw [r1, Bool.and_true]; simpa using bn
  have fn : fits n = true := fits_iff.2 ⟨h0, h1⟩
  rcases mg_cases n with ⟨s, e⟩ | ⟨s, e⟩
  · rw [if_pos s]
    have len : ([45] ++ b).length = b.length + 1 := by simp
    have sv : sg true (val 0 b) = n := by unfold sg; rw [r2]; simp; omega
    have p := p_neg (r := b) (by rw [List.length_cons]; omega)
    have q2 := r_ok (neg := true) db (by rw [sv]; exact fn)
    refine ⟨?_, ?_, by omega, fun _ => ⟨by omega, by omega, rfl⟩, fun h => by omega⟩
    · show pV (45 :: b) = n; rw [p.1, q2.1, sv]
    · show pE (45 :: b) = 0; rw [p.2, q2.2]
  · rw [if_neg (by omega), List.nil_append]
    have sv : sg false (val 0 b) = n := by unfold sg; rw [r2]; simp; omega
    have q2 := r_ok (neg := false) db (by rw [sv]; exact fn)
    cases b with
    | nil => exact absurd rfl bn
    | cons c r =>
      have hc : c ≠ 45 := by
        rw [List.all_cons, Bool.and_eq_true] at r1
        have := isDig_iff.1 r1.1
        intro x; subst x; revert this; decide
      have p := p_pos (c := c) (r := r) (by omega) hc
      refine ⟨?_, ?_, by omega, fun h => by omega, fun _ => ⟨by omega, by omega⟩⟩
      · rw [p.1, q2.1, sv]
      · rw [p.2, q2.2]

namespace IntegerBack
set_option maxRecDepth 100000 in
set_option maxHeartbeats 400000 in
theorem walk (n d : Int) (w0 : (Lit.int .i64 n).wf = true) (w1 : (Lit.int .u8 d).wf = true) (w : World) (hx : Tab w ∧ Ev w) :
    Calls Tryd.prog 11 #[.int .i64 n, .int .u8 d] w fun e w' => e = .returned (.bool true) ∧ Below w.heap.size w w' := by
  obtain ⟨h0, h1⟩ := bounds_i64 w0
  obtain ⟨h2, h3⟩ := bounds_u8 w1
  obtain ⟨htab, hev⟩ := hx
  have HW := Lib.hid (awake_all w htab)
  obtain ⟨k, hk⟩ : ∃ k, d % 21 = k := ⟨_, rfl⟩
  have k0 : 0 ≤ k := by omega
  have k1 : k ≤ 20 := by omega
  obtain ⟨e1, e2, l1, ln, lp⟩ := text_back n k h0 h1 k0 k1
  have HT := Lib.hid (fun w' (h : Below w.heap.size w w') => text_all n k h0 h1 (by omega) (by omega) w' (tab_below htab h))
  obtain ⟨S, hS⟩ : ∃ S : ByteArray, S = ⟨(textL n k).toArray⟩ := ⟨_, rfl⟩
  have hSl : S.data.toList = textL n k := by rw [hS]
  have hSs : S.size = (textL n k).length := by rw [← hSl]; exact Array.length_toList.symm
  rw [← hS] at HT
  have HP := fun w' (h : Below w.heap.size w w') => parse_all S (by unfold maxLen; omega) w' (below_ev hev h)
  rw [hSl, e1, e2] at HP
  replace HP := Lib.hid HP
  have hz : (0 < S.size → n < 0 → S[0]!.toNat = 45) := by
    intro p hn
    have h := (ln hn).2.2
    rw [← hSl] at h
    have hp : 0 < S.data.toList.length := by rw [Array.length_toList]; exact p
    rw [List.head?_eq_getElem?, List.getElem?_eq_getElem hp] at h
    have e : S[0] = S.data.toList[0]'hp := rfl
    rw [getElem!_pos S 0 p, e, Option.some.inj h]; rfl
  rw [← hSs] at l1 ln lp
  clear hS hSl hSs e1 e2 htab hev w0 w1
  by_cases hn : n < 0
  · obtain ⟨a1, a2, -⟩ := ln hn
    have p : 0 < S.size := by omega
    have z := hz p hn
    rw [getElem!_pos S 0 p] at z
    have z' : ((S[0].toNat : Int) == 45) = true := by rw [z]; rfl
    have kn : decide (n < 0) = true := decide_eq_true hn
    have kp : decide (0 ≤ n) = false := decide_eq_false (by omega)
    have kl : decide (k ≤ (S.size : Int) - 1) = true := decide_eq_true (by omega)
    have km : decide (1 ≤ (S.size : Int) - 1) = true := decide_eq_true (by omega)
    clear hz ln lp z
    go_enter Tryd.func11, Tryd.ntmps11
    go_wp2_with fail
    refine HW.out.mono ?_
    rintro e w1 ⟨rfl, hb⟩
    go_wp2_with fail
    refine (HT.out _ hb).mono ?_
    rintro e w2 ⟨rfl, hb2⟩
    have hb3 := hb.trans (hb2.mono hb.size)
    go_wp2_with fail
    refine (HP.out _ hb3).mono ?_
    rintro e w3 ⟨rfl, hb4⟩
    have hb5 := hb3.trans (hb4.mono hb3.size)
    go_wp2
    go_ret
    exact ⟨rfl, hb5⟩
  · obtain ⟨a1, a2⟩ := lp (by omega)
    have kn : decide (n < 0) = false := decide_eq_false hn
    have kp : decide (0 ≤ n) = true := decide_eq_true (by omega)
    have kl : decide (k ≤ (S.size : Int)) = true := decide_eq_true (by omega)
    have km : decide (1 ≤ (S.size : Int)) = true := decide_eq_true (by omega)
    clear hz ln lp
    go_enter Tryd.func11, Tryd.ntmps11
    go_wp2_with fail
    refine HW.out.mono ?_
    rintro e w1 ⟨rfl, hb⟩
    go_wp2_with fail
    refine (HT.out _ hb).mono ?_
    rintro e w2 ⟨rfl, hb2⟩
    have hb3 := hb.trans (hb2.mono hb.size)
    go_wp2_with fail
    refine (HP.out _ hb3).mono ?_
    rintro e w3 ⟨rfl, hb4⟩
    have hb5 := hb3.trans (hb4.mono hb3.size)
    go_wp2
    go_ret
    exact ⟨rfl, hb5⟩
end IntegerBack
end Go.Proofs.YtlggiaoaleodpaaDoor
