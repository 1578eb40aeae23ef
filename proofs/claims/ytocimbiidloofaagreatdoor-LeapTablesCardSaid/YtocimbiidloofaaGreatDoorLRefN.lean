/- The reference's Text and Parse of integers (civiltimeref01), its sums and products. -/
import Derived.Test.YtocimbiidloofaaGreatDoorLIntA

import Derived.Test.YtocimbiidloofaaGreatDoorLRefI

import Derived.Test.YtocimbiidloofaaGreatDoorLDig

import Derived.OpenShut

import Derived.Lib.IndexBytes

import Derived.Lib.Hide

import Derived.Deep.QuietTactic

import Derived.BigQuiet

import Derived.Outline

import Derived.WalkKit

namespace Go.Proofs.YtocimbiidloofaaGreatDoor

open Go.RowKit

set_option linter.unusedVariables false
/-- The digits of a number, none for 0. -/
def dg (u : Int) : List UInt8 := if u = 0 then [] else Lib.decDigits u.toNat
theorem dg_step {u : Int} (h : 0 < u) : dg u = dg (u / 10) ++ [dgt (u % 10)] := by
  obtain ⟨n, rfl⟩ := Int.eq_ofNat_of_zero_le (Int.le_of_lt h)
  unfold dg dgt
  rw [if_neg (by omega), Int.toNat_natCast, Lib.decDigits]
  by_cases k : n < 10
  · rw [dif_pos k, if_pos (by omega), List.nil_append]
    congr 3; omega
  · rw [dif_neg k, if_neg (by omega)]
    have e1 : ((n : Int) / 10).toNat = n / 10 := by omega
    have e2 : ((n : Int) % 10).toNat = n % 10 := by omega
    rw [e1, e2]
theorem dg_length {u : Int} (h0 : 0 ≤ u) (h1 : u < 18446744073709551616) : (dg u).length ≤ 20 := by
  unfold dg
  split
  · simp
  · rw [Lib.decDigits_length]
    have := Lib.numDigits_eq u.toNat (by omega) (by omega); split at this <;> omega
/-- What holds at the head of each round that takes a digit off. -/
def TInv (n m : Int) (l : List UInt8) : Prop := dg (mg m) ++ l = dg (mg n)
theorem TInv.step {n m : Int} {l : List UInt8} (hm : m ≠ 0) (h : TInv n m l) : TInv n (m.tdiv 10) (dgt (mg m % 10) :: l) := by
  have e : mg (m.tdiv 10) = mg m / 10 := by
    rcases mg_cases m with ⟨k, e⟩ | ⟨k, e⟩
    · have t : m.tdiv 10 = -(mg m / 10) := by
        rw [e]
        have := Int.neg_tdiv (-m) 10
        rw [Int.neg_neg, Int.tdiv_eq_ediv_of_nonneg (a := -m) (by omega)] at this
        exact this
      have q0 : 0 ≤ mg m / 10 := Int.ediv_nonneg (by omega) (by omega)
      rcases mg_cases (m.tdiv 10) with ⟨k2, e2⟩ | ⟨k2, e2⟩ <;> omega
    · rw [e, Int.tdiv_eq_ediv_of_nonneg k]
      have q0 : 0 ≤ m / 10 := Int.ediv_nonneg k (by omega)
      rcases mg_cases (m / 10) with ⟨k2, e2⟩ | ⟨k2, e2⟩ <;> omega
  unfold TInv at *
  have p : 0 < mg m := by rcases mg_cases m with ⟨k, e⟩ | ⟨k, e⟩ <;> omega
  rw [← h, dg_step p, e, List.append_assoc]
  rfl
theorem TInv.len {n m : Int} {l : List UInt8} (h0 : -9223372036854775808 ≤ n) (h1 : n ≤ 9223372036854775807) (h : TInv n m l) : l.length ≤ 20 := by
  have b := mg_bd h0 h1
  have := dg_length b.1 (by omega)
  rw [← h, List.length_append] at this
  omega
theorem TInv.fin {n : Int} {l : List UInt8} (h : TInv n 0 l) : l = dg (mg n) := by
  unfold TInv at h
  have e : dg (mg 0) = [] := by simp [dg, mg]
  rw [e, List.nil_append] at h
  exact h
/-- What holds at the head of each round that fills up: 'l' began with 'l0', and ends with 'fin'. -/
def PInv (digits : Int) (l0 l : List UInt8) : Prop := ∃ k : Nat, l = Lib.repeatL [48] k ++ l0 ∧ (k = 0 ∨ (l.length : Int) ≤ max digits 1)
theorem PInv.step {digits : Int} {l0 l : List UInt8} (h : PInv digits l0 l) (hs : l = [] ∨ (l.length : Int) < digits) : PInv digits l0 (48 :: l) := by
  obtain ⟨k, rfl, hk⟩ := h
  refine ⟨k + 1, rfl, .inr ?_⟩
  rcases hs with e | e
  · rw [e]; simp; omega
  · rw [List.length_cons]; omega
theorem PInv.fin {n digits : Int} {l : List UInt8} (h : PInv digits (dg (mg n)) l) (hn : l ≠ []) (hd : digits ≤ l.length) :
    l = Lib.repeatL [48] (digits - (Lib.decDigits (mg n).toNat).length).toNat ++ Lib.decDigits (mg n).toNat := by
  obtain ⟨k, e, hk⟩ := h
  by_cases z : mg n = 0
  · have e0 : dg (mg n) = [] := by simp [dg, z]
    have e1 : Lib.decDigits (mg n).toNat = [48] := by rw [z]; rw [Lib.decDigits, dif_pos (by omega)]; rfl
    rw [e0, List.append_nil] at e
    rw [e1]
    have hl : l.length = k := by rw [e, Lib.repeatL_length]; simp
    have k0 : k ≠ 0 := by intro h; rw [h] at hl; exact hn (List.length_eq_zero_iff.1 hl)
    obtain ⟨j, rfl⟩ : ∃ j, k = j + 1 := ⟨k - 1, by omega⟩
    have : (digits - ([48] : List UInt8).length).toNat = j := by simp; omega
    rw [this, e, rep_snoc]
  · have e0 : dg (mg n) = Lib.decDigits (mg n).toNat := by simp [dg, z]
    rw [e0] at e
    have hl : l.length = k + (Lib.decDigits (mg n).toNat).length := by rw [e, List.length_append, Lib.repeatL_length]; simp
    have p : 1 ≤ (Lib.decDigits (mg n).toNat).length := by rw [Lib.decDigits_length, Lib.nDigits]; split <;> omega
    have : (digits - (Lib.decDigits (mg n).toNat).length).toNat = k := by
      rcases hk with rfl | hk <;> omega
    rw [this, e]
theorem conv_one (W : World) (D : Int) (h0 : 0 ≤ D) (h1 : D ≤ 9) :
    (convert 41 9 (.slice (some ⟨W.heap.size, 0, none⟩) 1 1)).run Tryz.prog (W.alloc (.cells #[.int .u8 (48 + D)] 5)) = .ok (.string ⟨#[dgt D]⟩) (W.alloc (.cells #[.int .u8 (48 + D)] 5)) := by
  have hb : ((dgt D).toNat : Int) = 48 + D := by
    unfold dgt; rw [UInt8.toNat_ofNat']; omega
  have h := run_convert_bytes_back (P := Tryz.prog) (W.alloc (.cells #[.int .u8 (48 + D)] 5)) 41 9 5 ⟨W.heap.size, 0, none⟩ 1 [dgt D] Tryz.underlying41 Tryz.underlying5 Tryz.underlying9 (fun j hj => by
    obtain rfl : j = 0 := by simpa using hj
    rw [Lib.add_plain, World.cell?_alloc_new]
    simp only [List.getElem_cons_zero, hb]
    rfl)
  exact h
def strLen : Value → Nat
  | .string b => b.size
  | _ => 0
set_option maxRecDepth 100000 in
set_option maxHeartbeats 1000000 in
theorem reftext_all (n digits : Int) (h0 : -9223372036854775808 ≤ n) (h1 : n ≤ 9223372036854775807) (h2 : -9223372036854775808 ≤ digits) (h3 : digits ≤ 9223372036854775807) (w : World) :
    Calls Tryz.prog 37 #[.int .i64 n, .int .i64 digits] w fun e w' => e = .returned (.string ⟨(textL n digits).toArray⟩) ∧ Below w.heap.size w w' := by
  by_cases hd : digits < 0 ∨ 20 < digits
  · unfold textL
    rw [if_pos hd]
    rcases hd with hd | hd
    · have k1 : decide (digits < 0) = true := by simpa using hd
      go_enter Tryz.func37, Tryz.ntmps37
      go_wp2
      go_ret
      exact ⟨rfl, Below.refl _ _⟩
    · have k1 : decide (digits < 0) = false := by simp; omega
      have k2 : decide (20 < digits) = true := by simpa using hd
      go_enter Tryz.func37, Tryz.ntmps37
      go_wp2
      go_ret
      exact ⟨rfl, Below.refl _ _⟩
  · have HT : textL n digits = (if n < 0 then [45] else []) ++ (Lib.repeatL [48] (digits - (Lib.decDigits (mg n).toNat).length).toNat ++ Lib.decDigits (mg n).toNat) := by unfold textL; rw [if_neg hd]
    replace HT := Lib.hid HT
    have d0 : 0 ≤ digits := by omega
    have d1 : digits ≤ 20 := by omega
    have k1 : decide (digits < 0) = false := by simp; omega
    have k2 : decide (20 < digits) = false := by simp; omega
    clear hd
    go_enter Tryz.func37, Tryz.ntmps37
    go_wp2
    go_loopw [5, 6] (fun s m wr => ∃ (x : Int) (l : List UInt8), -9223372036854775808 ≤ x ∧ x ≤ 9223372036854775807 ∧ TInv n x l ∧ l.length ≤ 20 ∧ s = .string ⟨l.toArray⟩ ∧ m = .int .i64 x ∧ Below w.heap.size w wr) (fun _ m _ => (intOf m).natAbs)
    case atStart => exact ⟨n, [], h0, h1, by simp [TInv], by simp, rfl, rfl, Below.refl _ _⟩
    case round =>
      obtain ⟨x, l, x0, x1, HI, hl, rfl, rfl, hb⟩ := hrel
      by_cases z : x = 0
      · subst z
        have HP : PInv digits (dg (mg n)) l := ⟨0, HI.fin, .inl rfl⟩
        clear HI
        go_wp2
        go_loop [5] (fun s => ∃ l : List UInt8, PInv digits (dg (mg n)) l ∧ l.length ≤ 20 ∧ s = .string ⟨l.toArray⟩) (fun s => 21 - strLen s)
        case atStart => exact ⟨l, HP, hl, rfl⟩
        case round =>
          obtain ⟨l, HP, hl, rfl⟩ := hrel
          by_cases e : l = []
          · subst e
            have HS := HP.step (.inl rfl)
            replace HS := Lib.hid HS
            clear HP
            go_wp2
            go_round
            case rel => exact ⟨[48], HS.out, by simp, rfl⟩
            case measure => simp [strLen]; decide
          · have ee : l.isEmpty = false := by simpa using e
            by_cases hlt : (l.length : Int) < digits
            · have HS := HP.step (.inr hlt)
              have hsl : (48 :: l).length ≤ 20 := by rw [List.length_cons]; omega
              replace HS := Lib.hid HS
              clear HP
              go_wp2
              go_round
              case rel => exact ⟨48 :: l, HS.out, hsl, str_cons _ _⟩
              case measure =>
                have e48 : (⟨#[48]⟩ : ByteArray).size = 1 := rfl
                have el : (⟨l.toArray⟩ : ByteArray).size = l.length := by simp [ByteArray.size]
                simp only [List.length_cons] at hsl
                simp [strLen, e48, el]
                omega
            · have HL := Lib.hid (HP.fin e (by omega))
              clear HP
              by_cases hn : n < 0
              · have k3 : decide (n < 0) = true := by simpa using hn
                go_wp2
                go_ret
                refine ⟨?_, hb⟩
                rw [HT.out, if_pos hn, ← HL.out, ← ba_append]
                rfl
              · have k3 : decide (n < 0) = false := by simpa using hn
                go_wp2
                go_ret
                refine ⟨?_, hb⟩
                rw [HT.out, if_neg (by omega), List.nil_append, ← HL.out]
                rfl
      · have z' : (x != 0) = true := by simpa using z
        have HS := HI.step z
        have hS := HS.len h0 h1
        by_cases p : 0 ≤ x
        · have e1 : mg x = x := by rcases mg_cases x with ⟨k, e⟩ | ⟨k, e⟩ <;> omega
          rw [e1, Int.tdiv_eq_ediv_of_nonneg p] at HS
          rw [e1] at hS
          obtain ⟨D, hD⟩ : ∃ D, x % 10 = D := ⟨_, rfl⟩
          rw [hD] at HS hS
          have D0 : 0 ≤ D := by omega
          have D1 : D ≤ 9 := by omega
          have kd : decide (D < 0) = false := by simp; omega
          replace HS := Lib.hid HS
          clear e1 HI
          have hcv := conv_one wr D D0 D1
          go_wp2
          go_roundw
          case rel => exact ⟨x / 10, dgt D :: l, by omega, by omega, HS.out, hS, str_cons _ _, rfl, hb.alloc hb.size _⟩
          case measure => simp [intOf]; omega
        · have e1 : mg x = -x := by rcases mg_cases x with ⟨k, e⟩ | ⟨k, e⟩ <;> omega
          have eq : x.tdiv 10 = -(-x / 10) := by
            have := Int.neg_tdiv (-x) 10
            rw [Int.neg_neg, Int.tdiv_eq_ediv_of_nonneg (a := -x) (by omega)] at this
            exact this
          have er : x.tmod 10 = -(-x % 10) := by
            have := Int.neg_tmod (-x) 10
            rw [Int.neg_neg, Int.tmod_eq_emod_of_nonneg (a := -x) (by omega)] at this
            exact this
          rw [e1, eq] at HS
          rw [e1] at hS
          obtain ⟨D, hD⟩ : ∃ D, -x % 10 = D := ⟨_, rfl⟩
          obtain ⟨q, hq⟩ : ∃ q, -(-x / 10) = q := ⟨_, rfl⟩
          rw [hD] at HS hS er
          rw [hq] at HS eq
          have D0 : 0 ≤ D := by omega
          have D1 : D ≤ 9 := by omega
          have q0 : -922337203685477581 ≤ q := by omega
          have q1 : q ≤ 0 := by omega
          have qm : q.natAbs < x.natAbs := by omega
          replace HS := Lib.hid HS
          clear e1 HI hD hq
          by_cases dz : D = 0
          · subst dz
            rw [Int.neg_zero] at er
            have hcv : (convert 41 9 (.slice (some ⟨wr.heap.size, 0, none⟩) 1 1)).run Tryz.prog (wr.alloc (.cells #[.int .u8 48] 5)) = .ok (.string ⟨#[dgt 0]⟩) (wr.alloc (.cells #[.int .u8 48] 5)) := conv_one wr 0 D0 D1
            go_wp2
            go_roundw
            case rel => exact ⟨q, dgt 0 :: l, by omega, by omega, HS.out, hS, str_cons _ _, rfl, hb.alloc hb.size _⟩
            case measure => simp [intOf]; omega
          · have kd : decide (-D < 0) = true := by simp; omega
            have hcv := conv_one wr D D0 D1
            go_wp2
            go_roundw
            case rel => exact ⟨q, dgt D :: l, by omega, by omega, HS.out, hS, str_cons _ _, rfl, hb.alloc hb.size _⟩
            case measure => simp [intOf]; omega
/-- A number with its sign. -/
def sg (neg : Bool) (v : Nat) : Int := if neg then -(v : Int) else v
/-- What the reference's Parse returns for the digits behind the sign, and its error number. -/
def sV (neg : Bool) (l : List UInt8) : Int := if digsB l then xV (sg neg (val 0 l)) else 0
def sE (neg : Bool) (l : List UInt8) : Int := if digsB l then xE (sg neg (val 0 l)) else 3
theorem r_no {neg : Bool} {l : List UInt8} (h : digsB l = false) : sV neg l = 0 ∧ sE neg l = 3 := by unfold sV sE; rw [h]; exact ⟨rfl, rfl⟩
theorem r_big {neg : Bool} {l : List UInt8} (h : digsB l = true) (hf : fits (sg neg (val 0 l)) = false) : sV neg l = 0 ∧ sE neg l = 9 := by
  unfold sV sE xV xE; rw [h, hf]; exact ⟨rfl, rfl⟩
theorem r_ok {neg : Bool} {l : List UInt8} (h : digsB l = true) (hf : fits (sg neg (val 0 l)) = true) : sV neg l = sg neg (val 0 l) ∧ sE neg l = 0 := by
  unfold sV sE xV xE; rw [h, hf]; exact ⟨rfl, rfl⟩
theorem val_append : ∀ (a b : List UInt8) (acc : Nat), val acc (a ++ b) = val (val acc a) b
  | [], b, acc => rfl
  | c :: r, b, acc => val_append r b (acc * 10 + (c.toNat - 48))
theorem val_snoc {s : ByteArray} {k : Nat} (h : k < s.size) : val 0 (s.data.toList.take (k + 1)) = val 0 (s.data.toList.take k) * 10 + (s[k].toNat - 48) := by
  rw [take_snoc s k h, val_append]; rfl
theorem val_take (l : List UInt8) (k : Nat) : val 0 (l.take k) ≤ val 0 l := by
  have e : val 0 l = val 0 (l.take k ++ l.drop k) := by rw [List.take_append_drop]
  rw [e, val_append]; exact val_ge _ _
theorem sg_mono {neg : Bool} {u v : Nat} (h : u ≤ v) (hf : fits (sg neg u) = false) : fits (sg neg v) = false := by
  rw [← Bool.not_eq_true, fits_iff] at *
  cases neg <;> simp only [sg, if_true, if_false, Bool.false_eq_true] at * <;> omega
/-- What holds at the head of each round that reads a digit. -/
def NInv (neg : Bool) (l : List UInt8) (k : Nat) (n : Int) : Prop := n = sg neg (val 0 (l.take k))
theorem digs_all {l : List UInt8} (h : digsB l = true) : l.all isDig = true := by unfold digsB at h; rw [Bool.and_eq_true] at h; exact h.2
theorem digs_at {s : ByteArray} {k : Nat} (h : k < s.size) (a : digsB s.data.toList = true) : 48 ≤ s[k].toNat ∧ s[k].toNat ≤ 57 := by
  have hm : s[k] ∈ s.data.toList := by
    have : s[k] = s.data.toList[k]'(by simpa using h) := rfl
    rw [this]; exact List.getElem_mem _
  exact isDig_iff.1 (List.all_eq_true.1 (digs_all a) _ hm)
/-- One more digit: 't' is what is computed. -/
theorem ninv_step {neg : Bool} {s : ByteArray} {k : Nat} {n c : Int} (h : k < s.size) (hn : NInv neg s.data.toList k n) (d0 : 48 ≤ s[k].toNat) (hc : c = (s[k].toNat : Int) - 48) :
    NInv neg s.data.toList (k + 1) (n * 10 + (if neg then -c else c)) := by
  unfold NInv at *
  rw [val_snoc h, hn, hc]
  cases neg <;> simp only [sg, if_true, if_false, Bool.false_eq_true] <;> omega
theorem ninv_big {neg : Bool} {s : ByteArray} {k : Nat} {n c : Int} (h : k < s.size) (ha : digsB s.data.toList = true) (hn : NInv neg s.data.toList k n) (d0 : 48 ≤ s[k].toNat) (hc : c = (s[k].toNat : Int) - 48)
    (hf : ¬ (-9223372036854775808 ≤ n * 10 ∧ n * 10 ≤ 9223372036854775807) ∨ ¬ (-9223372036854775808 ≤ n * 10 + (if neg then -c else c) ∧ n * 10 + (if neg then -c else c) ≤ 9223372036854775807)) :
    sV neg s.data.toList = 0 ∧ sE neg s.data.toList = 9 := by
  have st := ninv_step h hn d0 hc
  unfold NInv at st hn
  refine r_big ha (sg_mono (val_take _ (k + 1)) ?_)
  rw [← st, ← Bool.not_eq_true, fits_iff]
  cases neg <;> simp only [sg, if_true, if_false, Bool.false_eq_true] at * <;> omega
theorem ninv_fin {neg : Bool} {s : ByteArray} {k : Nat} {n : Int} (h : s.size ≤ k) (ha : digsB s.data.toList = true) (hn : NInv neg s.data.toList k n) (n0 : -9223372036854775808 ≤ n) (n1 : n ≤ 9223372036854775807) :
    sV neg s.data.toList = n ∧ sE neg s.data.toList = 0 := by
  unfold NInv at hn
  rw [List.take_of_length_le (by simpa using h)] at hn
  have := r_ok (neg := neg) ha (by rw [← hn, fits_iff]; exact ⟨n0, n1⟩)
  rw [this.1, this.2, ← hn]; exact ⟨rfl, rfl⟩
theorem p_neg {r : List UInt8} (h : (45 :: r).length ≤ 30) : pV (45 :: r) = sV true r ∧ pE (45 :: r) = sE true r := by
  unfold pV pE sV sE isDecL
  have hn : ¬ 30 < (45 :: r).length := by omega
  rw [trim_cons, if_pos rfl, num_neg, if_neg hn, if_neg hn]
  exact ⟨rfl, rfl⟩
theorem p_pos {c : UInt8} {r : List UInt8} (h : (c :: r).length ≤ 30) (hc : c ≠ 45) : pV (c :: r) = sV false (c :: r) ∧ pE (c :: r) = sE false (c :: r) := by
  unfold pV pE sV sE isDecL
  have hn : ¬ 30 < (c :: r).length := by omega
  rw [trim_cons, if_neg hc, num_pos r hc, if_neg hn, if_neg hn]
  exact ⟨rfl, rfl⟩
end Go.Proofs.YtocimbiidloofaaGreatDoor
