/- The reference's Text and Parse of integers (civiltimeref01), its sums and products. -/
import Derived.Test.YtocimbiidloofaaDoorLIntA

import Derived.Test.YtocimbiidloofaaDoorLRefI

import Derived.Test.YtocimbiidloofaaDoorLDig

import Derived.OpenShut

import Derived.Lib.IndexBytes

import Derived.Lib.Hide

import Derived.Deep.QuietTactic

import Derived.BigQuiet

import Derived.Outline

import Derived.WalkKit

namespace Go.Proofs.YtocimbiidloofaaDoor

open Go.RowKit

set_option linter.unusedVariables false

theorem refadd_all (a b : Int) (h0 : -9223372036854775808 ≤ a) (h1 : a ≤ 9223372036854775807) (h2 : -9223372036854775808 ≤ b) (h3 : b ≤ 9223372036854775807) (w : World) :
    Calls Tryd.prog 52 #[.int .i64 a, .int .i64 b] w fun e w' => e = .returned (.tuple #[.int .i64 (xV (a + b)), .int .i64 (xE (a + b))]) ∧ w = w' := by
  obtain ⟨S, hS⟩ : ∃ S, wrap64 (a + b) = S := ⟨_, rfl⟩
  have q : (-9223372036854775808 ≤ a + b ∧ a + b ≤ 9223372036854775807) ∧ S = a + b ∨ ¬ (-9223372036854775808 ≤ a + b ∧ a + b ≤ 9223372036854775807) ∧ (a < 0 ∧ b < 0 ∧ 0 ≤ S ∨ 0 ≤ a ∧ 0 ≤ b ∧ S < 0) := by
    have := hS; unfold wrap64 at this; omega
  rcases q with ⟨q, e⟩ | ⟨q, ⟨k1, k2, k3⟩ | ⟨k1, k2, k3⟩⟩
  · rw [xV_in q, xE_in q]
    obtain ⟨q0, q1⟩ := q
    subst e
    clear hS
    obtain ⟨s, hs⟩ : ∃ s, decide (a < 0) = s := ⟨_, rfl⟩
    obtain ⟨t, ht⟩ : ∃ s, decide (b < 0) = s := ⟨_, rfl⟩
    obtain ⟨u, hu⟩ : ∃ s, decide (a + b < 0) = s := ⟨_, rfl⟩
    have k : ((s == t) && !(u == s)) = false := by
      subst hs; subst ht; subst hu
      by_cases u : a < 0 <;> by_cases v : b < 0 <;> by_cases x : a + b < 0 <;> simp [u, v, x] <;> omega
    cases s <;> cases t <;> cases u <;> (try cases k)
    all_goals
      go_enter Tryd.func52, Tryd.ntmps52
      go_wp2
      go_ret2
      exact ⟨rfl, rfl⟩
  · rw [xV_out q, xE_out q]
    have e1 : decide (a < 0) = true := by simpa using k1
    have e2 : decide (b < 0) = true := by simpa using k2
    have e3 : decide (S < 0) = false := by simpa using k3
    clear q
    go_enter Tryd.func52, Tryd.ntmps52
    go_wp2
    go_ret2
    exact ⟨rfl, rfl⟩
  · rw [xV_out q, xE_out q]
    have e1 : decide (a < 0) = false := by simpa using k1
    have e2 : decide (b < 0) = false := by simpa using k2
    have e3 : decide (S < 0) = true := by simpa using k3
    clear q
    go_enter Tryd.func52, Tryd.ntmps52
    go_wp2
    go_ret2
    exact ⟨rfl, rfl⟩
set_option maxHeartbeats 400000 in
theorem refmul_all (a b : Int) (h0 : -9223372036854775808 ≤ a) (h1 : a ≤ 9223372036854775807) (h2 : -9223372036854775808 ≤ b) (h3 : b ≤ 9223372036854775807) (w : World) :
    Calls Tryd.prog 51 #[.int .i64 a, .int .i64 b] w fun e w' => e = .returned (.tuple #[.int .i64 (xV (a * b)), .int .i64 (xE (a * b))]) ∧ w = w' := by
  by_cases az : a = 0
  · subst az
    rw [Int.zero_mul]
    go_enter Tryd.func51, Tryd.ntmps51
    go_wp2
    go_ret2
    exact ⟨rfl, rfl⟩
  by_cases bz : b = 0
  · subst bz
    rw [Int.mul_zero]
    have e1 : (a == 0) = false := by simpa using az
    go_enter Tryd.func51, Tryd.ntmps51
    go_wp2
    go_ret2
    exact ⟨rfl, rfl⟩
  by_cases s1 : a = -9223372036854775808 ∧ b = -1
  · obtain ⟨rfl, rfl⟩ := s1
    rw [xV_out (by decide), xE_out (by decide)]
    go_enter Tryd.func51, Tryd.ntmps51
    go_wp2
    go_ret2
    exact ⟨rfl, rfl⟩
  by_cases s2 : b = -9223372036854775808 ∧ a = -1
  · obtain ⟨rfl, rfl⟩ := s2
    rw [xV_out (by decide), xE_out (by decide)]
    go_enter Tryd.func51, Tryd.ntmps51
    go_wp2
    go_ret2
    exact ⟨rfl, rfl⟩
  have e1 : (a == 0) = false := by simpa using az
  have e2 : (b == 0) = false := by simpa using bz
  obtain ⟨c1, hc1⟩ : ∃ c, (a == -9223372036854775808) = c := ⟨_, rfl⟩
  obtain ⟨d1, hd1⟩ : ∃ c, (b == -1) = c := ⟨_, rfl⟩
  obtain ⟨c2, hc2⟩ : ∃ c, (b == -9223372036854775808) = c := ⟨_, rfl⟩
  obtain ⟨d2, hd2⟩ : ∃ c, (a == -1) = c := ⟨_, rfl⟩
  have e3 : (c1 && d1) = false := by subst hc1; subst hd1; rw [Bool.and_eq_false_iff]; simp only [beq_eq_false_iff_ne]; omega
  have e4 : (c2 && d2) = false := by subst hc2; subst hd2; rw [Bool.and_eq_false_iff]; simp only [beq_eq_false_iff_ne]; omega
  have mb := mul_back (a := a) bz h2 h3
  have tb := tq_bd (a := wrap64 (a * b)) (b := b) (by unfold wrap64; omega) (by unfold wrap64; omega) (by unfold wrap64; rintro ⟨x, rfl⟩; omega) bz
  obtain ⟨p, hp⟩ : ∃ p, wrap64 (a * b) = p := ⟨_, rfl⟩
  rw [hp] at mb tb
  obtain ⟨t, ht⟩ : ∃ t, p.tdiv b = t := ⟨_, rfl⟩
  rw [ht] at mb tb
  obtain ⟨t0, t1⟩ := tb
  have P : (if ta : t = a then a * b = p else True) := by
    split
    · have := mb.1 (by assumption); rw [← hp]; unfold wrap64; omega
    · trivial
  clear s1 s2 az
  by_cases ta : t = a
  · rw [xV_in (mb.1 ta), xE_in (mb.1 ta)]
    rw [dif_pos ta] at P
    rw [P]
    subst ta
    clear mb P
    have hp' : wrap64 (t * b) = p := hp
    cases c1 <;> cases d1 <;> (try cases e3) <;> cases c2 <;> cases d2 <;> (try cases e4)
    all_goals
      go_enter Tryd.func51, Tryd.ntmps51
      go_wp2
      go_ret2
      exact ⟨by show Ending.returned (.tuple #[.int .i64 (wrap64 (t * b)), .int .i64 0]) = _; rw [hp], rfl⟩
  · rw [xV_out (mt mb.2 ta), xE_out (mt mb.2 ta)]
    have ta' : (t != a) = true := by simpa using ta
    clear mb P
    cases c1 <;> cases d1 <;> (try cases e3) <;> cases c2 <;> cases d2 <;> (try cases e4)
    all_goals
      go_enter Tryd.func51, Tryd.ntmps51
      go_wp2
      go_ret2
      exact ⟨rfl, rfl⟩
/-- The digits of a number, none for 0. -/
def dg (u : Int) : List UInt8 := if u = 0 then [] else Lib.decDigits u.toNat
theorem dg_step {u : Int} (h : 0 < u) : dg u = dg (u / 10) ++ [dgt (u % 10)] := by
  obtain ⟨n, rfl⟩ := Int.eq_ofNat_of_zero_le (Int.le_of_lt h)
  unfold dg dgt
  rw [if_neg (by omega), Int.toNat_natCast, Lib.decDigits]
  by_cases k : n < 10
  · rw [dif_pos k, if_pos (by omega), List.nil_append]
    congr 3; omega
  · rw [dif_neg k, if_neg (by omega)]
    have e1 : ((n : Int) / 10).toNat = n / 10 := by omega
    have e2 : ((n : Int) % 10).toNat = n % 10 := by omega
    rw [e1, e2]
theorem dg_length {u : Int} (h0 : 0 ≤ u) (h1 : u < 18446744073709551616) : (dg u).length ≤ 20 := by
  unfold dg
  split
  · simp
  · rw [Lib.decDigits_length]
    have := Lib.numDigits_eq u.toNat (by omega) (by omega); split at this <;> omega
/-- What holds at the head of each round that takes a digit off. -/
def TInv (n m : Int) (l : List UInt8) : Prop := dg (mg m) ++ l = dg (mg n)
theorem TInv.step {n m : Int} {l : List UInt8} (hm : m ≠ 0) (h : TInv n m l) : TInv n (m.tdiv 10) (dgt (mg m % 10) :: l) := by
  have e : mg (m.tdiv 10) = mg m / 10 := by
    rcases mg_cases m with ⟨k, e⟩ | ⟨k, e⟩
    · have t : m.tdiv 10 = -(mg m / 10) := by
        rw [e]
        have := Int.neg_tdiv (-m) 10
        rw [Int.neg_neg, Int.tdiv_eq_ediv_of_nonneg (a := -m) (by omega)] at this
        exact this
      have q0 : 0 ≤ mg m / 10 := Int.ediv_nonneg (by omega) (by omega)
      rcases mg_cases (m.tdiv 10) with ⟨k2, e2⟩ | ⟨k2, e2⟩ <;> omega
    · rw [e, Int.tdiv_eq_ediv_of_nonneg k]
      have q0 : 0 ≤ m / 10 := Int.ediv_nonneg k (by omega)
      rcases mg_cases (m / 10) with ⟨k2, e2⟩ | ⟨k2, e2⟩ <;> omega
  unfold TInv at *
  have p : 0 < mg m := by rcases mg_cases m with ⟨k, e⟩ | ⟨k, e⟩ <;> omega
  rw [← h, dg_step p, e, List.append_assoc]
  rfl
theorem TInv.len {n m : Int} {l : List UInt8} (h0 : -9223372036854775808 ≤ n) (h1 : n ≤ 9223372036854775807) (h : TInv n m l) : l.length ≤ 20 := by
  have b := mg_bd h0 h1
  have := dg_length b.1 (by omega)
  rw [← h, List.length_append] at this
  omega
theorem TInv.fin {n : Int} {l : List UInt8} (h : TInv n 0 l) : l = dg (mg n) := by
  unfold TInv at h
  have e : dg (mg 0) = [] := by simp [dg, mg]
  rw [e, List.nil_append] at h
  exact h
/-- What holds at the head of each round that fills up: 'l' began with 'l0', and ends with 'fin'. -/
def PInv (digits : Int) (l0 l : List UInt8) : Prop := ∃ k : Nat, l = Lib.repeatL [48] k ++ l0 ∧ (k = 0 ∨ (l.length : Int) ≤ max digits 1)
theorem PInv.step {digits : Int} {l0 l : List UInt8} (h : PInv digits l0 l) (hs : l = [] ∨ (l.length : Int) < digits) : PInv digits l0 (48 :: l) := by
  obtain ⟨k, rfl, hk⟩ := h
  refine ⟨k + 1, rfl, .inr ?_⟩
  rcases hs with e | e
  · rw [e]; simp; omega
  · rw [List.length_cons]; omega
theorem PInv.fin {n digits : Int} {l : List UInt8} (h : PInv digits (dg (mg n)) l) (hn : l ≠ []) (hd : digits ≤ l.length) :
    l = Lib.repeatL [48] (digits - (Lib.decDigits (mg n).toNat).length).toNat ++ Lib.decDigits (mg n).toNat := by
  obtain ⟨k, e, hk⟩ := h
  by_cases z : mg n = 0
  · have e0 : dg (mg n) = [] := by simp [dg, z]
    have e1 : Lib.decDigits (mg n).toNat = [48] := by rw [z]; rw [Lib.decDigits, dif_pos (by omega)]; rfl
    rw [e0, List.append_nil] at e
    rw [e1]
    have hl : l.length = k := by rw [e, Lib.repeatL_length]; simp
    have k0 : k ≠ 0 := by intro h; rw [h] at hl; exact hn (List.length_eq_zero_iff.1 hl)
    obtain ⟨j, rfl⟩ : ∃ j, k = j + 1 := ⟨k - 1, by omega⟩
    have : (digits - ([48] : List UInt8).length).toNat = j := by simp; omega
    rw [this, e, rep_snoc]
  · have e0 : dg (mg n) = Lib.decDigits (mg n).toNat := by simp [dg, z]
    rw [e0] at e
    have hl : l.length = k + (Lib.decDigits (mg n).toNat).length := by rw [e, List.length_append, Lib.repeatL_length]; simp
    have p : 1 ≤ (Lib.decDigits (mg n).toNat).length := by rw [Lib.decDigits_length, Lib.nDigits]; split <;> omega
    have : (digits - (Lib.decDigits (mg n).toNat).length).toNat = k := by
      rcases hk with rfl | hk <;> omega
    rw [this, e]
theorem conv_one (W : World) (D : Int) (h0 : 0 ≤ D) (h1 : D ≤ 9) :
    (convert 99 9 (.slice (some ⟨W.heap.size, 0, none⟩) 1 1)).run Tryd.prog (W.alloc (.cells #[.int .u8 (48 + D)] 5)) = .ok (.string ⟨#[dgt D]⟩) (W.alloc (.cells #[.int .u8 (48 + D)] 5)) := by
  have hb : ((dgt D).toNat : Int) = 48 + D := by
    unfold dgt; rw [UInt8.toNat_ofNat']; omega
  have h := run_convert_bytes_back (P := Tryd.prog) (W.alloc (.cells #[.int .u8 (48 + D)] 5)) 99 9 5 ⟨W.heap.size, 0, none⟩ 1 [dgt D] Tryd.underlying99 Tryd.underlying5 Tryd.underlying9 (fun j hj => by
    obtain rfl : j = 0 := by simpa using hj
    rw [Lib.add_plain, World.cell?_alloc_new]
    simp only [List.getElem_cons_zero, hb]
    rfl)
  exact h
def strLen : Value → Nat
  | .string b => b.size
  | _ => 0
theorem refparse_long (s : ByteArray) (hs : s.size ≤ maxLen) (h : 30 < s.size) (w : World) :
    Calls Tryd.prog 40 #[.string s] w fun e w' => e = .returned (.tuple #[.int .i64 0, .int .i64 5]) ∧ w = w' := by
  unfold maxLen at hs
  go_enter Tryd.func40, Tryd.ntmps40
  go_wp2
  go_ret2
  exact ⟨rfl, rfl⟩
theorem refparse_empty (w : World) :
    Calls Tryd.prog 40 #[.string ⟨#[]⟩] w fun e w' => e = .returned (.tuple #[.int .i64 0, .int .i64 3]) ∧ w = w' := by
  go_enter Tryd.func40, Tryd.ntmps40
  go_wp2
  go_ret2
  exact ⟨rfl, rfl⟩
/-- A number with its sign. -/
def sg (neg : Bool) (v : Nat) : Int := if neg then -(v : Int) else v
/-- What the reference's Parse returns for the digits behind the sign, and its error number. -/
def sV (neg : Bool) (l : List UInt8) : Int := if digsB l then xV (sg neg (val 0 l)) else 0
def sE (neg : Bool) (l : List UInt8) : Int := if digsB l then xE (sg neg (val 0 l)) else 3
theorem r_no {neg : Bool} {l : List UInt8} (h : digsB l = false) : sV neg l = 0 ∧ sE neg l = 3 := by unfold sV sE; rw [h]; exact ⟨rfl, rfl⟩
theorem r_big {neg : Bool} {l : List UInt8} (h : digsB l = true) (hf : fits (sg neg (val 0 l)) = false) : sV neg l = 0 ∧ sE neg l = 9 := by
  unfold sV sE xV xE; rw [h, hf]; exact ⟨rfl, rfl⟩
theorem r_ok {neg : Bool} {l : List UInt8} (h : digsB l = true) (hf : fits (sg neg (val 0 l)) = true) : sV neg l = sg neg (val 0 l) ∧ sE neg l = 0 := by
  unfold sV sE xV xE; rw [h, hf]; exact ⟨rfl, rfl⟩
theorem val_append : ∀ (a b : List UInt8) (acc : Nat), val acc (a ++ b) = val (val acc a) b
  | [], b, acc => rfl
  | c :: r, b, acc => val_append r b (acc * 10 + (c.toNat - 48))
theorem val_snoc {s : ByteArray} {k : Nat} (h : k < s.size) : val 0 (s.data.toList.take (k + 1)) = val 0 (s.data.toList.take k) * 10 + (s[k].toNat - 48) := by
  rw [take_snoc s k h, val_append]; rfl
theorem val_take (l : List UInt8) (k : Nat) : val 0 (l.take k) ≤ val 0 l := by
  have e : val 0 l = val 0 (l.take k ++ l.drop k) := by rw [List.take_append_drop]
  rw [e, val_append]; exact val_ge _ _
theorem sg_mono {neg : Bool} {u v : Nat} (h : u ≤ v) (hf : fits (sg neg u) = false) : fits (sg neg v) = false := by
  rw [← Bool.not_eq_true, fits_iff] at *
  cases neg <;> simp only [sg, if_true, if_false, Bool.false_eq_true] at * <;> omega
/-- What holds at the head of each round that reads a digit. -/
def NInv (neg : Bool) (l : List UInt8) (k : Nat) (n : Int) : Prop := n = sg neg (val 0 (l.take k))
theorem digs_all {l : List UInt8} (h : digsB l = true) : l.all isDig = true := by unfold digsB at h; rw [Bool.and_eq_true] at h; exact h.2
theorem digs_at {s : ByteArray} {k : Nat} (h : k < s.size) (a : digsB s.data.toList = true) : 48 ≤ s[k].toNat ∧ s[k].toNat ≤ 57 := by
  have hm : s[k] ∈ s.data.toList := by
    have : s[k] = s.data.toList[k]'(by simpa using h) := rfl
    rw [this]; exact List.getElem_mem _
  exact isDig_iff.1 (List.all_eq_true.1 (digs_all a) _ hm)
/-- One more digit: 't' is what is computed. -/
theorem ninv_step {neg : Bool} {s : ByteArray} {k : Nat} {n c : Int} (h : k < s.size) (hn : NInv neg s.data.toList k n) (d0 : 48 ≤ s[k].toNat) (hc : c = (s[k].toNat : Int) - 48) :
    NInv neg s.data.toList (k + 1) (n * 10 + (if neg then -c else c)) := by
  unfold NInv at *
  rw [val_snoc h, hn, hc]
  cases neg <;> simp only [sg, if_true, if_false, Bool.false_eq_true] <;> omega
theorem ninv_big {neg : Bool} {s : ByteArray} {k : Nat} {n c : Int} (h : k < s.size) (ha : digsB s.data.toList = true) (hn : NInv neg s.data.toList k n) (d0 : 48 ≤ s[k].toNat) (hc : c = (s[k].toNat : Int) - 48)
    (hf : ¬ (-9223372036854775808 ≤ n * 10 ∧ n * 10 ≤ 9223372036854775807) ∨ ¬ (-9223372036854775808 ≤ n * 10 + (if neg then -c else c) ∧ n * 10 + (if neg then -c else c) ≤ 9223372036854775807)) :
    sV neg s.data.toList = 0 ∧ sE neg s.data.toList = 9 := by
  have st := ninv_step h hn d0 hc
  unfold NInv at st hn
  refine r_big ha (sg_mono (val_take _ (k + 1)) ?_)
  rw [← st, ← Bool.not_eq_true, fits_iff]
  cases neg <;> simp only [sg, if_true, if_false, Bool.false_eq_true] at * <;> omega
theorem ninv_fin {neg : Bool} {s : ByteArray} {k : Nat} {n : Int} (h : s.size ≤ k) (ha : digsB s.data.toList = true) (hn : NInv neg s.data.toList k n) (n0 : -9223372036854775808 ≤ n) (n1 : n ≤ 9223372036854775807) :
    sV neg s.data.toList = n ∧ sE neg s.data.toList = 0 := by
  unfold NInv at hn
  rw [List.take_of_length_le (by simpa using h)] at hn
  have := r_ok (neg := neg) ha (by rw [← hn, fits_iff]; exact ⟨n0, n1⟩)
  rw [this.1, this.2, ← hn]; exact ⟨rfl, rfl⟩
set_option maxRecDepth 100000 in
set_option maxHeartbeats 1000000 in
theorem refparse_neg (s D : ByteArray) (h0 : 0 < s.size) (h30 : s.size ≤ 30) (hc : s[0].toNat = 45) (hD : s.extract 1 s.size = D) (hDs : D.size + 1 = s.size) (w : World) :
    Calls Tryd.prog 40 #[.string s] w fun e w' => e = .returned (.tuple #[.int .i64 (sV true D.data.toList), .int .i64 (sE true D.data.toList)]) ∧ w = w' := by
  have he : s.toList.isEmpty = false := by
    rw [ByteArray.toList_eq]; simp; intro h; simp [ByteArray.size, h] at h0
  have hci : ((s[0].toNat : Int) == 45) = true := by rw [hc]; rfl
  clear hc
  by_cases hz : D.data.toList = []
  · have H := Lib.hid (r_no (neg := true) (show digsB D.data.toList = false by rw [hz]; rfl))
    have hz' : D.toList.isEmpty = true := by rw [ByteArray.toList_eq, hz]; rfl
    clear hz
    go_enter Tryd.func40, Tryd.ntmps40
    go_wp2
    go_ret2
    exact ⟨by rw [H.out.1, H.out.2]; rfl, rfl⟩
  have hz' : D.toList.isEmpty = false := by rw [ByteArray.toList_eq]; simpa using hz
  go_enter Tryd.func40, Tryd.ntmps40
  go_wp2
  go_loop [5] (fun i => ∃ k : Nat, k ≤ D.size ∧ i = .int .i64 k ∧ Upto D.data.toList k) (fun i => D.size - (intOf i).toNat)
  case atStart => exact ⟨0, Nat.zero_le _, rfl, rfl⟩
  case round =>
    obtain ⟨k, hk, rfl, HU⟩ := hrel
    by_cases hlt : k < D.size
    · have HU' := Lib.hid (upto_step hlt HU)
      have HN := Lib.hid (fun h => r_no (neg := true) (upto_no hlt h))
      clear HU
      go_wp2
      · go_ret2
        exact ⟨by rw [(HN.out (by omega)).1, (HN.out (by omega)).2]; rfl, rfl⟩
      · go_round
        case rel => exact ⟨k + 1, by omega, by go_num, HU'.out (by omega)⟩
        case measure => simp [intOf]; omega
      · go_ret2
        exact ⟨by rw [(HN.out (by omega)).1, (HN.out (by omega)).2]; rfl, rfl⟩
    · have ha : digsB D.data.toList = true := by
        have : D.data.toList.take k = D.data.toList := List.take_of_length_le (by simpa using (show D.size ≤ k by omega))
        unfold Upto at HU
        rw [this] at HU
        unfold digsB; rw [HU, Bool.and_true]; simpa using hz
      replace ha := Lib.hid ha
      clear HU
      go_wp2
      go_loop [6, 7] (fun x i => ∃ (j : Nat) (n : Int), j ≤ D.size ∧ i = .int .i64 j ∧ x = .int .i64 n ∧ -9223372036854775808 ≤ n ∧ n ≤ 9223372036854775807 ∧ NInv true D.data.toList j n) (fun _ i => D.size - (intOf i).toNat)
      case atStart => exact ⟨0, 0, Nat.zero_le _, rfl, rfl, by omega, by omega, rfl⟩
      case round =>
        obtain ⟨j, n, hj, rfl, rfl, n0, n1, HI⟩ := hrel
        by_cases hlt2 : j < D.size
        · obtain ⟨c0, c1⟩ := digs_at hlt2 ha.out
          have HB := Lib.hid (fun c h => ninv_big (c := c) hlt2 ha.out HI c0 h)
          have HS := Lib.hid (fun c h => ninv_step (c := c) hlt2 HI c0 h)
          clear HI
          have HX := Lib.hid (fun m (h : -9223372036854775808 ≤ m) (h' : m ≤ 9223372036854775807) w => refadd_all m (-(((D[j].toNat : Nat) : Int) - 48)) h h' (by omega) (by omega) w)
          by_cases f1 : -9223372036854775808 ≤ n * 10 ∧ n * 10 ≤ 9223372036854775807
          · have H1 := fun w => refmul_all n 10 n0 n1 (by omega) (by omega) w
            rw [xV_in f1, xE_in f1] at H1
            replace H1 := Lib.hid H1
            obtain ⟨f2, f3⟩ := f1
            have H2 := HX.out (n * 10) f2 f3
            by_cases f4 : -9223372036854775808 ≤ n * 10 + (-(((D[j].toNat : Nat) : Int) - 48)) ∧ n * 10 + (-(((D[j].toNat : Nat) : Int) - 48)) ≤ 9223372036854775807
            · rw [xV_in f4, xE_in f4] at H2
              replace H2 := Lib.hid H2
              replace HS := Lib.hid (HS.out _ rfl)
              obtain ⟨f5, f6⟩ := f4
              go_wp2_with fail
              refine (H1.out _).mono ?_
              rintro e w' ⟨rfl, rfl⟩
              go_wp2_with fail
              refine (H2.out _).mono ?_
              rintro e w' ⟨rfl, rfl⟩
              go_wp2
              go_round
              case rel => exact ⟨j + 1, n * 10 + (-(((D[j].toNat : Nat) : Int) - 48)), by omega, by go_num, rfl, f5, f6, HS.out⟩
              case measure => simp [intOf]; omega
            · rw [xV_out f4, xE_out f4] at H2
              replace H2 := Lib.hid H2
              replace HB := Lib.hid (HB.out _ rfl (.inr f4))
              clear f4 HS
              go_wp2_with fail
              refine (H1.out _).mono ?_
              rintro e w' ⟨rfl, rfl⟩
              go_wp2_with fail
              refine (H2.out _).mono ?_
              rintro e w' ⟨rfl, rfl⟩
              go_wp2
              go_ret2
              exact ⟨by rw [HB.out.1, HB.out.2]; rfl, rfl⟩
          · have H1 := fun w => refmul_all n 10 n0 n1 (by omega) (by omega) w
            rw [xV_out f1, xE_out f1] at H1
            replace H1 := Lib.hid H1
            have H2 := Lib.hid (HX.out 0 (by omega) (by omega))
            replace HB := Lib.hid (HB.out _ rfl (.inl f1))
            clear f1 HS
            go_wp2_with fail
            refine (H1.out _).mono ?_
            rintro e w' ⟨rfl, rfl⟩
            go_wp2_with fail
            refine (H2.out _).mono ?_
            rintro e w' ⟨rfl, rfl⟩
            go_wp2
            go_ret2
            exact ⟨by rw [HB.out.1, HB.out.2]; rfl, rfl⟩
        · have HF := Lib.hid (ninv_fin (by omega) ha.out HI n0 n1)
          clear HI
          go_wp2
          go_ret2
          exact ⟨by rw [HF.out.1, HF.out.2]; rfl, rfl⟩
set_option maxRecDepth 100000 in
set_option maxHeartbeats 1000000 in
theorem refparse_pos (s : ByteArray) (h0 : 0 < s.size) (h30 : s.size ≤ 30) (hc : s[0].toNat ≠ 45) (w : World) :
    Calls Tryd.prog 40 #[.string s] w fun e w' => e = .returned (.tuple #[.int .i64 (sV false s.data.toList), .int .i64 (sE false s.data.toList)]) ∧ w = w' := by
  have he : s.toList.isEmpty = false := by
    rw [ByteArray.toList_eq]; simp; intro h; simp [ByteArray.size, h] at h0
  have hci : ((s[0].toNat : Int) == 45) = false := by simpa using (show (s[0].toNat : Int) ≠ 45 by omega)
  clear hc
  have hz : s.data.toList ≠ [] := by
    intro h
    have e : s.data.toList.length = s.size := Array.length_toList
    rw [h] at e; simp at e; omega
  go_enter Tryd.func40, Tryd.ntmps40
  go_wp2
  go_loop [5] (fun i => ∃ k : Nat, k ≤ s.size ∧ i = .int .i64 k ∧ Upto s.data.toList k) (fun i => s.size - (intOf i).toNat)
  case atStart => exact ⟨0, Nat.zero_le _, rfl, rfl⟩
  case round =>
    obtain ⟨k, hk, rfl, HU⟩ := hrel
    by_cases hlt : k < s.size
    · have HU' := Lib.hid (upto_step hlt HU)
      have HN := Lib.hid (fun h => r_no (neg := false) (upto_no hlt h))
      clear HU
      go_wp2
      · go_ret2
        exact ⟨by rw [(HN.out (by omega)).1, (HN.out (by omega)).2]; rfl, rfl⟩
      · go_round
        case rel => exact ⟨k + 1, by omega, by go_num, HU'.out (by omega)⟩
        case measure => simp [intOf]; omega
      · go_ret2
        exact ⟨by rw [(HN.out (by omega)).1, (HN.out (by omega)).2]; rfl, rfl⟩
    · have ha : digsB s.data.toList = true := by
        have : s.data.toList.take k = s.data.toList := List.take_of_length_le (by simpa using (show s.size ≤ k by omega))
        unfold Upto at HU
        rw [this] at HU
        unfold digsB; rw [HU, Bool.and_true]; simpa using hz
      replace ha := Lib.hid ha
      clear HU
      go_wp2
      go_loop [6, 7] (fun x i => ∃ (j : Nat) (n : Int), j ≤ s.size ∧ i = .int .i64 j ∧ x = .int .i64 n ∧ -9223372036854775808 ≤ n ∧ n ≤ 9223372036854775807 ∧ NInv false s.data.toList j n) (fun _ i => s.size - (intOf i).toNat)
      case atStart => exact ⟨0, 0, Nat.zero_le _, rfl, rfl, by omega, by omega, rfl⟩
      case round =>
        obtain ⟨j, n, hj, rfl, rfl, n0, n1, HI⟩ := hrel
        by_cases hlt2 : j < s.size
        · obtain ⟨c0, c1⟩ := digs_at hlt2 ha.out
          have HB := Lib.hid (fun c h => ninv_big (c := c) hlt2 ha.out HI c0 h)
          have HS := Lib.hid (fun c h => ninv_step (c := c) hlt2 HI c0 h)
          clear HI
          have HX := Lib.hid (fun m (h : -9223372036854775808 ≤ m) (h' : m ≤ 9223372036854775807) w => refadd_all m (((s[j].toNat : Nat) : Int) - 48) h h' (by omega) (by omega) w)
          by_cases f1 : -9223372036854775808 ≤ n * 10 ∧ n * 10 ≤ 9223372036854775807
          · have H1 := fun w => refmul_all n 10 n0 n1 (by omega) (by omega) w
            rw [xV_in f1, xE_in f1] at H1
            replace H1 := Lib.hid H1
            obtain ⟨f2, f3⟩ := f1
            have H2 := HX.out (n * 10) f2 f3
            by_cases f4 : -9223372036854775808 ≤ n * 10 + (((s[j].toNat : Nat) : Int) - 48) ∧ n * 10 + (((s[j].toNat : Nat) : Int) - 48) ≤ 9223372036854775807
            · rw [xV_in f4, xE_in f4] at H2
              replace H2 := Lib.hid H2
              replace HS := Lib.hid (HS.out _ rfl)
              obtain ⟨f5, f6⟩ := f4
              go_wp2_with fail
              refine (H1.out _).mono ?_
              rintro e w' ⟨rfl, rfl⟩
              go_wp2_with fail
              refine (H2.out _).mono ?_
              rintro e w' ⟨rfl, rfl⟩
              go_wp2
              go_round
              case rel => exact ⟨j + 1, n * 10 + (((s[j].toNat : Nat) : Int) - 48), by omega, by go_num, rfl, f5, f6, HS.out⟩
              case measure => simp [intOf]; omega
            · rw [xV_out f4, xE_out f4] at H2
              replace H2 := Lib.hid H2
              replace HB := Lib.hid (HB.out _ rfl (.inr f4))
              clear f4 HS
              go_wp2_with fail
              refine (H1.out _).mono ?_
              rintro e w' ⟨rfl, rfl⟩
              go_wp2_with fail
              refine (H2.out _).mono ?_
              rintro e w' ⟨rfl, rfl⟩
              go_wp2
              go_ret2
              exact ⟨by rw [HB.out.1, HB.out.2]; rfl, rfl⟩
          · have H1 := fun w => refmul_all n 10 n0 n1 (by omega) (by omega) w
            rw [xV_out f1, xE_out f1] at H1
            replace H1 := Lib.hid H1
            have H2 := Lib.hid (HX.out 0 (by omega) (by omega))
            replace HB := Lib.hid (HB.out _ rfl (.inl f1))
            clear f1 HS
            go_wp2_with fail
            refine (H1.out _).mono ?_
            rintro e w' ⟨rfl, rfl⟩
            go_wp2_with fail
            refine (H2.out _).mono ?_
            rintro e w' ⟨rfl, rfl⟩
            go_wp2
            go_ret2
            exact ⟨by rw [HB.out.1, HB.out.2]; rfl, rfl⟩
        · have HF := Lib.hid (ninv_fin (by omega) ha.out HI n0 n1)
          clear HI
          go_wp2
          go_ret2
          exact ⟨by rw [HF.out.1, HF.out.2]; rfl, rfl⟩
theorem p_neg {r : List UInt8} (h : (45 :: r).length ≤ 30) : pV (45 :: r) = sV true r ∧ pE (45 :: r) = sE true r := by
  unfold pV pE sV sE isDecL
  have hn : ¬ 30 < (45 :: r).length := by omega
  rw [trim_cons, if_pos rfl, num_neg, if_neg hn, if_neg hn]
  exact ⟨rfl, rfl⟩
theorem p_pos {c : UInt8} {r : List UInt8} (h : (c :: r).length ≤ 30) (hc : c ≠ 45) : pV (c :: r) = sV false (c :: r) ∧ pE (c :: r) = sE false (c :: r) := by
  unfold pV pE sV sE isDecL
  have hn : ¬ 30 < (c :: r).length := by omega
  rw [trim_cons, if_neg hc, num_pos r hc, if_neg hn, if_neg hn]
  exact ⟨rfl, rfl⟩
theorem refparse_all (s : ByteArray) (hs : s.size ≤ maxLen) (w : World) :
    Calls Tryd.prog 40 #[.string s] w fun e w' => e = .returned (.tuple #[.int .i64 (pV s.data.toList), .int .i64 (pE s.data.toList)]) ∧ w = w' := by
  have hl : s.data.toList.length = s.size := Array.length_toList
  by_cases h30 : 30 < s.size
  · unfold pV pE
    rw [if_pos (by omega), if_pos (by omega)]
    exact refparse_long s hs h30 w
  · by_cases h0 : s.size = 0
    · have e : s = ⟨#[]⟩ := by
        apply ByteArray.ext
        exact Array.eq_empty_of_size_eq_zero h0
      subst e
      exact refparse_empty w
    · have hat : ∃ c r, s.data.toList = c :: r := by
        cases h : s.data.toList with
        | nil => rw [h] at hl; simp at hl; omega
        | cons c r => exact ⟨c, r, rfl⟩
      obtain ⟨c, r, hcr⟩ := hat
      have hp : 0 < s.size := by omega
      have hc : s[0] = c := by
        have : s[0] = s.data.toList[0]'(by rw [hl]; exact hp) := rfl
        rw [this]; simp [hcr]
      have hlen : (c :: r).length ≤ 30 := by rw [← hcr, hl]; omega
      by_cases e : c = 45
      · subst e
        have hD : (s.extract 1 s.size).data.toList = r := by
          rw [Lib.extract_to_end, hcr]; rfl
        have hDs : (s.extract 1 s.size).size + 1 = s.size := by
          have : (s.extract 1 s.size).size = r.length := by rw [← hD]; exact Array.length_toList.symm
          rw [this, ← hl, hcr]; rfl
        have := refparse_neg s (s.extract 1 s.size) hp (by omega) (by rw [hc]; rfl) rfl hDs w
        rw [hD] at this
        rw [hcr, (p_neg hlen).1, (p_neg hlen).2]
        exact this
      · have := refparse_pos s hp (by omega) (by rw [hc]; exact fun x => e (UInt8.toNat_inj.1 x)) w
        rw [hcr] at *
        rw [(p_pos hlen e).1, (p_pos hlen e).2]
        exact this
end Go.Proofs.YtocimbiidloofaaDoor
