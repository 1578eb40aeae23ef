/- Contracts of the reference's texts of dates. -/
import Derived.Test.YtdhedkcbkchpgaaDoorRefB
import Derived.WalkLawsBesides
import Derived.WalkSpells
namespace Go.Proofs.YtdhedkcbkchpgaaDoor
open Go.RowKit
set_option linter.unusedVariables false

/-- The byte of a digit. -/
def dgt (D : Int) : UInt8 := UInt8.ofNat (48 + D.toNat)
/-- So many digits of a number. -/
def digL : Nat → Int → List UInt8
  | 0, _ => []
  | k + 1, n => digL k (n / 10) ++ [dgt (n % 10)]
theorem digL_length : ∀ (k : Nat) (n : Int), (digL k n).length = k
  | 0, _ => rfl
  | k + 1, n => by unfold digL; rw [List.length_append, digL_length k]; rfl
theorem ba_append (a b : List UInt8) : (⟨a.toArray⟩ : ByteArray) ++ ⟨b.toArray⟩ = ⟨(a ++ b).toArray⟩ := by
  apply ByteArray.ext; simp
theorem enc_digit {D : Int} (h0 : 0 ≤ D) (h1 : D ≤ 9) : Utf8.encode (48 + D) = ⟨#[dgt D]⟩ := by
  have h : D = 0 ∨ D = 1 ∨ D = 2 ∨ D = 3 ∨ D = 4 ∨ D = 5 ∨ D = 6 ∨ D = 7 ∨ D = 8 ∨ D = 9 := by omega
  rcases h with rfl | rfl | rfl | rfl | rfl | rfl | rfl | rfl | rfl | rfl <;> decide
theorem str_cons (c : UInt8) (l : List UInt8) : Value.string ((⟨#[c]⟩ : ByteArray) ++ ⟨l.toArray⟩) = .string ⟨(c :: l).toArray⟩ := by
  have := ba_append [c] l
  exact congrArg Value.string this
set_option maxHeartbeats 400000 in
theorem refdigits (n : Int) (k : Nat) (n0 : 0 ≤ n) (n1 : n ≤ 1000000) (k1 : k ≤ 10) (w : World) :
    Calls Tryd.prog 50 #[.int .i64 n, .int .i64 k] w fun e w' => e = .returned (.string ⟨(digL k n).toArray⟩) ∧ w = w' := by
  go_enter Tryd.func50, Tryd.ntmps50
  go_wp2
  go_loop [0, 5, 6] (fun a s i => ∃ (j : Nat) (x : Int) (l : List UInt8), j ≤ k ∧ 0 ≤ x ∧ x ≤ 1000000 ∧ l.length ≤ 10 ∧ Hid (digL (k - j) x ++ l = digL k n ∧ l.length = j) ∧ a = .int .i64 x ∧ s = .string ⟨l.toArray⟩ ∧ i = .int .i64 j) (fun _ _ i => k - (intOf i).toNat)
  case atStart => exact ⟨0, n, [], Nat.zero_le _, n0, n1, by simp, ⟨by simp, rfl⟩, rfl, rfl, rfl⟩
  case round =>
    obtain ⟨j, x, l, hj, x0, x1, hl, HI, rfl, rfl, rfl⟩ := hrel
    by_cases z : j < k
    · have kz : decide ((j : Int) < (k : Int)) = true := decide_eq_true (by omega)
      obtain ⟨D, hD⟩ : ∃ D, x % 10 = D := ⟨_, rfl⟩
      have D0 : 0 ≤ D := by omega
      have D1 : D ≤ 9 := by omega
      have HS : Hid (digL (k - (j + 1)) (x / 10) ++ (dgt D :: l) = digL k n ∧ (dgt D :: l).length = j + 1) := by
        obtain ⟨h, h2⟩ := HI.out
        refine ⟨?_, by rw [List.length_cons, h2]⟩
        rw [← h, show k - j = (k - (j + 1)) + 1 by omega]
        show _ = (digL (k - (j + 1)) (x / 10) ++ [dgt (x % 10)]) ++ l
        rw [hD, List.append_assoc]; rfl
      have hl2 : l.length + 1 ≤ 10 := by have := HI.out.2; omega
      clear HI
      have he := enc_digit D0 D1
      have kj : ((j : Int) + 1).toNat = j + 1 := by omega
      go_wp2
      go_round
      case rel => exact ⟨j + 1, x / 10, dgt D :: l, by omega, by omega, by omega, by rw [List.length_cons]; exact hl2, HS, rfl, str_cons _ _, by go_num⟩
      case measure => simp [intOf]; omega
    · have kz : decide ((j : Int) < (k : Int)) = false := decide_eq_false (by omega)
      have HE : Hid (digL k n = l) := by
        obtain ⟨h, h2⟩ := HI.out
        show digL k n = l
        rw [← h, show k - j = 0 by omega]; rfl
      clear HI
      go_wp2
      go_ret
      exact ⟨by rw [HE.out]; rfl, rfl⟩

/-- The text of a date; empty for one that is not valid. -/
def textD (y m d : Int) : List UInt8 := if vld y m d then digL 4 y ++ [45] ++ digL 2 m ++ [45] ++ digL 2 d else []
theorem reftext_no (y m d : Int) (hy : I64 y) (hm : I64 m) (hd : I64 d) (h : vld y m d = false) (w : World) :
    Calls Tryd.prog 36 #[.agg #[.int .i64 y, .int .i64 m, .int .i64 d]] w fun e w' => e = .returned (.string ⟨#[]⟩) ∧ Below w.heap.size w w' := by
  have HV := fun w => refvalid y m d hy hm hd w
  rw [h] at HV
  replace HV := Lib.hid HV
  go_enter Tryd.func36, Tryd.ntmps36
  go_wp2_with fail
  refine (HV.out _).mono ?_
  rintro e w1 ⟨rfl, hb⟩
  have hb2 := box_below hb
  obtain ⟨c0, c1, c2⟩ := box_cells hb
  go_wp2
  go_ret
  exact ⟨rfl, hb2⟩
set_option maxHeartbeats 1000000 in
theorem reftext_yes (y m d : Int) (h : vld y m d = true) (w : World) :
    Calls Tryd.prog 36 #[.agg #[.int .i64 y, .int .i64 m, .int .i64 d]] w fun e w' => e = .returned (.string ⟨(textD y m d).toArray⟩) ∧ Below w.heap.size w w' := by
  obtain ⟨y0, y1, m0, m1, d0, d1⟩ := vld_bd h
  have HV := fun w => refvalid y m d ⟨by omega, by omega⟩ ⟨by omega, by omega⟩ ⟨by omega, by omega⟩ w
  have HY := Lib.hid (fun w => refdigits y 4 (by omega) (by omega) (by omega) w)
  have HM := Lib.hid (fun w => refdigits m 2 (by omega) (by omega) (by omega) w)
  have HD := Lib.hid (fun w => refdigits d 2 (by omega) (by omega) (by omega) w)
  have HT : Hid (textD y m d = digL 4 y ++ [45] ++ digL 2 m ++ [45] ++ digL 2 d) := by show _ = _; unfold textD; rw [if_pos h]
  rw [h] at HV
  replace HV := Lib.hid HV
  have ly := digL_length 4 y
  have lm := digL_length 2 m
  have ld := digL_length 2 d
  generalize digL 4 y = a at *
  generalize digL 2 m = b at *
  generalize digL 2 d = c at *
  have ly' : a.length ≤ 4 := by omega
  have lm' : b.length ≤ 2 := by omega
  have ld' : c.length ≤ 2 := by omega
  clear ly lm ld h
  go_enter Tryd.func36, Tryd.ntmps36
  go_wp2_with fail
  refine (HV.out _).mono ?_
  rintro e w1 ⟨rfl, hb⟩
  have hb2 := box_below hb
  obtain ⟨c0, c1, c2⟩ := box_cells hb
  clear hb HV
  go_wp2_with fail
  go_quiet ((go_at_call 50; first | (with_reducible exact qleft (HY.out _)) | (with_reducible exact qleft (HM.out _)) | exact qleft (HD.out _)))
  go_wp2
  go_ret
  refine ⟨?_, below_drewN hb2 _⟩
  rw [HT.out, ← ba_append, ← ba_append, ← ba_append, ← ba_append]
  rfl

theorem reftext (y m d : Int) (hy : I64 y) (hm : I64 m) (hd : I64 d) (w : World) :
    Calls Tryd.prog 36 #[.agg #[.int .i64 y, .int .i64 m, .int .i64 d]] w fun e w' => e = .returned (.string ⟨(textD y m d).toArray⟩) ∧ Below w.heap.size w w' := by
  by_cases h : vld y m d = true
  · exact reftext_yes y m d h w
  · have e : textD y m d = [] := by unfold textD; rw [if_neg h]
    rw [e]
    exact reftext_no y m d hy hm hd (by simpa using h) w
/-- The value of digits, onto 'acc'. -/
def valD : Int → List UInt8 → Int
  | acc, [] => acc
  | acc, c :: r => valD (10 * acc + ((c.toNat : Int) - 48)) r
/-- A decimal digit. -/
def isDig (c : UInt8) : Bool := decide (48 ≤ c.toNat ∧ c.toNat ≤ 57)
theorem isDig_iff {c : UInt8} : isDig c = true ↔ 48 ≤ c.toNat ∧ c.toNat ≤ 57 := by unfold isDig; simp
theorem valD_append : ∀ (a b : List UInt8) (acc : Int), valD acc (a ++ b) = valD (valD acc a) b
  | [], b, acc => rfl
  | c :: r, b, acc => valD_append r b (10 * acc + ((c.toNat : Int) - 48))
theorem take_snoc (s : ByteArray) (k : Nat) (h : k < s.size) : s.data.toList.take (k + 1) = s.data.toList.take k ++ [s[k]] := by
  rw [List.take_succ_eq_append_getElem (by simpa using h)]; rfl
theorem valD_snoc {s : ByteArray} {k : Nat} (h : k < s.size) : valD 0 (s.data.toList.take (k + 1)) = 10 * valD 0 (s.data.toList.take k) + ((s[k].toNat : Int) - 48) := by
  rw [take_snoc s k h, valD_append]; rfl
/-- Numbers of at most four digits, read digit by digit. -/
def NumRel (s : ByteArray) (k : Nat) (n : Int) : Prop := n = valD 0 (s.data.toList.take k) ∧ 0 ≤ n ∧ n < 10 ^ k
set_option maxHeartbeats 400000 in
theorem refnumber (s : ByteArray) (hs : s.size ≤ 4) (hd : ∀ k (h : k < s.size), 48 ≤ s[k].toNat ∧ s[k].toNat ≤ 57) (w : World) :
    Calls Tryd.prog 48 #[.string s] w fun e w' => e = .returned (.int .i64 (valD 0 s.data.toList)) ∧ w = w' := by
  replace hd := Lib.hid hd
  go_enter Tryd.func48, Tryd.ntmps48
  go_wp2
  go_loop [3, 4] (fun a i => ∃ (k : Nat) (n : Int), k ≤ s.size ∧ 0 ≤ n ∧ n ≤ 10000 ∧ Hid (NumRel s k n) ∧ a = .int .i64 n ∧ i = .int .i64 k) (fun _ i => s.size - (intOf i).toNat)
  case atStart => exact ⟨0, 0, Nat.zero_le _, by omega, by omega, ⟨rfl, by omega, by decide⟩, rfl, rfl⟩
  case round =>
    obtain ⟨k, n, hk, n0, n1, HN, rfl, rfl⟩ := hrel
    by_cases hlt : k < s.size
    · obtain ⟨c0, c1⟩ := hd.out k hlt
      have HS : Hid (NumRel s (k + 1) (10 * n + ((s[k].toNat : Int) - 48))) := by
        obtain ⟨a, b, c⟩ := HN.out
        refine ⟨by rw [valD_snoc hlt, ← a], by omega, ?_⟩
        rw [Int.pow_succ]; omega
      have hb : 10 * n + ((s[k].toNat : Int) - 48) ≤ 10000 := by
        obtain ⟨-, -, c⟩ := HS.out
        have q : k = 0 ∨ k = 1 ∨ k = 2 ∨ k = 3 := by omega
        have p : (10 : Int) ^ (k + 1) ≤ 10000 := by rcases q with rfl | rfl | rfl | rfl <;> decide
        omega
      clear HN
      go_wp2
      go_round
      case rel => exact ⟨k + 1, 10 * n + ((s[k].toNat : Int) - 48), by omega, by omega, hb, HS, rfl, by go_num⟩
      case measure => simp [intOf]; omega
    · have HE : Hid (valD 0 s.data.toList = n) := by
        obtain ⟨a, -, -⟩ := HN.out
        show valD 0 s.data.toList = n
        rw [a, List.take_of_length_le (by simpa using (show s.size ≤ k by omega))]
      clear HN
      go_wp2
      go_ret
      exact ⟨by rw [HE.out]; rfl, rfl⟩

/-- Has a text the form of a date? -/
def formAt (l : List UInt8) (k : Nat) : Bool := if k = 4 ∨ k = 7 then (l.getD k 0) == 45 else isDig (l.getD k 0)
def formL (l : List UInt8) : Bool := decide (l.length = 10) && (List.range 10).all (formAt l)
def FormUpto (l : List UInt8) (k : Nat) : Prop := ∀ i, i < k → formAt l i = true
theorem at_getD {s : ByteArray} {k : Nat} (h : k < s.size) : s.data.toList.getD k 0 = s[k] := by
  have h' : k < s.data.toList.length := by simpa using h
  rw [List.getD_eq_getElem?_getD, List.getElem?_eq_getElem h']; rfl
theorem form_no {l : List UInt8} {k : Nat} (hk : k < 10) (h : formAt l k = false) : formL l = false := by
  unfold formL
  have : (List.range 10).all (formAt l) = false := by
    rw [List.all_eq_false]
    exact ⟨k, List.mem_range.2 hk, by rw [h]; simp⟩
  rw [this, Bool.and_false]
theorem form_yes {l : List UInt8} (hl : l.length = 10) (h : FormUpto l 10) : formL l = true := by
  unfold formL
  rw [Bool.and_eq_true]
  exact ⟨decide_eq_true hl, List.all_eq_true.2 fun x hx => h x (List.mem_range.1 hx)⟩
set_option maxHeartbeats 1000000 in
theorem refform (s : ByteArray) (hs : s.size ≤ maxLen) (w : World) :
    Calls Tryd.prog 47 #[.string s] w fun e w' => e = .returned (.bool (formL s.data.toList)) ∧ w = w' := by
  unfold maxLen at hs
  have hl : s.data.toList.length = s.size := Array.length_toList
  by_cases h : s.size = 10
  · have kh : ((s.size : Int) != 10) = false := by simp; omega
    have k10 : s.size ≤ 10 := by omega
    have k11 : 10 ≤ s.size := by omega
    rw [h] at hl
    replace h := Lib.hid h
    replace hl := Lib.hid hl
    go_enter Tryd.func47, Tryd.ntmps47
    go_wp2
    go_loop [3] (fun i => ∃ k : Nat, k ≤ s.size ∧ Hid (FormUpto s.data.toList k) ∧ i = .int .i64 k) (fun i => s.size - (intOf i).toNat)
    case atStart => exact ⟨0, Nat.zero_le _, by intro i hi; omega, rfl⟩
    case round =>
      obtain ⟨k, hk, HU, rfl⟩ := hrel
      by_cases hlt : k < s.size
      · have HN : Hid (formAt s.data.toList k = false → formL s.data.toList = false) := form_no (by omega)
        have HS : Hid (formAt s.data.toList k = true → FormUpto s.data.toList (k + 1)) := by
          intro e i hi
          rcases Nat.lt_or_ge i k with z | z
          · exact HU.out i z
          · obtain rfl : i = k := by omega
            exact e
        have HA : Hid (formAt s.data.toList k = if k = 4 ∨ k = 7 then s[k] == 45 else isDig s[k]) := by
          show formAt _ k = _; unfold formAt; rw [at_getD hlt]
        clear HU
        by_cases p : k = 4 ∨ k = 7
        · by_cases q : s[k].toNat = 45
          · have e : formAt s.data.toList k = true := by
              rw [HA.out, if_pos p, beq_iff_eq]; exact UInt8.toNat_inj.1 q
            have HS := Lib.hid (HS.out e)
            have kq : (((s[k].toNat : Nat) : Int) != 45) = false := by rw [q]; rfl
            clear HN HA e q
            rcases p with rfl | rfl
            all_goals
              go_wp2
              go_round
              case rel => exact ⟨_, by omega, HS.out, rfl⟩
              case measure => simp [intOf]; omega
          · have e : formAt s.data.toList k = false := by
              rw [HA.out, if_pos p, beq_eq_false_iff_ne]; exact fun x => q (by rw [x]; rfl)
            have HE := Lib.hid (HN.out e)
            have kq : (((s[k].toNat : Nat) : Int) != 45) = true := by simp; omega
            clear HN HA e HS q
            rcases p with rfl | rfl
            all_goals
              go_wp2
              go_ret
              exact ⟨by rw [HE.out]; rfl, rfl⟩
        · have k4 : (((k : Nat) : Int) == 4) = false := by simp; omega
          have k7 : (((k : Nat) : Int) == 7) = false := by simp; omega
          by_cases q : 48 ≤ s[k].toNat ∧ s[k].toNat ≤ 57
          · have e : formAt s.data.toList k = true := by
              rw [HA.out, if_neg p]; exact isDig_iff.2 q
            have HS := Lib.hid (HS.out e)
            obtain ⟨q0, q1⟩ := q
            clear HN HA e p
            go_wp2
            go_round
            case rel => exact ⟨k + 1, by omega, HS.out, by go_num⟩
            case measure => simp [intOf]; omega
          · have e : formAt s.data.toList k = false := by
              rw [HA.out, if_neg p, ← Bool.not_eq_true, isDig_iff]; exact q
            have HE := Lib.hid (HN.out e)
            clear HN HA e HS p
            rcases Nat.lt_or_ge s[k].toNat 48 with q0 | q0
            · go_wp2
              go_ret
              exact ⟨by rw [HE.out]; rfl, rfl⟩
            · have q1 : 57 < s[k].toNat := by omega
              clear q
              go_wp2
              go_ret
              exact ⟨by rw [HE.out]; rfl, rfl⟩
      · have HF : Hid (formL s.data.toList = true) := by
          obtain rfl : k = 10 := by omega
          exact form_yes hl.out HU.out
        clear HU
        go_wp2
        go_ret
        exact ⟨by rw [HF.out]; rfl, rfl⟩
  · have kh : ((s.size : Int) != 10) = true := by simp; omega
    have e : Hid (formL s.data.toList = false) := by show formL _ = false; unfold formL; rw [hl, decide_eq_false h, Bool.false_and]
    clear hl h
    go_enter Tryd.func47, Tryd.ntmps47
    go_wp2
    go_ret
    exact ⟨by rw [e.out]; rfl, rfl⟩
end Go.Proofs.YtdhedkcbkchpgaaDoor
