/- Contracts of integer.isDecimal and integer.Parse. -/
import Derived.Test.YtdhedkcbkchpgaaDoorTextA
import Derived.Test.YtdhedkcbkchpgaaDoorShelfTwo
import Derived.OpenShut
namespace Go.Proofs.YtdhedkcbkchpgaaDoor
open Go.RowKit
set_option linter.unusedVariables false

/-- One digit or more, and nothing else. -/
def digsB (l : List UInt8) : Bool := !l.isEmpty && l.all isDig
/-- Is a list of bytes a decimal text? -/
def isDecL (l : List UInt8) : Bool := digsB (Lib.trimPrefix l [45])
def Upto (l : List UInt8) (k : Nat) : Prop := (l.take k).all isDig = true
theorem upto_step {s : ByteArray} {k : Nat} (h : k < s.size) (a : Upto s.data.toList k) (b : 48 ≤ s[k].toNat ∧ s[k].toNat ≤ 57) : Upto s.data.toList (k + 1) := by
  unfold Upto at *
  rw [take_snoc s k h, List.all_append, a]
  simp [isDig, b]
theorem upto_no {s : ByteArray} {k : Nat} (h : k < s.size) (b : ¬ (48 ≤ s[k].toNat ∧ s[k].toNat ≤ 57)) : digsB s.data.toList = false := by
  have hm : s[k] ∈ s.data.toList := by
    have : s[k] = s.data.toList[k]'(by simpa using h) := rfl
    rw [this]; exact List.getElem_mem _
  have : s.data.toList.all isDig = false := by
    rw [List.all_eq_false]
    exact ⟨_, hm, by rw [isDig_iff]; exact b⟩
  unfold digsB; rw [this, Bool.and_false]
set_option maxHeartbeats 400000 in
theorem isDec_all (s : ByteArray) (hs : s.size ≤ maxLen) (w : World) :
    Calls Tryd.prog 51 #[.string s] w fun e w' => e = .returned (.bool (isDecL s.data.toList)) ∧ w = w' := by
  have HT := Lib.hid (fun w => Tryd.strings_TrimPrefix s ⟨#[45]⟩ w)
  have hd : (Lib.trimPrefix s.data.toList [45]).length ≤ maxLen := by
    have : s.data.toList.length ≤ maxLen := by simpa using hs
    unfold Lib.trimPrefix; split
    · simp only [List.length_drop]; omega
    · exact this
  unfold isDecL
  have e45 : ((⟨#[45]⟩ : ByteArray).data.toList) = [45] := rfl
  rw [e45] at HT
  obtain ⟨D, hD⟩ : ∃ D : ByteArray, D = ⟨(Lib.trimPrefix s.data.toList [45]).toArray⟩ := ⟨_, rfl⟩
  have hDl : Lib.trimPrefix s.data.toList [45] = D.data.toList := by rw [hD]
  have hDs : D.size ≤ maxLen := by rw [hD]; simpa [ByteArray.size] using hd
  rw [← hD] at HT
  rw [hDl]
  clear hD hDl hd e45
  unfold maxLen at hDs
  go_enter Tryd.func51, Tryd.ntmps51
  go_wp2_with fail
  refine (HT.out _).mono ?_
  rintro e w' ⟨rfl, rfl⟩
  go_wp2
  go_loop [9, 4] (fun i _ => ∃ k : Nat, k ≤ D.size ∧ i = .int .i64 k ∧ Upto D.data.toList k) (fun i _ => D.size - (intOf i).toNat)
  case atStart => exact ⟨0, Nat.zero_le _, rfl, rfl⟩
  case round =>
    obtain ⟨k, hk, rfl, HU⟩ := hrel
    by_cases hlt : k < D.size
    · have HU' := Lib.hid (upto_step hlt HU)
      have HN := Lib.hid (upto_no hlt)
      clear HU
      go_wp2
      · go_ret
        exact ⟨by rw [HN.out (by omega)]; rfl, rfl⟩
      · go_round
        case rel => exact ⟨k + 1, by omega, by go_num, HU'.out (by omega)⟩
        case measure => simp [intOf]; omega
      · go_ret
        exact ⟨by rw [HN.out (by omega)]; rfl, rfl⟩
    · have hf : digsB D.data.toList = !D.toList.isEmpty := by
        rw [ByteArray.toList_eq]
        have : D.data.toList.take k = D.data.toList := List.take_of_length_le (by simpa using (show D.size ≤ k by omega))
        unfold Upto at HU
        rw [this] at HU
        unfold digsB; rw [HU, Bool.and_true]
      replace hf := Lib.hid hf
      clear HU
      go_wp2
      go_ret
      exact ⟨by rw [hf.out]; rfl, rfl⟩

/-- The number that digits spell, onto 'acc'. -/
def val : Nat → List UInt8 → Nat
  | acc, [] => acc
  | acc, c :: r => val (acc * 10 + (c.toNat - 48)) r
theorem val_ge : ∀ (l : List UInt8) (acc : Nat), acc ≤ val acc l
  | [], acc => Nat.le_refl _
  | c :: r, acc => by have := val_ge r (acc * 10 + (c.toNat - 48)); unfold val; omega
theorem uint_val : ∀ (l : List UInt8) (acc : Nat), acc < 18446744073709551616 → l.all isDig = true → Lib.parseUint10 acc l = if val acc l < 18446744073709551616 then .ok (val acc l) else .range
  | [], acc, h, _ => by unfold Lib.parseUint10 val; rw [if_pos h]
  | c :: r, acc, h, hd => by
    rw [List.all_cons, Bool.and_eq_true] at hd
    have g := val_ge r (acc * 10 + (c.toNat - 48))
    have d := isDig_iff.1 hd.1
    unfold Lib.parseUint10 val
    rw [if_pos d]
    by_cases a : 1844674407370955162 ≤ acc
    · rw [if_pos a, if_neg (by omega)]
    · rw [if_neg a]
      by_cases b : 18446744073709551616 ≤ acc * 10 + (c.toNat - 48)
      · rw [if_pos b, if_neg (by omega)]
      · rw [if_neg b]; exact uint_val r _ (by omega) hd.2
/-- The number of a decimal text. -/
def num (l : List UInt8) : Int := if l.head? = some 45 then -(val 0 (Lib.trimPrefix l [45]) : Int) else val 0 (Lib.trimPrefix l [45])
theorem trim_cons (c : UInt8) (r : List UInt8) : Lib.trimPrefix (c :: r) [45] = if c = 45 then r else c :: r := by
  unfold Lib.trimPrefix Lib.hasPrefix
  by_cases h : c = 45
  · simp [h, List.isPrefixOf]
  · have : (45 == c) = false := by simpa using fun e => h e.symm
    simp [h, List.isPrefixOf, this]
theorem atoi_neg (r : List UInt8) : (∀ u, Lib.parseMag r = .ok u → Lib.atoiAll (45 :: r) = if 9223372036854775808 < u then .range else .ok (-(u : Int))) ∧ (Lib.parseMag r = .range → Lib.atoiAll (45 :: r) = .range) := by
  have e : (45 : UInt8).toNat = 45 := rfl
  constructor
  · intro u h
    unfold Lib.atoiAll
    simp only [e, or_true, if_true, h]
    simp
  · intro h
    unfold Lib.atoiAll
    simp only [e, or_true, if_true, h]
theorem atoi_pos (c : UInt8) (r : List UInt8) (h3 : c.toNat ≠ 43) (h5 : c.toNat ≠ 45) :
    (∀ u, Lib.parseMag (c :: r) = .ok u → Lib.atoiAll (c :: r) = if 9223372036854775808 ≤ u then .range else .ok (u : Int)) ∧ (Lib.parseMag (c :: r) = .range → Lib.atoiAll (c :: r) = .range) := by
  constructor
  · intro u h
    unfold Lib.atoiAll
    simp only [h3, h5, or_self, if_false, h]
    simp
  · intro h
    unfold Lib.atoiAll
    simp only [h3, h5, or_self, if_false, h]
theorem num_neg (r : List UInt8) : num (45 :: r) = -(val 0 r : Int) := by
  unfold num; rw [trim_cons, if_pos rfl, if_pos (by simp)]
theorem num_pos {c : UInt8} (r : List UInt8) (h : c ≠ 45) : num (c :: r) = (val 0 (c :: r) : Int) := by
  unfold num; rw [trim_cons, if_neg h, if_neg (by simpa using h)]
theorem atoi_num {l : List UInt8} (h : isDecL l = true) : Lib.atoiAll l = if fits (num l) then .ok (num l) else .range := by
  cases l with
  | nil => simp [isDecL, digsB, Lib.trimPrefix, Lib.hasPrefix, List.isPrefixOf] at h
  | cons c r =>
    unfold isDecL digsB at h
    rw [trim_cons] at h
    by_cases e : c = 45
    · subst e
      rw [if_pos rfl] at h
      rw [Bool.and_eq_true] at h
      have hr : r ≠ [] := by intro z; rw [z] at h; simp at h
      have u := uint_val r 0 (by omega) h.2
      have pm : Lib.parseMag r = if val 0 r < 18446744073709551616 then .ok (val 0 r) else .range := by unfold Lib.parseMag; rw [if_neg hr, u]
      rw [num_neg]
      clear u
      generalize val 0 r = v at *
      by_cases a : v < 18446744073709551616
      · rw [if_pos a] at pm
        rw [(atoi_neg r).1 v pm]
        by_cases b : 9223372036854775808 < v
        · have f : fits (-(v : Int)) = false := by rw [← Bool.not_eq_true, fits_iff]; omega
          rw [f, if_pos b]; rfl
        · have f : fits (-(v : Int)) = true := by rw [fits_iff]; omega
          rw [f, if_neg b]; rfl
      · have f : fits (-(v : Int)) = false := by rw [← Bool.not_eq_true, fits_iff]; omega
        rw [if_neg a] at pm
        rw [(atoi_neg r).2 pm, f]; rfl
    · rw [if_neg e] at h
      rw [Bool.and_eq_true, List.all_cons, Bool.and_eq_true] at h
      have d := isDig_iff.1 h.2.1
      have u := uint_val (c :: r) 0 (by omega) (by rw [List.all_cons, h.2.1, h.2.2]; rfl)
      have pm : Lib.parseMag (c :: r) = if val 0 (c :: r) < 18446744073709551616 then .ok (val 0 (c :: r)) else .range := by unfold Lib.parseMag; rw [if_neg (by simp), u]
      have ap := atoi_pos c r (by omega) (by omega)
      rw [num_pos r e]
      clear u
      generalize val 0 (c :: r) = v at *
      by_cases a : v < 18446744073709551616
      · rw [if_pos a] at pm
        rw [ap.1 v pm]
        by_cases b : 9223372036854775808 ≤ v
        · have f : fits (v : Int) = false := by rw [← Bool.not_eq_true, fits_iff]; omega
          rw [f, if_pos b]; rfl
        · have f : fits (v : Int) = true := by rw [fits_iff]; omega
          rw [f, if_neg b]; rfl
      · have f : fits (v : Int) = false := by rw [← Bool.not_eq_true, fits_iff]; omega
        rw [if_neg a] at pm
        rw [ap.2 pm, f]; rfl
/-- What integer.Parse returns, and its error number. -/
def pV (l : List UInt8) : Int := if 30 < l.length then 0 else if isDecL l then xV (num l) else 0
def pE (l : List UInt8) : Int := if 30 < l.length then 5 else if isDecL l then xE (num l) else 3

/-- The listed sentinel of strconv: an error value, whichever. -/
def Ev (w : World) : Prop := ∃ tp p, w.var? Tryd.prog "strconv.ErrRange" = some #[.iface tp p]
set_option maxHeartbeats 400000 in
theorem parse_all (s : ByteArray) (hs : s.size ≤ maxLen) (w : World) (hev : Ev w) :
    Calls Tryd.prog 46 #[.string s] w fun e w' => e = .returned (.tuple #[.int .i64 (pV s.data.toList), .int .i64 (pE s.data.toList)]) ∧ Below w.heap.size w w' := by
  have hl : s.data.toList.length = s.size := Array.length_toList
  have hs' := hs
  unfold maxLen at hs'
  unfold pV pE
  by_cases h30 : 30 < s.data.toList.length
  · rw [if_pos h30, if_pos h30]
    have k : decide ((30 : Int) < (s.size : Int)) = true := decide_eq_true (by omega)
    clear hl h30
    go_enter Tryd.func46, Tryd.ntmps46
    go_wp2
    go_ret2
    exact ⟨rfl, Below.refl _ _⟩
  · rw [if_neg h30, if_neg h30]
    have k : decide ((30 : Int) < (s.size : Int)) = false := decide_eq_false (by omega)
    have k30 : s.size ≤ 30 := by omega
    have HD := Lib.hid (fun w => isDec_all s hs w)
    clear hl h30
    by_cases hd : isDecL s.data.toList = true
    · rw [if_pos hd, if_pos hd]
      rw [hd] at HD
      have ha := atoi_num hd
      by_cases hf : fits (num s.data.toList) = true
      · have q := fits_iff.1 hf
        rw [xV_in q, xE_in q]
        rw [if_pos hf] at ha
        have HA := Lib.hid (fun w => Tryd.strconv_Atoi_ok s (by omega) _ ha w)
        generalize num s.data.toList = v at *
        clear ha hf hd q
        go_enter Tryd.func46, Tryd.ntmps46
        go_wp2_with fail
        refine (HD.out _).mono ?_
        rintro e w' ⟨rfl, rfl⟩
        go_wp2_with fail
        refine (HA.out _).mono ?_
        rintro e w2 ⟨rfl, hw⟩
        have hb : Below w.heap.size w w2 := by
          rcases hw with rfl | ⟨t, rfl⟩
          · exact Below.refl _ _
          · exact Lib.bytesWorld_below _ _ _
        clear hw
        go_wp2
        go_ret2
        exact ⟨rfl, hb⟩
      · have q := mt fits_iff.2 hf
        rw [xV_out q, xE_out q]
        rw [if_neg hf] at ha
        obtain ⟨tp, p, hp⟩ := hev
        have HA := Lib.hid (Tryd.strconv_Atoi_range_var s (by omega) ha tp p w hp)
        clear ha hf hd q hp
        go_enter Tryd.func46, Tryd.ntmps46
        go_wp2_with fail
        refine (HD.out _).mono ?_
        rintro e w' ⟨rfl, rfl⟩
        go_wp2_with fail
        refine HA.out.mono ?_
        rintro e w2 ⟨N, rfl, -, -, hb⟩
        go_wp2
        go_ret2
        exact ⟨rfl, hb⟩
    · rw [if_neg hd, if_neg hd]
      rw [Bool.not_eq_true] at hd
      rw [hd] at HD
      clear hd
      go_enter Tryd.func46, Tryd.ntmps46
      go_wp2_with fail
      refine (HD.out _).mono ?_
      rintro e w' ⟨rfl, rfl⟩
      go_wp2
      go_ret2
      exact ⟨rfl, Below.refl _ _⟩
end Go.Proofs.YtdhedkcbkchpgaaDoor
