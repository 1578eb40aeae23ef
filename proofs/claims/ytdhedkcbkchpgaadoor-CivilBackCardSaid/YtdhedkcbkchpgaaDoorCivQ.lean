/- The contract of package civil's Parse. -/
import Derived.Test.YtdhedkcbkchpgaaDoorCivP
import Derived.Test.YtdhedkcbkchpgaaDoorBoxes
namespace Go.Proofs.YtdhedkcbkchpgaaDoor
open Go.RowKit
set_option linter.unusedVariables false

theorem val_valD : ∀ (l : List UInt8) (acc : Nat), l.all isDig = true → (val acc l : Int) = valD acc l
  | [], acc, _ => rfl
  | c :: r, acc, h => by
    rw [List.all_cons, Bool.and_eq_true] at h
    have d := isDig_iff.1 h.1
    unfold val valD
    rw [val_valD r _ h.2]
    congr 1
    omega
/-- Digits have a value of as many digits. -/
theorem valD_bd : ∀ (l : List UInt8) (acc : Int), l.all isDig = true → 0 ≤ acc → acc * 10 ^ l.length ≤ valD acc l ∧ valD acc l < (acc + 1) * 10 ^ l.length
  | [], acc, _, _ => by unfold valD; simp; omega
  | c :: r, acc, h, h0 => by
    rw [List.all_cons, Bool.and_eq_true] at h
    have d := isDig_iff.1 h.1
    have q := valD_bd r (10 * acc + ((c.toNat : Int) - 48)) h.2 (by omega)
    unfold valD
    rw [List.length_cons, Int.pow_succ]
    generalize (10 : Int) ^ r.length = p at *
    generalize valD _ r = v at *
    have pp : (10 * acc + ((c.toNat : Int) - 48)) * p = 10 * acc * p + ((c.toNat : Int) - 48) * p := Int.add_mul _ _ _
    have e1 : acc * (p * 10) = 10 * acc * p := by rw [Int.mul_comm p 10, ← Int.mul_assoc, Int.mul_comm acc 10]
    have e2 : (acc + 1) * (p * 10) = 10 * acc * p + 10 * p := by rw [Int.add_mul, e1, Int.one_mul, Int.mul_comm p 10]
    have e3 : (10 * acc + ((c.toNat : Int) - 48) + 1) * p = 10 * acc * p + (((c.toNat : Int) - 48) + 1) * p := by rw [show 10 * acc + ((c.toNat : Int) - 48) + 1 = 10 * acc + (((c.toNat : Int) - 48) + 1) by omega]; exact Int.add_mul _ _ _
    have p0 : 0 ≤ p ∨ p < 0 := by omega
    rw [e1, e2]
    rw [pp] at q
    rw [e3] at q
    obtain ⟨qa, qb⟩ := q
    have c0 : 0 ≤ (c.toNat : Int) - 48 := by omega
    have c1 : ((c.toNat : Int) - 48) + 1 ≤ 10 := by omega
    rcases p0 with p0 | p0
    · have z1 : 0 ≤ ((c.toNat : Int) - 48) * p := Int.mul_nonneg c0 p0
      have z2 : (((c.toNat : Int) - 48) + 1) * p ≤ 10 * p := Int.mul_le_mul_of_nonneg_right c1 p0
      omega
    · have z3 : (((c.toNat : Int) - 48) + 1) * p = ((c.toNat : Int) - 48) * p + p := by rw [Int.add_mul, Int.one_mul]
      omega
theorem valD_four {l : List UInt8} (h : l.all isDig = true) (hl : l.length ≤ 4) : 0 ≤ valD 0 l ∧ valD 0 l ≤ 9999 := by
  obtain ⟨a, b⟩ := valD_bd l 0 h (by omega)
  have p : (10 : Int) ^ l.length ≤ 10000 := by
    have q : l.length = 0 ∨ l.length = 1 ∨ l.length = 2 ∨ l.length = 3 ∨ l.length = 4 := by omega
    rcases q with e | e | e | e | e <;> rw [e] <;> decide
  rw [Int.zero_mul] at a
  rw [Int.zero_add, Int.one_mul] at b
  omega
/-- integer.Parse of one to four digits. -/
theorem cnumber (s : ByteArray) (h0 : 0 < s.size) (hs : s.size ≤ 4) (hd : s.data.toList.all isDig = true) (w : World) (hev : Ev w) :
    Calls Tryd.prog 46 #[.string s] w fun e w' => e = .returned (.tuple #[.int .i64 (valD 0 s.data.toList), .int .i64 0]) ∧ Below w.heap.size w w' := by
  have hl : s.data.toList.length = s.size := Array.length_toList
  have h := parse_all s (by unfold maxLen; omega) w hev
  have b := valD_four hd (by omega)
  obtain ⟨c, r, e⟩ : ∃ c r, s.data.toList = c :: r := by
    cases hh : s.data.toList with
    | nil => rw [hh] at hl; simp at hl; omega
    | cons c r => exact ⟨c, r, rfl⟩
  have d : 48 ≤ c.toNat := by rw [e, List.all_cons, Bool.and_eq_true] at hd; exact (isDig_iff.1 hd.1).1
  have hc : c ≠ 45 := fun x => by rw [x] at d; exact absurd d (by decide)
  have i : isDecL s.data.toList = true := by
    unfold isDecL digsB
    rw [e, trim_cons, if_neg hc, ← e, hd, e]; rfl
  have n : num s.data.toList = valD 0 s.data.toList := by
    rw [e, num_pos r hc, ← e, val_valD _ _ hd]; rfl
  have f : pV s.data.toList = valD 0 s.data.toList ∧ pE s.data.toList = 0 := by
    unfold pV pE
    rw [if_neg (by omega), if_pos i, if_neg (by omega), if_pos i, n]
    exact ⟨xV_in ⟨by omega, by omega⟩, xE_in ⟨by omega, by omega⟩⟩
  rw [f.1, f.2] at h
  exact h
theorem form_of {l : List UInt8} (h : formL l = true) : l.length = 10 ∧ ∀ i, i < 10 → formAt l i = true := by
  unfold formL at h
  rw [Bool.and_eq_true] at h
  refine ⟨of_decide_eq_true h.1, fun i hi => List.all_eq_true.1 h.2 i (List.mem_range.2 hi)⟩
theorem part_dig {l : List UInt8} (h : formL l = true) (a n : Nat) (ha : a + n ≤ 10) (hn : ∀ i, i < n → ¬ (a + i = 4 ∨ a + i = 7)) : ((l.drop a).take n).all isDig = true ∧ ((l.drop a).take n).length = n := by
  obtain ⟨hl, hf⟩ := form_of h
  have len : ((l.drop a).take n).length = n := by rw [List.length_take, List.length_drop]; omega
  refine ⟨List.all_eq_true.2 fun x hx => ?_, len⟩
  obtain ⟨i, hi, rfl⟩ := List.getElem_of_mem hx
  rw [len] at hi
  have q := hf (a + i) (by omega)
  unfold formAt at q
  rw [if_neg (hn i hi), List.getD_eq_getElem?_getD, List.getElem?_eq_getElem (by omega)] at q
  simpa using q
/-- The numbers of a text. -/
def yearOf (l : List UInt8) : Int := valD 0 (l.take 4)
def monOf (l : List UInt8) : Int := valD 0 ((l.drop 5).take 2)
def dayOf (l : List UInt8) : Int := valD 0 (l.drop 8)
/-- The parts of a text that has the form: what they hold, and their numbers. -/
theorem parts_text {s : ByteArray} (h : formL s.data.toList = true) :
    s.size = 10 ∧ ((s.extract 0 4).size = 4 ∧ (s.extract 0 4).data.toList.all isDig = true ∧ valD 0 (s.extract 0 4).data.toList = yearOf s.data.toList) ∧
    ((s.extract 5 7).size = 2 ∧ (s.extract 5 7).data.toList.all isDig = true ∧ valD 0 (s.extract 5 7).data.toList = monOf s.data.toList) ∧
    ((s.extract 8 s.size).size = 2 ∧ (s.extract 8 s.size).data.toList.all isDig = true ∧ valD 0 (s.extract 8 s.size).data.toList = dayOf s.data.toList) := by
  obtain ⟨hl, hf⟩ := form_of h
  have hz : s.size = 10 := by rw [← hl]; exact Array.length_toList.symm
  have e1 : (s.extract 0 4).data.toList = (s.data.toList.drop 0).take 4 := Lib.extract_data s 0 4
  have e2 : (s.extract 5 7).data.toList = (s.data.toList.drop 5).take 2 := Lib.extract_data s 5 7
  have e3 : (s.extract 8 s.size).data.toList = (s.data.toList.drop 8).take 2 := by rw [hz]; exact Lib.extract_data s 8 10
  have e3' : s.data.toList.drop 8 = (s.data.toList.drop 8).take 2 := by rw [List.take_of_length_le]; rw [List.length_drop]; omega
  obtain ⟨d1, l1⟩ := part_dig h 0 4 (by omega) (by omega)
  obtain ⟨d2, l2⟩ := part_dig h 5 2 (by omega) (by omega)
  obtain ⟨d3, l3⟩ := part_dig h 8 2 (by omega) (by omega)
  have z : ∀ (t : ByteArray) (m : Nat), t.data.toList.length = m → t.size = m := fun t m q => by rw [← q]; exact Array.length_toList.symm
  refine ⟨hz, ⟨z _ _ (by rw [e1, l1]), by rw [e1]; exact d1, by rw [e1]; rfl⟩, ⟨z _ _ (by rw [e2, l2]), by rw [e2]; exact d2, by rw [e2]; rfl⟩, ⟨z _ _ (by rw [e3, l3]), by rw [e3]; exact d3, ?_⟩⟩
  rw [e3, ← e3']; rfl
theorem cparse_form (s : ByteArray) (hs : s.size ≤ maxLen) (h : formL s.data.toList = false) (w : World) :
    Calls Tryd.prog 33 #[.string s] w fun e w' => e = .returned (.tuple #[.agg #[.int .i64 0, .int .i64 0, .int .i64 0], .int .i64 3]) ∧ Below w.heap.size w w' := by
  have HF := fun w => clayout s hs w
  rw [h] at HF
  replace HF := Lib.hid HF
  clear h
  go_enter Tryd.func33, Tryd.ntmps33
  go_wp2_with fail
  refine (HF.out _).mono ?_
  rintro e w' ⟨rfl, rfl⟩
  go_wp2
  exact bodyPost_ret (v := .tuple #[.agg #[.int .i64 0, .int .i64 0, .int .i64 0], .int .i64 3]) (by simp [results, Tryd.results33, go_sem]) rfl ⟨rfl, grow (here _) _⟩
set_option maxRecDepth 100000 in
set_option maxHeartbeats 1000000 in
theorem cparse_some (s : ByteArray) (h : formL s.data.toList = true) (b : Bool) (Y M D : Int) (hb : vld (yearOf s.data.toList) (monOf s.data.toList) (dayOf s.data.toList) = b)
    (hY : yearOf s.data.toList = Y) (hM : monOf s.data.toList = M) (hD : dayOf s.data.toList = D) (w : World) (ht : Lens w) (hev : Ev w) :
    Calls Tryd.prog 33 #[.string s] w fun e w' => e = .returned (.tuple #[.agg #[.int .i64 (if b then Y else 0), .int .i64 (if b then M else 0), .int .i64 (if b then D else 0)], .int .i64 (if b then 0 else 1)]) ∧ Below w.heap.size w w' := by
  obtain ⟨hz, ⟨z1, g1, v1⟩, ⟨z2, g2, v2⟩, ⟨z3, g3, v3⟩⟩ := parts_text h
  have HF := fun w => clayout s (by rw [hz]; unfold maxLen; omega) w
  rw [h] at HF
  replace HF := Lib.hid HF
  have HA := fun w hev => cnumber (s.extract 0 4) (by omega) (by omega) g1 w hev
  have HB := fun w hev => cnumber (s.extract 5 7) (by omega) (by omega) g2 w hev
  have HC := fun w hev => cnumber (s.extract 8 s.size) (by omega) (by omega) g3 w hev
  have b1 := valD_four g1 (by rw [show (s.extract 0 4).data.toList.length = (s.extract 0 4).size from Array.length_toList]; omega)
  have b2 := valD_four g2 (by rw [show (s.extract 5 7).data.toList.length = (s.extract 5 7).size from Array.length_toList]; omega)
  have b3 := valD_four g3 (by rw [show (s.extract 8 s.size).data.toList.length = (s.extract 8 s.size).size from Array.length_toList]; omega)
  rw [v1, hY] at HA b1
  rw [v2, hM] at HB b2
  rw [v3, hD] at HC b3
  rw [hY, hM, hD] at hb
  have HV := fun w ht => cvalid Y M D ⟨by omega, by omega⟩ ⟨by omega, by omega⟩ ⟨by omega, by omega⟩ w ht
  rw [hb] at HV
  replace HA := Lib.hid HA
  replace HB := Lib.hid HB
  replace HC := Lib.hid HC
  replace HV := Lib.hid HV
  have s10 : s.size ≤ 10 := by omega
  have s11 : 10 ≤ s.size := by omega
  replace ht := Lib.hid ht
  replace hev := Lib.hid hev
  clear h hb hY hM hD z1 g1 v1 z2 g2 v2 z3 g3 v3 hz
  cases b
  all_goals
    go_enter Tryd.func33, Tryd.ntmps33
    go_wp2_with fail
    refine (HF.out _).mono ?_
    rintro e w' ⟨rfl, rfl⟩
    go_wp2_with fail
    refine (HA.out _ (ev_below hev.out (grow (here w) _))).mono ?_
    rintro e w1 ⟨rfl, hb⟩
    have A1 := Lib.hid (down (grow (here w) _) hb)
    have B1 := Lib.hid (Box.new hb)
    have F1 := Lib.hid (Free.new hb)
    clear hb
    go_wp2_with fail
    refine (HB.out _ (ev_below hev.out A1.out)).mono ?_
    rintro e w2 ⟨rfl, hb⟩
    have A2 := Lib.hid (down A1.out hb)
    have B2 := Lib.hid (B1.out.keep hb)
    have F2 := Lib.hid (F1.out.keep B1.out.lt hb)
    clear hb A1 B1 F1
    go_wp2_with fail
    refine (HC.out _ (ev_below hev.out A2.out)).mono ?_
    rintro e w3 ⟨rfl, hb⟩
    have A3 := Lib.hid (down A2.out hb)
    have B3 := Lib.hid (B2.out.keep hb)
    have F3 := Lib.hid (F2.out.keep B2.out.lt hb)
    clear hb A2 B2 F2
    go_wp2_with fail
    refine (HV.out _ (lens_below ht.out (grow A3.out _))).mono ?_
    rintro e w4 ⟨rfl, hb⟩
    have A4 := Lib.hid (down (grow A3.out _) hb)
    have B4 := Lib.hid ((B3.out.old _).keep hb)
    have C4 := Lib.hid (Box.new hb)
    have F4 := Lib.hid ((F3.out.keep B3.out.lt (grow (here _) _)).keep (B3.out.old _).lt hb)
    clear hb A3 B3 F3
    obtain ⟨c0, c1, c2, zc⟩ := B4.out
    obtain ⟨d0, d1, d2, zd⟩ := C4.out
    obtain ⟨f0, f1, f2⟩ := F4.out
    go_wp2
  · exact bodyPost_ret (v := .tuple #[.agg #[.int .i64 0, .int .i64 0, .int .i64 0], .int .i64 1]) (by simp [results, Tryd.results33, go_sem, c0, c1, c2]) rfl ⟨rfl, ((A4.out.setCell (Nat.le_refl _) _).setCell (Nat.le_refl _) _).setCell (Nat.le_refl _) _⟩
  · exact bodyPost_ret (v := .tuple #[.agg #[.int .i64 Y, .int .i64 M, .int .i64 D], .int .i64 0]) (by simp [results, Tryd.results33, go_sem, c0, c1, c2]) rfl ⟨rfl, ((A4.out.setCell (Nat.le_refl _) _).setCell (Nat.le_refl _) _).setCell (Nat.le_refl _) _⟩
end Go.Proofs.YtdhedkcbkchpgaaDoor
