/- The contract of the reference's Parse; the walks of IntegerParses and IntegerBack. -/
import Derived.Test.YtlggiaoaleodpaaDoorP
import Derived.Test.YtlggiaoaleodpaaDoorT
import Derived.Lib.IndexBytes
namespace Go.Proofs.YtlggiaoaleodpaaDoor
open Go.RowKit
set_option linter.unusedVariables false

theorem refparse_long (s : ByteArray) (hs : s.size ≤ maxLen) (h : 30 < s.size) (w : World) :
    Calls Tryd.prog 28 #[.string s] w fun e w' => e = .returned (.tuple #[.int .i64 0, .int .i64 5]) ∧ w = w' := by
  unfold maxLen at hs
  go_enter Tryd.func28, Tryd.ntmps28
  go_wp2
  go_ret2
  exact ⟨rfl, rfl⟩
theorem refparse_empty (w : World) :
    Calls Tryd.prog 28 #[.string ⟨#[]⟩] w fun e w' => e = .returned (.tuple #[.int .i64 0, .int .i64 3]) ∧ w = w' := by
  go_enter Tryd.func28, Tryd.ntmps28
  go_wp2
  go_ret2
  exact ⟨rfl, rfl⟩
/-- A number with its sign. -/
def sg (neg : Bool) (v : Nat) : Int := if neg then -(v : Int) else v
/-- What the reference's Parse returns for the digits behind the sign, and its error number. -/
def rV (neg : Bool) (l : List UInt8) : Int := if digsB l then xV (sg neg (val 0 l)) else 0
def rE (neg : Bool) (l : List UInt8) : Int := if digsB l then xE (sg neg (val 0 l)) else 3
theorem r_no {neg : Bool} {l : List UInt8} (h : digsB l = false) : rV neg l = 0 ∧ rE neg l = 3 := by unfold rV rE; rw [h]; exact ⟨rfl, rfl⟩
theorem r_big {neg : Bool} {l : List UInt8} (h : digsB l = true) (hf : fits (sg neg (val 0 l)) = false) : rV neg l = 0 ∧ rE neg l = 9 := by
  unfold rV rE xV xE; rw [h, hf]; exact ⟨rfl, rfl⟩
theorem r_ok {neg : Bool} {l : List UInt8} (h : digsB l = true) (hf : fits (sg neg (val 0 l)) = true) : rV neg l = sg neg (val 0 l) ∧ rE neg l = 0 := by
  unfold rV rE xV xE; rw [h, hf]; exact ⟨rfl, rfl⟩
theorem val_append : ∀ (a b : List UInt8) (acc : Nat), val acc (a ++ b) = val (val acc a) b
  | [], b, acc => rfl
  | c :: r, b, acc => val_append r b (acc * 10 + (c.toNat - 48))
theorem val_snoc {s : ByteArray} {k : Nat} (h : k < s.size) : val 0 (s.data.toList.take (k + 1)) = val 0 (s.data.toList.take k) * 10 + (s[k].toNat - 48) := by
  rw [take_snoc s k h, val_append]; rfl
theorem val_take (l : List UInt8) (k : Nat) : val 0 (l.take k) ≤ val 0 l := by
  have e : val 0 l = val 0 (l.take k ++ l.drop k) := by rw [List.take_append_drop]
  rw [e, val_append]; exact val_ge _ _
theorem sg_mono {neg : Bool} {u v : Nat} (h : u ≤ v) (hf : fits (sg neg u) = false) : fits (sg neg v) = false := by
  rw [← Bool.not_eq_true, fits_iff] at *
  cases neg <;> simp only [sg, if_true, if_false, Bool.false_eq_true] at * <;> omega
/-- What holds at the head of each round that reads a digit. -/
def NInv (neg : Bool) (l : List UInt8) (k : Nat) (n : Int) : Prop := n = sg neg (val 0 (l.take k))
theorem digs_all {l : List UInt8} (h : digsB l = true) : l.all isDig = true := by unfold digsB at h; rw [Bool.and_eq_true] at h; exact h.2
theorem digs_at {s : ByteArray} {k : Nat} (h : k < s.size) (a : digsB s.data.toList = true) : 48 ≤ s[k].toNat ∧ s[k].toNat ≤ 57 := by
  have hm : s[k] ∈ s.data.toList := by
    have : s[k] = s.data.toList[k]'(by simpa using h) := rfl
    rw [this]; exact List.getElem_mem _
  exact isDig_iff.1 (List.all_eq_true.1 (digs_all a) _ hm)
/-- One more digit: 't' is what is computed. -/
theorem ninv_step {neg : Bool} {s : ByteArray} {k : Nat} {n c : Int} (h : k < s.size) (hn : NInv neg s.data.toList k n) (d0 : 48 ≤ s[k].toNat) (hc : c = (s[k].toNat : Int) - 48) :
    NInv neg s.data.toList (k + 1) (n * 10 + (if neg then -c else c)) := by
  unfold NInv at *
  rw [val_snoc h, hn, hc]
  cases neg <;> simp only [sg, if_true, if_false, Bool.false_eq_true] <;> omega
theorem ninv_big {neg : Bool} {s : ByteArray} {k : Nat} {n c : Int} (h : k < s.size) (ha : digsB s.data.toList = true) (hn : NInv neg s.data.toList k n) (d0 : 48 ≤ s[k].toNat) (hc : c = (s[k].toNat : Int) - 48)
    (hf : ¬ (-9223372036854775808 ≤ n * 10 ∧ n * 10 ≤ 9223372036854775807) ∨ ¬ (-9223372036854775808 ≤ n * 10 + (if neg then -c else c) ∧ n * 10 + (if neg then -c else c) ≤ 9223372036854775807)) :
    rV neg s.data.toList = 0 ∧ rE neg s.data.toList = 9 := by
  have st := ninv_step h hn d0 hc
  unfold NInv at st hn
  refine r_big ha (sg_mono (val_take _ (k + 1)) ?_)
  rw [← st, ← Bool.not_eq_true, fits_iff]
  cases neg <;> simp only [sg, if_true, if_false, Bool.false_eq_true] at * <;> omega
theorem ninv_fin {neg : Bool} {s : ByteArray} {k : Nat} {n : Int} (h : s.size ≤ k) (ha : digsB s.data.toList = true) (hn : NInv neg s.data.toList k n) (n0 : -9223372036854775808 ≤ n) (n1 : n ≤ 9223372036854775807) :
    rV neg s.data.toList = n ∧ rE neg s.data.toList = 0 := by
  unfold NInv at hn
  rw [List.take_of_length_le (by simpa using h)] at hn
  have := r_ok (neg := neg) ha (by rw [← hn, fits_iff]; exact ⟨n0, n1⟩)
  rw [this.1, this.2, ← hn]; exact ⟨rfl, rfl⟩
set_option maxRecDepth 100000 in
set_option maxHeartbeats 1000000 in
theorem refparse_neg (s D : ByteArray) (h0 : 0 < s.size) (h30 : s.size ≤ 30) (hc : s[0].toNat = 45) (hD : s.extract 1 s.size = D) (hDs : D.size + 1 = s.size) (w : World) :
    Calls Tryd.prog 28 #[.string s] w fun e w' => e = .returned (.tuple #[.int .i64 (rV true D.data.toList), .int .i64 (rE true D.data.toList)]) ∧ w = w' := by
  have he : s.toList.isEmpty = false := by
    rw [ByteArray.toList_eq]; simp; intro h; simp [ByteArray.size, h] at h0
  have hci : ((s[0].toNat : Int) == 45) = true := by rw [hc]; rfl
  clear hc
  by_cases hz : D.data.toList = []
  · have H := Lib.hid (r_no (neg := true) (show digsB D.data.toList = false by rw [hz]; rfl))
    have hz' : D.toList.isEmpty = true := by rw [ByteArray.toList_eq, hz]; rfl
    clear hz
    go_enter Tryd.func28, Tryd.ntmps28
    go_wp2
    go_ret2
    exact ⟨by rw [H.out.1, H.out.2]; rfl, rfl⟩
  have hz' : D.toList.isEmpty = false := by rw [ByteArray.toList_eq]; simpa using hz
  go_enter Tryd.func28, Tryd.ntmps28
  go_wp2
  go_loop [5] (fun i => ∃ k : Nat, k ≤ D.size ∧ i = .int .i64 k ∧ Upto D.data.toList k) (fun i => D.size - (intOf i).toNat)
  case atStart => exact ⟨0, Nat.zero_le _, rfl, rfl⟩
  case round =>
    obtain ⟨k, hk, rfl, HU⟩ := hrel
    by_cases hlt : k < D.size
    · have HU' := Lib.hid (upto_step hlt HU)
      have HN := Lib.hid (fun h => r_no (neg := true) (upto_no hlt h))
      clear HU
      go_wp2
      · go_ret2
        exact ⟨by rw [(HN.out (by omega)).1, (HN.out (by omega)).2]; rfl, rfl⟩
      · go_round
        case rel => exact ⟨k + 1, by omega, by go_num, HU'.out (by omega)⟩
        case measure => simp [intOf]; omega
      · go_ret2
        exact ⟨by rw [(HN.out (by omega)).1, (HN.out (by omega)).2]; rfl, rfl⟩
    · have ha : digsB D.data.toList = true := by
        have : D.data.toList.take k = D.data.toList := List.take_of_length_le (by simpa using (show D.size ≤ k by omega))
        unfold Upto at HU
        rw [this] at HU
        unfold digsB; rw [HU, Bool.and_true]; simpa using hz
      replace ha := Lib.hid ha
      clear HU
      go_wp2
      go_loop [6, 7] (fun x i => ∃ (j : Nat) (n : Int), j ≤ D.size ∧ i = .int .i64 j ∧ x = .int .i64 n ∧ -9223372036854775808 ≤ n ∧ n ≤ 9223372036854775807 ∧ NInv true D.data.toList j n) (fun _ i => D.size - (intOf i).toNat)
      case atStart => exact ⟨0, 0, Nat.zero_le _, rfl, rfl, by omega, by omega, rfl⟩
      case round =>
        obtain ⟨j, n, hj, rfl, rfl, n0, n1, HI⟩ := hrel
        by_cases hlt2 : j < D.size
        · obtain ⟨c0, c1⟩ := digs_at hlt2 ha.out
          have HB := Lib.hid (fun c h => ninv_big (c := c) hlt2 ha.out HI c0 h)
          have HS := Lib.hid (fun c h => ninv_step (c := c) hlt2 HI c0 h)
          clear HI
          have HX := Lib.hid (fun m (h : -9223372036854775808 ≤ m) (h' : m ≤ 9223372036854775807) w => refadd_all m (-(((D[j].toNat : Nat) : Int) - 48)) h h' (by omega) (by omega) w)
          by_cases f1 : -9223372036854775808 ≤ n * 10 ∧ n * 10 ≤ 9223372036854775807
          · have H1 := fun w => refmul_all n 10 n0 n1 (by omega) (by omega) w
            rw [xV_in f1, xE_in f1] at H1
            replace H1 := Lib.hid H1
            obtain ⟨f2, f3⟩ := f1
            have H2 := HX.out (n * 10) f2 f3
            by_cases f4 : -9223372036854775808 ≤ n * 10 + (-(((D[j].toNat : Nat) : Int) - 48)) ∧ n * 10 + (-(((D[j].toNat : Nat) : Int) - 48)) ≤ 9223372036854775807
            · rw [xV_in f4, xE_in f4] at H2
              replace H2 := Lib.hid H2
              replace HS := Lib.hid (HS.out _ rfl)
              obtain ⟨f5, f6⟩ := f4
              go_wp2_with fail
              refine (H1.out _).mono ?_
              rintro e w' ⟨rfl, rfl⟩
              go_wp2_with fail
              refine (H2.out _).mono ?_
              rintro e w' ⟨rfl, rfl⟩
              go_wp2
              go_round
              case rel => exact ⟨j + 1, n * 10 + (-(((D[j].toNat : Nat) : Int) - 48)), by omega, by go_num, rfl, f5, f6, HS.out⟩
              case measure => simp [intOf]; omega
            · rw [xV_out f4, xE_out f4] at H2
              replace H2 := Lib.hid H2
              replace HB := Lib.hid (HB.out _ rfl (.inr f4))
              clear f4 HS
              go_wp2_with fail
              refine (H1.out _).mono ?_
              rintro e w' ⟨rfl, rfl⟩
              go_wp2_with fail
              refine (H2.out _).mono ?_
              rintro e w' ⟨rfl, rfl⟩
              go_wp2
              go_ret2
              exact ⟨by rw [HB.out.1, HB.out.2]; rfl, rfl⟩
          · have H1 := fun w => refmul_all n 10 n0 n1 (by omega) (by omega) w
            rw [xV_out f1, xE_out f1] at H1
            replace H1 := Lib.hid H1
            have H2 := Lib.hid (HX.out 0 (by omega) (by omega))
            replace HB := Lib.hid (HB.out _ rfl (.inl f1))
            clear f1 HS
            go_wp2_with fail
            refine (H1.out _).mono ?_
            rintro e w' ⟨rfl, rfl⟩
            go_wp2_with fail
            refine (H2.out _).mono ?_
            rintro e w' ⟨rfl, rfl⟩
            go_wp2
            go_ret2
            exact ⟨by rw [HB.out.1, HB.out.2]; rfl, rfl⟩
        · have HF := Lib.hid (ninv_fin (by omega) ha.out HI n0 n1)
          clear HI
          go_wp2
          go_ret2
          exact ⟨by rw [HF.out.1, HF.out.2]; rfl, rfl⟩
set_option maxRecDepth 100000 in
set_option maxHeartbeats 1000000 in
theorem refparse_pos (s : ByteArray) (h0 : 0 < s.size) (h30 : s.size ≤ 30) (hc : s[0].toNat ≠ 45) (w : World) :
    Calls Tryd.prog 28 #[.string s] w fun e w' => e = .returned (.tuple #[.int .i64 (rV false s.data.toList), .int .i64 (rE false s.data.toList)]) ∧ w = w' := by
  have he : s.toList.isEmpty = false := by
    rw [ByteArray.toList_eq]; simp; intro h; simp [ByteArray.size, h] at h0
  have hci : ((s[0].toNat : Int) == 45) = false := by simpa using (show (s[0].toNat : Int) ≠ 45 by omega)
  clear hc
  have hz : s.data.toList ≠ [] := by
    intro h
    have e : s.data.toList.length = s.size := Array.length_toList
    rw [h] at e; simp at e; omega
  go_enter Tryd.func28, Tryd.ntmps28
  go_wp2
  go_loop [5] (fun i => ∃ k : Nat, k ≤ s.size ∧ i = .int .i64 k ∧ Upto s.data.toList k) (fun i => s.size - (intOf i).toNat)
  case atStart => exact ⟨0, Nat.zero_le _, rfl, rfl⟩
  case round =>
    obtain ⟨k, hk, rfl, HU⟩ := hrel
    by_cases hlt : k < s.size
    · have HU' := Lib.hid (upto_step hlt HU)
      have HN := Lib.hid (fun h => r_no (neg := false) (upto_no hlt h))
      clear HU
      go_wp2
      · go_ret2
        exact ⟨by rw [(HN.out (by omega)).1, (HN.out (by omega)).2]; rfl, rfl⟩
      · go_round
        case rel => exact ⟨k + 1, by omega, by go_num, HU'.out (by omega)⟩
        case measure => simp [intOf]; omega
      · go_ret2
        exact ⟨by rw [(HN.out (by omega)).1, (HN.out (by omega)).2]; rfl, rfl⟩
    · have ha : digsB s.data.toList = true := by
        have : s.data.toList.take k = s.data.toList := List.take_of_length_le (by simpa using (show s.size ≤ k by omega))
        unfold Upto at HU
        rw [this] at HU
        unfold digsB; rw [HU, Bool.and_true]; simpa using hz
      replace ha := Lib.hid ha
      clear HU
      go_wp2
      go_loop [6, 7] (fun x i => ∃ (j : Nat) (n : Int), j ≤ s.size ∧ i = .int .i64 j ∧ x = .int .i64 n ∧ -9223372036854775808 ≤ n ∧ n ≤ 9223372036854775807 ∧ NInv false s.data.toList j n) (fun _ i => s.size - (intOf i).toNat)
      case atStart => exact ⟨0, 0, Nat.zero_le _, rfl, rfl, by omega, by omega, rfl⟩
      case round =>
        obtain ⟨j, n, hj, rfl, rfl, n0, n1, HI⟩ := hrel
        by_cases hlt2 : j < s.size
        · obtain ⟨c0, c1⟩ := digs_at hlt2 ha.out
          have HB := Lib.hid (fun c h => ninv_big (c := c) hlt2 ha.out HI c0 h)
          have HS := Lib.hid (fun c h => ninv_step (c := c) hlt2 HI c0 h)
          clear HI
          have HX := Lib.hid (fun m (h : -9223372036854775808 ≤ m) (h' : m ≤ 9223372036854775807) w => refadd_all m (((s[j].toNat : Nat) : Int) - 48) h h' (by omega) (by omega) w)
          by_cases f1 : -9223372036854775808 ≤ n * 10 ∧ n * 10 ≤ 9223372036854775807
          · have H1 := fun w => refmul_all n 10 n0 n1 (by omega) (by omega) w
            rw [xV_in f1, xE_in f1] at H1
            replace H1 := Lib.hid H1
            obtain ⟨f2, f3⟩ := f1
            have H2 := HX.out (n * 10) f2 f3
            by_cases f4 : -9223372036854775808 ≤ n * 10 + (((s[j].toNat : Nat) : Int) - 48) ∧ n * 10 + (((s[j].toNat : Nat) : Int) - 48) ≤ 9223372036854775807
            · rw [xV_in f4, xE_in f4] at H2
              replace H2 := Lib.hid H2
              replace HS := Lib.hid (HS.out _ rfl)
              obtain ⟨f5, f6⟩ := f4
              go_wp2_with fail
              refine (H1.out _).mono ?_
              rintro e w' ⟨rfl, rfl⟩
              go_wp2_with fail
              refine (H2.out _).mono ?_
              rintro e w' ⟨rfl, rfl⟩
              go_wp2
              go_round
              case rel => exact ⟨j + 1, n * 10 + (((s[j].toNat : Nat) : Int) - 48), by omega, by go_num, rfl, f5, f6, HS.out⟩
              case measure => simp [intOf]; omega
            · rw [xV_out f4, xE_out f4] at H2
              replace H2 := Lib.hid H2
              replace HB := Lib.hid (HB.out _ rfl (.inr f4))
              clear f4 HS
              go_wp2_with fail
              refine (H1.out _).mono ?_
              rintro e w' ⟨rfl, rfl⟩
              go_wp2_with fail
              refine (H2.out _).mono ?_
              rintro e w' ⟨rfl, rfl⟩
              go_wp2
              go_ret2
              exact ⟨by rw [HB.out.1, HB.out.2]; rfl, rfl⟩
          · have H1 := fun w => refmul_all n 10 n0 n1 (by omega) (by omega) w
            rw [xV_out f1, xE_out f1] at H1
            replace H1 := Lib.hid H1
            have H2 := Lib.hid (HX.out 0 (by omega) (by omega))
            replace HB := Lib.hid (HB.out _ rfl (.inl f1))
            clear f1 HS
            go_wp2_with fail
            refine (H1.out _).mono ?_
            rintro e w' ⟨rfl, rfl⟩
            go_wp2_with fail
            refine (H2.out _).mono ?_
            rintro e w' ⟨rfl, rfl⟩
            go_wp2
            go_ret2
            exact ⟨by rw [HB.out.1, HB.out.2]; rfl, rfl⟩
        · have HF := Lib.hid (ninv_fin (by omega) ha.out HI n0 n1)
          clear HI
          go_wp2
          go_ret2
          exact ⟨by rw [HF.out.1, HF.out.2]; rfl, rfl⟩

theorem p_neg {r : List UInt8} (h : (45 :: r).length ≤ 30) : pV (45 :: r) = rV true r ∧ pE (45 :: r) = rE true r := by
  unfold pV pE rV rE isDecL
  have hn : ¬ 30 < (45 :: r).length := by omega
  rw [trim_cons, if_pos rfl, num_neg, if_neg hn, if_neg hn]
  exact ⟨rfl, rfl⟩
theorem p_pos {c : UInt8} {r : List UInt8} (h : (c :: r).length ≤ 30) (hc : c ≠ 45) : pV (c :: r) = rV false (c :: r) ∧ pE (c :: r) = rE false (c :: r) := by
  unfold pV pE rV rE isDecL
  have hn : ¬ 30 < (c :: r).length := by omega
  rw [trim_cons, if_neg hc, num_pos r hc, if_neg hn, if_neg hn]
  exact ⟨rfl, rfl⟩
theorem refparse_all (s : ByteArray) (hs : s.size ≤ maxLen) (w : World) :
    Calls Tryd.prog 28 #[.string s] w fun e w' => e = .returned (.tuple #[.int .i64 (pV s.data.toList), .int .i64 (pE s.data.toList)]) ∧ w = w' := by
  have hl : s.data.toList.length = s.size := Array.length_toList
  by_cases h30 : 30 < s.size
  · unfold pV pE
    rw [if_pos (by omega), if_pos (by omega)]
    exact refparse_long s hs h30 w
  · by_cases h0 : s.size = 0
    · have e : s = ⟨#[]⟩ := by
        apply ByteArray.ext
        exact Array.eq_empty_of_size_eq_zero h0
      subst e
      exact refparse_empty w
    · have hat : ∃ c r, s.data.toList = c :: r := by
        cases h : s.data.toList with
        | nil => rw [h] at hl; simp at hl; omega
        | cons c r => exact ⟨c, r, rfl⟩
      obtain ⟨c, r, hcr⟩ := hat
      have hp : 0 < s.size := by omega
      have hc : s[0] = c := by
        have : s[0] = s.data.toList[0]'(by rw [hl]; exact hp) := rfl
        rw [this]; simp [hcr]
      have hlen : (c :: r).length ≤ 30 := by rw [← hcr, hl]; omega
      by_cases e : c = 45
      · subst e
        have hD : (s.extract 1 s.size).data.toList = r := by
          rw [Lib.extract_to_end, hcr]; rfl
        have hDs : (s.extract 1 s.size).size + 1 = s.size := by
          have : (s.extract 1 s.size).size = r.length := by rw [← hD]; exact Array.length_toList.symm
          rw [this, ← hl, hcr]; rfl
        have := refparse_neg s (s.extract 1 s.size) hp (by omega) (by rw [hc]; rfl) rfl hDs w
        rw [hD] at this
        rw [hcr, (p_neg hlen).1, (p_neg hlen).2]
        exact this
      · have := refparse_pos s hp (by omega) (by rw [hc]; exact fun x => e (UInt8.toNat_inj.1 x)) w
        rw [hcr] at *
        rw [(p_pos hlen e).1, (p_pos hlen e).2]
        exact this

theorem below_ev {w w' : World} (h : Ev w) (hb : Below w.heap.size w w') : Ev w' := by
  obtain ⟨tp, p, h⟩ := h
  refine ⟨tp, p, ?_⟩
  unfold World.var? at *
  cases hg : Tryd.prog.globalNamed "strconv.ErrRange" with
  | none => simp [hg] at h
  | some g =>
    simp only [hg, Option.bind_some] at h ⊢
    have hlt : g < w.heap.size := by
      rcases Nat.lt_or_ge g w.heap.size with h' | h'
      · exact h'
      · rw [Array.getElem?_eq_none h'] at h; simp at h
    rw [hb.block g hlt]
    exact h
namespace IntegerParses
set_option maxRecDepth 100000 in
theorem walk (s : ByteArray) (hs : s.size ≤ maxLen) (w : World) (hx : Tab w ∧ Ev w) :
    Calls Tryd.prog 10 #[.string s] w fun e w' => e = .returned (.bool true) ∧ Below w.heap.size w w' := by
  obtain ⟨htab, hev⟩ := hx
  have HW := Lib.hid (awake_all w htab)
  have HV := Lib.hid (fun w' (h : Below w.heap.size w w') => awake_all w' (tab_below htab h))
  have HE := Lib.hid (fun w' (h : Below w.heap.size w w') => parse_all s hs w' (below_ev hev h))
  have HR := Lib.hid (fun w => refparse_all s hs w)
  generalize pV s.data.toList = v at *
  generalize pE s.data.toList = f at *
  unfold maxLen at hs
  clear htab hev
  by_cases h : 100 < s.size
  · have k : decide ((100 : Int) < (s.size : Int)) = true := decide_eq_true (by omega)
    go_enter Tryd.func10, Tryd.ntmps10
    go_wp2_with fail
    refine HW.out.mono ?_
    rintro e w1 ⟨rfl, hb⟩
    go_wp2_with fail
    refine (HV.out _ hb).mono ?_
    rintro e w2 ⟨rfl, hb2⟩
    go_wp2
    go_ret
    exact ⟨rfl, hb.trans (hb2.mono hb.size)⟩
  · have k : decide ((100 : Int) < (s.size : Int)) = false := decide_eq_false (by omega)
    go_enter Tryd.func10, Tryd.ntmps10
    go_wp2_with fail
    refine HW.out.mono ?_
    rintro e w1 ⟨rfl, hb⟩
    go_wp2_with fail
    refine (HE.out _ hb).mono ?_
    rintro e w2 ⟨rfl, hb2⟩
    go_wp2_with fail
    refine (HR.out _).mono ?_
    rintro e w3 ⟨rfl, rfl⟩
    go_wp2
    go_ret
    exact ⟨rfl, hb.trans (hb2.mono hb.size)⟩
end IntegerParses
end Go.Proofs.YtlggiaoaleodpaaDoor
