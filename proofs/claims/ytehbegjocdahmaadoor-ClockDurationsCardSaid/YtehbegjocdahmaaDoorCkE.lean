/- Contracts of the reference's decimal, part, Duration. -/
import Derived.Test.YtehbegjocdahmaaDoorCkN
import Derived.Laws.BytesArg
namespace Go.Proofs.YtehbegjocdahmaaDoor
open Go.RowKit
set_option linter.unusedVariables false

theorem dec_j {x : Int} (x0 : 0 ≤ x) : (if x / 10 = 0 then [] else Lib.decDigits (x / 10).toNat) ++ [dgt (x % 10)] = Lib.decDigits x.toNat := by
  by_cases h : x < 10
  · rw [if_pos (by omega), dec_small (by omega), show x % 10 = x by omega, Int.toNat_of_nonneg x0]; rfl
  · rw [if_neg (by omega), dec_step (n := x.toNat) (by omega), show (x / 10).toNat = x.toNat / 10 by omega, Int.toNat_of_nonneg x0]
theorem one_byte {D : Int} (D0 : 0 ≤ D) (D1 : D ≤ 9) (wr : World) : ∀ dst, Tryd.prog.underlying dst = some .string → (convert 62 dst (.slice (some ⟨wr.heap.size, 0, none⟩) 1 1)).run Tryd.prog (wr.alloc (.cells #[.int .u8 (48 + D)] 5)) = .ok (.string ⟨#[dgt D]⟩) (wr.alloc (.cells #[.int .u8 (48 + D)] 5)) := by
  intro dst hd
  have hc := run_convert_bytes_arg (P := Tryd.prog) (wr.alloc (.cells #[.int .u8 (48 + D)] 5)) 62 5 Tryd.underlying62 Tryd.underlying5 wr.heap.size 0 1 1 [48 + D] rfl (fun i hi => by
    obtain rfl : i = 0 := by omega
    rw [World.cell?_alloc_new]; rfl) dst hd
  have hs : strOfNums [48 + D] = ⟨#[dgt D]⟩ := by
    show (⟨#[UInt8.ofNat (48 + D).toNat]⟩ : ByteArray) = ⟨#[UInt8.ofNat (48 + D.toNat)]⟩
    rw [show (48 + D).toNat = 48 + D.toNat by omega]
  rw [hs] at hc
  exact hc
def DJ (n x : Int) (l : List UInt8) : Prop := (if x = 0 then [] else Lib.decDigits x.toNat) ++ l = Lib.decDigits n.toNat
theorem dj_start {n : Int} (n0 : 0 ≤ n) : DJ n (n / 10) [dgt (n % 10)] := dec_j n0
theorem dj_step {n x : Int} {l : List UInt8} (x0 : 0 < x) (h : DJ n x l) : DJ n (x / 10) (dgt (x % 10) :: l) := by
  unfold DJ at *
  rw [if_neg (by omega)] at h
  rw [← h, ← dec_j (x := x) (by omega), List.append_assoc]; rfl
theorem dj_len {n x : Int} {l : List UInt8} (n0 : 0 ≤ n) (n1 : n ≤ 4398046511104) (h : DJ n x l) : l.length ≤ 13 := by
  have a : (Lib.decDigits n.toNat).length ≤ 13 := (digL_dec 12 n.toNat (by omega)).1
  have b := congrArg List.length h
  rw [List.length_append] at b; omega
set_option maxHeartbeats 1000000 in
theorem rdec (n : Int) (n0 : 0 ≤ n) (n1 : n ≤ 4398046511104) (w : World) :
    Calls Tryd.prog 75 #[.int .i64 n] w fun e w' => e = .returned (.string ⟨(Lib.decDigits n.toNat).toArray⟩) ∧ Below w.heap.size w w' := by
  obtain ⟨D, hD⟩ : ∃ D, n % 10 = D := ⟨_, rfl⟩
  have D0 : 0 ≤ D := by omega
  have D1 : D ≤ 9 := by omega
  have hc := one_byte D0 D1 w 9 Tryd.underlying9
  have HS := dj_start n0
  rw [hD] at HS
  replace HS := Lib.hid HS
  go_enter Tryd.func75, Tryd.ntmps75
  go_wp2
  clear hc
  go_loopw [0, 3] (fun a s wr => ∃ (x : Int) (l : List UInt8), 0 ≤ x ∧ x ≤ 4398046511104 ∧ l.length ≤ 13 ∧ Hid (DJ n x l) ∧ a = .int .i64 x ∧ s = .string ⟨l.toArray⟩ ∧ Hid (Below w.heap.size w wr)) (fun a _ _ => (intOf a).toNat)
  case atStart => exact ⟨n / 10, [dgt D], by omega, by omega, by simp, HS, rfl, rfl, Lib.hid (grow (here w) _)⟩
  case round =>
    obtain ⟨x, l, x0, x1, hl, HI, rfl, rfl, A⟩ := hrel
    clear HS hD
    by_cases z : 0 < x
    · have kz : decide (0 < x) = true := decide_eq_true z
      obtain ⟨E, hE⟩ : ∃ D, x % 10 = D := ⟨_, rfl⟩
      have E0 : 0 ≤ E := by omega
      have E1 : E ≤ 9 := by omega
      have HN := dj_step z HI.out
      rw [hE] at HN
      have hl2 := dj_len n0 n1 HN
      replace HN := Lib.hid HN
      have hc := one_byte E0 E1 wr 9 Tryd.underlying9
      have A' := Lib.hid (grow A.out (.cells #[.int .u8 (48 + E)] 5))
      clear HI A
      go_wp2
      go_roundw
      case rel => exact ⟨x / 10, dgt E :: l, by omega, by omega, hl2, HN, rfl, str_cons _ _, A'⟩
      case measure => simp [intOf]; omega
    · have kz : decide (0 < x) = false := decide_eq_false z
      have HE : Hid (Lib.decDigits n.toNat = l) := by
        have h := HI.out
        unfold DJ at h
        rw [if_pos (by omega), List.nil_append] at h
        exact h.symm
      clear HI
      go_wp2
      go_ret
      exact ⟨by rw [HE.out]; rfl, A.out⟩
theorem rpart (x : Int) (c : UInt8) (x0 : 0 ≤ x) (x1 : x ≤ 4398046511104) (w : World) :
    Calls Tryd.prog 59 #[.int .i64 x, .string ⟨#[c]⟩] w fun e w' => e = .returned (.string ⟨(partL x c).toArray⟩) ∧ Below w.heap.size w w' := by
  by_cases h : x = 0
  · subst h
    rw [partL_zero]
    go_enter Tryd.func59, Tryd.ntmps59
    go_wp2
    go_ret
    exact ⟨rfl, here w⟩
  · have e : partL x c = Lib.decDigits x.toNat ++ [c] := by unfold partL; rw [if_neg h]
    rw [e]
    have HD := Lib.hid (fun w => rdec x x0 x1 w)
    have dl : (Lib.decDigits x.toNat).length ≤ 13 := (digL_dec 12 x.toNat (by omega)).1
    generalize Lib.decDigits x.toNat = D at *
    have hx : (x == 0) = false := by simpa using h
    clear h e
    go_enter Tryd.func59, Tryd.ntmps59
    go_wp2_with fail
    refine (HD.out _).mono ?_
    rintro e w1 ⟨rfl, hb⟩
    replace hb := Lib.hid hb
    go_wp2
    go_ret
    exact ⟨by show Ending.returned (.string ((⟨D.toArray⟩ : ByteArray) ++ ⟨[c].toArray⟩)) = _; rw [ba_append], hb.out⟩
theorem partL_len {x : Int} {c : UInt8} (x0 : 0 ≤ x) (x1 : x ≤ 4398046511104) : (partL x c).length ≤ 14 := by
  unfold partL
  split
  · simp
  · have : (Lib.decDigits x.toNat).length ≤ 13 := (digL_dec 12 x.toNat (by omega)).1
    rw [List.length_append, List.length_singleton]; omega
theorem str4 (A p R : List UInt8) : (((⟨A.toArray⟩ : ByteArray) ++ ⟨p.toArray⟩) ++ ⟨[84].toArray⟩) ++ ⟨R.toArray⟩ = ⟨(A ++ (p ++ 84 :: R)).toArray⟩ := by
  rw [ba_append, ba_append, ba_append]; simp
theorem size_of (l : List UInt8) : (⟨l.toArray⟩ : ByteArray).size = l.length := rfl
set_option maxRecDepth 100000 in
set_option maxHeartbeats 2000000 in
theorem rdur (n : Int) (hn : I64 n) (w : World) :
    Calls Tryd.prog 33 #[.int .i64 n] w fun e w' => e = .returned (.string ⟨(durL n).toArray⟩) ∧ Below w.heap.size w w' := by
  have HL := fun w => rline n hn w
  cases hl : linB n
  · rw [hl] at HL
    replace HL := Lib.hid HL
    have e : durL n = [] := by unfold durL; rw [hl]; rfl
    rw [e]
    clear hl e
    go_enter Tryd.func33, Tryd.ntmps33
    go_wp2_with fail
    refine (HL.out _).mono ?_
    rintro e w1 ⟨rfl, rfl⟩
    go_wp2
    go_ret
    exact ⟨rfl, here _⟩
  · rw [hl] at HL
    replace HL := Lib.hid HL
    obtain ⟨l0, l1⟩ := linB_iff.1 hl
    by_cases z : n = 0
    · subst z
      clear hl
      go_enter Tryd.func33, Tryd.ntmps33
      go_wp2_with fail
      refine (HL.out _).mono ?_
      rintro e w1 ⟨rfl, rfl⟩
      go_wp2
      go_ret
      exact ⟨rfl, here _⟩
    · have nz : (n == 0) = false := by simpa using z
      obtain ⟨a, ha⟩ : ∃ a, (if n < 0 then -n else n) = a := ⟨_, rfl⟩
      have a0 : 0 < a := by rw [← ha]; split <;> omega
      have a1 : a ≤ 4398046511104 := by rw [← ha]; split <;> omega
      have e : durL n = (if n < 0 then [45, 80] else [80]) ++ (partL (a / 86400) 68 ++ (if partL (a / 3600 % 24) 72 ++ (partL (a / 60 % 60) 77 ++ partL (a % 60) 83) = [] then [] else 84 :: (partL (a / 3600 % 24) 72 ++ (partL (a / 60 % 60) 77 ++ partL (a % 60) 83)))) := by
        unfold durL; rw [if_pos hl, if_neg z, ha]; rfl
      rw [e]
      have b0 := partL_len (x := a / 86400) (c := 68) (by omega) (by omega)
      have b1 := partL_len (x := a / 3600 % 24) (c := 72) (by omega) (by omega)
      have b2 := partL_len (x := a / 60 % 60) (c := 77) (by omega) (by omega)
      have b3 := partL_len (x := a % 60) (c := 83) (by omega) (by omega)
      have P0 := Lib.hid (fun w => rpart (a / 86400) 68 (by omega) (by omega) w)
      have P1 := Lib.hid (fun w => rpart (a / 3600 % 24) 72 (by omega) (by omega) w)
      have P2 := Lib.hid (fun w => rpart (a / 60 % 60) 77 (by omega) (by omega) w)
      have P3 := Lib.hid (fun w => rpart (a % 60) 83 (by omega) (by omega) w)
      rw [← List.append_assoc (partL (a / 3600 % 24) 72)]
      generalize partL (a / 86400) 68 = p0 at *
      generalize partL (a / 3600 % 24) 72 = p1 at *
      generalize partL (a / 60 % 60) 77 = p2 at *
      generalize partL (a % 60) 83 = p3 at *
      rw [← size_of] at b0 b1 b2 b3
      obtain ⟨q0, hq0⟩ : ∃ q : ByteArray, (⟨p0.toArray⟩ : ByteArray) = q := ⟨_, rfl⟩
      obtain ⟨q1, hq1⟩ : ∃ q : ByteArray, (⟨p1.toArray⟩ : ByteArray) = q := ⟨_, rfl⟩
      obtain ⟨q2, hq2⟩ : ∃ q : ByteArray, (⟨p2.toArray⟩ : ByteArray) = q := ⟨_, rfl⟩
      obtain ⟨q3, hq3⟩ : ∃ q : ByteArray, (⟨p3.toArray⟩ : ByteArray) = q := ⟨_, rfl⟩
      obtain ⟨r1, hr1⟩ : ∃ q : ByteArray, q1 ++ q2 = q := ⟨_, rfl⟩
      obtain ⟨r2, hr2⟩ : ∃ q : ByteArray, r1 ++ q3 = q := ⟨_, rfl⟩
      rw [hq0] at P0 b0
      rw [hq1] at P1 b1
      rw [hq2] at P2 b2
      rw [hq3] at P3 b3
      have er : Hid (r2 = ⟨((p1 ++ p2) ++ p3).toArray⟩) := by
        show r2 = _
        rw [← hr2, ← hr1, ← hq1, ← hq2, ← hq3, ba_append, ba_append]
      have s1 : r1.size ≤ 28 := by rw [← hr1, ByteArray.size_append]; omega
      have s2 : r2.size ≤ 42 := by rw [← hr2, ByteArray.size_append]; omega
      have nil : r2.toList.isEmpty = decide ((p1 ++ p2) ++ p3 = []) := by
        rw [ByteArray.toList_eq, er.out]
        cases (p1 ++ p2) ++ p3 <;> simp
      replace hq0 := Lib.hid hq0
      clear hq1 hq2 hq3 hl z e
      by_cases sg : n < 0
      · rw [if_pos sg] at ha ⊢
        have ks : decide (n < 0) = true := decide_eq_true sg
        have h0 : 0 - n = a := by omega
        by_cases k : (p1 ++ p2) ++ p3 = []
        · rw [if_pos k]
          rw [decide_eq_true k] at nil
          clear k
          go_enter Tryd.func33, Tryd.ntmps33
          go_wp2_with fail
          refine (HL.out _).mono ?_
          rintro e w1 ⟨rfl, rfl⟩
          go_wp2_with fail
          refine (P0.out _).mono ?_
          rintro e w2 ⟨rfl, hb⟩
          have A2 := Lib.hid hb
          clear hb
          go_wp2_with fail
          refine (P1.out _).mono ?_
          rintro e w3 ⟨rfl, hb⟩
          have A3 := Lib.hid (down A2.out hb)
          clear hb A2
          go_wp2_with fail
          refine (P2.out _).mono ?_
          rintro e w4 ⟨rfl, hb⟩
          have A4 := Lib.hid (down A3.out hb)
          clear hb A3
          go_wp2_with fail
          refine (P3.out _).mono ?_
          rintro e w5 ⟨rfl, hb⟩
          have A5 := Lib.hid (down A4.out hb)
          clear hb A4
          go_wp2
          go_ret
          exact ⟨by show Ending.returned (.string ((⟨[45, 80].toArray⟩ : ByteArray) ++ q0)) = _; rw [← hq0.out, List.append_nil, ba_append]; rfl, A5.out⟩
        · rw [if_neg k]
          rw [decide_eq_false k] at nil
          clear k
          go_enter Tryd.func33, Tryd.ntmps33
          go_wp2_with fail
          refine (HL.out _).mono ?_
          rintro e w1 ⟨rfl, rfl⟩
          go_wp2_with fail
          refine (P0.out _).mono ?_
          rintro e w2 ⟨rfl, hb⟩
          have A2 := Lib.hid hb
          clear hb
          go_wp2_with fail
          refine (P1.out _).mono ?_
          rintro e w3 ⟨rfl, hb⟩
          have A3 := Lib.hid (down A2.out hb)
          clear hb A2
          go_wp2_with fail
          refine (P2.out _).mono ?_
          rintro e w4 ⟨rfl, hb⟩
          have A4 := Lib.hid (down A3.out hb)
          clear hb A3
          go_wp2_with fail
          refine (P3.out _).mono ?_
          rintro e w5 ⟨rfl, hb⟩
          have A5 := Lib.hid (down A4.out hb)
          clear hb A4
          go_wp2
          go_ret
          exact ⟨by show Ending.returned (.string ((((⟨[45, 80].toArray⟩ : ByteArray) ++ q0) ++ ⟨[84].toArray⟩) ++ r2)) = _; rw [er.out, ← hq0.out, str4]; rfl, A5.out⟩
      · rw [if_neg sg] at ha ⊢
        subst ha
        have ks : decide (n < 0) = false := decide_eq_false sg
        by_cases k : (p1 ++ p2) ++ p3 = []
        · rw [if_pos k]
          rw [decide_eq_true k] at nil
          clear k
          go_enter Tryd.func33, Tryd.ntmps33
          go_wp2_with fail
          refine (HL.out _).mono ?_
          rintro e w1 ⟨rfl, rfl⟩
          go_wp2_with fail
          refine (P0.out _).mono ?_
          rintro e w2 ⟨rfl, hb⟩
          have A2 := Lib.hid hb
          clear hb
          go_wp2_with fail
          refine (P1.out _).mono ?_
          rintro e w3 ⟨rfl, hb⟩
          have A3 := Lib.hid (down A2.out hb)
          clear hb A2
          go_wp2_with fail
          refine (P2.out _).mono ?_
          rintro e w4 ⟨rfl, hb⟩
          have A4 := Lib.hid (down A3.out hb)
          clear hb A3
          go_wp2_with fail
          refine (P3.out _).mono ?_
          rintro e w5 ⟨rfl, hb⟩
          have A5 := Lib.hid (down A4.out hb)
          clear hb A4
          go_wp2
          go_ret
          exact ⟨by show Ending.returned (.string ((⟨[80].toArray⟩ : ByteArray) ++ q0)) = _; rw [← hq0.out, List.append_nil, ba_append]; rfl, A5.out⟩
        · rw [if_neg k]
          rw [decide_eq_false k] at nil
          clear k
          go_enter Tryd.func33, Tryd.ntmps33
          go_wp2_with fail
          refine (HL.out _).mono ?_
          rintro e w1 ⟨rfl, rfl⟩
          go_wp2_with fail
          refine (P0.out _).mono ?_
          rintro e w2 ⟨rfl, hb⟩
          have A2 := Lib.hid hb
          clear hb
          go_wp2_with fail
          refine (P1.out _).mono ?_
          rintro e w3 ⟨rfl, hb⟩
          have A3 := Lib.hid (down A2.out hb)
          clear hb A2
          go_wp2_with fail
          refine (P2.out _).mono ?_
          rintro e w4 ⟨rfl, hb⟩
          have A4 := Lib.hid (down A3.out hb)
          clear hb A3
          go_wp2_with fail
          refine (P3.out _).mono ?_
          rintro e w5 ⟨rfl, hb⟩
          have A5 := Lib.hid (down A4.out hb)
          clear hb A4
          go_wp2
          go_ret
          exact ⟨by show Ending.returned (.string ((((⟨[80].toArray⟩ : ByteArray) ++ q0) ++ ⟨[84].toArray⟩) ++ r2)) = _; rw [er.out, ← hq0.out, str4]; rfl, A5.out⟩
end Go.Proofs.YtehbegjocdahmaaDoor
