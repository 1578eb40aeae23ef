/- The contract of the reference's Parse. -/
import Derived.Test.YtimpaaimdjlhjaaDoorRefT
namespace Go.Proofs.YtimpaaimdjlhjaaDoor
open Go.RowKit
set_option linter.unusedVariables false

/-- The number of the digits that were read, signs left out. -/
def nX (X : Nat → Int) : Nat → Int
  | 0 => 0
  | k + 1 => if k = 4 ∨ k = 5 ∨ k = 8 then nX X k else 10 * nX X k + (X k - 48)
theorem nX_all (X : Nat → Int) : nX X 10 = 1000 * vY X + 10 * vW X + vD X := by
  simp [nX, vY, vW, vD]; omega
/-- The form of the reference, byte by byte. -/
theorem frm_at (k : Nat) (h : k < (⟨#[100, 100, 100, 100, 45, 87, 100, 100, 45, 100]⟩ : ByteArray).size) : ((⟨#[100, 100, 100, 100, 45, 87, 100, 100, 45, 100]⟩ : ByteArray)[k]'h).toNat = if k = 4 ∨ k = 8 then 45 else if k = 5 then 87 else 100 := by
  have h' : k < 10 := h
  have c : k = 0 ∨ k = 1 ∨ k = 2 ∨ k = 3 ∨ k = 4 ∨ k = 5 ∨ k = 6 ∨ k = 7 ∨ k = 8 ∨ k = 9 := by omega
  rcases c with rfl | rfl | rfl | rfl | rfl | rfl | rfl | rfl | rfl | rfl <;> rfl
/-- The first k bytes have the form, and n is the number of their digits. -/
structure ReadX (X : Nat → Int) (k : Nat) (n : Int) : Prop where
  ok : ∀ j, j < k → nrm (X j) = layW j
  num : n = nX X k
  lo : 0 ≤ n
  hi : n < 10 ^ k
theorem ReadX.bd {X : Nat → Int} {k : Nat} {n : Int} (h : ReadX X k n) (hk : k ≤ 10) : 0 ≤ n ∧ n ≤ 10000000000 := by
  refine ⟨h.lo, ?_⟩
  have q := h.hi
  have c : k = 0 ∨ k = 1 ∨ k = 2 ∨ k = 3 ∨ k = 4 ∨ k = 5 ∨ k = 6 ∨ k = 7 ∨ k = 8 ∨ k = 9 ∨ k = 10 := by omega
  rcases c with rfl | rfl | rfl | rfl | rfl | rfl | rfl | rfl | rfl | rfl | rfl <;> omega
theorem ReadX.sign {X : Nat → Int} {k : Nat} {n : Int} (h : ReadX X k n) (hk : k = 4 ∨ k = 5 ∨ k = 8) (hx : X k = layW k) : ReadX X (k + 1) n := by
  refine ⟨fun j hj => ?_, ?_, h.lo, ?_⟩
  · rcases Nat.lt_or_ge j k with l | l
    · exact h.ok j l
    · obtain rfl : j = k := by omega
      rw [hx]; unfold nrm layW
      rcases hk with rfl | rfl | rfl <;> simp
  · rw [h.num]; show nX X k = if k = 4 ∨ k = 5 ∨ k = 8 then nX X k else _
    rw [if_pos hk]
  · have := h.hi; rw [Int.pow_succ]; have := h.lo; omega
theorem ReadX.digit {X : Nat → Int} {k : Nat} {n : Int} (h : ReadX X k n) (hk : ¬ (k = 4 ∨ k = 5 ∨ k = 8)) (h0 : 48 ≤ X k) (h1 : X k ≤ 57) : ReadX X (k + 1) (10 * n + (X k - 48)) := by
  refine ⟨fun j hj => ?_, ?_, by have := h.lo; omega, ?_⟩
  · rcases Nat.lt_or_ge j k with l | l
    · exact h.ok j l
    · obtain rfl : j = k := by omega
      unfold nrm layW
      rw [if_pos ⟨h0, h1⟩, if_neg (by omega), if_neg (by omega)]
  · rw [h.num]; show _ = if k = 4 ∨ k = 5 ∨ k = 8 then _ else _
    rw [if_neg hk]
  · have := h.hi; rw [Int.pow_succ]; omega
theorem not_ok {X : Nat → Int} {k : Nat} (hk : k < 10) (h : nrm (X k) ≠ layW k) : okX X = false := by
  rw [← Bool.not_eq_true, okX_iff]; exact fun q => h (q k hk)
theorem bX_at {s : ByteArray} {k : Nat} (h : k < s.size) : bX s.data.toList k = (s[k].toNat : Int) := by unfold bX; rw [at_getD h]
theorem rparse_len (s : ByteArray) (hs : s.size ≤ maxLen) (h : s.size ≠ 10) (w : World) :
    Calls Tryd.prog 25 #[.string s] w fun e w' => e = .returned (.tuple #[.agg #[.int .i64 0, .int .i64 0, .int .i64 0], .int .i64 3]) ∧ Below w.heap.size w w' := by
  unfold maxLen at hs
  have k : ((s.size : Int) != 10) = true := by simp; omega
  clear h
  go_enter Tryd.func25, Tryd.ntmps25
  go_wp2
  exact bodyPost_ret (v := .tuple #[.agg #[.int .i64 0, .int .i64 0, .int .i64 0], .int .i64 3]) (by simp [results, Tryd.results25, go_sem]) rfl ⟨rfl, grow (here _) _⟩
/-- What Parse returns for a text of ten bytes. -/
def pOk (ok b : Bool) (x : Int) : Int := if ok && b then x else 0
def pEr (ok b : Bool) : Int := if ok then (if b then 0 else 2) else 3
set_option maxRecDepth 100000 in
set_option maxHeartbeats 4000000 in
theorem rparse_ten (s : ByteArray) (hs : s.size = 10) (ok b : Bool) (Y W D : Int) (hok : okX (bX s.data.toList) = ok) (hb : ok = true → knwB Y W D = b) (hY : vY (bX s.data.toList) = Y) (hW : vW (bX s.data.toList) = W) (hD : vD (bX s.data.toList) = D) (w : World) :
    Calls Tryd.prog 25 #[.string s] w fun e w' => e = .returned (.tuple #[.agg #[.int .i64 (pOk ok b Y), .int .i64 (pOk ok b W), .int .i64 (pOk ok b D)], .int .i64 (pEr ok b)]) ∧ Below w.heap.size w w' := by
  have k0 : ((s.size : Int) != 10) = false := by simp; omega
  have ks : (s.size : Int) = 10 := by omega
  have hA : Hid (∀ k, nX (bX s.data.toList) 10 = k → okX (bX s.data.toList) = true → k = 1000 * Y + 10 * W + D ∧ (0 ≤ Y ∧ Y ≤ 9999) ∧ (0 ≤ W ∧ W ≤ 99) ∧ 0 ≤ D ∧ D ≤ 9) := by
    show ∀ k, _ → _ → _
    intro k e o
    rw [nX_all, hY, hW, hD] at e
    have v := vals_bd o
    rw [hY, hW, hD] at v
    exact ⟨e.symm, v⟩
  have hX : Hid (∀ k, (h : k < s.size) → bX s.data.toList k = (s[k].toNat : Int)) := fun k h => bX_at h
  replace hb := Lib.hid hb
  replace hok := Lib.hid hok
  clear hY hW hD
  generalize bX s.data.toList = X at *
  have hw1 : ∃ w1 : World, w.alloc (.cells #[.int .i64 0, .int .i64 0, .int .i64 0] 26) = w1 := ⟨_, rfl⟩
  have A1 := Lib.hid (grow (here w) (.cells #[.int .i64 0, .int .i64 0, .int .i64 0] 26))
  have B1 := Lib.hid (Box.new (w := w) (x := .int .i64 0) (y := .int .i64 0) (z := .int .i64 0) (t := 26) (here _))
  have F1 := Lib.hid (Free.new (w := w) (x := .int .i64 0) (y := .int .i64 0) (z := .int .i64 0) (t := 26) (here _))
  go_enter Tryd.func25, Tryd.ntmps25
  obtain ⟨w1, hw1⟩ := hw1
  rw [hw1] at A1 B1 F1
  go_wp2
  clear hw1
  go_loopw [5, 6] (fun a i wr => ∃ (k : Nat) (n : Int), k ≤ 10 ∧ 0 ≤ n ∧ n ≤ 10000000000 ∧ Hid (ReadX X k n) ∧ a = .int .i64 n ∧ i = .int .i64 k ∧ ∃ m, wr = w1.drewN m) (fun _ i _ => 10 - (intOf i).toNat)
  case atStart => exact ⟨0, 0, Nat.zero_le _, by omega, by omega, Lib.hid ⟨fun j hj => by omega, rfl, by omega, by simp⟩, rfl, rfl, 0, rfl⟩
  case round =>
    obtain ⟨k, n, hk, n0, n1, HR, rfl, rfl, m, rfl⟩ := hrel
    by_cases hlt : k < 10
    · have hlt' : k < s.size := by omega
      have hx := hX.out k hlt'
      have hn := HR.out.bd (by omega)
      have hy := fun h => frm_at k h
      by_cases p : k = 4 ∨ k = 8
      · rw [if_pos p] at hy
        by_cases q : s[k].toNat = 45
        · have q1 : (((s[k].toNat : Nat) : Int) != 45) = false := by rw [q]; rfl
          have R' := Lib.hid (HR.out.sign (by omega) (by rw [hx, q]; unfold layW; rw [if_pos p]; rfl))
          clear HR hx q p
          go_wp2
          go_quiet (fail)
          go_wp2
          go_roundw
          case rel => exact ⟨k + 1, n, by omega, n0, n1, R', rfl, by go_num, _, rfl⟩
          case measure => simp [intOf]; omega
        · have q1 : (((s[k].toNat : Nat) : Int) != 45) = true := by simp; omega
          have e := not_ok hlt (X := X) (by rw [hx]; unfold nrm layW; rw [if_pos p]; split <;> omega)
          rw [hok.out] at e
          subst e
          clear HR hx q p
          obtain ⟨c0, c1, c2, z⟩ := B1.out
          obtain ⟨f0, f1, f2⟩ := F1.out
          go_wp2
          go_quiet (fail)
          go_wp2
          exact bodyPost_ret (v := .tuple #[.agg #[.int .i64 0, .int .i64 0, .int .i64 0], .int .i64 3]) (by simp [results, Tryd.results25, go_sem, c0, c1, c2]) rfl ⟨rfl, (((below_drewN A1.out _).setCell (Nat.le_refl _) _).setCell (Nat.le_refl _) _).setCell (Nat.le_refl _) _⟩
      · rw [if_neg p] at hy
        by_cases p2 : k = 5
        · rw [if_pos p2] at hy
          by_cases q : s[k].toNat = 87
          · have q1 : (((s[k].toNat : Nat) : Int) != 87) = false := by rw [q]; rfl
            have R' := Lib.hid (HR.out.sign (by omega) (by rw [hx, q]; unfold layW; rw [if_neg p, if_pos p2]; rfl))
            clear HR hx q p p2
            go_wp2
            go_quiet (fail)
            go_wp2
            go_roundw
            case rel => exact ⟨k + 1, n, by omega, n0, n1, R', rfl, by go_num, _, rfl⟩
            case measure => simp [intOf]; omega
          · have q1 : (((s[k].toNat : Nat) : Int) != 87) = true := by simp; omega
            have e := not_ok hlt (X := X) (by rw [hx]; unfold nrm layW; rw [if_neg p, if_pos p2]; split <;> omega)
            rw [hok.out] at e
            subst e
            clear HR hx q p p2
            obtain ⟨c0, c1, c2, z⟩ := B1.out
            obtain ⟨f0, f1, f2⟩ := F1.out
            go_wp2
            go_quiet (fail)
            go_wp2
            exact bodyPost_ret (v := .tuple #[.agg #[.int .i64 0, .int .i64 0, .int .i64 0], .int .i64 3]) (by simp [results, Tryd.results25, go_sem, c0, c1, c2]) rfl ⟨rfl, (((below_drewN A1.out _).setCell (Nat.le_refl _) _).setCell (Nat.le_refl _) _).setCell (Nat.le_refl _) _⟩
        · rw [if_neg p2] at hy
          by_cases q0 : 48 ≤ s[k].toNat
          · by_cases q1 : s[k].toNat ≤ 57
            · have R' := HR.out.digit (by omega) (by rw [hx]; omega) (by rw [hx]; omega)
              rw [hx] at R'
              have b' := R'.bd (by omega)
              replace R' := Lib.hid R'
              have u0 : decide ((s[k].toNat : Int) < 48) = false := decide_eq_false (by omega)
              have u1 : decide (57 < (s[k].toNat : Int)) = false := decide_eq_false (by omega)
              clear HR hx p p2
              obtain ⟨b0, b1⟩ := b'
              go_wp2
              go_roundw
              case rel => exact ⟨k + 1, _, by omega, b0, b1, R', rfl, by go_num, _, rfl⟩
              case measure => simp [intOf]; omega
            · have u0 : decide ((s[k].toNat : Int) < 48) = false := decide_eq_false (by omega)
              have u1 : decide (57 < (s[k].toNat : Int)) = true := decide_eq_true (by omega)
              have e := not_ok hlt (X := X) (by rw [hx]; unfold nrm layW; rw [if_neg p, if_neg p2, if_neg (by omega)]; omega)
              rw [hok.out] at e
              subst e
              clear HR hx p p2
              obtain ⟨c0, c1, c2, z⟩ := B1.out
              obtain ⟨f0, f1, f2⟩ := F1.out
              go_wp2
              exact bodyPost_ret (v := .tuple #[.agg #[.int .i64 0, .int .i64 0, .int .i64 0], .int .i64 3]) (by simp [results, Tryd.results25, go_sem, c0, c1, c2]) rfl ⟨rfl, (((below_drewN A1.out _).setCell (Nat.le_refl _) _).setCell (Nat.le_refl _) _).setCell (Nat.le_refl _) _⟩
          · have u0 : decide ((s[k].toNat : Int) < 48) = true := decide_eq_true (by omega)
            have e := not_ok hlt (X := X) (by rw [hx]; unfold nrm layW; rw [if_neg p, if_neg p2, if_neg (by omega)]; omega)
            rw [hok.out] at e
            subst e
            clear HR hx p p2
            obtain ⟨c0, c1, c2, z⟩ := B1.out
            obtain ⟨f0, f1, f2⟩ := F1.out
            go_wp2
            exact bodyPost_ret (v := .tuple #[.agg #[.int .i64 0, .int .i64 0, .int .i64 0], .int .i64 3]) (by simp [results, Tryd.results25, go_sem, c0, c1, c2]) rfl ⟨rfl, (((below_drewN A1.out _).setCell (Nat.le_refl _) _).setCell (Nat.le_refl _) _).setCell (Nat.le_refl _) _⟩
    · obtain rfl : k = 10 := by omega
      have o : okX X = true := okX_iff.2 HR.out.ok
      obtain ⟨e, v1, v2, v3⟩ := hA.out n HR.out.num.symm o
      rw [hok.out] at o
      subst o
      have HV := fun w => rknown Y W D ⟨by omega, by omega⟩ ⟨by omega, by omega⟩ ⟨by omega, by omega⟩ w
      rw [hb.out rfl] at HV
      replace HV := Lib.hid HV
      have e1 : n / 1000 = Y := by omega
      have e2 : n / 10 % 100 = W := by omega
      have e3 : n % 10 = D := by omega
      clear HR hA v1 v2 v3 e
      have A2 := Lib.hid (below_drewN A1.out m)
      have B2 := Lib.hid (B1.out.drewN m)
      have F2 := Lib.hid (F1.out.drewN m)
      obtain ⟨w2, hw2⟩ : ∃ w2, w1.drewN m = w2 := ⟨_, rfl⟩
      rw [hw2] at A2 B2 F2
      rw [hw2]
      clear hw2 A1 B1 F1
      go_wp2_with fail
      refine (HV.out _).mono ?_
      rintro e w3 ⟨rfl, hb3⟩
      have A3 := Lib.hid (down (grow A2.out _) hb3)
      have B3 := Lib.hid ((B2.out.old _).keep hb3)
      have C3 := Lib.hid (Box.new hb3)
      have F3 := Lib.hid ((F2.out.keep B2.out.lt (grow (here _) _)).keep (B2.out.old _).lt hb3)
      clear hb3 A2 B2 F2
      obtain ⟨c0, c1, c2, zc⟩ := B3.out
      obtain ⟨d0, d1, d2, zd⟩ := C3.out
      obtain ⟨f0, f1, f2⟩ := F3.out
      cases b
      · go_wp2
        exact bodyPost_ret (v := .tuple #[.agg #[.int .i64 0, .int .i64 0, .int .i64 0], .int .i64 2]) (by simp [results, Tryd.results25, go_sem, c0, c1, c2]) rfl ⟨rfl, ((A3.out.setCell (Nat.le_refl _) _).setCell (Nat.le_refl _) _).setCell (Nat.le_refl _) _⟩
      · go_wp2
        exact bodyPost_ret (v := .tuple #[.agg #[.int .i64 Y, .int .i64 W, .int .i64 D], .int .i64 0]) (by simp [results, Tryd.results25, go_sem, c0, c1, c2]) rfl ⟨rfl, ((A3.out.setCell (Nat.le_refl _) _).setCell (Nat.le_refl _) _).setCell (Nat.le_refl _) _⟩
end Go.Proofs.YtimpaaimdjlhjaaDoor
