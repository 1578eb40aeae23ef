/- The walk of IslamicGranules: the Go text returns true, at every input. -/
import Derived.Test.YtobipbmigpkhmaaDoorIsLawB
namespace Go.Proofs.YtobipbmigpkhmaaDoor
open Go.RowKit
set_option linter.unusedVariables false

namespace IslamicGranules
set_option maxRecDepth 100000 in
set_option maxHeartbeats 2000000 in
theorem bad (k f n j : Int) (E : Int) (kE : (E != 0) = true) (H : ∀ w, Tabs w → Calls Tryd.prog 27 #[.int .i64 k, .int .i64 f, .int .i64 n] w fun e w' => (∃ v, e = .returned (.tuple #[.agg #[.int .i64 0, .int .i64 0, v], .int .i64 E]) ∧ PairS w.heap.size w' v []) ∧ Below w.heap.size w w') (w : World) (ht : Tabs w) :
    Calls Tryd.prog 10 #[.int .i64 k, .int .i64 f, .int .i64 n, .int .u16 j] w fun e w' => e = .returned (.bool true) ∧ Below w.heap.size w w' := by
  have AW := Lib.hid (fun w ht => awake_all w ht)
  replace ht := Lib.hid ht
  replace H := Lib.hid H
  go_enter Tryd.func10, Tryd.ntmps10
  go_wp2_with fail
  refine (AW.out _ (ht.out.below (here w))).mono ?_
  rintro e w1 ⟨rfl, hb⟩
  have A1 := Lib.hid (down (here w) hb)
  clear hb
  go_wp2_with fail
  refine (H.out _ (ht.out.below A1.out)).mono ?_
  rintro e w2 ⟨⟨v, rfl, S⟩, hb⟩
  obtain ⟨ao, ac, rfl⟩ := S.shape
  simp only [List.length_nil] at S
  have A2 := Lib.hid (down A1.out hb)
  clear hb A1
  have S2 := Lib.hid S
  clear S
  go_wp2
  go_ret
  exact ⟨rfl, by first | exact A2.out | exact grow A2.out _ | exact below_drewN A2.out _ | exact grow (grow A2.out _) _ | exact grow (grow (grow A2.out _) _) _⟩
set_option maxRecDepth 100000 in
set_option maxHeartbeats 2000000 in
theorem good_mid (k f n j O X Z B M M2 : Int) (M0 : I64 M) (M1 : I64 M2) (c i : Nat) (ps : List (Int × Int)) (hk : I64 k) (f0 : 1 ≤ f) (f1 : f ≤ 9571) (n0 : 1 ≤ n) (n1 : n ≤ 360) (j0 : 0 ≤ j) (j1 : j ≤ 65535) (hl : ps.length = c) (c0 : 1 ≤ c) (c1 : c ≤ 360) (hc : 360 / n = (c : Int)) (hi : j % (c : Int) = i) (hic : i < c) (hX : (i : Int) * n = X) (X0 : 0 ≤ X) (X1 : X < 360) (hq : X + n < 360) (O0 : -492148 ≤ O) (O1 : O ≤ 2909772) (Z0 : 0 ≤ Z) (Z1 : Z ≤ 10631) (B0 : 0 ≤ B) (B1 : B ≤ 10631) (hp : ps.getD i (0, 0) = (Z, B))
    (H : ∀ w, Tabs w → Calls Tryd.prog 27 #[.int .i64 k, .int .i64 f, .int .i64 n] w fun e w' => (∃ v, e = .returned (.tuple #[.agg #[.int .i64 O, .int .i64 10631, v], .int .i64 0]) ∧ PairS w.heap.size w' v ps) ∧ Below w.heap.size w w')
    (H1 : ∀ w, Tabs w → Calls Tryd.prog 23 #[.int .i64 k, .agg #[.int .i64 (f + X / 12), .int .i64 (X % 12 + 1), .int .i64 1]] w fun e w' => e = .returned (.tuple #[.int .i64 (O + Z), .int .i64 0]) ∧ Below w.heap.size w w')
    (H2 : ∀ w, Tabs w → Calls Tryd.prog 21 #[.int .i64 k, .int .i64 (f + 30)] w fun e w' => e = .returned (.tuple #[.int .i64 M, .int .i64 M2]) ∧ Below w.heap.size w w')
    (H3 : ∀ w, Tabs w → Calls Tryd.prog 23 #[.int .i64 k, .agg #[.int .i64 (f + (X + n) / 12), .int .i64 ((X + n) % 12 + 1), .int .i64 1]] w fun e w' => e = .returned (.tuple #[.int .i64 (O + B), .int .i64 0]) ∧ Below w.heap.size w w') (w : World) (ht : Tabs w) :
    Calls Tryd.prog 10 #[.int .i64 k, .int .i64 f, .int .i64 n, .int .u16 j] w fun e w' => e = .returned (.bool true) ∧ Below w.heap.size w w' := by
  have q1 : decide (n < 1) = false := decide_eq_false (by omega)
  have qz : ¬ n = 0 := by omega
  have qc : ¬ (c : Int) = 0 := by omega
  have q2 : decide (X + n < 360) = true := decide_eq_true (by omega)
  have q3 : ((c : Int) != (c : Int)) = false := by simp
  have wX : 0 ≤ (i : Int) * n ∧ (i : Int) * n ≤ 360 := by omega
  have HP : Hid (ps.length = c ∧ i < ps.length ∧ ps.getD i (0, 0) = (Z, B)) := ⟨hl, by omega, hp⟩
  have xd : 0 ≤ X / 12 ∧ X / 12 ≤ 30 := by omega
  have xm : 0 ≤ X % 12 ∧ X % 12 ≤ 11 := by omega
  have yd : 0 ≤ (X + n) / 12 ∧ (X + n) / 12 ≤ 30 := by omega
  have ym : 0 ≤ (X + n) % 12 ∧ (X + n) % 12 ≤ 11 := by omega
  obtain ⟨xd0, xd1⟩ := xd
  obtain ⟨xm0, xm1⟩ := xm
  obtain ⟨yd0, yd1⟩ := yd
  obtain ⟨ym0, ym1⟩ := ym
  obtain ⟨wX0, wX1⟩ := wX
  clear hp hl
  have AW := Lib.hid (fun w ht => awake_all w ht)
  replace ht := Lib.hid ht
  replace H := Lib.hid H
  replace H1 := Lib.hid H1
  replace H2 := Lib.hid H2
  replace H3 := Lib.hid H3
  go_enter Tryd.func10, Tryd.ntmps10
  go_wp2_with fail
  refine (AW.out _ (ht.out.below (here w))).mono ?_
  rintro e w1 ⟨rfl, hb⟩
  have A1 := Lib.hid (down (here w) hb)
  clear hb
  go_wp2_with fail
  refine (H.out _ (ht.out.below A1.out)).mono ?_
  rintro e w2 ⟨⟨v, rfl, S⟩, hb⟩
  unfold PairS at S
  rw [HP.out.1] at S
  obtain ⟨vb, vo, vc, rfl, vl, LI⟩ : ∃ b off cc, v = .slice (some ⟨b, off, none⟩) c cc ∧ w1.heap.size ≤ b ∧ Lies w2 b off (pairs ps) := by
    rcases S with ⟨q, -⟩ | S
    · exact absurd q (by omega)
    · exact S
  clear S
  have A2 := Lib.hid (down A1.out hb)
  clear hb A1
  have LI2 := Lib.hid LI
  clear LI
  go_wp2
  obtain ⟨w3, hw3⟩ : ∃ w' : World, (w2.alloc (.cells #[.int .i64 (O), .int .i64 (10631), .slice (some ⟨vb, vo, none⟩) c vc] 44)) = w' := ⟨_, rfl⟩
  rw [hw3]
  have hb : Below (w2.alloc (.cells #[.int .i64 (O), .int .i64 (10631), .slice (some ⟨vb, vo, none⟩) c vc] 44)).heap.size (w2.alloc (.cells #[.int .i64 (O), .int .i64 (10631), .slice (some ⟨vb, vo, none⟩) c vc] 44)) w3 := by rw [hw3]; exact here _
  clear hw3
  have A3 := Lib.hid (down (grow A2.out _) hb)
  have C3 := Lib.hid (Box.new hb)
  have LI3 := Lib.hid ((LI2.out.keep (grow (here _) _)).keep hb)
  clear hb A2 LI2
  obtain ⟨c3_0, c3_1, c3_2, c3_z⟩ := C3.out
  go_quiet (fail)
  obtain ⟨w4, hw4⟩ : ∃ w' : World, w3.drewN nq = w' := ⟨_, rfl⟩
  rw [hw4]
  have hb : Below w3.heap.size w3 w4 := by rw [← hw4]; exact below_drewN (here _) _
  clear hw4
  have A4 := Lib.hid (down A3.out hb)
  have C4 := Lib.hid (C3.out.keep hb)
  have LI4 := Lib.hid (LI3.out.keep hb)
  clear hb A3 C3 LI3 c3_0 c3_1 c3_2 c3_z
  obtain ⟨c4_0, c4_1, c4_2, c4_z⟩ := C4.out
  go_wp2_with fail
  refine (H1.out _ (ht.out.below A4.out)).mono ?_
  rintro e w5 ⟨rfl, hb⟩
  have A5 := Lib.hid (down A4.out hb)
  have C5 := Lib.hid (C4.out.keep hb)
  have LI5 := Lib.hid (LI4.out.keep hb)
  clear hb A4 C4 LI4 c4_0 c4_1 c4_2 c4_z
  obtain ⟨c5_0, c5_1, c5_2, c5_z⟩ := C5.out
  go_wp2_with fail
  refine (H2.out _ (ht.out.below A5.out)).mono ?_
  rintro e w6 ⟨rfl, hb⟩
  have A6 := Lib.hid (down A5.out hb)
  have C6 := Lib.hid (C5.out.keep hb)
  have LI6 := Lib.hid (LI5.out.keep hb)
  clear hb A5 C5 LI5 c5_0 c5_1 c5_2 c5_z
  obtain ⟨c6_0, c6_1, c6_2, c6_z⟩ := C6.out
  go_wp2_with fail
  refine (H3.out _ (ht.out.below A6.out)).mono ?_
  rintro e w7 ⟨rfl, hb⟩
  have A7 := Lib.hid (down A6.out hb)
  have C7 := Lib.hid (C6.out.keep hb)
  have LI7 := Lib.hid (LI6.out.keep hb)
  clear hb A6 C6 LI6 c6_0 c6_1 c6_2 c6_z
  obtain ⟨c7_0, c7_1, c7_2, c7_z⟩ := C7.out
  obtain ⟨e0, e1⟩ := pairs_at LI7.out i HP.out.2.1
  rw [HP.out.2.2] at e0 e1
  go_wp2
  go_quiet (fail)
  go_wp2
  go_ret
  exact ⟨rfl, below_drewN A7.out _⟩
set_option maxRecDepth 100000 in
set_option maxHeartbeats 2000000 in
theorem good_end (k f n j O X Z B : Int) (c i : Nat) (ps : List (Int × Int)) (hk : I64 k) (f0 : 1 ≤ f) (f1 : f ≤ 9571) (n0 : 1 ≤ n) (n1 : n ≤ 360) (j0 : 0 ≤ j) (j1 : j ≤ 65535) (hl : ps.length = c) (c0 : 1 ≤ c) (c1 : c ≤ 360) (hc : 360 / n = (c : Int)) (hi : j % (c : Int) = i) (hic : i < c) (hX : (i : Int) * n = X) (X0 : 0 ≤ X) (X1 : X < 360) (hq : X + n = 360) (O0 : -492148 ≤ O) (O1 : O ≤ 2909772) (Z0 : 0 ≤ Z) (Z1 : Z ≤ 10631) (B0 : 0 ≤ B) (B1 : B ≤ 10631) (hp : ps.getD i (0, 0) = (Z, B))
    (H : ∀ w, Tabs w → Calls Tryd.prog 27 #[.int .i64 k, .int .i64 f, .int .i64 n] w fun e w' => (∃ v, e = .returned (.tuple #[.agg #[.int .i64 O, .int .i64 10631, v], .int .i64 0]) ∧ PairS w.heap.size w' v ps) ∧ Below w.heap.size w w')
    (H1 : ∀ w, Tabs w → Calls Tryd.prog 23 #[.int .i64 k, .agg #[.int .i64 (f + X / 12), .int .i64 (X % 12 + 1), .int .i64 1]] w fun e w' => e = .returned (.tuple #[.int .i64 (O + Z), .int .i64 0]) ∧ Below w.heap.size w w')
    (H2 : ∀ w, Tabs w → Calls Tryd.prog 21 #[.int .i64 k, .int .i64 (f + 30)] w fun e w' => e = .returned (.tuple #[.int .i64 (O + B), .int .i64 0]) ∧ Below w.heap.size w w')
     (w : World) (ht : Tabs w) :
    Calls Tryd.prog 10 #[.int .i64 k, .int .i64 f, .int .i64 n, .int .u16 j] w fun e w' => e = .returned (.bool true) ∧ Below w.heap.size w w' := by
  have q1 : decide (n < 1) = false := decide_eq_false (by omega)
  have qz : ¬ n = 0 := by omega
  have qc : ¬ (c : Int) = 0 := by omega
  have q2 : decide (X + n < 360) = false := decide_eq_false (by omega)
  have q3 : ((c : Int) != (c : Int)) = false := by simp
  have wX : 0 ≤ (i : Int) * n ∧ (i : Int) * n ≤ 360 := by omega
  have HP : Hid (ps.length = c ∧ i < ps.length ∧ ps.getD i (0, 0) = (Z, B)) := ⟨hl, by omega, hp⟩
  have xd : 0 ≤ X / 12 ∧ X / 12 ≤ 30 := by omega
  have xm : 0 ≤ X % 12 ∧ X % 12 ≤ 11 := by omega
  have yd : 0 ≤ (X + n) / 12 ∧ (X + n) / 12 ≤ 30 := by omega
  have ym : 0 ≤ (X + n) % 12 ∧ (X + n) % 12 ≤ 11 := by omega
  obtain ⟨xd0, xd1⟩ := xd
  obtain ⟨xm0, xm1⟩ := xm
  obtain ⟨yd0, yd1⟩ := yd
  obtain ⟨ym0, ym1⟩ := ym
  obtain ⟨wX0, wX1⟩ := wX
  clear hp hl
  have AW := Lib.hid (fun w ht => awake_all w ht)
  replace ht := Lib.hid ht
  replace H := Lib.hid H
  replace H1 := Lib.hid H1
  replace H2 := Lib.hid H2
  go_enter Tryd.func10, Tryd.ntmps10
  go_wp2_with fail
  refine (AW.out _ (ht.out.below (here w))).mono ?_
  rintro e w1 ⟨rfl, hb⟩
  have A1 := Lib.hid (down (here w) hb)
  clear hb
  go_wp2_with fail
  refine (H.out _ (ht.out.below A1.out)).mono ?_
  rintro e w2 ⟨⟨v, rfl, S⟩, hb⟩
  unfold PairS at S
  rw [HP.out.1] at S
  obtain ⟨vb, vo, vc, rfl, vl, LI⟩ : ∃ b off cc, v = .slice (some ⟨b, off, none⟩) c cc ∧ w1.heap.size ≤ b ∧ Lies w2 b off (pairs ps) := by
    rcases S with ⟨q, -⟩ | S
    · exact absurd q (by omega)
    · exact S
  clear S
  have A2 := Lib.hid (down A1.out hb)
  clear hb A1
  have LI2 := Lib.hid LI
  clear LI
  go_wp2
  obtain ⟨w3, hw3⟩ : ∃ w' : World, (w2.alloc (.cells #[.int .i64 (O), .int .i64 (10631), .slice (some ⟨vb, vo, none⟩) c vc] 44)) = w' := ⟨_, rfl⟩
  rw [hw3]
  have hb : Below (w2.alloc (.cells #[.int .i64 (O), .int .i64 (10631), .slice (some ⟨vb, vo, none⟩) c vc] 44)).heap.size (w2.alloc (.cells #[.int .i64 (O), .int .i64 (10631), .slice (some ⟨vb, vo, none⟩) c vc] 44)) w3 := by rw [hw3]; exact here _
  clear hw3
  have A3 := Lib.hid (down (grow A2.out _) hb)
  have C3 := Lib.hid (Box.new hb)
  have LI3 := Lib.hid ((LI2.out.keep (grow (here _) _)).keep hb)
  clear hb A2 LI2
  obtain ⟨c3_0, c3_1, c3_2, c3_z⟩ := C3.out
  go_quiet (fail)
  obtain ⟨w4, hw4⟩ : ∃ w' : World, w3.drewN nq = w' := ⟨_, rfl⟩
  rw [hw4]
  have hb : Below w3.heap.size w3 w4 := by rw [← hw4]; exact below_drewN (here _) _
  clear hw4
  have A4 := Lib.hid (down A3.out hb)
  have C4 := Lib.hid (C3.out.keep hb)
  have LI4 := Lib.hid (LI3.out.keep hb)
  clear hb A3 C3 LI3 c3_0 c3_1 c3_2 c3_z
  obtain ⟨c4_0, c4_1, c4_2, c4_z⟩ := C4.out
  go_wp2_with fail
  refine (H1.out _ (ht.out.below A4.out)).mono ?_
  rintro e w5 ⟨rfl, hb⟩
  have A5 := Lib.hid (down A4.out hb)
  have C5 := Lib.hid (C4.out.keep hb)
  have LI5 := Lib.hid (LI4.out.keep hb)
  clear hb A4 C4 LI4 c4_0 c4_1 c4_2 c4_z
  obtain ⟨c5_0, c5_1, c5_2, c5_z⟩ := C5.out
  go_wp2_with fail
  refine (H2.out _ (ht.out.below A5.out)).mono ?_
  rintro e w6 ⟨rfl, hb⟩
  have A6 := Lib.hid (down A5.out hb)
  have C6 := Lib.hid (C5.out.keep hb)
  have LI6 := Lib.hid (LI5.out.keep hb)
  clear hb A5 C5 LI5 c5_0 c5_1 c5_2 c5_z
  obtain ⟨c6_0, c6_1, c6_2, c6_z⟩ := C6.out
  obtain ⟨e0, e1⟩ := pairs_at LI6.out i HP.out.2.1
  rw [HP.out.2.2] at e0 e1
  go_wp2
  go_quiet (fail)
  go_wp2
  go_ret
  exact ⟨rfl, below_drewN A6.out _⟩
theorem walk (k f n j : Int) (hk : (Lit.int .i64 k).wf = true) (hf : (Lit.int .i64 f).wf = true) (hn : (Lit.int .i64 n).wf = true) (hj : (Lit.int .u16 j).wf = true) (w : World) (ht : Tabs w) :
    Calls Tryd.prog 10 #[.int .i64 k, .int .i64 f, .int .i64 n, .int .u16 j] w fun e w' => e = .returned (.bool true) ∧ Below w.heap.size w w' := by
  replace hk := i64_wf hk
  replace hf := i64_wf hf
  replace hn := i64_wf hn
  have jb : 0 ≤ j ∧ j ≤ 65535 := by simpa [Lit.wf, IntKind.min, IntKind.max, IntKind.signed, IntKind.bits] using hj
  have H := fun w ht => uimonths k f n hk hf hn w ht
  by_cases h : ikd k = false ∨ n < 1 ∨ 360 < n ∨ ¬ 360 % n = 0
  · obtain ⟨e1, e2, e3, e4⟩ := imon_arg (f := f) h
    rw [e1, e2, e3, e4] at H
    exact bad k f n j 1 rfl H w ht
  · obtain ⟨q, n0, n1, hd, hc, hcl⟩ := imon_parts h
    by_cases h2 : f < 1 ∨ 9571 < f ∨ ¬ (f - 1) % 30 = 0
    · obtain ⟨e1, e2, e3, e4⟩ := imon_range h h2
      rw [e1, e2, e3, e4] at H
      exact bad k f n j 2 rfl H w ht
    · obtain ⟨e1, e2, e3, e4⟩ := imon_good h h2
      obtain ⟨k0, k1⟩ := ikd_iff.1 q
      have f0 : 1 ≤ f := by omega
      have f1 : f ≤ 9571 := by omega
      have hf3 : (f - 1) % 30 = 0 := by omega
      rw [e1, e2, e3, e4] at H
      have hdv : 360 / n = ((360 / n).toNat : Int) := by rw [Int.toNat_of_nonneg (Int.ediv_nonneg (by omega) (by omega))]
      generalize (360 / n).toNat = c at *
      have c0 : 1 ≤ c := by
        rcases Nat.eq_zero_or_pos c with z | z
        · rw [z] at hc; simp at hc
        · exact z
      obtain ⟨i, hi⟩ : ∃ i : Nat, j % (c : Int) = i := ⟨(j % (c : Int)).toNat, (Int.toNat_of_nonneg (Int.emod_nonneg _ (by omega))).symm⟩
      have hic : i < c := by have := Int.emod_lt_of_pos j (show (0 : Int) < c by omega); omega
      have hX0 : 0 ≤ (i : Int) * n := Int.mul_nonneg (by omega) (by omega)
      have hX1 : (i : Int) * n < 360 := by
        have := Int.mul_lt_mul_of_pos_right (show (i : Int) < c by omega) (show 0 < n by omega)
        omega
      obtain ⟨g1, g2, -⟩ := group_le n0 hc rfl hX1
      have hp := ispans_get k n c i hic
      have fb := ifirst_bd k0 k1 f0 (show f ≤ 9601 by omega)
      have zb := imon_bd k0 k1 hX0 (by omega)
      have bb := imon_bd (j := (i : Int) * n + n) k0 k1 (by omega) g2
      have dm := imon_day k0 k1 f0 f1 hf3 hX0 hX1
      have H1 := fun w ht => uiday k (f + (i : Int) * n / 12) ((i : Int) * n % 12 + 1) 1 hk ⟨by omega, by omega⟩ ⟨by omega, by omega⟩ ⟨by omega, by omega⟩ w ht
      rw [show idN k (f + (i : Int) * n / 12) ((i : Int) * n % 12 + 1) 1 = ifirst k f + imon k ((i : Int) * n) by unfold idN; rw [if_pos dm.1, dm.2], show idE k (f + (i : Int) * n / 12) ((i : Int) * n % 12 + 1) 1 = 0 by unfold idE; rw [if_pos dm.1]] at H1
      have H2 := fun w ht => uinew k (f + 30) hk ⟨by omega, by omega⟩ w ht
      have nn := inew_in (y := f + 30) q (by omega) (by omega)
      by_cases u : (i : Int) * n + n < 360
      · have dn := imon_day (j := (i : Int) * n + n) k0 k1 f0 f1 hf3 (by omega) u
        have H3 := fun w ht => uiday k (f + ((i : Int) * n + n) / 12) (((i : Int) * n + n) % 12 + 1) 1 hk ⟨by omega, by omega⟩ ⟨by omega, by omega⟩ ⟨by omega, by omega⟩ w ht
        rw [show idN k (f + ((i : Int) * n + n) / 12) (((i : Int) * n + n) % 12 + 1) 1 = ifirst k f + imon k ((i : Int) * n + n) by unfold idN; rw [if_pos dn.1, dn.2], show idE k (f + ((i : Int) * n + n) / 12) (((i : Int) * n + n) % 12 + 1) 1 = 0 by unfold idE; rw [if_pos dn.1]] at H3
        have nb := inewN_bd k (f + 30)
        exact good_mid k f n j _ _ _ _ _ _ ⟨by omega, by omega⟩ (by rw [nn.2]; exact ⟨by omega, by omega⟩) c i _ hk f0 f1 n0 n1 jb.1 jb.2 (ispans_length k n c) c0 (by omega) hdv hi hic rfl hX0 hX1 u fb.1 fb.2 zb.1 zb.2 bb.1 bb.2 hp H H1 H2 H3 w ht
      · have ue : (i : Int) * n + n = 360 := by omega
        rw [nn.1, nn.2, ifirst_later] at H2
        have be : imon k ((i : Int) * n + n) = 10631 := by rw [ue]; exact imon_end k0 k1
        rw [be] at hp bb
        exact good_end k f n j _ _ _ _ c i _ hk f0 f1 n0 n1 jb.1 jb.2 (ispans_length k n c) c0 (by omega) hdv hi hic rfl hX0 hX1 ue fb.1 fb.2 zb.1 zb.2 bb.1 bb.2 hp H H1 H2 w ht
end IslamicGranules
end Go.Proofs.YtobipbmigpkhmaaDoor
