/- Contracts of package interval: Minus, Parse, All. -/
import Derived.Test.YtknlhhjooamfhaaDoorIvU2
namespace Go.Proofs.YtknlhhjooamfhaaDoor
open Go.RowKit
set_option linter.unusedVariables false

theorem ix_parts (a N M b : Int) (w : World) : (Instr.index 59 (.agg #[.int .i64 a, .int .i64 N, .int .i64 M, .int .i64 b]) (.int .i64 0)).run Tryd.prog w = .ok (.agg #[.int .i64 a, .int .i64 N]) w ∧ (Instr.index 59 (.agg #[.int .i64 a, .int .i64 N, .int .i64 M, .int .i64 b]) (.int .i64 1)).run Tryd.prog w = .ok (.agg #[.int .i64 M, .int .i64 b]) w := ⟨by kernel_rfl, by kernel_rfl⟩
set_option maxRecDepth 100000 in
set_option maxHeartbeats 1000000 in
theorem uvminus (a b c d : Int) (ha : I64 a) (hb : I64 b) (hc : I64 c) (hd : I64 d) (w : World) (ht : Tabs w) :
    Calls Tryd.prog 23 #[.agg #[.int .i64 a, .int .i64 b], .agg #[.int .i64 c, .int .i64 d]] w fun e w' => (∃ v, e = .returned v ∧ PairS w.heap.size w' v (mnL a b c d)) ∧ Below w.heap.size w w' := by
  have HV := Lib.hid (fun w ht => ubv a b c d ha hb hc hd w ht)
  have HX := Lib.hid (fun x y (hx : I64 x) (hy : I64 y) w ht => uvvalid x y hx hy w ht)
  obtain ⟨a0, a1⟩ := ha
  obtain ⟨b0, b1⟩ := hb
  obtain ⟨c0, c1⟩ := hc
  obtain ⟨d0, d1⟩ := hd
  obtain ⟨N, hN⟩ : ∃ N, (if c < b then c else b) = N := ⟨_, rfl⟩
  obtain ⟨M, hM⟩ : ∃ M, (if a < d then d else a) = M := ⟨_, rfl⟩
  have HN : Hid (hiV b c = N) := hN
  have HM : Hid (loV a d = M) := hM
  have M0 : -9223372036854775808 ≤ M ∧ M ≤ 9223372036854775807 := by rw [← hM]; split <;> omega
  have N0 : -9223372036854775808 ≤ N ∧ N ≤ 9223372036854775807 := by rw [← hN]; split <;> omega
  obtain ⟨i0, hi, hz0, hz1, hz2⟩ := info_parts infoSpan
  cases v : ivB a b && ivB c d
  · rw [v] at HV
    clear HM HN HX
    obtain ⟨w1, hw1⟩ : ∃ w1 : World, w.alloc (.cells #[.int .i64 (a), .int .i64 (b)] 23) = w1 := ⟨_, rfl⟩
    have s1 : w1.heap.size = w.heap.size + 1 := by rw [← hw1, size_two]
    obtain ⟨w2, hw2⟩ : ∃ w2 : World, w1.alloc (.cells #[.int .i64 (c), .int .i64 (d)] 23) = w2 := ⟨_, rfl⟩
    have s2 : w2.heap.size = w.heap.size + 2 := by rw [← hw2, size_two, s1]
    have X1 : Two w1 (w.heap.size) (.int .i64 (a)) (.int .i64 (b)) := by rw [← hw1]; exact Two.new (here _)
    have X2 : Two w2 (w.heap.size) (.int .i64 (a)) (.int .i64 (b)) := by rw [← hw2]; exact X1.keep (grow (here _) _)
    have Y2 : Two w2 (w.heap.size + 1) (.int .i64 (c)) (.int .i64 (d)) := by rw [← s1, ← hw2]; exact Two.new (here _)
    have A2 : Below w.heap.size w w2 := by rw [← hw2, ← hw1]; exact (grow (grow (here w) _) _)
    replace X2 := Lib.hid X2
    replace Y2 := Lib.hid Y2
    replace A2 := Lib.hid A2
    clear X1
    obtain ⟨x0, x1, xl⟩ := X2.out
    obtain ⟨y0, y1, yl⟩ := Y2.out
    have T2 : Hid (Tabs w2) := ht.below A2.out
    go_enter Tryd.func23, Tryd.ntmps23
    go_wp2_with fail
    refine (HV.out _ T2.out).mono ?_
    rintro e w3 ⟨rfl, hb⟩
    clear x0 x1 xl y0 y1 yl
    have A3 := Lib.hid (down A2.out hb)
    have T3 := Lib.hid (T2.out.below hb)
    have X3 := Lib.hid (X2.out.keep hb)
    have Y3 := Lib.hid (Y2.out.keep hb)
    clear hb A2 T2 X2 Y2
    obtain ⟨x0, x1, xl⟩ := X3.out
    obtain ⟨y0, y1, yl⟩ := Y3.out
    go_wp2
    go_ret
    exact ⟨⟨_, rfl, by rw [mnL_out v]; exact Sl.none _ _⟩, A3.out⟩
  · rw [v] at HV
    have v1 := v
    rw [Bool.and_eq_true] at v1
    have q := ivB_iff.1 v1.1
    have p := ivB_iff.1 v1.2
    have l1 := hiV_bd b c
    have l2 := loV_bd a d
    rw [HN.out] at l1
    rw [HM.out] at l2
    -- the list behind k rounds, and what a round adds
    obtain ⟨F, HF⟩ : ∃ F : Nat → List (Int × Int), F = fun k => if k = 0 then [] else if k = 1 then mnA a b c d else mnA a b c d ++ mnZ a b c d := ⟨_, rfl⟩
    have F0 : Hid (F 0 = []) := by subst HF; rfl
    have F2 : Hid (F 2 = mnL a b c d) := by subst HF; show _ = _; rw [mnL_in v1.1 v1.2]; rfl
    have ST : Hid (∀ k : Nat, k < 2 → ∃ x y : Int, I64 x ∧ I64 y ∧ (∀ w, (Instr.index 59 (.agg #[.int .i64 a, .int .i64 N, .int .i64 M, .int .i64 b]) (.int .i64 (k : Int))).run Tryd.prog w = .ok (.agg #[.int .i64 x, .int .i64 y]) w) ∧ (F k).length ≤ 1 ∧ F (k + 1) = F k ++ (if ivB x y then [(x, y)] else [])) := by
      intro k hk
      subst HF
      have ln : (mnA a b c d).length ≤ 1 := by unfold mnA; split <;> simp
      rcases (show k = 0 ∨ k = 1 by omega) with rfl | rfl
      · refine ⟨a, N, ⟨by omega, by omega⟩, ⟨by omega, by omega⟩, fun w => (ix_parts a N M b w).1, by simp, ?_⟩
        show mnA a b c d = [] ++ _
        by_cases z : a < N
        · rw [mnA_yes (by rw [HN.out]; exact z), HN.out, if_pos (by rw [ivB_iff]; omega)]; rfl
        · rw [mnA_no (by rw [HN.out]; exact z), if_neg (by rw [ivB_iff]; omega)]; rfl
      · refine ⟨M, b, ⟨by omega, by omega⟩, ⟨by omega, by omega⟩, fun w => (ix_parts a N M b w).2, by simpa using ln, ?_⟩
        show mnA a b c d ++ mnZ a b c d = mnA a b c d ++ _
        by_cases z : M < b
        · rw [mnZ_yes (by rw [HM.out]; exact z), HM.out, if_pos (by rw [ivB_iff]; omega)]
        · rw [mnZ_no (by rw [HM.out]; exact z), if_neg (by rw [ivB_iff]; omega)]
    clear v v1 q p l1 l2 HN HM HF
    obtain ⟨w1, hw1⟩ : ∃ w1 : World, w.alloc (.cells #[.int .i64 (a), .int .i64 (b)] 23) = w1 := ⟨_, rfl⟩
    have s1 : w1.heap.size = w.heap.size + 1 := by rw [← hw1, size_two]
    obtain ⟨w2, hw2⟩ : ∃ w2 : World, w1.alloc (.cells #[.int .i64 (c), .int .i64 (d)] 23) = w2 := ⟨_, rfl⟩
    have s2 : w2.heap.size = w.heap.size + 2 := by rw [← hw2, size_two, s1]
    have X1 : Two w1 (w.heap.size) (.int .i64 (a)) (.int .i64 (b)) := by rw [← hw1]; exact Two.new (here _)
    have X2 : Two w2 (w.heap.size) (.int .i64 (a)) (.int .i64 (b)) := by rw [← hw2]; exact X1.keep (grow (here _) _)
    have Y2 : Two w2 (w.heap.size + 1) (.int .i64 (c)) (.int .i64 (d)) := by rw [← s1, ← hw2]; exact Two.new (here _)
    have A2 : Below w.heap.size w w2 := by rw [← hw2, ← hw1]; exact (grow (grow (here w) _) _)
    replace X2 := Lib.hid X2
    replace Y2 := Lib.hid Y2
    replace A2 := Lib.hid A2
    clear X1
    obtain ⟨x0, x1, xl⟩ := X2.out
    obtain ⟨y0, y1, yl⟩ := Y2.out
    have T2 : Hid (Tabs w2) := ht.below A2.out
    go_enter Tryd.func23, Tryd.ntmps23
    go_wp2_with fail
    refine (HV.out _ T2.out).mono ?_
    rintro e w3 ⟨rfl, hb⟩
    clear x0 x1 xl y0 y1 yl
    have A3 := Lib.hid (down A2.out hb)
    have T3 := Lib.hid (T2.out.below hb)
    have X3 := Lib.hid (X2.out.keep hb)
    have Y3 := Lib.hid (Y2.out.keep hb)
    clear hb A2 T2 X2 Y2
    obtain ⟨x0, x1, xl⟩ := X3.out
    obtain ⟨y0, y1, yl⟩ := Y3.out
    have O3 : Hid (w3.ownsRow w.heap.size 23 2 (.slice none 0 0) 0 (pairs [])) := World.ownsRow_nil _ _ _ _
    clear X3 Y3
    go_wp2
    clear x0 x1 xl y0 y1 yl
    go_loopw [5, 29] (fun v i wr => ∃ (k : Nat) (ao : Option Addr) (cp : Nat), k ≤ 2 ∧ i = .int .i64 k ∧ v = .slice ao (F k).length cp ∧ Hid (wr.ownsRow w.heap.size 23 2 (.slice ao (F k).length cp) (F k).length (pairs (F k))) ∧ Hid (Below w.heap.size w wr)) (fun _ i _ => 2 - (intOf i).toNat)
    case atStart => exact ⟨0, none, 0, by omega, rfl, by rw [F0.out]; rfl, by rw [F0.out]; exact O3, A3⟩
    case round =>
      obtain ⟨k, ao, cp, hk, rfl, rfl, O0, A0⟩ := hrel
      clear O3 A3 T3 F0
      by_cases z : k < 2
      · have kz : decide ((k : Int) < 2) = true := decide_eq_true (by omega)
        obtain ⟨x, y, hx, hy, ix, ln, fs⟩ := ST.out k z
        replace HX := Lib.hid (HX.out x y hx hy)
        obtain ⟨x0, x1⟩ := hx
        obtain ⟨y0, y1⟩ := hy
        generalize hL : F k = L at *
        obtain ⟨w1, hw1⟩ : ∃ w1 : World, wr.alloc (.cells #[.int .i64 x, .int .i64 y] 23) = w1 := ⟨_, rfl⟩
        obtain ⟨b1, hb1⟩ : ∃ b1, wr.heap.size = b1 := ⟨_, rfl⟩
        have U1 : Hid (Two w1 b1 (.int .i64 x) (.int .i64 y)) := by rw [← hb1, ← hw1]; exact Two.new (here _)
        have A1 : Hid (Below w.heap.size w w1) := by rw [← hw1]; exact grow A0.out _
        have O1 : Hid (w1.ownsRow w.heap.size 23 2 (.slice ao L.length cp) L.length (pairs L)) := by rw [← hw1]; exact O0.out.alloc _
        have T1 : Hid (Tabs w1) := ht.below A1.out
        obtain ⟨u0, u1, ul⟩ := U1.out
        cases vx : ivB x y
        · rw [vx, if_neg (by simp), List.append_nil] at fs
          rw [vx] at HX
          have rel : Hid (F (k + 1) = L) := fs
          clear fs vx F2 O0 A0
          go_wp2_with fail
          refine (HX.out _ T1.out).mono ?_
          rintro e w2 ⟨rfl, hb⟩
          have O2 := Lib.hid (owns_below O1.out hb)
          have A2 := Lib.hid (down A1.out hb)
          clear hb O1 A1 T1 u0 u1 ul U1
          go_wp2
          go_roundw
          case rel => exact ⟨k + 1, ao, cp, by omega, by go_num, by rw [rel.out], by rw [rel.out]; exact O2, A2⟩
          case measure => simp [intOf]; omega
        · rw [vx, if_pos rfl] at fs
          rw [vx] at HX
          have rel : Hid (F (k + 1) = L ++ [(x, y)]) := fs
          clear fs vx F2 O0 A0
          go_wp2_with fail
          refine (HX.out _ T1.out).mono ?_
          rintro e w2 ⟨rfl, hb⟩
          have O2 := Lib.hid (owns_below O1.out hb)
          have A2 := Lib.hid (down A1.out hb)
          have U2 := Lib.hid (U1.out.keep hb)
          have S2 : Hid (w.heap.size ≤ w2.heap.size) := A2.out.size
          clear hb O1 A1 T1 u0 u1 ul U1
          obtain ⟨u0, u1, ul⟩ := U2.out
          go_wp2_with (at_builtin; refine wpList_append_own _ rfl _ _ 39 rfl w.heap.size 23 i0 (.agg #[.int .i64 0, .int .i64 0]) 2 16 Tryd.underlying39 hi hz0 hz1 hz2 rfl (by decide) (.slice ao L.length cp) L.length (pairs L) rfl (O2.out.alloc _) ⟨w2.heap.size, 0, none⟩ 1 1 [.int .i64 x, .int .i64 y] rfl rfl ?c1 ?c2 ?c3 ?c4 ?c5 ?_)
          case c1 =>
            intro j u hj
            rw [Addr.add_lit, Nat.zero_add, World.cell?_alloc_new]
            simpa using hj
          case c2 => intro u hu; simp at hu; rcases hu with rfl | rfl <;> rfl
          case c3 => unfold maxLen; omega
          case c4 => omega
          case c5 => have := S2.out; simp; omega
          intro v3 w3 hown hgrow _
          obtain ⟨ao3, cp3, rfl⟩ := (Sl.owns hown).shape
          have G : Below w.heap.size w2 w3 := ((Below.refl _ _).alloc S2.out _).grown hgrow (by have := S2.out; simp; omega) (own_ge O2.out)
          have A3 := Lib.hid (A2.out.trans G)
          have O3 : Hid (w3.ownsRow w.heap.size 23 2 (.slice ao3 (L.length + 1) cp3) (L.length + 1) (pairs (L ++ [(x, y)]))) := own_snoc hown
          clear hown hgrow G
          go_wp2
          go_roundw
          case rel => exact ⟨k + 1, ao3, cp3, by omega, by go_num, by rw [rel.out]; simp, by rw [rel.out]; simpa using O3, A3⟩
          case measure => simp [intOf]; omega
      · have kz : decide ((k : Int) < 2) = false := decide_eq_false (by omega)
        obtain rfl : k = 2 := by omega
        have PL : Hid (PairS w.heap.size wr (.slice ao (F 2).length cp) (mnL a b c d)) := by
          rw [← F2.out]; exact Sl.owns O0.out
        clear F2 O0 ST
        go_wp2
        go_ret
        exact ⟨⟨_, rfl, PL.out⟩, A0.out⟩
theorem ix_names (X : Nat → ByteArray) (k : Nat) (hk : k < 13) (w : World) : (Instr.index 60 (.agg #[.string (X 0), .string (X 1), .string (X 2), .string (X 3), .string (X 4), .string (X 5), .string (X 6), .string (X 7), .string (X 8), .string (X 9), .string (X 10), .string (X 11), .string (X 12)]) (.int .i64 (k : Int))).run Tryd.prog w = .ok (.string (X k)) w := by
  have h0 : ∀ w, (Instr.index 60 (.agg #[.string (X 0), .string (X 1), .string (X 2), .string (X 3), .string (X 4), .string (X 5), .string (X 6), .string (X 7), .string (X 8), .string (X 9), .string (X 10), .string (X 11), .string (X 12)]) (.int .i64 0)).run Tryd.prog w = .ok (.string (X 0)) w := fun _ => by kernel_rfl
  have h1 : ∀ w, (Instr.index 60 (.agg #[.string (X 0), .string (X 1), .string (X 2), .string (X 3), .string (X 4), .string (X 5), .string (X 6), .string (X 7), .string (X 8), .string (X 9), .string (X 10), .string (X 11), .string (X 12)]) (.int .i64 1)).run Tryd.prog w = .ok (.string (X 1)) w := fun _ => by kernel_rfl
  have h2 : ∀ w, (Instr.index 60 (.agg #[.string (X 0), .string (X 1), .string (X 2), .string (X 3), .string (X 4), .string (X 5), .string (X 6), .string (X 7), .string (X 8), .string (X 9), .string (X 10), .string (X 11), .string (X 12)]) (.int .i64 2)).run Tryd.prog w = .ok (.string (X 2)) w := fun _ => by kernel_rfl
  have h3 : ∀ w, (Instr.index 60 (.agg #[.string (X 0), .string (X 1), .string (X 2), .string (X 3), .string (X 4), .string (X 5), .string (X 6), .string (X 7), .string (X 8), .string (X 9), .string (X 10), .string (X 11), .string (X 12)]) (.int .i64 3)).run Tryd.prog w = .ok (.string (X 3)) w := fun _ => by kernel_rfl
  have h4 : ∀ w, (Instr.index 60 (.agg #[.string (X 0), .string (X 1), .string (X 2), .string (X 3), .string (X 4), .string (X 5), .string (X 6), .string (X 7), .string (X 8), .string (X 9), .string (X 10), .string (X 11), .string (X 12)]) (.int .i64 4)).run Tryd.prog w = .ok (.string (X 4)) w := fun _ => by kernel_rfl
  have h5 : ∀ w, (Instr.index 60 (.agg #[.string (X 0), .string (X 1), .string (X 2), .string (X 3), .string (X 4), .string (X 5), .string (X 6), .string (X 7), .string (X 8), .string (X 9), .string (X 10), .string (X 11), .string (X 12)]) (.int .i64 5)).run Tryd.prog w = .ok (.string (X 5)) w := fun _ => by kernel_rfl
  have h6 : ∀ w, (Instr.index 60 (.agg #[.string (X 0), .string (X 1), .string (X 2), .string (X 3), .string (X 4), .string (X 5), .string (X 6), .string (X 7), .string (X 8), .string (X 9), .string (X 10), .string (X 11), .string (X 12)]) (.int .i64 6)).run Tryd.prog w = .ok (.string (X 6)) w := fun _ => by kernel_rfl
  have h7 : ∀ w, (Instr.index 60 (.agg #[.string (X 0), .string (X 1), .string (X 2), .string (X 3), .string (X 4), .string (X 5), .string (X 6), .string (X 7), .string (X 8), .string (X 9), .string (X 10), .string (X 11), .string (X 12)]) (.int .i64 7)).run Tryd.prog w = .ok (.string (X 7)) w := fun _ => by kernel_rfl
  have h8 : ∀ w, (Instr.index 60 (.agg #[.string (X 0), .string (X 1), .string (X 2), .string (X 3), .string (X 4), .string (X 5), .string (X 6), .string (X 7), .string (X 8), .string (X 9), .string (X 10), .string (X 11), .string (X 12)]) (.int .i64 8)).run Tryd.prog w = .ok (.string (X 8)) w := fun _ => by kernel_rfl
  have h9 : ∀ w, (Instr.index 60 (.agg #[.string (X 0), .string (X 1), .string (X 2), .string (X 3), .string (X 4), .string (X 5), .string (X 6), .string (X 7), .string (X 8), .string (X 9), .string (X 10), .string (X 11), .string (X 12)]) (.int .i64 9)).run Tryd.prog w = .ok (.string (X 9)) w := fun _ => by kernel_rfl
  have h10 : ∀ w, (Instr.index 60 (.agg #[.string (X 0), .string (X 1), .string (X 2), .string (X 3), .string (X 4), .string (X 5), .string (X 6), .string (X 7), .string (X 8), .string (X 9), .string (X 10), .string (X 11), .string (X 12)]) (.int .i64 10)).run Tryd.prog w = .ok (.string (X 10)) w := fun _ => by kernel_rfl
  have h11 : ∀ w, (Instr.index 60 (.agg #[.string (X 0), .string (X 1), .string (X 2), .string (X 3), .string (X 4), .string (X 5), .string (X 6), .string (X 7), .string (X 8), .string (X 9), .string (X 10), .string (X 11), .string (X 12)]) (.int .i64 11)).run Tryd.prog w = .ok (.string (X 11)) w := fun _ => by kernel_rfl
  have h12 : ∀ w, (Instr.index 60 (.agg #[.string (X 0), .string (X 1), .string (X 2), .string (X 3), .string (X 4), .string (X 5), .string (X 6), .string (X 7), .string (X 8), .string (X 9), .string (X 10), .string (X 11), .string (X 12)]) (.int .i64 12)).run Tryd.prog w = .ok (.string (X 12)) w := fun _ => by kernel_rfl
  have c : k = 0 ∨ k = 1 ∨ k = 2 ∨ k = 3 ∨ k = 4 ∨ k = 5 ∨ k = 6 ∨ k = 7 ∨ k = 8 ∨ k = 9 ∨ k = 10 ∨ k = 11 ∨ k = 12 := by omega
  rcases c with rfl | rfl | rfl | rfl | rfl | rfl | rfl | rfl | rfl | rfl | rfl | rfl | rfl
  · exact h0 w
  · exact h1 w
  · exact h2 w
  · exact h3 w
  · exact h4 w
  · exact h5 w
  · exact h6 w
  · exact h7 w
  · exact h8 w
  · exact h9 w
  · exact h10 w
  · exact h11 w
  · exact h12 w
set_option maxRecDepth 100000 in
set_option maxHeartbeats 1000000 in
theorem uvparse (s : ByteArray) (hs : s.size ≤ 1000) (w : World) (ht : Tabs w) :
    Calls Tryd.prog 31 #[.string s] w fun e w' => e = .returned (.tuple #[.int .i64 (prV s), .int .i64 (prE s)]) ∧ Below w.heap.size w w' := by
  have NO := Lib.hid (@pr_no s)
  have AT := Lib.hid (fun k => @pr_at s k)
  obtain ⟨X, hX⟩ : ∃ X, nmV = X := ⟨_, rfl⟩
  have c0 := names_cell ht 0 (by omega)
  have c1 := names_cell ht 1 (by omega)
  have c2 := names_cell ht 2 (by omega)
  have c3 := names_cell ht 3 (by omega)
  have c4 := names_cell ht 4 (by omega)
  have c5 := names_cell ht 5 (by omega)
  have c6 := names_cell ht 6 (by omega)
  have c7 := names_cell ht 7 (by omega)
  have c8 := names_cell ht 8 (by omega)
  have c9 := names_cell ht 9 (by omega)
  have c10 := names_cell ht 10 (by omega)
  have c11 := names_cell ht 11 (by omega)
  have c12 := names_cell ht 12 (by omega)
  rw [hX] at NO AT c0 c1 c2 c3 c4 c5 c6 c7 c8 c9 c10 c11 c12
  clear hX ht
  generalize prV s = V at *
  generalize prE s = E at *
  go_enter Tryd.func31, Tryd.ntmps31
  go_wp2
  clear c0 c1 c2 c3 c4 c5 c6 c7 c8 c9 c10 c11 c12
  go_loop [7] (fun i => ∃ k : Nat, k ≤ 13 ∧ i = .int .i64 k ∧ Hid (∀ j, j < k → ¬ X j = s)) (fun i => 13 - (intOf i).toNat)
  case atStart => exact ⟨0, Nat.zero_le _, rfl, fun j hj => absurd hj (Nat.not_lt_zero _)⟩
  case round =>
    obtain ⟨k, hk, rfl, HF⟩ := hrel
    by_cases z : k < 13
    · have kz : decide ((k : Int) < 13) = true := decide_eq_true (by omega)
      have ix := fun w => ix_names X k z w
      have at' := Lib.hid (AT.out k z HF.out)
      have nx : Hid (¬ X k = s → ∀ j, j < k + 1 → ¬ X j = s) := fun e j hj => by
        rcases Nat.lt_or_ge j k with q | q
        · exact HF.out j q
        · obtain rfl : j = k := by omega
          exact e
      clear NO AT HF
      generalize X k = S at *
      by_cases e : S = s
      · obtain ⟨rfl, rfl⟩ := at'.out e
        subst e
        have eq : (S.toList == S.toList) = true := beq_self_eq_true _
        clear at' nx
        go_wp2
        go_ret2
        exact ⟨rfl, here w⟩
      · replace nx := Lib.hid (nx.out e)
        have ne : (S.toList == s.toList) = false := by rw [beq_eq_false_iff_ne, ByteArray.toList_eq, ByteArray.toList_eq]; exact fun x => e (ba_list x)
        clear at'
        go_wp2
        go_round
        case rel => exact ⟨k + 1, by omega, by go_num, nx⟩
        case measure => simp [intOf]; omega
    · have kz : decide ((k : Int) < 13) = false := decide_eq_false (by omega)
      obtain ⟨rfl, rfl⟩ := NO.out (fun j hj => HF.out j (by omega))
      clear NO AT HF
      go_wp2
      go_ret2
      exact ⟨rfl, here w⟩
/-- A list of 13 cells, filled as far as k. -/
structure Fil (w : World) (b k : Nat) : Prop where
  c : ∀ j, j < 13 → w.cell? ⟨b, j, none⟩ = some (.int .i64 (if j < k then (j : Int) else 0))
  f : ∀ j, j < 13 → w.frozen? ⟨b, j, none⟩ = false
  lt : b < w.heap.size
theorem Fil.put {w : World} {b k : Nat} (h : Fil w b k) (hk : k < 13) : Fil (w.setCell ⟨b, k, none⟩ (.int .i64 (k : Int))) b (k + 1) := by
  refine ⟨fun j hj => ?_, fun j hj => by rw [World.frozen?_setCell]; exact h.f j hj, by rw [size_set]; exact h.lt⟩
  by_cases e : j = k
  · subst e
    rw [World.cell?_setCell_same w _ _ (h.c j hj), if_pos (by omega)]
  · rw [World.cell?_setCell_other (h := by intro q; simp at q), h.c j hj]
    by_cases l : j < k
    · rw [if_pos l, if_pos (by omega)]
    · rw [if_neg l, if_neg (by omega)]
set_option maxRecDepth 100000 in
set_option maxHeartbeats 1000000 in
theorem uvall (w : World) (ht : Tabs w) :
    Calls Tryd.prog 17 #[] w fun e w' => (∃ v, e = .returned v ∧ IntS w.heap.size w' v [0, 1, 2, 3, 4, 5, 6, 7, 8, 9, 10, 11, 12]) ∧ Below w.heap.size w w' := by
  clear ht
  obtain ⟨i0, hi, hz0, hz1, hz2⟩ := info_parts infoInt
  go_enter Tryd.func17, Tryd.ntmps17
  go_wp2_with (at_make; refine wpList_make_full _ rfl _ _ 28 rfl w.heap.size 3 i0 (.int .i64 0) 1 Tryd.underlying28 hi hz0 hz1 .i64 .i64 13 13 13 rfl rfl rfl rfl ?b2 ?b3 ?b4 ?_)
  case b2 => rw [hz2]; decide
  case b3 => unfold maxLen; omega
  case b4 => exact Nat.le_refl _
  intro w1 hown hgrow
  have A1 : Hid (Below w.heap.size w w1) := (Below.refl _ _).grown hgrow (Nat.le_refl _) (by intro k hk; cases hk)
  have F1 : Hid (Fil w1 w.heap.size 0) := by
    refine ⟨fun j hj => ?_, fun j hj => hown.frozenAt j, (hown.lt _ rfl).2⟩
    rw [hown.cellAt j (by omega), if_neg (by omega)]
    unfold madeCells
    simp [hj, Nat.mod_one]
  clear hown hgrow
  go_wp2
  go_loopw [6] (fun i wr => ∃ k : Nat, k ≤ 13 ∧ i = .int .i64 k ∧ Hid (Fil wr w.heap.size k) ∧ Hid (Below w.heap.size w wr)) (fun i _ => 13 - (intOf i).toNat)
  case atStart => exact ⟨0, Nat.zero_le _, rfl, F1, A1⟩
  case round =>
    obtain ⟨k, hk, rfl, FL, A0⟩ := hrel
    clear F1 A1
    by_cases z : k < 13
    · have kz : decide ((k : Int) < 13) = true := decide_eq_true (by omega)
      have cc := FL.out.c k z
      have cf := FL.out.f k z
      have lt := FL.out.lt
      obtain ⟨u, hu⟩ : ∃ u : Int, (if k < k then (k : Int) else 0) = u := ⟨_, rfl⟩
      rw [hu] at cc
      clear hu
      obtain ⟨w2, hw2⟩ : ∃ w2 : World, wr.setCell ⟨w.heap.size, k, none⟩ (.int .i64 (k : Int)) = w2 := ⟨_, rfl⟩
      have F2 : Hid (Fil w2 w.heap.size (k + 1)) := by rw [← hw2]; exact FL.out.put z
      have A2 : Hid (Below w.heap.size w w2) := by rw [← hw2]; exact A0.out.setCell (Nat.le_refl _) _
      clear FL A0
      go_wp2
      go_roundw
      case rel => exact ⟨k + 1, by omega, by go_num, F2, A2⟩
      case measure => simp [intOf]; omega
    · have kz : decide ((k : Int) < 13) = false := decide_eq_false (by omega)
      obtain rfl : k = 13 := by omega
      have PL : Hid (IntS w.heap.size wr (.slice (some ⟨w.heap.size, 0, none⟩) 13 13) [0, 1, 2, 3, 4, 5, 6, 7, 8, 9, 10, 11, 12]) := by
        refine .inr ⟨w.heap.size, 0, 13, rfl, Nat.le_refl _, FL.out.lt, fun j u hj => ?_⟩
        have j13 : j < 13 := by
          rcases Nat.lt_or_ge j 13 with q | q
          · exact q
          · rw [List.getElem?_eq_none (by simpa using q)] at hj; cases hj
        rw [Nat.zero_add, FL.out.c j j13, if_pos j13, ← hj]
        match j, j13 with
        | 0, _ => rfl
        | 1, _ => rfl
        | 2, _ => rfl
        | 3, _ => rfl
        | 4, _ => rfl
        | 5, _ => rfl
        | 6, _ => rfl
        | 7, _ => rfl
        | 8, _ => rfl
        | 9, _ => rfl
        | 10, _ => rfl
        | 11, _ => rfl
        | 12, _ => rfl
      clear FL
      go_wp2
      go_ret
      exact ⟨⟨_, rfl, PL.out⟩, A0.out⟩
end Go.Proofs.YtknlhhjooamfhaaDoor
