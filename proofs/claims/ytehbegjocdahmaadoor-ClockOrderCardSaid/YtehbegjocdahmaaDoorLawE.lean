/- The walk of ClockOrder: the Go text returns true, at every input. -/
import Derived.Test.YtehbegjocdahmaaDoorAwakeM
import Derived.Test.YtehbegjocdahmaaDoorLawC
import Derived.Test.YtehbegjocdahmaaDoorShelfThree
namespace Go.Proofs.YtehbegjocdahmaaDoor
open Go.RowKit
set_option linter.unusedVariables false
namespace ClockOrder
set_option maxRecDepth 100000 in
set_option maxHeartbeats 2000000 in
theorem bad1 (n u : Int) (hn : I64 n) (hu : I64 u) (i : insB n = false) (N : Value) (E : Int) (HU : ∀ w, Calls Tryd.prog 25 #[.int .i64 u] w fun e w' => e = .returned (.tuple #[N, .int .i64 E]) ∧ Below w.heap.size w w') (x1 x2 x3 x4 x5 x6 : Int) (hN : N = .agg #[.int .i64 x1, .int .i64 x2, .int .i64 x3, .int .i64 x4, .int .i64 x5, .int .i64 x6]) (w : World) (hl : Listed w) :
    Calls Tryd.prog 7 #[.int .i64 n, .int .i64 u] w fun e w' => e = .returned (.bool true) ∧ Below w.heap.size w w' := by
  subst hN
  have HM := Lib.hid (fun w => kmom_no n hn i w)
  have HI := fun w => rins n hn w
  rw [i] at HI
  replace HI := Lib.hid HI
  replace HU := Lib.hid HU
  clear i hn hu
  replace hl := Lib.hid hl
  go_enter Tryd.func7, Tryd.ntmps7
  go_wp2_with fail
  refine (awake_all _ hl.out).mono ?_
  rintro e w0 ⟨rfl, A0⟩
  replace A0 := Lib.hid A0
  go_wp2_with fail
  refine (HM.out _).mono ?_
  rintro e w1 ⟨rfl, hb⟩
  have A1 := Lib.hid (down A0.out hb)
  clear hb A0
  go_wp2_with fail
  refine (HU.out _).mono ?_
  rintro e w2 ⟨rfl, hb⟩
  have A2 := Lib.hid (down (grow A1.out _) hb)
  clear hb A1
  go_wp2_with fail
  refine (HI.out _).mono ?_
  rintro e w3 ⟨rfl, rfl⟩
  go_wp2
  go_ret
  exact ⟨rfl, grow A2.out _⟩
set_option maxRecDepth 100000 in
set_option maxHeartbeats 2000000 in
theorem bad2 (n u a b c p q r : Int) (v : vld a b c = true) (t : vldT p q r = true) (e : 86400 * dayN a b c + secT p q r = n) (hn : I64 n) (hu : I64 u) (j : insB n = true) (i : insB u = false) (w : World) (hl : Listed w) :
    Calls Tryd.prog 7 #[.int .i64 n, .int .i64 u] w fun e w' => e = .returned (.bool true) ∧ Below w.heap.size w w' := by
  have HM := Lib.hid (fun w => kmom_yes n a b c p q r v t e w)
  have HU := Lib.hid (fun w => kmom_no u hu i w)
  have HI := fun w => rins n hn w
  rw [j] at HI
  replace HI := Lib.hid HI
  have HJ := fun w => rins u hu w
  rw [i] at HJ
  replace HJ := Lib.hid HJ
  clear i j hn hu v t e
  replace hl := Lib.hid hl
  go_enter Tryd.func7, Tryd.ntmps7
  go_wp2_with fail
  refine (awake_all _ hl.out).mono ?_
  rintro e w0 ⟨rfl, A0⟩
  replace A0 := Lib.hid A0
  go_wp2_with fail
  refine (HM.out _).mono ?_
  rintro e w1 ⟨rfl, hb⟩
  have A1 := Lib.hid (down A0.out hb)
  clear hb A0
  go_wp2_with fail
  refine (HU.out _).mono ?_
  rintro e w2 ⟨rfl, hb⟩
  have A2 := Lib.hid (down (grow A1.out _) hb)
  clear hb A1
  go_wp2_with fail
  refine (HI.out _).mono ?_
  rintro e w3 ⟨rfl, rfl⟩
  go_wp2_with fail
  refine (HJ.out _).mono ?_
  rintro e w3 ⟨rfl, rfl⟩
  go_wp2
  go_ret
  exact ⟨rfl, grow A2.out _⟩
set_option maxRecDepth 100000 in
set_option maxHeartbeats 2000000 in
theorem good (n u a b c p q r a2 b2 c2 p2 q2 r2 : Int) (v : vld a b c = true) (t : vldT p q r = true) (e : 86400 * dayN a b c + secT p q r = n) (v2 : vld a2 b2 c2 = true) (t2 : vldT p2 q2 r2 = true) (e2 : 86400 * dayN a2 b2 c2 + secT p2 q2 r2 = u) (less same : Bool) (h1 : decide (n < u) = less) (h2 : (n == u) = same) (w : World) (hl : Listed w) :
    Calls Tryd.prog 7 #[.int .i64 n, .int .i64 u] w fun e w' => e = .returned (.bool true) ∧ Below w.heap.size w w' := by
  have HM := Lib.hid (fun w => kmom_yes n a b c p q r v t e w)
  have HU := Lib.hid (fun w => kmom_yes u a2 b2 c2 p2 q2 r2 v2 t2 e2 w)
  have TA := fun w ht hp => ktext_good a b c p q r v t w ht hp
  have TB := fun w ht hp => ktext_good a2 b2 c2 p2 q2 r2 v2 t2 w ht hp
  have cmp := mtext_cmp v t v2 t2
  rw [e, e2, h1, h2] at cmp
  obtain ⟨z1, z2⟩ := mtext_size v t
  obtain ⟨SA, hSA⟩ : ∃ S : ByteArray, (⟨(textM a b c p q r).toArray⟩ : ByteArray) = S := ⟨_, rfl⟩
  obtain ⟨SB, hSB⟩ : ∃ S : ByteArray, (⟨(textM a2 b2 c2 p2 q2 r2).toArray⟩ : ByteArray) = S := ⟨_, rfl⟩
  have lA : textM a b c p q r = SA.data.toList := by rw [← hSA]
  have lB : textM a2 b2 c2 p2 q2 r2 = SB.data.toList := by rw [← hSB]
  rw [hSA] at TA
  rw [hSB] at TB
  rw [lA, lB, ← ByteArray.toList_eq, ← ByteArray.toList_eq] at cmp
  obtain ⟨f1, f2⟩ := cmp
  rw [lA] at z1 z2
  have hz : SA.size = 19 := by rw [← z1]; exact Array.length_toList.symm
  have HC := fun w => Tryd.strings_Count_one SA 58 w
  have hc : Lib.countByte SA.data.toList 58 = 2 := z2
  rw [hc] at HC
  replace HC := Lib.hid HC
  replace TA := Lib.hid TA
  replace TB := Lib.hid TB
  clear v t e v2 t2 e2 lA lB hSA hSB z1 z2 hc
  replace hl := Lib.hid hl
  go_enter Tryd.func7, Tryd.ntmps7
  go_wp2_with fail
  refine (awake_all _ hl.out).mono ?_
  rintro e w0 ⟨rfl, A0⟩
  replace A0 := Lib.hid A0
  go_wp2_with fail
  refine (HM.out _).mono ?_
  rintro e w1 ⟨rfl, hb⟩
  have A1 := Lib.hid (down A0.out hb)
  clear hb A0
  have A2 := Lib.hid (grow A1.out (.cells #[.int .i64 a, .int .i64 b, .int .i64 c, .int .i64 p, .int .i64 q, .int .i64 r] 44))
  have S2 := Lib.hid (Six.new (here (w1.alloc (.cells #[.int .i64 a, .int .i64 b, .int .i64 c, .int .i64 p, .int .i64 q, .int .i64 r] 44))))
  obtain ⟨w2, hw2⟩ : ∃ w2, w1.alloc (.cells #[.int .i64 a, .int .i64 b, .int .i64 c, .int .i64 p, .int .i64 q, .int .i64 r] 44) = w2 := ⟨_, rfl⟩
  rw [hw2] at A2 S2
  clear A1
  go_wp2_with fail
  clear hw2
  refine (HU.out _).mono ?_
  rintro e w3 ⟨rfl, hb⟩
  have A3 := Lib.hid (down A2.out hb)
  have S3 := Lib.hid (S2.out.keep hb)
  clear hb A2 S2
  have A4 := Lib.hid (grow A3.out (.cells #[.int .i64 a2, .int .i64 b2, .int .i64 c2, .int .i64 p2, .int .i64 q2, .int .i64 r2] 44))
  have S4 := Lib.hid (S3.out.old (.cells #[.int .i64 a2, .int .i64 b2, .int .i64 c2, .int .i64 p2, .int .i64 q2, .int .i64 r2] 44))
  have N4 := Lib.hid (Six.new (here (w3.alloc (.cells #[.int .i64 a2, .int .i64 b2, .int .i64 c2, .int .i64 p2, .int .i64 q2, .int .i64 r2] 44))))
  obtain ⟨w4, hw4⟩ : ∃ w4, w3.alloc (.cells #[.int .i64 a2, .int .i64 b2, .int .i64 c2, .int .i64 p2, .int .i64 q2, .int .i64 r2] 44) = w4 := ⟨_, rfl⟩
  rw [hw4] at A4 S4 N4
  clear A3 S3
  have HPL : Hid (∀ x : Kept w4, Listed x.wd) := fun x => hl.out.keep (down A4.out x.ok)
  have k0 : ∀ x : Kept w4, x.wd.cell? ⟨w1.heap.size, 0, none⟩ = some (.int .i64 a) := fun x => (S4.out.keep x.ok).c0
  have k1 : ∀ x : Kept w4, x.wd.cell? ⟨w1.heap.size, 1, none⟩ = some (.int .i64 b) := fun x => (S4.out.keep x.ok).c1
  have k2 : ∀ x : Kept w4, x.wd.cell? ⟨w1.heap.size, 2, none⟩ = some (.int .i64 c) := fun x => (S4.out.keep x.ok).c2
  have k3 : ∀ x : Kept w4, x.wd.cell? ⟨w1.heap.size, 3, none⟩ = some (.int .i64 p) := fun x => (S4.out.keep x.ok).c3
  have k4 : ∀ x : Kept w4, x.wd.cell? ⟨w1.heap.size, 4, none⟩ = some (.int .i64 q) := fun x => (S4.out.keep x.ok).c4
  have k5 : ∀ x : Kept w4, x.wd.cell? ⟨w1.heap.size, 5, none⟩ = some (.int .i64 r) := fun x => (S4.out.keep x.ok).c5
  have l0 : ∀ x : Kept w4, x.wd.cell? ⟨w3.heap.size, 0, none⟩ = some (.int .i64 a2) := fun x => (N4.out.keep x.ok).c0
  have l1 : ∀ x : Kept w4, x.wd.cell? ⟨w3.heap.size, 1, none⟩ = some (.int .i64 b2) := fun x => (N4.out.keep x.ok).c1
  have l2 : ∀ x : Kept w4, x.wd.cell? ⟨w3.heap.size, 2, none⟩ = some (.int .i64 c2) := fun x => (N4.out.keep x.ok).c2
  have l3 : ∀ x : Kept w4, x.wd.cell? ⟨w3.heap.size, 3, none⟩ = some (.int .i64 p2) := fun x => (N4.out.keep x.ok).c3
  have l4 : ∀ x : Kept w4, x.wd.cell? ⟨w3.heap.size, 4, none⟩ = some (.int .i64 q2) := fun x => (N4.out.keep x.ok).c4
  have l5 : ∀ x : Kept w4, x.wd.cell? ⟨w3.heap.size, 5, none⟩ = some (.int .i64 r2) := fun x => (N4.out.keep x.ok).c5
  go_wp2
  clear hw4
  refine wp_region_kept (by kernel_rfl) (by kernel_rfl) ?_
  repeat (go_big_quiet_step (first
    | (go_at_call 30; (with_reducible exact kept_call _ (TA.out _ (HPL.out _).lens (HPL.out _).tab)))
    | (go_at_call 30; exact kept_call _ (TB.out _ (HPL.out _).lens (HPL.out _).tab))))
  refine wpQuiet_nil ?_
  intro w5 hx
  obtain ⟨⟨x5, hb5⟩, hw⟩ := hx
  replace hw : w5 = x5 := hw
  subst x5
  have A5 := Lib.hid (down A4.out hb5)
  clear hb5 k0 k1 k2 k3 k4 k5 l0 l1 l2 l3 l4 l5 A4 S4 N4 HPL
  cases less <;> cases same
  all_goals
    go_wp2_with fail
    refine (HC.out _).mono ?_
    rintro e w6 ⟨rfl, rfl⟩
    go_wp2
    go_ret
    exact ⟨rfl, A5.out⟩
theorem walk (n u : Int) (hn : (Lit.int .i64 n).wf = true) (hu : (Lit.int .i64 u).wf = true) (w : World) (hl : Listed w) :
    Calls Tryd.prog 7 #[.int .i64 n, .int .i64 u] w fun e w' => e = .returned (.bool true) ∧ Below w.heap.size w w' := by
  replace hn := i64_wf hn
  replace hu := i64_wf hu
  cases i : insB n
  · cases j : insB u
    · exact bad1 n u hn hu i _ 2 (fun w => kmom_no u hu j w) 0 0 0 0 0 0 rfl w hl
    · obtain ⟨a2, b2, c2, p2, q2, r2, v2, t2, e2⟩ := ins_moment j
      exact bad1 n u hn hu i _ 0 (fun w => kmom_yes u a2 b2 c2 p2 q2 r2 v2 t2 e2 w) a2 b2 c2 p2 q2 r2 rfl w hl
  · obtain ⟨a, b, c, p, q, r, v, t, e⟩ := ins_moment i
    cases j : insB u
    · exact bad2 n u a b c p q r v t e hn hu i j w hl
    · obtain ⟨a2, b2, c2, p2, q2, r2, v2, t2, e2⟩ := ins_moment j
      exact good n u a b c p q r a2 b2 c2 p2 q2 r2 v t e v2 t2 e2 _ _ rfl rfl w hl
end ClockOrder
end Go.Proofs.YtehbegjocdahmaaDoor
