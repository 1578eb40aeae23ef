/- The examples of the chapter: what the statements ask first; both sides' dates and anniversaries. -/
import Derived.Test.YtpkkhkkanpcniaaHeU
namespace Go.Proofs.Ytpkkhkkanpcniaa
open Go.RowKit
set_option linter.unusedVariables false

set_option maxRecDepth 100000 in
set_option maxHeartbeats 2000000 in
theorem awake_all (w : World) (ht : Tabs w) :
    Calls Try.prog 14 #[] w fun e w' => e = .returned (.bool true) ∧ Below w.heap.size w w' := by
  have H1 := fun w ht => uhnew 5786 ⟨by decide, by decide⟩ w ht
  rw [show hnwN 5786 = 20354 by decide +kernel, show hyE 5786 = 0 by decide +kernel] at H1
  have H2 := fun w ht => uhday 5786 1 15 ⟨by decide, by decide⟩ ⟨by decide, by decide⟩ ⟨by decide, by decide⟩ w ht
  rw [show hdN 5786 1 15 = 20545 by decide +kernel, show hdE 5786 1 15 = 0 by decide +kernel] at H2
  have H3 := fun w ht => uhyl 5786 ⟨by decide, by decide⟩ w ht
  rw [show hylN 5786 = 354 by decide +kernel] at H3
  replace H1 := Lib.hid H1
  replace H2 := Lib.hid H2
  replace H3 := Lib.hid H3
  replace ht := Lib.hid ht
  go_enter Try.func14, Try.ntmps14
  go_wp2_with fail
  refine (H1.out _ (ht.out.below (here w))).mono ?_
  rintro e w1 ⟨rfl, hb⟩
  have A1 := Lib.hid (down (here w) hb)
  clear hb
  go_wp2_with fail
  refine (H2.out _ (ht.out.below A1.out)).mono ?_
  rintro e w2 ⟨rfl, hb⟩
  have A2 := Lib.hid (down A1.out hb)
  clear hb A1
  go_wp2_with fail
  refine (H3.out _ (ht.out.below A2.out)).mono ?_
  rintro e w3 ⟨rfl, hb⟩
  have A3 := Lib.hid (down A2.out hb)
  clear hb A2
  go_wp2
  go_ret
  exact ⟨rfl, by first | exact A3.out | exact grow A3.out _ | exact below_drewN A3.out _ | exact grow (grow A3.out _) _ | exact grow (grow (grow A3.out _) _) _⟩
theorem Box.fst {w w' : World} {o : Obj} {x y z : Value} {t : TypeId} (hb : Below ((w.alloc (.cells #[x, y, z] t)).alloc o).heap.size ((w.alloc (.cells #[x, y, z] t)).alloc o) w') : Box w' w.heap.size x y z :=
  ((Box.new (here (w.alloc (.cells #[x, y, z] t)))).old o).keep hb
theorem hins_date {n : Int} (h : hins n = true) : ∃ y m d, hvld y m d = true ∧ hday y m d = n := by
  have := hins_iff.1 h
  exact hdate_of (by rw [hN_first]; omega) (by rw [hN_last]; omega)
/-- Both sides' dates. -/
theorem both_date (n : Int) (hn : I64 n) : ∃ a b c E : Int,
    (∀ w, Tabs w → Calls Try.prog 32 #[.int .i64 n] w fun e w' => e = .returned (.tuple #[.agg #[.int .i64 a, .int .i64 b, .int .i64 c], .int .i64 E]) ∧ Below w.heap.size w w') ∧
    (∀ w, Calls Try.prog 33 #[.int .i64 n] w fun e w' => e = .returned (.tuple #[.agg #[.int .i64 a, .int .i64 b, .int .i64 c], .int .i64 E]) ∧ Below w.heap.size w w') := by
  cases h : hins n
  · exact ⟨_, _, _, _, fun w ht => uhdate_out n hn h w ht, fun w => rhdate_out n hn h w⟩
  · obtain ⟨y, m, d, hv, he⟩ := hins_date h
    exact ⟨_, _, _, _, fun w ht => uhdate_yes n y m d h hv he w ht, fun w => rhdate_yes n y m d h hv he w⟩
theorem both_ann (y m d g : Int) (hy : I64 y) (hm : I64 m) (hd : I64 d) (hg : I64 g) : ∃ a b c E : Int,
    (∀ w, Tabs w → Calls Try.prog 34 #[.agg #[.int .i64 y, .int .i64 m, .int .i64 d], .int .i64 g] w fun e w' => e = .returned (.tuple #[.agg #[.int .i64 a, .int .i64 b, .int .i64 c], .int .i64 E]) ∧ Below w.heap.size w w') ∧
    (∀ w, Calls Try.prog 35 #[.agg #[.int .i64 y, .int .i64 m, .int .i64 d], .int .i64 g] w fun e w' => e = .returned (.tuple #[.agg #[.int .i64 a, .int .i64 b, .int .i64 c], .int .i64 E]) ∧ Below w.heap.size w w') := by
  rcases hann_cases y m d g with h | ⟨h, h2, Y, M, D, hv, hn⟩
  · exact ⟨_, _, _, _, fun w ht => uhann_bad y m d g hy hm hd hg h w ht, fun w => rhann_bad y m d g hy hm hd hg h w⟩
  · exact ⟨_, _, _, _, fun w ht => uhann_yes y m d g Y M D h h2 hv hn w ht, fun w => rhann_yes y m d g Y M D h h2 hv hn w⟩
theorem hday_fate (y m d : Int) : hdE y m d = 2 ∧ hok y m d = false ∨ hdE y m d = 0 ∧ hvld y m d = true ∧ hins (hday y m d) = true ∧ hdN y m d = hday y m d := by
  cases h : hok y m d
  · left; unfold hdE; rw [h]; exact ⟨rfl, rfl⟩
  · right
    have q := h
    unfold hok at q
    rw [Bool.and_eq_true] at q
    unfold hdE hdN
    rw [h]
    exact ⟨rfl, q.1, q.2, rfl⟩
end Go.Proofs.Ytpkkhkkanpcniaa
