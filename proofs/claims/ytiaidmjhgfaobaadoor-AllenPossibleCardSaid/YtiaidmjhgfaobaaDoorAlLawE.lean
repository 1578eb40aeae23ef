/- The walk of AllenPossible. -/
import Derived.Test.YtiaidmjhgfaobaaDoorAlAwakes
import Derived.BigQuiet
import Derived.Deep.QuietTactic
import Derived.Deep.RegionHeld3
import Derived.Deep.Cut
import Derived.Outline
namespace Go.Proofs.YtiaidmjhgfaobaaDoor
open Go.RowKit
set_option linter.unusedVariables false

set_option maxRecDepth 100000 in
set_option maxHeartbeats 4000000 in
theorem AllenPossible.walk (s a b lo hi : Int) (hs : (Lit.int .i64 s).wf = true) (ha : (Lit.int .i64 a).wf = true) (hb : (Lit.int .i64 b).wf = true) (hlo : (Lit.int .i64 lo).wf = true) (hhi : (Lit.int .i64 hi).wf = true) (w : World) (ht : Tabs w) :
    Calls Tryd.prog 7 #[.int .i64 s, .agg #[.int .i64 a, .int .i64 b], .int .i64 lo, .int .i64 hi] w fun e w' => e = .returned (.bool true) ∧ Below w.heap.size w w' := by
  replace hs := i64_wf hs
  replace ha := i64_wf ha
  replace hb := i64_wf hb
  replace hlo := i64_wf hlo
  replace hhi := i64_wf hhi
  have HP := fun w ht => uapossible s a b lo hi hs ha hb hlo hhi w ht
  have RP := fun w => rapossible s a b lo hi hs ha hb hlo hhi w
  have hln : Hid ((poL s a b lo hi).length ≤ 1099511627776) := by
    show _ ≤ _
    unfold poL
    split
    · rename_i g
      have g2 := g
      unfold poG at g2
      simp only [Bool.and_eq_true, decide_eq_true_eq] at g2
      have := poO_len s a b lo hi (by omega) (hi - lo).toNat
      omega
    · exact Nat.zero_le _
  generalize poL s a b lo hi = L at *
  clear hs ha hb hlo hhi
  have AW := Lib.hid (fun w ht => awake_all w ht)
  replace ht := Lib.hid ht
  go_enter Tryd.func7, Tryd.ntmps7
  go_wp2_with fail
  refine (AW.out _ (ht.out.below (grow (here w) _))).mono ?_
  rintro e w1 ⟨rfl, hb⟩
  have A1 := Lib.hid (down (grow (here w) _) hb)
  have X1 := Lib.hid (Two.new hb)
  clear hb
  obtain ⟨x1_0, x1_1, x1_z⟩ := X1.out
  go_wp2
  replace HP := Lib.hid (fun W' (q : Below w1.heap.size w1 W') => HP W' (ht.out.below (down A1.out q)))
  replace RP := Lib.hid (fun W' (q : Below w1.heap.size w1 W') => RP W')
  have mk : ∀ W', Below w1.heap.size w1 W' → Below w1.heap.size w1 W' ∧ W'.cell? ⟨w.heap.size, 0, none⟩ = some (.int .i64 (a)) ∧ W'.cell? ⟨w.heap.size, 1, none⟩ = some (.int .i64 (b)) := fun W' q => ⟨q, (X1.out.keep q).c0, (X1.out.keep q).c1⟩
  have s1 := mk w1 (here w1)
  go_region_held3 (fun W' => Below w1.heap.size w1 W' ∧ W'.cell? ⟨w.heap.size, 0, none⟩ = some (.int .i64 (a)) ∧ W'.cell? ⟨w.heap.size, 1, none⟩ = some (.int .i64 (b))) (first | assumption | (exact mk _ (grow (And.left (by assumption)) _)) | (exact mk _ (Below.drew (And.left (by assumption)))) | (exact mk _ (below_drewN (And.left (by assumption)) _)))
    (first
     | (go_at_call 32; (with_reducible refine (HP.out _ (And.left (by assumption))).mono ?_); rintro e w' ⟨⟨v, rfl, PM⟩, hb⟩; obtain ⟨vo, vc, rfl⟩ := Sl.shape PM; have hS := mk w' (down (And.left (by assumption)) hb))
     | (go_at_call 33; (with_reducible refine (RP.out _ (And.left (by assumption))).mono ?_); rintro e w' ⟨⟨u, rfl, PN⟩, hb⟩; replace PM := PM.keep hb; obtain ⟨uo, uc, rfl⟩ := Sl.shape PN; have hS := mk w' (down (And.left (by assumption)) hb))
     | (go_at_call 31; (refine (eq_pairs _ _ _ _ hln.out _ PM PN).mono ?_); rintro e w' ⟨rfl, nq, rfl⟩; rw [beq_self_eq_true]))
  all_goals
    go_wp2
    go_ret
    exact ⟨rfl, down A1.out (And.left (by assumption))⟩
end Go.Proofs.YtiaidmjhgfaobaaDoor
