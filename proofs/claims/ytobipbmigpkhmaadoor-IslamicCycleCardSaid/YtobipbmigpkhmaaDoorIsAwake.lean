/- The examples of the chapter: what the statements ask first; both sides' dates. -/
import Derived.Test.YtobipbmigpkhmaaDoorIsU
namespace Go.Proofs.YtobipbmigpkhmaaDoor
open Go.RowKit
set_option linter.unusedVariables false

set_option maxRecDepth 100000 in
set_option maxHeartbeats 2000000 in
theorem awake_all (w : World) (ht : Tabs w) :
    Calls Tryd.prog 12 #[] w fun e w' => e = .returned (.bool true) ∧ Below w.heap.size w w' := by
  have H1 := fun w ht => uinew 1 1445 ⟨by decide, by decide⟩ ⟨by decide, by decide⟩ w ht
  rw [show inewN 1 1445 = 19557 by decide +kernel, show inewE 1 1445 = 0 by decide +kernel] at H1
  have H2 := fun w ht => uiday 1 1445 9 1 ⟨by decide, by decide⟩ ⟨by decide, by decide⟩ ⟨by decide, by decide⟩ ⟨by decide, by decide⟩ w ht
  rw [show idN 1 1445 9 1 = 19793 by decide +kernel, show idE 1 1445 9 1 = 0 by decide +kernel] at H2
  have H3 := Lib.hid (fun w ht => uidate_yes 1 19793 1445 9 1 (by decide +kernel) (by decide +kernel) w ht)
  have H4 := fun w ht => uileap 1 1445 ⟨by decide, by decide⟩ ⟨by decide, by decide⟩ w ht
  rw [show ileapB 1 1445 = true by decide +kernel] at H4
  replace H1 := Lib.hid H1
  replace H2 := Lib.hid H2
  replace H4 := Lib.hid H4
  replace ht := Lib.hid ht
  go_enter Tryd.func12, Tryd.ntmps12
  go_wp2_with fail
  refine (H1.out _ (ht.out.below (here w))).mono ?_
  rintro e w1 ⟨rfl, hb⟩
  have A1 := Lib.hid (down (here w) hb)
  clear hb
  go_wp2_with fail
  refine (H2.out _ (ht.out.below A1.out)).mono ?_
  rintro e w2 ⟨rfl, hb⟩
  have A2 := Lib.hid (down A1.out hb)
  clear hb A1
  go_wp2_with fail
  refine (H3.out _ (ht.out.below A2.out)).mono ?_
  rintro e w3 ⟨rfl, hb⟩
  have A3 := Lib.hid (down A2.out hb)
  clear hb A2
  go_wp2_with fail
  refine (H4.out _ (ht.out.below (grow A3.out _))).mono ?_
  rintro e w4 ⟨rfl, hb⟩
  have A4 := Lib.hid (down (grow A3.out _) hb)
  have X4 := Lib.hid (Box.new hb)
  clear hb A3
  obtain ⟨x4_0, x4_1, x4_2, x4_z⟩ := X4.out
  go_wp2
  go_ret
  exact ⟨rfl, by first | exact A4.out | exact grow A4.out _ | exact below_drewN A4.out _ | exact grow (grow A4.out _) _ | exact grow (grow (grow A4.out _) _) _⟩
theorem Box.fst {w w' : World} {o : Obj} {x y z : Value} {t : TypeId} (hb : Below ((w.alloc (.cells #[x, y, z] t)).alloc o).heap.size ((w.alloc (.cells #[x, y, z] t)).alloc o) w') : Box w' w.heap.size x y z :=
  ((Box.new (here (w.alloc (.cells #[x, y, z] t)))).old o).keep hb
/-- Both sides' dates. -/
theorem both_date (k n : Int) (hk : I64 k) (hn : I64 n) : ∃ a b c E : Int,
    (∀ w, Tabs w → Calls Tryd.prog 25 #[.int .i64 k, .int .i64 n] w fun e w' => e = .returned (.tuple #[.agg #[.int .i64 a, .int .i64 b, .int .i64 c], .int .i64 E]) ∧ Below w.heap.size w w') ∧
    (∀ w, Calls Tryd.prog 26 #[.int .i64 k, .int .i64 n] w fun e w' => e = .returned (.tuple #[.agg #[.int .i64 a, .int .i64 b, .int .i64 c], .int .i64 E]) ∧ Below w.heap.size w w') := by
  cases h : ikd k
  · exact ⟨_, _, _, _, fun w ht => uidate_kind k n hk hn h w ht, fun w => ridate_kind k n hk hn h w⟩
  · by_cases r : n < -492148 ∨ 2909772 ≤ n
    · exact ⟨_, _, _, _, fun w ht => uidate_out k n hn h r w ht, fun w => ridate_out k n hn h r w⟩
    · obtain ⟨k0, k1⟩ := ikd_iff.1 h
      obtain ⟨y, m, d, hv, he⟩ := idate_of (n := n) k0 k1 (by omega) (by omega)
      exact ⟨_, _, _, _, fun w ht => uidate_yes k n y m d hv he w ht, fun w => ridate_yes k n y m d hv he w⟩
end Go.Proofs.YtobipbmigpkhmaaDoor
