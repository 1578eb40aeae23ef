/- Law 13: awake. -/
import Derived.Test.YtaikeclfmmnelaaQGI
import Derived.Deep.RegionWith
namespace Go.Proofs.Ytaikeclfmmnelaa

open Go.RowKit

set_option linter.unusedVariables false

set_option maxRecDepth 100000 in
set_option maxHeartbeats 40000000 in
theorem rpawake (w : World) :
    Calls Try.prog 12 #[] w fun e w' => e = .returned (.bool true) ∧ Below w.heap.size w w' := by
  have I1 : I64 14 := ⟨by decide, by decide⟩
  have I2 : I64 2 := ⟨by decide, by decide⟩
  have I3 : I64 3 := ⟨by decide, by decide⟩
  have HO : Hid (∀ W v, PairS 0 W v [(0, 2), (7, 9)] → Calls Try.prog 20 #[.int .i64 14, v] W fun e w' => (∃ v', e = .returned (.tuple #[.agg #[.int .i64 7, v'], .int .i64 0]) ∧ PairS W.heap.size w' v' [(0, 2)]) ∧ Below W.heap.size W w') := fun W v h => by
    have := upof v 14 [(0, 2), (7, 9)] (by decide) I1 W h
    rw [aw_of] at this
    exact this
  have HU : Hid (∀ W v1 v2, PairS 0 W v1 [(0, 1)] → PairS 0 W v2 [(0, 1)] → Calls Try.prog 24 #[.agg #[.int .i64 2, v1], .agg #[.int .i64 3, v2]] W fun e w' => (∃ v', e = .returned (.tuple #[.agg #[.int .i64 6, v'], .int .i64 0]) ∧ PairS W.heap.size w' v' [(0, 1), (2, 5)]) ∧ Below W.heap.size W w') := fun W v1 v2 h1 h2 => by
    have := upunion v1 v2 2 3 [(0, 1)] [(0, 1)] (by decide) (by decide) I2 I3 W h1 h2
    rw [aw_un] at this
    exact this
  have HE1 : Hid (∀ W v1 v2, PairS 0 W v1 [(0, 2)] → PairS 0 W v2 [(0, 2)] → Calls Try.prog 19 #[.agg #[.int .i64 7, v1], .agg #[.int .i64 7, v2]] W fun e w' => e = .returned (.bool true) ∧ Below W.heap.size W w') := fun W v1 v2 h1 h2 => by
    have := rpequal v1 v2 7 7 [(0, 2)] [(0, 2)] (by decide) (by decide) W h1 h2
    simpa using this
  have HE2 : Hid (∀ W v1 v2, PairS 0 W v1 [(0, 1), (2, 5)] → PairS 0 W v2 [(0, 1), (2, 5)] → Calls Try.prog 19 #[.agg #[.int .i64 6, v1], .agg #[.int .i64 6, v2]] W fun e w' => e = .returned (.bool true) ∧ Below W.heap.size W w') := fun W v1 v2 h1 h2 => by
    have := rpequal v1 v2 6 6 [(0, 1), (2, 5)] [(0, 1), (2, 5)] (by decide) (by decide) W h1 h2
    simpa using this
  clear I1 I2 I3
  go_enter Try.func12, Try.ntmps12
  go_wp2_with fail
  refine (HO.out _ _ (prs_lit2 w 0 2 7 9)).mono ?_
  rintro e w1 ⟨⟨v1, rfl, P1⟩, hb⟩
  have A1 := Lib.hid (down (grow (here w) _) hb)
  obtain ⟨o1, c1, rfl⟩ := Sl.shape P1
  replace P1 : Hid (PairS 0 w1 (.slice o1 1 c1) [(0, 2)]) := Sl.weak P1 (Nat.zero_le _)
  clear hb HO
  have T1 := Lib.hid (Two.new (t := 24) (x := .int .i64 7) (y := .slice o1 1 c1) (here (w1.alloc (.cells #[.int .i64 7, .slice o1 1 c1] 24))))
  have A2 := Lib.hid (grow A1.out (.cells #[.int .i64 7, .slice o1 1 c1] 24))
  have P2 := Lib.hid (P1.out.keep (grow (here w1) (.cells #[.int .i64 7, .slice o1 1 c1] 24)))
  go_wp2_with fail
  have L1 := prs_lit1 (w1.alloc (.cells #[.int .i64 7, .slice o1 1 c1] 24)) 0 1
  rw [size_two w1] at L1
  refine (rset 2 _ 1 1 _).mono ?_
  rintro e w2 ⟨rfl, hb⟩
  have B2 := Lib.hid (down (grow (here (w1.alloc (.cells #[.int .i64 7, .slice o1 1 c1] 24))) _) hb)
  have A3 := Lib.hid (down A2.out B2.out)
  have Q1 := Lib.hid (L1.keep hb)
  replace T1 := Lib.hid (T1.out.keep B2.out)
  replace P2 := Lib.hid (P2.out.keep B2.out)
  clear hb L1 A1 A2 P1 B2
  go_wp2_with fail
  have L2 := prs_lit1 w2 0 1
  refine (rset 3 _ 1 1 _).mono ?_
  rintro e w3 ⟨rfl, hb⟩
  have B3 := Lib.hid (down (grow (here w2) _) hb)
  have A4 := Lib.hid (down A3.out B3.out)
  replace Q1 := Lib.hid (Q1.out.keep B3.out)
  have Q2 := Lib.hid (L2.keep hb)
  replace T1 := Lib.hid (T1.out.keep B3.out)
  replace P2 := Lib.hid (P2.out.keep B3.out)
  clear hb L2 A3 B3
  go_wp2_with fail
  refine (HU.out _ _ _ Q1.out Q2.out).mono ?_
  rintro e w4 ⟨⟨v4, rfl, P4⟩, hb⟩
  have A5 := Lib.hid (down A4.out hb)
  obtain ⟨o4, c4, rfl⟩ := Sl.shape P4
  replace P4 : Hid (PairS 0 w4 (.slice o4 2 c4) [(0, 1), (2, 5)]) := Sl.weak P4 (Nat.zero_le _)
  replace T1 := Lib.hid (T1.out.keep hb)
  replace P2 := Lib.hid (P2.out.keep hb)
  clear hb A4 Q1 Q2 HU
  have gb := grow (here w4) (.cells #[.int .i64 6, .slice o4 2 c4] 24)
  have T2 := Lib.hid (Two.new (t := 24) (x := .int .i64 6) (y := .slice o4 2 c4) (here (w4.alloc (.cells #[.int .i64 6, .slice o4 2 c4] 24))))
  have A6 := Lib.hid (grow A5.out (.cells #[.int .i64 6, .slice o4 2 c4] 24))
  replace T1 := Lib.hid (T1.out.keep gb)
  replace P2 := Lib.hid (P2.out.keep gb)
  replace P4 := Lib.hid (P4.out.keep gb)
  clear gb A5
  go_wp2
  generalize (w4.alloc (.cells #[.int .i64 6, .slice o4 2 c4] 24)) = w5 at *
  have t0 := T1.out.c0
  have t1 := T1.out.c1
  have tl := T1.out.lt
  have u0 := T2.out.c0
  have u1 := T2.out.c1
  have ul := T2.out.lt
  go_region_with (first
    | (go_at_call 43; (with_reducible refine (rset 7 _ 1 1 _).mono ?_); rintro e w6 ⟨rfl, hb⟩; have B6 := Lib.hid (down (Below.drew (grow (here w5) _)) hb); have M6 := Lib.hid (((prs_lit1 w5 0 2).keep (Below.drew (here _))).keep hb); have t0 := (T1.out.keep B6.out).c0; have t1 := (T1.out.keep B6.out).c1; have tl := (T1.out.keep B6.out).lt; have u0 := (T2.out.keep B6.out).c0; have u1 := (T2.out.keep B6.out).c1; have ul := (T2.out.keep B6.out).lt; clear hb)
    | (go_at_call 19; (with_reducible refine (HE1.out _ _ _ (P2.out.keep B6.out) M6.out).mono ?_); rintro e w7 ⟨rfl, hb⟩; have B7 := Lib.hid (down B6.out hb); have t0 := (T1.out.keep B7.out).c0; have t1 := (T1.out.keep B7.out).c1; have tl := (T1.out.keep B7.out).lt; have u0 := (T2.out.keep B7.out).c0; have u1 := (T2.out.keep B7.out).c1; have ul := (T2.out.keep B7.out).lt; clear hb)
    | (go_at_call 43; (with_reducible refine (rset 6 _ 2 2 _).mono ?_); rintro e w8 ⟨rfl, hb⟩; have B8 := Lib.hid (down (grow B7.out _) hb); have M8 := Lib.hid ((prs_lit2 w7 0 1 2 5).keep hb); have u0 := (T2.out.keep B8.out).c0; have u1 := (T2.out.keep B8.out).c1; have ul := (T2.out.keep B8.out).lt; clear hb)
    | (go_at_call 19; (with_reducible refine (HE2.out _ _ _ (P4.out.keep B8.out) M8.out).mono ?_); rintro e w9 ⟨rfl, hb⟩; have B9 := Lib.hid (down A6.out (down B8.out hb)); clear hb))
  all_goals
    go_wp2
    go_ret
    exact ⟨rfl, B9.out⟩
end Go.Proofs.Ytaikeclfmmnelaa
