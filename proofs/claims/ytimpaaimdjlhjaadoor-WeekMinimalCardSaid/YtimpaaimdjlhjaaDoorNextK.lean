/- The walks of WeekNext and WeekMinimal: the Go text returns true, at every input. -/
import Derived.Test.YtimpaaimdjlhjaaDoorAwakeW
namespace Go.Proofs.YtimpaaimdjlhjaaDoor
open Go.RowKit
set_option linter.unusedVariables false

/-- A day has a date of weeks or Of returns an error. -/
theorem of_fate (F M n : Int) (hF : I64 F) (hM : I64 M) (hn : I64 n) : (∃ a b c E : Int, E ≠ 0 ∧
    ∀ w, Lens w → Calls Tryd.prog 13 #[.agg #[.int .i64 F, .int .i64 M], .int .i64 n] w fun e w' => e = .returned (.tuple #[.agg #[.int .i64 a, .int .i64 b, .int .i64 c], .int .i64 E]) ∧ Below w.heap.size w w') ∨
    (rulB F M = true ∧ -719162 ≤ n ∧ n < 2932897 ∧ ∃ Y, InY F M n Y) := by
  rcases ofE_cases F M n with ⟨h, -⟩ | ⟨h, -, k, q⟩ | ⟨h, -, r0, r1, Y, k⟩
  · exact .inl ⟨_, _, _, _, by decide, fun w ht => kOf_arg F M n hF hM h w⟩
  · rcases k with k | ⟨r, k⟩
    · exact .inl ⟨_, _, _, _, by decide, fun w ht => kOf_no F M n h hn (by omega) w⟩
    · exact .inl ⟨_, _, _, _, by decide, fun w ht => kOf_out F M n h k r.1 r.2 w ht⟩
  · exact .inr ⟨h, r0, r1, Y, k⟩
namespace WeekNext
set_option maxRecDepth 100000 in
theorem far (F M n : Int) (hn : I64 n) (k : n < -719171 ∨ 2932906 < n) (w : World) (ht : Lens w) :
    Calls Tryd.prog 9 #[.agg #[.int .i64 F, .int .i64 M], .int .i64 n] w fun e w' => e = .returned (.bool true) ∧ Below w.heap.size w w' := by
  obtain ⟨h0, h1⟩ := hn
  replace ht := Lib.hid ht
  go_enter Tryd.func9, Tryd.ntmps9
  go_wp2_with fail
  refine (awake_all _ (lens_alloc ht.out _)).mono ?_
  rintro e w1 ⟨rfl, hb⟩
  have A1 := Lib.hid (down (grow (here w) _) hb)
  clear hb
  rcases k with k | k
  · have k1 : decide (n < -719171) = true := decide_eq_true k
    go_wp2
    go_ret
    exact ⟨rfl, A1.out⟩
  · have k1 : decide (n < -719171) = false := decide_eq_false (by omega)
    have k2 : decide (2932906 < n) = true := decide_eq_true k
    go_wp2
    go_ret
    exact ⟨rfl, A1.out⟩
/-- One of the two days has no date of weeks. -/
theorem none (F M n a b c E a' b' c' G : Int) (k0 : -719171 ≤ n) (k1 : n ≤ 2932906) (hE : E ≠ 0 ∨ G ≠ 0)
    (HX : ∀ w, Lens w → Calls Tryd.prog 13 #[.agg #[.int .i64 F, .int .i64 M], .int .i64 n] w fun e w' => e = .returned (.tuple #[.agg #[.int .i64 a, .int .i64 b, .int .i64 c], .int .i64 E]) ∧ Below w.heap.size w w')
    (HY : ∀ w, Lens w → Calls Tryd.prog 13 #[.agg #[.int .i64 F, .int .i64 M], .int .i64 (n + 1)] w fun e w' => e = .returned (.tuple #[.agg #[.int .i64 a', .int .i64 b', .int .i64 c'], .int .i64 G]) ∧ Below w.heap.size w w') (w : World) (ht : Lens w) :
    Calls Tryd.prog 9 #[.agg #[.int .i64 F, .int .i64 M], .int .i64 n] w fun e w' => e = .returned (.bool true) ∧ Below w.heap.size w w' := by
  replace HX := Lib.hid HX
  replace HY := Lib.hid HY
  replace ht := Lib.hid ht
  have q1 : decide (n < -719171) = false := decide_eq_false (by omega)
  have q2 : decide (2932906 < n) = false := decide_eq_false (by omega)
  obtain ⟨x, hx⟩ : ∃ x, (E != 0) = x := ⟨_, rfl⟩
  obtain ⟨y, hy⟩ : ∃ x, (G != 0) = x := ⟨_, rfl⟩
  have t : (x || y) = true := by subst hx; subst hy; simpa using hE
  clear hE
  cases x <;> cases y <;> (try cases t)
  all_goals
    go_enter Tryd.func9, Tryd.ntmps9
    go_wp2_with fail
    refine (awake_all _ (lens_alloc ht.out _)).mono ?_
    rintro e w1 ⟨rfl, hb⟩
    have A1 := Lib.hid (down (grow (here w) _) hb)
    have R1 := Lib.hid (Two.new hb)
    clear hb
    obtain ⟨c0, c1, z⟩ := R1.out
    go_wp2_with fail
    refine (HX.out _ (lens_below ht.out A1.out)).mono ?_
    rintro e w2 ⟨rfl, hb⟩
    have A2 := Lib.hid (down A1.out hb)
    have R2 := Lib.hid (R1.out.keep hb)
    clear hb A1 R1 c0 c1 z
    obtain ⟨c0, c1, z⟩ := R2.out
    go_wp2_with fail
    refine (HY.out _ (lens_below ht.out (grow A2.out _))).mono ?_
    rintro e w3 ⟨rfl, hb⟩
    have A3 := Lib.hid (down (grow A2.out _) hb)
    clear hb A2 R2 c0 c1 z
    go_wp2
    go_ret
    exact ⟨rfl, grow A3.out _⟩
set_option maxRecDepth 100000 in
set_option maxHeartbeats 4000000 in
theorem both (F M n Y Z : Int) (h : rulB F M = true) (k : InY F M n Y) (l : InY F M (n + 1) Z) (r0 : -719162 ≤ n) (r1 : n + 1 < 2932897) (w : World) (ht : Lens w) :
    Calls Tryd.prog 9 #[.agg #[.int .i64 F, .int .i64 M], .int .i64 n] w fun e w' => e = .returned (.bool true) ∧ Below w.heap.size w w' := by
  obtain ⟨f0, f1, m0, m1⟩ := rulB_iff.1 h
  have HX := Lib.hid (fun w ht => kOf_in F M n Y h k r0 (by omega) w ht)
  have HY := Lib.hid (fun w ht => kOf_in F M (n + 1) Z h l (by omega) r1 w ht)
  obtain ⟨y0, y1, lo, hi⟩ := k
  have HN := Lib.hid (fun w ht => kWeeks_yes F M Y h y0 y1 w ht)
  have HS := Lib.hid (fun w ht => kStart_yes F M Y h y0 y1 w ht)
  obtain ⟨x1, x2, x3, x4⟩ := wk_next f0 f1 m0 m1 ⟨y0, y1, lo, hi⟩ l
  obtain ⟨e1, e2⟩ := wkN_in (F := F) m0 m1 y0 y1
  have sb := wkS_bd (F := F) m0 m1 y0 (show Y ≤ 10000 by omega)
  have wb := (wk_back f0 f1 m0 m1 ⟨y0, y1, lo, hi⟩).2
  have db := wdy_bd n
  have db' := wdy_bd (n + 1)
  have z0 := l.y0
  have z1 := l.y1
  rw [e1] at hi
  clear l
  generalize wkW F M n Y = W at *
  generalize wkW F M (n + 1) Z = W' at *
  generalize wdy n = D at *
  generalize wdy (n + 1) = D' at *
  generalize wkN F M Y = K at *
  generalize wkS F M (Y + 1) = s' at *
  generalize wkS F M Y = s at *
  clear e1 h
  obtain ⟨sb0, sb1⟩ := sb
  obtain ⟨wb0, wb1⟩ := wb
  obtain ⟨db0, db1⟩ := db
  replace ht := Lib.hid ht
  have q1 : decide (n < -719171) = false := decide_eq_false (by omega)
  have q2 : decide (2932906 < n) = false := decide_eq_false (by omega)
  have p1 : (D' != D % 7 + 1) = false := by simpa using x1
  have p2 : decide (n < s) = false := decide_eq_false (by omega)
  have p3 : decide (7 * K ≤ n - s) = false := decide_eq_false (by omega)
  have pk : (K != 52) = false ∨ (K != 52) = true ∧ (K != 53) = false := by rcases e2 with rfl | rfl <;> simp
  have kb0 : 52 ≤ K := by omega
  have kb1 : K ≤ 53 := by omega
  have x1' := Lib.hid x1
  have pz : (D' != F) = true ∧ Z = Y ∧ W' = W ∨ (D' != F) = false ∧ (W == K) = true ∧ Z = Y + 1 ∧ W' = 1 ∨ (D' != F) = false ∧ (W == K) = false ∧ Z = Y ∧ W' = W + 1 := by
    by_cases a : D' = F
    · by_cases b : W = K
      · right; left; exact ⟨by simpa using a, by simpa using b, x3 a b⟩
      · right; right; exact ⟨by simpa using a, by simpa using b, x4 a b⟩
    · left; exact ⟨by simpa using a, x2 a⟩
  clear x1 x2 x3 x4 e2 lo hi
  go_enter Tryd.func9, Tryd.ntmps9
  go_wp2_with fail
  refine (awake_all _ (lens_alloc ht.out _)).mono ?_
  rintro e w1 ⟨rfl, hb⟩
  have A1 := Lib.hid (down (grow (here w) _) hb)
  have R1 := Lib.hid (Two.new hb)
  clear hb
  obtain ⟨c0, c1, z⟩ := R1.out
  go_wp2_with fail
  refine (HX.out _ (lens_below ht.out A1.out)).mono ?_
  rintro e w2 ⟨rfl, hb⟩
  have A2 := Lib.hid (down A1.out hb)
  have R2 := Lib.hid (R1.out.keep hb)
  clear hb A1 R1 c0 c1 z
  obtain ⟨c0, c1, z⟩ := R2.out
  go_wp2_with fail
  refine (HY.out _ (lens_below ht.out (grow A2.out _))).mono ?_
  rintro e w3 ⟨rfl, hb⟩
  have A3 := Lib.hid (down (grow A2.out _) hb)
  have R3 := Lib.hid ((R2.out.old _).keep hb)
  have B3 := Lib.hid (Box.new hb)
  clear hb A2 R2 c0 c1 z
  obtain ⟨w4, hw4⟩ : ∃ w4 : World, w3.alloc (.cells #[.int .i64 Z, .int .i64 W', .int .i64 D'] 26) = w4 := ⟨_, rfl⟩
  have A4 : Hid (Below w.heap.size w w4) := by rw [← hw4]; exact grow A3.out _
  have R4 : Hid (Two w4 w.heap.size (.int .i64 F) (.int .i64 M)) := by rw [← hw4]; exact R3.out.old _
  have B4 : Hid (Box w4 w2.heap.size (.int .i64 Y) (.int .i64 W) (.int .i64 D)) := by rw [← hw4]; exact B3.out.old _
  have C4 : Hid (Box w4 w3.heap.size (.int .i64 Z) (.int .i64 W') (.int .i64 D')) := by rw [← hw4]; exact Box.new (here _)
  clear A3 R3 B3
  obtain ⟨c0, c1, z⟩ := R4.out
  obtain ⟨b0, b1, b2, zb⟩ := B4.out
  obtain ⟨d0, d1, d2, zd⟩ := C4.out
  go_wp2_with fail
  clear hw4
  refine (HN.out _ (lens_below ht.out A4.out)).mono ?_
  rintro e w5 ⟨rfl, hb⟩
  have A5 := Lib.hid (down A4.out hb)
  have R5 := Lib.hid (R4.out.keep hb)
  have B5 := Lib.hid (B4.out.keep hb)
  have C5 := Lib.hid (C4.out.keep hb)
  clear hb A4 R4 B4 C4 c0 c1 z b0 b1 b2 zb d0 d1 d2 zd
  obtain ⟨c0, c1, z⟩ := R5.out
  obtain ⟨b0, b1, b2, zb⟩ := B5.out
  go_wp2_with fail
  refine (HS.out _ (lens_below ht.out A5.out)).mono ?_
  rintro e w6 ⟨rfl, hb⟩
  have A6 := Lib.hid (down A5.out hb)
  have R6 := Lib.hid (R5.out.keep hb)
  have B6 := Lib.hid (B5.out.keep hb)
  have C6 := Lib.hid (C5.out.keep hb)
  clear hb A5 R5 B5 C5 c0 c1 z b0 b1 b2 zb
  obtain ⟨c0, c1, z⟩ := R6.out
  obtain ⟨b0, b1, b2, zb⟩ := B6.out
  obtain ⟨d0, d1, d2, zd⟩ := C6.out
  rcases pk with pk | ⟨pk, pk2⟩
  · rcases pz with ⟨a, rfl, rfl⟩ | ⟨a, b, rfl, rfl⟩ | ⟨a, b, rfl, rfl⟩
    all_goals
      go_wp2
      go_ret
      exact ⟨rfl, A6.out⟩
  · rcases pz with ⟨a, rfl, rfl⟩ | ⟨a, b, rfl, rfl⟩ | ⟨a, b, rfl, rfl⟩
    all_goals
      go_wp2
      go_ret
      exact ⟨rfl, A6.out⟩
theorem walk (F M n : Int) (hF : (Lit.int .i64 F).wf = true) (hM : (Lit.int .i64 M).wf = true) (hn : (Lit.int .i64 n).wf = true) (w : World) (ht : Lens w) :
    Calls Tryd.prog 9 #[.agg #[.int .i64 F, .int .i64 M], .int .i64 n] w fun e w' => e = .returned (.bool true) ∧ Below w.heap.size w w' := by
  replace hF := i64_wf hF
  replace hM := i64_wf hM
  replace hn := i64_wf hn
  by_cases k : n < -719171 ∨ 2932906 < n
  · exact far F M n hn k w ht
  · have hn' : I64 (n + 1) := ⟨by omega, by omega⟩
    rcases of_fate F M n hF hM hn with ⟨a, b, c, E, hE, HX⟩ | ⟨h, r0, r1, Y, hk⟩
    · obtain ⟨a', b', c', G, HY, -⟩ := both_of F M (n + 1) hF hM hn'
      exact none F M n a b c E a' b' c' G (by omega) (by omega) (.inl hE) HX HY w ht
    · rcases of_fate F M (n + 1) hF hM hn' with ⟨a', b', c', G, hG, HY⟩ | ⟨-, r2, r3, Z, hl⟩
      · obtain ⟨a, b, c, E, HX, -⟩ := both_of F M n hF hM hn
        exact none F M n a b c E a' b' c' G (by omega) (by omega) (.inr hG) HX HY w ht
      · exact both F M n Y Z h hk hl r0 r3 w ht
end WeekNext
end Go.Proofs.YtimpaaimdjlhjaaDoor
