/- Contracts of civiltimeref07: Anniversary, whole. -/
import Derived.Test.YtpkkhkkanpcniaaHeC
namespace Go.Proofs.Ytpkkhkkanpcniaa
open Go.RowKit
set_option linter.unusedVariables false

theorem aS_of {w1 W : World} {b : Nat} {x y z : Value} (h : Box w1 b x y z) (hb : Below w1.heap.size w1 W) : Below w1.heap.size w1 W ∧ W.cell? ⟨b, 2, none⟩ = some z := ⟨hb, (h.keep hb).c2⟩
set_option maxHeartbeats 2000000 in
theorem rhann_ok (y m d g A B C : Int) (h : hvld y m d = true) (hg : hyr g = true) (a0 : -1000000 ≤ A) (a1 : A ≤ 1000000) (hA : hyr A = true)
    (HA : ∀ w, Calls Try.prog 56 #[.int .i64 (hanN y m d g)] w fun e w' => e = .returned (.agg #[.int .i64 A, .int .i64 B, .int .i64 C]) ∧ Below w.heap.size w w') (w : World) :
    Calls Try.prog 35 #[.agg #[.int .i64 y, .int .i64 m, .int .i64 d], .int .i64 g] w fun e w' => e = .returned (.tuple #[.agg #[.int .i64 A, .int .i64 B, .int .i64 C], .int .i64 0]) ∧ Below w.heap.size w w' := by
  obtain ⟨hyt, y0, y1, m0, m1, m13, d0, d30⟩ := hvld_bd h
  obtain ⟨g0', g1'⟩ := hyr_iff.1 hg
  have am := hanM_in h hg
  have HV := fun w => rhvld y m d ⟨by omega, by omega⟩ ⟨by omega, by omega⟩ ⟨by omega, by omega⟩ w
  rw [h] at HV
  replace HV := Lib.hid HV
  have HY := fun w => rhyr g ⟨by omega, by omega⟩ w
  rw [hg] at HY
  replace HY := Lib.hid HY
  have HM := Lib.hid (fun w => rhmn y ⟨by omega, by omega⟩ w)
  have HG := Lib.hid (fun w => rhmn g ⟨by omega, by omega⟩ w)
  have HF := fun w => rhfirst g (hanM y m g) hg am.1 am.2 w
  have HK := fun w => rhyr A ⟨by omega, by omega⟩ w
  rw [hA] at HK
  replace HK := Lib.hid HK
  have fb : -3000000 ≤ hfst g (hanM y m g) ∧ hfst g (hanM y m g) ≤ 6000000 := by
    have a := hN_bd (y := g) g0' (by omega)
    have p := hS_bd (b := hlp g) (l := hyl g) (Nat.le_of_lt (hpos_at am.1 (by rw [← hmn_cn hg]; exact am.2)).1)
    unfold hfst; omega
  have nb := hmn_bd y
  have nb2 := hmn_bd g
  unfold hanN at HA
  unfold hanM at HA HF fb am
  by_cases z : m = hmn y
  · rw [if_pos z] at HA HF fb am
    have k : (m == hmn y) = true := by simpa using z
    generalize hfst g (hmn g) = f at *
    obtain ⟨fb0, fb1⟩ := fb
    clear z h hg hyt m1 hA am
    generalize hmn y = n1 at *
    generalize hmn g = n2 at *
    obtain ⟨nb0, nb1⟩ := nb
    obtain ⟨nc0, nc1⟩ := nb2
    have ew : IntKind.i64.wrap (IntKind.i64.wrap (f + d) - 1) = f + d - 1 := by rw [IntKind.wrap_i64, IntKind.wrap_i64]; omega
    rw [← ew] at HA
    clear ew
    replace HF := Lib.hid HF
    replace HA := Lib.hid HA
    go_enter Try.func35, Try.ntmps35
    go_wp2_with fail
    refine (HV.out _).mono ?_
    rintro e w1 ⟨rfl, hb⟩
    have e1 : (w.alloc (.cells #[.int .i64 y, .int .i64 m, .int .i64 d] 35)).heap.size = w.heap.size + 1 := by simp
    have A1 := Lib.hid (down (grow (grow (here w) _) _) hb)
    have P1 := Lib.hid (((Box.new (here (w.alloc (.cells #[.int .i64 y, .int .i64 m, .int .i64 d] 35)))).old _).keep hb)
    have F1 := Lib.hid (Free.snd hb)
    have C1 := Lib.hid (Box.snd hb)
    obtain ⟨p0, p1, p2, pz⟩ := P1.out
    clear hb e1 HV
    go_wp2_with fail
    refine (HY.out _).mono ?_
    rintro e w2 ⟨rfl, rfl⟩
    go_wp2_with fail
    refine (HM.out _).mono ?_
    rintro e w2 ⟨rfl, rfl⟩
    go_wp2_with fail
    refine (HG.out _).mono ?_
    rintro e w2 ⟨rfl, rfl⟩
    clear HM HY HG
    have s2 : Below w1.heap.size w1 w1 := here w1
    have s3 := aS_of P1.out s2
    go_wp2
    go_region_held3 (fun W' => Below w1.heap.size w1 W' ∧ W'.cell? ⟨w.heap.size, 2, none⟩ = some (.int .i64 d)) (first | assumption | (refine aS_of P1.out ?_; first | assumption | (exact grow (by assumption) _) | (exact grow (And.left (by assumption)) _) | (exact ((Below.setCell (by assumption) (Below.size (by assumption)) _).setCell (Below.size (by assumption)) _).setCell (Below.size (by assumption)) _) | (exact Below.drew (by assumption)) | (exact Below.drew (And.left (by assumption)))))
      (first
       | (go_at_call 53; (with_reducible refine (HF.out _).mono ?_); rintro e w' ⟨rfl, hb⟩; have hB : Below w1.heap.size w1 w' := down (And.left (by assumption)) hb; have hS := aS_of P1.out hB; (first | (have bx := Box.newd hb; have fx := Free.newd hb; obtain ⟨g0, g1, g2, gz⟩ := bx; obtain ⟨r0, r1, r2⟩ := fx) | (have bx := Box.new hb; have fx := Free.new hb; obtain ⟨g0, g1, g2, gz⟩ := bx; obtain ⟨r0, r1, r2⟩ := fx) | (have bx := Box.keep ⟨g0, g1, g2, gz⟩ hb; have fx := Free.keep ⟨r0, r1, r2⟩ gz hb; clear g0 g1 g2 gz r0 r1 r2; obtain ⟨g0, g1, g2, gz⟩ := bx; obtain ⟨r0, r1, r2⟩ := fx) | (fail_if_success (have := g0); skip)))
       | (go_at_call 56; (with_reducible refine (HA.out _).mono ?_); rintro e w' ⟨rfl, hb⟩; have hB : Below w1.heap.size w1 w' := down (And.left (by assumption)) hb; have hS := aS_of P1.out hB; (first | (have bx := Box.newd hb; have fx := Free.newd hb; obtain ⟨g0, g1, g2, gz⟩ := bx; obtain ⟨r0, r1, r2⟩ := fx) | (have bx := Box.new hb; have fx := Free.new hb; obtain ⟨g0, g1, g2, gz⟩ := bx; obtain ⟨r0, r1, r2⟩ := fx) | (have bx := Box.keep ⟨g0, g1, g2, gz⟩ hb; have fx := Free.keep ⟨r0, r1, r2⟩ gz hb; clear g0 g1 g2 gz r0 r1 r2; obtain ⟨g0, g1, g2, gz⟩ := bx; obtain ⟨r0, r1, r2⟩ := fx) | (fail_if_success (have := g0); skip))))
    all_goals
      first
      | refine at_world (G := fun W' => Exit.then _ _ Exit.normal _ W') (fun W' => Below w1.heap.size w1 W' ∧ Box W' _ (.int .i64 A) (.int .i64 B) (.int .i64 C)) ⟨?_, ((Box.put0 ⟨g0, g1, g2, gz⟩ _).put1 _).put2 _⟩ ?_
      | refine at_world (G := fun W' => Exit.then _ _ Exit.normal _ W') (fun W' => Below w1.heap.size w1 W' ∧ Box W' _ (.int .i64 A) (.int .i64 B) (.int .i64 C)) ⟨?_, Box.new (here _)⟩ ?_
      · (first | assumption | (exact grow (by assumption) _) | (exact ((Below.setCell (by assumption) (Below.size (by assumption)) _).setCell (Below.size (by assumption)) _).setCell (Below.size (by assumption)) _) | (exact Below.drew (by assumption)))
      · intro w9 hw9
        obtain ⟨q9, b9⟩ := hw9
        have A9 := Lib.hid (down A1.out q9)
        have C9 := Lib.hid (C1.out.keep q9)
        have F9 := Lib.hid (F1.out.keep C1.out.lt q9)
        replace b9 := Lib.hid b9
        clear q9 HF HA A1 C1 F1 P1
        obtain ⟨d0, d1, d2, zd⟩ := b9.out
        obtain ⟨c0, c1, c2, zc⟩ := C9.out
        obtain ⟨f0, f1, f2⟩ := F9.out
        go_wp2_with fail
        refine (HK.out _).mono ?_
        rintro e w2 ⟨rfl, rfl⟩
        go_wp2
        obtain ⟨w8, hw8⟩ : ∃ w8 : World, (((w9.setCell ⟨w.heap.size + 1, 0, none⟩ (.int .i64 A)).setCell ⟨w.heap.size + 1, 1, none⟩ (.int .i64 B)).setCell ⟨w.heap.size + 1, 2, none⟩ (.int .i64 C)) = w8 := ⟨_, rfl⟩
        have B8 : Box w8 (w.heap.size + 1) (.int .i64 A) (.int .i64 B) (.int .i64 C) := by rw [← hw8]; exact ((C9.out.put0 _).put1 _).put2 _
        have A8 : Below w.heap.size w w8 := by rw [← hw8]; exact ((A9.out.setCell (Nat.le_succ _) _).setCell (Nat.le_succ _) _).setCell (Nat.le_succ _) _
        obtain ⟨e0, e1, e2, -⟩ := B8
        rw [hw8]
        exact bodyPost_ret (v := .tuple #[.agg #[.int .i64 A, .int .i64 B, .int .i64 C], .int .i64 0]) (by simp [results, Try.results35, go_sem, e0, e1, e2]) rfl ⟨rfl, A8⟩
  · rw [if_neg z] at HA HF fb am
    have k : (m == hmn y) = false := by simpa using z
    generalize hfst g m = f at *
    obtain ⟨fb0, fb1⟩ := fb
    clear z h hg hyt m1 hA am nb2
    generalize hmn y = n1 at *
    obtain ⟨nb0, nb1⟩ := nb
    have ew : IntKind.i64.wrap (IntKind.i64.wrap (f + d) - 1) = f + d - 1 := by rw [IntKind.wrap_i64, IntKind.wrap_i64]; omega
    rw [← ew] at HA
    clear ew
    replace HF := Lib.hid HF
    replace HA := Lib.hid HA
    go_enter Try.func35, Try.ntmps35
    go_wp2_with fail
    refine (HV.out _).mono ?_
    rintro e w1 ⟨rfl, hb⟩
    have e1 : (w.alloc (.cells #[.int .i64 y, .int .i64 m, .int .i64 d] 35)).heap.size = w.heap.size + 1 := by simp
    have A1 := Lib.hid (down (grow (grow (here w) _) _) hb)
    have P1 := Lib.hid (((Box.new (here (w.alloc (.cells #[.int .i64 y, .int .i64 m, .int .i64 d] 35)))).old _).keep hb)
    have F1 := Lib.hid (Free.snd hb)
    have C1 := Lib.hid (Box.snd hb)
    obtain ⟨p0, p1, p2, pz⟩ := P1.out
    clear hb e1 HV
    go_wp2_with fail
    refine (HY.out _).mono ?_
    rintro e w2 ⟨rfl, rfl⟩
    go_wp2_with fail
    refine (HM.out _).mono ?_
    rintro e w2 ⟨rfl, rfl⟩
    clear HM HY HG
    have s2 : Below w1.heap.size w1 w1 := here w1
    have s3 := aS_of P1.out s2
    go_wp2
    go_region_held3 (fun W' => Below w1.heap.size w1 W' ∧ W'.cell? ⟨w.heap.size, 2, none⟩ = some (.int .i64 d)) (first | assumption | (refine aS_of P1.out ?_; first | assumption | (exact grow (by assumption) _) | (exact grow (And.left (by assumption)) _) | (exact ((Below.setCell (by assumption) (Below.size (by assumption)) _).setCell (Below.size (by assumption)) _).setCell (Below.size (by assumption)) _) | (exact Below.drew (by assumption)) | (exact Below.drew (And.left (by assumption)))))
      (first
       | (go_at_call 53; (with_reducible refine (HF.out _).mono ?_); rintro e w' ⟨rfl, hb⟩; have hB : Below w1.heap.size w1 w' := down (And.left (by assumption)) hb; have hS := aS_of P1.out hB; (first | (have bx := Box.newd hb; have fx := Free.newd hb; obtain ⟨g0, g1, g2, gz⟩ := bx; obtain ⟨r0, r1, r2⟩ := fx) | (have bx := Box.new hb; have fx := Free.new hb; obtain ⟨g0, g1, g2, gz⟩ := bx; obtain ⟨r0, r1, r2⟩ := fx) | (have bx := Box.keep ⟨g0, g1, g2, gz⟩ hb; have fx := Free.keep ⟨r0, r1, r2⟩ gz hb; clear g0 g1 g2 gz r0 r1 r2; obtain ⟨g0, g1, g2, gz⟩ := bx; obtain ⟨r0, r1, r2⟩ := fx) | (fail_if_success (have := g0); skip)))
       | (go_at_call 56; (with_reducible refine (HA.out _).mono ?_); rintro e w' ⟨rfl, hb⟩; have hB : Below w1.heap.size w1 w' := down (And.left (by assumption)) hb; have hS := aS_of P1.out hB; (first | (have bx := Box.newd hb; have fx := Free.newd hb; obtain ⟨g0, g1, g2, gz⟩ := bx; obtain ⟨r0, r1, r2⟩ := fx) | (have bx := Box.new hb; have fx := Free.new hb; obtain ⟨g0, g1, g2, gz⟩ := bx; obtain ⟨r0, r1, r2⟩ := fx) | (have bx := Box.keep ⟨g0, g1, g2, gz⟩ hb; have fx := Free.keep ⟨r0, r1, r2⟩ gz hb; clear g0 g1 g2 gz r0 r1 r2; obtain ⟨g0, g1, g2, gz⟩ := bx; obtain ⟨r0, r1, r2⟩ := fx) | (fail_if_success (have := g0); skip))))
    all_goals
      first
      | refine at_world (G := fun W' => Exit.then _ _ Exit.normal _ W') (fun W' => Below w1.heap.size w1 W' ∧ Box W' _ (.int .i64 A) (.int .i64 B) (.int .i64 C)) ⟨?_, ((Box.put0 ⟨g0, g1, g2, gz⟩ _).put1 _).put2 _⟩ ?_
      | refine at_world (G := fun W' => Exit.then _ _ Exit.normal _ W') (fun W' => Below w1.heap.size w1 W' ∧ Box W' _ (.int .i64 A) (.int .i64 B) (.int .i64 C)) ⟨?_, Box.new (here _)⟩ ?_
      · (first | assumption | (exact grow (by assumption) _) | (exact ((Below.setCell (by assumption) (Below.size (by assumption)) _).setCell (Below.size (by assumption)) _).setCell (Below.size (by assumption)) _) | (exact Below.drew (by assumption)))
      · intro w9 hw9
        obtain ⟨q9, b9⟩ := hw9
        have A9 := Lib.hid (down A1.out q9)
        have C9 := Lib.hid (C1.out.keep q9)
        have F9 := Lib.hid (F1.out.keep C1.out.lt q9)
        replace b9 := Lib.hid b9
        clear q9 HF HA A1 C1 F1 P1
        obtain ⟨d0, d1, d2, zd⟩ := b9.out
        obtain ⟨c0, c1, c2, zc⟩ := C9.out
        obtain ⟨f0, f1, f2⟩ := F9.out
        go_wp2_with fail
        refine (HK.out _).mono ?_
        rintro e w2 ⟨rfl, rfl⟩
        go_wp2
        obtain ⟨w8, hw8⟩ : ∃ w8 : World, (((w9.setCell ⟨w.heap.size + 1, 0, none⟩ (.int .i64 A)).setCell ⟨w.heap.size + 1, 1, none⟩ (.int .i64 B)).setCell ⟨w.heap.size + 1, 2, none⟩ (.int .i64 C)) = w8 := ⟨_, rfl⟩
        have B8 : Box w8 (w.heap.size + 1) (.int .i64 A) (.int .i64 B) (.int .i64 C) := by rw [← hw8]; exact ((C9.out.put0 _).put1 _).put2 _
        have A8 : Below w.heap.size w w8 := by rw [← hw8]; exact ((A9.out.setCell (Nat.le_succ _) _).setCell (Nat.le_succ _) _).setCell (Nat.le_succ _) _
        obtain ⟨e0, e1, e2, -⟩ := B8
        rw [hw8]
        exact bodyPost_ret (v := .tuple #[.agg #[.int .i64 A, .int .i64 B, .int .i64 C], .int .i64 0]) (by simp [results, Try.results35, go_sem, e0, e1, e2]) rfl ⟨rfl, A8⟩
set_option maxHeartbeats 2000000 in
theorem rhann_off (y m d g A B C : Int) (h : hvld y m d = true) (hg : hyr g = true) (a0 : -1000000 ≤ A) (a1 : A ≤ 1000000) (hA : hyr A = false)
    (HA : ∀ w, Calls Try.prog 56 #[.int .i64 (hanN y m d g)] w fun e w' => e = .returned (.agg #[.int .i64 A, .int .i64 B, .int .i64 C]) ∧ Below w.heap.size w w') (w : World) :
    Calls Try.prog 35 #[.agg #[.int .i64 y, .int .i64 m, .int .i64 d], .int .i64 g] w fun e w' => e = .returned (.tuple #[.agg #[.int .i64 0, .int .i64 0, .int .i64 0], .int .i64 2]) ∧ Below w.heap.size w w' := by
  obtain ⟨hyt, y0, y1, m0, m1, m13, d0, d30⟩ := hvld_bd h
  obtain ⟨g0', g1'⟩ := hyr_iff.1 hg
  have am := hanM_in h hg
  have HV := fun w => rhvld y m d ⟨by omega, by omega⟩ ⟨by omega, by omega⟩ ⟨by omega, by omega⟩ w
  rw [h] at HV
  replace HV := Lib.hid HV
  have HY := fun w => rhyr g ⟨by omega, by omega⟩ w
  rw [hg] at HY
  replace HY := Lib.hid HY
  have HM := Lib.hid (fun w => rhmn y ⟨by omega, by omega⟩ w)
  have HG := Lib.hid (fun w => rhmn g ⟨by omega, by omega⟩ w)
  have HF := fun w => rhfirst g (hanM y m g) hg am.1 am.2 w
  have HK := fun w => rhyr A ⟨by omega, by omega⟩ w
  rw [hA] at HK
  replace HK := Lib.hid HK
  have fb : -3000000 ≤ hfst g (hanM y m g) ∧ hfst g (hanM y m g) ≤ 6000000 := by
    have a := hN_bd (y := g) g0' (by omega)
    have p := hS_bd (b := hlp g) (l := hyl g) (Nat.le_of_lt (hpos_at am.1 (by rw [← hmn_cn hg]; exact am.2)).1)
    unfold hfst; omega
  have nb := hmn_bd y
  have nb2 := hmn_bd g
  unfold hanN at HA
  unfold hanM at HA HF fb am
  by_cases z : m = hmn y
  · rw [if_pos z] at HA HF fb am
    have k : (m == hmn y) = true := by simpa using z
    generalize hfst g (hmn g) = f at *
    obtain ⟨fb0, fb1⟩ := fb
    clear z h hg hyt m1 hA am
    generalize hmn y = n1 at *
    generalize hmn g = n2 at *
    obtain ⟨nb0, nb1⟩ := nb
    obtain ⟨nc0, nc1⟩ := nb2
    have ew : IntKind.i64.wrap (IntKind.i64.wrap (f + d) - 1) = f + d - 1 := by rw [IntKind.wrap_i64, IntKind.wrap_i64]; omega
    rw [← ew] at HA
    clear ew
    replace HF := Lib.hid HF
    replace HA := Lib.hid HA
    go_enter Try.func35, Try.ntmps35
    go_wp2_with fail
    refine (HV.out _).mono ?_
    rintro e w1 ⟨rfl, hb⟩
    have e1 : (w.alloc (.cells #[.int .i64 y, .int .i64 m, .int .i64 d] 35)).heap.size = w.heap.size + 1 := by simp
    have A1 := Lib.hid (down (grow (grow (here w) _) _) hb)
    have P1 := Lib.hid (((Box.new (here (w.alloc (.cells #[.int .i64 y, .int .i64 m, .int .i64 d] 35)))).old _).keep hb)
    have F1 := Lib.hid (Free.snd hb)
    have C1 := Lib.hid (Box.snd hb)
    obtain ⟨p0, p1, p2, pz⟩ := P1.out
    clear hb e1 HV
    go_wp2_with fail
    refine (HY.out _).mono ?_
    rintro e w2 ⟨rfl, rfl⟩
    go_wp2_with fail
    refine (HM.out _).mono ?_
    rintro e w2 ⟨rfl, rfl⟩
    go_wp2_with fail
    refine (HG.out _).mono ?_
    rintro e w2 ⟨rfl, rfl⟩
    clear HM HY HG
    have s2 : Below w1.heap.size w1 w1 := here w1
    have s3 := aS_of P1.out s2
    go_wp2
    go_region_held3 (fun W' => Below w1.heap.size w1 W' ∧ W'.cell? ⟨w.heap.size, 2, none⟩ = some (.int .i64 d)) (first | assumption | (refine aS_of P1.out ?_; first | assumption | (exact grow (by assumption) _) | (exact grow (And.left (by assumption)) _) | (exact ((Below.setCell (by assumption) (Below.size (by assumption)) _).setCell (Below.size (by assumption)) _).setCell (Below.size (by assumption)) _) | (exact Below.drew (by assumption)) | (exact Below.drew (And.left (by assumption)))))
      (first
       | (go_at_call 53; (with_reducible refine (HF.out _).mono ?_); rintro e w' ⟨rfl, hb⟩; have hB : Below w1.heap.size w1 w' := down (And.left (by assumption)) hb; have hS := aS_of P1.out hB; (first | (have bx := Box.newd hb; have fx := Free.newd hb; obtain ⟨g0, g1, g2, gz⟩ := bx; obtain ⟨r0, r1, r2⟩ := fx) | (have bx := Box.new hb; have fx := Free.new hb; obtain ⟨g0, g1, g2, gz⟩ := bx; obtain ⟨r0, r1, r2⟩ := fx) | (have bx := Box.keep ⟨g0, g1, g2, gz⟩ hb; have fx := Free.keep ⟨r0, r1, r2⟩ gz hb; clear g0 g1 g2 gz r0 r1 r2; obtain ⟨g0, g1, g2, gz⟩ := bx; obtain ⟨r0, r1, r2⟩ := fx) | (fail_if_success (have := g0); skip)))
       | (go_at_call 56; (with_reducible refine (HA.out _).mono ?_); rintro e w' ⟨rfl, hb⟩; have hB : Below w1.heap.size w1 w' := down (And.left (by assumption)) hb; have hS := aS_of P1.out hB; (first | (have bx := Box.newd hb; have fx := Free.newd hb; obtain ⟨g0, g1, g2, gz⟩ := bx; obtain ⟨r0, r1, r2⟩ := fx) | (have bx := Box.new hb; have fx := Free.new hb; obtain ⟨g0, g1, g2, gz⟩ := bx; obtain ⟨r0, r1, r2⟩ := fx) | (have bx := Box.keep ⟨g0, g1, g2, gz⟩ hb; have fx := Free.keep ⟨r0, r1, r2⟩ gz hb; clear g0 g1 g2 gz r0 r1 r2; obtain ⟨g0, g1, g2, gz⟩ := bx; obtain ⟨r0, r1, r2⟩ := fx) | (fail_if_success (have := g0); skip))))
    all_goals
      first
      | refine at_world (G := fun W' => Exit.then _ _ Exit.normal _ W') (fun W' => Below w1.heap.size w1 W' ∧ Box W' _ (.int .i64 A) (.int .i64 B) (.int .i64 C)) ⟨?_, ((Box.put0 ⟨g0, g1, g2, gz⟩ _).put1 _).put2 _⟩ ?_
      | refine at_world (G := fun W' => Exit.then _ _ Exit.normal _ W') (fun W' => Below w1.heap.size w1 W' ∧ Box W' _ (.int .i64 A) (.int .i64 B) (.int .i64 C)) ⟨?_, Box.new (here _)⟩ ?_
      · (first | assumption | (exact grow (by assumption) _) | (exact ((Below.setCell (by assumption) (Below.size (by assumption)) _).setCell (Below.size (by assumption)) _).setCell (Below.size (by assumption)) _) | (exact Below.drew (by assumption)))
      · intro w9 hw9
        obtain ⟨q9, b9⟩ := hw9
        have A9 := Lib.hid (down A1.out q9)
        have C9 := Lib.hid (C1.out.keep q9)
        have F9 := Lib.hid (F1.out.keep C1.out.lt q9)
        replace b9 := Lib.hid b9
        clear q9 HF HA A1 C1 F1 P1
        obtain ⟨d0, d1, d2, zd⟩ := b9.out
        obtain ⟨c0, c1, c2, zc⟩ := C9.out
        obtain ⟨f0, f1, f2⟩ := F9.out
        go_wp2_with fail
        refine (HK.out _).mono ?_
        rintro e w2 ⟨rfl, rfl⟩
        go_wp2
        obtain ⟨w8, hw8⟩ : ∃ w8 : World, (((w9.setCell ⟨w.heap.size + 1, 0, none⟩ (.int .i64 0)).setCell ⟨w.heap.size + 1, 1, none⟩ (.int .i64 0)).setCell ⟨w.heap.size + 1, 2, none⟩ (.int .i64 0)) = w8 := ⟨_, rfl⟩
        have B8 : Box w8 (w.heap.size + 1) (.int .i64 0) (.int .i64 0) (.int .i64 0) := by rw [← hw8]; exact ((C9.out.put0 _).put1 _).put2 _
        have A8 : Below w.heap.size w w8 := by rw [← hw8]; exact ((A9.out.setCell (Nat.le_succ _) _).setCell (Nat.le_succ _) _).setCell (Nat.le_succ _) _
        obtain ⟨e0, e1, e2, -⟩ := B8
        rw [hw8]
        exact bodyPost_ret (v := .tuple #[.agg #[.int .i64 0, .int .i64 0, .int .i64 0], .int .i64 2]) (by simp [results, Try.results35, go_sem, e0, e1, e2]) rfl ⟨rfl, A8⟩
  · rw [if_neg z] at HA HF fb am
    have k : (m == hmn y) = false := by simpa using z
    generalize hfst g m = f at *
    obtain ⟨fb0, fb1⟩ := fb
    clear z h hg hyt m1 hA am nb2
    generalize hmn y = n1 at *
    obtain ⟨nb0, nb1⟩ := nb
    have ew : IntKind.i64.wrap (IntKind.i64.wrap (f + d) - 1) = f + d - 1 := by rw [IntKind.wrap_i64, IntKind.wrap_i64]; omega
    rw [← ew] at HA
    clear ew
    replace HF := Lib.hid HF
    replace HA := Lib.hid HA
    go_enter Try.func35, Try.ntmps35
    go_wp2_with fail
    refine (HV.out _).mono ?_
    rintro e w1 ⟨rfl, hb⟩
    have e1 : (w.alloc (.cells #[.int .i64 y, .int .i64 m, .int .i64 d] 35)).heap.size = w.heap.size + 1 := by simp
    have A1 := Lib.hid (down (grow (grow (here w) _) _) hb)
    have P1 := Lib.hid (((Box.new (here (w.alloc (.cells #[.int .i64 y, .int .i64 m, .int .i64 d] 35)))).old _).keep hb)
    have F1 := Lib.hid (Free.snd hb)
    have C1 := Lib.hid (Box.snd hb)
    obtain ⟨p0, p1, p2, pz⟩ := P1.out
    clear hb e1 HV
    go_wp2_with fail
    refine (HY.out _).mono ?_
    rintro e w2 ⟨rfl, rfl⟩
    go_wp2_with fail
    refine (HM.out _).mono ?_
    rintro e w2 ⟨rfl, rfl⟩
    clear HM HY HG
    have s2 : Below w1.heap.size w1 w1 := here w1
    have s3 := aS_of P1.out s2
    go_wp2
    go_region_held3 (fun W' => Below w1.heap.size w1 W' ∧ W'.cell? ⟨w.heap.size, 2, none⟩ = some (.int .i64 d)) (first | assumption | (refine aS_of P1.out ?_; first | assumption | (exact grow (by assumption) _) | (exact grow (And.left (by assumption)) _) | (exact ((Below.setCell (by assumption) (Below.size (by assumption)) _).setCell (Below.size (by assumption)) _).setCell (Below.size (by assumption)) _) | (exact Below.drew (by assumption)) | (exact Below.drew (And.left (by assumption)))))
      (first
       | (go_at_call 53; (with_reducible refine (HF.out _).mono ?_); rintro e w' ⟨rfl, hb⟩; have hB : Below w1.heap.size w1 w' := down (And.left (by assumption)) hb; have hS := aS_of P1.out hB; (first | (have bx := Box.newd hb; have fx := Free.newd hb; obtain ⟨g0, g1, g2, gz⟩ := bx; obtain ⟨r0, r1, r2⟩ := fx) | (have bx := Box.new hb; have fx := Free.new hb; obtain ⟨g0, g1, g2, gz⟩ := bx; obtain ⟨r0, r1, r2⟩ := fx) | (have bx := Box.keep ⟨g0, g1, g2, gz⟩ hb; have fx := Free.keep ⟨r0, r1, r2⟩ gz hb; clear g0 g1 g2 gz r0 r1 r2; obtain ⟨g0, g1, g2, gz⟩ := bx; obtain ⟨r0, r1, r2⟩ := fx) | (fail_if_success (have := g0); skip)))
       | (go_at_call 56; (with_reducible refine (HA.out _).mono ?_); rintro e w' ⟨rfl, hb⟩; have hB : Below w1.heap.size w1 w' := down (And.left (by assumption)) hb; have hS := aS_of P1.out hB; (first | (have bx := Box.newd hb; have fx := Free.newd hb; obtain ⟨g0, g1, g2, gz⟩ := bx; obtain ⟨r0, r1, r2⟩ := fx) | (have bx := Box.new hb; have fx := Free.new hb; obtain ⟨g0, g1, g2, gz⟩ := bx; obtain ⟨r0, r1, r2⟩ := fx) | (have bx := Box.keep ⟨g0, g1, g2, gz⟩ hb; have fx := Free.keep ⟨r0, r1, r2⟩ gz hb; clear g0 g1 g2 gz r0 r1 r2; obtain ⟨g0, g1, g2, gz⟩ := bx; obtain ⟨r0, r1, r2⟩ := fx) | (fail_if_success (have := g0); skip))))
    all_goals
      first
      | refine at_world (G := fun W' => Exit.then _ _ Exit.normal _ W') (fun W' => Below w1.heap.size w1 W' ∧ Box W' _ (.int .i64 A) (.int .i64 B) (.int .i64 C)) ⟨?_, ((Box.put0 ⟨g0, g1, g2, gz⟩ _).put1 _).put2 _⟩ ?_
      | refine at_world (G := fun W' => Exit.then _ _ Exit.normal _ W') (fun W' => Below w1.heap.size w1 W' ∧ Box W' _ (.int .i64 A) (.int .i64 B) (.int .i64 C)) ⟨?_, Box.new (here _)⟩ ?_
      · (first | assumption | (exact grow (by assumption) _) | (exact ((Below.setCell (by assumption) (Below.size (by assumption)) _).setCell (Below.size (by assumption)) _).setCell (Below.size (by assumption)) _) | (exact Below.drew (by assumption)))
      · intro w9 hw9
        obtain ⟨q9, b9⟩ := hw9
        have A9 := Lib.hid (down A1.out q9)
        have C9 := Lib.hid (C1.out.keep q9)
        have F9 := Lib.hid (F1.out.keep C1.out.lt q9)
        replace b9 := Lib.hid b9
        clear q9 HF HA A1 C1 F1 P1
        obtain ⟨d0, d1, d2, zd⟩ := b9.out
        obtain ⟨c0, c1, c2, zc⟩ := C9.out
        obtain ⟨f0, f1, f2⟩ := F9.out
        go_wp2_with fail
        refine (HK.out _).mono ?_
        rintro e w2 ⟨rfl, rfl⟩
        go_wp2
        obtain ⟨w8, hw8⟩ : ∃ w8 : World, (((w9.setCell ⟨w.heap.size + 1, 0, none⟩ (.int .i64 0)).setCell ⟨w.heap.size + 1, 1, none⟩ (.int .i64 0)).setCell ⟨w.heap.size + 1, 2, none⟩ (.int .i64 0)) = w8 := ⟨_, rfl⟩
        have B8 : Box w8 (w.heap.size + 1) (.int .i64 0) (.int .i64 0) (.int .i64 0) := by rw [← hw8]; exact ((C9.out.put0 _).put1 _).put2 _
        have A8 : Below w.heap.size w w8 := by rw [← hw8]; exact ((A9.out.setCell (Nat.le_succ _) _).setCell (Nat.le_succ _) _).setCell (Nat.le_succ _) _
        obtain ⟨e0, e1, e2, -⟩ := B8
        rw [hw8]
        exact bodyPost_ret (v := .tuple #[.agg #[.int .i64 0, .int .i64 0, .int .i64 0], .int .i64 2]) (by simp [results, Try.results35, go_sem, e0, e1, e2]) rfl ⟨rfl, A8⟩
end Go.Proofs.Ytpkkhkkanpcniaa
