/- The contract of week.Parse: texts that have the form. -/
import Derived.Test.YtimpaaimdjlhjaaDoorWkP
namespace Go.Proofs.YtimpaaimdjlhjaaDoor
open Go.RowKit
set_option linter.unusedVariables false

theorem valX_four (a b c d : Int) : valX 0 [a, b, c, d] = 10 * (10 * (10 * (a - 48) + (b - 48)) + (c - 48)) + (d - 48) := by simp [valX]
theorem valX_two (a b : Int) : valX 0 [a, b] = 10 * (a - 48) + (b - 48) := by simp [valX]
theorem valX_one (a : Int) : valX 0 [a] = a - 48 := by simp [valX]
theorem at_world {G : World → Prop} {W : World} (C : World → Prop) (h : C W) (k : ∀ W', C W' → G W') : G W := k W h
theorem Box.newd {w w' : World} {x y z : Value} {t : TypeId} (hb : Below (w.drew.alloc (.cells #[x, y, z] t)).heap.size (w.drew.alloc (.cells #[x, y, z] t)) w') : Box w' w.heap.size x y z := Box.new (w := w.drew) hb
theorem Free.newd {w w' : World} {x y z : Value} {t : TypeId} (hb : Below (w.drew.alloc (.cells #[x, y, z] t)).heap.size (w.drew.alloc (.cells #[x, y, z] t)) w') : Free w' w.heap.size := Free.new (w := w.drew) hb
set_option maxRecDepth 100000 in
set_option maxHeartbeats 4000000 in
theorem kparse_some (s : ByteArray) (hs : s.size = 10) (h : okX (bX s.data.toList) = true) (b : Bool) (Y W D : Int) (hb : knwB Y W D = b) (hY : vY (bX s.data.toList) = Y) (hW : vW (bX s.data.toList) = W) (hD : vD (bX s.data.toList) = D) (w : World) (hp : Tab w) (hev : Ev w) :
    Calls Tryd.prog 24 #[.string s] w fun e w' => e = .returned (.tuple #[.agg #[.int .i64 (if b then Y else 0), .int .i64 (if b then W else 0), .int .i64 (if b then D else 0)], .int .i64 (if b then 0 else 2)]) ∧ Below w.heap.size w w' := by
  obtain ⟨w2, hcp, hR, hb2⟩ := copied s hs w 3
  have HL := Lib.hid (fun w => klayout (bX s.data.toList) (bX_bd _) true h w)
  have k : ((s.size : Int) != 10) = false := by simp; omega
  have ks : (s.size : Int) = 10 := by omega
  have A2 := Lib.hid (down (grow (here w) _) hb2)
  have B2 := Lib.hid (Box.new hb2)
  have F2 := Lib.hid (Free.new hb2)
  obtain ⟨bY, bW, bD⟩ := vals_bd h
  rw [hY] at bY
  rw [hW] at bW
  rw [hD] at bD
  have dg := fun j hj h1 h2 h3 => okX_dig h (j := j) hj h1 h2 h3
  have NA : Hid (∀ (W' : World) (hev : Ev W') (hR : RowC W' (w.heap.size + 1) (bX s.data.toList)), Calls Tryd.prog 46 #[.slice (some ⟨w.heap.size + 1, 0, none⟩) 4 10] W' fun e w' => e = .returned (.int .i64 Y) ∧ Below W'.heap.size W' w') := by
    intro W' hev hR
    have q := knumber [bX s.data.toList 0, bX s.data.toList 1, bX s.data.toList 2, bX s.data.toList 3] (w.heap.size + 1) 0 4 10 (by
      intro x hx
      simp only [List.mem_cons, List.not_mem_nil, or_false] at hx
      rcases hx with rfl | rfl | rfl | rfl <;> exact dg _ (by omega) (by omega) (by omega) (by omega)) rfl (by omega) (by omega) W' hev (by
      intro i hi
      have c : i = 0 ∨ i = 1 ∨ i = 2 ∨ i = 3 := by omega
      rcases c with rfl | rfl | rfl | rfl <;> exact hR.c _ (by omega))
    rw [valX_four] at q
    rw [← hY]; exact q
  have NB : Hid (∀ (W' : World) (hev : Ev W') (hR : RowC W' (w.heap.size + 1) (bX s.data.toList)), Calls Tryd.prog 46 #[.slice (some ⟨w.heap.size + 1, 6, none⟩) 2 4] W' fun e w' => e = .returned (.int .i64 W) ∧ Below W'.heap.size W' w') := by
    intro W' hev hR
    have q := knumber [bX s.data.toList 6, bX s.data.toList 7] (w.heap.size + 1) 6 2 4 (by
      intro x hx
      simp only [List.mem_cons, List.not_mem_nil, or_false] at hx
      rcases hx with rfl | rfl <;> exact dg _ (by omega) (by omega) (by omega) (by omega)) rfl (by omega) (by omega) W' hev (by
      intro i hi
      have c : i = 0 ∨ i = 1 := by omega
      rcases c with rfl | rfl <;> exact hR.c _ (by omega))
    rw [valX_two] at q
    rw [← hW]; exact q
  have NC : Hid (∀ (W' : World) (hev : Ev W') (hR : RowC W' (w.heap.size + 1) (bX s.data.toList)), Calls Tryd.prog 46 #[.slice (some ⟨w.heap.size + 1, 9, none⟩) 1 1] W' fun e w' => e = .returned (.int .i64 D) ∧ Below W'.heap.size W' w') := by
    intro W' hev hR
    have q := knumber [bX s.data.toList 9] (w.heap.size + 1) 9 1 1 (by
      intro x hx
      simp only [List.mem_cons, List.not_mem_nil, or_false] at hx
      subst hx
      exact dg _ (by omega) (by omega) (by omega) (by omega)) rfl (by omega) (by omega) W' hev (by
      intro i hi
      obtain rfl : i = 0 := by omega
      exact hR.c _ (by omega))
    rw [valX_one] at q
    rw [← hD]; exact q
  have HT : Hid (∀ w, Tab w → Calls Tryd.prog 26 #[.agg #[.int .i64 Y, .int .i64 W, .int .i64 D]] w fun e w' => e = .returned (.string ⟨(textW Y W D).toArray⟩) ∧ Below w.heap.size w w') := fun w hp => ktext Y W D ⟨by omega, by omega⟩ ⟨by omega, by omega⟩ ⟨by omega, by omega⟩ w hp
  have he : ((⟨(textW Y W D).toArray⟩ : ByteArray).toList == []) = !b := by
    rw [ByteArray.toList_eq]
    cases b
    · have e : textW Y W D = [] := by unfold textW; rw [hb]; rfl
      rw [e]; rfl
    · have e := textW_length hb
      rw [beq_eq_false_iff_ne.2]; · rfl
      intro x
      have : textW Y W D = [] := by simpa using x
      rw [this] at e; simp at e
  have he2 : ((⟨(textW Y W D).toArray⟩ : ByteArray) == ⟨#[]⟩) = !b ∨ True := .inr trivial
  clear h hb2 hY hW hD hb dg he2
  generalize bX s.data.toList = X at *
  generalize (⟨(textW Y W D).toArray⟩ : ByteArray) = T at *
  have x0 := hR.c 0 (by omega)
  have x1 := hR.c 1 (by omega)
  have x2 := hR.c 2 (by omega)
  have x3 := hR.c 3 (by omega)
  have x4 := hR.c 4 (by omega)
  have x5 := hR.c 5 (by omega)
  have x6 := hR.c 6 (by omega)
  have x7 := hR.c 7 (by omega)
  have x8 := hR.c 8 (by omega)
  have x9 := hR.c 9 (by omega)
  replace hR := Lib.hid hR
  replace hp := Lib.hid hp
  replace hev := Lib.hid hev
  go_enter Tryd.func24, Tryd.ntmps24
  go_wp2_with fail
  clear x0 x1 x2 x3 x4 x5 x6 x7 x8 x9 hcp
  refine (HL.out _).mono ?_
  rintro e w3 ⟨rfl, hb⟩
  have A3 := Lib.hid (down A2.out hb)
  have B3 := Lib.hid (B2.out.keep hb)
  have F3 := Lib.hid (F2.out.keep B2.out.lt hb)
  have R3 := Lib.hid (hR.out.keep hb)
  clear hb A2 B2 F2 hR
  have HA : Hid (∀ W', Below w3.heap.size w3 W' → Calls Tryd.prog 46 #[.slice (some ⟨w.heap.size + 1, 0, none⟩) 4 10] W' fun e w' => e = .returned (.int .i64 Y) ∧ Below W'.heap.size W' w') := fun W' q => NA.out W' (ev_below hev.out (down A3.out q)) (R3.out.keep q)
  have HB : Hid (∀ W', Below w3.heap.size w3 W' → Calls Tryd.prog 46 #[.slice (some ⟨w.heap.size + 1, 6, none⟩) 2 4] W' fun e w' => e = .returned (.int .i64 W) ∧ Below W'.heap.size W' w') := fun W' q => NB.out W' (ev_below hev.out (down A3.out q)) (R3.out.keep q)
  have HC : Hid (∀ W', Below w3.heap.size w3 W' → Calls Tryd.prog 46 #[.slice (some ⟨w.heap.size + 1, 9, none⟩) 1 1] W' fun e w' => e = .returned (.int .i64 D) ∧ Below W'.heap.size W' w') := fun W' q => NC.out W' (ev_below hev.out (down A3.out q)) (R3.out.keep q)
  clear NA NB NC
  have s3 : Below w3.heap.size w3 w3 := here w3
  go_wp2
  go_region_held3 (fun W' => Below w3.heap.size w3 W') (first | assumption | (exact grow (by assumption) _) | (exact ((Below.setCell (by assumption) (Below.size (by assumption)) _).setCell (Below.size (by assumption)) _).setCell (Below.size (by assumption)) _) | (exact Below.drew (by assumption)))
    (first
     | (go_at_call 46; (with_reducible refine (HA.out _ (by assumption)).mono ?_); rintro e w' ⟨rfl, hb⟩; have hS : Below w3.heap.size w3 w' := down (by assumption) hb; (first | (have bx := Box.newd hb; have fx := Free.newd hb; obtain ⟨g0, g1, g2, gz⟩ := bx; obtain ⟨r0, r1, r2⟩ := fx) | (have bx := Box.new hb; have fx := Free.new hb; obtain ⟨g0, g1, g2, gz⟩ := bx; obtain ⟨r0, r1, r2⟩ := fx) | (have bx := Box.keep ⟨g0, g1, g2, gz⟩ hb; have fx := Free.keep ⟨r0, r1, r2⟩ gz hb; clear g0 g1 g2 gz r0 r1 r2; obtain ⟨g0, g1, g2, gz⟩ := bx; obtain ⟨r0, r1, r2⟩ := fx) | (fail_if_success (have := g0); skip) | (have bx := Box.keep ⟨g0, g1, g2, gz⟩ hb; have fx := Free.keep ⟨r0, r1, r2⟩ gz hb; clear g0 g1 g2 gz r0 r1 r2; obtain ⟨g0, g1, g2, gz⟩ := bx; obtain ⟨r0, r1, r2⟩ := fx)))
     | (go_at_call 46; (with_reducible refine (HB.out _ (by assumption)).mono ?_); rintro e w' ⟨rfl, hb⟩; have hS : Below w3.heap.size w3 w' := down (by assumption) hb; (first | (have bx := Box.newd hb; have fx := Free.newd hb; obtain ⟨g0, g1, g2, gz⟩ := bx; obtain ⟨r0, r1, r2⟩ := fx) | (have bx := Box.new hb; have fx := Free.new hb; obtain ⟨g0, g1, g2, gz⟩ := bx; obtain ⟨r0, r1, r2⟩ := fx) | (have bx := Box.keep ⟨g0, g1, g2, gz⟩ hb; have fx := Free.keep ⟨r0, r1, r2⟩ gz hb; clear g0 g1 g2 gz r0 r1 r2; obtain ⟨g0, g1, g2, gz⟩ := bx; obtain ⟨r0, r1, r2⟩ := fx) | (fail_if_success (have := g0); skip) | (have bx := Box.keep ⟨g0, g1, g2, gz⟩ hb; have fx := Free.keep ⟨r0, r1, r2⟩ gz hb; clear g0 g1 g2 gz r0 r1 r2; obtain ⟨g0, g1, g2, gz⟩ := bx; obtain ⟨r0, r1, r2⟩ := fx)))
     | (go_at_call 46; (with_reducible refine (HC.out _ (by assumption)).mono ?_); rintro e w' ⟨rfl, hb⟩; have hS : Below w3.heap.size w3 w' := down (by assumption) hb; (first | (have bx := Box.newd hb; have fx := Free.newd hb; obtain ⟨g0, g1, g2, gz⟩ := bx; obtain ⟨r0, r1, r2⟩ := fx) | (have bx := Box.new hb; have fx := Free.new hb; obtain ⟨g0, g1, g2, gz⟩ := bx; obtain ⟨r0, r1, r2⟩ := fx) | (have bx := Box.keep ⟨g0, g1, g2, gz⟩ hb; have fx := Free.keep ⟨r0, r1, r2⟩ gz hb; clear g0 g1 g2 gz r0 r1 r2; obtain ⟨g0, g1, g2, gz⟩ := bx; obtain ⟨r0, r1, r2⟩ := fx) | (fail_if_success (have := g0); skip) | (have bx := Box.keep ⟨g0, g1, g2, gz⟩ hb; have fx := Free.keep ⟨r0, r1, r2⟩ gz hb; clear g0 g1 g2 gz r0 r1 r2; obtain ⟨g0, g1, g2, gz⟩ := bx; obtain ⟨r0, r1, r2⟩ := fx))))
  all_goals
    first
    | refine at_world (G := fun W' => Exit.then _ _ Exit.normal _ W') (fun W' => Below w3.heap.size w3 W' ∧ Box W' _ (.int .i64 Y) (.int .i64 W) (.int .i64 D)) ⟨?_, ((Box.put0 ⟨g0, g1, g2, gz⟩ _).put1 _).put2 _⟩ ?_
    | refine at_world (G := fun W' => Exit.then _ _ Exit.normal _ W') (fun W' => Below w3.heap.size w3 W' ∧ Box W' _ (.int .i64 Y) (.int .i64 W) (.int .i64 D)) ⟨?_, Box.new (here _)⟩ ?_
    · (first | assumption | (exact grow (by assumption) _) | (exact ((Below.setCell (by assumption) (Below.size (by assumption)) _).setCell (Below.size (by assumption)) _).setCell (Below.size (by assumption)) _) | (exact Below.drew (by assumption)))
    · intro w9 hw9
      obtain ⟨q9, b9⟩ := hw9
      have A9 := Lib.hid (down A3.out q9)
      have B9 := Lib.hid (B3.out.keep q9)
      have F9 := Lib.hid (F3.out.keep B3.out.lt q9)
      replace b9 := Lib.hid b9
      clear q9 HA HB HC A3 B3 F3 R3
      obtain ⟨d0, d1, d2, zd⟩ := b9.out
      go_wp2_with fail
      refine (HT.out _ (tab_below hp.out A9.out)).mono ?_
      rintro e w10 ⟨rfl, hb⟩
      have A10 := Lib.hid (down A9.out hb)
      have B10 := Lib.hid (B9.out.keep hb)
      have F10 := Lib.hid (F9.out.keep B9.out.lt hb)
      have C10 := Lib.hid (b9.out.keep hb)
      clear hb A9 B9 F9 b9 d0 d1 d2 zd
      obtain ⟨c0, c1, c2, zc⟩ := B10.out
      obtain ⟨d0, d1, d2, zd⟩ := C10.out
      obtain ⟨f0, f1, f2⟩ := F10.out
      cases b
      · go_wp2
        exact bodyPost_ret (v := .tuple #[.agg #[.int .i64 0, .int .i64 0, .int .i64 0], .int .i64 2]) (by simp [results, Tryd.results24, go_sem, c0, c1, c2]) rfl ⟨rfl, ((A10.out.setCell (Nat.le_refl _) _).setCell (Nat.le_refl _) _).setCell (Nat.le_refl _) _⟩
      · go_wp2
        exact bodyPost_ret (v := .tuple #[.agg #[.int .i64 Y, .int .i64 W, .int .i64 D], .int .i64 0]) (by simp [results, Tryd.results24, go_sem, c0, c1, c2]) rfl ⟨rfl, ((A10.out.setCell (Nat.le_refl _) _).setCell (Nat.le_refl _) _).setCell (Nat.le_refl _) _⟩
end Go.Proofs.YtimpaaimdjlhjaaDoor
