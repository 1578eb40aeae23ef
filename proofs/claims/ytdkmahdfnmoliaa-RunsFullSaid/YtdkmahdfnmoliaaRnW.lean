/- Contracts of civiltimeref12: Combine. -/
import Derived.Test.YtdkmahdfnmoliaaRnV
namespace Go.Proofs.Ytdkmahdfnmoliaa
open Go.RowKit
set_option linter.unusedVariables false

theorem prs_news {base : Nat} {w : World} {o : Option Addr} {n c : Nat} {L : List Sp} (h : PairS base w (.slice o n c) L) :
    (o = none → n = 0) ∧ n = L.length ∧ ∀ ad, o = some ad → ∀ j u, (pairs L)[j]? = some u → w.cell? (ad.add j) = some u := by
  rcases h with ⟨h0, a, c', e⟩ | ⟨b, off, c', e, -, l⟩
  · injection e with e1 e2 e3
    obtain rfl : L = [] := List.eq_nil_of_length_eq_zero h0
    exact ⟨fun _ => e2, by rw [e2]; rfl, fun ad _ j u hu => (by simp [pairs] at hu)⟩
  · injection e with e1 e2 e3
    refine ⟨fun q => (by rw [q] at e1; cases e1), e2, fun ad q j u hu => ?_⟩
    rw [q] at e1
    cases e1
    rw [Addr.add_lit]
    exact l.cell j u hu
theorem pairs_one (L : List Sp) : ∀ u ∈ pairs L, u.oneCell' = true := by
  induction L with
  | nil => intro u hu; cases hu
  | cons p L ih =>
    intro u hu
    rcases List.mem_cons.1 hu with rfl | hu
    · rfl
    · rcases List.mem_cons.1 hu with rfl | hu
      · rfl
      · exact ih u hu
theorem ins_here {base : Nat} {w : World} {o : Option Addr} {n c : Nat} {L : List Int} (h : IntS base w (.slice o n c) L) {i : Nat} (hi : i < L.length) :
    ∃ b off, o = some ⟨b, off, none⟩ ∧ b < w.heap.size ∧ ∀ j, j < L.length → w.cell? ⟨b, off + j, none⟩ = some (.int .i64 (L.getD j 0)) := by
  rcases h with ⟨h0, -⟩ | ⟨b, off, c', e, -, l⟩
  · omega
  · injection e with e1 e2 e3
    exact ⟨b, off, e1, l.lt, fun j hj => ints_at l j hj⟩
theorem cb_step (k : Int) (A B : List Sp) (E : List Int) (i : Nat) : cbK k A B E (i + 1) = if kpB k (inB A (E.getD i 0)) (inB B (E.getD i 0)) then addL (cbK k A B E i) (E.getD i 0, E.getD (i + 1) 0) else cbK k A B E i := rfl
set_option maxRecDepth 100000 in
set_option maxHeartbeats 2000000 in
theorem rncomb (kind : Int) (va vb : Value) (A B : List Sp) (hA : A.length ≤ 20000) (hB : B.length ≤ 20000) {ba bb : Nat} (w : World) (ha : PairS ba w va A) (hb : PairS bb w vb B) :
    Calls Try.prog 56 #[.int .i64 kind, va, vb] w fun e w' => (∃ v', e = .returned v' ∧ w'.ownsRow w.heap.size 33 2 v' (cbL kind A B).length (pairs (cbL kind A B))) ∧ Below w.heap.size w w' := by
  obtain ⟨i0, hi, hz0, hz1, hz2⟩ := info_parts infoS
  obtain ⟨oa, ca, rfl⟩ := prs_shape ha
  obtain ⟨ob, cb, rfl⟩ := prs_shape hb
  have EN := Lib.hid (fun v W (h : PairS w.heap.size W v (A ++ B)) => rnends v (A ++ B) (by simp; omega) W h)
  have AL := Lib.hid (enK_asc (A ++ B) (A ++ B).length)
  have EL := enK_len (A ++ B) (A ++ B).length
  have ec : Hid (cbL kind A B = cbK kind A B (enL (A ++ B)) ((enL (A ++ B)).length - 1)) := rfl
  have ab : (A ++ B).length = A.length + B.length := by simp
  obtain ⟨n, hl⟩ : ∃ n, A.length = n := ⟨_, rfl⟩
  obtain ⟨m, hm⟩ : ∃ m, B.length = m := ⟨_, rfl⟩
  rw [hl] at hA ab ha ⊢
  rw [hm] at hB ab hb ⊢
  replace EL : (enL (A ++ B)).length ≤ 2 * (A ++ B).length := EL
  rw [ab] at EL
  have HA := Lib.hid ha
  have HB := Lib.hid hb
  obtain ⟨w1, hw1⟩ : ∃ w1 : World, w.alloc (.cells #[] 33) = w1 := ⟨_, rfl⟩
  have O1 : Hid (w1.ownsRow w.heap.size 33 2 (.slice (some ⟨w.heap.size, 0, none⟩) 0 0) 0 []) := by rw [← hw1]; exact World.ownsRow_lit w #[] 0 (Nat.le_refl _) (by unfold maxLen; omega) rfl
  have A1 : Hid (Below w.heap.size w w1) := by rw [← hw1]; exact grow (here w) _
  have N1 := Lib.hid (prs_news (HA.out.keep A1.out))
  clear ha hb
  go_enter Try.func56, Try.ntmps56
  go_wp2_with (at_builtin; refine app_any _ rfl _ _ 22 rfl w.heap.size 33 i0 (.agg #[.int .i64 0, .int .i64 0]) 2 16 Try.underlying22 hi hz0 hz1 hz2 rfl (by decide) (.slice (some ⟨w.heap.size, 0, none⟩) 0 0) 0 [] rfl O1.out oa n ca (pairs A) rfl ?c1 N1.out.1 ?c3 ?c4 ?c5 ?c6 ?c7 ?_)
  case c1 => rw [pairs_length]; omega
  case c3 => exact N1.out.2.2
  case c4 => exact pairs_one _
  case c5 => unfold maxLen; omega
  case c6 => omega
  case c7 => have := A1.out.size; omega
  intro v2 w2 hown hgrow
  have A2 : Hid (Below w.heap.size w w2) := A1.out.grown hgrow A1.out.size (own_ge O1.out)
  have O2 : Hid (w2.ownsRow w.heap.size 33 2 v2 n (pairs A)) := by show World.ownsRow _ _ _ _ _ _ _; simpa using hown
  have N2 := Lib.hid (prs_news (HB.out.keep A2.out))
  clear hown hgrow O1 N1 A1
  go_wp2_with (at_builtin; refine app_any _ rfl _ _ 22 rfl w.heap.size 33 i0 (.agg #[.int .i64 0, .int .i64 0]) 2 16 Try.underlying22 hi hz0 hz1 hz2 rfl (by decide) v2 n (pairs A) rfl O2.out ob m cb (pairs B) rfl ?c1 N2.out.1 ?c3 ?c4 ?c5 ?c6 ?c7 ?_)
  case c1 => rw [pairs_length]; omega
  case c3 => exact N2.out.2.2
  case c4 => exact pairs_one _
  case c5 => unfold maxLen; omega
  case c6 => omega
  case c7 => have := A2.out.size; omega
  intro v3 w3 hown hgrow
  have A3 : Hid (Below w.heap.size w w3) := A2.out.grown hgrow A2.out.size (own_ge O2.out)
  have P3 : PairS w.heap.size w3 v3 (A ++ B) := by
    have := Sl.owns hown
    rw [← pairs_append, ← ab] at this; exact this
  have C3 := EN.out v3 w3 P3
  clear hown hgrow O2 N2 A2 EN P3
  go_wp2_with fail
  refine C3.mono ?_
  rintro e w4 ⟨⟨v4, rfl, O4⟩, hb4⟩
  have A4 := Lib.hid (down A3.out hb4)
  have PA := Lib.hid (HA.out.keep A4.out)
  have PB := Lib.hid (HB.out.keep A4.out)
  have PE : Hid (IntS w3.heap.size w4 v4 (enL (A ++ B))) := Sl.owns O4
  obtain ⟨oe, ce, rfl⟩ := (Sl.owns O4).shape
  clear O4 hb4 C3 A3
  obtain ⟨E, hE⟩ : ∃ E, enL (A ++ B) = E := ⟨_, rfl⟩
  have EL2 : E.length ≤ 2 * (n + m) := by rw [← hE]; exact EL
  rw [hE] at PE ec ⊢
  clear EL hE
  obtain ⟨K, hK⟩ : ∃ K, E.length = K := ⟨_, rfl⟩
  rw [hK] at EL2 ec ⊢
  have I0 : Hid (w4.ownsRow w4.heap.size 33 2 (.slice none 0 0) (cbK kind A B E 0).length (pairs (cbK kind A B E 0))) := World.ownsRow_nil _ _ _ _
  have B0 : Hid (Below w4.heap.size w4 w4) := here w4
  go_wp2
  go_loopw [8, 9] (fun s i wr => ∃ (k : Nat) (s' : Value), s' = s ∧ (k = 0 ∨ k + 1 ≤ K) ∧ i = .int .i64 k ∧ Hid (wr.ownsRow w4.heap.size 33 2 s (cbK kind A B E k).length (pairs (cbK kind A B E k))) ∧ Hid (Below w4.heap.size w4 wr)) (fun _ i _ => K - (intOf i).toNat)
  case atStart => exact ⟨0, _, rfl, .inl rfl, rfl, I0, B0⟩
  case round =>
    obtain ⟨k, s', rfl, hk, rfl, HO, HW⟩ := hrel
    clear I0 B0
    by_cases z : k + 1 < K
    · obtain ⟨k1, hk1⟩ : ∃ k1, k + 1 = k1 := ⟨_, rfl⟩
      rw [hk1] at z
      have kz : decide ((k1 : Int) < (K : Int)) = true := decide_eq_true (by omega)
      have kz2 : decide (k1 < K) = true := decide_eq_true z
      have PW := PE.out.keep HW.out
      rw [hK] at PW
      obtain ⟨b, off, rfl, bl, cs⟩ := ins_here PW (show k < E.length by omega)
      have c0 := cs k (by omega)
      have c1 := cs k1 (by omega)
      have st := cb_step kind A B E k
      rw [hk1] at st
      replace st := Lib.hid st
      have ln := cbK_len kind A B E k
      have FA := Lib.hid (fun n' => rnin (.slice oa n ca) A (by unfold maxLen; omega) (E.getD k 0) (wr.drewN n') ((PA.out.keep HW.out).keep (below_drewN (here _) n')))
      have FB := Lib.hid (fun n' => rnin (.slice ob m cb) B (by unfold maxLen; omega) (E.getD k 0) (wr.drewN n') ((PB.out.keep HW.out).keep (below_drewN (here _) n')))
      have FK := Lib.hid (fun n' => rnkeep kind (inB A (E.getD k 0)) (inB B (E.getD k 0)) (wr.drewN n'))
      have km : (k : Int) + 1 = (k1 : Int) := by omega
      have kK : k < K := by omega
      have wk : IntKind.i64.wrap (k1 : Int) = (k1 : Int) := by rw [IntKind.wrap_i64]; omega
      have k0 : (0 : Int) ≤ (k1 : Int) := by omega
      have kK1 : (k1 : Int) < (K : Int) := by omega
      clear PW cs
      generalize E.getD k 0 = x at *
      generalize E.getD k1 0 = y at *
      generalize inB A x = ia at *
      generalize inB B x = ib at *
      generalize hl0 : cbK kind A B E k = l0 at *
      cases t : kpB kind ia ib
      all_goals
        rw [t] at FK st
        clear t hl0
        go_wp2
        go_quiet (first | (go_at_call 37; first | (with_reducible exact qleft (FA.out _)) | exact qleft (FB.out _)) | (go_at_call 72; exact qleft (FK.out _)))
        refine at_world (G := fun W' => Exit.then _ _ Exit.normal _ W') (fun W' => Below wr.heap.size wr W') (below_drewN (here _) _) ?_
        intro W AW
        have OW := Lib.hid (owns_below HO.out AW)
        have BW := Lib.hid (down HW.out AW)
        replace c0 := (AW.cell (p := ⟨b, off + k, none⟩) bl).trans c0
        replace c1 := (AW.cell (p := ⟨b, off + k1, none⟩) bl).trans c1
        have AW2 := AW.size
        clear FA FB FK AW HW HO
      · have st2 : Hid (cbK kind A B E k1 = l0) := by show _ = _; rw [st.out]; rfl
        replace OW : Hid (W.ownsRow w4.heap.size 33 2 s' (cbK kind A B E k1).length (pairs (cbK kind A B E k1))) := by show World.ownsRow _ _ _ _ _ _ _; rw [st2.out]; exact OW.out
        clear c0 c1 st st2
        go_wp2
        go_roundw
        case rel => exact ⟨k1, _, rfl, .inr (by omega), by first | rfl | go_num | (simp; omega), OW, BW⟩
        case measure => simp [intOf]; omega
      · have st2 : Hid (cbK kind A B E k1 = addL l0 (x, y)) := by show _ = _; rw [st.out]; rfl
        have HADD : Calls Try.prog 73 #[s', .agg #[.int .i64 x, .int .i64 y]] W.drew _ := rnadd l0 (by omega) (x, y) w4.heap.size s' W.drew BW.out.size OW.out
        have bz : b < W.heap.size := by have := AW2; omega
        replace HADD := Lib.hid HADD
        clear st
        go_wp2
        go_region_with (go_at_call 73; (with_reducible refine HADD.out.mono ?_); rintro e w5 ⟨⟨v5, rfl, O5⟩, hb5⟩)
        all_goals
          replace O5 : Hid (w5.ownsRow w4.heap.size 33 2 v5 (cbK kind A B E k1).length (pairs (cbK kind A B E k1))) := by show World.ownsRow _ _ _ _ _ _ _; rw [st2.out]; exact O5
          have B5 : Hid (Below w4.heap.size w4 w5) := (Below.drew BW.out).trans hb5
          clear hb5 st2 c0 c1 OW BW
          go_wp2
          go_roundw
          case rel => exact ⟨k1, _, rfl, .inr (by omega), by first | rfl | go_num | (simp; omega), O5, B5⟩
          case measure => simp [intOf]; omega
    · obtain rfl : k = K - 1 := by omega
      have kz : decide (((K - 1 : Nat) : Int) + 1 < (K : Int)) = false := decide_eq_false (by omega)
      obtain ⟨k, hk0⟩ : ∃ k, K - 1 = k := ⟨_, rfl⟩
      rw [hk0] at HO ec kz ⊢
      have kz2 : decide (k + 1 < K) = false := decide_eq_false (by omega)
      have AW := down A4.out (HW.out.mono (Nat.le_refl _))
      replace HO := own_weak HO.out A4.out.size
      rw [← ec.out] at HO
      replace HO := Lib.hid HO
      clear HW ec PE PA PB HA HB AL A4
      go_wp2
      go_ret
      exact ⟨⟨_, rfl, HO.out⟩, AW⟩
end Go.Proofs.Ytdkmahdfnmoliaa
