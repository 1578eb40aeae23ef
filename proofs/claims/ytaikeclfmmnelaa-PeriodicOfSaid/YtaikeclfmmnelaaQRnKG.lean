/- Contracts of package runs: Of. -/
import Derived.Test.YtaikeclfmmnelaaQRnKF
namespace Go.Proofs.Ytaikeclfmmnelaa

open Go.RowKit

set_option linter.unusedVariables false

set_option maxRecDepth 100000 in
set_option maxHeartbeats 4000000 in
theorem ruof (va : Value) (A : List Sp) (hA : A.length ≤ 20000) {ba : Nat} (w : World) (a : PairS ba w va A) :
    Calls Try.prog 57 #[va] w fun e w' => (∃ v', e = .returned (.tuple #[v', .int .i64 (ruOf A).2]) ∧ PairS w.heap.size w' v' (ruOf A).1) ∧ Below w.heap.size w w' := by
  obtain ⟨i0, hi, hz0, hz1, hz2⟩ := info_parts infoS
  obtain ⟨o, c, rfl⟩ := prs_shape a
  have PL := Lib.hid a
  have A0 : Hid (Below w.heap.size w w) := here w
  have no : Hid (∀ j, j < A.length → spB (A.getD j (0, 0)) = false → ruOf A = ([], 1)) := fun j hj e => by
    have : spsB A = false := by
      rw [← Bool.not_eq_true]; intro q
      rw [spsB_at.1 q j hj] at e; cases e
    unfold ruOf; rw [this]; rfl
  have yes : Hid ((∀ j, j < A.length → spB (A.getD j (0, 0)) = true) → ruOf A = ruFull (cbL 1 A []) ∧ ∀ p, p ∈ A → p.1 < p.2) := fun h => by
    have q := spsB_at.2 h
    exact ⟨by unfold ruOf; rw [q]; rfl, (sps_of.1 q).2⟩
  clear a
  obtain ⟨n, hl⟩ : ∃ n, A.length = n := ⟨_, rfl⟩
  rw [hl] at hA no yes PL ⊢
  generalize ruOf A = RO at *
  go_enter Try.func57, Try.ntmps57
  go_wp2
  go_loopw [13] (fun i wr => ∃ k : Nat, k ≤ n ∧ i = .int .i64 k ∧ Hid (∀ j, j < k → spB (A.getD j (0, 0)) = true) ∧ Hid (Below w.heap.size w wr)) (fun i _ => n - (intOf i).toNat)
  case atStart => exact ⟨0, Nat.zero_le _, rfl, fun j hj => absurd hj (Nat.not_lt_zero _), A0⟩
  case round =>
    obtain ⟨k, hk, rfl, HU, HA⟩ := hrel
    have HP := Lib.hid (PL.out.keep HA.out)
    clear A0
    by_cases z : k < n
    · have kz : decide ((k : Int) < (n : Int)) = true := decide_eq_true (by omega)
      obtain ⟨b, off, rfl, bl, cs⟩ := prs_here HP.out (show k < A.length by omega)
      obtain ⟨c0, c1⟩ := cs k (by omega)
      have HS := Lib.hid (fun w => riv (A.getD k (0, 0)).1 (A.getD k (0, 0)).2 w)
      have ev : ((A.getD k (0, 0)).1, (A.getD k (0, 0)).2) = A.getD k (0, 0) := rfl
      rw [ev] at HS
      clear cs ev yes
      obtain ⟨u, hu⟩ : ∃ u, spB (A.getD k (0, 0)) = u := ⟨_, rfl⟩
      rw [hu] at HS
      have r0 := no.out k z
      have HU2 : u = true → Hid (∀ j, j < k + 1 → spB (A.getD j (0, 0)) = true) := fun e j hj => by
        rcases Nat.lt_or_ge j k with y | y
        · exact HU.out j y
        · obtain rfl : j = k := by omega
          rw [hu, e]
      rw [hu] at r0
      clear hu no HU
      generalize A.getD k (0, 0) = q at *
      obtain ⟨x, y⟩ := q
      replace HS : Hid (∀ w, Calls Try.prog 54 #[.agg #[.int .i64 x, .int .i64 y]] w fun e w' => e = .returned (.bool u) ∧ Below w.heap.size w w') := HS
      replace c0 : wr.cell? ⟨b, off + k * 2, none⟩ = some (.int .i64 x) := c0
      replace c1 : wr.cell? ⟨b, off + k * 2 + 1, none⟩ = some (.int .i64 y) := c1
      obtain ⟨b0, b1, bl2⟩ := Two.new (here (wr.alloc (.cells #[.int .i64 x, .int .i64 y] 37)))
      cases u
      · have r2 := Lib.hid (r0 rfl)
        clear r0 HU2
        go_wp2_with fail
        refine (HS.out _).mono ?_
        rintro e w1 ⟨rfl, hb⟩
        have A1 := Lib.hid (down (grow HA.out _) hb)
        clear hb HA HP c0 c1 bl b0 b1 bl2
        go_wp2
        go_ret2
        rw [r2.out]
        exact ⟨⟨_, rfl, Sl.none _ _⟩, A1.out⟩
      · have HU3 := HU2 rfl
        clear r0 HU2
        go_wp2_with fail
        refine (HS.out _).mono ?_
        rintro e w1 ⟨rfl, hb⟩
        have A1 := Lib.hid (down (grow HA.out _) hb)
        clear hb HA HP c0 c1 bl b0 b1 bl2
        go_wp2
        go_roundw
        case rel => exact ⟨k + 1, by omega, by go_num, HU3, A1⟩
        case measure => simp [intOf]; omega
    · have kz : decide ((k : Int) < (n : Int)) = false := decide_eq_false (by omega)
      obtain rfl : k = n := by omega
      obtain ⟨y1, y2⟩ := yes.out HU.out
      have HC := Lib.hid (ruclone _ A k hl (by omega) wr HP.out)
      replace y2 := Lib.hid y2
      have r0 := Lib.hid y1
      clear yes no HU y1 z
      go_wp2_with fail
      refine HC.out.mono ?_
      rintro e w1 ⟨v1, rfl, O1, hb1⟩
      have HT := Lib.hid (rusort A k hl (by omega) v1 w1 O1 w (down HA.out hb1) HA.out.size)
      clear O1 hb1 HC HP
      go_wp2_with fail
      refine HT.out.mono ?_
      rintro e w2 ⟨rfl, M, P2, M1, M2, M3, A2⟩
      have MG := mg_of M2 y2.out M3
      rw [M1] at MG
      have r3 : Hid (RO = ruFull (mgK M k)) := by show _ = _; rw [MG]; exact r0.out
      replace P2 := Lib.hid P2
      replace A2 := Lib.hid A2
      clear HT r0 y2 M2 M3 MG HA
      obtain ⟨o2, c2, rfl⟩ := prs_shape P2.out
      rw [M1] at P2 ⊢
      have I0 : Hid (w2.ownsRow w2.heap.size 37 2 (.slice none 0 0) (mgK M 0).length (pairs (mgK M 0))) := World.ownsRow_nil _ _ _ _
      have L0 : Hid (Below w2.heap.size w2 w2) := here w2
      have sz2 := A2.out.size
      go_wp2
      go_loopw [7, 27] (fun s i wr => ∃ (t r : Nat) (s' : Value), s' = s ∧ t ≤ k ∧ r ≤ t ∧ i = .int .i64 t ∧ Hid ((mgK M t).length = r ∧ wr.ownsRow w2.heap.size 37 2 s r (pairs (mgK M t))) ∧ Hid (Below w2.heap.size w2 wr)) (fun _ i _ => k - (intOf i).toNat)
      case atStart => exact ⟨0, 0, _, rfl, Nat.zero_le _, Nat.le_refl _, rfl, ⟨rfl, I0.out⟩, L0⟩
      case round =>
        obtain ⟨t, r, s', rfl, ht, rt, rfl, ⟨HR, HO⟩, HL⟩ := hrel
        clear I0 L0
        have HQ := Lib.hid (P2.out.keep HL.out)
        by_cases z : t < k
        · have kz : decide ((t : Int) < (k : Int)) = true := decide_eq_true (by omega)
          obtain ⟨k1, hk1⟩ : ∃ k1, t + 1 = k1 := ⟨_, rfl⟩
          obtain ⟨b, off, rfl, bl, cs⟩ := prs_here HQ.out (show t < M.length by omega)
          obtain ⟨c0, c1⟩ := cs t (by omega)
          have st : mgK M k1 = mgS (mgK M t) (M.getD t (0, 0)) := by rw [← hk1]; rfl
          clear cs
          generalize mgK M t = R at *
          generalize M.getD t (0, 0) = q at *
          obtain ⟨x, y⟩ := q
          replace c0 : wr.cell? ⟨b, off + t * 2, none⟩ = some (.int .i64 x) := c0
          replace c1 : wr.cell? ⟨b, off + t * 2 + 1, none⟩ = some (.int .i64 y) := c1
          have H1 := HO.alloc (.cells #[.int .i64 x, .int .i64 y] 37)
          obtain ⟨x0, x1, xl⟩ := Two.new (here (wr.alloc (.cells #[.int .i64 x, .int .i64 y] 37)))
          rcases snoc_cases R with rfl | ⟨R', p, rfl⟩
          · obtain rfl : r = 0 := by simpa using HR.symm
            rw [mg_nil] at st
            replace st := Lib.hid st
            obtain ⟨ao, cp, rfl⟩ := (Sl.owns HO).shape
            replace H1 := Lib.hid H1
            clear HO HR
            go_wp2
            go_quiet (fail)
            refine at_world (G := fun W' => Exit.then _ _ Exit.normal _ W') (fun W' => Below wr.heap.size wr W' ∧ Two W' wr.heap.size (.int .i64 x) (.int .i64 y) ∧ W'.ownsRow w2.heap.size 37 2 (.slice ao 0 cp) 0 (pairs ([] : List Sp))) ⟨below_drewN (grow (here wr) _) _, Two.drewN (Two.new (here _)) _, H1.out⟩ ?_
            rintro w6 ⟨W6, X6, O6⟩
            have L6 := Lib.hid (down HL.out W6)
            replace O6 := Lib.hid O6
            replace X6 := Lib.hid X6
            clear HL W6 H1 c0 c1 bl x0 x1 xl HQ
            obtain ⟨x0, x1, xl⟩ := X6.out
            go_wp2_with (at_builtin; refine wpList_append_own _ rfl _ _ 22 rfl w2.heap.size 37 i0 (.agg #[.int .i64 0, .int .i64 0]) 2 16 Try.underlying22 hi hz0 hz1 hz2 rfl (by decide) (.slice ao 0 cp) 0 (pairs ([] : List Sp)) rfl (O6.out.alloc _) ⟨w6.heap.size, 0, none⟩ 1 1 [.int .i64 x, .int .i64 y] rfl rfl ?c1 ?c2 ?c3 ?c4 ?c5 ?_)
            case c1 => intro j u hj; rw [Addr.add_lit, Nat.zero_add, World.cell?_alloc_new]; simpa using hj
            case c2 => intro u hu; simp at hu; rcases hu with rfl | rfl <;> rfl
            case c3 => unfold maxLen; omega
            case c4 => omega
            case c5 => have := L6.out.size; simp; omega
            intro v7 w7 hown hgrow _
            have L7 : Hid (Below w2.heap.size w2 w7) := (L6.out.alloc L6.out.size _).grown hgrow (by have := L6.out.size; simp; omega) (own_ge O6.out)
            have O7 : Hid ((mgK M k1).length = 1 ∧ w7.ownsRow w2.heap.size 37 2 v7 1 (pairs (mgK M k1))) := ⟨by rw [st.out]; rfl, by rw [st.out]; exact hown⟩
            clear hown hgrow O6 L6 st X6 x0 x1 xl
            go_wp2
            go_roundw
            case rel => exact ⟨k1, 1, _, rfl, by omega, by omega, by first | rfl | (congr 1; omega) | go_num, O7, L7⟩
            case measure => simp [intOf]; omega
          · have len : (R' ++ [p]).length = R'.length + 1 := by simp
            obtain ⟨m, hm⟩ : ∃ m, R'.length = m := ⟨_, rfl⟩
            have hK : m + 1 = r := by omega
            obtain ⟨g, cp, rfl⟩ : ∃ g cp, s' = .slice (some ⟨g, 0, none⟩) r cp := by
              rcases HO.2 with ⟨-, h0⟩ | ⟨g, cp, cur, e, -⟩
              · omega
              · exact ⟨g, cp, e⟩
            have gl := H1.lt g rfl
            have c2' : (wr.alloc (.cells #[.int .i64 x, .int .i64 y] 37)).cell? ⟨g, m * 2 + 1, none⟩ = some (.int .i64 p.2) := by
              have := (pairs_get (R' ++ [p]) R'.length (by simp)).2
              rw [hm] at this
              rw [H1.cellAt _ (by omega), Nat.mul_comm, this, ← hm]; simp
            have f1 := H1.frozenAt (m * 2 + 1)
            rw [mg_snoc] at st
            have k1' : (r : Int) - 1 = m := by omega
            have k2 : decide (0 ≤ (m : Int)) = true := decide_eq_true (by omega)
            have k3 : decide (0 ≤ m) = true := decide_eq_true (by omega)
            have km : ((m : Nat) : Int) < (r : Int) := by omega
            by_cases e : x ≤ p.2
            · have ke := decide_eq_true e
              rw [if_pos e] at st
              obtain ⟨v, hv⟩ : ∃ v, max p.2 y = v := ⟨_, rfl⟩
              have st' : mgK M k1 = R' ++ [(p.1, v)] := by
                rw [st]
                show R' ++ [(p.1, if p.2 < y then y else p.2)] = _
                rw [show (if p.2 < y then y else p.2) = v by rw [← hv]; split <;> omega]
              replace st := Lib.hid st'
              replace H1 := Lib.hid H1
              clear HO e st'
              go_wp2
              go_quiet (fail)
              refine at_world (G := fun W' => Exit.then _ _ Exit.normal _ W') (fun W' => Below wr.heap.size wr W' ∧ Two W' wr.heap.size (.int .i64 x) (.int .i64 y) ∧ W'.ownsRow w2.heap.size 37 2 (.slice (some ⟨g, 0, none⟩) r cp) r (pairs (R' ++ [p]))) ⟨below_drewN (grow (here wr) _) _, Two.drewN (Two.new (here _)) _, H1.out⟩ ?_
              rintro w6 ⟨W6, X6, O6⟩
              have L6 := Lib.hid (down HL.out W6)
              replace O6 := Lib.hid O6
              replace X6 := Lib.hid X6
              clear HL W6 H1 c0 c1 bl x0 x1 xl HQ c2' f1
              have gl6 := O6.out.lt g rfl
              have c2' : w6.cell? ⟨g, m * 2 + 1, none⟩ = some (.int .i64 p.2) := by
                have := (pairs_get (R' ++ [p]) R'.length (by simp)).2
                rw [hm] at this
                rw [O6.out.cellAt _ (by omega), Nat.mul_comm, this, ← hm]; simp
              have f1 := O6.out.frozenAt (m * 2 + 1)
              have ST := Lib.hid (fun n => World.ownsRow.stored (w := w6.drewN n) O6.out (m * 2 + 1) (.int .i64 v))
              have ps := pairs_set R' p v
              rw [hm] at ps
              rw [ps] at ST
              obtain ⟨x0, x1, xl⟩ := X6.out
              clear ps
              go_wp2
              go_region
              obtain ⟨w7, hw7⟩ : ∃ w7 : World, (w6.setCell ⟨g, m * 2 + 1, none⟩ (.int .i64 v)).drew = w7 := ⟨_, rfl⟩
              have O7 : Hid ((mgK M k1).length = r ∧ w7.ownsRow w2.heap.size 37 2 (.slice (some ⟨g, 0, none⟩) r cp) r (pairs (mgK M k1))) := ⟨by rw [st.out]; simp; omega, by rw [st.out, ← hw7]; exact (ST.out 1).1⟩
              have L7 : Hid (Below w2.heap.size w2 w7) := by show Below _ _ _; rw [← hw7]; exact (L6.out.setCell (p := ⟨g, m * 2 + 1, none⟩) gl6.1 _).drew
              rw [hw7]
              clear hw7 ST O6 L6 st X6 x0 x1 xl c2' f1 HR gl6 gl
              go_wp2
              go_roundw
              case rel => exact ⟨k1, r, _, rfl, by omega, by omega, by first | rfl | (congr 1; omega) | go_num, O7, L7⟩
              case measure => simp [intOf]; omega
            · have ke := decide_eq_false e
              rw [if_neg e] at st
              replace st := Lib.hid st
              replace H1 := Lib.hid H1
              clear HO e
              go_wp2
              go_quiet (fail)
              refine at_world (G := fun W' => Exit.then _ _ Exit.normal _ W') (fun W' => Below wr.heap.size wr W' ∧ Two W' wr.heap.size (.int .i64 x) (.int .i64 y) ∧ W'.ownsRow w2.heap.size 37 2 (.slice (some ⟨g, 0, none⟩) r cp) r (pairs (R' ++ [p]))) ⟨below_drewN (grow (here wr) _) _, Two.drewN (Two.new (here _)) _, H1.out⟩ ?_
              rintro w6 ⟨W6, X6, O6⟩
              have L6 := Lib.hid (down HL.out W6)
              replace O6 := Lib.hid O6
              replace X6 := Lib.hid X6
              clear HL W6 H1 c0 c1 bl x0 x1 xl HQ c2' f1 gl
              obtain ⟨x0, x1, xl⟩ := X6.out
              go_wp2_with (at_builtin; refine wpList_append_own _ rfl _ _ 22 rfl w2.heap.size 37 i0 (.agg #[.int .i64 0, .int .i64 0]) 2 16 Try.underlying22 hi hz0 hz1 hz2 rfl (by decide) (.slice (some ⟨g, 0, none⟩) r cp) r (pairs (R' ++ [p])) rfl (O6.out.alloc _) ⟨w6.heap.size, 0, none⟩ 1 1 [.int .i64 x, .int .i64 y] rfl rfl ?c1 ?c2 ?c3 ?c4 ?c5 ?_)
              case c1 => intro j u hj; rw [Addr.add_lit, Nat.zero_add, World.cell?_alloc_new]; simpa using hj
              case c2 => intro u hu; simp at hu; rcases hu with rfl | rfl <;> rfl
              case c3 => unfold maxLen; omega
              case c4 => omega
              case c5 => have := L6.out.size; simp; omega
              intro v7 w7 hown hgrow _
              have L7 : Hid (Below w2.heap.size w2 w7) := (L6.out.alloc L6.out.size _).grown hgrow (by have := L6.out.size; simp; omega) (own_ge O6.out)
              have O7 : Hid ((mgK M k1).length = r + 1 ∧ w7.ownsRow w2.heap.size 37 2 v7 (r + 1) (pairs (mgK M k1))) := ⟨by rw [st.out, List.length_append, HR]; rfl, by rw [st.out, pairs_append]; exact hown⟩
              clear hown hgrow O6 L6 st X6 x0 x1 xl HR
              go_wp2
              go_roundw
              case rel => exact ⟨k1, (r + 1), _, rfl, by omega, by omega, by first | rfl | (congr 1; omega) | go_num, O7, L7⟩
              case measure => simp [intOf]; omega
        · have kz : decide ((t : Int) < (k : Int)) = false := decide_eq_false (by omega)
          obtain rfl : t = k := by omega
          obtain ⟨o3, c3, rfl⟩ := (Sl.owns HO).shape
          have LI := Lib.hid (fun W => rulimited o3 r c3 (by unfold maxLen; omega) W)
          have FU : Hid (ruFull (mgK M t) = if 2000 < r then ([], 5) else (mgK M t, 0)) := by show _ = _; unfold ruFull; rw [HR]
          have P5 : Hid (PairS w.heap.size wr (.slice o3 r c3) (mgK M t)) := by show Sl _ _ _ _ _; rw [HR]; exact Sl.owns (own_weak HO sz2)
          have A5 := Lib.hid (A2.out.trans (HL.out.mono sz2))
          clear HO HR z HQ
          by_cases u : 2000 < r
          · rw [if_pos u] at LI FU
            clear u
            go_wp2_with fail
            refine (LI.out _).mono ?_
            rintro e w5 ⟨rfl, rfl⟩
            go_wp2
            go_ret2
            rw [r3.out, FU.out]
            exact ⟨⟨_, rfl, Sl.none _ _⟩, A5.out⟩
          · rw [if_neg u] at LI FU
            clear u
            go_wp2_with fail
            refine (LI.out _).mono ?_
            rintro e w5 ⟨rfl, rfl⟩
            go_wp2
            go_ret2
            rw [r3.out, FU.out]
            exact ⟨⟨_, rfl, P5.out⟩, A5.out⟩
end Go.Proofs.Ytaikeclfmmnelaa
