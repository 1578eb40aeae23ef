/- Contracts of civiltimeref12: Add. -/
import Derived.Test.YtdkmahdfnmoliaaRnU
import Derived.Deep.RegionWith
import Derived.Deep.RegionHeld3
namespace Go.Proofs.Ytdkmahdfnmoliaa
open Go.RowKit
set_option linter.unusedVariables false

theorem infoS : (Try.prog.info? 33).map (fun i => (i.zero, i.size, i.bytes)) = some (some (.agg #[.int .i64 0, .int .i64 0]), 2, 16) := by kernel_rfl
theorem pairs_set (R : List Sp) (q : Sp) (y : Int) : (pairs (R ++ [q])).set (R.length * 2 + 1) (.int .i64 y) = pairs (R ++ [(q.1, y)]) := by
  induction R with
  | nil => rfl
  | cons p R ih =>
    have e : (p :: R).length * 2 + 1 = (R.length * 2 + 1) + 1 + 1 := by simp; omega
    rw [e]
    show Value.int .i64 p.1 :: Value.int .i64 p.2 :: (pairs (R ++ [q])).set (R.length * 2 + 1) (.int .i64 y) = _
    rw [ih]; rfl
set_option maxRecDepth 100000 in
set_option maxHeartbeats 1000000 in
theorem rnadd (l : List Sp) (hn : l.length ≤ 1000000) (s : Sp) (B : Nat) (v : Value) (w : World) (hB : B ≤ w.heap.size) (h : w.ownsRow B 33 2 v l.length (pairs l)) :
    Calls Try.prog 73 #[v, .agg #[.int .i64 s.1, .int .i64 s.2]] w fun e w' => (∃ v', e = .returned v' ∧ w'.ownsRow B 33 2 v' (addL l s).length (pairs (addL l s))) ∧ Below B w w' := by
  obtain ⟨i0, hi, hz0, hz1, hz2⟩ := info_parts infoS
  obtain ⟨x, y⟩ := s
  have W1 := grow (here w) (.cells #[.int .i64 x, .int .i64 y] 33)
  obtain ⟨x0, x1, xl⟩ := Two.new (here (w.alloc (.cells #[.int .i64 x, .int .i64 y] 33)))
  replace W1 := Lib.hid W1
  rcases snoc_cases l with rfl | ⟨R, q, rfl⟩
  · replace h : w.ownsRow B 33 2 v 0 [] := h
    have H1 := Lib.hid (h.alloc (.cells #[.int .i64 x, .int .i64 y] 33))
    obtain ⟨ao, cp, rfl⟩ := (Sl.owns h).shape
    clear h
    go_enter Try.func73, Try.ntmps73
    go_wp2
    go_quiet (fail)
    refine at_world (G := fun W' => Exit.then _ _ Exit.normal _ W') (fun W' => Below w.heap.size w W' ∧ Two W' w.heap.size (.int .i64 x) (.int .i64 y) ∧ W'.ownsRow B 33 2 (.slice ao 0 cp) 0 []) ⟨below_drewN W1.out _, Two.drewN ⟨x0, x1, xl⟩ _, H1.out⟩ ?_
    rintro W ⟨AW, ⟨y0, y1, yl⟩, OW⟩
    replace AW := Lib.hid AW
    replace OW := Lib.hid OW
    clear x0 x1 xl W1 H1
    go_wp2_with (at_builtin; refine wpList_append_own _ rfl _ _ 22 rfl B 33 i0 (.agg #[.int .i64 0, .int .i64 0]) 2 16 Try.underlying22 hi hz0 hz1 hz2 rfl (by decide) (.slice ao 0 cp) 0 [] rfl (OW.out.alloc _) ⟨W.heap.size, 0, none⟩ 1 1 [.int .i64 x, .int .i64 y] rfl rfl ?c1 ?c2 ?c3 ?c4 ?c5 ?_)
    case c1 => intro j u hj; rw [Addr.add_lit, Nat.zero_add, World.cell?_alloc_new]; simpa using hj
    case c2 => intro u hu; simp at hu; rcases hu with rfl | rfl <;> rfl
    case c3 => unfold maxLen; omega
    case c4 => omega
    case c5 => have := AW.out.size; simp; omega
    intro v3 w3 hown hgrow _
    have A3 : Hid (Below B w w3) := ((AW.out.mono hB).alloc (by have := AW.out.size; omega) _).grown hgrow (by have := AW.out.size; simp; omega) (own_ge OW.out)
    have O3 : Hid (w3.ownsRow B 33 2 v3 (addL [] (x, y)).length (pairs (addL [] (x, y)))) := by
      exact hown
    clear hown hgrow OW AW
    go_wp2
    go_ret
    exact ⟨⟨_, rfl, O3.out⟩, A3.out⟩
  · have H1 := h.alloc (.cells #[.int .i64 x, .int .i64 y] 33)
    obtain ⟨g, cp, rfl⟩ : ∃ g cp, v = .slice (some ⟨g, 0, none⟩) (R.length + 1) cp := by
      rcases h.2 with ⟨-, h0⟩ | ⟨g, cp, cur, e, -⟩
      · simp at h0
      · exact ⟨g, cp, by rw [e]; simp⟩
    have len : (R ++ [q]).length = R.length + 1 := by simp
    clear h
    rw [len] at H1 hn
    have gl := H1.lt g rfl
    have c0 : (w.alloc (.cells #[.int .i64 x, .int .i64 y] 33)).cell? ⟨g, R.length * 2, none⟩ = some (.int .i64 q.1) := by
      have := (pairs_get (R ++ [q]) R.length (by simp)).1
      rw [H1.cellAt _ (by omega), Nat.mul_comm, this]; simp
    have c1 : (w.alloc (.cells #[.int .i64 x, .int .i64 y] 33)).cell? ⟨g, R.length * 2 + 1, none⟩ = some (.int .i64 q.2) := by
      have := (pairs_get (R ++ [q]) R.length (by simp)).2
      rw [H1.cellAt _ (by omega), Nat.mul_comm, this]; simp
    have f1 := H1.frozenAt (R.length * 2 + 1)
    have ST := Lib.hid (fun n => World.ownsRow.stored (w := (w.alloc (.cells #[.int .i64 x, .int .i64 y] 33)).drewN n) H1 (R.length * 2 + 1) (.int .i64 y))
    replace H1 := Lib.hid H1
    obtain ⟨m, hm⟩ : ∃ m, R.length = m := ⟨_, rfl⟩
    rw [hm] at c0 c1 f1 hn H1 ST ⊢
    obtain ⟨K, hK⟩ : ∃ K : Nat, m + 1 = K := ⟨_, rfl⟩
    rw [hK] at H1 hn ST ⊢
    have kz : decide (0 < (K : Int)) = true := decide_eq_true (by omega)
    have kz2 : decide (0 < K) = true := decide_eq_true (by omega)
    have k1 : (K : Int) - 1 = m := by omega
    have km : ((m : Nat) : Int) < (K : Int) := by omega
    by_cases z : q.2 = x
    · have kq : (q.2 == x) = true := beq_iff_eq.2 z
      go_enter Try.func73, Try.ntmps73
      have vl : addL (R ++ [q]) (x, y) = R ++ [(q.1, y)] := by rw [add_snoc, if_pos z]
      have ln : (R ++ [(q.1, y)]).length = K := by simp; omega
      have ps := pairs_set R q y
      rw [hm] at ps
      rw [ps] at ST
      rw [vl, ln]
      replace W1 := Lib.hid (W1.out.mono hB)
      clear ps vl ln
      go_wp2
      go_quiet (fail)
      go_wp2
      go_ret
      exact ⟨⟨_, rfl, (ST.out _).1⟩, (below_drewN W1.out _).setCell (p := ⟨g, m * 2 + 1, none⟩) gl.1 _⟩
    · have kq : (q.2 == x) = false := by rw [beq_eq_false_iff_ne]; exact z
      go_enter Try.func73, Try.ntmps73
      go_wp2
      go_quiet (fail)
      refine at_world (G := fun W' => Exit.then _ _ Exit.normal _ W') (fun W' => Below w.heap.size w W' ∧ Two W' w.heap.size (.int .i64 x) (.int .i64 y) ∧ W'.ownsRow B 33 2 (.slice (some ⟨g, 0, none⟩) K cp) K (pairs (R ++ [q]))) ⟨below_drewN W1.out _, Two.drewN ⟨x0, x1, xl⟩ _, H1.out⟩ ?_
      rintro W ⟨AW, ⟨y0, y1, yl⟩, OW⟩
      replace AW := Lib.hid AW
      replace OW := Lib.hid OW
      clear x0 x1 xl W1 H1 c0 c1 f1 ST
      go_wp2_with (at_builtin; refine wpList_append_own _ rfl _ _ 22 rfl B 33 i0 (.agg #[.int .i64 0, .int .i64 0]) 2 16 Try.underlying22 hi hz0 hz1 hz2 rfl (by decide) (.slice (some ⟨g, 0, none⟩) K cp) K (pairs (R ++ [q])) rfl (OW.out.alloc _) ⟨W.heap.size, 0, none⟩ 1 1 [.int .i64 x, .int .i64 y] rfl rfl ?c1 ?c2 ?c3 ?c4 ?c5 ?_)
      case c1 => intro j u hj; rw [Addr.add_lit, Nat.zero_add, World.cell?_alloc_new]; simpa using hj
      case c2 => intro u hu; simp at hu; rcases hu with rfl | rfl <;> rfl
      case c3 => unfold maxLen; omega
      case c4 => omega
      case c5 => have := AW.out.size; simp; omega
      intro v3 w3 hown hgrow _
      have A3 : Hid (Below B w w3) := ((AW.out.mono hB).alloc (by have := AW.out.size; omega) _).grown hgrow (by have := AW.out.size; simp; omega) (own_ge OW.out)
      have O3 : Hid (w3.ownsRow B 33 2 v3 (addL (R ++ [q]) (x, y)).length (pairs (addL (R ++ [q]) (x, y)))) := by
        show World.ownsRow _ _ _ _ _ _ _; rw [add_snoc, if_neg z, pairs_append, show (R ++ [q] ++ [(x, y)]).length = K + 1 by simp; omega]; exact hown
      clear hown hgrow OW AW
      go_wp2
      go_ret
      exact ⟨⟨_, rfl, O3.out⟩, A3.out⟩
end Go.Proofs.Ytdkmahdfnmoliaa
