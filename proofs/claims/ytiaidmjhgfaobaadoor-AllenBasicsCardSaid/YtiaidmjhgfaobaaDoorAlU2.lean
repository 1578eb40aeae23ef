/- The contract of allen.Compose. -/
import Derived.Test.YtiaidmjhgfaobaaDoorAlU1
namespace Go.Proofs.YtiaidmjhgfaobaaDoor
open Go.RowKit Go.Shelf
set_option linter.unusedVariables false
attribute [local go_sem] Oper.semAt_some

theorem kpc_own {β : Type} (b : Nat) (v : Value) (W : World) : Own (fun (_ : β) W' => KpC b v W W') := fun _ _ _ _ hs hg hr c => cell_kept (hs c) hg hr
set_option maxRecDepth 100000 in
set_option maxHeartbeats 4000000 in
theorem uacomp0 (a b : Int) (ha : I64 a) (hb : I64 b) (w : World) (ht : ICm w) :
    Calls Tryd.prog 14 #[.int .i64 a, .int .i64 b] w fun e w' => e = .returned (.int .i64 (cmS a b)) ∧ Below w.heap.size w w' := by
  have HA := Lib.hid (fun w => uaset a ha w)
  have HB := Lib.hid (fun w => uaset b hb w)
  have bB := Boxed.new w 3 (.int .i64 b)
  have A1 := Lib.hid (grow (here w) (.cells #[.int .i64 b] 3))
  cases v : isS a
  · rw [show cmS a b = -1 by unfold cmS; rw [v]; rfl]
    rw [v] at HA
    have cB := bB.cell
    clear bB v
    go_enter Tryd.func14, Tryd.ntmps14
    go_wp2_with fail
    refine (HA.out _).mono ?_
    rintro e w1 ⟨rfl, rfl⟩
    go_wp2
    go_ret
    exact ⟨rfl, A1.out⟩
  rw [v] at HA
  cases u : isS b
  · rw [show cmS a b = -1 by unfold cmS; rw [u, Bool.and_false]; rfl]
    rw [u] at HB
    have cB := bB.cell
    clear bB v u
    go_enter Tryd.func14, Tryd.ntmps14
    go_wp2_with fail
    refine (HA.out _).mono ?_
    rintro e w1 ⟨rfl, rfl⟩
    go_wp2_with fail
    refine (HB.out _).mono ?_
    rintro e w1 ⟨rfl, rfl⟩
    go_wp2
    go_ret
    exact ⟨rfl, A1.out⟩
  rw [u] at HB
  obtain ⟨v0, v1⟩ := isS_iff.1 v
  obtain ⟨u0, u1⟩ := isS_iff.1 u
  obtain ⟨S, rfl⟩ : ∃ S : Nat, a = S := ⟨a.toNat, by omega⟩
  obtain ⟨R, rfl⟩ : ∃ R : Nat, b = R := ⟨b.toNat, by omega⟩
  have hS : S < 8192 := by omega
  have hR : R < 8192 := by omega
  rw [show cmS (S : Int) (R : Int) = (cmF (mbK S 13) (mbK R 13) : Int) by rw [cmF_mb]; unfold cmS; rw [v, u]; rfl]
  clear v v0 v1 u u0 u1 ha hb A1
  have hm : Tryd.prog.follows .mixedOrders = true := by kernel_rfl
  have cB := bB.cell
  refine (callsIn_wide (n := 8)).1 ?_
  refine callsIn_of_wp_marks Tryd.func14 rfl trivial ?_ rfl
  simp only [Tryd.ntmps14, List.size_toArray, List.length_cons, List.length_nil, Nat.reduceAdd, Nat.reduceSub, Array.replicate_succ, Array.replicate_zero, List.push_toArray, List.append_toArray, List.nil_append, List.cons_append]
  gi_wp2_with (first
    | (refine ⟨trivial, ?_⟩; gi_at_call 39; (first | (with_reducible refine (callsIn_wide.2 (HA.out _)).mono ?_) | (with_reducible refine (callsIn_wide.2 (HB.out _)).mono ?_)); rintro e w' ⟨rfl, rfl⟩)
    | (refine ⟨trivial, ?_⟩; gi_at_call 40; refine (mem_in _ _ _).mono ?_; rintro e w' ⟨rfl, rfl⟩))
  have bR := ((bB.alloc (.cells #[.int .i64 0] 3)).alloc (.cells #[.int .i64 S] 3))
  have bC := (Boxed.new (w.alloc (.cells #[.int .i64 R] 3)) 3 (.int .i64 0)).alloc (.cells #[.int .i64 S] 3)
  have bN := Boxed.new ((w.alloc (.cells #[.int .i64 R] 3)).alloc (.cells #[.int .i64 0] 3)) 3 (.int .i64 S)
  simp only [World.size_alloc] at bC bN
  have hB0 : Below w.heap.size w (((w.alloc (.cells #[.int .i64 R] 3)).alloc (.cells #[.int .i64 0] 3)).alloc (.cells #[.int .i64 S] 3)) := grow (grow (grow (here w) _) _) _
  have hsz : (((w.alloc (.cells #[.int .i64 R] 3)).alloc (.cells #[.int .i64 0] 3)).alloc (.cells #[.int .i64 S] 3)).heap.size = w.heap.size + 3 := by simp
  obtain ⟨W0, hW0⟩ : ∃ W0, ((w.alloc (.cells #[.int .i64 R] 3)).alloc (.cells #[.int .i64 0] 3)).alloc (.cells #[.int .i64 S] 3) = W0 := ⟨_, rfl⟩
  rw [hW0] at bR bC bN hB0 hsz ⊢
  clear hW0 cB bB
  refine wpIn_rangeFunc_ownH rfl (by decide) (gf := 59) (lb := #[.pointer (some ⟨w.heap.size + 1 + 1, 0, none⟩)]) rfl trivial (enters_of Tryd.func59 (by kernel_rfl) rfl)
    (mem_stops (8 - 1) (by decide) (w.heap.size + 1 + 1) S hS W0 bN.cell bN.lt) KpC.tr (fun W l o o' _ h hc _ => KpC.put W l o o' h hc) (Below.refl _ _) (fun _ => rfl)
    (fun pre W => (Boxed W (w.heap.size + 1) 3 (.int .i64 (cmF pre (mbK R 13) : Int)) ∧ Boxed W w.heap.size 3 (.int .i64 R)) ∧ Below w.heap.size W0 W)
    (fun _ _ _ => False)
    (OwnFrom.and (OwnFrom.and (Own.from (boxed_own _ _ _) _) (Own.from (boxed_own _ _ _) _)) (ownFrom_below (by omega) (by omega)))
    (fun _ _ _ _ _ hs _ _ => hs)
    ⟨⟨bC, bR⟩, Below.refl _ _⟩
    (fun x a' W => ∃ Bx, w.heap.size + 1 + 1 < Bx ∧ Boxed W Bx 3 (.int .i64 (x.val : Int)) ∧ a' = { tmps := #[.int .i64 S, .int .i64 R, undef, .pointer (some ⟨w.heap.size, 0, none⟩), .int .i64 0, .pointer (some ⟨w.heap.size + 1, 0, none⟩), .pointer (some ⟨Bx, 0, none⟩), undef, .int .i64 S, .bool true, .bool false, .bool false, .int .i64 R, .bool true, .bool false, .bool false, .int .i64 S, .func (.func 59) #[] #[.pointer (some ⟨w.heap.size + 1 + 1, 0, none⟩)], .int .i64 (x.val : Int), undef, undef, undef, undef, undef, undef, undef, undef, undef, undef, undef, undef], defers := [] })
    (fun x a' _ X Y row hs hg hr => by obtain ⟨Bx, h1, h2, h3⟩ := hs; exact ⟨Bx, h1, boxed_own Bx 3 (fun (_ : Unit) => Value.int .i64 (x.val : Int)) () X Y row h2 hg (fun r e => (hr r e).2), h3⟩)
    ?assign ?body ?done ?stop
  case assign =>
    rintro l pre x W K ⟨⟨bC1, bR1⟩, hB1⟩ hK
    have hle := hB1.size
    have lC := bC1.lt
    gi_wp2
    exact hK _ _ ((KeepsOthers.alloc _ _).from _) (KpC.alloc W _) ⟨⟨bC1.alloc _, bR1.alloc _⟩, hB1.alloc (by omega) _⟩ ⟨W.heap.size, by omega, Boxed.new W _ _, rfl⟩
  case body =>
    rintro l pre x a' W hl ⟨r, hr⟩ ⟨⟨bC1, bR1⟩, hB1⟩ ⟨Bx, hBx, bX, rfl⟩ hlt
    have cR := bR1.cell
    gi_wp2_with (refine ⟨trivial, ?_⟩; gi_at_call 40; refine (CallsIn.inRound l (mem_in _ _ _)).mono ?_; rintro e w' ⟨rfl, rfl⟩)
    have hsW := hB1.size
    have lCW := bC1.lt
    have bM := Boxed.new W 3 (.int .i64 R)
    have hr' : (W.alloc (.cells #[.int .i64 R] 3)).heap[l]? = some (.loop r) := (Below.heap_alloc W _ l (Array.getElem?_eq_some_iff.1 hr).1).trans hr
    refine wpIn_rangeFunc_ownN (l₀ := l) (r₀ := r) rfl hr' (by decide) (gf := 59) (lb := #[.pointer (some ⟨W.heap.size, 0, none⟩)]) rfl trivial (enters_of Tryd.func59 (by kernel_rfl) rfl)
      ((mem_stops (8 - 1 - 1 - 1) (by decide) W.heap.size R hR _ bM.cell bM.lt).inRound l) KpC.tr (fun W l o o' _ h hc _ => KpC.put W l o o' h hc) (Below.refl _ _) (fun _ => rfl)
      (fun pre' W' => ((Boxed W' (w.heap.size + 1) 3 (.int .i64 (cmG pre' x (cmF pre (mbK R 13)) : Int)) ∧ Boxed W' Bx 3 (.int .i64 (x.val : Int))) ∧ Boxed W' w.heap.size 3 (.int .i64 R)) ∧ (Below w.heap.size W0 W' ∧ (KeepsFrom W0.heap.size W W' ∧ KpC (w.heap.size + 1 + 1) (.int .i64 S) W W')))
      (fun _ _ _ => False)
      (OwnFrom.and (OwnFrom.and (OwnFrom.and (Own.from (boxed_own _ _ _) _) (Own.from (boxed_own _ _ _) _)) (Own.from (boxed_own _ _ _) _)) (OwnFrom.and (ownFrom_below (by omega) (by simp; omega)) (OwnFrom.and (ownFrom_keepsFrom (by simp)) (Own.from (kpc_own _ _ _) _))))
      (fun _ _ _ _ _ hs _ _ => hs)
      ⟨⟨⟨bC1.alloc _, bX.alloc _⟩, bR1.alloc _⟩, hB1.alloc (by omega) _, (KeepsOthers.alloc _ _).from _, KpC.alloc W _⟩
      (fun y a'' _ => a'' = { tmps := #[.int .i64 S, .int .i64 R, undef, .pointer (some ⟨w.heap.size, 0, none⟩), .int .i64 0, .pointer (some ⟨w.heap.size + 1, 0, none⟩), .pointer (some ⟨Bx, 0, none⟩), .int .i64 (y.val : Int), .int .i64 S, .bool true, .bool false, .bool false, .int .i64 R, .bool true, .bool false, .bool false, .int .i64 S, .func (.func 59) #[] #[.pointer (some ⟨w.heap.size + 1 + 1, 0, none⟩)], .int .i64 (x.val : Int), .int .i64 R, .func (.func 59) #[] #[.pointer (some ⟨W.heap.size, 0, none⟩)], .int .i64 (y.val : Int), undef, undef, undef, undef, undef, undef, undef, undef, undef], defers := [] })
      (fun _ _ _ _ _ _ hs _ _ => hs)
      ?assign2 ?body2 ?done2 ?stop2
    case assign2 =>
      rintro l2 pre' y W' K hi hK
      gi_wp2
      exact hK _ _ (KeepsFrom.refl _ _) (KpC.rf _ _ _) hi rfl
    case body2 =>
      rintro l2 pre' y a'' W' _ _ ⟨⟨⟨bC2, bX2⟩, bR2⟩, hB2, hKF, hKp⟩ rfl _
      have cC := bC2.cell
      have fC := bC2.frozen
      have cX := bX2.cell
      have cT := comp_cell (ht.below (hB0.trans hB2)) x.isLt y.isLt
      have lT := tb_at x.isLt y.isLt
      have x13 := x.isLt
      have y13 := y.isLt
      have lO := cmG_lt pre' x _ (cmF_lt0 pre (mbK R 13))
      have st : Hid (cmG (pre' ++ [y]) x (cmF pre (mbK R 13)) = cmG pre' x (cmF pre (mbK R 13)) ||| tb x.val y.val) := cmG_snoc _ _ _ _
      have lW := bR2.lt
      have lM := bX2.lt
      generalize tb x.val y.val = T at *
      generalize cmG pre' x (cmF pre (mbK R 13)) = o at *
      have e2 := or_i64 o T (by omega) (by omega)
      have eT : IntKind.i64.wrap (T : Int) = (T : Int) := by rw [IntKind.wrap_i64]; omega
      gi_wp2
      gi_region_with_o (fail)
      all_goals gi_wp2
      all_goals exact ⟨((KeepsOthers.drew W').trans (KeepsOthers.setCell _ _ _)).from _, (KpC.drew W').tr (KpC.set _ _ (by omega)),
        ⟨⟨⟨by rw [st.out]; exact (show Boxed W'.drew _ _ _ from bC2).set _, (show Boxed W'.drew _ _ _ from bX2).other (by omega) _⟩, (show Boxed W'.drew _ _ _ from bR2).other (by omega) _⟩, hB2.drew.setCell (p := ⟨w.heap.size + 1, 0, none⟩) (by simp) _, hKF.trans (((KeepsOthers.drew W').trans (KeepsOthers.setCell _ _ _)).from _), hKp.tr ((KpC.drew W').tr (KpC.set _ _ (by omega)))⟩⟩
    case done2 =>
      rintro ys' W' rfl ⟨⟨⟨bC2, bX2⟩, bR2⟩, hB2, hKF, hKp⟩
      gi_wp2
      exact ⟨hKF, hKp, ⟨⟨by rw [cmF_snoc]; exact bC2, bR2⟩, hB2⟩⟩
    case stop2 =>
      rintro c pre' W' _ h
      exact h.elim
  case done =>
    rintro D zs W hD rfl ⟨⟨bC1, bR1⟩, hB1⟩ hK
    have cC := bC1.cell
    gi_wp2
    refine ⟨by simp, .inl ⟨_, _, rfl, run_takeDeferred hK, ?_⟩⟩
    exact ⟨_, results_tmp rfl _ _ _, rfl, (hB0.trans hB1).trans (belowK_b (w := w) (Nat.le_refl _) W D _ _ (by omega) hK rfl rfl)⟩
  case stop =>
    rintro D c pre W _ _ h _
    exact h.elim
end Go.Proofs.YtiaidmjhgfaobaaDoor
