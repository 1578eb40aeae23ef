/- The contract of allen.Text. -/
import Derived.Test.YtiaidmjhgfaobaaDoorAlU1
import Derived.Test.YtiaidmjhgfaobaaDoorShelfFive
namespace Go.Proofs.YtiaidmjhgfaobaaDoor
open Go.RowKit Go.Shelf
set_option linter.unusedVariables false
attribute [local go_sem] Oper.semAt_some

theorem stepIn_append_own {F : Fence} {n : Nat} {P : Program} (w : World) {ops : Array Oper} {o : Oper} {a : Act} {Q : Exit → Act → World → Prop} {K : Act → World → Prop} {E : Prop}
    (hg : o.guard = none) (s x : Operand) (t : TypeId) (hop : o.op = Op.call { callee := Callee.builtin Builtin.append, args := #[s, x], argTypes := #[t, t] })
    (base : Nat) (e : TypeId) (i : TypeInfo) (z : Value) (size bytes : Nat) (h1 : P.underlying t = some (.slice e)) (h2 : P.info? e = some i) (h3 : i.zero = some z) (h4 : i.size = size) (h5 : i.bytes = bytes) (h6 : z.cells.size = size) (h7 : 0 < size)
    (v : Value) (k : Nat) (xs : List Value) (hs : a.eval s = v) (hown : w.ownsRow base e size v k xs) (ad : Addr) (m c : Nat) (news : List Value) (hx : a.eval x = .slice (some ad) m c) (hn : news.length = m * size)
    (hc : ∀ j u, news[j]? = some u → w.cell? (ad.add j) = some u) (h1c : ∀ u ∈ news, u.oneCell' = true) (b1 : k + m ≤ maxLen) (b2 : (k + m) * bytes ≤ 140737488355328) (b3 : base ≤ w.heap.size)
    (hK : ∀ v' w', w'.ownsRow base e size v' (k + m) (xs ++ news) → w.grownBy w' v.ownBlock → (v' = .slice none 0 0 ↔ v = .slice none 0 0 ∧ m = 0) → K (a.put o.dst v') w') :
    if Region.wanted o (yielded ops a.tmps) = true then Oper.wpIn F n P o a w K Q else E := by
  have hw : Region.wanted o (yielded ops a.tmps) = true := by simp [Region.wanted, hg]
  rw [if_pos hw]
  obtain ⟨v', w', hrun, r1, r2, r3⟩ := run_append_own (P := P) w base t o.type e i z size bytes h1 h2 h3 h4 h5 h6 h7 v k xs hown ad m c news hn hc h1c b1 b2 b3
  unfold Oper.wpIn
  refine ⟨?_, ?_⟩
  · simp [Oper.about, hop, resolve, Target.leads, Sem.run_pure]
  · rw [Oper.semAt_plain F _ _ (by rw [hop]; intro c hc'; cases hc')]
    simp [execOp, hop, resolve, invoke, builtin, hs, hx, hrun, Result.andThen]
    exact hK v' w' r1 r2 r3
theorem uname (r : Fin 13) (w : World) (ht : INm w) :
    Calls Tryd.prog 37 #[.int .i64 (r.val : Int)] w fun e w' => e = .returned (.string (nmV r.val)) ∧ w = w' := by
  have hr := r.isLt
  have HR := Lib.hid (fun w => iurel (r.val : Int) ⟨by omega, by omega⟩ w)
  rw [isR_iff.2 (by omega)] at HR
  have cc := names_cell ht r.val hr
  have k13 : (r.val : Int) < 13 := by omega
  clear ht
  generalize nmV r.val = S at *
  generalize r.val = k at *
  go_enter Tryd.func37, Tryd.ntmps37
  go_wp2_with fail
  refine (HR.out _).mono ?_
  rintro e wz ⟨rfl, rfl⟩
  go_wp2
  go_ret
  exact ⟨rfl, rfl⟩
theorem infoStr : (Tryd.prog.info? 9).map (fun i => (i.zero, i.size, i.bytes)) = some (some (.string ⟨#[]⟩), 1, 16) := by kernel_rfl
set_option maxRecDepth 100000 in
set_option maxHeartbeats 4000000 in
theorem uatext0 (s : Int) (hs : I64 s) (w : World) (ht : INm w) :
    Calls Tryd.prog 27 #[.int .i64 s] w fun e w' => e = .returned (.string ⟨(txB s).toArray⟩) ∧ Below w.heap.size w w' := by
  have HI := Lib.hid (fun w => uaset s hs w)
  cases v : isS s
  · have n0 : ¬ s = 0 := fun e => by subst e; simp [isS] at v
    have n1 : ¬ s = 8191 := fun e => by subst e; simp [isS] at v
    rw [show txB s = [] by unfold txB; rw [if_neg n0, if_neg n1, show sgV s = [] by unfold sgV; rw [v]; rfl]; rfl]
    rw [v] at HI
    clear n0 n1
    go_enter Tryd.func27, Tryd.ntmps27
    go_wp2_with fail
    refine (HI.out _).mono ?_
    rintro e w1 ⟨rfl, rfl⟩
    go_wp2
    go_ret
    exact ⟨rfl, here w⟩
  rw [v] at HI
  by_cases z0 : s = 0
  · have k0 : (s == 0) = true := beq_iff_eq.2 z0
    rw [show txB s = [110, 111, 110, 101] by unfold txB; rw [if_pos z0]]
    clear z0
    go_enter Tryd.func27, Tryd.ntmps27
    go_wp2_with fail
    refine (HI.out _).mono ?_
    rintro e w1 ⟨rfl, rfl⟩
    go_wp2
    go_ret
    exact ⟨rfl, here w⟩
  have k0 : (s == 0) = false := by rw [beq_eq_false_iff_ne]; exact z0
  by_cases z1 : s = 8191
  · have k1 : (s == 8191) = true := beq_iff_eq.2 z1
    rw [show txB s = [97, 110, 121] by unfold txB; rw [if_neg z0, if_pos z1]]
    clear z0 z1
    go_enter Tryd.func27, Tryd.ntmps27
    go_wp2_with fail
    refine (HI.out _).mono ?_
    rintro e w1 ⟨rfl, rfl⟩
    go_wp2
    go_ret
    exact ⟨rfl, here w⟩
  have k1 : (s == 8191) = false := by rw [beq_eq_false_iff_ne]; exact z1
  obtain ⟨v0, v1⟩ := isS_iff.1 v
  obtain ⟨S, rfl⟩ : ∃ S : Nat, s = S := ⟨s.toNat, by omega⟩
  have hS : S < 8192 := by omega
  have TX : Hid (txB (S : Int) = Lib.join ((nmF (mbK S 13)).map (·.data.toList)) [124]) := by
    show _ = _
    rw [text_names]
    unfold txB
    rw [if_neg z0, if_neg z1, show sgV (S : Int) = sgL S 13 by unfold sgV; rw [v]; rfl]
  have NE : Hid (1 ≤ (nmF (mbK S 13)).length) := by
    show 1 ≤ _
    rw [nmF_len]
    rcases Nat.eq_zero_or_pos (mbK S 13).length with h | h
    · exact absurd (mb_nil hS (List.length_eq_zero_iff.1 h)) (by omega)
    · exact h
  clear v v0 v1 hs z0 z1
  obtain ⟨i0, hi, hz0, hz1, hz2⟩ := info_parts infoStr
  have hm : Tryd.prog.follows .mixedOrders = true := by kernel_rfl
  refine (callsIn_wide (n := 8)).1 ?_
  refine callsIn_of_wp_marks Tryd.func27 rfl trivial ?_ rfl
  simp only [Tryd.ntmps27, List.size_toArray, List.length_cons, List.length_nil, Nat.reduceAdd, Nat.reduceSub, Array.replicate_succ, Array.replicate_zero, List.push_toArray, List.append_toArray, List.nil_append, List.cons_append]
  gi_wp2_with (first
    | (refine ⟨trivial, ?_⟩; gi_at_call 39; refine (callsIn_wide.2 (HI.out _)).mono ?_; rintro e w' ⟨rfl, rfl⟩)
    | (refine ⟨trivial, ?_⟩; gi_at_call 40; refine (mem_in _ _ _).mono ?_; rintro e w' ⟨rfl, rfl⟩))
  have bO := (Boxed.new w 60 (.slice none 0 0)).alloc (.cells #[.int .i64 S] 3)
  have bN := Boxed.new (w.alloc (.cells #[.slice none 0 0] 60)) 3 (.int .i64 S)
  simp only [World.size_alloc] at bN
  have hB0 : Below w.heap.size w ((w.alloc (.cells #[.slice none 0 0] 60)).alloc (.cells #[.int .i64 S] 3)) := grow (grow (here w) _) _
  have hsz : ((w.alloc (.cells #[.slice none 0 0] 60)).alloc (.cells #[.int .i64 S] 3)).heap.size = w.heap.size + 2 := by simp
  obtain ⟨W0, hW0⟩ : ∃ W0, ((w.alloc (.cells #[.slice none 0 0] 60)).alloc (.cells #[.int .i64 S] 3)) = W0 := ⟨_, rfl⟩
  rw [hW0] at bO bN hB0 hsz ⊢
  clear hW0
  refine wpIn_rangeFunc_ownG rfl (by decide) (gf := 59) (lb := #[.pointer (some ⟨w.heap.size + 1, 0, none⟩)]) rfl trivial (enters_of Tryd.func59 (by kernel_rfl) rfl)
    (mem_stops (8 - 1) (by decide) (w.heap.size + 1) S hS W0 bN.cell bN.lt) KpC.tr (fun W l o o' _ h hc _ => KpC.put W l o o' h hc) (Below.refl _ _) (fun _ => rfl)
    (fun pre W => ((∃ v, Boxed W w.heap.size 60 v ∧ W.ownsRow w.heap.size 9 1 v pre.length ((nmF pre).map Value.string) ∧ True) ∧ Boxed W (w.heap.size + 1) 3 (.int .i64 S)) ∧ Below w.heap.size w W)
    (fun _ _ _ => False)
    (OwnFrom.and (OwnFrom.and (Own.from (holdsRow_own w.heap.size w.heap.size 60 9 1 (fun pre : List (Fin 13) => pre.length) (fun pre => (nmF pre).map Value.string) (fun _ _ => True)) _) (Own.from (boxed_own _ _ _) _)) (ownFrom_below (Nat.le_refl _) (by omega)))
    (fun _ _ _ _ _ hs _ _ => hs)
    ⟨⟨⟨_, bO, World.ownsRow_nil _ _ _ _, trivial⟩, bN⟩, hB0⟩
    (fun x => { tmps := #[.int .i64 S, undef, .string ⟨#[]⟩, .pointer (some ⟨w.heap.size, 0, none⟩), .int .i64 (x.val : Int), .bool false, .int .i64 S, .bool true, .bool false, .bool false, .int .i64 S, .bool false, .bool false, .int .i64 S, .bool false, .int .i64 S, .func (.func 59) #[] #[.pointer (some ⟨w.heap.size + 1, 0, none⟩)], .int .i64 (x.val : Int), undef, undef, undef, undef, undef, undef, undef], defers := [] }) ?assign ?body ?done ?stop
  case assign =>
    intro l x W K hK
    gi_wp2
    exact hK
  case body =>
    rintro l pre x W ⟨⟨⟨v, hv, hrow, -⟩, bS⟩, hB⟩ hlt
    have hc1 := hv.cell
    have hf1 := hv.frozen
    have hle := hB.size
    have TN : Hid (INm W.drew) := ht.below (hB.trans ((Below.refl w.heap.size W).drew))
    have HN := Lib.hid (fun w ht => uname x w ht)
    obtain ⟨nm, hnm⟩ : ∃ nm, nmV x.val = nm := ⟨_, rfl⟩
    rw [hnm] at HN
    have en : Hid ((nmF (pre ++ [x])).map Value.string = (nmF pre).map Value.string ++ [.string nm]) := by show _ = _; rw [nmF_snoc, List.map_append, hnm]; rfl
    have el : Hid ((pre ++ [x]).length = pre.length + 1) := by show _ = _; simp
    clear hnm
    have hca := (hv.alloc (.cells #[.string nm] 9)).cell
    have hbd : Below w.heap.size W W.drew := (Below.refl _ W).drew
    gi_wp2
    refine wpIn_region_any (by assumption) ?_
    change wpAnyIn _ _ _ _ _ _ _ _ _ (World.drew _)
    refine wpAnyIn_ready (rs := [0, 1]) (by kernel_rfl) (by simp) ?_
    refine AllReadyIn.cons rfl (fun K hK => ?_) ?_
    · go_simp
      refine hK _ _ ?_
      clear hK K
      refine wpAnyIn_ready (rs := [1]) (by kernel_rfl) (by simp) ?_
      refine AllReadyIn.cons rfl (fun K hK => ?_) ?_
      · go_simp
        refine hK _ _ ?_
        clear hK K
        refine wpAnyIn_ready (rs := [2]) (by kernel_rfl) (by simp) ?_
        refine AllReadyIn.cons rfl (fun K hK => ?_) ?_
        · go_simp
          refine ⟨trivial, ?_⟩
          refine (CallsIn.inRound l (callsIn_wide.2 (HN.out _ TN.out))).mono ?_
          rintro e w' ⟨rfl, rfl⟩
          refine hK _ _ ?_
          clear hK K
          refine wpAnyIn_ready (rs := [3]) (by kernel_rfl) (by simp) ?_
          refine AllReadyIn.cons rfl (fun K hK => ?_) ?_
          · go_simp
            refine hK _ _ ?_
            clear hK K
            refine wpAnyIn_ready (rs := [4]) (by kernel_rfl) (by simp) ?_
            refine AllReadyIn.cons rfl (fun K hK => ?_) ?_
            · refine stepIn_append_own _ rfl _ _ 60 rfl w.heap.size 9 i0 (.string ⟨#[]⟩) 1 16 Tryd.underlying60 hi hz0 hz1 hz2 rfl (by decide) v pre.length ((nmF pre).map Value.string) rfl (hrow.alloc _) ⟨W.heap.size, 0, none⟩ 1 1 [.string nm] rfl rfl (cell_one_new _ _ _) (by simp [Value.oneCell']) (by unfold maxLen; omega) (by omega) (by simp; omega) ?_
              intro v' w1 hown' hgrow _
              obtain ⟨g', cap', rfl⟩ := ownsRow_succ hown'
              obtain ⟨hv1, hv2, hr2, hk2, hb2⟩ := Boxed.appended (W := W.drew) hv (by decide) hrow hB.size (Nat.le_refl _) hown' hgrow
              have bS2 : Boxed w1 (w.heap.size + 1) 3 (.int .i64 S) := (show Boxed (W.drew.alloc _) _ _ _ from (show Boxed W.drew _ _ _ from bS).alloc _).kept hgrow (Boxed.not_row (show Boxed W.drew _ _ _ from bS) (by decide) hrow)
              have hc2 := hv1.cell
              have hf2 := hv1.frozen
              refine hK _ _ ?_
              clear hK K
              refine wpAnyIn_ready (rs := [5]) (by kernel_rfl) (by simp) ?_
              refine AllReadyIn.cons rfl (fun K hK => ?_) ?_
              · go_simp
                refine hK _ _ ?_
                clear hK K
                refine wpAnyIn_done (by kernel_rfl) ?_ _
                have bS3 := bS2.other (show w.heap.size + 1 ≠ w.heap.size by omega) (.slice (some ⟨g', 0, none⟩) (pre.length + 1) cap')
                exact ⟨((KeepsOthers.drew W).trans hk2).from _, fun c => bS3.cell, ⟨⟨_, hv2, by rw [en.out, el.out]; exact hr2, trivial⟩, bS3⟩, hB.trans (hbd.trans hb2)⟩
              exact AllReadyIn.nil
            exact AllReadyIn.nil
          exact AllReadyIn.nil
        exact AllReadyIn.nil
      exact AllReadyIn.nil
    refine AllReadyIn.cons rfl (fun K hK => ?_) ?_
    · go_simp
      refine hK _ _ ?_
      clear hK K
      refine wpAnyIn_ready (rs := [0, 2]) (by kernel_rfl) (by simp) ?_
      refine AllReadyIn.cons rfl (fun K hK => ?_) ?_
      · go_simp
        refine hK _ _ ?_
        clear hK K
        refine wpAnyIn_ready (rs := [2]) (by kernel_rfl) (by simp) ?_
        refine AllReadyIn.cons rfl (fun K hK => ?_) ?_
        · go_simp
          refine ⟨trivial, ?_⟩
          refine (CallsIn.inRound l (callsIn_wide.2 (HN.out _ TN.out))).mono ?_
          rintro e w' ⟨rfl, rfl⟩
          refine hK _ _ ?_
          clear hK K
          refine wpAnyIn_ready (rs := [3]) (by kernel_rfl) (by simp) ?_
          refine AllReadyIn.cons rfl (fun K hK => ?_) ?_
          · go_simp
            refine hK _ _ ?_
            clear hK K
            refine wpAnyIn_ready (rs := [4]) (by kernel_rfl) (by simp) ?_
            refine AllReadyIn.cons rfl (fun K hK => ?_) ?_
            · refine stepIn_append_own _ rfl _ _ 60 rfl w.heap.size 9 i0 (.string ⟨#[]⟩) 1 16 Tryd.underlying60 hi hz0 hz1 hz2 rfl (by decide) v pre.length ((nmF pre).map Value.string) rfl (hrow.alloc _) ⟨W.heap.size, 0, none⟩ 1 1 [.string nm] rfl rfl (cell_one_new _ _ _) (by simp [Value.oneCell']) (by unfold maxLen; omega) (by omega) (by simp; omega) ?_
              intro v' w1 hown' hgrow _
              obtain ⟨g', cap', rfl⟩ := ownsRow_succ hown'
              obtain ⟨hv1, hv2, hr2, hk2, hb2⟩ := Boxed.appended (W := W.drew) hv (by decide) hrow hB.size (Nat.le_refl _) hown' hgrow
              have bS2 : Boxed w1 (w.heap.size + 1) 3 (.int .i64 S) := (show Boxed (W.drew.alloc _) _ _ _ from (show Boxed W.drew _ _ _ from bS).alloc _).kept hgrow (Boxed.not_row (show Boxed W.drew _ _ _ from bS) (by decide) hrow)
              have hc2 := hv1.cell
              have hf2 := hv1.frozen
              refine hK _ _ ?_
              clear hK K
              refine wpAnyIn_ready (rs := [5]) (by kernel_rfl) (by simp) ?_
              refine AllReadyIn.cons rfl (fun K hK => ?_) ?_
              · go_simp
                refine hK _ _ ?_
                clear hK K
                refine wpAnyIn_done (by kernel_rfl) ?_ _
                have bS3 := bS2.other (show w.heap.size + 1 ≠ w.heap.size by omega) (.slice (some ⟨g', 0, none⟩) (pre.length + 1) cap')
                exact ⟨((KeepsOthers.drew W).trans hk2).from _, fun c => bS3.cell, ⟨⟨_, hv2, by rw [en.out, el.out]; exact hr2, trivial⟩, bS3⟩, hB.trans (hbd.trans hb2)⟩
              exact AllReadyIn.nil
            exact AllReadyIn.nil
          exact AllReadyIn.nil
        exact AllReadyIn.nil
      refine AllReadyIn.cons rfl (fun K hK => ?_) ?_
      · go_simp
        refine ⟨trivial, ?_⟩
        refine (CallsIn.inRound l (callsIn_wide.2 (HN.out _ TN.out))).mono ?_
        rintro e w' ⟨rfl, rfl⟩
        refine hK _ _ ?_
        clear hK K
        refine wpAnyIn_ready (rs := [0, 3]) (by kernel_rfl) (by simp) ?_
        refine AllReadyIn.cons rfl (fun K hK => ?_) ?_
        · go_simp
          refine hK _ _ ?_
          clear hK K
          refine wpAnyIn_ready (rs := [3]) (by kernel_rfl) (by simp) ?_
          refine AllReadyIn.cons rfl (fun K hK => ?_) ?_
          · go_simp
            refine hK _ _ ?_
            clear hK K
            refine wpAnyIn_ready (rs := [4]) (by kernel_rfl) (by simp) ?_
            refine AllReadyIn.cons rfl (fun K hK => ?_) ?_
            · refine stepIn_append_own _ rfl _ _ 60 rfl w.heap.size 9 i0 (.string ⟨#[]⟩) 1 16 Tryd.underlying60 hi hz0 hz1 hz2 rfl (by decide) v pre.length ((nmF pre).map Value.string) rfl (hrow.alloc _) ⟨W.heap.size, 0, none⟩ 1 1 [.string nm] rfl rfl (cell_one_new _ _ _) (by simp [Value.oneCell']) (by unfold maxLen; omega) (by omega) (by simp; omega) ?_
              intro v' w1 hown' hgrow _
              obtain ⟨g', cap', rfl⟩ := ownsRow_succ hown'
              obtain ⟨hv1, hv2, hr2, hk2, hb2⟩ := Boxed.appended (W := W.drew) hv (by decide) hrow hB.size (Nat.le_refl _) hown' hgrow
              have bS2 : Boxed w1 (w.heap.size + 1) 3 (.int .i64 S) := (show Boxed (W.drew.alloc _) _ _ _ from (show Boxed W.drew _ _ _ from bS).alloc _).kept hgrow (Boxed.not_row (show Boxed W.drew _ _ _ from bS) (by decide) hrow)
              have hc2 := hv1.cell
              have hf2 := hv1.frozen
              refine hK _ _ ?_
              clear hK K
              refine wpAnyIn_ready (rs := [5]) (by kernel_rfl) (by simp) ?_
              refine AllReadyIn.cons rfl (fun K hK => ?_) ?_
              · go_simp
                refine hK _ _ ?_
                clear hK K
                refine wpAnyIn_done (by kernel_rfl) ?_ _
                have bS3 := bS2.other (show w.heap.size + 1 ≠ w.heap.size by omega) (.slice (some ⟨g', 0, none⟩) (pre.length + 1) cap')
                exact ⟨((KeepsOthers.drew W).trans hk2).from _, fun c => bS3.cell, ⟨⟨_, hv2, by rw [en.out, el.out]; exact hr2, trivial⟩, bS3⟩, hB.trans (hbd.trans hb2)⟩
              exact AllReadyIn.nil
            exact AllReadyIn.nil
          exact AllReadyIn.nil
        refine AllReadyIn.cons rfl (fun K hK => ?_) ?_
        · go_simp
          refine hK _ _ ?_
          clear hK K
          refine wpAnyIn_ready (rs := [0]) (by kernel_rfl) (by simp) ?_
          refine AllReadyIn.cons rfl (fun K hK => ?_) ?_
          · go_simp
            refine hK _ _ ?_
            clear hK K
            refine wpAnyIn_ready (rs := [4]) (by kernel_rfl) (by simp) ?_
            refine AllReadyIn.cons rfl (fun K hK => ?_) ?_
            · refine stepIn_append_own _ rfl _ _ 60 rfl w.heap.size 9 i0 (.string ⟨#[]⟩) 1 16 Tryd.underlying60 hi hz0 hz1 hz2 rfl (by decide) v pre.length ((nmF pre).map Value.string) rfl (hrow.alloc _) ⟨W.heap.size, 0, none⟩ 1 1 [.string nm] rfl rfl (cell_one_new _ _ _) (by simp [Value.oneCell']) (by unfold maxLen; omega) (by omega) (by simp; omega) ?_
              intro v' w1 hown' hgrow _
              obtain ⟨g', cap', rfl⟩ := ownsRow_succ hown'
              obtain ⟨hv1, hv2, hr2, hk2, hb2⟩ := Boxed.appended (W := W.drew) hv (by decide) hrow hB.size (Nat.le_refl _) hown' hgrow
              have bS2 : Boxed w1 (w.heap.size + 1) 3 (.int .i64 S) := (show Boxed (W.drew.alloc _) _ _ _ from (show Boxed W.drew _ _ _ from bS).alloc _).kept hgrow (Boxed.not_row (show Boxed W.drew _ _ _ from bS) (by decide) hrow)
              have hc2 := hv1.cell
              have hf2 := hv1.frozen
              refine hK _ _ ?_
              clear hK K
              refine wpAnyIn_ready (rs := [5]) (by kernel_rfl) (by simp) ?_
              refine AllReadyIn.cons rfl (fun K hK => ?_) ?_
              · go_simp
                refine hK _ _ ?_
                clear hK K
                refine wpAnyIn_done (by kernel_rfl) ?_ _
                have bS3 := bS2.other (show w.heap.size + 1 ≠ w.heap.size by omega) (.slice (some ⟨g', 0, none⟩) (pre.length + 1) cap')
                exact ⟨((KeepsOthers.drew W).trans hk2).from _, fun c => bS3.cell, ⟨⟨_, hv2, by rw [en.out, el.out]; exact hr2, trivial⟩, bS3⟩, hB.trans (hbd.trans hb2)⟩
              exact AllReadyIn.nil
            exact AllReadyIn.nil
          exact AllReadyIn.nil
        exact AllReadyIn.nil
      exact AllReadyIn.nil
    exact AllReadyIn.nil
  case done =>
    rintro D ys W hD rfl ⟨⟨⟨v, hv, hrow, -⟩, bS⟩, hB⟩ hK
    have hc1 := hv.cell
    have en := nmF_len (mbK S 13)
    have ln : Hid ((Lib.join ((nmF (mbK S 13)).map (·.data.toList)) [124]).length ≤ 200) := by
      show _ ≤ _
      rw [text_names]
      have a := txK_len _ (fun j hj => sg_mem S 13 j hj) (sgL S 13).length (Nat.le_refl _)
      have b := sgL_len S 13
      omega
    have lm := mb_len S 13
    rw [← en] at lm hrow
    clear en
    generalize nmF (mbK S 13) = xs at *
    rcases hrow.2 with ⟨-, h0⟩ | ⟨g, cap, cur, rfl, hg, hh, hcap, -, -, hx⟩
    · have := NE.out; omega
    · have J := Lib.hid (Tryd.strings_Join g 0 cap xs ⟨#[124]⟩ W (fun j y hj => by
        have := hrow.cells (g := g) rfl j (.string y) (by rw [List.getElem?_map, hj]; rfl)
        rw [Addr.add_lit, Nat.zero_add] at this
        rw [Nat.zero_add]; exact this) (hrow.lt g rfl).2 (by omega) hcap (by have := ln.out; show (Lib.join _ [124]).length ≤ _; omega))
      replace hB := Lib.hid hB
      have lD := (Array.getElem?_eq_some_iff.1 hK).1
      replace hK := Lib.hid hK
      clear hrow hv bS hh hx ln
      gi_wp2_with (refine ⟨trivial, ?_⟩; gi_at_call 53; refine (callsIn_wide.2 J.out).mono ?_; rintro e w' ⟨rfl, hb⟩; replace hb := Lib.hid hb)
      have hK' := (hb.out.block D lD).trans hK.out
      refine ⟨by simp, .inl ⟨_, _, rfl, run_takeDeferred hK', ?_⟩⟩
      exact ⟨_, results_tmp rfl _ _ _, by rw [TX.out]; rfl, (hB.out.trans (hb.out.mono hB.out.size)).trans (belowK_b (w := w) (Nat.le_refl _) w' D _ _ (by omega) hK' rfl rfl)⟩
  case stop =>
    rintro D c pre W _ _ h _
    exact h.elim
end Go.Proofs.YtiaidmjhgfaobaaDoor
