/- Contracts of package allen: Inverse, the tables, Basic, Holds, Singles. -/
import Derived.Test.YtiaidmjhgfaobaaDoorAlMb
import Derived.Maps.AppendAt
namespace Go.Proofs.YtiaidmjhgfaobaaDoor
open Go.RowKit Go.Shelf
set_option linter.unusedVariables false
attribute [local go_sem] Oper.semAt_some


theorem uinv (r : Fin 13) (w : World) :
    Calls Tryd.prog 45 #[.int .i64 (r.val : Int)] w fun e w' => e = .returned (.int .i64 ((12 - r.val : Nat) : Int)) ∧ w = w' := by
  have hr := r.isLt
  have HR := Lib.hid (fun w => iurel (r.val : Int) ⟨by omega, by omega⟩ w)
  rw [isR_iff.2 (by omega)] at HR
  obtain ⟨q, hq⟩ : ∃ q : Nat, 12 - r.val = q := ⟨_, rfl⟩
  rw [hq]
  have e : (12 : Int) - (r.val : Int) = q := by omega
  generalize r.val = k at *
  go_enter Tryd.func45, Tryd.ntmps45
  go_wp2_with fail
  refine (HR.out _).mono ?_
  rintro e wz ⟨rfl, rfl⟩
  go_wp2
  go_ret
  exact ⟨rfl, rfl⟩
set_option maxRecDepth 100000 in
set_option maxHeartbeats 1000000 in
theorem uainv0 (s : Int) (hs : I64 s) (w : World) :
    Calls Tryd.prog 16 #[.int .i64 s] w fun e w' => e = .returned (.int .i64 (ivS s)) ∧ Below w.heap.size w w' := by
  have HI := Lib.hid (fun w => uaset s hs w)
  cases v : isS s
  · rw [show ivS s = -1 by unfold ivS; rw [v]; rfl]
    rw [v] at HI
    go_enter Tryd.func16, Tryd.ntmps16
    go_wp2_with fail
    refine (HI.out _).mono ?_
    rintro e w1 ⟨rfl, rfl⟩
    go_wp2
    go_ret
    exact ⟨rfl, here w⟩
  · obtain ⟨v0, v1⟩ := isS_iff.1 v
    obtain ⟨S, rfl⟩ : ∃ S : Nat, s = S := ⟨s.toNat, by omega⟩
    have hS : S < 8192 := by omega
    rw [show ivS (S : Int) = (ivF (mbK S 13) : Int) by rw [ivF_mb S 13 (Nat.le_refl _)]; unfold ivS; rw [v]; rfl]
    rw [v] at HI
    clear v v0 v1 hs
    have hm : Tryd.prog.follows .mixedOrders = true := by kernel_rfl
    refine (callsIn_wide (n := 6)).1 ?_
    refine callsIn_of_wp_marks Tryd.func16 rfl trivial ?_ rfl
    simp only [Tryd.ntmps16, List.size_toArray, List.length_cons, List.length_nil, Nat.reduceAdd, Nat.reduceSub, Array.replicate_succ, Array.replicate_zero, List.push_toArray, List.append_toArray, List.nil_append, List.cons_append]
    gi_wp2_with (first
      | (refine ⟨trivial, ?_⟩; gi_at_call 39; refine (callsIn_wide.2 (HI.out _)).mono ?_; rintro e w' ⟨rfl, rfl⟩)
      | (refine ⟨trivial, ?_⟩; gi_at_call 40; refine (mem_in _ _ _).mono ?_; rintro e w' ⟨rfl, rfl⟩))
    have bO := (Boxed.new w 3 (.int .i64 0)).alloc (.cells #[.int .i64 S] 3)
    have bN := Boxed.new (w.alloc (.cells #[.int .i64 0] 3)) 3 (.int .i64 S)
    rw [World.size_alloc] at bN
    have hB0 : Below w.heap.size w ((w.alloc (.cells #[.int .i64 0] 3)).alloc (.cells #[.int .i64 S] 3)) := ((Below.refl _ w).alloc (Nat.le_refl _) _).alloc (by simp) _
    have hsz : ((w.alloc (.cells #[.int .i64 0] 3)).alloc (.cells #[.int .i64 S] 3)).heap.size = w.heap.size + 2 := by simp
    obtain ⟨W0, hW0⟩ : ∃ W0, ((w.alloc (.cells #[.int .i64 0] 3)).alloc (.cells #[.int .i64 S] 3)) = W0 := ⟨_, rfl⟩
    rw [hW0] at bO bN hB0 hsz ⊢
    clear hW0
    refine wpIn_rangeFunc_ownG rfl (by decide) (gf := 59) (lb := #[.pointer (some ⟨w.heap.size + 1, 0, none⟩)]) rfl trivial (enters_of Tryd.func59 (by kernel_rfl) rfl)
      (mem_stops (6 - 1) (by decide) (w.heap.size + 1) S hS W0 bN.cell bN.lt) KpC.tr (fun W l o o' _ h hc _ => KpC.put W l o o' h hc) (Below.refl _ _) (fun _ => rfl)
      (fun pre W => Boxed W w.heap.size 3 (.int .i64 (ivF pre : Int)) ∧ Below w.heap.size w W)
      (fun _ _ _ => False)
      (OwnFrom.and (Own.from (boxed_own _ _ _) _) (ownFrom_below (Nat.le_refl _) (by omega)))
      (fun _ _ _ _ _ hs _ _ => hs)
      ⟨bO, hB0⟩
      (fun x => { tmps := #[.int .i64 S, undef, .int .i64 0, .pointer (some ⟨w.heap.size, 0, none⟩), .int .i64 (x.val : Int), .int .i64 S, .bool true, .bool false, .int .i64 S, .func (.func 59) #[] #[.pointer (some ⟨w.heap.size + 1, 0, none⟩)], .int .i64 (x.val : Int), undef, undef, undef, undef, undef, undef], defers := [] }) ?assign ?body ?done ?stop
    case assign =>
      intro l x W K hK
      gi_wp2
      exact hK
    case body =>
      rintro l pre x W ⟨b1, hB1⟩ hlt
      have c1 := b1.cell
      have f1 := b1.frozen
      have lt := ivF_lt pre
      obtain ⟨q, hq⟩ : ∃ q : Nat, 12 - x.val = q := ⟨_, rfl⟩
      have q12 : q ≤ 12 := by omega
      have HV := Lib.hid (fun w => uinv x w)
      rw [hq] at HV
      have p := pow_lt q12
      have e1 := al_pow q12
      obtain ⟨m, hm2⟩ : ∃ m : Nat, 2 ^ q = m := ⟨_, rfl⟩
      have st : Hid (ivF (pre ++ [x]) = ivF pre ||| m) := by show _ = _; rw [ivF_snoc, hq, hm2]
      rw [hm2] at p e1
      generalize ivF pre = o at *
      have e2 := or_i64 o m (by omega) (by omega)
      gi_wp2
      gi_region_with_o (refine ⟨trivial, ?_⟩; gi_at_call 45; refine (CallsIn.inRound l (callsIn_wide.2 (HV.out _))).mono ?_; rintro e w' ⟨rfl, rfl⟩)
      all_goals gi_wp2
      all_goals exact ⟨((KeepsOthers.drew W).trans (KeepsOthers.setCell _ _ _)).from _, (KpC.drew W).tr (KpC.set _ _ (by omega)),
        by rw [st.out]; exact (show Boxed W.drew _ _ _ from b1).set _, hB1.drew.setCell (p := ⟨w.heap.size, 0, none⟩) (Nat.le_refl _) _⟩
    case done =>
      rintro D ys W hD rfl ⟨b1, hB1⟩ hK
      have c1 := b1.cell
      gi_wp2
      refine ⟨by simp, .inl ⟨_, _, rfl, run_takeDeferred hK, ?_⟩⟩
      exact ⟨_, results_tmp rfl _ _ _, rfl, hB1.trans (belowK_b (w := w) (Nat.le_refl _) W D _ _ (by omega) hK rfl rfl)⟩
    case stop =>
      rintro D c pre W _ _ h _
      exact h.elim
/-- The table of compositions, and that of places, as the program lays them. -/
def compA : Array Value := ((List.range 169).map fun k => Value.int .u16 (tb (k / 13) (k % 13) : Nat)).toArray
def placeA : Array Value := ((List.range 26).map fun k => Value.int .i64 (if k % 2 = 0 then plF (k / 2) else plS (k / 2))).toArray
def ICm (w : World) : Prop := w.var? Tryd.prog "civiltime/allen.compositions" = some compA
def IPl (w : World) : Prop := w.var? Tryd.prog "civiltime/allen.places" = some placeA
theorem gComp : Tryd.prog.globalNamed "civiltime/allen.compositions" = some 0 := by kernel_rfl
theorem gPlace : Tryd.prog.globalNamed "civiltime/allen.places" = some 1 := by kernel_rfl
theorem ICm.below {w w' : World} (h : ICm w) (hb : Below w.heap.size w w') : ICm w' := Joins.var_stays gComp h hb (Nat.le_refl _)
theorem IPl.below {w w' : World} (h : IPl w) (hb : Below w.heap.size w w') : IPl w' := Joins.var_stays gPlace h hb (Nat.le_refl _)
theorem comp_cell {w : World} (h : ICm w) {r q : Nat} (hr : r < 13) (hq : q < 13) : w.cell? ⟨0, r * 13 + q, none⟩ = some (.int .u16 (tb r q : Nat)) := by
  rw [World.var?_cell gComp h (r * 13 + q)]
  have a : (r * 13 + q) / 13 = r := by omega
  have b : (r * 13 + q) % 13 = q := by omega
  show compA[r * 13 + q]? = _
  unfold compA
  rw [List.getElem?_toArray, List.getElem?_map, List.getElem?_range (by omega)]
  show some (Value.int .u16 (tb ((r * 13 + q) / 13) ((r * 13 + q) % 13) : Nat)) = _
  rw [a, b]
theorem place_cell {w : World} (h : IPl w) {r : Nat} (hr : r < 13) : w.cell? ⟨1, r * 2, none⟩ = some (.int .i64 (plF r)) ∧ w.cell? ⟨1, r * 2 + 1, none⟩ = some (.int .i64 (plS r)) := by
  rw [World.var?_cell gPlace h (r * 2), World.var?_cell gPlace h (r * 2 + 1)]
  constructor
  · show placeA[r * 2]? = _
    unfold placeA
    rw [List.getElem?_toArray, List.getElem?_map, List.getElem?_range (by omega)]
    show some (Value.int .i64 (if r * 2 % 2 = 0 then plF (r * 2 / 2) else plS (r * 2 / 2))) = _
    rw [if_pos (by omega), show r * 2 / 2 = r by omega]
  · show placeA[r * 2 + 1]? = _
    unfold placeA
    rw [List.getElem?_toArray, List.getElem?_map, List.getElem?_range (by omega)]
    show some (Value.int .i64 (if (r * 2 + 1) % 2 = 0 then plF ((r * 2 + 1) / 2) else plS ((r * 2 + 1) / 2))) = _
    rw [if_neg (by omega), show (r * 2 + 1) / 2 = r by omega]
theorem tb_at {p q : Nat} (hp : p < 13) (hq : q < 13) : tb p q < 8192 := tb_lt ⟨p, hp⟩ ⟨q, hq⟩
theorem uabasic0 (a b : Int) (ha : I64 a) (hb : I64 b) (w : World) (ht : ICm w) :
    Calls Tryd.prog 21 #[.int .i64 a, .int .i64 b] w fun e w' => e = .returned (.int .i64 (baS a b)) ∧ Below w.heap.size w w' := by
  have HA := Lib.hid (fun w => uarel a ha w)
  have HB := Lib.hid (fun w => uarel b hb w)
  cases v : isR a
  · have na : ¬ (0 ≤ a ∧ a ≤ 12) := by rw [← isR_iff, v]; simp
    rw [baS_no (fun h => na h.1)]
    rw [v] at HA
    clear v na ha hb
    go_enter Tryd.func21, Tryd.ntmps21
    go_wp2_with fail
    refine (HA.out _).mono ?_
    rintro e wz ⟨rfl, rfl⟩
    go_wp2
    go_ret
    exact ⟨rfl, here w⟩
  · have qa := isR_iff.1 v
    rw [v] at HA
    cases u : isR b
    · have nb : ¬ (0 ≤ b ∧ b ≤ 12) := by rw [← isR_iff, u]; simp
      rw [baS_no (fun h => nb h.2)]
      rw [u] at HB
      clear u v nb ha hb qa
      go_enter Tryd.func21, Tryd.ntmps21
      go_wp2_with fail
      refine (HA.out _).mono ?_
      rintro e wz ⟨rfl, rfl⟩
      go_wp2_with fail
      refine (HB.out _).mono ?_
      rintro e wz ⟨rfl, rfl⟩
      go_wp2
      go_ret
      exact ⟨rfl, here w⟩
    · have qb := isR_iff.1 u
      rw [u] at HB
      obtain ⟨p, rfl⟩ : ∃ p : Nat, a = p := ⟨a.toNat, by omega⟩
      obtain ⟨q, rfl⟩ : ∃ q : Nat, b = q := ⟨b.toNat, by omega⟩
      have hp : p < 13 := by omega
      have hq : q < 13 := by omega
      rw [baS_tab (by omega) (by omega)]
      have c := comp_cell ht hp hq
      have l := tb_at hp hq
      generalize tb p q = T at *
      clear u v ha hb qa qb
      go_enter Tryd.func21, Tryd.ntmps21
      go_wp2_with fail
      refine (HA.out _).mono ?_
      rintro e wz ⟨rfl, rfl⟩
      go_wp2_with fail
      refine (HB.out _).mono ?_
      rintro e wz ⟨rfl, rfl⟩
      go_wp2
      go_ret
      exact ⟨rfl, here w⟩
set_option maxRecDepth 100000 in
set_option maxHeartbeats 1000000 in
theorem uaholds0 (s a b c d : Int) (hs : I64 s) (ha : I64 a) (hb : I64 b) (hc : I64 c) (hd : I64 d) (w : World) (ht : ISh w) :
    Calls Tryd.prog 23 #[.int .i64 s, .agg #[.int .i64 a, .int .i64 b], .agg #[.int .i64 c, .int .i64 d]] w fun e w' => e = .returned (.bool (hoB s a b c d)) ∧ Below w.heap.size w w' := by
  have HS := Lib.hid (fun w => uaset s hs w)
  have HO := Lib.hid (fun w ht => iuof a b c d ha hb hc hd w ht)
  have A2 := Lib.hid (grow (grow (here w) (.cells #[.int .i64 a, .int .i64 b] 30)) (.cells #[.int .i64 c, .int .i64 d] 30))
  have X2 := Lib.hid ((Two.new (here (w.alloc (.cells #[.int .i64 a, .int .i64 b] 30)))).old (.cells #[.int .i64 c, .int .i64 d] 30))
  have Y2 := Lib.hid (Two.new (here ((w.alloc (.cells #[.int .i64 a, .int .i64 b] 30)).alloc (.cells #[.int .i64 c, .int .i64 d] 30))))
  rw [size_two] at Y2
  obtain ⟨w2, hw2⟩ : ∃ w2 : World, (w.alloc (.cells #[.int .i64 a, .int .i64 b] 30)).alloc (.cells #[.int .i64 c, .int .i64 d] 30) = w2 := ⟨_, rfl⟩
  rw [hw2] at A2 X2 Y2
  obtain ⟨x0, x1, xl⟩ := X2.out
  obtain ⟨y0, y1, yl⟩ := Y2.out
  have T2 := Lib.hid (ht.below A2.out)
  have bd := ofV_bd a b c d
  have hv : Hid (hoB s a b c d = (isS s && decide (0 ≤ ofV a b c d) && s.toNat.testBit (ofV a b c d).toNat)) := by
    show _ = _
    unfold hoB
    cases v : ivB a b && ivB c d
    · rw [ofV_out v, Bool.and_assoc (isS s), v]; simp
    · have v2 := v
      rw [Bool.and_eq_true] at v2
      have q := ofW_bd (ivB_iff.1 v2.1).2.2 (ivB_iff.1 v2.2).2.2
      rw [ofV_in v2.1 v2.2, v2.1, v2.2, decide_eq_true q.1]; simp
  generalize ofV a b c d = r at *
  obtain ⟨b0, b1⟩ := bd
  cases v : isS s
  · rw [v] at HS hv
    rw [hv.out]
    clear v hv
    go_enter Tryd.func23, Tryd.ntmps23
    go_wp2_with fail
    refine (HO.out _ T2.out).mono ?_
    rintro e w3 ⟨rfl, hb⟩
    have A3 := Lib.hid (down A2.out hb)
    clear hb A2 X2 Y2 x0 x1 xl y0 y1 yl T2
    go_wp2_with fail
    refine (HS.out _).mono ?_
    rintro e w4 ⟨rfl, rfl⟩
    go_wp2
    go_ret
    exact ⟨rfl, A3.out⟩
  rw [v] at HS hv
  obtain ⟨v0, v1⟩ := isS_iff.1 v
  obtain ⟨S, rfl⟩ : ∃ S : Nat, s = S := ⟨s.toNat, by omega⟩
  have hS : S < 8192 := by omega
  rw [Int.toNat_natCast] at hv
  cases u : decide (0 ≤ r)
  · rw [u] at hv
    rw [hv.out]
    clear v hv
    go_enter Tryd.func23, Tryd.ntmps23
    go_wp2_with fail
    refine (HO.out _ T2.out).mono ?_
    rintro e w3 ⟨rfl, hb⟩
    have A3 := Lib.hid (down A2.out hb)
    clear hb A2 X2 Y2 x0 x1 xl y0 y1 yl T2
    go_wp2_with fail
    refine (HS.out _).mono ?_
    rintro e w4 ⟨rfl, rfl⟩
    go_wp2
    go_ret
    exact ⟨rfl, A3.out⟩
  rw [u] at hv
  have u2 := of_decide_eq_true u
  obtain ⟨k, rfl⟩ : ∃ k : Nat, r = k := ⟨r.toNat, by omega⟩
  rw [Int.toNat_natCast] at hv
  have HH := Lib.hid (fun w => uahas S k hS (by omega) w)
  rw [hv.out]
  simp only [Bool.true_and]
  generalize S.testBit k = B at *
  clear v hv v0 v1 hs u2
  go_enter Tryd.func23, Tryd.ntmps23
  go_wp2_with fail
  refine (HO.out _ T2.out).mono ?_
  rintro e w3 ⟨rfl, hb⟩
  have A3 := Lib.hid (down A2.out hb)
  clear hb A2 X2 Y2 x0 x1 xl y0 y1 yl T2
  go_wp2_with fail
  refine (HS.out _).mono ?_
  rintro e w4 ⟨rfl, rfl⟩
  go_wp2_with fail
  refine (HH.out _).mono ?_
  rintro e w5 ⟨rfl, rfl⟩
  go_wp2
  go_ret
  exact ⟨rfl, A3.out⟩
theorem ints_snoc (zs : List Int) (x : Int) : ints (zs ++ [x]) = ints zs ++ [.int .i64 x] := by simp [ints]
set_option maxRecDepth 100000 in
set_option maxHeartbeats 2000000 in
/-- slices.AppendSeq, of nothing and the visit of a set's relations. -/
theorem uaseq (S : Nat) (hS : S < 8192) (Bn : Nat) (w : World) (hc : w.cell? ⟨Bn, 0, none⟩ = some (.int .i64 S)) (hl : Bn < w.heap.size) :
    Calls Tryd.prog 61 #[.slice none 0 0, .func (.func 59) #[] #[.pointer (some ⟨Bn, 0, none⟩)]] w fun e W' =>
      (∃ v, e = .returned v ∧ IntS w.heap.size W' v (sgF (mbK S 13))) ∧ Below w.heap.size w W' := by
  obtain ⟨i0, hi, hz0, hz1, hz2⟩ := info_parts infoInt
  refine (callsIn_wide (n := 6)).1 ?_
  refine callsIn_of_wp_marks Tryd.func61 rfl trivial ?_ rfl
  simp only [Tryd.ntmps61, List.size_toArray, List.length_cons, List.length_nil, Nat.reduceAdd, Nat.reduceSub, Array.replicate_succ, Array.replicate_zero, List.push_toArray, List.append_toArray, List.nil_append, List.cons_append]
  have bO := Boxed.new w 26 (.slice none 0 0)
  have hB0 : Below w.heap.size w (w.alloc (.cells #[.slice none 0 0] 26)) := grow (here w) _
  have hsz := size_two w (.cells #[.slice none 0 0] 26)
  have cN : (w.alloc (.cells #[.slice none 0 0] 26)).cell? ⟨Bn, 0, none⟩ = some (.int .i64 S) := (hB0.cell (p := ⟨Bn, 0, none⟩) hl).trans hc
  gi_wp2
  obtain ⟨W0, hW0⟩ : ∃ W0, w.alloc (.cells #[.slice none 0 0] 26) = W0 := ⟨_, rfl⟩
  rw [hW0] at bO hB0 hsz cN ⊢
  clear hW0
  have lB : w.heap.size < W0.heap.size := by omega
  refine wpIn_rangeFunc_ownG rfl (by decide) (gf := 59) (lb := #[.pointer (some ⟨Bn, 0, none⟩)]) rfl trivial (enters_of Tryd.func59 (by kernel_rfl) rfl)
    (mem_stops (6 - 1) (by decide) Bn S hS W0 cN (by omega)) KpC.tr (fun W l o o' _ h hc _ => KpC.put W l o o' h hc) (Below.refl _ _) (fun _ => rfl)
    (fun pre W => (∃ v, Boxed W w.heap.size 26 v ∧ W.ownsRow w.heap.size 3 1 v pre.length (ints (sgF pre)) ∧ True) ∧ Below w.heap.size w W)
    (fun _ _ _ => False)
    (OwnFrom.and (Own.from (holdsRow_own w.heap.size w.heap.size 26 3 1 (fun pre : List (Fin 13) => pre.length) (fun pre => ints (sgF pre)) (fun _ _ => True)) _) (ownFrom_below (Nat.le_refl _) (by omega)))
    (fun _ _ _ _ _ hs _ _ => hs)
    ⟨⟨_, bO, World.ownsRow_nil _ _ _ _, trivial⟩, hB0⟩
    (fun x => { tmps := #[.slice none 0 0, .func (.func 59) #[] #[.pointer (some ⟨Bn, 0, none⟩)], .pointer (some ⟨w.heap.size, 0, none⟩), undef, .slice none 0 0, .int .i64 (x.val : Int), .func (.func 59) #[] #[.pointer (some ⟨Bn, 0, none⟩)], .int .i64 (x.val : Int), undef, undef, undef, undef, undef], defers := [] }) ?assign ?body ?done ?stop
  case assign =>
    intro l x W K hK
    gi_wp2
    exact hK
  case body =>
    rintro l pre x W ⟨⟨v, hv, hrow, -⟩, hB⟩ hlt
    have hc1 := hv.cell
    have hle := hB.size
    gi_wp2_with (gi_at_builtin; refine wpListIn_append_own _ rfl _ _ 26 rfl w.heap.size 3 i0 (.int .i64 0) 1 8 Tryd.underlying26 hi hz0 hz1 hz2 rfl (by decide) _ _ _ rfl (hrow.alloc _) ⟨W.heap.size, 0, none⟩ 1 1 [.int .i64 (x.val : Int)] rfl rfl (cell_one_new _ _ _) (by simp [Value.oneCell']) (by unfold maxLen; omega) (by omega) (by simp; omega) ?_; intro v' w1 hown' hgrow _; obtain ⟨g', cap', rfl⟩ := ownsRow_succ hown'; obtain ⟨hv1, hv2, hr2, hk2, hb2⟩ := hv.appended (by decide) hrow hB.size (Nat.le_refl _) hown' hgrow; have hc2 := hv1.cell; have hf2 := hv1.frozen)
    exact ⟨hk2.from _, fun c => (hb2.cell (p := ⟨Bn, 0, none⟩) hl).trans c, ⟨_, hv2, by rw [sgF_snoc, ints_snoc]; simpa using hr2, trivial⟩, hB.trans hb2⟩
  case done =>
    rintro D ys W hD rfl ⟨⟨v, hv, hrow, -⟩, hB⟩ hK
    have hc1 := hv.cell
    gi_wp2
    refine ⟨by simp, .inl ⟨_, _, rfl, run_takeDeferred hK, ?_⟩⟩
    refine ⟨_, results_tmp rfl _ _ _, ⟨v, rfl, ?_⟩, hB.trans (belowK_b (w := w) (Nat.le_refl _) W D _ _ (by omega) hK rfl rfl)⟩
    have e : (sgF (mbK S 13)).length = (mbK S 13).length := by simp [sgF]
    unfold IntS
    rw [e]
    exact Sl.owns (ownsRow_putObj hrow _ hK rfl)
  case stop =>
    rintro D c pre W _ _ h _
    exact h.elim
theorem uacollect (S : Nat) (hS : S < 8192) (Bn : Nat) (w : World) (hc : w.cell? ⟨Bn, 0, none⟩ = some (.int .i64 S)) (hl : Bn < w.heap.size) :
    Calls Tryd.prog 46 #[.func (.func 59) #[] #[.pointer (some ⟨Bn, 0, none⟩)]] w fun e W' =>
      (∃ v, e = .returned v ∧ IntS w.heap.size W' v (sgF (mbK S 13))) ∧ Below w.heap.size w W' := by
  have HA := Lib.hid (uaseq S hS Bn w hc hl)
  clear hc hl
  go_enter Tryd.func46, Tryd.ntmps46
  go_wp2_with fail
  refine HA.out.mono ?_
  rintro e w1 ⟨⟨v, rfl, hv⟩, hb⟩
  replace hv := Lib.hid hv
  replace hb := Lib.hid hb
  go_wp2
  go_ret
  exact ⟨⟨_, rfl, hv.out⟩, hb.out⟩
theorem uamembers (s : Int) (w : World) :
    Calls Tryd.prog 40 #[.int .i64 s] w fun e w' => e = .returned (.func (.func 59) #[] #[.pointer (some ⟨w.heap.size, 0, none⟩)]) ∧ w' = w.alloc (.cells #[.int .i64 s] 3) :=
  callsIn_wide.1 (mem_in 6 s w)
theorem uasingles0 (s : Int) (hs : I64 s) (w : World) :
    Calls Tryd.prog 19 #[.int .i64 s] w fun e w' => (∃ v, e = .returned v ∧ IntS w.heap.size w' v (sgV s)) ∧ Below w.heap.size w w' := by
  have HI := Lib.hid (fun w => uaset s hs w)
  cases v : isS s
  · rw [show sgV s = [] by unfold sgV; rw [v]; rfl]
    rw [v] at HI
    go_enter Tryd.func19, Tryd.ntmps19
    go_wp2_with fail
    refine (HI.out _).mono ?_
    rintro e w1 ⟨rfl, rfl⟩
    go_wp2
    go_ret
    exact ⟨⟨_, rfl, Sl.none _ _⟩, here w⟩
  · obtain ⟨v0, v1⟩ := isS_iff.1 v
    obtain ⟨S, rfl⟩ : ∃ S : Nat, s = S := ⟨s.toNat, by omega⟩
    have hS : S < 8192 := by omega
    rw [show sgV (S : Int) = sgF (mbK S 13) by rw [sgF_mb S 13 (Nat.le_refl _)]; unfold sgV; rw [v]; rfl]
    rw [v] at HI
    have HM := Lib.hid (fun w => uamembers (S : Int) w)
    have bN := Boxed.new w 3 (.int .i64 S)
    have HC := Lib.hid (uacollect S hS w.heap.size _ bN.cell bN.lt)
    have hB0 := Lib.hid (grow (here w) (.cells #[.int .i64 S] 3))
    clear v v0 v1 hs bN
    go_enter Tryd.func19, Tryd.ntmps19
    go_wp2_with fail
    refine (HI.out _).mono ?_
    rintro e w1 ⟨rfl, rfl⟩
    go_wp2_with fail
    refine (HM.out _).mono ?_
    rintro e w1 ⟨rfl, rfl⟩
    go_wp2_with fail
    refine HC.out.mono ?_
    rintro e w2 ⟨⟨v, rfl, hv⟩, hb⟩
    replace hv := Lib.hid hv
    replace hb := Lib.hid hb
    go_wp2
    go_ret
    exact ⟨⟨_, rfl, Sl.weak hv.out (by simp)⟩, down hB0.out hb.out⟩
end Go.Proofs.YtiaidmjhgfaobaaDoor
