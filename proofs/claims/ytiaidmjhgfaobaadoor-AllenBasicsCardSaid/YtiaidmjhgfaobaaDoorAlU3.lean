/- The contract of allen.Convex. -/
import Derived.Test.YtiaidmjhgfaobaaDoorAlU1
import Derived.Deep.MidRow
namespace Go.Proofs.YtiaidmjhgfaobaaDoor
open Go.RowKit Go.Shelf
set_option linter.unusedVariables false
attribute [local go_sem] Oper.semAt_some

/-- An array of two cells. -/
def Duo (W : World) (B : Nat) (t : TypeId) (u v : Value) : Prop := W.heap[B]? = some (.cells #[u, v] t (0, 0))
theorem Duo.lt {W : World} {B : Nat} {t : TypeId} {u v : Value} (h : Duo W B t u v) : B < W.heap.size := (Array.getElem?_eq_some_iff.1 h).1
theorem Duo.c0 {W : World} {B : Nat} {t : TypeId} {u v : Value} (h : Duo W B t u v) : W.cell? ⟨B, 0, none⟩ = some u := by simp [World.cell?, show W.heap[B]? = _ from h]
theorem Duo.c1 {W : World} {B : Nat} {t : TypeId} {u v : Value} (h : Duo W B t u v) : W.cell? ⟨B, 1, none⟩ = some v := by simp [World.cell?, show W.heap[B]? = _ from h]
theorem Duo.f0 {W : World} {B : Nat} {t : TypeId} {u v : Value} (h : Duo W B t u v) : W.frozen? ⟨B, 0, none⟩ = false := by simp [World.frozen?, show W.heap[B]? = _ from h]
theorem Duo.f1 {W : World} {B : Nat} {t : TypeId} {u v : Value} (h : Duo W B t u v) : W.frozen? ⟨B, 1, none⟩ = false := by simp [World.frozen?, show W.heap[B]? = _ from h]
theorem Duo.new (W : World) (t : TypeId) (u v : Value) : Duo (W.alloc (.cells #[u, v] t)) W.heap.size t u v := World.alloc_heap_new W _
theorem Duo.kept {W W' : World} {row : Option Nat} {B : Nat} {t : TypeId} {u v : Value} (h : Duo W B t u v) (hg : W.grownBy W' row) (hne : some B ≠ row) : Duo W' B t u v := (hg.block B h.lt hne).trans h
theorem Duo.alloc {W : World} {B : Nat} {t : TypeId} {u v : Value} (h : Duo W B t u v) (o : Obj) : Duo (W.alloc o) B t u v := h.kept (World.grownBy_alloc W o none) (by simp)
theorem Duo.set0 {W : World} {B : Nat} {t : TypeId} {u v : Value} (x : Value) (h : Duo W B t u v) : Duo (W.setCell ⟨B, 0, none⟩ x) B t x v := by
  obtain ⟨hlt, hk⟩ := Array.getElem?_eq_some_iff.1 h
  show (W.heap.modify B _)[B]? = _
  rw [Array.getElem?_eq_getElem (by rw [Array.size_modify]; exact hlt), Array.getElem_modify_self, hk]
  rfl
theorem Duo.set1 {W : World} {B : Nat} {t : TypeId} {u v : Value} (x : Value) (h : Duo W B t u v) : Duo (W.setCell ⟨B, 1, none⟩ x) B t u x := by
  obtain ⟨hlt, hk⟩ := Array.getElem?_eq_some_iff.1 h
  show (W.heap.modify B _)[B]? = _
  rw [Array.getElem?_eq_getElem (by rw [Array.size_modify]; exact hlt), Array.getElem_modify_self, hk]
  rfl
theorem Duo.other {W : World} {B B' o : Nat} {t : TypeId} {u v : Value} (h : Duo W B t u v) (hne : B ≠ B') (x : Value) : Duo (W.setCell ⟨B', o, none⟩ x) B t u v := (Below.heap_setCell _ _ _ B (fun e => hne e)).trans h
theorem duo_own {β : Type} (B : Nat) (t : TypeId) (f g : β → Value) : Own (fun s W => Duo W B t (f s) (g s)) := fun s X Y row hs hg hrow =>
  hs.kept hg (fun e' => by obtain ⟨o, ho, hc⟩ := hrow B e'.symm; rw [show X.heap[B]? = _ from hs] at ho; cases ho; cases hc)
/-- The world of a round that has come so far. -/
theorem rest_set {B : Nat} {v : Value} {m b o : Nat} {W W' : World} (u : Value) (h : KeepsFrom B W W' ∧ KpC m v W W') (hne : m ≠ b) : KeepsFrom B W (W'.setCell ⟨b, o, none⟩ u) ∧ KpC m v W (W'.setCell ⟨b, o, none⟩ u) :=
  ⟨h.1.trans ((KeepsOthers.setCell _ _ _).from _), h.2.tr (KpC.set _ _ hne)⟩
theorem ix_two (p q : Int) (w : World) : (Instr.index 64 (.agg #[.int .i64 p, .int .i64 q]) (.int .i64 0)).run Tryd.prog w = .ok (.int .i64 p) w ∧ (Instr.index 64 (.agg #[.int .i64 p, .int .i64 q]) (.int .i64 1)).run Tryd.prog w = .ok (.int .i64 q) w := ⟨by kernel_rfl, by kernel_rfl⟩
theorem wpListIn_load_run {F : Fence} {n : Nat} {P : Program} {w : World} {ops : Array Oper} {rest : List Oper} {o : Oper} {a : Act} {Q : Exit → Act → World → Prop}
    (hg : o.guard = none) (ty : TypeId) (x : Operand) (ho : o.op = .load ty x) (p v : Value) (hr : (Instr.loadAt ty p).run P w = .ok v w) (hx : a.eval x = p)
    (h : wpListIn F n P ops Q rest (a.put o.dst v) w) : wpListIn F n P ops Q (o :: rest) a w := by
  refine wpListIn_plain hg fun K hK' => ?_
  unfold Oper.wpIn
  refine ⟨?_, ?_⟩
  · simp [Oper.about, ho]
  · rw [Oper.semAt_plain F _ _ (by rw [ho]; intro c hc'; cases hc')]
    simp [execOp, ho, hx, hr, Result.andThen]
    exact hK' _ _ h
theorem ix_places (k : Nat) (hk : k < 13) (w : World) : (Instr.index 65 (.agg placeA.toList.toArray) (.int .i64 (k : Int))).run Tryd.prog w = .ok (.agg #[.int .i64 (plF k), .int .i64 (plS k)]) w := by
  have h0 : ∀ w, (Instr.index 65 (.agg placeA.toList.toArray) (.int .i64 0)).run Tryd.prog w = .ok (.agg #[.int .i64 1, .int .i64 1]) w := fun w => by kernel_rfl
  have h1 : ∀ w, (Instr.index 65 (.agg placeA.toList.toArray) (.int .i64 1)).run Tryd.prog w = .ok (.agg #[.int .i64 1, .int .i64 2]) w := fun w => by kernel_rfl
  have h2 : ∀ w, (Instr.index 65 (.agg placeA.toList.toArray) (.int .i64 2)).run Tryd.prog w = .ok (.agg #[.int .i64 1, .int .i64 3]) w := fun w => by kernel_rfl
  have h3 : ∀ w, (Instr.index 65 (.agg placeA.toList.toArray) (.int .i64 3)).run Tryd.prog w = .ok (.agg #[.int .i64 2, .int .i64 3]) w := fun w => by kernel_rfl
  have h4 : ∀ w, (Instr.index 65 (.agg placeA.toList.toArray) (.int .i64 4)).run Tryd.prog w = .ok (.agg #[.int .i64 3, .int .i64 3]) w := fun w => by kernel_rfl
  have h5 : ∀ w, (Instr.index 65 (.agg placeA.toList.toArray) (.int .i64 5)).run Tryd.prog w = .ok (.agg #[.int .i64 3, .int .i64 4]) w := fun w => by kernel_rfl
  have h6 : ∀ w, (Instr.index 65 (.agg placeA.toList.toArray) (.int .i64 6)).run Tryd.prog w = .ok (.agg #[.int .i64 2, .int .i64 4]) w := fun w => by kernel_rfl
  have h7 : ∀ w, (Instr.index 65 (.agg placeA.toList.toArray) (.int .i64 7)).run Tryd.prog w = .ok (.agg #[.int .i64 1, .int .i64 4]) w := fun w => by kernel_rfl
  have h8 : ∀ w, (Instr.index 65 (.agg placeA.toList.toArray) (.int .i64 8)).run Tryd.prog w = .ok (.agg #[.int .i64 1, .int .i64 5]) w := fun w => by kernel_rfl
  have h9 : ∀ w, (Instr.index 65 (.agg placeA.toList.toArray) (.int .i64 9)).run Tryd.prog w = .ok (.agg #[.int .i64 2, .int .i64 5]) w := fun w => by kernel_rfl
  have h10 : ∀ w, (Instr.index 65 (.agg placeA.toList.toArray) (.int .i64 10)).run Tryd.prog w = .ok (.agg #[.int .i64 3, .int .i64 5]) w := fun w => by kernel_rfl
  have h11 : ∀ w, (Instr.index 65 (.agg placeA.toList.toArray) (.int .i64 11)).run Tryd.prog w = .ok (.agg #[.int .i64 4, .int .i64 5]) w := fun w => by kernel_rfl
  have h12 : ∀ w, (Instr.index 65 (.agg placeA.toList.toArray) (.int .i64 12)).run Tryd.prog w = .ok (.agg #[.int .i64 5, .int .i64 5]) w := fun w => by kernel_rfl
  have c : k = 0 ∨ k = 1 ∨ k = 2 ∨ k = 3 ∨ k = 4 ∨ k = 5 ∨ k = 6 ∨ k = 7 ∨ k = 8 ∨ k = 9 ∨ k = 10 ∨ k = 11 ∨ k = 12 := by omega
  rcases c with rfl | rfl | rfl | rfl | rfl | rfl | rfl | rfl | rfl | rfl | rfl | rfl | rfl
  · exact h0 w
  · exact h1 w
  · exact h2 w
  · exact h3 w
  · exact h4 w
  · exact h5 w
  · exact h6 w
  · exact h7 w
  · exact h8 w
  · exact h9 w
  · exact h10 w
  · exact h11 w
  · exact h12 w
theorem ld_places {w : World} (h : IPl w) : (Instr.loadAt 65 (.pointer (some ⟨1, 0, none⟩))).run Tryd.prog w = .ok (.agg placeA.toList.toArray) w :=
  run_loadAt_mid w 1 0 65 placeA.toList (.array 13 64) (fun j v hv => by rw [World.var?_cell gPlace h, Nat.zero_add]; simpa using hv) Tryd.underlying65 rfl (by kernel_rfl)
theorem min_swap (a b : Int) : (if a < b then a else b) = if b < a then b else a := by split <;> split <;> omega
set_option maxRecDepth 100000 in
set_option maxHeartbeats 4000000 in
theorem uaconvex0 (s : Int) (hs : I64 s) (w : World) (ht : IPl w) :
    Calls Tryd.prog 29 #[.int .i64 s] w fun e w' => e = .returned (.bool (cvB s)) ∧ Below w.heap.size w w' := by
  have HI := Lib.hid (fun w => uaset s hs w)
  cases v : isS s
  · rw [show cvB s = false by unfold cvB; rw [v]; rfl]
    rw [v] at HI
    go_enter Tryd.func29, Tryd.ntmps29
    go_wp2_with fail
    refine (HI.out _).mono ?_
    rintro e w1 ⟨rfl, rfl⟩
    go_wp2
    go_ret
    exact ⟨rfl, here w⟩
  obtain ⟨v0, v1⟩ := isS_iff.1 v
  obtain ⟨S, rfl⟩ : ∃ S : Nat, s = S := ⟨s.toNat, by omega⟩
  have hS : S < 8192 := by omega
  rw [show cvB (S : Int) = cvN S by unfold cvB; rw [v]; rfl]
  rw [v] at HI
  clear v v0 v1 hs
  have hm : Tryd.prog.follows .mixedOrders = true := by kernel_rfl
  refine (callsIn_wide (n := 8)).1 ?_
  refine callsIn_of_wp_marks Tryd.func29 rfl trivial ?_ rfl
  simp only [Tryd.ntmps29, List.size_toArray, List.length_cons, List.length_nil, Nat.reduceAdd, Nat.reduceSub, Array.replicate_succ, Array.replicate_zero, List.push_toArray, List.append_toArray, List.nil_append, List.cons_append]
  gi_wp2_with (first
    | (refine ⟨trivial, ?_⟩; gi_at_call 39; refine (callsIn_wide.2 (HI.out _)).mono ?_; rintro e w' ⟨rfl, rfl⟩)
    | (refine ⟨trivial, ?_⟩; gi_at_call 40; refine (mem_in _ _ _).mono ?_; rintro e w' ⟨rfl, rfl⟩))
  have bL := ((Duo.new w 64 (.int .i64 5) (.int .i64 5)).alloc (.cells #[.int .i64 1, .int .i64 1] 64)).alloc (.cells #[.int .i64 S] 3)
  have bH := (Duo.new (w.alloc (.cells #[.int .i64 5, .int .i64 5] 64)) 64 (.int .i64 1) (.int .i64 1)).alloc (.cells #[.int .i64 S] 3)
  have bN := Boxed.new ((w.alloc (.cells #[.int .i64 5, .int .i64 5] 64)).alloc (.cells #[.int .i64 1, .int .i64 1] 64)) 3 (.int .i64 S)
  simp only [World.size_alloc] at bH bN
  have hB0 : Below w.heap.size w (((w.alloc (.cells #[.int .i64 5, .int .i64 5] 64)).alloc (.cells #[.int .i64 1, .int .i64 1] 64)).alloc (.cells #[.int .i64 S] 3)) := grow (grow (grow (here w) _) _) _
  have hsz : (((w.alloc (.cells #[.int .i64 5, .int .i64 5] 64)).alloc (.cells #[.int .i64 1, .int .i64 1] 64)).alloc (.cells #[.int .i64 S] 3)).heap.size = w.heap.size + 3 := by simp
  obtain ⟨W0, hW0⟩ : ∃ W0, ((w.alloc (.cells #[.int .i64 5, .int .i64 5] 64)).alloc (.cells #[.int .i64 1, .int .i64 1] 64)).alloc (.cells #[.int .i64 S] 3) = W0 := ⟨_, rfl⟩
  rw [hW0] at bL bH bN hB0 hsz ⊢
  clear hW0
  refine wpIn_rangeFunc_ownG rfl (by decide) (gf := 59) (lb := #[.pointer (some ⟨w.heap.size + 1 + 1, 0, none⟩)]) rfl trivial (enters_of Tryd.func59 (by kernel_rfl) rfl)
    (mem_stops (8 - 1) (by decide) (w.heap.size + 1 + 1) S hS W0 bN.cell bN.lt) KpC.tr (fun W l o o' _ h hc _ => KpC.put W l o o' h hc) (Below.refl _ _) (fun _ => rfl)
    (fun pre W => (Duo W w.heap.size 64 (.int .i64 (lwF pre)) (.int .i64 (lwS pre)) ∧ Duo W (w.heap.size + 1) 64 (.int .i64 (hgF pre)) (.int .i64 (hgS pre))) ∧ Below w.heap.size W0 W)
    (fun _ _ _ => False)
    (OwnFrom.and (OwnFrom.and (Own.from (duo_own _ _ _ _) _) (Own.from (duo_own _ _ _ _) _)) (ownFrom_below (by omega) (by omega)))
    (fun _ _ _ _ _ hs _ _ => hs)
    ⟨⟨bL, bH⟩, Below.refl _ _⟩
    (fun x => { tmps := #[.int .i64 S, undef, .bool false, .pointer (some ⟨w.heap.size, 0, none⟩), .pointer (some ⟨w.heap.size + 1, 0, none⟩), .int .i64 (x.val : Int), undef, undef, undef, undef, undef, .int .i64 S, .bool true, .bool false, .agg #[.int .i64 5, .int .i64 5], .agg #[.int .i64 1, .int .i64 1], .int .i64 S, .func (.func 59) #[] #[.pointer (some ⟨w.heap.size + 1 + 1, 0, none⟩)], .int .i64 (x.val : Int), undef, undef, undef, undef, undef, undef, undef, undef, undef, undef, undef, undef, undef, undef, undef, undef, undef, undef, undef, undef, undef, undef, undef, undef, undef, undef, undef, undef, undef, undef, undef, undef, undef, undef, undef, undef, undef, undef, undef, undef, undef, undef, undef, undef, undef, undef, undef, undef, undef, undef, undef, undef, undef, undef, undef, undef, undef, undef, undef], defers := [] }) ?assign ?body ?done ?stop
  case assign =>
    intro l x W K hK
    gi_wp2
    exact hK
  case body =>
    rintro l pre x W ⟨⟨bL1, bH1⟩, hB1⟩ hlt
    have x13 := x.isLt
    obtain ⟨cp0, cp1⟩ := place_cell (ht.below (hB0.trans hB1)) x13
    obtain ⟨p, hp⟩ : ∃ p, plF x.val = p := ⟨_, rfl⟩
    obtain ⟨q, hq⟩ : ∃ q, plS x.val = q := ⟨_, rfl⟩
    obtain ⟨n0, hn0⟩ : ∃ n0, lwF (pre ++ [x]) = n0 := ⟨_, rfl⟩
    obtain ⟨n1, hn1⟩ : ∃ n1, lwS (pre ++ [x]) = n1 := ⟨_, rfl⟩
    obtain ⟨m0, hm0⟩ : ∃ m0, hgF (pre ++ [x]) = m0 := ⟨_, rfl⟩
    obtain ⟨m1, hm1⟩ : ∃ m1, hgS (pre ++ [x]) = m1 := ⟨_, rfl⟩
    have r0 := (min_swap _ _).symm.trans ((lwF_snoc pre x).symm.trans hn0)
    have r1 := (min_swap _ _).symm.trans ((lwS_snoc pre x).symm.trans hn1)
    have r2 := (hgF_snoc pre x).symm.trans hm0
    have r3 := (hgS_snoc pre x).symm.trans hm1
    replace hn0 := Lib.hid hn0
    replace hn1 := Lib.hid hn1
    replace hm0 := Lib.hid hm0
    replace hm1 := Lib.hid hm1
    rw [hp] at cp0 r0 r2
    rw [hq] at cp1 r1 r3
    clear hp hq
    generalize lwF pre = l0 at *
    generalize lwS pre = l1 at *
    generalize hgF pre = h0 at *
    generalize hgS pre = h1 at *
    have R1 : Hid (KeepsFrom W0.heap.size W W ∧ KpC (w.heap.size + 1 + 1) (.int .i64 S) W W) := ⟨KeepsFrom.refl _ _, KpC.rf _ _ _⟩
    gi_wp2
    gi_loopw [22] (fun i wr => ∃ k : Nat, k ≤ 2 ∧ i = .int .i64 k ∧ Duo wr w.heap.size 64 (.int .i64 (if k = 0 then l0 else n0)) (.int .i64 (if k = 2 then n1 else l1)) ∧ Duo wr (w.heap.size + 1) 64 (.int .i64 (if k = 0 then h0 else m0)) (.int .i64 (if k = 2 then m1 else h1)) ∧ Below w.heap.size W0 wr ∧ Hid (KeepsFrom W0.heap.size W wr ∧ KpC (w.heap.size + 1 + 1) (.int .i64 S) W wr)) (fun i _ => 2 - (intOf i).toNat)
    case atStart => exact ⟨0, by omega, rfl, bL1, bH1, hB1, R1⟩
    case round =>
      obtain ⟨k, hk, rfl, dL, dH, hB, hR⟩ := hrel
      rcases (show k = 0 ∨ k = 1 ∨ k = 2 by omega) with rfl | rfl | rfl
      · replace dL : Duo wr w.heap.size 64 (.int .i64 l0) (.int .i64 l1) := dL
        replace dH : Duo wr (w.heap.size + 1) 64 (.int .i64 h0) (.int .i64 h1) := dH
        have d0 := dL.c0
        have d1 := dL.f0
        have d2 := dH.c0
        have d3 := dH.f0
        have ix := (ix_two p q wr).1
        have lH := dH.lt
        have hle := hB.size
        gi_wp2
        go_roundw
        case rel => exact ⟨1, by omega, rfl, (dL.set0 _).other (by omega) _, (dH.other (by omega) _).set0 _, (hB.setCell (p := ⟨w.heap.size, 0, none⟩) (Nat.le_refl _) _).setCell (p := ⟨w.heap.size + 1, 0, none⟩) (by simp) _, rest_set _ (rest_set _ hR (by omega)) (by omega)⟩
        case measure => simp [intOf]
      · replace dL : Duo wr w.heap.size 64 (.int .i64 n0) (.int .i64 l1) := dL
        replace dH : Duo wr (w.heap.size + 1) 64 (.int .i64 m0) (.int .i64 h1) := dH
        have d0 := dL.c1
        have d1 := dL.f1
        have d2 := dH.c1
        have d3 := dH.f1
        have ix := (ix_two p q wr).2
        have lH := dH.lt
        have hle := hB.size
        gi_wp2
        go_roundw
        case rel => exact ⟨2, by omega, rfl, (dL.set1 _).other (by omega) _, (dH.other (by omega) _).set1 _, (hB.setCell (p := ⟨w.heap.size, 1, none⟩) (Nat.le_refl _) _).setCell (p := ⟨w.heap.size + 1, 1, none⟩) (by simp) _, rest_set _ (rest_set _ hR (by omega)) (by omega)⟩
        case measure => simp [intOf]
      · replace dL : Duo wr w.heap.size 64 (.int .i64 n0) (.int .i64 n1) := dL
        replace dH : Duo wr (w.heap.size + 1) 64 (.int .i64 m0) (.int .i64 m1) := dH
        gi_wp2
        exact ⟨hR.1, hR.2, ⟨by rw [hn0.out, hn1.out]; exact dL, by rw [hm0.out, hm1.out]; exact dH⟩, hB⟩
  case done =>
    rintro D ys W hD rfl ⟨⟨bL1, bH1⟩, hB1⟩ hK
    have TP := ht.below (hB0.trans hB1)
    have ld := ld_places TP
    obtain ⟨PV, hPV⟩ : ∃ PV, (Value.agg placeA.toList.toArray) = PV := ⟨_, rfl⟩
    have IX : Hid (∀ (k : Nat) (hk : k < 13) w, (Instr.index 65 PV (.int .i64 (k : Int))).run Tryd.prog w = .ok (.agg #[.int .i64 (plF k), .int .i64 (plS k)]) w) := by
      rw [← hPV]; exact ix_places
    rw [hPV] at ld
    clear hPV
    clear TP
    obtain ⟨l0, hl0⟩ : ∃ l0, lwF (mbK S 13) = l0 := ⟨_, rfl⟩
    obtain ⟨l1, hl1⟩ : ∃ l1, lwS (mbK S 13) = l1 := ⟨_, rfl⟩
    obtain ⟨h0, hh0⟩ : ∃ h0, hgF (mbK S 13) = h0 := ⟨_, rfl⟩
    obtain ⟨h1, hh1⟩ : ∃ h1, hgS (mbK S 13) = h1 := ⟨_, rfl⟩
    have WI : Hid (∀ r, inX (sgL S 13) r = (decide (l0 ≤ plF r) && decide (plF r ≤ h0) && decide (l1 ≤ plS r) && decide (plS r ≤ h1))) := by
      intro r; rw [← wi_in, ← hl0, ← hl1, ← hh0, ← hh1]; rfl
    rw [hl0, hl1] at bL1
    rw [hh0, hh1] at bH1
    clear hl0 hl1 hh0 hh1 bL bH bN
    have lD := (Array.getElem?_eq_some_iff.1 hK).1
    have fin : Hid (∀ (wr : World) (B : Bool), Below w.heap.size W wr → wr.heap[D]? = some (.deferred (some [])) → Below w.heap.size w (wr.putObj D (.deferred none))) := fun wr B hb hk =>
      ((hB0.trans hB1).trans hb).trans (belowK_b (w := w) (Nat.le_refl _) wr D _ _ (by omega) hk rfl rfl)
    have K1 : Hid (Below w.heap.size W W ∧ W.heap[D]? = some (.deferred (some []))) := ⟨Below.refl _ _, hK⟩
    clear hK
    gi_wp2_with (refine wpListIn_load_run rfl 65 _ rfl _ PV ld rfl ?_)
    clear ld
    gi_loopw [42] (fun i wr => ∃ k : Nat, k ≤ 13 ∧ i = .int .i64 k ∧ Hid (∀ r, r < k → inX (sgL S 13) r = S.testBit r) ∧ Duo wr w.heap.size 64 (.int .i64 l0) (.int .i64 l1) ∧ Duo wr (w.heap.size + 1) 64 (.int .i64 h0) (.int .i64 h1) ∧ Hid (Below w.heap.size W wr ∧ wr.heap[D]? = some (.deferred (some [])))) (fun i _ => 13 - (intOf i).toNat)
    case atStart => exact ⟨0, by omega, rfl, fun r hr => absurd hr (Nat.not_lt_zero _), bL1, bH1, K1⟩
    case round =>
      obtain ⟨k, hk, rfl, old, dL, dH, hR⟩ := hrel
      clear bL1 bH1 K1
      by_cases z : k < 13
      · have kz : decide ((k : Int) < 13) = true := decide_eq_true (by omega)
        have ix := IX.out k z wr
        have HH := Lib.hid (fun w => uahas S k hS (by omega) w)
        have wi := Lib.hid (WI.out k)
        generalize plF k = p at *
        generalize plS k = q at *
        obtain ⟨w1, hw1⟩ : ∃ w1 : World, wr.alloc (.cells #[.int .i64 p, .int .i64 q] 64) = w1 := ⟨_, rfl⟩
        have bA : Duo w1 wr.heap.size 64 (.int .i64 p) (.int .i64 q) := by rw [← hw1]; exact Duo.new _ _ _ _
        have bL2 : Duo w1 w.heap.size 64 (.int .i64 l0) (.int .i64 l1) := by rw [← hw1]; exact dL.alloc _
        have bH2 : Duo w1 (w.heap.size + 1) 64 (.int .i64 h0) (.int .i64 h1) := by rw [← hw1]; exact dH.alloc _
        have R2 : Hid (Below w.heap.size W w1 ∧ w1.heap[D]? = some (.deferred (some []))) := by
          rw [← hw1]; exact ⟨hR.out.1.alloc (by have := hR.out.1.size; have := dL.lt; omega) _, (Below.heap_alloc _ _ _ (Array.getElem?_eq_some_iff.1 hR.out.2).1).trans hR.out.2⟩
        have a0 := bA.c0
        have a1 := bA.c1
        have b0 := bL2.c0
        have b1 := bL2.c1
        have d0 := bH2.c0
        have d1 := bH2.c1
        clear dL dH hR
        cases e0 : decide (l0 ≤ p)
        · have wi2 : Hid (inX (sgL S 13) k = false) := by show _ = _; rw [wi.out, e0]; rfl
          clear wi
          cases B : S.testBit k
          · rw [B] at HH
            have old2 : Hid (∀ r, r < k + 1 → inX (sgL S 13) r = S.testBit r) := fun r hr => by
              rcases Nat.lt_or_ge r k with h | h
              · exact old.out r h
              · obtain rfl : r = k := by omega
                rw [wi2.out, B]
            clear B old wi2
            gi_wp2_with (refine ⟨trivial, ?_⟩; gi_at_call 48; refine (callsIn_wide.2 (HH.out _)).mono ?_; rintro e w' ⟨rfl, rfl⟩)
            go_roundw
            case rel => exact ⟨k + 1, by omega, by go_num, old2, bL2, bH2, R2⟩
            case measure => simp [intOf]; omega
          · rw [B] at HH
            have no : Hid (cvN S = false) := cvN_no z (by rw [wi2.out, B]; simp)
            clear B old wi2
            gi_wp2_with (refine ⟨trivial, ?_⟩; gi_at_call 48; refine (callsIn_wide.2 (HH.out _)).mono ?_; rintro e w' ⟨rfl, rfl⟩)
            refine ⟨by simp, .inl ⟨_, _, rfl, run_takeDeferred R2.out.2, ?_⟩⟩
            exact ⟨_, results_tmp rfl _ _ _, by rw [no.out]; rfl, fin.out w1 true R2.out.1 R2.out.2⟩
        cases e1 : decide (p ≤ h0)
        · have wi2 : Hid (inX (sgL S 13) k = false) := by show _ = _; rw [wi.out, e0, e1]; rfl
          clear wi
          cases B : S.testBit k
          · rw [B] at HH
            have old2 : Hid (∀ r, r < k + 1 → inX (sgL S 13) r = S.testBit r) := fun r hr => by
              rcases Nat.lt_or_ge r k with h | h
              · exact old.out r h
              · obtain rfl : r = k := by omega
                rw [wi2.out, B]
            clear B old wi2
            gi_wp2_with (refine ⟨trivial, ?_⟩; gi_at_call 48; refine (callsIn_wide.2 (HH.out _)).mono ?_; rintro e w' ⟨rfl, rfl⟩)
            go_roundw
            case rel => exact ⟨k + 1, by omega, by go_num, old2, bL2, bH2, R2⟩
            case measure => simp [intOf]; omega
          · rw [B] at HH
            have no : Hid (cvN S = false) := cvN_no z (by rw [wi2.out, B]; simp)
            clear B old wi2
            gi_wp2_with (refine ⟨trivial, ?_⟩; gi_at_call 48; refine (callsIn_wide.2 (HH.out _)).mono ?_; rintro e w' ⟨rfl, rfl⟩)
            refine ⟨by simp, .inl ⟨_, _, rfl, run_takeDeferred R2.out.2, ?_⟩⟩
            exact ⟨_, results_tmp rfl _ _ _, by rw [no.out]; rfl, fin.out w1 true R2.out.1 R2.out.2⟩
        cases e2 : decide (l1 ≤ q)
        · have wi2 : Hid (inX (sgL S 13) k = false) := by show _ = _; rw [wi.out, e0, e1, e2]; rfl
          clear wi
          cases B : S.testBit k
          · rw [B] at HH
            have old2 : Hid (∀ r, r < k + 1 → inX (sgL S 13) r = S.testBit r) := fun r hr => by
              rcases Nat.lt_or_ge r k with h | h
              · exact old.out r h
              · obtain rfl : r = k := by omega
                rw [wi2.out, B]
            clear B old wi2
            gi_wp2_with (refine ⟨trivial, ?_⟩; gi_at_call 48; refine (callsIn_wide.2 (HH.out _)).mono ?_; rintro e w' ⟨rfl, rfl⟩)
            go_roundw
            case rel => exact ⟨k + 1, by omega, by go_num, old2, bL2, bH2, R2⟩
            case measure => simp [intOf]; omega
          · rw [B] at HH
            have no : Hid (cvN S = false) := cvN_no z (by rw [wi2.out, B]; simp)
            clear B old wi2
            gi_wp2_with (refine ⟨trivial, ?_⟩; gi_at_call 48; refine (callsIn_wide.2 (HH.out _)).mono ?_; rintro e w' ⟨rfl, rfl⟩)
            refine ⟨by simp, .inl ⟨_, _, rfl, run_takeDeferred R2.out.2, ?_⟩⟩
            exact ⟨_, results_tmp rfl _ _ _, by rw [no.out]; rfl, fin.out w1 true R2.out.1 R2.out.2⟩
        cases e3 : decide (q ≤ h1)
        · have wi2 : Hid (inX (sgL S 13) k = false) := by show _ = _; rw [wi.out, e0, e1, e2, e3]; rfl
          clear wi
          cases B : S.testBit k
          · rw [B] at HH
            have old2 : Hid (∀ r, r < k + 1 → inX (sgL S 13) r = S.testBit r) := fun r hr => by
              rcases Nat.lt_or_ge r k with h | h
              · exact old.out r h
              · obtain rfl : r = k := by omega
                rw [wi2.out, B]
            clear B old wi2
            gi_wp2_with (refine ⟨trivial, ?_⟩; gi_at_call 48; refine (callsIn_wide.2 (HH.out _)).mono ?_; rintro e w' ⟨rfl, rfl⟩)
            go_roundw
            case rel => exact ⟨k + 1, by omega, by go_num, old2, bL2, bH2, R2⟩
            case measure => simp [intOf]; omega
          · rw [B] at HH
            have no : Hid (cvN S = false) := cvN_no z (by rw [wi2.out, B]; simp)
            clear B old wi2
            gi_wp2_with (refine ⟨trivial, ?_⟩; gi_at_call 48; refine (callsIn_wide.2 (HH.out _)).mono ?_; rintro e w' ⟨rfl, rfl⟩)
            refine ⟨by simp, .inl ⟨_, _, rfl, run_takeDeferred R2.out.2, ?_⟩⟩
            exact ⟨_, results_tmp rfl _ _ _, by rw [no.out]; rfl, fin.out w1 true R2.out.1 R2.out.2⟩
        have wi2 : Hid (inX (sgL S 13) k = true) := by show _ = _; rw [wi.out, e0, e1, e2, e3]; rfl
        clear wi
        cases B : S.testBit k
        · rw [B] at HH
          have no : Hid (cvN S = false) := cvN_no z (by rw [wi2.out, B]; simp)
          clear B old wi2
          gi_wp2_with (refine ⟨trivial, ?_⟩; gi_at_call 48; refine (callsIn_wide.2 (HH.out _)).mono ?_; rintro e w' ⟨rfl, rfl⟩)
          refine ⟨by simp, .inl ⟨_, _, rfl, run_takeDeferred R2.out.2, ?_⟩⟩
          exact ⟨_, results_tmp rfl _ _ _, by rw [no.out]; rfl, fin.out w1 true R2.out.1 R2.out.2⟩
        · rw [B] at HH
          have old2 : Hid (∀ r, r < k + 1 → inX (sgL S 13) r = S.testBit r) := fun r hr => by
            rcases Nat.lt_or_ge r k with h | h
            · exact old.out r h
            · obtain rfl : r = k := by omega
              rw [wi2.out, B]
          clear B old wi2
          gi_wp2_with (refine ⟨trivial, ?_⟩; gi_at_call 48; refine (callsIn_wide.2 (HH.out _)).mono ?_; rintro e w' ⟨rfl, rfl⟩)
          go_roundw
          case rel => exact ⟨k + 1, by omega, by go_num, old2, bL2, bH2, R2⟩
          case measure => simp [intOf]; omega
      · have kz : decide ((k : Int) < 13) = false := decide_eq_false (by omega)
        obtain rfl : k = 13 := by omega
        have yes : Hid (cvN S = true) := (cvN_iff S).2 old.out
        clear old
        gi_wp2
        refine ⟨by simp, .inl ⟨_, _, rfl, run_takeDeferred hR.out.2, ?_⟩⟩
        exact ⟨_, results_tmp rfl _ _ _, by rw [yes.out]; rfl, fin.out wr true hR.out.1 hR.out.2⟩
  case stop =>
    rintro D c pre W _ _ h _
    exact h.elim
end Go.Proofs.YtiaidmjhgfaobaaDoor
