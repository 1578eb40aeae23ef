/- Law 13: near. -/
import Derived.Test.YtaikeclfmmnelaaQPeB
import Derived.Test.YtaikeclfmmnelaaQGF
import Derived.StillTailTactics
import Derived.Deep.AppendLies
namespace Go.Proofs.Ytaikeclfmmnelaa
open Go.RowKit
set_option linter.unusedVariables false
set_option linter.unusedSimpArgs false

/-- Numbers that are not far. -/
def NrB (M : List Int) : Prop := ∀ j, j < M.length → -5000000000000 ≤ M.getD j 0 ∧ M.getD j 0 ≤ 5000000000000
theorem nr_mem {M : List Int} (h : ∀ y, y ∈ M → -5000000000000 ≤ y ∧ y ≤ 5000000000000) : NrB M := fun j hj => by
  rw [List.getD_eq_getElem?_getD, List.getElem?_eq_getElem hj]
  exact h _ (List.getElem_mem hj)
theorem nr_add {M : List Int} {a b c d : Int} (h : NrB M) (ha : -5000000000000 ≤ a ∧ a ≤ 5000000000000) (hb : -5000000000000 ≤ b ∧ b ≤ 5000000000000) (hc : -5000000000000 ≤ c ∧ c ≤ 5000000000000) (hd : -5000000000000 ≤ d ∧ d ≤ 5000000000000) : NrB (M ++ [a, b, c, d]) := nr_mem fun y hy => by
  rcases List.mem_append.1 hy with k | k
  · obtain ⟨j, hj, rfl⟩ := List.getElem_of_mem k
    have := h j hj
    rwa [List.getD_eq_getElem?_getD, List.getElem?_eq_getElem hj] at this
  · simp only [List.mem_cons, List.mem_nil_iff, or_false] at k
    rcases k with rfl | rfl | rfl | rfl
    · exact ha
    · exact hb
    · exact hc
    · exact hd
theorem own_one (w : World) (x : Int) : (w.alloc (.cells #[.int .i64 x] 3)).ownsRow w.heap.size 3 1 (.slice (some ⟨w.heap.size, 0, none⟩) 1 1) 1 (ints [x]) :=
  ⟨rfl, .inr ⟨w.heap.size, 1, #[.int .i64 x], rfl, Nat.le_refl _, (MapKept.heap_alloc w _).1, Nat.le_refl _, by decide, rfl, rfl⟩⟩
set_option maxRecDepth 100000 in
set_option maxHeartbeats 4000000 in
theorem rpnear (g : Nat) (PP : Nat → Int) (VV : Nat → Value) (LL : Nat → List Sp) (x : Int) (x0 : -4398046511104 ≤ x) (x1 : x ≤ 4398046511104) (w : World) (hg : g < w.heap.size)
    (CE : ∀ k, k < 2 → w.cell? ⟨g, k * 2, none⟩ = some (.int .i64 (PP k)) ∧ w.cell? ⟨g, k * 2 + 1, none⟩ = some (VV k)) (HV : ∀ k, k < 2 → PV (PP k) (LL k)) (HL : ∀ k, k < 2 → (LL k).length ≤ 40) (HS : ∀ k, k < 2 → PairS 0 w (VV k) (LL k)) :
    Calls Try.prog 33 #[.int .i64 x, .slice (some ⟨g, 0, none⟩) 2 2] w fun e w' => (∃ v' M, e = .returned v' ∧ IntS w.heap.size w' v' M ∧ M.length ≤ 401 ∧ NrB M) ∧ Below w.heap.size w w' := by
  obtain ⟨i0, hi, hz0, hz1, hz2⟩ := info_parts infoI
  have A1 := Lib.hid (grow (here w) (.cells #[.int .i64 x] 3))
  have O1 := Lib.hid (own_one w x)
  have N1 : Hid (NrB [x]) := nr_mem fun y hy => by rw [List.mem_singleton.1 hy]; omega
  replace CE := Lib.hid CE
  replace HV := Lib.hid HV
  replace HL := Lib.hid HL
  replace HS := Lib.hid HS
  replace hg := Lib.hid hg
  go_enter Try.func33, Try.ntmps33
  go_wp2
  generalize (w.alloc (.cells #[.int .i64 x] 3)) = w1 at *
  go_loopw [5, 15] (fun v i wr => ∃ (k : Nat) (v' : Value) (M : List Int), v' = v ∧ k ≤ 2 ∧ 0 < M.length ∧ M.length ≤ 1 + 200 * k ∧ i = .int .i64 k ∧ Hid (NrB M) ∧ Hid (wr.ownsRow w.heap.size 3 1 v M.length (ints M)) ∧ Hid (Below w.heap.size w wr)) (fun _ i _ => 2 - (intOf i).toNat)
  case atStart => exact ⟨0, _, [x], rfl, Nat.zero_le _, by simp, by simp, rfl, N1, O1, A1⟩
  case round =>
    obtain ⟨k, v', M, rfl, hk, zM, lM, rfl, NM, OM, AM⟩ := hrel
    clear N1 O1 A1
    by_cases y : k < 2
    · have ky : decide ((k : Int) < 2) = true := decide_eq_true (by omega)
      obtain ⟨c0, c1⟩ := CE.out k y
      rw [← AM.out.cell (p := ⟨g, k * 2, none⟩) hg.out] at c0
      rw [← AM.out.cell (p := ⟨g, k * 2 + 1, none⟩) hg.out] at c1
      have gl : g < wr.heap.size := by have := AM.out.size; have := hg.out; omega
      have PS := Lib.hid (HS.out k y)
      have pv := HV.out k y
      have l40 := HL.out k y
      generalize PP k = P at *
      generalize LL k = A at *
      generalize VV k = va at *
      obtain ⟨oa, ca, rfl⟩ := prs_shape PS.out
      have p0 := pv.p0
      have p1 := pv.p1
      have bd : Hid (∀ i, i < A.length → 0 ≤ (A.getD i (0, 0)).1 ∧ (A.getD i (0, 0)).1 < (A.getD i (0, 0)).2 ∧ (A.getD i (0, 0)).2 ≤ P) := fun i hi => ⟨(pv.ip _ (getD_mem hi)).1, pv.cn.lt _ (getD_mem hi), (pv.ip _ (getD_mem hi)).2⟩
      obtain ⟨n, hn⟩ : ∃ n, A.length = n := ⟨_, rfl⟩
      rw [hn] at PS l40 bd c1
      have TA := Lib.hid (Two.new (t := 24) (x := .int .i64 P) (y := .slice oa n ca) (here (wr.alloc (.cells #[.int .i64 P, .slice oa n ca] 24))))
      have A4 := Lib.hid (AM.out.alloc AM.out.size (.cells #[.int .i64 P, .slice oa n ca] 24))
      have O4 := Lib.hid (OM.out.alloc (.cells #[.int .i64 P, .slice oa n ca] 24))
      have NM' := NM
      obtain ⟨m, hm⟩ : ∃ m, x % P = m := ⟨_, rfl⟩
      have m0 := Int.emod_nonneg x (show P ≠ 0 by omega)
      have m1 := Int.emod_lt_of_pos x (show 0 < P by omega)
      rw [hm] at m0 m1
      have MO := Lib.hid (fun W => by have h := cmodP x P ⟨by omega, by omega⟩ (by omega) p1 W; rw [hm] at h; exact h)
      obtain ⟨at', hat⟩ : ∃ a, x - m = a := ⟨_, rfl⟩
      clear OM AM NM pv hm
      obtain ⟨t0, t1, tl⟩ := TA.out
      go_wp2_with fail
      generalize (wr.alloc (.cells #[.int .i64 P, .slice oa n ca] 24)) = w4 at *
      refine (MO.out _).mono ?_
      rintro e w5 ⟨rfl, q, rfl⟩
      have A5 : Hid (Below w.heap.size w (w4.drewN q)) := below_drewN A4.out q
      have T5 : Hid (Two (w4.drewN q) wr.heap.size (.int .i64 P) (.slice oa n ca)) := Two.drewN TA.out q
      have O5 : Hid ((w4.drewN q).ownsRow w.heap.size 3 1 v' M.length (ints M)) := O4.out
      generalize w4.drewN q = w5 at *
      clear A4 TA O4 t0 t1 tl c0 c1
      obtain ⟨t0, t1, tl⟩ := T5.out
      go_wp2
      go_loopw [5, 28] (fun v i wi => ∃ (j : Nat) (v' : Value) (M : List Int), v' = v ∧ j ≤ n ∧ 0 < M.length ∧ M.length ≤ 1 + 200 * k + 4 * j ∧ i = .int .i64 j ∧ Hid (NrB M) ∧ Hid (wi.ownsRow w.heap.size 3 1 v M.length (ints M)) ∧ Hid (Below w.heap.size w wi)) (fun _ i _ => n - (intOf i).toNat)
      case atStart => exact ⟨0, _, M, rfl, Nat.zero_le _, zM, by omega, rfl, NM', O5, A5⟩
      case round =>
        obtain ⟨j, v2, M2, rfl, hj, z2, l2, rfl, N2, O2, A2⟩ := hrel
        have P2 := Lib.hid (PS.out.keep A2.out)
        clear O5 A5 T5 NM' t0 t1 tl gl
        by_cases z : j < n
        · have kz : decide ((j : Int) < (n : Int)) = true := decide_eq_true (by omega)
          obtain ⟨b, off, rfl, bl, cs⟩ := prs_here P2.out (show j < A.length by omega)
          obtain ⟨c0, c1⟩ := cs j (by omega)
          obtain ⟨b0, b1, b2⟩ := bd.out j (by omega)
          generalize A.getD j (0, 0) = q at *
          obtain ⟨qx, qy⟩ := q
          replace c0 : wr.cell? ⟨b, off + j * 2, none⟩ = some (.int .i64 qx) := c0
          replace c1 : wr.cell? ⟨b, off + j * 2 + 1, none⟩ = some (.int .i64 qy) := c1
          replace b0 : 0 ≤ qx := b0
          replace b1 : qx < qy := b1
          replace b2 : qy ≤ P := b2
          obtain ⟨f, hf⟩ : ∃ f, at' + qx = f := ⟨_, rfl⟩
          obtain ⟨h, hh⟩ : ∃ h, at' + qy = h := ⟨_, rfl⟩
          obtain ⟨f1, hf1⟩ : ∃ f1, f - 1 = f1 := ⟨_, rfl⟩
          obtain ⟨h1, hh1⟩ : ∃ h1, h - 1 = h1 := ⟨_, rfl⟩
          have N3 := Lib.hid (nr_add N2.out (a := f1) (b := f) (c := h1) (d := h) (by omega) (by omega) (by omega) (by omega))
          have X := Lib.hid (Two.new (t := 37) (x := .int .i64 qx) (y := .int .i64 qy) (here (wr.alloc (.cells #[.int .i64 qx, .int .i64 qy] 37))))
          have A3 := Lib.hid (A2.out.alloc A2.out.size (.cells #[.int .i64 qx, .int .i64 qy] 37))
          have O3 := Lib.hid (O2.out.alloc (.cells #[.int .i64 qx, .int .i64 qy] 37))
          clear A2 P2 N2 cs
          obtain ⟨gb, cp, rfl⟩ := Joins.ownsRow_form O2.out z2
          obtain ⟨L2, hL2⟩ : ∃ L, M2.length = L := ⟨_, rfl⟩
          rw [hL2] at O2 O3 l2 z2
          have CC : Hid (∀ (i : Nat) (u : Value), [Value.int .i64 f1, .int .i64 f, .int .i64 h1, .int .i64 h][i]? = some u → ((wr.alloc (.cells #[.int .i64 qx, .int .i64 qy] 37)).alloc (.cells #[.int .i64 f1, .int .i64 f, .int .i64 h1, .int .i64 h] 3)).cell? ((⟨wr.heap.size + 1, 0, none⟩ : Addr).add i) = some u) := fun i u hi => by
            rw [Addr.add_lit, Nat.zero_add, show wr.heap.size + 1 = (wr.alloc (.cells #[.int .i64 qx, .int .i64 qy] 37)).heap.size by simp, World.cell?_alloc_new]; simpa using hi
          have CM : Hid (L2 + 4 ≤ maxLen) := by show _ ≤ _; unfold maxLen; omega
          have sz : Hid (w.heap.size ≤ ((wr.alloc (.cells #[.int .i64 qx, .int .i64 qy] 37)).alloc (.cells #[.int .i64 f1, .int .i64 f, .int .i64 h1, .int .i64 h] 3)).heap.size) := by show _ ≤ _; have := A3.out.size; simp at this ⊢; omega
          clear O2
          obtain ⟨x0, x1, xl⟩ := X.out
          rw [hL2]
          go_wp2_with (at_builtin; refine wpList_append_own _ rfl _ _ 48 rfl w.heap.size 3 i0 (.int .i64 0) 1 8 Try.underlying48 hi hz0 hz1 hz2 rfl (by decide) (.slice (some ⟨gb, 0, none⟩) L2 cp) L2 (ints M2) rfl (O3.out.alloc _) ⟨wr.heap.size + 1, 0, none⟩ 4 4 [.int .i64 f1, .int .i64 f, .int .i64 h1, .int .i64 h] rfl rfl CC.out (fun u hu => by simp at hu; rcases hu with rfl | rfl | rfl | rfl <;> rfl) CM.out (by omega) sz.out ?_)
          intro v7 w7 hown hgrow _
          have B7 := (A3.out.alloc A3.out.size (.cells #[.int .i64 f1, .int .i64 f, .int .i64 h1, .int .i64 h] 3)).grown hgrow sz.out (own_ge O3.out)
          replace B7 := Lib.hid B7
          have O7 : Hid (w7.ownsRow w.heap.size 3 1 v7 (M2 ++ [f1, f, h1, h]).length (ints (M2 ++ [f1, f, h1, h]))) := by
            show World.ownsRow _ _ _ _ _ _ _
            rw [ints_app, List.length_append, hL2]; exact hown
          clear hown hgrow O3 A3 X CC CM sz x0 x1 xl
          go_wp2
          go_roundw
          case rel => exact ⟨j + 1, v7, _, rfl, by omega, by simp, by rw [List.length_append, hL2]; simp; omega, by first | rfl | go_num, N3, O7, B7⟩
          case measure => simp [intOf]; omega
        · have kz : decide ((j : Int) < (n : Int)) = false := decide_eq_false (by omega)
          obtain rfl : j = n := by omega
          clear P2
          go_wp2
          go_roundw
          case rel => exact ⟨k + 1, _, M2, rfl, by omega, z2, by omega, by first | rfl | go_num, N2, O2, A2⟩
          case measure => simp [intOf]; omega
    · have ky : decide ((k : Int) < 2) = false := decide_eq_false (by omega)
      obtain rfl : k = 2 := by omega
      have I9 : Hid (IntS w.heap.size wr v' M) := Sl.owns OM.out
      go_wp2
      go_ret
      exact ⟨⟨_, M, rfl, I9.out, by omega, NM.out⟩, AM.out⟩
end Go.Proofs.Ytaikeclfmmnelaa
