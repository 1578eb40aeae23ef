/- The walks of IslamicMonths and IslamicMoved: the Go text returns true, at every input. -/
import Derived.Test.YtobipbmigpkhmaaDoorIsAwake
import Derived.Test.YtobipbmigpkhmaaDoorLSlP
namespace Go.Proofs.YtobipbmigpkhmaaDoor
open Go.RowKit
set_option linter.unusedVariables false

set_option maxRecDepth 100000 in
set_option maxHeartbeats 2000000 in
theorem same_all (O Q : Int) (v1 v2 : Value) (L : List (Int × Int)) (hL : L.length ≤ 360) (w : World) {p1 p2 : Nat} (h1 : PairS p1 w v1 L) (h2 : PairS p2 w v2 L) :
    Calls Tryd.prog 29 #[.agg #[.int .i64 O, .int .i64 Q, v1], .agg #[.int .i64 O, .int .i64 Q, v2]] w fun e w' => e = .returned (.bool true) ∧ Below w.heap.size w w' := by
  obtain ⟨a1, c1, rfl⟩ := h1.shape
  obtain ⟨a2, c2, rfl⟩ := h2.shape
  have HE := fun w1 (hb : Below w.heap.size w w1) => eq_pairs L L _ _ (by omega) w1 (h1.keep hb) (h2.keep hb)
  rw [show (L == L) = true from by rw [beq_iff_eq]] at HE
  replace HE := Lib.hid HE
  clear h1 h2 hL
  generalize L.length = n at *
  go_enter Tryd.func29, Tryd.ntmps29
  go_wp2_with fail
  refine (HE.out _ (grow (grow (here w) _) _)).mono ?_
  rintro e w2 ⟨rfl, q, rfl⟩
  go_wp2
  go_ret
  exact ⟨rfl, below_drewN (grow (grow (here w) _) _) _⟩
namespace IslamicMonths
set_option maxRecDepth 100000 in
set_option maxHeartbeats 2000000 in
theorem walk (k f n : Int) (hk : (Lit.int .i64 k).wf = true) (hf : (Lit.int .i64 f).wf = true) (hn : (Lit.int .i64 n).wf = true) (w : World) (ht : Tabs w) :
    Calls Tryd.prog 5 #[.int .i64 k, .int .i64 f, .int .i64 n] w fun e w' => e = .returned (.bool true) ∧ Below w.heap.size w w' := by
  replace hk := i64_wf hk
  replace hf := i64_wf hf
  replace hn := i64_wf hn
  have H := fun w ht => uimonths k f n hk hf hn w ht
  have R := fun w => rimonths k f n hk hf hn w
  have hl := imonL_len k f n
  generalize imonO k f n = O at *
  generalize imonP k f n = Q at *
  generalize imonE k f n = E at *
  generalize imonL k f n = L at *
  have HS := Lib.hid (fun v1 v2 w p1 p2 (h1 : PairS p1 w v1 L) (h2 : PairS p2 w v2 L) => same_all O Q v1 v2 L hl w h1 h2)
  clear hk hf hn hl
  have AW := Lib.hid (fun w ht => awake_all w ht)
  replace ht := Lib.hid ht
  replace H := Lib.hid H
  replace R := Lib.hid R
  go_enter Tryd.func5, Tryd.ntmps5
  go_wp2_with fail
  refine (AW.out _ (ht.out.below (here w))).mono ?_
  rintro e w1 ⟨rfl, hb⟩
  have A1 := Lib.hid (down (here w) hb)
  clear hb
  go_wp2_with fail
  refine (H.out _ (ht.out.below A1.out)).mono ?_
  rintro e w2 ⟨⟨v, rfl, S⟩, hb⟩
  obtain ⟨ao, ac, rfl⟩ := S.shape
  have A2 := Lib.hid (down A1.out hb)
  clear hb A1
  have S2 := Lib.hid S
  clear S
  go_wp2_with fail
  refine (R.out _).mono ?_
  rintro e w3 ⟨⟨u, rfl, T⟩, hb⟩
  obtain ⟨bo, bc, rfl⟩ := T.shape
  have A3 := Lib.hid (down (grow A2.out _) hb)
  have X3 := Lib.hid (Box.new hb)
  have S3 := Lib.hid ((S2.out.keep (grow (here _) _)).keep hb)
  clear hb A2 S2
  obtain ⟨x3_0, x3_1, x3_2, x3_z⟩ := X3.out
  have T3 := Lib.hid T
  clear T
  go_wp2_with fail
  refine (HS.out _ _ _ _ _ (S3.out.keep (grow (here _) _)) (T3.out.keep (grow (here _) _))).mono ?_
  rintro e w4 ⟨rfl, hb⟩
  have A4 := Lib.hid (down (grow A3.out _) hb)
  have X4 := Lib.hid ((X3.out.old _).keep hb)
  have Y4 := Lib.hid (Box.new hb)
  have S4 := Lib.hid ((S3.out.keep (grow (here _) _)).keep hb)
  have T4 := Lib.hid ((T3.out.keep (grow (here _) _)).keep hb)
  clear hb A3 X3 S3 T3 x3_0 x3_1 x3_2 x3_z
  obtain ⟨x4_0, x4_1, x4_2, x4_z⟩ := X4.out
  obtain ⟨y4_0, y4_1, y4_2, y4_z⟩ := Y4.out
  go_wp2
  go_ret
  exact ⟨rfl, by first | exact A4.out | exact grow A4.out _ | exact below_drewN A4.out _ | exact grow (grow A4.out _) _ | exact grow (grow (grow A4.out _) _) _⟩
end IslamicMonths
namespace IslamicMoved
set_option maxRecDepth 100000 in
set_option maxHeartbeats 2000000 in
theorem walk (k y m d g : Int) (hk : (Lit.int .i64 k).wf = true) (hy : (Lit.int .i64 y).wf = true) (hm : (Lit.int .i64 m).wf = true) (hd : (Lit.int .i64 d).wf = true) (hg : (Lit.int .i64 g).wf = true) (w : World) (ht : TabsM w) :
    Calls Tryd.prog 6 #[.int .i64 k, .agg #[.int .i64 y, .int .i64 m, .int .i64 d], .int .i64 g] w fun e w' => e = .returned (.bool true) ∧ Below w.heap.size w w' := by
  replace hk := i64_wf hk
  replace hy := i64_wf hy
  replace hm := i64_wf hm
  replace hd := i64_wf hd
  replace hg := i64_wf hg
  have H := fun w ht => uimoved k y m d g hk hy hm hd hg w ht
  have R := fun w => rimoved k y m d g hk hy hm hd hg w
  have hl := imvL_len k m d g
  generalize imvE k m d g = E at *
  generalize imvL k m d g = L at *
  have HS := fun v1 v2 w p1 p2 (h1 : IntS p1 w v1 L) (h2 : IntS p2 w v2 L) => eq_ints L L v1 v2 (by omega) w h1 h2
  rw [show (L == L) = true from by rw [beq_iff_eq]] at HS
  replace HS := Lib.hid HS
  clear hk hy hm hd hg hl
  have AW := Lib.hid (fun w ht => awake_all w ht)
  replace ht := Lib.hid ht
  replace H := Lib.hid H
  replace R := Lib.hid R
  go_enter Tryd.func6, Tryd.ntmps6
  go_wp2_with fail
  refine (AW.out _ (ht.out.below (grow (here w) _))).mono ?_
  rintro e w1 ⟨rfl, hb⟩
  have A1 := Lib.hid (down (grow (here w) _) hb)
  have D1 := Lib.hid (Box.new hb)
  clear hb
  obtain ⟨d1_0, d1_1, d1_2, d1_z⟩ := D1.out
  go_wp2_with fail
  refine (H.out _ (ht.out.belowM A1.out)).mono ?_
  rintro e w2 ⟨⟨v, rfl, S⟩, hb⟩
  obtain ⟨ao, ac, rfl⟩ := S.shape
  have A2 := Lib.hid (down A1.out hb)
  have D2 := Lib.hid (D1.out.keep hb)
  clear hb A1 D1 d1_0 d1_1 d1_2 d1_z
  obtain ⟨d2_0, d2_1, d2_2, d2_z⟩ := D2.out
  have S2 := Lib.hid S
  clear S
  go_wp2_with fail
  refine (R.out _).mono ?_
  rintro e w3 ⟨⟨u, rfl, T⟩, hb⟩
  obtain ⟨bo, bc, rfl⟩ := T.shape
  have A3 := Lib.hid (down A2.out hb)
  have D3 := Lib.hid (D2.out.keep hb)
  have S3 := Lib.hid (S2.out.keep hb)
  clear hb A2 D2 S2 d2_0 d2_1 d2_2 d2_z
  obtain ⟨d3_0, d3_1, d3_2, d3_z⟩ := D3.out
  have T3 := Lib.hid T
  clear T
  go_wp2_with fail
  refine (HS.out _ _ _ _ _ S3.out T3.out).mono ?_
  rintro e x1 ⟨rfl, q, rfl⟩
  go_wp2
  go_ret
  exact ⟨rfl, by first | exact A3.out | exact grow A3.out _ | exact below_drewN A3.out _ | exact grow (grow A3.out _) _ | exact grow (grow (grow A3.out _) _) _⟩
end IslamicMoved
end Go.Proofs.YtobipbmigpkhmaaDoor
