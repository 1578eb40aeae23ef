/- Package runs: all contracts; the examples of the chapter; great lists. -/
import Derived.Test.YtdkmahdfnmoliaaRnKG
import Derived.Test.YtdkmahdfnmoliaaRnKH
import Derived.Test.YtdkmahdfnmoliaaRnG
import Derived.Test.YtdkmahdfnmoliaaLSlP
namespace Go.Proofs.Ytdkmahdfnmoliaa
open Go.RowKit
set_option linter.unusedVariables false

theorem small_max {n : Nat} (h : n ≤ 1000000) : n ≤ maxLen := by unfold maxLen; omega
/-- A fresh literal. -/
theorem prs_lit {w w1 : World} {L : List Sp} {n : Nat} {vs : Array Value} (hw : w.alloc (.cells vs 33) = w1) (hv : vs.toList = pairs L) (hn : L.length = n) : PairS w.heap.size w1 (.slice (some ⟨w.heap.size, 0, none⟩) n n) L := by
  show Sl _ _ _ _ _
  rw [hn]
  refine .inr ⟨w.heap.size, 0, n, rfl, Nat.le_refl _, by rw [← hw]; simp, fun j u hu => ?_⟩
  rw [← hw, Nat.zero_add, World.cell?_alloc_new]
  rw [← hv] at hu
  simpa using hu
set_option maxRecDepth 100000 in
set_option maxHeartbeats 1000000 in
theorem rawake (w : World) : Calls Try.prog 13 #[] w fun e w' => e = .returned (.bool true) ∧ Below w.heap.size w w' := by
  obtain ⟨w1, hw1⟩ : ∃ w1 : World, w.alloc (.cells #[.int .i64 0, .int .i64 4, .int .i64 6, .int .i64 8] 33) = w1 := ⟨_, rfl⟩
  obtain ⟨w2, hw2⟩ : ∃ w2 : World, w1.alloc (.cells #[.int .i64 0, .int .i64 3] 33) = w2 := ⟨_, rfl⟩
  obtain ⟨w3, hw3⟩ : ∃ w3 : World, w2.alloc (.cells #[.int .i64 3, .int .i64 5] 33) = w3 := ⟨_, rfl⟩
  have A1 : Below w.heap.size w w1 := by rw [← hw1]; exact grow (here w) _
  have B2 : Below w1.heap.size w1 w2 := by rw [← hw2]; exact grow (here w1) _
  have B3 : Below w2.heap.size w2 w3 := by rw [← hw3]; exact grow (here w2) _
  have L1 := prs_lit hw1 (L := [(0, 4), (6, 8)]) (n := 2) rfl rfl
  have L2 := prs_lit hw2 (L := [(0, 3)]) (n := 1) rfl rfl
  have L3 := prs_lit hw3 (L := [(3, 5)]) (n := 1) rfl rfl
  have l2 : ([(0, 4), (6, 8)] : List Sp).length ≤ maxLen := small_max (by decide)
  have HU := Lib.hid (ruunion _ _ [(0, 3)] [(3, 5)] (small_max (by decide)) (small_max (by decide)) w3 (L2.keep B3) L3)
  rw [show ruAp 1 [(0, 3)] [(3, 5)] = ([(0, 5)], 0) by decide +kernel] at HU
  have A3 := Lib.hid (down (down A1 B2) B3)
  have P3 := Lib.hid ((L1.keep B2).keep B3)
  have HN := Lib.hid (fun W (h : PairS w.heap.size W (.slice (some ⟨w.heap.size, 0, none⟩) 2 2) [(0, 4), (6, 8)]) => runth _ _ l2 4 ⟨by decide, by decide⟩ W h)
  rw [show (if vaB [(0, 4), (6, 8)] = true then (if (decide ((4 : Int) < 0) || decide (msL [(0, 4), (6, 8)] ≤ 4)) = true then Value.tuple #[.int .i64 0, .int .i64 2] else .tuple #[.int .i64 (nthL [(0, 4), (6, 8)] 4), .int .i64 0]) else .tuple #[.int .i64 0, .int .i64 1]) = Value.tuple #[.int .i64 6, .int .i64 0] from rfl] at HN
  have HX := Lib.hid (fun W (h : PairS w.heap.size W (.slice (some ⟨w.heap.size, 0, none⟩) 2 2) [(0, 4), (6, 8)]) => runext _ _ l2 4 ⟨by decide, by decide⟩ W h)
  rw [show (if vaB [(0, 4), (6, 8)] = true then (nextL [(0, 4), (6, 8)] 4).1 else 0) = 6 from rfl, show (if vaB [(0, 4), (6, 8)] = true then (nextL [(0, 4), (6, 8)] 4).2 else false) = true from rfl] at HX
  have HM := Lib.hid (fun W (h : PairS w.heap.size W (.slice (some ⟨w.heap.size, 0, none⟩) 2 2) [(0, 4), (6, 8)]) => rumeasure _ _ l2 W h)
  rw [show (if vaB [(0, 4), (6, 8)] = true then msL [(0, 4), (6, 8)] else 0) = 6 from rfl] at HM
  have HK := Lib.hid (fun W (h : PairS w.heap.size W (.slice (some ⟨w.heap.size, 0, none⟩) 2 2) [(0, 4), (6, 8)]) => rurank _ _ l2 7 ⟨by decide, by decide⟩ ⟨_, _, _, rfl, Nat.le_refl _⟩ W h)
  rw [show (if vaB [(0, 4), (6, 8)] = true then rkL [(0, 4), (6, 8)] 7 else 0) = 5 from rfl] at HK
  clear L1 L2 L3 A1 B2 B3 l2
  go_enter Try.func13, Try.ntmps13
  go_wp2_with fail
  refine HU.out.mono ?_
  rintro e w4 ⟨⟨v, rfl, U4, -⟩, hb⟩
  have A4 := Lib.hid (down A3.out hb)
  have P4 := Lib.hid (P3.out.keep hb)
  replace U4 := Lib.hid U4
  clear hb A3 P3 HU hw1 hw2 hw3
  go_wp2_with fail
  refine (HN.out _ P4.out).mono ?_
  rintro e w5 ⟨rfl, hb⟩
  have A5 := Lib.hid (down A4.out hb)
  have P5 := Lib.hid (P4.out.keep hb)
  have U5 := Lib.hid (U4.out.keep hb)
  clear hb A4 P4 U4 HN
  go_wp2_with fail
  refine (HX.out _ P5.out).mono ?_
  rintro e w6 ⟨rfl, hb⟩
  have A6 := Lib.hid (down A5.out hb)
  have P6 := Lib.hid (P5.out.keep hb)
  have U6 := Lib.hid (U5.out.keep hb)
  clear hb A5 P5 U5 HX
  obtain ⟨w7, hw7⟩ : ∃ w7 : World, w6.alloc (.cells #[.int .i64 0, .int .i64 5] 33) = w7 := ⟨_, rfl⟩
  have B7 : Below w6.heap.size w6 w7 := by rw [← hw7]; exact grow (here w6) _
  have E7 := Lib.hid (eq_pairs [(0, 5)] [(0, 5)] v _ (by decide) w7 (U6.out.keep B7) (prs_lit hw7 (L := [(0, 5)]) (n := 1) rfl rfl))
  rw [beq_self_eq_true] at E7
  have A7 := Lib.hid (down A6.out B7)
  have P7 := Lib.hid (P6.out.keep B7)
  clear B7 A6 P6 U6
  go_wp2_with fail
  refine E7.out.mono ?_
  rintro e w8 ⟨rfl, q, rfl⟩
  have A8 := Lib.hid (below_drewN A7.out q)
  have P8 := Lib.hid (P7.out.keep (below_drewN (here w7) q))
  obtain ⟨w8, hw8⟩ : ∃ w8 : World, w7.drewN q = w8 := ⟨_, rfl⟩
  rw [hw8] at A8 P8 ⊢
  clear A7 P7 E7 hw7 hw8
  go_wp2_with fail
  refine (HM.out _ P8.out).mono ?_
  rintro e w9 ⟨rfl, hb⟩
  have A9 := Lib.hid (down A8.out hb)
  have P9 := Lib.hid (P8.out.keep hb)
  clear hb A8 P8 HM
  go_wp2_with fail
  refine (HK.out _ P9.out).mono ?_
  rintro e w10 ⟨rfl, hb⟩
  have A10 := Lib.hid (down A9.out hb)
  clear hb A9 P9 HK
  go_wp2
  go_ret
  exact ⟨rfl, A10.out⟩
theorem rgr1 (o : Option Addr) (n c : Nat) (hn : n ≤ maxLen) (w : World) (t : TypeId) :
    Calls Try.prog 18 #[.slice (some ⟨w.heap.size, 0, none⟩) 1 1] (w.alloc (.cells #[.slice o n c] t)) fun e w' => e = .returned (.bool (decide (80 < n))) ∧ w.alloc (.cells #[.slice o n c] t) = w' := by
  have h := rngreat [(o, n, c)] w.heap.size (by simp) (fun i hi => by
    obtain rfl : i = 0 := by simpa using hi
    exact hn) (w.alloc (.cells #[.slice o n c] t)) (by simp) (fun i hi => by
    obtain rfl : i = 0 := by simpa using hi
    rw [World.cell?_alloc_new]; rfl)
  have e : grB [(o, n, c)] = decide (80 < n) := by simp [grB]
  rw [e] at h; exact h
theorem rgr2 (o : Option Addr) (n c : Nat) (hn : n ≤ maxLen) (o' : Option Addr) (n' c' : Nat) (hn' : n' ≤ maxLen) (w : World) (t : TypeId) :
    Calls Try.prog 18 #[.slice (some ⟨w.heap.size, 0, none⟩) 2 2] (w.alloc (.cells #[.slice o n c, .slice o' n' c'] t)) fun e w' => e = .returned (.bool (decide (80 < n) || decide (80 < n'))) ∧ w.alloc (.cells #[.slice o n c, .slice o' n' c'] t) = w' := by
  have two : ∀ i, i < 2 → i = 0 ∨ i = 1 := fun i hi => by omega
  have h := rngreat [(o, n, c), (o', n', c')] w.heap.size (by simp) (fun i hi => by
    rcases two i (by simpa using hi) with rfl | rfl
    · exact hn
    · exact hn') (w.alloc (.cells #[.slice o n c, .slice o' n' c'] t)) (by simp) (fun i hi => by
    rcases two i (by simpa using hi) with rfl | rfl
    · rw [World.cell?_alloc_new]; rfl
    · rw [World.cell?_alloc_new]; rfl)
  have e : grB [(o, n, c), (o', n', c')] = (decide (80 < n) || decide (80 < n')) := by simp [grB]
  rw [e] at h; exact h
end Go.Proofs.Ytdkmahdfnmoliaa
