/- bits.OnesCount32: the sum of the table's four bytes. -/
import Derived.Test.YtobipbmigpkhmaaDoorIsReal
import Derived.Test.YtobipbmigpkhmaaDoorIsW
import Derived.Lib.BitFns
import Derived.Lib.Small
import Derived.Lib.Walk
import Derived.Laws.BitsAll
namespace Go.Proofs.YtobipbmigpkhmaaDoor
open Go.RowKit
set_option linter.unusedVariables false

def ones4 (x : Int) : Int := Lib.pop8 (x / 16777216) + Lib.pop8 (bits .and .u32 (x / 65536) 255) + Lib.pop8 (bits .and .u32 (x / 256) 255) + Lib.pop8 (bits .and .u32 x 255)
theorem pop8_bd (b : Int) (h0 : 0 ≤ b) (h1 : b ≤ 255) : 0 ≤ Lib.pop8 b ∧ Lib.pop8 b ≤ 8 := by
  have e := Lib.pop8_eq ⟨b.toNat, by omega⟩
  have l := Lib.onesCount_le8 ⟨b.toNat, by omega⟩
  simp only [Int.toNat_of_nonneg h0] at e
  rw [e]
  simp only at l
  omega
theorem byte_of (x : Int) (h0 : 0 ≤ x) (h1 : x ≤ 4294967295) : 0 ≤ bits .and .u32 x 255 ∧ bits .and .u32 x 255 ≤ 255 := by
  have h := bits_mask .u32 32 (by decide) (fun n a b => by rw [IntKind.wrap_u32]; omega) 8 (by decide) x h0 (by omega)
  rw [show ((2 : Int) ^ 8 - 1) = 255 by decide, show ((2 : Int) ^ 8) = 256 by decide] at h
  rw [h]; omega
set_option maxRecDepth 100000 in
set_option maxHeartbeats 1000000 in
theorem ones32 (x : Int) (h0 : 0 ≤ x) (h1 : x ≤ 4294967295) (w : World) :
    Calls Tryd.prog 54 #[.int .u32 x] w fun e w' => e = .returned (.int .i64 (ones4 x)) ∧ ∃ n, w' = w.drewN n := by
  have a0 : 0 ≤ x / 16777216 := by omega
  have a1 : x / 16777216 ≤ 255 := by omega
  obtain ⟨b0, b1⟩ := byte_of (x / 65536) (by omega) (by omega)
  obtain ⟨c0, c1⟩ := byte_of (x / 256) (by omega) (by omega)
  obtain ⟨d0, d1⟩ := byte_of x h0 h1
  obtain ⟨pa0, pa1⟩ := pop8_bd _ a0 a1
  obtain ⟨pb0, pb1⟩ := pop8_bd _ b0 b1
  obtain ⟨pc0, pc1⟩ := pop8_bd _ c0 c1
  obtain ⟨pd0, pd1⟩ := pop8_bd _ d0 d1
  unfold ones4
  obtain ⟨a, ha⟩ : ∃ a, x / 16777216 = a := ⟨_, rfl⟩
  obtain ⟨b, hb⟩ : ∃ a, bits .and .u32 (x / 65536) 255 = a := ⟨_, rfl⟩
  obtain ⟨c, hc⟩ : ∃ a, bits .and .u32 (x / 256) 255 = a := ⟨_, rfl⟩
  obtain ⟨d, hd⟩ : ∃ a, bits .and .u32 x 255 = a := ⟨_, rfl⟩
  rw [ha] at a0 a1 pa0 pa1 ⊢
  rw [hb] at b0 b1 pb0 pb1 ⊢
  rw [hc] at c0 c1 pc0 pc1 ⊢
  rw [hd] at d0 d1 pd0 pd1 ⊢
  generalize hA : Lib.pop8 a = A at *
  generalize hB : Lib.pop8 b = B at *
  generalize hC : Lib.pop8 c = C at *
  generalize hD : Lib.pop8 d = D at *
  go_enter Tryd.func54, Tryd.ntmps54
  go_wp2
  go_region
  go_wp2
  go_ret
  exact ⟨rfl, 1, rfl⟩
theorem ones_all : ∀ r : Fin 31, ∀ k : Fin 4, ones4 (bits .and .u32 (maskK ((k : Nat) + 1 : Int)) (2 ^ ((r : Nat) + 1) - 1)) = icnt ((k : Nat) + 1 : Int) (r : Nat) := by decide +kernel
theorem ones_cnt {k r : Int} (k0 : 1 ≤ k) (k1 : k ≤ 4) (r0 : 0 ≤ r) (r1 : r ≤ 30) : ones4 (bits .and .u32 (maskK k) (2 ^ (r + 1).toNat - 1)) = icnt k r := by
  have h := ones_all ⟨r.toNat, by omega⟩ ⟨(k - 1).toNat, by omega⟩
  simp only [show (((k - 1).toNat : Nat) : Int) + 1 = k by omega, show ((r.toNat : Nat) : Int) = r by omega] at h
  rw [show (r + 1).toNat = r.toNat + 1 by omega]
  exact h
theorem mask_range : ∀ r : Fin 31, ∀ k : Fin 4, 0 ≤ bits .and .u32 (maskK ((k : Nat) + 1 : Int)) (2 ^ ((r : Nat) + 1) - 1) ∧ bits .and .u32 (maskK ((k : Nat) + 1 : Int)) (2 ^ ((r : Nat) + 1) - 1) ≤ 4294967295 := by decide +kernel
theorem ret_same {k : IntKind} {a b : Int} (h : a = b) : Ending.returned (.int k a) = Ending.returned (.int k b) := by rw [h]
/-- The package's variable. -/
structure Tabs (w : World) : Prop where
  lp : Lib.TabIs Tryd.prog w "civiltime/islamic.leapYears" .u32 maskTab
theorem gMasks : Tryd.prog.globalNamed "civiltime/islamic.leapYears" = some 0 := by kernel_rfl
theorem Tabs.below {w w' : World} (h : Tabs w) (hb : Below w.heap.size w w') : Tabs w' := ⟨Joins.tab_stays gMasks h.lp hb (Nat.le_refl _)⟩
theorem Tabs.drewN {w : World} (h : Tabs w) (n : Nat) : Tabs (w.drewN n) := h.below (below_drewN (here w) n)
theorem mask_cell {w : World} (h : Tabs w) {k : Int} (k0 : 1 ≤ k) (k1 : k ≤ 4) : w.cell? ⟨0, k.toNat, none⟩ = some (.int .u32 (maskK k)) := by
  rw [Lib.TabIs.cell h.lp gMasks k.toNat (by show k.toNat < 5; omega)]
  rcases kind_cases k0 k1 with rfl | rfl | rfl | rfl <;> rfl
theorem pow_small : ∀ r : Fin 31, ((2 : Int) ^ ((r : Nat) + 1) - 1) % 4294967296 = 2 ^ ((r : Nat) + 1) - 1 := by decide +kernel
theorem ones_at {k r : Int} (k0 : 1 ≤ k) (k1 : k ≤ 4) (r0 : 0 ≤ r) (r1 : r ≤ 30) (w : World) :
    Calls Tryd.prog 54 #[.int .u32 (bits .and .u32 (maskK k) ((2 ^ (r + 1).toNat - 1) % 4294967296))] w fun e w' => e = .returned (.int .i64 (icnt k r)) ∧ ∃ n, w' = w.drewN n := by
  have p := pow_small ⟨r.toNat, by omega⟩
  have q := mask_range ⟨r.toNat, by omega⟩ ⟨(k - 1).toNat, by omega⟩
  simp only [show (((k - 1).toNat : Nat) : Int) + 1 = k by omega] at q
  simp only [] at p
  rw [← ones_cnt k0 k1 r0 r1, show (r + 1).toNat = r.toNat + 1 by omega, p]
  exact ones32 _ q.1 q.2 w
set_option maxRecDepth 100000 in
set_option maxHeartbeats 1000000 in
theorem xidays (k r : Int) (k0 : 1 ≤ k) (k1 : k ≤ 4) (r0 : 0 ≤ r) (r1 : r ≤ 30) (w : World) (ht : Tabs w) :
    Calls Tryd.prog 40 #[.int .i64 k, .int .i64 r] w fun e w' => e = .returned (.int .i64 (iD k r)) ∧ ∃ n, w' = w.drewN n := by
  have hm := mask_cell ht k0 k1
  have HO := Lib.hid (fun w => ones_at k0 k1 r0 r1 w)
  obtain ⟨b0, b1⟩ := icnt_bd k0 k1 r0 r1
  unfold iD
  generalize maskK k = M at *
  generalize icnt k r = C at *
  go_enter Tryd.func40, Tryd.ntmps40
  go_wp2_with fail
  refine (HO.out _).mono ?_
  rintro e w1 ⟨rfl, n, rfl⟩
  go_wp2
  go_ret
  exact ⟨ret_same (show r * 354 + C = 354 * r + C by omega), n, rfl⟩
end Go.Proofs.YtobipbmigpkhmaaDoor
