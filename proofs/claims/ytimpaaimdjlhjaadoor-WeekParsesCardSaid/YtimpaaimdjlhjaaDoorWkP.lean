/- The contract of week.Parse. -/
import Derived.Test.YtimpaaimdjlhjaaDoorWkT
import Derived.Deep.RegionHeld3
import Derived.Lib.BufferWrite
import Derived.Laws.CopyOwn
namespace Go.Proofs.YtimpaaimdjlhjaaDoor
open Go.RowKit
set_option linter.unusedVariables false

/-- A row of ten bytes. -/
structure RowC (w : World) (b : Nat) (f : Nat → Int) : Prop where
  c : ∀ j, j < 10 → w.cell? ⟨b, j, none⟩ = some (.int .u8 (f j))
  lt : b < w.heap.size
theorem RowC.keep {w w' : World} {b : Nat} {f : Nat → Int} (h : RowC w b f) (hb : Below w.heap.size w w') : RowC w' b f :=
  ⟨fun j hj => by rw [hb.cell (p := ⟨b, j, none⟩) h.lt]; exact h.c j hj, by have := hb.size; have := h.lt; omega⟩
theorem kparse_len (s : ByteArray) (hs : s.size ≤ maxLen) (h : s.size ≠ 10) (w : World) :
    Calls Tryd.prog 24 #[.string s] w fun e w' => e = .returned (.tuple #[.agg #[.int .i64 0, .int .i64 0, .int .i64 0], .int .i64 3]) ∧ Below w.heap.size w w' := by
  unfold maxLen at hs
  have k : ((s.size : Int) != 10) = true := by simp; omega
  clear h
  go_enter Tryd.func24, Tryd.ntmps24
  go_wp2
  exact bodyPost_ret (v := .tuple #[.agg #[.int .i64 0, .int .i64 0, .int .i64 0], .int .i64 3]) (by simp [results, Tryd.results24, go_sem]) rfl ⟨rfl, grow (here _) _⟩
theorem copied (s : ByteArray) (hs : s.size = 10) (w : World) (ty : TypeId) : ∃ w2 : World,
    (Builtin.copy_ #[65, 9] ty #[.slice (some ⟨w.heap.size + 1, 0, none⟩) 10 10, .string s]).run Tryd.prog ((w.alloc (.cells #[.int .i64 0, .int .i64 0, .int .i64 0] 26)).alloc (.cells #[.int .u8 0, .int .u8 0, .int .u8 0, .int .u8 0, .int .u8 0, .int .u8 0, .int .u8 0, .int .u8 0, .int .u8 0, .int .u8 0] 64)) = .ok (.int .i64 10) w2 ∧
    RowC w2 (w.heap.size + 1) (bX s.data.toList) ∧
    Below (w.alloc (.cells #[.int .i64 0, .int .i64 0, .int .i64 0] 26)).heap.size (w.alloc (.cells #[.int .i64 0, .int .i64 0, .int .i64 0] 26)) w2 := by
  have hg : ((w.alloc (.cells #[.int .i64 0, .int .i64 0, .int .i64 0] 26)).alloc (.cells #[.int .u8 0, .int .u8 0, .int .u8 0, .int .u8 0, .int .u8 0, .int .u8 0, .int .u8 0, .int .u8 0, .int .u8 0, .int .u8 0] 64)).heap[w.heap.size + 1]? = some (.cells #[.int .u8 0, .int .u8 0, .int .u8 0, .int .u8 0, .int .u8 0, .int .u8 0, .int .u8 0, .int .u8 0, .int .u8 0, .int .u8 0] 64 (0, 0)) := by
    have := heap_alloc_new (w.alloc (.cells #[.int .i64 0, .int .i64 0, .int .i64 0] 26)) (.cells #[.int .u8 0, .int .u8 0, .int .u8 0, .int .u8 0, .int .u8 0, .int .u8 0, .int .u8 0, .int .u8 0, .int .u8 0, .int .u8 0] 64)
    rw [size_two] at this; exact this
  have hcp := Lib.run_copy_row_string (P := Tryd.prog) _ 65 9 ty 5 (w.heap.size + 1) 0 10 10 s _ 64 Tryd.underlying65 (by kernel_rfl) hg (by omega) (by show 0 + s.size ≤ 10; omega)
  rw [hs] at hcp
  obtain ⟨L, hL⟩ : ∃ L : Array Value, L = (List.take 0 #[Value.int .u8 0, .int .u8 0, .int .u8 0, .int .u8 0, .int .u8 0, .int .u8 0, .int .u8 0, .int .u8 0, .int .u8 0, .int .u8 0].toList ++ Lib.byteCells s.data.toList ++ List.drop (0 + 10) #[Value.int .u8 0, .int .u8 0, .int .u8 0, .int .u8 0, .int .u8 0, .int .u8 0, .int .u8 0, .int .u8 0, .int .u8 0, .int .u8 0].toList).toArray := ⟨_, rfl⟩
  rw [← hL] at hcp
  have hh := setRow_heap _ (w.heap.size + 1) _ L _ _ hg
  refine ⟨_, hcp, ⟨fun j hj => ?_, ?_⟩, ?_⟩
  · rw [Lib.cell_of_heap hh, hL]
    rw [List.getElem?_toArray, List.take_zero, List.nil_append, List.drop_of_length_le (by simp), List.append_nil]
    have hl : s.data.toList.length = s.size := Array.length_toList
    unfold Lib.byteCells bX
    rw [List.getElem?_map, List.getD_eq_getElem?_getD, List.getElem?_eq_getElem (by omega)]
    rfl
  · exact (Array.getElem?_eq_some_iff.1 hh).1
  · exact below_setRow ((Below.refl _ _).alloc (Nat.le_refl _) _) (by rw [size_two]; exact Nat.le_refl _) _
theorem kparse_bad (s : ByteArray) (hs : s.size = 10) (h : okX (bX s.data.toList) = false) (w : World) :
    Calls Tryd.prog 24 #[.string s] w fun e w' => e = .returned (.tuple #[.agg #[.int .i64 0, .int .i64 0, .int .i64 0], .int .i64 3]) ∧ Below w.heap.size w w' := by
  obtain ⟨w2, hcp, hR, hb2⟩ := copied s hs w 3
  have HL := Lib.hid (fun w => klayout (bX s.data.toList) (bX_bd _) false h w)
  have k : ((s.size : Int) != 10) = false := by simp; omega
  have ks : (s.size : Int) = 10 := by omega
  have A2 := Lib.hid (down (grow (here w) _) hb2)
  have B2 := Lib.hid (Box.new hb2)
  have F2 := Lib.hid (Free.new hb2)
  clear h hb2
  generalize bX s.data.toList = X at *
  have x0 := hR.c 0 (by omega)
  have x1 := hR.c 1 (by omega)
  have x2 := hR.c 2 (by omega)
  have x3 := hR.c 3 (by omega)
  have x4 := hR.c 4 (by omega)
  have x5 := hR.c 5 (by omega)
  have x6 := hR.c 6 (by omega)
  have x7 := hR.c 7 (by omega)
  have x8 := hR.c 8 (by omega)
  have x9 := hR.c 9 (by omega)
  clear hR
  go_enter Tryd.func24, Tryd.ntmps24
  go_wp2_with fail
  clear x0 x1 x2 x3 x4 x5 x6 x7 x8 x9 hcp
  refine (HL.out _).mono ?_
  rintro e w3 ⟨rfl, hb⟩
  have A3 := Lib.hid (down A2.out hb)
  have B3 := Lib.hid (B2.out.keep hb)
  have F3 := Lib.hid (F2.out.keep B2.out.lt hb)
  clear hb A2 B2 F2
  obtain ⟨c0, c1, c2, z⟩ := B3.out
  obtain ⟨f0, f1, f2⟩ := F3.out
  go_wp2
  exact bodyPost_ret (v := .tuple #[.agg #[.int .i64 0, .int .i64 0, .int .i64 0], .int .i64 3]) (by simp [results, Tryd.results24, go_sem, c0, c1, c2]) rfl ⟨rfl, ((A3.out.setCell (Nat.le_refl _) _).setCell (Nat.le_refl _) _).setCell (Nat.le_refl _) _⟩
end Go.Proofs.YtimpaaimdjlhjaaDoor
