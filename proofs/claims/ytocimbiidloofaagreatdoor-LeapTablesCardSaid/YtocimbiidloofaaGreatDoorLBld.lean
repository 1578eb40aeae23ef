/- strings.Builder at this program: a builder that the call made itself, written piece by piece, then read. -/
import Derived.Test.YtocimbiidloofaaGreatDoorLOwn

import Derived.Test.YtocimbiidloofaaGreatDoorShelfFour

import Derived.Lib.Builder

import Derived.Lib.AppendStr

import Derived.Lib.Walk

import Derived.Lib.Slices

import Derived.Laws.Externs

import Derived.Laws.IdiomCopy

import Derived.OwnWalk

namespace Go.Proofs.YtocimbiidloofaaGreatDoor

open Go.RowKit

set_option linter.unusedVariables false

/-- A builder in block b that holds the bytes l; what it owns lies from B on. -/
abbrev Bld (B b : Nat) (l : List UInt8) (w : World) : Prop := Lib.IsBuilder 43 5 B b (Lib.byteCells l) w
theorem bldSize : (Tryz.prog.info? 43).map (·.size) = some 2 := by kernel_rfl
theorem bldLies : liesAt Tryz.prog Tryz.prog.depth 43 (2 / Tryz.prog.cellsOf 43) 0 43 1 = true := by kernel_rfl
theorem bldByte : (Tryz.prog.info? 5).map (fun i => (i.zero, i.size, i.bytes)) = some (some (.int .u8 0), 1, 1) := by kernel_rfl
theorem at_keep {p : Value} {B b : Nat} {bs : List Value} {w w' : World} (h : Lib.BuilderAt 43 5 B b p bs w) (hb : Below w.heap.size w w') : Lib.BuilderAt 43 5 B b p bs w' := by
  have lt := h.lt
  obtain ⟨h0, v, h1, h2, h3⟩ := h
  exact ⟨h0, v, (hb.block b lt).trans h1, owns_below h2 hb, h3⟩
theorem Bld.keep {B b : Nat} {l : List UInt8} {w w' : World} (h : Bld B b l w) (hb : Below w.heap.size w w') : Bld B b l w' := by
  rcases h with h | h
  · exact .inl (at_keep h hb)
  · exact .inr (at_keep h hb)
theorem Bld.lt {B b : Nat} {l : List UInt8} {w : World} (h : Bld B b l w) : b < w.heap.size := by
  rcases h with h | h
  · exact Lib.BuilderAt.lt h
  · exact Lib.BuilderAt.lt h
theorem Bld.new (w : World) : Bld w.heap.size w.heap.size [] (w.alloc (.cells #[.pointer none, .slice none 0 0] 43)) := Lib.fresh_isBuilder _ _ w
theorem bld_mono {B b b' : Nat} {p : Value} {bs : List Value} {w : World} (h : Lib.BuilderAt 43 5 b b' p bs w) (hB : B ≤ b) : Lib.BuilderAt 43 5 B b' p bs w := by
  obtain ⟨h0, v, h1, h2, h3⟩ := h
  refine ⟨Nat.le_trans hB h0, v, h1, ⟨h2.1, ?_⟩, h3⟩
  rcases h2.2 with x | ⟨g, cap, cur, e, gb, r⟩
  · exact .inl x
  · exact .inr ⟨g, cap, cur, e, Nat.le_trans hB gb, r⟩
set_option maxRecDepth 100000 in
set_option maxHeartbeats 1000000 in
theorem bld_used (b : Nat) (w : World) (h0 : w.cell? ⟨b, 0, none⟩ = some (.pointer (some ⟨b, 0, none⟩))) :
    Calls Tryz.prog 30 #[.pointer (some ⟨b, 0, none⟩)] w fun e w' => e = .returned (.tuple #[]) ∧ w = w' := by
  obtain ⟨j, hj, _⟩ := Option.map_eq_some_iff.1 bldSize
  go_enter Tryz.func30, Tryz.ntmps30
  go_wp2
  rw [Lib.run_neq_ptr_same w _ Tryz.underlying40 hj]
  go_wp2
  go_end0
  exact ⟨rfl, rfl⟩
set_option maxRecDepth 100000 in
set_option maxHeartbeats 1000000 in
theorem bld_fresh (b : Nat) (w : World) (h0 : w.cell? ⟨b, 0, none⟩ = some (.pointer none)) (hs : w.shape? b = some (43, 2)) (hf : w.frozen? ⟨b, 0, none⟩ = false) :
    Calls Tryz.prog 30 #[.pointer (some ⟨b, 0, none⟩)] w fun e w' => e = .returned (.tuple #[]) ∧ w.setCell ⟨b, 0, none⟩ (.pointer (some ⟨b, 0, none⟩)) = w' := by
  obtain ⟨j, hj, hz⟩ := Option.map_eq_some_iff.1 bldSize
  go_enter Tryz.func30, Tryz.ntmps30
  go_wp2
  rw [Lib.run_to_unsafe w ⟨b, 0, none⟩ Tryz.underlying40 Tryz.underlying86 hj (by rw [hz]; decide) hs (Nat.zero_lt_succ 1)]
  simp only [Result.andThen]
  rw [Oper.upon_value]
  go_wp2
  rw [run_callFunc_extern Tryz.func44 (by kernel_rfl) (by kernel_rfl) (by kernel_rfl) (e := Extern.AbiNoEscape.same) (by kernel_rfl), Lib.run_noEscape]
  simp only [Result.andThen]
  rw [Oper.upon_value]
  go_wp2
  rw [Lib.run_from_unsafe w ⟨b, 0, none⟩ Tryz.underlying86 Tryz.underlying40 hj hs bldLies]
  simp only [Result.andThen]
  rw [Oper.upon_value]
  go_wp2
  go_end0
  exact ⟨rfl, rfl⟩
/-- Behind the check the builder holds its own address. -/
theorem bld_check (B b : Nat) (bs : List Value) (w : World) (h : Lib.IsBuilder 43 5 B b bs w) :
    Calls Tryz.prog 30 #[.pointer (some ⟨b, 0, none⟩)] w fun e w' => e = .returned (.tuple #[]) ∧ Lib.BuilderAt 43 5 B b (.pointer (some ⟨b, 0, none⟩)) bs w' ∧ Below B w w' := by
  rcases h with h | h
  · refine (bld_fresh b w h.cell0 h.shape h.frozen0).mono ?_
    rintro e w' ⟨rfl, rfl⟩
    exact ⟨rfl, h.used _, (Below.refl B w).setCell (p := ⟨b, 0, none⟩) h.1 _⟩
  · refine (bld_used b w h.cell0).mono ?_
    rintro e w' ⟨rfl, rfl⟩
    exact ⟨rfl, h, Below.refl B _⟩
set_option maxRecDepth 100000 in
set_option maxHeartbeats 2000000 in
theorem bld_string (B b : Nat) (l : List UInt8) (s : ByteArray) (w : World) (h : Bld B b l w) (hl : l.length + s.size ≤ 140737488355328) (hw : B ≤ w.heap.size) :
    Calls Tryz.prog 15 #[.pointer (some ⟨b, 0, none⟩), .string s] w fun e w' => e = .returned (.tuple #[.int .i64 s.size, .nilIface]) ∧ Bld B b (l ++ s.data.toList) w' ∧ Below B w w' := by
  obtain ⟨i0, hi, z0, z1, z2⟩ := info_parts bldByte
  have bl : (Lib.byteCells l).length = l.length := by simp [Lib.byteCells]
  have HC := Lib.hid (bld_check B b _ w h)
  have ne : (43 : TypeId) ≠ 5 := by decide
  have ap : Hid (Lib.byteCells (l ++ s.data.toList) = Lib.byteCells l ++ Lib.strCells s) := by show _ = _; simp [Lib.byteCells, Lib.strCells]
  clear h
  go_enter Tryz.func15, Tryz.ntmps15
  go_wp2_with fail
  refine HC.out.mono ?_
  rintro e w1 ⟨rfl, ⟨hB, v, hk, own, hv⟩, hb⟩
  have lt : b < w1.heap.size := by
    rcases Nat.lt_or_ge b w1.heap.size with q | q
    · exact q
    · rw [Array.getElem?_eq_none q] at hk; cases hk
  have c0 : w1.cell? ⟨b, 0, none⟩ = some (.pointer (some ⟨b, 0, none⟩)) := by rw [Lib.cell_of_heap hk]; rfl
  have c1 : w1.cell? ⟨b, 1, none⟩ = some v := by rw [Lib.cell_of_heap hk]; rfl
  have s1 := Nat.le_trans hw hb.size
  go_wp2_with (at_builtin; refine Lib.wpList_append_own_string _ rfl _ _ 41 9 rfl B 5 i0 Tryz.underlying41 Tryz.underlying9 hi z0 z1 z2 _ _ _ rfl own s rfl ?d1 ?d2 ?d3 ?_)
  case d1 => rw [bl]; unfold maxLen; omega
  case d2 => rw [bl]; exact hl
  case d3 => exact s1
  intro v' w2 own' grew _
  have hk2 : w2.heap[b]? = some (.cells #[.pointer (some ⟨b, 0, none⟩), v] 43 (0, 0)) := by rw [grew.block b lt (fun e => hv e.symm)]; exact hk
  have d0 : w2.cell? ⟨b, 0, none⟩ = some (.pointer (some ⟨b, 0, none⟩)) := by rw [Lib.cell_of_heap hk2]; rfl
  have d1 : w2.cell? ⟨b, 1, none⟩ = some v := by rw [Lib.cell_of_heap hk2]; rfl
  have f1 : w2.frozen? ⟨b, 1, none⟩ = false := Lib.frozen_of_heap hk2 1
  obtain ⟨ao, n, cap, rfl⟩ : ∃ ao n cap, v' = .slice ao n cap := by
    rcases own'.2 with ⟨q, -⟩ | ⟨g, cap, cur, q, -⟩ <;> exact ⟨_, _, _, q⟩
  have G := hb.grown grew s1 (own_ge own)
  have P : Hid (Bld B b (l ++ s.data.toList) (w2.setCell ⟨b, 1, none⟩ (.slice ao n cap))) := .inr (Lib.BuilderAt.put hB hk2 (by rw [ap.out, List.length_append, bl, Lib.strCells_length]; exact own') ne)
  replace G := Lib.hid (G.setCell (p := ⟨b, 1, none⟩) hB (.slice ao n cap))
  clear own own' grew hk hk2 hb
  go_wp2
  go_ret2
  exact ⟨rfl, P.out, G.out⟩
set_option maxRecDepth 100000 in
set_option maxHeartbeats 2000000 in
theorem bld_byte (B b : Nat) (l : List UInt8) (c : UInt8) (w : World) (h : Bld B b l w) (hl : l.length + 1 ≤ 140737488355328) (hw : B ≤ w.heap.size) :
    Calls Tryz.prog 17 #[.pointer (some ⟨b, 0, none⟩), .int .u8 c.toNat] w fun e w' => e = .returned .nilIface ∧ Bld B b (l ++ [c]) w' ∧ Below B w w' := by
  obtain ⟨i0, hi, z0, z1, z2⟩ := info_parts bldByte
  have bl : (Lib.byteCells l).length = l.length := by simp [Lib.byteCells]
  have HC := Lib.hid (bld_check B b _ w h)
  have ne : (43 : TypeId) ≠ 5 := by decide
  have ap : Hid (Lib.byteCells (l ++ [c]) = Lib.byteCells l ++ [.int .u8 c.toNat]) := by show _ = _; simp [Lib.byteCells]
  clear h
  generalize ((c.toNat : Nat) : Int) = y at *
  go_enter Tryz.func17, Tryz.ntmps17
  go_wp2_with fail
  refine HC.out.mono ?_
  rintro e w1 ⟨rfl, ⟨hB, v, hk, own, hv⟩, hb⟩
  have lt : b < w1.heap.size := by
    rcases Nat.lt_or_ge b w1.heap.size with q | q
    · exact q
    · rw [Array.getElem?_eq_none q] at hk; cases hk
  have c0 : w1.cell? ⟨b, 0, none⟩ = some (.pointer (some ⟨b, 0, none⟩)) := by rw [Lib.cell_of_heap hk]; rfl
  have c1 : w1.cell? ⟨b, 1, none⟩ = some v := by rw [Lib.cell_of_heap hk]; rfl
  have s1 := Nat.le_trans hw hb.size
  go_wp2_with (at_builtin; refine wpList_append_own _ rfl _ _ 41 rfl B 5 i0 (.int .u8 0) 1 1 Tryz.underlying41 hi z0 z1 z2 rfl (by decide) _ _ _ rfl (own.alloc _) ⟨w1.heap.size, 0, none⟩ 1 1 [.int .u8 y] rfl rfl ?d1 ?d2 ?d3 ?d4 ?d5 ?_)
  case d1 =>
    intro j u hj
    rw [Addr.add_lit, Nat.zero_add, World.cell?_alloc_new]
    simpa using hj
  case d2 => intro u hu; simp at hu; subst hu; rfl
  case d3 => rw [bl]; unfold maxLen; omega
  case d4 => rw [bl]; omega
  case d5 => simp; omega
  intro v' w2 own' grew _
  have hk2 : w2.heap[b]? = some (.cells #[.pointer (some ⟨b, 0, none⟩), v] 43 (0, 0)) := by
    rw [grew.block b (by simp; omega) (fun e => hv e.symm), Lib.alloc_old w1 _ b lt]; exact hk
  have d0 : w2.cell? ⟨b, 0, none⟩ = some (.pointer (some ⟨b, 0, none⟩)) := by rw [Lib.cell_of_heap hk2]; rfl
  have d1 : w2.cell? ⟨b, 1, none⟩ = some v := by rw [Lib.cell_of_heap hk2]; rfl
  have f1 : w2.frozen? ⟨b, 1, none⟩ = false := Lib.frozen_of_heap hk2 1
  obtain ⟨ao, n, cap, rfl⟩ : ∃ ao n cap, v' = .slice ao n cap := by
    rcases own'.2 with ⟨q, -⟩ | ⟨g, cap, cur, q, -⟩ <;> exact ⟨_, _, _, q⟩
  have G := (hb.alloc s1 (.cells #[.int .u8 y] 5)).grown grew (by simp; omega) (own_ge own)
  have P : Hid (Bld B b (l ++ [c]) (w2.setCell ⟨b, 1, none⟩ (.slice ao n cap))) := .inr (Lib.BuilderAt.put hB hk2 (by rw [ap.out, List.length_append, bl]; exact own') ne)
  replace G := Lib.hid (G.setCell (p := ⟨b, 1, none⟩) hB (.slice ao n cap))
  clear own own' grew hk hk2 hb
  go_wp2
  go_ret
  exact ⟨rfl, P.out, G.out⟩
theorem bld_read (B b : Nat) (l : List UInt8) (w : World) (h : Bld B b l w) (hw : B ≤ w.heap.size) :
    Calls Tryz.prog 18 #[.pointer (some ⟨b, 0, none⟩)] w fun e w' => e = .returned (.string ⟨l.toArray⟩) ∧ Below B w w' := Tryz.Builder_String_any B b l w h hw
end Go.Proofs.YtocimbiidloofaaGreatDoor
