/- Tables of leap seconds in memory: a slice of steps that came in. -/
import Derived.Test.YtocimbiidloofaaGreatDoorLtMath

import Derived.Test.YtocimbiidloofaaGreatDoorLOwn

import Derived.Test.YtocimbiidloofaaGreatDoorLSlP

namespace Go.Proofs.YtocimbiidloofaaGreatDoor

open Go.RowKit

set_option linter.unusedVariables false

/-- A value is a slice of the steps ps. -/
structure LT (w : World) (v : Value) (ps : List (Int × Int)) : Prop where
  sl : PairS 0 w v ps
  len : ps.length ≤ maxLen
  wf : ∀ j, j < ps.length → I64 (ltA ps j) ∧ I64 (ltT ps j)
theorem LT.keep {w w' : World} {v : Value} {ps : List (Int × Int)} (h : LT w v ps) (hb : Below w.heap.size w w') : LT w' v ps := ⟨h.sl.keep hb, h.len, h.wf⟩
theorem LT.old {w : World} {v : Value} {ps : List (Int × Int)} (h : LT w v ps) (o : Obj) : LT (w.alloc o) v ps := h.keep (grow (here w) o)
theorem LT.shape {w : World} {v : Value} {ps : List (Int × Int)} (h : LT w v ps) : ∃ ao c, v = .slice ao ps.length c := Sl.shape h.sl
theorem LT.at {w : World} {ao : Option Addr} {n c : Nat} {ps : List (Int × Int)} (h : LT w (.slice ao n c) ps) {i : Nat} (hi : i < ps.length) :
    ∃ b off, ao = some ⟨b, off, none⟩ ∧ b < w.heap.size ∧ ∀ j, j < ps.length → w.cell? ⟨b, off + j * 2, none⟩ = some (.int .i64 (ltA ps j)) ∧ w.cell? ⟨b, off + j * 2 + 1, none⟩ = some (.int .i64 (ltT ps j)) := by
  rcases h.sl with ⟨h0, -⟩ | ⟨b, off, c', e, -, l⟩
  · omega
  · injection e with e1 e2 e3
    exact ⟨b, off, e1, l.lt, fun j hj => pairs_at l j hj⟩
theorem LT.nil (w : World) : LT w (.slice none 0 0) [] := ⟨Sl.none _ _, by simp [maxLen], fun j hj => absurd hj (Nat.not_lt_zero _)⟩
theorem LT.of {base : Nat} {w : World} {v : Value} {ps : List (Int × Int)} (h : PairS base w v ps) (hl : ps.length ≤ 1000) (hw : ∀ j, j < ps.length → I64 (ltA ps j) ∧ I64 (ltT ps j)) : LT w v ps :=
  ⟨Sl.weak h (Nat.zero_le _), by unfold maxLen; omega, hw⟩
theorem tmod_zero {a : Int} : a.tmod 86400 = 0 ↔ a % 86400 = 0 := by
  have t := Int.tdiv_mul_add_tmod a 86400
  have b := (tr_bd (a := a) (b := 86400) (by decide)).1
  omega
/-- What the package answers, of any table. -/
def laV (ps : List (Int × Int)) (t : Int) : Int := if ltB ps && inB t then ltW ps t else 0
def laE (ps : List (Int × Int)) (t : Int) : Int := if ltB ps then (if inB t then 0 else 2) else 1
def lcV (ps : List (Int × Int)) (a : Int) : Int := if ltB ps && acB ps a then ltU ps a else 0
def lcI (ps : List (Int × Int)) (a : Int) : Bool := ltB ps && acB ps a && ltI ps a
def lcE (ps : List (Int × Int)) (a : Int) : Int := if ltB ps then (if acB ps a then 0 else 2) else 1
def ldV (ps : List (Int × Int)) (a b : Int) : Int := if ltB ps && inB a && inB b then ltW ps b - ltW ps a else 0
def ldE (ps : List (Int × Int)) (a b : Int) : Int := if ltB ps then (if inB a && inB b then 0 else 2) else 1
def lmV (ps : List (Int × Int)) (t : Int) : Int := if ltB ps && inB t then (if ltH ps (ltF t + 60) then 61 else 60) else 0
def luV (ps : List (Int × Int)) (t n : Int) : Int := if ltB ps && inB t && acB ps (ltW ps t + n) && !(ltI ps (ltW ps t + n)) then ltU ps (ltW ps t + n) else 0
def luE (ps : List (Int × Int)) (t n : Int) : Int := if ltB ps then (if inB t && acB ps (ltW ps t + n) then (if ltI ps (ltW ps t + n) then 11 else 0) else 2) else 1
end Go.Proofs.YtocimbiidloofaaGreatDoor
