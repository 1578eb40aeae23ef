/- Contracts of civiltimeref11: Names, Text. -/
import Derived.Test.YtiaidmjhgfaobaaDoorAlS
import Derived.Test.YtiaidmjhgfaobaaDoorLIvN
import Derived.Test.YtiaidmjhgfaobaaDoorAlV
import Derived.Deep.RegionHeld3
import Derived.OwnWalk
import Derived.Deep.QuietTactic
import Derived.BigQuiet
import Derived.Outline
namespace Go.Proofs.YtiaidmjhgfaobaaDoor
open Go.RowKit
set_option linter.unusedVariables false

theorem ba_app (x y : List UInt8) : (⟨x.toArray⟩ : ByteArray) ++ ⟨y.toArray⟩ = ⟨(x ++ y).toArray⟩ := by
  apply ByteArray.ext
  simp
/-- The names in memory. -/
structure NmsAt (w : World) (b : Nat) : Prop where
  c : ∀ k, k < 13 → w.cell? ⟨b, k, none⟩ = some (.string (nmV k))
  lt : b < w.heap.size
theorem ranames (w : World) : Calls Tryd.prog 52 #[] w fun e w' => (∃ b, e = .returned (.slice (some ⟨b, 0, none⟩) 13 13) ∧ NmsAt w' b) ∧ Below w.heap.size w w' := by
  have N : NmsAt (w.alloc (.cells #[.string ⟨#[98, 101, 102, 111, 114, 101]⟩, .string ⟨#[109, 101, 101, 116, 115]⟩, .string ⟨#[111, 118, 101, 114, 108, 97, 112, 115]⟩, .string ⟨#[115, 116, 97, 114, 116, 115]⟩, .string ⟨#[100, 117, 114, 105, 110, 103]⟩, .string ⟨#[102, 105, 110, 105, 115, 104, 101, 115]⟩, .string ⟨#[101, 113, 117, 97, 108, 115]⟩, .string ⟨#[102, 105, 110, 105, 115, 104, 101, 100, 98, 121]⟩, .string ⟨#[99, 111, 110, 116, 97, 105, 110, 115]⟩, .string ⟨#[115, 116, 97, 114, 116, 101, 100, 98, 121]⟩, .string ⟨#[111, 118, 101, 114, 108, 97, 112, 112, 101, 100, 98, 121]⟩, .string ⟨#[109, 101, 116, 98, 121]⟩, .string ⟨#[97, 102, 116, 101, 114]⟩] 9)) w.heap.size := by
    refine ⟨fun k hk => ?_, by simp⟩
    rw [World.cell?_alloc_new]
    match k, hk with
    | 0, _ => rfl
    | 1, _ => rfl
    | 2, _ => rfl
    | 3, _ => rfl
    | 4, _ => rfl
    | 5, _ => rfl
    | 6, _ => rfl
    | 7, _ => rfl
    | 8, _ => rfl
    | 9, _ => rfl
    | 10, _ => rfl
    | 11, _ => rfl
    | 12, _ => rfl
  go_enter Tryd.func52, Tryd.ntmps52
  go_wp2
  go_ret
  exact ⟨⟨_, rfl, N⟩, grow (here w) _⟩
/-- The names of the first relations of a list, joined. -/
def txK (L : List Int) : Nat → List UInt8
  | 0 => []
  | k + 1 => (txK L k ++ (if 0 < k then [124] else [])) ++ (nmV (L.getD k 0).toNat).data.toList
def txB (s : Int) : List UInt8 := if s = 0 then [110, 111, 110, 101] else if s = 8191 then [97, 110, 121] else txK (sgV s) (sgV s).length
theorem txK_len (L : List Int) (h : ∀ j, j < L.length → ∃ r : Nat, r < 13 ∧ L.getD j 0 = r) : ∀ k, k ≤ L.length → (txK L k).length ≤ 13 * k := by
  intro k
  induction k with
  | zero => intro _; exact Nat.le_refl _
  | succ k ih =>
    intro hk
    obtain ⟨r, hr, e⟩ := h k (by omega)
    show ((txK L k ++ (if 0 < k then [124] else [])) ++ (nmV (L.getD k 0).toNat).data.toList).length ≤ _
    have sm := nm_small ⟨r, hr⟩
    have ll : (nmV r).data.toList.length = (nmV r).size := Array.length_toList
    rw [List.length_append, List.length_append, e]
    show (txK L k).length + _ + (nmV r).data.toList.length ≤ _
    have := ih (by omega)
    simp only at sm
    split <;> simp <;> omega
set_option maxRecDepth 100000 in
set_option maxHeartbeats 1000000 in
theorem ratext (s : Int) (hs : I64 s) (w : World) :
    Calls Tryd.prog 28 #[.int .i64 s] w fun e w' => e = .returned (.string ⟨(txB s).toArray⟩) ∧ Below w.heap.size w w' := by
  by_cases z0 : s = 0
  · have k0 : (s == 0) = true := beq_iff_eq.2 z0
    rw [show txB s = [110, 111, 110, 101] by unfold txB; rw [if_pos z0]]
    clear z0
    go_enter Tryd.func28, Tryd.ntmps28
    go_wp2
    go_ret
    exact ⟨rfl, here w⟩
  have k0 : (s == 0) = false := by rw [beq_eq_false_iff_ne]; exact z0
  by_cases z1 : s = 8191
  · have k1 : (s == 8191) = true := beq_iff_eq.2 z1
    rw [show txB s = [97, 110, 121] by unfold txB; rw [if_neg z0, if_pos z1]]
    clear z0 z1
    go_enter Tryd.func28, Tryd.ntmps28
    go_wp2
    go_ret
    exact ⟨rfl, here w⟩
  have k1 : (s == 8191) = false := by rw [beq_eq_false_iff_ne]; exact z1
  rw [show txB s = txK (sgV s) (sgV s).length by unfold txB; rw [if_neg z0, if_neg z1]]
  have HS := Lib.hid (fun w => rasingles s hs w)
  have HN := Lib.hid ranames
  have ME : Hid (∀ j, j < (sgV s).length → ∃ r : Nat, r < 13 ∧ (sgV s).getD j 0 = r) := by
    show ∀ j, _
    unfold sgV
    split
    · exact sg_mem _ 13
    · intro j hj; exact absurd hj (Nat.not_lt_zero _)
  have l13 : (sgV s).length ≤ 13 := by
    unfold sgV
    split
    · exact sgL_len _ 13
    · exact Nat.zero_le _
  have ST : Hid (∀ k, txK (sgV s) (k + 1) = (txK (sgV s) k ++ (if 0 < k then [124] else [])) ++ (nmV ((sgV s).getD k 0).toNat).data.toList) := fun _ => rfl
  have TL := Lib.hid (txK_len (sgV s) ME.out)
  have Z : Hid (txK (sgV s) 0 = []) := rfl
  generalize txK (sgV s) = T at *
  generalize sgV s = L at *
  clear z0 z1 hs
  go_enter Tryd.func28, Tryd.ntmps28
  go_wp2_with fail
  refine (HS.out _).mono ?_
  rintro e w1 ⟨⟨v, rfl, PM⟩, hb⟩
  obtain ⟨ao, cp, rfl⟩ := Sl.shape PM
  have A1 := Lib.hid hb
  have L1 : Hid (IntS 0 w1 (.slice ao L.length cp) L) := Sl.weak PM (Nat.zero_le _)
  clear hb PM HS
  go_wp2
  go_loopw [3, 5] (fun o i wr => ∃ k : Nat, k ≤ L.length ∧ o = .string ⟨(T k).toArray⟩ ∧ i = .int .i64 k ∧ Hid (Below w.heap.size w wr) ∧ Hid (IntS 0 wr (.slice ao L.length cp) L)) (fun _ i _ => L.length - (intOf i).toNat)
  case atStart => exact ⟨0, Nat.zero_le _, by rw [Z.out], rfl, A1.out, L1.out⟩
  case round =>
    obtain ⟨k, hk, rfl, rfl, HA, HL⟩ := hrel
    clear A1 L1
    by_cases z : k < L.length
    · have kz : decide ((k : Int) < (L.length : Int)) = true := decide_eq_true (by omega)
      obtain ⟨b, off, rfl, bl, cs⟩ := ints_here HL.out z
      obtain ⟨r, hr, er⟩ := ME.out k z
      have cc := cs k z
      rw [er] at cc
      have st := Lib.hid (ST.out k)
      rw [er] at st
      have tl := TL.out k hk
      have sm := nm_small ⟨r, hr⟩
      have ll : (nmV r).data.toList.length = (nmV r).size := Array.length_toList
      simp only at sm
      have NC : Hid (∀ (w' : World) (b' : Nat), NmsAt w' b' → w'.cell? ⟨b', r, none⟩ = some (.string ⟨(nmV r).data.toList.toArray⟩)) := fun w' b' h => by rw [h.c r hr]
      replace st : Hid (T (k + 1) = (T k ++ (if 0 < k then [124] else [])) ++ (nmV r).data.toList) := st
      clear cs er ST TL Z ME
      generalize (nmV r).data.toList = N at *
      have n12 : N.length ≤ 12 := by omega
      clear sm ll
      have r13 : (r : Int) < 13 := by omega
      have mk : ∀ W', Below wr.heap.size wr W' → Below wr.heap.size wr W' ∧ W'.cell? ⟨b, off + k, none⟩ = some (.int .i64 r) := fun W' q => ⟨q, by rw [q.cell (p := ⟨b, off + k, none⟩) bl]; exact cc⟩
      have s0 := mk wr (here wr)
      by_cases k0 : k = 0
      · subst k0
        have kl : decide (9223372036854775807 < (T 0).length + N.length) = false := decide_eq_false (by omega)
        rw [Nat.add_zero] at mk s0 cc
        go_wp2_with fail
        go_region_with (go_at_call 52; (with_reducible refine (HN.out _).mono ?_); rintro e w' ⟨⟨b', rfl, hn⟩, hb⟩; have nc := NC.out _ _ hn; have nl := hn.lt; have hq := down (Below.drew (here wr)) hb; have hS := (mk w' hq).2; replace hq := Lib.hid hq; clear hn hb)
        all_goals go_wp2
        all_goals go_roundw
        case' rel => exact ⟨0 + 1, by omega, by rw [ba_app, st.out]; simp, by go_num, Lib.hid (down HA.out hq.out), Lib.hid (HL.out.keep hq.out)⟩
        case' measure => simp [intOf]; omega
        case' rel => exact ⟨0 + 1, by omega, by rw [ba_app, st.out]; simp, by go_num, Lib.hid (down HA.out hq.out), Lib.hid (HL.out.keep hq.out)⟩
        case' measure => simp [intOf]; omega
      · have k2 : decide ((0 : Int) < (k : Int)) = true := decide_eq_true (by omega)
        have kl : decide (9223372036854775807 < (T k).length + 1) = false := decide_eq_false (by omega)
        have km : decide (9223372036854775807 < (T k).length + 1 + N.length) = false := decide_eq_false (by omega)
        go_wp2_with fail
        go_region_with (go_at_call 52; (with_reducible refine (HN.out _).mono ?_); rintro e w' ⟨⟨b', rfl, hn⟩, hb⟩; have nc := NC.out _ _ hn; have nl := hn.lt; have hq := down (Below.drew (here wr)) hb; have hS := (mk w' hq).2; replace hq := Lib.hid hq; clear hn hb)
        all_goals go_wp2
        all_goals go_roundw
        case' rel => exact ⟨k + 1, by omega, by rw [show (⟨#[124]⟩ : ByteArray) = ⟨[124].toArray⟩ from rfl, ba_app, ba_app, st.out, if_pos (by omega)], by go_num, Lib.hid (down HA.out hq.out), Lib.hid (HL.out.keep hq.out)⟩
        case' measure => simp [intOf]; omega
        case' rel => exact ⟨k + 1, by omega, by rw [show (⟨#[124]⟩ : ByteArray) = ⟨[124].toArray⟩ from rfl, ba_app, ba_app, st.out, if_pos (by omega)], by go_num, Lib.hid (down HA.out hq.out), Lib.hid (HL.out.keep hq.out)⟩
        case' measure => simp [intOf]; omega
    · have kz : decide ((k : Int) < (L.length : Int)) = false := decide_eq_false (by omega)
      obtain rfl : k = L.length := by omega
      clear ST TL Z ME HL HN
      go_wp2
      go_ret
      exact ⟨rfl, HA.out⟩
end Go.Proofs.YtiaidmjhgfaobaaDoor
