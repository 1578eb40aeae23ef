/- Contracts of civiltimeref10: Names, Name, Parse. -/
import Derived.Test.YtknlhhjooamfhaaDoorLIvN
import Derived.Test.YtknlhhjooamfhaaDoorIvR
namespace Go.Proofs.YtknlhhjooamfhaaDoor
open Go.RowKit
set_option linter.unusedVariables false

theorem rnames (w : World) : Calls Tryd.prog 40 #[] w fun e w' => e = .returned (.slice (some ⟨w.heap.size, 0, none⟩) 13 13) ∧ w.alloc (.cells #[.string ⟨#[98, 101, 102, 111, 114, 101]⟩, .string ⟨#[109, 101, 101, 116, 115]⟩, .string ⟨#[111, 118, 101, 114, 108, 97, 112, 115]⟩, .string ⟨#[115, 116, 97, 114, 116, 115]⟩, .string ⟨#[100, 117, 114, 105, 110, 103]⟩, .string ⟨#[102, 105, 110, 105, 115, 104, 101, 115]⟩, .string ⟨#[101, 113, 117, 97, 108, 115]⟩, .string ⟨#[102, 105, 110, 105, 115, 104, 101, 100, 98, 121]⟩, .string ⟨#[99, 111, 110, 116, 97, 105, 110, 115]⟩, .string ⟨#[115, 116, 97, 114, 116, 101, 100, 98, 121]⟩, .string ⟨#[111, 118, 101, 114, 108, 97, 112, 112, 101, 100, 98, 121]⟩, .string ⟨#[109, 101, 116, 98, 121]⟩, .string ⟨#[97, 102, 116, 101, 114]⟩] 9) = w' := by
  go_enter Tryd.func40, Tryd.ntmps40
  go_wp2
  go_ret
  exact ⟨rfl, rfl⟩
/-- The names in memory. -/
structure NmAt (w : World) (b : Nat) : Prop where
  c : ∀ k, k < 13 → w.cell? ⟨b, k, none⟩ = some (.string (nmV k))
  lt : b < w.heap.size
theorem NmAt.new (w : World) : NmAt (w.alloc (.cells #[.string ⟨#[98, 101, 102, 111, 114, 101]⟩, .string ⟨#[109, 101, 101, 116, 115]⟩, .string ⟨#[111, 118, 101, 114, 108, 97, 112, 115]⟩, .string ⟨#[115, 116, 97, 114, 116, 115]⟩, .string ⟨#[100, 117, 114, 105, 110, 103]⟩, .string ⟨#[102, 105, 110, 105, 115, 104, 101, 115]⟩, .string ⟨#[101, 113, 117, 97, 108, 115]⟩, .string ⟨#[102, 105, 110, 105, 115, 104, 101, 100, 98, 121]⟩, .string ⟨#[99, 111, 110, 116, 97, 105, 110, 115]⟩, .string ⟨#[115, 116, 97, 114, 116, 101, 100, 98, 121]⟩, .string ⟨#[111, 118, 101, 114, 108, 97, 112, 112, 101, 100, 98, 121]⟩, .string ⟨#[109, 101, 116, 98, 121]⟩, .string ⟨#[97, 102, 116, 101, 114]⟩] 9)) w.heap.size := by
  refine ⟨fun k hk => ?_, by simp⟩
  rw [World.cell?_alloc_new]
  match k, hk with
  | 0, _ => rfl
  | 1, _ => rfl
  | 2, _ => rfl
  | 3, _ => rfl
  | 4, _ => rfl
  | 5, _ => rfl
  | 6, _ => rfl
  | 7, _ => rfl
  | 8, _ => rfl
  | 9, _ => rfl
  | 10, _ => rfl
  | 11, _ => rfl
  | 12, _ => rfl
theorem rname (r : Int) (h : I64 r) (w : World) :
    Calls Tryd.prog 34 #[.int .i64 r] w fun e w' => e = .returned (.string (nmR r)) ∧ Below w.heap.size w w' := by
  obtain ⟨h0, h1⟩ := h
  by_cases z : r < 0
  · have k0 := decide_eq_true z
    rw [nmR_out (by omega)]
    go_enter Tryd.func34, Tryd.ntmps34
    go_wp2
    go_ret
    exact ⟨rfl, here w⟩
  · have k0 := decide_eq_false z
    by_cases y : 12 < r
    · have k1 := decide_eq_true y
      rw [nmR_out (by omega)]
      go_enter Tryd.func34, Tryd.ntmps34
      go_wp2
      go_ret
      exact ⟨rfl, here w⟩
    · have k1 := decide_eq_false y
      obtain ⟨k, rfl⟩ : ∃ k : Nat, r = k := ⟨r.toNat, by omega⟩
      have kk : k ≤ 12 := by omega
      rw [nmR_in kk]
      have HN := Lib.hid (rnames w)
      have NA := NmAt.new w
      have A1 := grow (here w) (.cells #[.string ⟨#[98, 101, 102, 111, 114, 101]⟩, .string ⟨#[109, 101, 101, 116, 115]⟩, .string ⟨#[111, 118, 101, 114, 108, 97, 112, 115]⟩, .string ⟨#[115, 116, 97, 114, 116, 115]⟩, .string ⟨#[100, 117, 114, 105, 110, 103]⟩, .string ⟨#[102, 105, 110, 105, 115, 104, 101, 115]⟩, .string ⟨#[101, 113, 117, 97, 108, 115]⟩, .string ⟨#[102, 105, 110, 105, 115, 104, 101, 100, 98, 121]⟩, .string ⟨#[99, 111, 110, 116, 97, 105, 110, 115]⟩, .string ⟨#[115, 116, 97, 114, 116, 101, 100, 98, 121]⟩, .string ⟨#[111, 118, 101, 114, 108, 97, 112, 112, 101, 100, 98, 121]⟩, .string ⟨#[109, 101, 116, 98, 121]⟩, .string ⟨#[97, 102, 116, 101, 114]⟩] 9)
      obtain ⟨w1, hw1⟩ : ∃ w1 : World, w.alloc (.cells #[.string ⟨#[98, 101, 102, 111, 114, 101]⟩, .string ⟨#[109, 101, 101, 116, 115]⟩, .string ⟨#[111, 118, 101, 114, 108, 97, 112, 115]⟩, .string ⟨#[115, 116, 97, 114, 116, 115]⟩, .string ⟨#[100, 117, 114, 105, 110, 103]⟩, .string ⟨#[102, 105, 110, 105, 115, 104, 101, 115]⟩, .string ⟨#[101, 113, 117, 97, 108, 115]⟩, .string ⟨#[102, 105, 110, 105, 115, 104, 101, 100, 98, 121]⟩, .string ⟨#[99, 111, 110, 116, 97, 105, 110, 115]⟩, .string ⟨#[115, 116, 97, 114, 116, 101, 100, 98, 121]⟩, .string ⟨#[111, 118, 101, 114, 108, 97, 112, 112, 101, 100, 98, 121]⟩, .string ⟨#[109, 101, 116, 98, 121]⟩, .string ⟨#[97, 102, 116, 101, 114]⟩] 9) = w1 := ⟨_, rfl⟩
      rw [hw1] at HN NA A1
      have cc := NA.c k (by omega)
      have lt := NA.lt
      have k13 : (k : Int) < 13 := by omega
      generalize nmV k = S at *
      clear NA z y hw1
      replace A1 := Lib.hid A1
      go_enter Tryd.func34, Tryd.ntmps34
      go_wp2_with fail
      refine HN.out.mono ?_
      rintro e w2 ⟨rfl, rfl⟩
      go_wp2
      go_ret
      exact ⟨rfl, A1.out⟩
set_option maxHeartbeats 1000000 in
theorem rparse (s : ByteArray) (w : World) :
    Calls Tryd.prog 32 #[.string s] w fun e w' => e = .returned (.tuple #[.int .i64 (prV s), .int .i64 (prE s)]) ∧ Below w.heap.size w w' := by
  have HN := Lib.hid (rnames w)
  have NA := NmAt.new w
  have A1 := grow (here w) (.cells #[.string ⟨#[98, 101, 102, 111, 114, 101]⟩, .string ⟨#[109, 101, 101, 116, 115]⟩, .string ⟨#[111, 118, 101, 114, 108, 97, 112, 115]⟩, .string ⟨#[115, 116, 97, 114, 116, 115]⟩, .string ⟨#[100, 117, 114, 105, 110, 103]⟩, .string ⟨#[102, 105, 110, 105, 115, 104, 101, 115]⟩, .string ⟨#[101, 113, 117, 97, 108, 115]⟩, .string ⟨#[102, 105, 110, 105, 115, 104, 101, 100, 98, 121]⟩, .string ⟨#[99, 111, 110, 116, 97, 105, 110, 115]⟩, .string ⟨#[115, 116, 97, 114, 116, 101, 100, 98, 121]⟩, .string ⟨#[111, 118, 101, 114, 108, 97, 112, 112, 101, 100, 98, 121]⟩, .string ⟨#[109, 101, 116, 98, 121]⟩, .string ⟨#[97, 102, 116, 101, 114]⟩] 9)
  obtain ⟨w1, hw1⟩ : ∃ w1 : World, w.alloc (.cells #[.string ⟨#[98, 101, 102, 111, 114, 101]⟩, .string ⟨#[109, 101, 101, 116, 115]⟩, .string ⟨#[111, 118, 101, 114, 108, 97, 112, 115]⟩, .string ⟨#[115, 116, 97, 114, 116, 115]⟩, .string ⟨#[100, 117, 114, 105, 110, 103]⟩, .string ⟨#[102, 105, 110, 105, 115, 104, 101, 115]⟩, .string ⟨#[101, 113, 117, 97, 108, 115]⟩, .string ⟨#[102, 105, 110, 105, 115, 104, 101, 100, 98, 121]⟩, .string ⟨#[99, 111, 110, 116, 97, 105, 110, 115]⟩, .string ⟨#[115, 116, 97, 114, 116, 101, 100, 98, 121]⟩, .string ⟨#[111, 118, 101, 114, 108, 97, 112, 112, 101, 100, 98, 121]⟩, .string ⟨#[109, 101, 116, 98, 121]⟩, .string ⟨#[97, 102, 116, 101, 114]⟩] 9) = w1 := ⟨_, rfl⟩
  rw [hw1] at HN NA A1
  have NO := Lib.hid (@pr_no s)
  have AT := Lib.hid (fun k => @pr_at s k)
  have lt := NA.lt
  replace NA := Lib.hid NA
  replace A1 := Lib.hid A1
  generalize prV s = V at *
  generalize prE s = E at *
  clear hw1
  go_enter Tryd.func32, Tryd.ntmps32
  go_wp2_with fail
  refine HN.out.mono ?_
  rintro e w2 ⟨rfl, rfl⟩
  clear HN
  go_wp2
  go_loop [5] (fun i => ∃ k : Nat, k ≤ 13 ∧ i = .int .i64 k ∧ Hid (∀ j, j < k → ¬ nmV j = s)) (fun i => 13 - (intOf i).toNat)
  case atStart => exact ⟨0, Nat.zero_le _, rfl, fun j hj => absurd hj (Nat.not_lt_zero _)⟩
  case round =>
    obtain ⟨k, hk, rfl, HF⟩ := hrel
    by_cases z : k < 13
    · have kz : decide ((k : Int) < 13) = true := decide_eq_true (by omega)
      have cc := NA.out.c k z
      have at' := Lib.hid (AT.out k z HF.out)
      have nx : Hid (¬ nmV k = s → ∀ j, j < k + 1 → ¬ nmV j = s) := fun e j hj => by
        rcases Nat.lt_or_ge j k with q | q
        · exact HF.out j q
        · obtain rfl : j = k := by omega
          exact e
      clear NO AT HF NA
      generalize nmV k = S at *
      by_cases e : S = s
      · obtain ⟨rfl, rfl⟩ := at'.out e
        subst e
        have eq : (S.toList == S.toList) = true := beq_self_eq_true _
        clear at' nx
        go_wp2
        go_ret2
        exact ⟨rfl, A1.out⟩
      · replace nx := Lib.hid (nx.out e)
        have ne : (S.toList == s.toList) = false := by rw [beq_eq_false_iff_ne, ByteArray.toList_eq, ByteArray.toList_eq]; exact fun x => e (ba_list x)
        clear at'
        go_wp2
        go_round
        case rel => exact ⟨k + 1, by omega, by go_num, nx⟩
        case measure => simp [intOf]; omega
    · have kz : decide ((k : Int) < 13) = false := decide_eq_false (by omega)
      obtain ⟨rfl, rfl⟩ := NO.out (fun j hj => HF.out j (by omega))
      clear NO AT HF NA
      go_wp2
      go_ret2
      exact ⟨rfl, A1.out⟩
end Go.Proofs.YtknlhhjooamfhaaDoor
