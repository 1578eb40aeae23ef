/- slices.Equal of spans. -/
import Derived.Test.YtdkmahdfnmoliaaLSl

namespace Go.Proofs.Ytdkmahdfnmoliaa

open Go.RowKit

set_option linter.unusedVariables false

theorem eqp_len (v1 v2 : Option Addr) (n m c1 c2 : Nat) (h : ¬ n = m) (w : World) :
    Calls Try.prog 46 #[.slice v1 n c1, .slice v2 m c2] w fun e w' => e = .returned (.bool false) ∧ w = w' := by
  have k : ((n : Int) != (m : Int)) = true := by simp; omega
  go_enter Try.func46, Try.ntmps46
  go_wp2
  go_ret
  exact ⟨rfl, rfl⟩
theorem eqp_zero (v1 v2 : Option Addr) (c1 c2 : Nat) (w : World) :
    Calls Try.prog 46 #[.slice v1 0 c1, .slice v2 0 c2] w fun e w' => e = .returned (.bool true) ∧ w = w' := by
  go_enter Try.func46, Try.ntmps46
  go_wp2
  go_loop [13] (fun a => a = .int .i64 0) (fun _ => 0)
  case atStart => rfl
  case round =>
    subst hrel
    go_wp2
    go_ret
    exact ⟨rfl, rfl⟩
set_option maxHeartbeats 400000 in
theorem eqp_same (zs ys : List (Int × Int)) (n b1 o1 c1 b2 o2 c2 : Nat) (l1 : zs.length = n) (l2 : ys.length = n) (hn : n ≤ 1099511627776) (w : World) (h1 : Lies w b1 o1 (pairs zs)) (h2 : Lies w b2 o2 (pairs ys)) :
    Calls Try.prog 46 #[.slice (some ⟨b1, o1, none⟩) n c1, .slice (some ⟨b2, o2, none⟩) n c2] w fun e w' => e = .returned (.bool (zs == ys)) ∧ ∃ q, w' = w.drewN q := by
  have C1 := Lib.hid (fun j (hj : j < n) => pairs_at h1 j (by omega))
  have C2 := Lib.hid (fun j (hj : j < n) => pairs_at h2 j (by omega))
  have L : Hid (zs.length = ys.length ∧ zs.length = n) := ⟨by omega, l1⟩
  clear l1 l2 h1 h2
  go_enter Try.func46, Try.ntmps46
  go_wp2
  go_loopw [13] (fun a wr => ∃ k q : Nat, k ≤ n ∧ a = .int .i64 k ∧ wr = w.drewN q ∧ Hid (∀ j, j < k → zs.getD j (0, 0) = ys.getD j (0, 0))) (fun a _ => n - (intOf a).toNat)
  case atStart => exact ⟨0, 0, Nat.zero_le _, rfl, rfl, fun j hj => absurd hj (Nat.not_lt_zero _)⟩
  case round =>
    obtain ⟨k, q0, hk, rfl, rfl, HE⟩ := hrel
    by_cases z : k < n
    · have kz : decide ((k : Int) < (n : Int)) = true := decide_eq_true (by omega)
      obtain ⟨d1, d3⟩ := C1.out k z
      obtain ⟨d2, d4⟩ := C2.out k z
      by_cases e : zs.getD k (0, 0) = ys.getD k (0, 0)
      · have HE' : Hid (∀ j, j < k + 1 → zs.getD j (0, 0) = ys.getD j (0, 0)) := fun j hj => by
          rcases Nat.lt_or_ge j k with c | c
          · exact HE.out j c
          · obtain rfl : j = k := by omega
            exact e
        rw [← e] at d2 d4
        clear e HE
        generalize zs.getD k (0, 0) = x at *
        obtain ⟨x, x'⟩ := x
        go_wp2
        go_quiet (fail)
        go_wp2
        go_roundw
        case rel => exact ⟨k + 1, _, by omega, by go_num, rfl, HE'⟩
        case measure => simp [intOf]; omega
      · have hr : Hid ((zs == ys) = false) := by show _ = _; rw [beq_eq_false_iff_ne]; exact list_ne_of k e
        clear HE
        generalize zs.getD k (0, 0) = x at *
        generalize ys.getD k (0, 0) = y at *
        obtain ⟨x, x'⟩ := x
        obtain ⟨y, y'⟩ := y
        by_cases q : x = y
        · subst q
          have ke : (x' == y') = false := by rw [beq_eq_false_iff_ne]; exact fun r => e (by rw [r])
          clear e
          go_wp2
          go_quiet (fail)
          go_wp2
          go_ret
          exact ⟨by rw [hr.out]; rfl, _, World.drewN_drewN _ _ _⟩
        · have ke : (x == y) = false := by rw [beq_eq_false_iff_ne]; exact q
          clear e
          go_wp2
          go_quiet (fail)
          go_wp2
          go_ret
          exact ⟨by rw [hr.out]; rfl, _, World.drewN_drewN _ _ _⟩
    · obtain rfl : k = n := by omega
      have hr : Hid ((zs == ys) = true) := by show _ = _; rw [beq_iff_eq]; exact list_eq_of L.out.1 (fun j hj => HE.out j (by have := L.out.2; omega))
      have kz : decide ((k : Int) < (k : Int)) = false := decide_eq_false (by omega)
      clear C1 C2 HE L z
      go_wp2
      go_ret
      exact ⟨by rw [hr.out]; rfl, _, rfl⟩
theorem eq_pairs (zs ys : List (Int × Int)) (v1 v2 : Value) (hn : zs.length ≤ 1099511627776) (w : World) {p1 p2 : Nat} (h1 : PairS p1 w v1 zs) (h2 : PairS p2 w v2 ys) :
    Calls Try.prog 46 #[v1, v2] w fun e w' => e = .returned (.bool (zs == ys)) ∧ ∃ q, w' = w.drewN q := by
  have nb : ¬ zs.length = ys.length → (zs == ys) = false := fun h => by rw [beq_eq_false_iff_ne]; exact fun e => h (by rw [e])
  rcases h1 with ⟨l1, a1, c1, rfl⟩ | ⟨b1, o1, c1, rfl, -, k1⟩
  · rcases h2 with ⟨l2, a2, c2, rfl⟩ | ⟨b2, o2, c2, rfl, -, k2⟩
    · rw [show zs = [] from List.eq_nil_of_length_eq_zero l1, show ys = [] from List.eq_nil_of_length_eq_zero l2]
      exact (eqp_zero a1 a2 c1 c2 w).mono fun _ _ ⟨he, hw⟩ => ⟨he, 0, hw ▸ rfl⟩
    · by_cases l2 : ys.length = 0
      · rw [l2, show zs = [] from List.eq_nil_of_length_eq_zero l1, show ys = [] from List.eq_nil_of_length_eq_zero l2]
        exact (eqp_zero a1 _ c1 c2 w).mono fun _ _ ⟨he, hw⟩ => ⟨he, 0, hw ▸ rfl⟩
      · rw [nb (by omega)]
        exact (eqp_len a1 _ 0 ys.length c1 c2 (by omega) w).mono fun _ _ ⟨he, hw⟩ => ⟨he, 0, hw ▸ rfl⟩
  · rcases h2 with ⟨l2, a2, c2, rfl⟩ | ⟨b2, o2, c2, rfl, -, k2⟩
    · by_cases l1 : zs.length = 0
      · rw [l1, show zs = [] from List.eq_nil_of_length_eq_zero l1, show ys = [] from List.eq_nil_of_length_eq_zero l2]
        exact (eqp_zero _ a2 c1 c2 w).mono fun _ _ ⟨he, hw⟩ => ⟨he, 0, hw ▸ rfl⟩
      · rw [nb (by omega)]
        exact (eqp_len _ a2 zs.length 0 c1 c2 l1 w).mono fun _ _ ⟨he, hw⟩ => ⟨he, 0, hw ▸ rfl⟩
    · by_cases l : zs.length = ys.length
      · rw [← l]
        exact eqp_same zs ys zs.length b1 o1 c1 b2 o2 c2 rfl l.symm hn w k1 k2
      · rw [nb l]
        exact (eqp_len _ _ zs.length ys.length c1 c2 l w).mono fun _ _ ⟨he, hw⟩ => ⟨he, 0, hw ▸ rfl⟩
end Go.Proofs.Ytdkmahdfnmoliaa
