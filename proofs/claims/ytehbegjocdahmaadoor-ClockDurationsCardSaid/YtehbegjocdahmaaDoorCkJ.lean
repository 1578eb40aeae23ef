/- The contract of the reference's ParseDuration, at every text. -/
import Derived.Test.YtehbegjocdahmaaDoorCkI
namespace Go.Proofs.YtehbegjocdahmaaDoor
open Go.RowKit
set_option linter.unusedVariables false

theorem rpd_short (s r0 : ByteArray) (neg : Bool) (hs : s.size ≤ 1000000) (hz : 0 < s.size) (h45 : ((s[0].toNat : Int) == 45) = neg) (h1 : neg = true → s.extract 1 s.size = r0) (h2 : neg = false → s = r0) (r2 : r0.size < 2) (w : World) :
    Calls Tryd.prog 36 #[.string s] w fun e w' => e = .returned (.tuple #[.int .i64 0, .int .i64 3]) ∧ w = w' := by
  have kz : decide (0 < (s.size : Int)) = true := decide_eq_true (by omega)
  have k2 : decide ((r0.size : Int) < 2) = true := decide_eq_true (by omega)
  cases neg
  · obtain rfl := h2 rfl
    clear h1 h2
    go_enter Tryd.func36, Tryd.ntmps36
    go_wp2
    go_ret2
    exact ⟨rfl, rfl⟩
  · have e1 := h1 rfl
    clear h1 h2
    go_enter Tryd.func36, Tryd.ntmps36
    go_wp2
    go_ret2
    exact ⟨rfl, rfl⟩
theorem rpd_noP (s r0 : ByteArray) (neg : Bool) (hs : s.size ≤ 1000000) (hz : 0 < s.size) (h45 : ((s[0].toNat : Int) == 45) = neg) (h1 : neg = true → s.extract 1 s.size = r0) (h2 : neg = false → s = r0) (r2 : 2 ≤ r0.size) (r3 : r0.size ≤ 1000000)
    (h80 : (((r0[0]'(by omega)).toNat : Int) != 80) = true) (w : World) :
    Calls Tryd.prog 36 #[.string s] w fun e w' => e = .returned (.tuple #[.int .i64 0, .int .i64 3]) ∧ w = w' := by
  have kz : decide (0 < (s.size : Int)) = true := decide_eq_true (by omega)
  have k2 : decide ((r0.size : Int) < 2) = false := decide_eq_false (by omega)
  have r0z : 0 < r0.size := by omega
  cases neg
  · obtain rfl := h2 rfl
    clear h1 h2
    go_enter Tryd.func36, Tryd.ntmps36
    go_wp2
    go_ret2
    exact ⟨rfl, rfl⟩
  · have e1 := h1 rfl
    clear h1 h2
    go_enter Tryd.func36, Tryd.ntmps36
    go_wp2
    go_ret2
    exact ⟨rfl, rfl⟩
theorem rpd_nil (s : ByteArray) (hz : s.size = 0) (w : World) :
    Calls Tryd.prog 36 #[.string s] w fun e w' => e = .returned (.tuple #[.int .i64 0, .int .i64 3]) ∧ w = w' := by
  obtain rfl : s = ⟨#[]⟩ := by
    have : s.data.size = 0 := hz
    cases s; simp at this; subst this; rfl
  go_enter Tryd.func36, Tryd.ntmps36
  go_wp2
  go_ret2
  exact ⟨rfl, rfl⟩
theorem dur_none {l : List UInt8} (h : durP l = none) : durV l = 0 ∧ durE l = 3 := by unfold durV durE; rw [h]; exact ⟨rfl, rfl⟩
theorem rpd (s : ByteArray) (hs : s.size ≤ 1000000) (w : World) :
    Calls Tryd.prog 36 #[.string s] w fun e w' => e = .returned (.tuple #[.int .i64 (durV s.data.toList), .int .i64 (durE s.data.toList)]) ∧ w = w' := by
  have hl : s.data.toList.length = s.size := Array.length_toList
  by_cases hz : 0 < s.size
  · have key : ∃ r0 : ByteArray, r0.data.toList = durB s.data.toList ∧ (s.data.toList.head? == some 45) = ((s[0].toNat : Int) == 45) ∧ (((s[0].toNat : Int) == 45) = true → s.extract 1 s.size = r0) ∧ (((s[0].toNat : Int) == 45) = false → s = r0) ∧ r0.size ≤ 1000000 := by
      obtain ⟨rest, e1, e2, e3⟩ := head_at hz
      have h45 : (s.data.toList.head? == some 45) = ((s[0].toNat : Int) == 45) := by
        rw [e1, Bool.eq_iff_iff]
        simp only [List.head?_cons, beq_iff_eq, Option.some.injEq]
        rw [← UInt8.toNat_inj]
        show s[0].toNat = 45 ↔ _
        omega
      by_cases n : ((s[0].toNat : Int) == 45) = true
      · refine ⟨s.extract 1 s.size, ?_, h45, fun _ => rfl, fun x => absurd (n.symm.trans x) (by decide), by omega⟩
        rw [n] at h45
        unfold durB; rw [if_pos (by simpa using h45), e2, e1]; rfl
      · rw [Bool.not_eq_true] at n
        refine ⟨s, ?_, h45, fun x => absurd (n.symm.trans x) (by decide), fun _ => rfl, hs⟩
        rw [n] at h45
        unfold durB; rw [if_neg (by simpa using h45)]
    obtain ⟨r0, b0, h45, h1, h2, r3⟩ := key
    have hl0 : r0.data.toList.length = r0.size := Array.length_toList
    by_cases r2 : r0.size < 2
    · obtain ⟨a, b⟩ := dur_none (l := s.data.toList) (by unfold durP; rw [if_neg (fun x => by have := x.2; rw [← b0, hl0] at this; omega)])
      rw [a, b]
      exact rpd_short s r0 _ hs hz rfl h1 h2 r2 w
    · have r2' : 2 ≤ r0.size := by omega
      obtain ⟨rest, e1, e2, e3⟩ := head_at (r := r0) (by omega)
      by_cases h80 : (((r0[0]'(by omega)).toNat : Int) != 80) = true
      · obtain ⟨a, b⟩ := dur_none (l := s.data.toList) (by
          unfold durP; rw [if_neg]
          rintro ⟨x, -⟩
          rw [← b0, e1, List.head?_cons, Option.some.injEq] at x
          rw [x] at h80; exact absurd h80 (by decide))
        rw [a, b]
        exact rpd_noP s r0 _ hs hz rfl h1 h2 r2' r3 h80 w
      · rw [Bool.not_eq_true] at h80
        have hP : durP s.data.toList = pdL ((r0.extract 1 r0.size).data.toList.length + 1) false 0 true 0 (r0.extract 1 r0.size).data.toList := by
          unfold durP
          rw [← b0, e1, if_pos]
          · rw [e2]; rfl
          · refine ⟨?_, by rw [← e1, hl0]; omega⟩
            rw [List.head?_cons]
            congr 1
            apply UInt8.toNat_inj.1
            show _ = 80
            have : ((r0[0].toNat : Nat) : Int) = 80 := by simpa using h80
            omega
        have q := rpd_good s r0 (r0.extract 1 r0.size) _ hs hz rfl h1 h2 r2' r3 h80 rfl (by omega) _ hP.symm w
        have ev : durV s.data.toList = resV ((s[0].toNat : Int) == 45) (durP s.data.toList) := by
          unfold durV resV
          rw [← h45]
          cases durP s.data.toList with
          | none => rfl
          | some n =>
            show (if 4398046511104 < n then (0 : Int) else if s.data.toList.head? = some 45 then -n else n) = (if 4398046511104 < n then (0 : Int) else if (s.data.toList.head? == some 45) = true then -n else n)
            by_cases g : s.data.toList.head? = some 45
            · rw [if_pos g, if_pos (show (s.data.toList.head? == some 45) = true by simpa using g)]
            · rw [if_neg g, if_neg (show ¬ (s.data.toList.head? == some 45) = true by simpa using g)]
        rw [ev]
        exact q
  · have nil : s.data.toList = [] := List.length_eq_zero_iff.1 (by omega)
    rw [nil]
    exact rpd_nil s (by omega) w
end Go.Proofs.YtehbegjocdahmaaDoor
