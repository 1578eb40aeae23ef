/- Law 12: RunsCounts. -/
import Derived.Test.YtdkmahdfnmoliaaRnK
import Derived.Test.YtdkmahdfnmoliaaRnS
import Derived.Test.YtdkmahdfnmoliaaRnG
namespace Go.Proofs.Ytdkmahdfnmoliaa
open Go.RowKit
set_option linter.unusedVariables false
set_option linter.unusedSimpArgs false
theorem nth_val (A : List Sp) (n : Int) : ∃ y f : Int, 0 ≤ f ∧ f ≤ 2 ∧ (if vaB A then (if decide (n < 0) || decide (msL A ≤ n) then Value.tuple #[.int .i64 0, .int .i64 2] else .tuple #[.int .i64 (nthL A n), .int .i64 0]) else .tuple #[.int .i64 0, .int .i64 1]) = .tuple #[.int .i64 y, .int .i64 f] := by
  cases vaB A
  · exact ⟨0, 1, by omega, by omega, rfl⟩
  · cases decide (n < 0) || decide (msL A ≤ n)
    · exact ⟨_, 0, by omega, by omega, rfl⟩
    · exact ⟨0, 2, by omega, by omega, rfl⟩
set_option maxRecDepth 100000 in
set_option maxHeartbeats 1000000 in
theorem rlcounts (va : Value) (A : List Sp) (hA : A.length ≤ maxLen) (x n : Int) (hx : I64 x) (hn : I64 n) (cp : CapS va) {ba : Nat} (w : World) (a : PairS ba w va A) :
    Calls Try.prog 7 #[va, .int .i64 x, .int .i64 n] w fun e w' => e = .returned (.bool true) ∧ Below w.heap.size w w' := by
  have AW := rawake w
  have PA := Lib.hid a
  obtain ⟨o, c, rfl⟩ := prs_shape a
  clear a
  obtain ⟨y, f, f0, f1, yf⟩ := nth_val A n
  have GR := Lib.hid (fun w t => rgr1 o A.length c hA w t)
  have n80 : A.length ≤ 9223372036854775807 := hA
  have NT := Lib.hid (fun W (x : Below w.heap.size w W) => by have h := runth _ A hA n hn W (PA.out.keep x); rw [yf] at h; exact h)
  have RN := Lib.hid (fun W (x : Below w.heap.size w W) => by have h := rnnth _ A hA n hn W (PA.out.keep x); rw [yf] at h; exact h)
  have ⟨X0, X1⟩ := hx
  have ⟨Y0, Y1⟩ := hn
  cases g : decide (80 < A.length)
  · rw [g] at GR
    cases p : vaB A
    · skip
      have NX := Lib.hid (fun W (z : Below w.heap.size w W) => by have h := runext _ A hA x hx W (PA.out.keep z); rw [p] at h; (try simp only [Bool.false_eq_true, if_false, if_true, Bool.false_and, Bool.true_and] at h); exact h)
      have RV := Lib.hid (fun W (z : Below w.heap.size w W) => by have h := rnvalid _ A hA W (PA.out.keep z); rw [p] at h; (try simp only [Bool.false_eq_true, if_false, if_true, Bool.false_and, Bool.true_and] at h); exact h)
      have HA := Lib.hid (fun W (z : Below w.heap.size w W) => by have h := ruhas _ A hA x hx W (PA.out.keep z); rw [p] at h; (try simp only [Bool.false_eq_true, if_false, if_true, Bool.false_and, Bool.true_and] at h); exact h)
      have ME := Lib.hid (fun W (z : Below w.heap.size w W) => by have h := rumeasure _ A hA W (PA.out.keep z); rw [p] at h; (try simp only [Bool.false_eq_true, if_false, if_true, Bool.false_and, Bool.true_and] at h); exact h)
      have RK := Lib.hid (fun W (z : Below w.heap.size w W) => by have h := rurank _ A hA x hx cp W (PA.out.keep z); rw [p] at h; (try simp only [Bool.false_eq_true, if_false, if_true, Bool.false_and, Bool.true_and] at h); exact h)
      clear p yf g hx hn hA
      go_enter Try.func7, Try.ntmps7
      go_wp2_with fail
      refine AW.mono ?_
      rintro e w1 ⟨rfl, hb⟩
      have hS := grow hb (.cells #[.slice o A.length c] 22)
      clear hb AW
      go_wp2_with (first | (go_at_call 18; (with_reducible refine (GR.out _ _).mono ?_); rintro e w2 ⟨rfl, rfl⟩) | (go_at_call 31; (with_reducible refine (NT.out _ hS).mono ?_); rintro e w2 ⟨rfl, hb⟩; replace hS := down hS hb; clear hb) | (go_at_call 32; (with_reducible refine (RN.out _ hS).mono ?_); rintro e w2 ⟨rfl, hb⟩; replace hS := down hS hb; clear hb) | (go_at_call 33; (with_reducible refine (NX.out _ hS).mono ?_); rintro e w2 ⟨rfl, hb⟩; replace hS := down hS hb; clear hb) | (go_at_call 15; (with_reducible refine (RV.out _ hS).mono ?_); rintro e w2 ⟨rfl, hb⟩; replace hS := down hS hb; clear hb) | (go_at_call 29; (with_reducible refine (HA.out _ hS).mono ?_); rintro e w2 ⟨rfl, hb⟩; replace hS := down hS hb; clear hb) | (go_at_call 34; (with_reducible refine (ME.out _ hS).mono ?_); rintro e w2 ⟨rfl, hb⟩; replace hS := down hS hb; clear hb) | (go_at_call 35; (with_reducible refine (RK.out _ hS).mono ?_); rintro e w2 ⟨rfl, hb⟩; replace hS := down hS hb; clear hb))
      go_ret
      exact ⟨rfl, hS⟩
    · skip
      have NX := Lib.hid (fun W (z : Below w.heap.size w W) => by have h := runext _ A hA x hx W (PA.out.keep z); rw [p] at h; (try simp only [Bool.false_eq_true, if_false, if_true, Bool.false_and, Bool.true_and] at h); exact h)
      have RV := Lib.hid (fun W (z : Below w.heap.size w W) => by have h := rnvalid _ A hA W (PA.out.keep z); rw [p] at h; (try simp only [Bool.false_eq_true, if_false, if_true, Bool.false_and, Bool.true_and] at h); exact h)
      have HA := Lib.hid (fun W (z : Below w.heap.size w W) => by have h := ruhas _ A hA x hx W (PA.out.keep z); rw [p] at h; (try simp only [Bool.false_eq_true, if_false, if_true, Bool.false_and, Bool.true_and] at h); exact h)
      have ME := Lib.hid (fun W (z : Below w.heap.size w W) => by have h := rumeasure _ A hA W (PA.out.keep z); rw [p] at h; (try simp only [Bool.false_eq_true, if_false, if_true, Bool.false_and, Bool.true_and] at h); exact h)
      have RK := Lib.hid (fun W (z : Below w.heap.size w W) => by have h := rurank _ A hA x hx cp W (PA.out.keep z); rw [p] at h; (try simp only [Bool.false_eq_true, if_false, if_true, Bool.false_and, Bool.true_and] at h); exact h)
      have QI := Lib.hid (fun W (z : Below w.heap.size w W) => rnin _ A hA x W (PA.out.keep z))
      have QM := Lib.hid (fun W (z : Below w.heap.size w W) => rnmeasure _ A p W (PA.out.keep z))
      have QR := Lib.hid (fun W (z : Below w.heap.size w W) => rnrank _ A p x W (PA.out.keep z))
      have QX := Lib.hid (fun W (z : Below w.heap.size w W) => rnnext _ A p x W (PA.out.keep z))
      clear p yf g hx hn hA
      generalize inB A x = ib at *
      generalize msL A = ms at *
      generalize rkL A x = rk at *
      generalize nextL A x = nx at *
      obtain ⟨nx0, nx1⟩ := nx
      cases ib <;> cases nx1
      all_goals
        go_enter Try.func7, Try.ntmps7
        go_wp2_with fail
        refine AW.mono ?_
        rintro e w1 ⟨rfl, hb⟩
        have hS := grow hb (.cells #[.slice o A.length c] 22)
        clear hb AW
        go_wp2_with (first | (go_at_call 18; (with_reducible refine (GR.out _ _).mono ?_); rintro e w2 ⟨rfl, rfl⟩) | (go_at_call 31; (with_reducible refine (NT.out _ hS).mono ?_); rintro e w2 ⟨rfl, hb⟩; replace hS := down hS hb; clear hb) | (go_at_call 32; (with_reducible refine (RN.out _ hS).mono ?_); rintro e w2 ⟨rfl, hb⟩; replace hS := down hS hb; clear hb) | (go_at_call 33; (with_reducible refine (NX.out _ hS).mono ?_); rintro e w2 ⟨rfl, hb⟩; replace hS := down hS hb; clear hb) | (go_at_call 15; (with_reducible refine (RV.out _ hS).mono ?_); rintro e w2 ⟨rfl, hb⟩; replace hS := down hS hb; clear hb) | (go_at_call 29; (with_reducible refine (HA.out _ hS).mono ?_); rintro e w2 ⟨rfl, hb⟩; replace hS := down hS hb; clear hb) | (go_at_call 34; (with_reducible refine (ME.out _ hS).mono ?_); rintro e w2 ⟨rfl, hb⟩; replace hS := down hS hb; clear hb) | (go_at_call 35; (with_reducible refine (RK.out _ hS).mono ?_); rintro e w2 ⟨rfl, hb⟩; replace hS := down hS hb; clear hb) | (go_at_call 37; (with_reducible refine (QI.out _ hS).mono ?_); rintro e w2 ⟨rfl, rfl⟩) | (go_at_call 38; (with_reducible refine (QM.out _ hS).mono ?_); rintro e w2 ⟨rfl, hb⟩; replace hS := down hS hb; clear hb) | (go_at_call 39; (with_reducible refine (QR.out _ hS).mono ?_); rintro e w2 ⟨rfl, hb⟩; replace hS := down hS hb; clear hb) | (go_at_call 36; (with_reducible refine (QX.out _ hS).mono ?_); rintro e w2 ⟨rfl, rfl⟩))
        go_ret
        exact ⟨rfl, hS⟩
  · rw [g] at GR
    clear yf g NT RN hA
    go_enter Try.func7, Try.ntmps7
    go_wp2_with fail
    refine AW.mono ?_
    rintro e w1 ⟨rfl, hb⟩
    have hS := grow hb (.cells #[.slice o A.length c] 22)
    clear hb AW
    go_wp2_with (go_at_call 18; (with_reducible refine (GR.out _ _).mono ?_); rintro e w2 ⟨rfl, rfl⟩)
    go_ret
    exact ⟨rfl, hS⟩
end Go.Proofs.Ytdkmahdfnmoliaa
