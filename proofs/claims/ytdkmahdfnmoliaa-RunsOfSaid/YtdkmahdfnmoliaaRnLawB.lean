/- Law 12: RunsOf. -/
import Derived.Test.YtdkmahdfnmoliaaRnK
import Derived.Test.YtdkmahdfnmoliaaRnX
namespace Go.Proofs.Ytdkmahdfnmoliaa
open Go.RowKit
set_option linter.unusedVariables false
set_option linter.unusedSimpArgs false
theorem of_err (A : List Sp) : 0 ≤ (ruOf A).2 ∧ (ruOf A).2 ≤ 5 := by
  unfold ruOf ruFull
  split
  · split <;> simp
  · simp
theorem of_facts (A : List Sp) : ∃ (C : List Sp) (f : Int), ruOf A = (C, f) ∧ 0 ≤ f ∧ f ≤ 5 ∧ (f = 0 → vaB C = true) ∧ (f = 0 → vaB A = true → C = A) := by
  obtain ⟨a, b⟩ := of_err A
  refine ⟨(ruOf A).1, (ruOf A).2, rfl, a, b, fun h => (of_ok h).2.1, fun h v => of_same h v⟩
set_option maxRecDepth 100000 in
set_option maxHeartbeats 1000000 in
theorem rlof (va : Value) (A : List Sp) (hA : A.length ≤ maxLen) {ba : Nat} (w : World) (a : PairS ba w va A) :
    Calls Try.prog 4 #[va] w fun e w' => e = .returned (.bool true) ∧ Below w.heap.size w w' := by
  have AW := rawake w
  have PA := Lib.hid a
  obtain ⟨o, c, rfl⟩ := prs_shape a
  clear a
  have GR := Lib.hid (fun w t => rgr1 o A.length c hA w t)
  have n80 : A.length ≤ 9223372036854775807 := hA
  cases g : decide (80 < A.length)
  · rw [g] at GR
    have g' := of_decide_eq_false g
    obtain ⟨C, f, cf, f0, f1, ok, same⟩ := of_facts A
    have lc : Hid (C.length ≤ maxLen) := by
      show _ ≤ _
      have h := (cb_spec 1 A []).2.2.2
      have e : C = (ruOf A).1 := by rw [cf]
      rw [e]; unfold ruOf ruFull maxLen
      split
      · split
        · simp
        · simp at h; show (cbL 1 A []).length ≤ _; omega
      · simp
    have OF := Lib.hid (fun W (x : Below w.heap.size w W) => by have h := ruof _ A (by omega) W (PA.out.keep x); rw [cf] at h; exact h)
    have RO := Lib.hid (fun W (x : Below w.heap.size w W) => by have h := rnof _ A (by omega) W (PA.out.keep x); rw [cf] at h; exact h)
    have RV := Lib.hid (fun W (x : Below w.heap.size w W) => rnvalid _ A hA W (PA.out.keep x))
    clear g
    go_enter Try.func4, Try.ntmps4
    go_wp2_with fail
    refine AW.mono ?_
    rintro e w1 ⟨rfl, hb⟩
    have hS := grow hb (.cells #[.slice o A.length c] 22)
    clear hb AW
    go_wp2_with (go_at_call 18; (with_reducible refine (GR.out _ _).mono ?_); rintro e w2 ⟨rfl, rfl⟩)
    refine (OF.out _ hS).mono ?_
    rintro e w2 ⟨⟨v1, rfl, P1⟩, hb⟩
    replace hS := down hS hb
    clear hb OF
    go_wp2_with fail
    refine (RO.out _ hS).mono ?_
    rintro e w3 ⟨⟨v2, rfl, P2⟩, hb⟩
    have P1' := Lib.hid (P1.keep hb)
    replace hS := down hS hb
    have P2' := Lib.hid P2
    clear hb RO P1 P2
    have T0 := Lib.hid hS
    have S1 := Lib.hid (fun W (x : Below w3.heap.size w3 W) => by have h := rnsame v1 v2 C C lc.out lc.out W (P1'.out.keep x) (P2'.out.keep x); rw [decide_eq_true rfl] at h; exact h)
    have S2 := Lib.hid (fun W (x : Below w3.heap.size w3 W) => rnsame v1 _ C A lc.out hA W (P1'.out.keep x) (PA.out.keep (down T0.out x)))
    have UV := Lib.hid (fun W (x : Below w3.heap.size w3 W) => ruvalid v1 C lc.out W (P1'.out.keep x))
    have RV2 := Lib.hid (fun W (x : Below w3.heap.size w3 W) => RV.out W (down T0.out x))
    have T1 := Lib.hid (down T0.out (here w3))
    clear hS RV PA GR P1' P2' lc
    replace hS := here w3
    by_cases fz : f = 0
    · have vC := ok fz
      rw [vC] at UV
      cases p : vaB A
      · rw [p] at RV2
        subst fz
        clear ok same vC p cf
        go_wp2_with (first | (go_at_call 17; (with_reducible refine (S1.out _ hS).mono ?_); rintro e w2 ⟨rfl, hb⟩; replace hS := down hS hb; clear hb) | (go_at_call 14; (with_reducible refine (UV.out _ hS).mono ?_); rintro e w2 ⟨rfl, hb⟩; replace hS := down hS hb; clear hb) | (go_at_call 15; (with_reducible refine (RV2.out _ hS).mono ?_); rintro e w2 ⟨rfl, hb⟩; replace hS := down hS hb; clear hb))
        go_ret
        exact ⟨rfl, down T0.out hS⟩
      · rw [p] at RV2
        have sm := same fz p
        rw [decide_eq_true sm] at S2
        subst fz
        clear ok same vC p cf sm
        go_wp2_with (first | (go_at_call 17; (with_reducible refine (S1.out _ hS).mono ?_); rintro e w2 ⟨rfl, hb⟩; replace hS := down hS hb; clear hb) | (go_at_call 17; (with_reducible refine (S2.out _ hS).mono ?_); rintro e w2 ⟨rfl, hb⟩; replace hS := down hS hb; clear hb) | (go_at_call 14; (with_reducible refine (UV.out _ hS).mono ?_); rintro e w2 ⟨rfl, hb⟩; replace hS := down hS hb; clear hb) | (go_at_call 15; (with_reducible refine (RV2.out _ hS).mono ?_); rintro e w2 ⟨rfl, hb⟩; replace hS := down hS hb; clear hb))
        go_ret
        exact ⟨rfl, down T0.out hS⟩
    · have fk : (f == 0) = false := by rw [beq_eq_false_iff_ne]; exact fz
      have fk2 : (f != 0) = true := by rw [bne, fk]; rfl
      clear ok same cf
      go_wp2_with (first | (go_at_call 17; (with_reducible refine (S1.out _ hS).mono ?_); rintro e w2 ⟨rfl, hb⟩; replace hS := down hS hb; clear hb))
      go_ret
      exact ⟨rfl, down T0.out hS⟩
  · rw [g] at GR
    clear g hA
    go_enter Try.func4, Try.ntmps4
    go_wp2_with fail
    refine AW.mono ?_
    rintro e w1 ⟨rfl, hb⟩
    have hS := grow hb (.cells #[.slice o A.length c] 22)
    clear hb AW
    go_wp2_with (go_at_call 18; (with_reducible refine (GR.out _ _).mono ?_); rintro e w2 ⟨rfl, rfl⟩)
    go_ret
    exact ⟨rfl, hS⟩
end Go.Proofs.Ytdkmahdfnmoliaa
