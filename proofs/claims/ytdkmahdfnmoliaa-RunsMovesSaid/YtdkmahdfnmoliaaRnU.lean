/- Contracts of civiltimeref12: Ends. -/
import Derived.Test.YtdkmahdfnmoliaaRnT
import Derived.Laws.OwnMore
namespace Go.Proofs.Ytdkmahdfnmoliaa
open Go.RowKit
set_option linter.unusedVariables false

set_option maxRecDepth 100000 in
set_option maxHeartbeats 1000000 in
theorem rnends (v : Value) (L : List Sp) (hn : L.length ≤ 100000) {base : Nat} (w : World) (h : PairS base w v L) :
    Calls Try.prog 71 #[v] w fun e w' => (∃ v', e = .returned v' ∧ w'.ownsRow w.heap.size 3 1 v' (enL L).length (ints (enL L))) ∧ Below w.heap.size w w' := by
  obtain ⟨o, c, rfl⟩ := prs_shape h
  have HP := Lib.hid h
  have A0 : Hid (Below w.heap.size w w) := here w
  have I0 : Hid (w.ownsRow w.heap.size 3 1 (.slice none 0 0) (enK L 0).length (ints (enK L 0))) := World.ownsRow_nil _ _ _ _
  have HI := Lib.hid (fun l a b x v W hb ho => rninsert l a b x w.heap.size v W hb ho)
  obtain ⟨n, hl⟩ : ∃ n, L.length = n := ⟨_, rfl⟩
  have en : Hid (enL L = enK L n) := by show _ = _; rw [← hl]; rfl
  rw [hl] at hn HP ⊢
  generalize enL L = R at *
  go_enter Try.func71, Try.ntmps71
  go_wp2
  go_loopw [3, 4] (fun s i wr => ∃ (k : Nat) (s' : Value), s' = s ∧ k ≤ n ∧ i = .int .i64 k ∧ Hid (wr.ownsRow w.heap.size 3 1 s (enK L k).length (ints (enK L k))) ∧ Hid (Below w.heap.size w wr) ∧ Hid (PairS base wr (.slice o n c) L)) (fun _ i _ => n - (intOf i).toNat)
  case atStart => exact ⟨0, _, rfl, Nat.zero_le _, rfl, I0, A0, HP⟩
  case round =>
    obtain ⟨k, s, rfl, hk, rfl, HO, HA, HP⟩ := hrel
    clear A0 I0
    by_cases z : k < n
    · have kz : decide ((k : Int) < (n : Int)) = true := decide_eq_true (by omega)
      obtain ⟨b, off, rfl, bl, cs⟩ := prs_here HP.out (show k < L.length by omega)
      obtain ⟨c0, c1⟩ := cs k (by omega)
      have l1 := enK_len L k
      have l2 := ins_len (L.getD k (0, 0)).1 (enK L k)
      have as1 := Lib.hid (enK_asc L k)
      have as2 := Lib.hid (ins_asc as1.out (L.getD k (0, 0)).1)
      have st : Hid (enK L (k + 1) = insZ (insZ (enK L k) (L.getD k (0, 0)).1) (L.getD k (0, 0)).2) := rfl
      clear cs
      have N := HI.out (enK L k) as1.out (by omega) (L.getD k (0, 0)).1 _ wr HA.out.size HO.out
      have N2 := Lib.hid (fun v W hb ho => HI.out (insZ (enK L k) (L.getD k (0, 0)).1) as2.out (by omega) (L.getD k (0, 0)).2 v W hb ho)
      clear as1 as2 l1 l2 HI HO
      generalize insZ (enK L k) (L.getD k (0, 0)).1 = l3 at *
      generalize hq : L.getD k (0, 0) = p at *
      go_wp2_with fail
      refine N.mono ?_
      rintro e w1 ⟨⟨v1, rfl, O1⟩, hb⟩
      have A1 := Lib.hid (down HA.out hb)
      have P1 := Lib.hid (HP.out.keep hb)
      have N3 := N2.out v1 w1 A1.out.size O1
      have d0 := (hb.cell (p := ⟨b, off + k * 2, none⟩) bl).trans c0
      have d1 := (hb.cell (p := ⟨b, off + k * 2 + 1, none⟩) bl).trans c1
      clear O1 hb c0 c1 HP HA N N2
      go_wp2_with fail
      refine N3.mono ?_
      rintro e w2 ⟨⟨v2, rfl, O2⟩, hb⟩
      have A2 := Lib.hid (down A1.out hb)
      have P2 := Lib.hid (P1.out.keep hb)
      replace O2 : Hid (w2.ownsRow w.heap.size 3 1 v2 (enK L (k + 1)).length (ints (enK L (k + 1)))) := by show World.ownsRow _ _ _ _ _ _ _; rw [st.out]; exact O2
      clear hb d0 d1 P1 A1 N3 st
      go_wp2
      go_roundw
      case rel => exact ⟨k + 1, _, rfl, by omega, by go_num, O2, A2, P2⟩
      case measure => simp [intOf]; omega
    · obtain rfl : k = n := by omega
      have kz : decide ((k : Int) < (k : Int)) = false := decide_eq_false (by omega)
      clear HI
      replace HO := HO.out
      rw [← en.out] at HO
      go_wp2
      go_ret
      exact ⟨⟨_, rfl, HO⟩, HA.out⟩
end Go.Proofs.Ytdkmahdfnmoliaa
