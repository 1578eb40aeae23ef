/- The walk of LeapParses: the Go text returns true, at every input. -/
import Derived.Test.YtocimbiidloofaaDoorLtAwake
import Derived.Test.YtocimbiidloofaaDoorLtP
import Derived.BigQuiet
import Derived.Deep.QuietTactic
import Derived.Deep.Cut
import Derived.Outline
namespace Go.Proofs.YtocimbiidloofaaDoor
open Go.RowKit
set_option linter.unusedVariables false

namespace LeapParses
set_option maxRecDepth 100000 in
set_option maxHeartbeats 2000000 in
theorem walk (s : ByteArray) (hs : s.size ≤ maxLen) (w : World) (ht : Tabs w) :
    Calls Tryd.prog 3 #[.string s] w fun e w' => e = .returned (.bool true) ∧ Below w.heap.size w w' := by
  have hs2 := hs
  unfold maxLen at hs2
  by_cases l : 3000 < s.size
  · have k : decide (3000 < (s.size : Int)) = true := decide_eq_true (by omega)
    clear l
    have AW := Lib.hid (fun w ht => awake_all w ht)
    replace ht := Lib.hid ht
    go_enter Tryd.func3, Tryd.ntmps3
    go_wp2_with fail
    refine (AW.out _ (ht.out.below (here w))).mono ?_
    rintro e w1 ⟨rfl, hb⟩
    have A1 := Lib.hid (down (here w) hb)
    clear hb
    go_wp2_with fail
    refine (AW.out _ (ht.out.below A1.out)).mono ?_
    rintro e w2 ⟨rfl, hb⟩
    have A2 := Lib.hid (down A1.out hb)
    clear hb A1
    go_wp2
    go_ret
    exact ⟨rfl, by first | exact A2.out | exact grow A2.out _ | exact below_drewN A2.out _ | exact grow (grow A2.out _) _ | exact grow (grow (grow A2.out _) _) _⟩
  have k : decide (3000 < (s.size : Int)) = false := decide_eq_false (by omega)
  have HP := fun w ht => ulparse s hs w ht
  have HR := fun w => rlparse s hs w
  have lz : (lpL s.data.toList).length ≤ 100 := (ltB_iff.1 (lpL_ok s.data.toList)).1
  have ke : (lpE s.data.toList == lpE s.data.toList) = true := by simp
  generalize lpE s.data.toList = E at *
  generalize lpL s.data.toList = ps at *
  have HQ := Lib.hid (fun v1 v2 p1 p2 w (h1 : PairS p1 w v1 ps) (h2 : PairS p2 w v2 ps) => eq_steps ps ps v1 v2 (by omega) w h1 h2)
  have kp : (ps == ps) = true := by simp
  rw [kp] at HQ
  replace HP := Lib.hid HP
  replace HR := Lib.hid HR
  clear l kp
  have AW := Lib.hid (fun w ht => awake_all w ht)
  replace ht := Lib.hid ht
  go_enter Tryd.func3, Tryd.ntmps3
  go_wp2_with fail
  refine (AW.out _ (ht.out.below (here w))).mono ?_
  rintro e w1 ⟨rfl, hb⟩
  have A1 := Lib.hid (down (here w) hb)
  clear hb
  go_wp2_with fail
  refine (HP.out _ (ht.out.below A1.out)).mono ?_
  rintro e w2 ⟨⟨v1, rfl, P1⟩, hb⟩
  obtain ⟨ao1, cp1, rfl⟩ := Sl.shape P1
  have A2 := Lib.hid (down A1.out hb)
  clear hb A1
  have P12 := Lib.hid P1
  clear P1
  go_wp2_with fail
  refine (HR.out _).mono ?_
  rintro e w3 ⟨⟨v2, rfl, P2⟩, hb⟩
  obtain ⟨ao2, cp2, rfl⟩ := Sl.shape P2
  have A3 := Lib.hid (down (grow A2.out _) hb)
  have X3 := Lib.hid (One.new hb)
  have P13 := Lib.hid ((P12.out.keep (grow (here _) _)).keep hb)
  clear hb A2 P12
  obtain ⟨x3_0, x3_z⟩ := X3.out
  have P23 := Lib.hid P2
  clear P2
  go_wp2_with fail
  refine (HQ.out _ _ _ _ _ (P13.out.keep (grow (here _) _)) (P23.out.keep (grow (here _) _))).mono ?_
  rintro e y1 ⟨rfl, dn, rfl⟩
  go_wp2
  go_ret
  exact ⟨rfl, below_drewN (grow A3.out _) _⟩
end LeapParses
end Go.Proofs.YtocimbiidloofaaDoor
