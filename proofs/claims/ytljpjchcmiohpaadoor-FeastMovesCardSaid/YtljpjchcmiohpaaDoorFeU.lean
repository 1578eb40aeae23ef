/- Contracts of package feast: Years, its closure and filter. -/
import Derived.Test.YtljpjchcmiohpaaDoorFeU1
import Derived.Test.YtljpjchcmiohpaaDoorLOwn
import Derived.BigQuiet
import Derived.Deep.QuietTactic
namespace Go.Proofs.YtljpjchcmiohpaaDoor
open Go.RowKit
set_option linter.unusedVariables false

set_option maxRecDepth 100000 in
set_option maxHeartbeats 1000000 in
theorem xfclo (y o m d : Int) (hy : I64 y) (ho : I64 o) (hm : I64 m) (hd : I64 d) (a b c : Nat) (w : World) (ht : Tabs w) (Qa0 : One w a (.int .i64 o)) (Qb0 : One w b (.int .i64 m)) (Qc0 : One w c (.int .i64 d)) :
    Calls Tryd.prog 50 #[.int .i64 y, .pointer (some ⟨a, 0, none⟩), .pointer (some ⟨b, 0, none⟩), .pointer (some ⟨c, 0, none⟩)] w fun e w' => e = .returned (.bool (fyC o m d y)) ∧ Below w.heap.size w w' := by
  have HM := fun w ht => umove y o hy ho w ht
  unfold fyC
  unfold fmN fmE at HM
  replace Qa0 := Lib.hid Qa0
  replace Qb0 := Lib.hid Qb0
  replace Qc0 := Lib.hid Qc0
  replace ht := Lib.hid ht
  cases k : fmB y o
  · rw [k] at HM
    replace HM : ∀ w, Tabs w → Calls Tryd.prog 24 #[.int .i64 y, .int .i64 o] w fun e w' => e = .returned (.tuple #[.int .i64 0, .int .i64 2]) ∧ Below w.heap.size w w' := HM
    simp only [Bool.false_and]
    clear k
    replace HM := Lib.hid HM
    obtain ⟨qa0_0, qa0_z⟩ := Qa0.out
    obtain ⟨qb0_0, qb0_z⟩ := Qb0.out
    obtain ⟨qc0_0, qc0_z⟩ := Qc0.out
    go_enter Tryd.func50, Tryd.ntmps50
    go_wp2_with fail
    refine (HM.out _ (ht.out.below (here w))).mono ?_
    rintro e w1 ⟨rfl, hb⟩
    have A1 := Lib.hid (down (here w) hb)
    have Qa1 := Lib.hid (Qa0.out.keep hb)
    have Qb1 := Lib.hid (Qb0.out.keep hb)
    have Qc1 := Lib.hid (Qc0.out.keep hb)
    clear hb Qa0 Qb0 Qc0 qa0_0 qa0_z qb0_0 qb0_z qc0_0 qc0_z
    obtain ⟨qa1_0, qa1_z⟩ := Qa1.out
    obtain ⟨qb1_0, qb1_z⟩ := Qb1.out
    obtain ⟨qc1_0, qc1_z⟩ := Qc1.out
    go_wp2
    go_ret
    exact ⟨rfl, by first | exact A1.out | exact grow A1.out _ | exact below_drewN A1.out _ | exact grow (grow A1.out _) _ | exact grow (grow (grow A1.out _) _) _⟩
  · rw [k] at HM
    replace HM : ∀ w, Tabs w → Calls Tryd.prog 24 #[.int .i64 y, .int .i64 o] w fun e w' => e = .returned (.tuple #[.int .i64 (feN y + o), .int .i64 0]) ∧ Below w.heap.size w w' := HM
    obtain ⟨-, -, -, -, n0, n1⟩ := fmB_iff.1 k
    have HD := fun w => cdate_all (feN y + o) ⟨by omega, by omega⟩ w
    unfold cdY cdM cdD cdE at HD
    rw [dyB_iff.2 ⟨n0, n1⟩] at HD
    replace HD : ∀ w, Calls Tryd.prog 26 #[.int .i64 (feN y + o)] w fun e w' => e = .returned (.tuple #[.agg #[.int .i64 (dtY (feN y + o)), .int .i64 (dtM (feN y + o)), .int .i64 (dtD (feN y + o))], .int .i64 0]) ∧ Below w.heap.size w w' := HD
    generalize dtY (feN y + o) = Y at *
    generalize dtM (feN y + o) = M at *
    generalize dtD (feN y + o) = D at *
    generalize feN y + o = N at *
    simp only [Bool.true_and]
    obtain ⟨p, hp⟩ : ∃ p, (M == m) = p := ⟨_, rfl⟩
    obtain ⟨q, hq⟩ : ∃ q, (D == d) = q := ⟨_, rfl⟩
    rw [hp, hq]
    clear k
    replace HM := Lib.hid HM
    replace HD := Lib.hid HD
    cases p
    · simp only [Bool.false_and]
      obtain ⟨qa0_0, qa0_z⟩ := Qa0.out
      obtain ⟨qb0_0, qb0_z⟩ := Qb0.out
      obtain ⟨qc0_0, qc0_z⟩ := Qc0.out
      go_enter Tryd.func50, Tryd.ntmps50
      go_wp2_with fail
      refine (HM.out _ (ht.out.below (here w))).mono ?_
      rintro e w1 ⟨rfl, hb⟩
      have A1 := Lib.hid (down (here w) hb)
      have Qa1 := Lib.hid (Qa0.out.keep hb)
      have Qb1 := Lib.hid (Qb0.out.keep hb)
      have Qc1 := Lib.hid (Qc0.out.keep hb)
      clear hb Qa0 Qb0 Qc0 qa0_0 qa0_z qb0_0 qb0_z qc0_0 qc0_z
      obtain ⟨qa1_0, qa1_z⟩ := Qa1.out
      obtain ⟨qb1_0, qb1_z⟩ := Qb1.out
      obtain ⟨qc1_0, qc1_z⟩ := Qc1.out
      go_wp2_with fail
      refine (HD.out _).mono ?_
      rintro e w2 ⟨rfl, hb⟩
      have A2 := Lib.hid (down A1.out hb)
      have Qa2 := Lib.hid (Qa1.out.keep hb)
      have Qb2 := Lib.hid (Qb1.out.keep hb)
      have Qc2 := Lib.hid (Qc1.out.keep hb)
      clear hb A1 Qa1 Qb1 Qc1 qa1_0 qa1_z qb1_0 qb1_z qc1_0 qc1_z
      obtain ⟨qa2_0, qa2_z⟩ := Qa2.out
      obtain ⟨qb2_0, qb2_z⟩ := Qb2.out
      obtain ⟨qc2_0, qc2_z⟩ := Qc2.out
      go_wp2
      go_ret
      exact ⟨rfl, by first | exact A2.out | exact grow A2.out _ | exact below_drewN A2.out _ | exact grow (grow A2.out _) _ | exact grow (grow (grow A2.out _) _) _⟩
    · simp only [Bool.true_and]
      obtain ⟨qa0_0, qa0_z⟩ := Qa0.out
      obtain ⟨qb0_0, qb0_z⟩ := Qb0.out
      obtain ⟨qc0_0, qc0_z⟩ := Qc0.out
      go_enter Tryd.func50, Tryd.ntmps50
      go_wp2_with fail
      refine (HM.out _ (ht.out.below (here w))).mono ?_
      rintro e w1 ⟨rfl, hb⟩
      have A1 := Lib.hid (down (here w) hb)
      have Qa1 := Lib.hid (Qa0.out.keep hb)
      have Qb1 := Lib.hid (Qb0.out.keep hb)
      have Qc1 := Lib.hid (Qc0.out.keep hb)
      clear hb Qa0 Qb0 Qc0 qa0_0 qa0_z qb0_0 qb0_z qc0_0 qc0_z
      obtain ⟨qa1_0, qa1_z⟩ := Qa1.out
      obtain ⟨qb1_0, qb1_z⟩ := Qb1.out
      obtain ⟨qc1_0, qc1_z⟩ := Qc1.out
      go_wp2_with fail
      refine (HD.out _).mono ?_
      rintro e w2 ⟨rfl, hb⟩
      have A2 := Lib.hid (down A1.out hb)
      have Qa2 := Lib.hid (Qa1.out.keep hb)
      have Qb2 := Lib.hid (Qb1.out.keep hb)
      have Qc2 := Lib.hid (Qc1.out.keep hb)
      clear hb A1 Qa1 Qb1 Qc1 qa1_0 qa1_z qb1_0 qb1_z qc1_0 qc1_z
      obtain ⟨qa2_0, qa2_z⟩ := Qa2.out
      obtain ⟨qb2_0, qb2_z⟩ := Qb2.out
      obtain ⟨qc2_0, qc2_z⟩ := Qc2.out
      go_wp2
      go_ret
      exact ⟨rfl, by first | exact A2.out | exact grow A2.out _ | exact below_drewN A2.out _ | exact grow (grow A2.out _) _ | exact grow (grow (grow A2.out _) _) _⟩
theorem flt_take {p : Int → Bool} {lo : Int} {j n : Nat} (hj : j ≤ n) (h : (flt p lo j).length = 1000) : (flt p lo n).take 1000 = flt p lo j := by
  obtain ⟨r, e⟩ := flt_le p lo j (n - j)
  rw [show j + (n - j) = n by omega] at e
  rw [e, ← h, List.take_left]
set_option maxRecDepth 100000 in
set_option maxHeartbeats 1000000 in
theorem xffil (o m d lo up : Int) (ho : I64 o) (hm : I64 m) (hd : I64 d) (hlo : I64 lo) (hup : I64 up) (a b c : Nat) (w : World) (ht : Tabs w) (Qa0 : One w a (.int .i64 o)) (Qb0 : One w b (.int .i64 m)) (Qc0 : One w c (.int .i64 d)) :
    Calls Tryd.prog 49 #[.int .i64 lo, .int .i64 up, .func (.func 50) #[] #[.pointer (some ⟨a, 0, none⟩), .pointer (some ⟨b, 0, none⟩), .pointer (some ⟨c, 0, none⟩)]] w fun e w' => (∃ v, e = .returned v ∧ IntS w.heap.size w' v (fyL o m d lo up)) ∧ Below w.heap.size w w' := by
  obtain ⟨i0, hi, hz0, hz1, hz2⟩ := info_parts infoInt
  have HC := Lib.hid (fun y hy w ht q1 q2 q3 => xfclo y o m d hy ho hm hd a b c w ht q1 q2 q3)
  have Y1 : 1 ≤ max lo 1 := by omega
  have Y2 : max lo 1 ≤ 9223372036854775807 := by obtain ⟨-, q⟩ := hlo; omega
  have Z1 : min up 9999 ≤ 9999 := by omega
  have Z2 : -9223372036854775808 ≤ min up 9999 := by obtain ⟨q, -⟩ := hup; omega
  unfold fyL fyF
  obtain ⟨Y, hY⟩ : ∃ Y, max lo 1 = Y := ⟨_, rfl⟩
  obtain ⟨Z, hZ⟩ : ∃ Z, min up 9999 = Z := ⟨_, rfl⟩
  rw [hY] at Y1 Y2 ⊢
  rw [hZ] at Z1 Z2 ⊢
  have hY' : (if lo < 1 then 1 else lo) = Y := by rw [← hY]; split <;> omega
  have hZ' : (if 9999 < up then 9999 else up) = Z := by rw [← hZ]; split <;> omega
  have take := Lib.hid (fun j n => @flt_take (fyC o m d) Y j n)
  have len := Lib.hid (flt_len (fyC o m d) Y)
  have yes := Lib.hid (fun j => @flt_yes (fyC o m d) Y j)
  have no := Lib.hid (fun j => @flt_no (fyC o m d) Y j)
  obtain ⟨n, hn⟩ : ∃ n, rgN Y Z = n := ⟨_, rfl⟩
  have nn : Hid (((n : Int) = Z + 1 - Y ∨ n = 0 ∧ Z < Y)) := by show _ ∨ _; rw [← hn]; unfold rgN; omega
  rw [hn]
  clear hn
  replace Qa0 := Lib.hid Qa0
  replace Qb0 := Lib.hid Qb0
  replace Qc0 := Lib.hid Qc0
  replace ht := Lib.hid ht
  generalize fyC o m d = p at *
  obtain ⟨lo0, lo1⟩ := hlo
  obtain ⟨up0, up1⟩ := hup
  go_enter Tryd.func49, Tryd.ntmps49
  go_wp2
  go_loopw [7, 8] (fun l y wr => ∃ (j : Nat) (v : Value), j ≤ n ∧ v = l ∧ y = .int .i64 (Y + j) ∧ Hid ((flt p Y j).length ≤ 1000) ∧ Hid (Below w.heap.size w wr) ∧
      Hid (wr.ownsRow w.heap.size 3 1 v (flt p Y j).length (ints (flt p Y j)))) (fun _ y _ => (n + 1 - (intOf y - Y).toNat))
  case atStart => exact ⟨0, .slice none 0 0, Nat.zero_le _, rfl, by simp, by show (flt p Y 0).length ≤ 1000; exact Nat.zero_le _, here w, by show World.ownsRow _ _ _ _ _ _ _; exact World.ownsRow_nil _ _ _ _⟩
  case round =>
    obtain ⟨j, v, j0, rfl, rfl, HL, HA, HO⟩ := hrel
    have nj := nn.out
    by_cases z : Y + j ≤ Z
    · have kz : decide (Y + (j : Int) ≤ Z) = true := decide_eq_true z
      have y0 : 1 ≤ Y + (j : Int) := by omega
      have y1 : Y + (j : Int) ≤ 9999 := by omega
      have j1 : j + 1 ≤ n := by omega
      obtain ⟨ao, cp, rfl⟩ := (Sl.owns HO.out).shape
      by_cases g : (flt p Y j).length < 1000
      · have kg : decide (((flt p Y j).length : Int) < 1000) = true := decide_eq_true (by omega)
        have HP := fun w => HC.out (Y + j) ⟨by omega, by omega⟩ w
        have more := Lib.hid (yes.out j)
        have same := Lib.hid (no.out j)
        have HT := Lib.hid (ht.out.below HA.out)
        have G1 := Lib.hid (Qa0.out.keep HA.out)
        have G2 := Lib.hid (Qb0.out.keep HA.out)
        have G3 := Lib.hid (Qc0.out.keep HA.out)
        have S0 : Hid (w.heap.size ≤ wr.heap.size) := HA.out.size
        clear take yes no len nn nj HC
        generalize hx : flt p Y j = xs at *
        clear hx
        obtain ⟨x, hx⟩ : ∃ x, Y + (j : Int) = x := ⟨_, rfl⟩
        have xx : Hid (Y + (j : Int) = x) := hx
        rw [hx] at HP kz y0 y1 more same ⊢
        clear hx z
        cases e : p x
        · have same' : Hid (flt p Y (j + 1) = xs) := same.out e
          have HP' : Hid (∀ w, Tabs w → One w a (.int .i64 o) → One w b (.int .i64 m) → One w c (.int .i64 d) → Calls Tryd.prog 50 #[.int .i64 x, .pointer (some ⟨a, 0, none⟩), .pointer (some ⟨b, 0, none⟩), .pointer (some ⟨c, 0, none⟩)] w fun e w' => e = .returned (.bool false) ∧ Below w.heap.size w w') := fun w => by have := HP w; rw [e] at this; exact this
          clear HP more same e
          go_wp2_with fail
          refine (HP'.out _ HT.out G1.out G2.out G3.out).mono ?_
          rintro e w6 ⟨rfl, hb⟩
          have A6 := Lib.hid (HA.out.trans (hb.mono HA.out.size))
          have O6 := Lib.hid (owns_below HO.out hb)
          clear hb HA HO HT G1 G2 G3 HP' S0
          go_wp2
          go_roundw
          case rel => exact ⟨j + 1, _, j1, rfl, by rw [← xx.out]; push_cast; congr 1; omega, by rw [same'.out]; exact HL, A6, by rw [same'.out]; exact O6⟩
          case measure => have := xx.out; simp [intOf]; omega
        · have more' : Hid (flt p Y (j + 1) = xs ++ [x]) := more.out e
          have HP' : Hid (∀ w, Tabs w → One w a (.int .i64 o) → One w b (.int .i64 m) → One w c (.int .i64 d) → Calls Tryd.prog 50 #[.int .i64 x, .pointer (some ⟨a, 0, none⟩), .pointer (some ⟨b, 0, none⟩), .pointer (some ⟨c, 0, none⟩)] w fun e w' => e = .returned (.bool true) ∧ Below w.heap.size w w') := fun w => by have := HP w; rw [e] at this; exact this
          clear HP more same e
          go_wp2_with fail
          refine (HP'.out _ HT.out G1.out G2.out G3.out).mono ?_
          rintro e w6 ⟨rfl, hb⟩
          have A6 := Lib.hid (HA.out.trans (hb.mono HA.out.size))
          have O6 := Lib.hid (owns_below HO.out hb)
          have S6 : Hid (w.heap.size ≤ w6.heap.size) := Nat.le_trans S0.out hb.size
          clear hb HA HO HT G1 G2 G3 HP' S0
          have gx := Lib.hid g
          go_wp2_with (at_builtin; refine wpList_append_own _ rfl _ _ 39 rfl w.heap.size 3 i0 (.int .i64 0) 1 8 Tryd.underlying39 hi hz0 hz1 hz2 rfl (by decide) (.slice ao xs.length cp) xs.length (ints xs) rfl (O6.out.alloc _) ⟨w6.heap.size, 0, none⟩ 1 1 [.int .i64 x] rfl rfl ?c1 ?c2 ?c3 ?c4 ?c5 ?_)
          case c1 =>
            intro i u hj
            rw [Addr.add_lit, Nat.zero_add, World.cell?_alloc_new]
            simpa using hj
          case c2 => intro u hu; simp at hu; subst hu; rfl
          case c3 => have := gx.out; unfold maxLen; omega
          case c4 => have := gx.out; omega
          case c5 => have := S6.out; simp; omega
          intro v' w7 hown hgrow _
          have G : Below w.heap.size w6 w7 := ((Below.refl _ _).alloc S6.out _).grown hgrow (by have := S6.out; simp; omega) (own_ge O6.out)
          have A7 := Lib.hid (A6.out.trans G)
          have O7 : Hid (w7.ownsRow w.heap.size 3 1 v' (flt p Y (j + 1)).length (ints (flt p Y (j + 1)))) := by
            show World.ownsRow _ _ _ _ _ _ _
            rw [more'.out]
            simpa [ints] using hown
          clear hown hgrow G A6 O6 S6
          go_wp2
          go_roundw
          case rel => exact ⟨j + 1, _, j1, rfl, by rw [← xx.out]; push_cast; congr 1; omega, by show _ ≤ _; rw [more'.out]; have := gx.out; simp; omega, A7, O7⟩
          case measure => have := xx.out; simp [intOf]; omega
      · have kg : decide (((flt p Y j).length : Int) < 1000) = false := decide_eq_false (by omega)
        have e := take.out j n j0 (by have := HL.out; omega)
        have O8 : Hid (IntS w.heap.size wr (.slice ao (flt p Y j).length cp) ((flt p Y n).take 1000)) := by show IntS _ _ _ _; rw [e]; exact Sl.owns HO.out
        clear take yes no len nn nj HC HO e
        go_wp2
        go_ret
        exact ⟨⟨_, rfl, O8.out⟩, HA.out⟩
    · have kz : decide (Y + (j : Int) ≤ Z) = false := decide_eq_false z
      obtain rfl : j = n := by omega
      have e : (flt p Y j).take 1000 = flt p Y j := List.take_of_length_le HL.out
      have O8 : Hid (IntS w.heap.size wr v ((flt p Y j).take 1000)) := by show IntS _ _ _ _; rw [e]; exact Sl.owns HO.out
      clear take yes no len nn nj HC HO e
      go_wp2
      go_ret
      exact ⟨⟨_, rfl, O8.out⟩, HA.out⟩
set_option maxRecDepth 100000 in
set_option maxHeartbeats 1000000 in
theorem uyears (o m d a b : Int) (ho : I64 o) (hm : I64 m) (hd : I64 d) (ha : I64 a) (hb : I64 b) (w : World) (ht : Tabs w) :
    Calls Tryd.prog 28 #[.int .i64 o, .int .i64 m, .int .i64 d, .int .i64 a, .int .i64 b] w fun e w' => (∃ v, e = .returned v ∧ IntS w.heap.size w' v (fyL o m d a b)) ∧ Below w.heap.size w w' := by
  have hmf : ∀ (fn : Fn) (first cap : Array Value) (w : World), (Instr.makeFunc fn first cap).run Tryd.prog w = .ok (.func fn first cap) w := fun _ _ _ _ => rfl
  obtain ⟨w1, hw1⟩ : ∃ w1 : World, w.alloc (.cells #[.int .i64 o] 3) = w1 := ⟨_, rfl⟩
  obtain ⟨w2, hw2⟩ : ∃ w2 : World, w1.alloc (.cells #[.int .i64 m] 3) = w2 := ⟨_, rfl⟩
  obtain ⟨w3, hw3⟩ : ∃ w3 : World, w2.alloc (.cells #[.int .i64 d] 3) = w3 := ⟨_, rfl⟩
  have s1 : w1.heap.size = w.heap.size + 1 := by rw [← hw1]; exact size_two _ _
  have s2 : w2.heap.size = w.heap.size + 2 := by rw [← hw2, size_two, s1]
  have Q3 : One w3 (w.heap.size + 2) (.int .i64 d) := by rw [← s2, ← hw3]; exact One.new (here _)
  have Q2 : One w3 (w.heap.size + 1) (.int .i64 m) := by rw [← hw3, ← s1]; refine One.old ?_ _; rw [← hw2]; exact One.new (here _)
  have Q1 : One w3 w.heap.size (.int .i64 o) := by rw [← hw3]; refine One.old ?_ _; rw [← hw2]; refine One.old ?_ _; rw [← hw1]; exact One.new (here _)
  have A3 : Below w.heap.size w w3 := by rw [← hw3, ← hw2, ← hw1]; exact ((((here w).alloc (Nat.le_refl _) _).alloc (by simp) _).alloc (by simp; omega) _)
  have HF := Lib.hid (xffil o m d a b ho hm hd ha hb w.heap.size (w.heap.size + 1) (w.heap.size + 2) w3 (ht.below A3) Q1 Q2 Q3)
  replace A3 := Lib.hid A3
  clear Q1 Q2 Q3
  go_enter Tryd.func28, Tryd.ntmps28
  go_wp2_with fail
  refine HF.out.mono ?_
  rintro e w4 ⟨⟨v, rfl, hs⟩, hb⟩
  have A4 := Lib.hid (down A3.out hb)
  have S4 := Lib.hid (Sl.weak hs A3.out.size)
  clear hb hs
  go_wp2
  go_ret
  exact ⟨⟨_, rfl, S4.out⟩, A4.out⟩
end Go.Proofs.YtljpjchcmiohpaaDoor
