/- Contracts of civiltimeref11: Singles, Inverse, small. -/
import Derived.Test.YtiaidmjhgfaobaaDoorAlR
import Derived.OwnWalk
import Derived.Deep.QuietTactic
import Derived.BigQuiet
import Derived.Outline
namespace Go.Proofs.YtiaidmjhgfaobaaDoor
open Go.RowKit
set_option linter.unusedVariables false

set_option maxRecDepth 100000 in
set_option maxHeartbeats 1000000 in
theorem rainv (s : Int) (hs : I64 s) (w : World) :
    Calls Tryd.prog 17 #[.int .i64 s] w fun e w' => e = .returned (.int .i64 (ivS s)) ∧ w = w' := by
  have HI := Lib.hid (fun w => raset s hs w)
  cases v : isS s
  · rw [show ivS s = -1 by unfold ivS; rw [v]; rfl]
    rw [v] at HI
    go_enter Tryd.func17, Tryd.ntmps17
    go_wp2_with fail
    refine (HI.out _).mono ?_
    rintro e w1 ⟨rfl, rfl⟩
    go_wp2
    go_ret
    exact ⟨rfl, rfl⟩
  · obtain ⟨v0, v1⟩ := isS_iff.1 v
    obtain ⟨S, rfl⟩ : ∃ S : Nat, s = S := ⟨s.toNat, by omega⟩
    have hS : S < 8192 := by omega
    rw [show ivS (S : Int) = (ivK S 13 : Int) by unfold ivS; rw [v]; rfl]
    rw [v] at HI
    have HH := Lib.hid (fun r (hr : r ≤ 12) w => rahas S r hS hr w)
    have step : Hid (∀ r, ivK S (r + 1) = if S.testBit r then ivK S r ||| 2 ^ (12 - r) else ivK S r) := fun r => rfl
    have lt := Lib.hid (fun r => ivK_lt S r)
    have z0 : Hid (ivK S 0 = 0) := rfl
    generalize ivK S = K at *
    clear v v0 v1 hs
    go_enter Tryd.func17, Tryd.ntmps17
    go_wp2_with fail
    refine (HI.out _).mono ?_
    rintro e w1 ⟨rfl, rfl⟩
    clear HI
    go_wp2
    go_loop [3, 4] (fun o i => ∃ r : Nat, r ≤ 13 ∧ o = .int .i64 (K r) ∧ i = .int .i64 r) (fun _ i => 13 - (intOf i).toNat)
    case atStart => exact ⟨0, Nat.zero_le _, by rw [z0.out]; rfl, rfl⟩
    case round =>
      obtain ⟨r, hr, rfl, rfl⟩ := hrel
      by_cases z : r ≤ 12
      · have kz : decide ((r : Int) ≤ 12) = true := decide_eq_true (by omega)
        have hh := Lib.hid (fun w => HH.out r z w)
        have st := Lib.hid (step.out r)
        have l := lt.out r
        have p := pow_lt (show 12 - r ≤ 12 by omega)
        have e1 := al_pow (show 12 - r ≤ 12 by omega)
        have e2 := Lib.hid (or_i64 (K r) (2 ^ (12 - r)) (by omega) (by omega))
        obtain ⟨q, hq⟩ : ∃ q : Nat, (12 : Int) - r = q := ⟨12 - r, by omega⟩
        rw [show 12 - r = q by omega] at p e1 e2 st
        clear HH step lt
        cases b : S.testBit r
        · rw [b] at hh st
          clear b
          go_wp2_with fail
          refine (hh.out _).mono ?_
          rintro e w2 ⟨rfl, rfl⟩
          go_wp2
          go_round
          case rel => exact ⟨r + 1, by omega, by rw [st.out]; rfl, by go_num⟩
          case measure => simp [intOf]; omega
        · rw [b] at hh st
          clear b
          have q12 : q ≤ 12 := by omega
          obtain ⟨m, hm⟩ : ∃ m : Nat, 2 ^ q = m := ⟨_, rfl⟩
          rw [hm] at p e1 e2 st
          have e3 := e2.out
          go_wp2_with fail
          refine (hh.out _).mono ?_
          rintro e w2 ⟨rfl, rfl⟩
          go_wp2
          go_round
          case rel => exact ⟨r + 1, by omega, by rw [st.out]; rfl, by go_num⟩
          case measure => simp [intOf]; omega
      · have kz : decide ((r : Int) ≤ 12) = false := decide_eq_false (by omega)
        obtain rfl : r = 13 := by omega
        go_wp2
        go_ret
        exact ⟨rfl, rfl⟩
set_option maxRecDepth 100000 in
set_option maxHeartbeats 1000000 in
theorem rasingles (s : Int) (hs : I64 s) (w : World) :
    Calls Tryd.prog 20 #[.int .i64 s] w fun e w' => (∃ v, e = .returned v ∧ IntS w.heap.size w' v (sgV s)) ∧ Below w.heap.size w w' := by
  have HI := Lib.hid (fun w => raset s hs w)
  cases v : isS s
  · have e : Hid (sgV s = []) := by show _ = _; unfold sgV; rw [v]; rfl
    rw [v] at HI
    clear v
    go_enter Tryd.func20, Tryd.ntmps20
    go_wp2
    go_loop [3, 4] (fun o i => o = .slice none 0 0 ∧ i = .int .i64 0) (fun _ _ => 0)
    case atStart => exact ⟨rfl, rfl⟩
    case round =>
      obtain ⟨rfl, rfl⟩ := hrel
      go_wp2_with fail
      refine (HI.out _).mono ?_
      rintro e1 w1 ⟨rfl, rfl⟩
      go_wp2
      go_ret
      exact ⟨⟨_, rfl, by rw [e.out]; exact Sl.none _ _⟩, here _⟩
  · obtain ⟨v0, v1⟩ := isS_iff.1 v
    obtain ⟨S, rfl⟩ : ∃ S : Nat, s = S := ⟨s.toNat, by omega⟩
    have hS : S < 8192 := by omega
    have e : Hid (sgV (S : Int) = sgL S 13) := by show _ = _; unfold sgV; rw [v]; rfl
    rw [v] at HI
    have HH := Lib.hid (fun r (hr : r ≤ 12) w => rahas S r hS hr w)
    have step : Hid (∀ r, sgL S (r + 1) = if S.testBit r then sgL S r ++ [(r : Int)] else sgL S r) := fun r => rfl
    have lenL := Lib.hid (fun r => sgL_len S r)
    have z0 : Hid (sgL S 0 = []) := rfl
    obtain ⟨i0, hi, hz0, hz1, hz2⟩ := info_parts infoInt
    rw [e.out]
    clear v v0 v1 hs e
    generalize sgL S = L at *
    go_enter Tryd.func20, Tryd.ntmps20
    go_wp2
    go_loopw [3, 4] (fun o i wr => ∃ (r : Nat) (v : Value), r ≤ 13 ∧ o = v ∧ i = .int .i64 r ∧ Hid (Below w.heap.size w wr) ∧ Hid (wr.ownsRow w.heap.size 3 1 v (L r).length (ints (L r)))) (fun _ i _ => 13 - (intOf i).toNat)
    case atStart => exact ⟨0, _, Nat.zero_le _, rfl, rfl, here w, by show World.ownsRow _ _ _ _ _ _ _; rw [z0.out]; exact World.ownsRow_nil _ _ _ _⟩
    case round =>
      obtain ⟨r, v, hr, rfl, rfl, HA, HO⟩ := hrel
      obtain ⟨ao, cp, rfl⟩ := (Sl.owns HO.out).shape
      by_cases z : r ≤ 12
      · have kz : decide ((r : Int) ≤ 12) = true := decide_eq_true (by omega)
        have hh := Lib.hid (fun w => HH.out r z w)
        have st := Lib.hid (step.out r)
        have l := lenL.out r
        clear HH step lenL
        cases b : S.testBit r
        · rw [b] at hh st
          clear b
          have hO : Hid (wr.ownsRow w.heap.size 3 1 (.slice ao (L r).length cp) (L (r + 1)).length (ints (L (r + 1)))) := by show World.ownsRow _ _ _ _ _ _ _; rw [st.out]; exact HO.out
          go_wp2_with fail
          refine (HI.out _).mono ?_
          rintro e1 w1 ⟨rfl, rfl⟩
          go_wp2_with fail
          refine (hh.out _).mono ?_
          rintro e w2 ⟨rfl, rfl⟩
          go_wp2
          go_roundw
          case rel => exact ⟨r + 1, _, by omega, rfl, by go_num, HA, hO⟩
          case measure => simp [intOf]; omega
        · rw [b] at hh st
          clear b
          go_wp2_with fail
          refine (HI.out _).mono ?_
          rintro e1 w1 ⟨rfl, rfl⟩
          go_wp2_with fail
          refine (hh.out _).mono ?_
          rintro e w2 ⟨rfl, rfl⟩
          have S5 : Hid (w.heap.size ≤ wr.heap.size) := HA.out.size
          go_wp2_with (at_builtin; refine wpList_append_own _ rfl _ _ 26 rfl w.heap.size 3 i0 (.int .i64 0) 1 8 Tryd.underlying26 hi hz0 hz1 hz2 rfl (by decide) (.slice ao (L r).length cp) (L r).length (ints (L r)) rfl (HO.out.alloc _) ⟨wr.heap.size, 0, none⟩ 1 1 [.int .i64 r] rfl rfl ?c1 ?c2 ?c3 ?c4 ?c5 ?_)
          case c1 =>
            intro j u hj
            rw [Addr.add_lit, Nat.zero_add, World.cell?_alloc_new]
            simpa using hj
          case c2 => intro u hu; simp at hu; subst hu; rfl
          case c3 => unfold maxLen; omega
          case c4 => omega
          case c5 => have := S5.out; simp; omega
          intro v' w7 hown hgrow _
          obtain ⟨ao', cp', rfl⟩ := (Sl.owns hown).shape
          have G : Below w.heap.size wr w7 := ((Below.refl _ _).alloc S5.out _).grown hgrow (by have := S5.out; simp; omega) (own_ge HO.out)
          have A7 := Lib.hid (HA.out.trans G)
          have le : (L (r + 1)).length = (L r).length + 1 := by rw [st.out]; simp
          have O7 : Hid (w7.ownsRow w.heap.size 3 1 (.slice ao' ((L r).length + 1) cp') (L (r + 1)).length (ints (L (r + 1)))) := by
            show World.ownsRow _ _ _ _ _ _ _
            rw [le, st.out]
            show World.ownsRow _ _ _ _ _ _ (ints (L r ++ [(r : Int)]))
            rw [show ints (L r ++ [(r : Int)]) = ints (L r) ++ [.int .i64 r] by simp [ints]]
            exact hown
          clear hown hgrow G le
          go_wp2
          go_roundw
          case rel => exact ⟨r + 1, _, by omega, rfl, by go_num, A7, O7⟩
          case measure => simp [intOf]; omega
      · have kz : decide ((r : Int) ≤ 12) = false := decide_eq_false (by omega)
        obtain rfl : r = 13 := by omega
        have PL : Hid (IntS w.heap.size wr (.slice ao (L 13).length cp) (L 13)) := Sl.owns HO.out
        go_wp2
        go_ret
        exact ⟨⟨_, rfl, PL.out⟩, HA.out⟩
theorem infoSpanA : (Tryd.prog.info? 30).map (fun i => (i.zero, i.size, i.bytes)) = some (some (.agg #[.int .i64 0, .int .i64 0]), 2, 16) := by kernel_rfl
/-- How many of the small intervals begin before x. -/
def cO : Nat → Nat
  | 0 => 0 | 1 => 5 | 2 => 9 | 3 => 12 | 4 => 14 | _ => 15
theorem sm_step : ∀ x : Fin 5, ∀ y : Fin 6, x.val < y.val → smL.take (cO x + (y - x - 1) + 1) = smL.take (cO x + (y - x - 1)) ++ [(((x : Nat) : Int), ((y : Nat) : Int))] := by decide +kernel
theorem sm_next : ∀ x : Fin 5, cO x + (6 - x - 1) = cO (x + 1) := by decide +kernel
theorem cO_le : ∀ x : Fin 6, cO x ≤ 15 := by decide +kernel
set_option maxRecDepth 100000 in
set_option maxHeartbeats 1000000 in
theorem rasmall (w : World) :
    Calls Tryd.prog 42 #[] w fun e w' => (∃ v, e = .returned v ∧ PairS w.heap.size w' v smL) ∧ Below w.heap.size w w' := by
  obtain ⟨i0, hi, hz0, hz1, hz2⟩ := info_parts infoSpanA
  have len : Hid (∀ n, n ≤ 15 → (smL.take n).length = n) := fun n hn => by rw [List.length_take]; show min n 15 = n; omega
  have step := Lib.hid sm_step
  have next := Lib.hid sm_next
  have cl := Lib.hid cO_le
  have all : Hid (smL.take 15 = smL) := rfl
  have c0 : Hid (cO 0 = 0) := rfl
  have c5 : Hid (cO 5 = 15) := rfl
  have t0 : Hid (smL.take 0 = []) := rfl
  generalize cO = c at *
  generalize smL = L at *
  go_enter Tryd.func42, Tryd.ntmps42
  go_wp2
  go_loopw [1, 2] (fun o i wr => ∃ (x : Nat) (v : Value), x ≤ 5 ∧ o = v ∧ i = .int .i64 x ∧ Hid (Below w.heap.size w wr) ∧ Hid (wr.ownsRow w.heap.size 30 2 v (c x) (pairs (L.take (c x))))) (fun _ i _ => 5 - (intOf i).toNat)
  case atStart => exact ⟨0, _, Nat.zero_le _, rfl, rfl, here w, by show World.ownsRow _ _ _ _ _ _ _; rw [c0.out, t0.out]; exact World.ownsRow_nil _ _ _ _⟩
  case round =>
    obtain ⟨x, v, hx, rfl, rfl, HA, HO⟩ := hrel
    by_cases z : x < 5
    · have kz : decide ((x : Int) < 5) = true := decide_eq_true (by omega)
      have st := Lib.hid (fun y hy (h : x < y) => step.out ⟨x, z⟩ ⟨y, hy⟩ h)
      have nx : Hid (c x + (6 - x - 1) = c (x + 1)) := next.out ⟨x, z⟩
      have cx : c x + (6 - x - 1) ≤ 15 := by rw [nx.out]; exact cl.out ⟨x + 1, by omega⟩
      have A1 := HA
      have O1 := HO
      clear step next HA HO all c0 c5 t0 cl
      go_wp2
      go_loopw [1, 3] (fun o i wr => ∃ (y : Nat) (v : Value), x < y ∧ y ≤ 6 ∧ o = v ∧ i = .int .i64 y ∧ Hid (Below w.heap.size w wr) ∧ Hid (wr.ownsRow w.heap.size 30 2 v (c x + (y - x - 1)) (pairs (L.take (c x + (y - x - 1)))))) (fun _ i _ => 6 - (intOf i).toNat)
      case atStart => exact ⟨x + 1, _, by omega, by omega, rfl, by go_num, A1.out, by rw [show c x + (x + 1 - x - 1) = c x by omega]; exact O1.out⟩
      case round =>
        obtain ⟨y, v, xy, hy, rfl, rfl, HA, HO⟩ := hrel
        clear A1 O1
        obtain ⟨ao, cp, rfl⟩ := (Sl.owns HO.out).shape
        by_cases u : y ≤ 5
        · have ku : decide ((y : Int) ≤ 5) = true := decide_eq_true (by omega)
          have s1 := Lib.hid (st.out y (by omega) xy)
          obtain ⟨n, hn⟩ : ∃ n, c x + (y - x - 1) = n := ⟨_, rfl⟩
          have hn' : Hid (c x + (y + 1 - x - 1) = n + 1) := by show _ = _; omega
          rw [hn] at HO
          have s2 : Hid (L.take (n + 1) = L.take n ++ [((x : Int), (y : Int))]) := by rw [← hn]; exact s1.out
          have n15 : n ≤ 14 := by omega
          rw [hn]
          clear st nx s1 len hn cx
          have S5 : Hid (w.heap.size ≤ wr.heap.size) := HA.out.size
          go_wp2_with (at_builtin; refine wpList_append_own _ rfl _ _ 42 rfl w.heap.size 30 i0 (.agg #[.int .i64 0, .int .i64 0]) 2 16 Tryd.underlying42 hi hz0 hz1 hz2 rfl (by decide) (.slice ao n cp) n (pairs (L.take n)) rfl (HO.out.alloc _) ⟨wr.heap.size, 0, none⟩ 1 1 [.int .i64 x, .int .i64 y] rfl rfl ?c1 ?c2 ?c3 ?c4 ?c5 ?_)
          case c1 =>
            intro j u hj
            rw [Addr.add_lit, Nat.zero_add, World.cell?_alloc_new]
            simpa using hj
          case c2 => intro u hu; simp at hu; rcases hu with rfl | rfl <;> rfl
          case c3 => unfold maxLen; omega
          case c4 => omega
          case c5 => have := S5.out; simp; omega
          intro v' w7 hown hgrow _
          obtain ⟨ao', cp', rfl⟩ := (Sl.owns hown).shape
          have G : Below w.heap.size wr w7 := ((Below.refl _ _).alloc S5.out _).grown hgrow (by have := S5.out; simp; omega) (own_ge HO.out)
          have A7 := Lib.hid (HA.out.trans G)
          have O7 : Hid (w7.ownsRow w.heap.size 30 2 (.slice ao' (n + 1) cp') (n + 1) (pairs (L.take (n + 1)))) := by
            show World.ownsRow _ _ _ _ _ _ _
            rw [s2.out, pairs_append]; exact hown
          clear hown hgrow G
          go_wp2
          go_roundw
          case rel => exact ⟨y + 1, _, by omega, by omega, rfl, by go_num, A7, by rw [hn'.out]; exact O7.out⟩
          case measure => simp [intOf]; omega
        · have ku : decide ((y : Int) ≤ 5) = false := decide_eq_false (by omega)
          obtain rfl : y = 6 := by omega
          have O2 : Hid (wr.ownsRow w.heap.size 30 2 (.slice ao (c x + (6 - x - 1)) cp) (c (x + 1)) (pairs (L.take (c (x + 1))))) := by rw [← nx.out]; exact HO.out
          clear st nx len
          go_wp2
          go_roundw
          case rel => exact ⟨x + 1, _, by omega, rfl, by go_num, HA, O2⟩
          case measure => simp [intOf]; omega
    · have kz : decide ((x : Int) < 5) = false := decide_eq_false (by omega)
      obtain rfl : x = 5 := by omega
      have PS := Sl.owns HO.out
      obtain ⟨ao, cp, rfl⟩ := PS.shape
      have lL : L.length = 15 := by rw [← all.out]; exact len.out 15 (Nat.le_refl _)
      have PL : Hid (PairS w.heap.size wr (.slice ao (c 5) cp) L) := by
        show Sl _ _ _ _ _
        rw [lL]; rw [c5.out, all.out] at PS; rw [c5.out]; exact PS
      clear PS len step next cl all c0 c5 t0
      go_wp2
      go_ret
      exact ⟨⟨_, rfl, PL.out⟩, HA.out⟩
end Go.Proofs.YtiaidmjhgfaobaaDoor
