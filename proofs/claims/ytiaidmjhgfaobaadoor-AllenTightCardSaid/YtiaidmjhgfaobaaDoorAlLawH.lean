/- The walk of AllenTight. -/
import Derived.Test.YtiaidmjhgfaobaaDoorAlAwakes
import Derived.Test.YtiaidmjhgfaobaaDoorAlC
import Derived.Test.YtiaidmjhgfaobaaDoorAlH
import Derived.BigQuiet
import Derived.Deep.QuietTactic
import Derived.Deep.RegionHeld3
import Derived.Deep.Cut
import Derived.Outline
namespace Go.Proofs.YtiaidmjhgfaobaaDoor
open Go.RowKit
set_option linter.unusedVariables false

/-- The relation of two small intervals, by the package. -/
theorem uofN (i j : Nat) (hi : i < 15) (hj : j < 15) (w : World) (ht : ISh w) :
    Calls Tryd.prog 34 #[.agg #[.int .i64 (smL.getD i (0, 0)).1, .int .i64 (smL.getD i (0, 0)).2], .agg #[.int .i64 (smL.getD j (0, 0)).1, .int .i64 (smL.getD j (0, 0)).2]] w fun e w' => e = .returned (.int .i64 (ofN i j)) ∧ Below w.heap.size w w' := by
  have a : 0 ≤ (smL.getD i (0, 0)).1 ∧ (smL.getD i (0, 0)).1 < (smL.getD i (0, 0)).2 ∧ (smL.getD i (0, 0)).2 ≤ 5 := sm_ok ⟨i, hi⟩
  have b : 0 ≤ (smL.getD j (0, 0)).1 ∧ (smL.getD j (0, 0)).1 < (smL.getD j (0, 0)).2 ∧ (smL.getD j (0, 0)).2 ≤ 5 := sm_ok ⟨j, hj⟩
  have q := (ofN_at hi hj).1
  have h := iuof (smL.getD i (0, 0)).1 (smL.getD i (0, 0)).2 (smL.getD j (0, 0)).1 (smL.getD j (0, 0)).2 ⟨by omega, by omega⟩ ⟨by omega, by omega⟩ ⟨by omega, by omega⟩ ⟨by omega, by omega⟩ w ht
  rw [ofV_in (by rw [ivB_iff]; omega) (by rw [ivB_iff]; omega), q] at h
  exact h
set_option maxRecDepth 100000 in
set_option maxHeartbeats 4000000 in
theorem AllenTight.walk (r q : Int) (hr : (Lit.int .u8 r).wf = true) (hq : (Lit.int .u8 q).wf = true) (w : World) (ht : Tabs w) :
    Calls Tryd.prog 9 #[.int .u8 r, .int .u8 q] w fun e w' => e = .returned (.bool true) ∧ Below w.heap.size w w' := by
  replace hr := bounds_u8 hr
  replace hq := bounds_u8 hq
  obtain ⟨r0, r1⟩ := hr
  obtain ⟨q0, q1⟩ := hq
  obtain ⟨p1, hp1⟩ : ∃ p : Nat, r.tmod 13 = p := ⟨(r.tmod 13).toNat, by rw [Int.tmod_eq_emod_of_nonneg r0]; omega⟩
  obtain ⟨p2, hp2⟩ : ∃ p : Nat, q.tmod 13 = p := ⟨(q.tmod 13).toNat, by rw [Int.tmod_eq_emod_of_nonneg q0]; omega⟩
  have hp1' : r % 13 = p1 := by rw [← hp1, Int.tmod_eq_emod_of_nonneg r0]
  have hp2' : q % 13 = p2 := by rw [← hp2, Int.tmod_eq_emod_of_nonneg q0]
  have x12 : p1 ≤ 12 := by omega
  have y12 : p2 ≤ 12 := by omega
  have AW := Lib.hid (fun w ht => awake_all w ht)
  replace ht := Lib.hid ht
  have is (n : Nat) (h : n < 8192) : isS (n : Int) = true := isS_iff.2 (by omega)
  have HB := fun w ht => uabasic p1 p2 ⟨by omega, by omega⟩ ⟨by omega, by omega⟩ w ht
  rw [show baS (p1 : Int) (p2 : Int) = (cmI (2 ^ p1) (2 ^ p2) 15 : Int) by rw [baS_yes x12 y12]; unfold cmS; rw [is _ (pow_lt x12), is _ (pow_lt y12)]; rfl] at HB
  have HO := Lib.hid (fun i j (hi : i < 15) (hj : j < 15) w ht => uofN i j hi hj w ht)
  have OB := Lib.hid (fun i j (hi : i < 15) (hj : j < 15) => (ofN_at hi hj).2)
  have SI : Hid (∀ i, cmI (2 ^ p1) (2 ^ p2) (i + 1) = cmJ (2 ^ p1) (2 ^ p2) i (cmI (2 ^ p1) (2 ^ p2) i) 15) := fun i => rfl
  have SJ : Hid (∀ i o j, cmJ (2 ^ p1) (2 ^ p2) i o (j + 1) = if p1 = ofN i j then cmK (2 ^ p2) i j (cmJ (2 ^ p1) (2 ^ p2) i o j) 15 else cmJ (2 ^ p1) (2 ^ p2) i o j) := fun i o j => by
    show (if (2 ^ p1 : Nat).testBit (ofN i j) = true then _ else _) = _
    rw [bit_pow]; simp only [decide_eq_true_eq]
  have SK : Hid (∀ i j o k, cmK (2 ^ p2) i j o (k + 1) = if p2 = ofN j k then cmK (2 ^ p2) i j o k ||| 2 ^ ofN i k else cmK (2 ^ p2) i j o k) := fun i j o k => by
    show (if (2 ^ p2 : Nat).testBit (ofN j k) = true then _ else _) = _
    rw [bit_pow]; simp only [decide_eq_true_eq]
  have Z : Hid (cmI (2 ^ p1) (2 ^ p2) 0 = 0 ∧ (∀ i o, cmJ (2 ^ p1) (2 ^ p2) i o 0 = o) ∧ ∀ i j o, cmK (2 ^ p2) i j o 0 = o) := ⟨rfl, fun _ _ => rfl, fun _ _ _ => rfl⟩
  have LI := Lib.hid (cmI_lt (2 ^ p1) (2 ^ p2))
  have LJ := Lib.hid (fun i o ho hi => cmJ_lt (2 ^ p1) (2 ^ p2) i o ho hi)
  have LK := Lib.hid (fun i j o ho hi => cmK_lt (2 ^ p2) i j o ho hi)
  generalize cmI (2 ^ p1) (2 ^ p2) = CI at *
  generalize cmJ (2 ^ p1) (2 ^ p2) = CJ at *
  generalize cmK (2 ^ p2) = CK at *
  replace HB := Lib.hid HB
  clear is
  obtain ⟨i0, hi, hz0, hz1, hz2⟩ := info_parts infoSpanA
  have len : Hid (∀ n, n ≤ 15 → (smL.take n).length = n) := fun n hn => by rw [List.length_take]; show min n 15 = n; omega
  have step := Lib.hid sm_step
  have next := Lib.hid sm_next
  have cl := Lib.hid cO_le
  have all : Hid (smL.take 15 = smL) := rfl
  have c0 : Hid (cO 0 = 0) := rfl
  have c5 : Hid (cO 5 = 15) := rfl
  have t0 : Hid (smL.take 0 = []) := rfl
  generalize cO = c at *
  obtain ⟨L, hL⟩ : ∃ L, smL = L := ⟨_, rfl⟩
  rw [hL] at step all t0 len
  replace hL := Lib.hid hL
  go_enter Tryd.func9, Tryd.ntmps9
  go_wp2_with fail
  refine (AW.out _ (ht.out.below (here w))).mono ?_
  rintro e w1 ⟨rfl, hb⟩
  have A1 := Lib.hid hb
  clear hb AW
  have O1 : Hid (w1.ownsRow w.heap.size 30 2 (.slice none 0 0) 0 (pairs [])) := World.ownsRow_nil _ _ _ _
  go_wp2
  go_loopw [7, 26] (fun o i wr => ∃ (x : Nat) (v : Value), x ≤ 5 ∧ o = v ∧ i = .int .i64 x ∧ Hid (Below w.heap.size w wr) ∧ Hid (wr.ownsRow w.heap.size 30 2 v (c x) (pairs (L.take (c x))))) (fun _ i _ => 5 - (intOf i).toNat)
  case atStart => exact ⟨0, _, Nat.zero_le _, rfl, rfl, A1, by rw [c0.out, t0.out]; exact O1⟩
  case round =>
    obtain ⟨x, v, hx, rfl, rfl, HA, HW⟩ := hrel
    clear A1 O1
    by_cases z : x < 5
    · have kz : decide ((x : Int) < 5) = true := decide_eq_true (by omega)
      have st := Lib.hid (fun y hy (h : x < y) => step.out ⟨x, z⟩ ⟨y, hy⟩ h)
      have nx : Hid (c x + (6 - x - 1) = c (x + 1)) := next.out ⟨x, z⟩
      have cx : c x + (6 - x - 1) ≤ 15 := by rw [nx.out]; exact cl.out ⟨x + 1, by omega⟩
      have A1 := HA
      have O1 := HW
      clear step next HA HW all c0 c5 t0 cl HO OB SI SJ SK Z LI LJ LK HB hL
      go_wp2
      go_loopw [7, 9] (fun o i wr => ∃ (y : Nat) (v : Value), x < y ∧ y ≤ 6 ∧ o = v ∧ i = .int .i64 y ∧ Hid (Below w.heap.size w wr) ∧ Hid (wr.ownsRow w.heap.size 30 2 v (c x + (y - x - 1)) (pairs (L.take (c x + (y - x - 1)))))) (fun _ i _ => 6 - (intOf i).toNat)
      case atStart => exact ⟨x + 1, _, by omega, by omega, rfl, by go_num, A1.out, by rw [show c x + (x + 1 - x - 1) = c x by omega]; exact O1.out⟩
      case round =>
        obtain ⟨y, v, xy, hy, rfl, rfl, HA, HW⟩ := hrel
        clear A1 O1
        obtain ⟨ao, cp, rfl⟩ := (Sl.owns HW.out).shape
        by_cases u : y ≤ 5
        · have ku : decide ((y : Int) ≤ 5) = true := decide_eq_true (by omega)
          have s1 := Lib.hid (st.out y (by omega) xy)
          obtain ⟨n, hn⟩ : ∃ n, c x + (y - x - 1) = n := ⟨_, rfl⟩
          have hn' : Hid (c x + (y + 1 - x - 1) = n + 1) := by show _ = _; omega
          rw [hn] at HW
          have s2 : Hid (L.take (n + 1) = L.take n ++ [((x : Int), (y : Int))]) := by rw [← hn]; exact s1.out
          have n15 : n ≤ 14 := by omega
          rw [hn]
          clear st nx s1 len hn cx
          have S5 : Hid (w.heap.size ≤ wr.heap.size) := HA.out.size
          go_wp2_with (at_builtin; refine wpList_append_own _ rfl _ _ 42 rfl w.heap.size 30 i0 (.agg #[.int .i64 0, .int .i64 0]) 2 16 Tryd.underlying42 hi hz0 hz1 hz2 rfl (by decide) (.slice ao n cp) n (pairs (L.take n)) rfl (HW.out.alloc _) ⟨wr.heap.size, 0, none⟩ 1 1 [.int .i64 x, .int .i64 y] rfl rfl ?c1 ?c2 ?c3 ?c4 ?c5 ?_)
          case c1 =>
            intro j u hj
            rw [Addr.add_lit, Nat.zero_add, World.cell?_alloc_new]
            simpa using hj
          case c2 => intro u hu; simp at hu; rcases hu with rfl | rfl <;> rfl
          case c3 => unfold maxLen; omega
          case c4 => omega
          case c5 => have := S5.out; simp; omega
          intro v' w7 hown hgrow _
          obtain ⟨ao', cp', rfl⟩ := (Sl.owns hown).shape
          have G : Below w.heap.size wr w7 := ((Below.refl _ _).alloc S5.out _).grown hgrow (by have := S5.out; simp; omega) (own_ge HW.out)
          have A7 := Lib.hid (HA.out.trans G)
          have O7 : Hid (w7.ownsRow w.heap.size 30 2 (.slice ao' (n + 1) cp') (n + 1) (pairs (L.take (n + 1)))) := by
            show World.ownsRow _ _ _ _ _ _ _
            rw [s2.out, pairs_append]; exact hown
          clear hown hgrow G
          go_wp2
          go_roundw
          case rel => exact ⟨y + 1, _, by omega, by omega, rfl, by go_num, A7, by rw [hn'.out]; exact O7.out⟩
          case measure => simp [intOf]; omega
        · have ku : decide ((y : Int) ≤ 5) = false := decide_eq_false (by omega)
          obtain rfl : y = 6 := by omega
          have O2 : Hid (wr.ownsRow w.heap.size 30 2 (.slice ao (c x + (6 - x - 1)) cp) (c (x + 1)) (pairs (L.take (c (x + 1))))) := by rw [← nx.out]; exact HW.out
          clear st nx len
          go_wp2
          go_roundw
          case rel => exact ⟨x + 1, _, by omega, rfl, by go_num, HA, O2⟩
          case measure => simp [intOf]; omega
    · have kz : decide ((x : Int) < 5) = false := decide_eq_false (by omega)
      obtain rfl : x = 5 := by omega
      have PS := Sl.owns HW.out
      obtain ⟨ao, cp, rfl⟩ := PS.shape
      have lL : L.length = 15 := by rw [← all.out]; exact len.out 15 (Nat.le_refl _)
      have PL : PairS w.heap.size wr (.slice ao 15 cp) smL := by
        rw [hL.out]
        show Sl _ _ _ _ _
        rw [lL]; rw [c5.out, all.out] at PS; exact PS
      rw [c5.out, show ((5 : Nat) : Int) = 5 from rfl]
      obtain ⟨b, off, cq, hv, bl, LL⟩ := pairs_at15 PL
      injection hv with e1 e2 e3
      subst e1 e3
      replace LL := Lib.hid LL
      clear PS PL len step next cl all c0 c5 t0 HW bl lL hL e2
      have A1 := HA
      have L1 := LL
      clear HA LL
      go_wp2
      go_loopw [10, 44] (fun o i wr => ∃ x : Nat, x ≤ 15 ∧ o = .int .i64 (CI x) ∧ i = .int .i64 x ∧ Hid (Below w.heap.size w wr) ∧ Hid (Lies wr b off (pairs smL))) (fun _ i _ => 15 - (intOf i).toNat)
      case atStart => exact ⟨0, Nat.zero_le _, by rw [Z.out.1]; rfl, rfl, A1, L1⟩
      case round =>
        rename_i w1'
        obtain ⟨x, hx, rfl, rfl, A1', L1'⟩ := hrel
        clear A1 L1
        by_cases z : x < 15
        · have kz : decide ((x : Int) < 15) = true := decide_eq_true (by omega)
          have li := LI.out x hx
          have si := Lib.hid (SI.out x)
          clear SI LI
          obtain ⟨o0, ho0⟩ : ∃ o0, CI x = o0 := ⟨_, rfl⟩
          rw [ho0] at li si
          rw [ho0]
          have lj := Lib.hid (LJ.out x o0 li z)
          have sj := Lib.hid (SJ.out x o0)
          have zj : Hid (CJ x o0 0 = o0) := Z.out.2.1 x o0
          have zk := Lib.hid Z.out.2.2
          clear LJ SJ Z ho0
          generalize CJ x o0 = J at *
          have bl := L1'.out.lt
          obtain ⟨xc0, xc1⟩ := sm_cell L1'.out z
          have hxy := Lib.hid (fun y (u : y < 15) w ht => HO.out x y z u w ht)
          have oxy := Lib.hid (fun y (u : y < 15) => OB.out x y z u)
          generalize (smL.getD x (0, 0)).1 = x1 at *
          generalize (smL.getD x (0, 0)).2 = x2 at *
          obtain ⟨w2, hw2⟩ : ∃ w' : World, wr.alloc (.cells #[.int .i64 x1, .int .i64 x2] 30) = w' := ⟨_, rfl⟩
          obtain ⟨bX, hbX⟩ : ∃ b', wr.heap.size = b' := ⟨_, rfl⟩
          have X2 : Hid (Two w2 bX (.int .i64 x1) (.int .i64 x2)) := by rw [← hbX, ← hw2]; exact Two.new (here _)
          have A2 : Hid (Below w.heap.size w w2) := by rw [← hw2]; exact grow A1'.out _
          have L2 := Lib.hid (L1'.out.keep (show Below wr.heap.size wr w2 by rw [← hw2]; exact grow (here _) _))
          clear A1' L1'
          go_wp2
          clear hw2 hbX bl xc0 xc1
          go_loopw [10, 50] (fun o i wr => ∃ y : Nat, y ≤ 15 ∧ o = .int .i64 (J y) ∧ i = .int .i64 y ∧ Hid (Below w.heap.size w wr) ∧ Hid (Lies wr b off (pairs smL)) ∧ Hid (Two wr bX (.int .i64 x1) (.int .i64 x2))) (fun _ i _ => 15 - (intOf i).toNat)
          case atStart => exact ⟨0, Nat.zero_le _, by rw [zj.out], rfl, A2, L2, X2⟩
          case round =>
            obtain ⟨y, hy, rfl, rfl, A3, L3, X3⟩ := hrel
            clear A2 L2 X2
            by_cases u : y < 15
            · have ku : decide ((y : Int) < 15) = true := decide_eq_true (by omega)
              have lj' := lj.out y hy
              have sj' := Lib.hid (sj.out y)
              have bl := L3.out.lt
              obtain ⟨yc0, yc1⟩ := sm_cell L3.out u
              have ho := Lib.hid (fun w ht => hxy.out y u w ht)
              have lk := Lib.hid (LK.out x y (J y) lj' z)
              have sk := Lib.hid (SK.out x y (J y))
              have zk' : Hid (CK x y (J y) 0 = J y) := zk.out x y (J y)
              have hyk := Lib.hid (fun k (v : k < 15) w ht => HO.out y k u v w ht)
              obtain ⟨o1, ho1⟩ : ∃ o1, J y = o1 := ⟨_, rfl⟩
              rw [ho1] at lj' sj' lk sk zk'
              rw [ho1]
              clear SK zk LK ho1 HO sj lj OB
              generalize (smL.getD y (0, 0)).1 = y1 at *
              generalize (smL.getD y (0, 0)).2 = y2 at *
              obtain ⟨w4, hw4⟩ : ∃ w' : World, wr.alloc (.cells #[.int .i64 y1, .int .i64 y2] 30) = w' := ⟨_, rfl⟩
              obtain ⟨bY, hbY⟩ : ∃ b', wr.heap.size = b' := ⟨_, rfl⟩
              have Y4 : Hid (Two w4 bY (.int .i64 y1) (.int .i64 y2)) := by rw [← hbY, ← hw4]; exact Two.new (here _)
              have A4 : Hid (Below w.heap.size w w4) := by rw [← hw4]; exact grow A3.out _
              have G4 : Below wr.heap.size wr w4 := by rw [← hw4]; exact grow (here _) _
              have L4 := Lib.hid (L3.out.keep G4)
              have X4 := Lib.hid (X3.out.keep G4)
              clear A3 L3 X3 G4
              obtain ⟨x4_0, x4_1, x4_l⟩ := X4.out
              obtain ⟨y4_0, y4_1, y4_l⟩ := Y4.out
              have T4 : Hid (ISh w4) := (ht.out.below A4.out).sh
              generalize ofN x y = rr at *
              by_cases e : p1 = rr
              · have sn : Hid (J (y + 1) = CK x y o1 15) := by show _ = _; rw [sj'.out, if_pos e]
                have ke : ((rr : Int) != (p1 : Int)) = false := by rw [bne_eq_false_iff_eq]; omega
                clear e sj'
                go_wp2_with fail
                refine (ho.out _ T4.out).mono ?_
                rintro e w5 ⟨rfl, hb⟩
                have A5 := Lib.hid (down A4.out hb)
                have L5 := Lib.hid (L4.out.keep hb)
                have X5 := Lib.hid (X4.out.keep hb)
                have Y5 := Lib.hid (Y4.out.keep hb)
                clear hb A4 L4 X4 Y4 T4 x4_0 x4_1 x4_l y4_0 y4_1 y4_l hw4 hbY bl yc0 yc1 ho
                generalize CK x y o1 = K at *
                go_wp2
                go_loopw [10, 61] (fun o i wr => ∃ k : Nat, k ≤ 15 ∧ o = .int .i64 (K k) ∧ i = .int .i64 k ∧ Hid (Below w.heap.size w wr) ∧ Hid (Lies wr b off (pairs smL)) ∧ Hid (Two wr bX (.int .i64 x1) (.int .i64 x2)) ∧ Hid (Two wr bY (.int .i64 y1) (.int .i64 y2))) (fun _ i _ => 15 - (intOf i).toNat)
                case atStart => exact ⟨0, Nat.zero_le _, by rw [zk'.out], rfl, A5, L5, X5, Y5⟩
                case round =>
                  obtain ⟨k, hk, rfl, rfl, A6, L6, X6, Y6⟩ := hrel
                  clear A5 L5 X5 Y5
                  by_cases v : k < 15
                  · have kv : decide ((k : Int) < 15) = true := decide_eq_true (by omega)
                    have bl := L6.out.lt
                    obtain ⟨kc0, kc1⟩ := sm_cell L6.out v
                    have b2 := oxy.out k v
                    have h2 := Lib.hid (fun w ht => hxy.out k v w ht)
                    have h3 := Lib.hid (fun w ht => hyk.out k v w ht)
                    have st := Lib.hid (sk.out k)
                    have lo := lk.out k hk
                    clear hxy hyk oxy sk lk sn
                    generalize (smL.getD k (0, 0)).1 = t1 at *
                    generalize (smL.getD k (0, 0)).2 = t2 at *
                    obtain ⟨w7, hw7⟩ : ∃ w' : World, wr.alloc (.cells #[.int .i64 t1, .int .i64 t2] 30) = w' := ⟨_, rfl⟩
                    obtain ⟨bZ, hbZ⟩ : ∃ b', wr.heap.size = b' := ⟨_, rfl⟩
                    have Z7 : Hid (Two w7 bZ (.int .i64 t1) (.int .i64 t2)) := by rw [← hbZ, ← hw7]; exact Two.new (here _)
                    have A7 : Hid (Below w.heap.size w w7) := by rw [← hw7]; exact grow A6.out _
                    have G7 : Below wr.heap.size wr w7 := by rw [← hw7]; exact grow (here _) _
                    have L7 := Lib.hid (L6.out.keep G7)
                    have X7 := Lib.hid (X6.out.keep G7)
                    have Y7 := Lib.hid (Y6.out.keep G7)
                    clear A6 L6 X6 Y6 G7
                    obtain ⟨x7_0, x7_1, x7_l⟩ := X7.out
                    obtain ⟨z7_0, z7_1, z7_l⟩ := Z7.out
                    have T7 : Hid (ISh w7) := (ht.out.below A7.out).sh
                    generalize ofN y k = r3 at *
                    generalize ofN x k = r2 at *
                    go_wp2_with fail
                    refine (h2.out _ T7.out).mono ?_
                    rintro e w8 ⟨rfl, hb⟩
                    have A8 := Lib.hid (down A7.out hb)
                    have L8 := Lib.hid (L7.out.keep hb)
                    have X8 := Lib.hid (X7.out.keep hb)
                    have Y8 := Lib.hid (Y7.out.keep hb)
                    have Z8 := Lib.hid (Z7.out.keep hb)
                    clear hb A7 L7 X7 Y7 Z7 T7 x7_0 x7_1 x7_l z7_0 z7_1 z7_l hw7 hbZ bl kc0 kc1 h2
                    obtain ⟨y8_0, y8_1, y8_l⟩ := Y8.out
                    obtain ⟨z8_0, z8_1, z8_l⟩ := Z8.out
                    have T8 : Hid (ISh w8) := (ht.out.below A8.out).sh
                    have kc : decide ((0 : Int) ≤ (r2 : Int)) = true := decide_eq_true (by omega)
                    by_cases e : p2 = r3
                    · rw [if_pos e] at st
                      have ke : ((r3 : Int) == (p2 : Int)) = true := by rw [beq_iff_eq]; omega
                      have pw := pow_lt b2
                      have e1 := al_pow b2
                      have e2 := or_i64 (K k) (2 ^ r2) (by omega) (by omega)
                      obtain ⟨m, hm⟩ : ∃ m : Nat, 2 ^ r2 = m := ⟨_, rfl⟩
                      rw [hm] at pw e1 e2 st
                      clear e hm
                      go_wp2_with fail
                      refine (h3.out _ T8.out).mono ?_
                      rintro e w9 ⟨rfl, hb⟩
                      have A9 := Lib.hid (down A8.out hb)
                      have L9 := Lib.hid (L8.out.keep hb)
                      have X9 := Lib.hid (X8.out.keep hb)
                      have Y9 := Lib.hid (Y8.out.keep hb)
                      clear hb A8 L8 X8 Y8 Z8 T8 y8_0 y8_1 y8_l z8_0 z8_1 z8_l h3
                      go_wp2
                      go_roundw
                      case rel => exact ⟨k + 1, by omega, by rw [st.out], by go_num, A9, L9, X9, Y9⟩
                      case measure => simp [intOf]; omega
                    · rw [if_neg e] at st
                      have ke : ((r3 : Int) == (p2 : Int)) = false := by rw [beq_eq_false_iff_ne]; omega
                      clear e
                      go_wp2_with fail
                      refine (h3.out _ T8.out).mono ?_
                      rintro e w9 ⟨rfl, hb⟩
                      have A9 := Lib.hid (down A8.out hb)
                      have L9 := Lib.hid (L8.out.keep hb)
                      have X9 := Lib.hid (X8.out.keep hb)
                      have Y9 := Lib.hid (Y8.out.keep hb)
                      clear hb A8 L8 X8 Y8 Z8 T8 y8_0 y8_1 y8_l z8_0 z8_1 z8_l h3
                      go_wp2
                      go_roundw
                      case rel => exact ⟨k + 1, by omega, by rw [st.out], by go_num, A9, L9, X9, Y9⟩
                      case measure => simp [intOf]; omega
                  · have kv : decide ((k : Int) < 15) = false := decide_eq_false (by omega)
                    obtain rfl : k = 15 := by omega
                    clear sk lk zk' hyk
                    go_wp2
                    go_roundw
                    case rel => exact ⟨y + 1, by omega, by rw [sn.out], by go_num, A6, L6, X6⟩
                    case measure => simp [intOf]; omega
              · have sn : Hid (J (y + 1) = o1) := by show _ = _; rw [sj'.out, if_neg e]
                have ke : ((rr : Int) != (p1 : Int)) = true := by rw [bne_iff_ne]; omega
                clear e sj' sk zk' lk hyk
                go_wp2_with fail
                refine (ho.out _ T4.out).mono ?_
                rintro e w5 ⟨rfl, hb⟩
                have A5 := Lib.hid (down A4.out hb)
                have L5 := Lib.hid (L4.out.keep hb)
                have X5 := Lib.hid (X4.out.keep hb)
                clear hb A4 L4 X4 Y4 T4 x4_0 x4_1 x4_l y4_0 y4_1 y4_l hw4 hbY bl yc0 yc1 ho
                go_wp2
                go_roundw
                case rel => exact ⟨y + 1, by omega, by rw [sn.out], by go_num, A5, L5, X5⟩
                case measure => simp [intOf]; omega
            · have ku : decide ((y : Int) < 15) = false := decide_eq_false (by omega)
              obtain rfl : y = 15 := by omega
              clear lj sj zj zk SK LK hxy oxy
              go_wp2
              go_roundw
              case rel => exact ⟨x + 1, by omega, by rw [si.out], by go_num, A3, L3⟩
              case measure => simp [intOf]; omega
        · have kz : decide ((x : Int) < 15) = false := decide_eq_false (by omega)
          obtain rfl : x = 15 := by omega
          clear SI SJ SK Z LI LJ LK HO OB
          have T1 : Hid (Tabs wr) := ht.out.below A1'.out
          generalize CI 15 = V at *
          go_wp2_with fail
          refine (HB.out _ T1.out).mono ?_
          rintro e w2 ⟨rfl, hb⟩
          have A2 := Lib.hid (down A1'.out hb)
          clear hb
          go_wp2
          go_ret
          exact ⟨rfl, A2.out⟩
end Go.Proofs.YtiaidmjhgfaobaaDoor
