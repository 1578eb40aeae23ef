/- Contracts of civiltimeref11: Compose, Basic, Holds. -/
import Derived.Test.YtiaidmjhgfaobaaDoorAlS
import Derived.OwnWalk
import Derived.Deep.QuietTactic
import Derived.BigQuiet
import Derived.Outline
namespace Go.Proofs.YtiaidmjhgfaobaaDoor
open Go.RowKit
set_option linter.unusedVariables false

theorem pairs_at15 {base : Nat} {w : World} {v : Value} (h : PairS base w v smL) : ∃ b off c, v = .slice (some ⟨b, off, none⟩) 15 c ∧ b < w.heap.size ∧ Lies w b off (pairs smL) := by
  rcases h with ⟨h0, -⟩ | ⟨b, off, c, e, -, l⟩
  · exact absurd h0 (by decide)
  · exact ⟨b, off, c, e, l.lt, l⟩
theorem sm_cell {w : World} {b off : Nat} (h : Lies w b off (pairs smL)) {i : Nat} (hi : i < 15) : w.cell? ⟨b, off + i * 2, none⟩ = some (.int .i64 (smL.getD i (0, 0)).1) ∧ w.cell? ⟨b, off + i * 2 + 1, none⟩ = some (.int .i64 (smL.getD i (0, 0)).2) := pairs_at h i hi
theorem raofN (i j : Nat) (hi : i < 15) (hj : j < 15) (w : World) :
    Calls Tryd.prog 44 #[.agg #[.int .i64 (smL.getD i (0, 0)).1, .int .i64 (smL.getD i (0, 0)).2], .agg #[.int .i64 (smL.getD j (0, 0)).1, .int .i64 (smL.getD j (0, 0)).2]] w fun e w' => e = .returned (.int .i64 (ofN i j)) ∧ Below w.heap.size w w' := by
  have a : 0 ≤ (smL.getD i (0, 0)).1 ∧ (smL.getD i (0, 0)).1 < (smL.getD i (0, 0)).2 ∧ (smL.getD i (0, 0)).2 ≤ 5 := sm_ok ⟨i, hi⟩
  have b : 0 ≤ (smL.getD j (0, 0)).1 ∧ (smL.getD j (0, 0)).1 < (smL.getD j (0, 0)).2 ∧ (smL.getD j (0, 0)).2 ≤ 5 := sm_ok ⟨j, hj⟩
  have q := (ofN_at hi hj).1
  have h := raof (smL.getD i (0, 0)).1 (smL.getD i (0, 0)).2 (smL.getD j (0, 0)).1 (smL.getD j (0, 0)).2 ⟨by omega, by omega⟩ ⟨by omega, by omega⟩ ⟨by omega, by omega⟩ ⟨by omega, by omega⟩ a.2.1 b.2.1 w
  rw [q] at h
  exact h
set_option maxRecDepth 100000 in
set_option maxHeartbeats 1000000 in
theorem racompose (s t : Int) (hs : I64 s) (ht : I64 t) (w : World) :
    Calls Tryd.prog 15 #[.int .i64 s, .int .i64 t] w fun e w' => e = .returned (.int .i64 (cmS s t)) ∧ Below w.heap.size w w' := by
  have HS := Lib.hid (fun w => raset s hs w)
  have HT := Lib.hid (fun w => raset t ht w)
  cases v : isS s
  · rw [show cmS s t = -1 by unfold cmS; rw [v]; rfl]
    rw [v] at HS
    go_enter Tryd.func15, Tryd.ntmps15
    go_wp2_with fail
    refine (HS.out _).mono ?_
    rintro e w1 ⟨rfl, rfl⟩
    go_wp2
    go_ret
    exact ⟨rfl, here _⟩
  cases v' : isS t
  · rw [show cmS s t = -1 by unfold cmS; rw [v, v']; rfl]
    rw [v] at HS
    rw [v'] at HT
    go_enter Tryd.func15, Tryd.ntmps15
    go_wp2_with fail
    refine (HS.out _).mono ?_
    rintro e w1 ⟨rfl, rfl⟩
    go_wp2_with fail
    refine (HT.out _).mono ?_
    rintro e w1 ⟨rfl, rfl⟩
    go_wp2
    go_ret
    exact ⟨rfl, here _⟩
  obtain ⟨v0, v1⟩ := isS_iff.1 v
  obtain ⟨A, rfl⟩ : ∃ A : Nat, s = A := ⟨s.toNat, by omega⟩
  obtain ⟨u0, u1⟩ := isS_iff.1 v'
  obtain ⟨B, rfl⟩ : ∃ B : Nat, t = B := ⟨t.toNat, by omega⟩
  have hA : A < 8192 := by omega
  have hB : B < 8192 := by omega
  rw [show cmS (A : Int) (B : Int) = (cmI A B 15 : Int) by unfold cmS; rw [v, v']; rfl]
  rw [v] at HS
  rw [v'] at HT
  have HH := Lib.hid (fun r (hr : r ≤ 12) w => rahas A r hA hr w)
  have HG := Lib.hid (fun r (hr : r ≤ 12) w => rahas B r hB hr w)
  have HO := Lib.hid (fun i j (hi : i < 15) (hj : j < 15) w => raofN i j hi hj w)
  have OB := Lib.hid (fun i j (hi : i < 15) (hj : j < 15) => (ofN_at hi hj).2)
  have SI : Hid (∀ i, cmI A B (i + 1) = cmJ A B i (cmI A B i) 15) := fun i => rfl
  have SJ : Hid (∀ i o j, cmJ A B i o (j + 1) = if A.testBit (ofN i j) then cmK B i j (cmJ A B i o j) 15 else cmJ A B i o j) := fun i o j => rfl
  have SK : Hid (∀ i j o k, cmK B i j o (k + 1) = if B.testBit (ofN j k) then cmK B i j o k ||| 2 ^ ofN i k else cmK B i j o k) := fun i j o k => rfl
  have Z : Hid (cmI A B 0 = 0 ∧ (∀ i o, cmJ A B i o 0 = o) ∧ ∀ i j o, cmK B i j o 0 = o) := ⟨rfl, fun _ _ => rfl, fun _ _ _ => rfl⟩
  have LI := Lib.hid (cmI_lt A B)
  have LJ := Lib.hid (fun i o ho hi => cmJ_lt A B i o ho hi)
  have LK := Lib.hid (fun i j o ho hi => cmK_lt B i j o ho hi)
  have HM := Lib.hid (fun w => rasmall w)
  clear v v' v0 v1 u0 u1 hs ht
  generalize cmI A B = CI at *
  generalize cmJ A B = CJ at *
  generalize cmK B = CK at *
  go_enter Tryd.func15, Tryd.ntmps15
  go_wp2_with fail
  refine (HS.out _).mono ?_
  rintro e w1 ⟨rfl, rfl⟩
  go_wp2_with fail
  refine (HT.out _).mono ?_
  rintro e w1 ⟨rfl, rfl⟩
  go_wp2_with fail
  refine (HM.out _).mono ?_
  rintro e w1 ⟨⟨v, rfl, PM⟩, hb⟩
  obtain ⟨b, off, cp, rfl, bl, LL⟩ := pairs_at15 PM
  have A1 := Lib.hid hb
  have L1 := Lib.hid LL
  clear hb PM LL bl HS HT HM
  go_wp2
  go_loopw [5, 7] (fun o i wr => ∃ x : Nat, x ≤ 15 ∧ o = .int .i64 (CI x) ∧ i = .int .i64 x ∧ Hid (Below w.heap.size w wr) ∧ Hid (Lies wr b off (pairs smL))) (fun _ i _ => 15 - (intOf i).toNat)
  case atStart => exact ⟨0, Nat.zero_le _, by rw [Z.out.1]; rfl, rfl, A1.out, L1.out⟩
  case round =>
    obtain ⟨x, hx, rfl, rfl, HA, HL⟩ := hrel
    clear A1 L1
    by_cases z : x < 15
    · have kz : decide ((x : Int) < 15) = true := decide_eq_true (by omega)
      have li := LI.out x hx
      have si := Lib.hid (SI.out x)
      have A1 := HA
      have L1 := HL
      clear SI LI HA HL
      obtain ⟨o0, ho0⟩ : ∃ o0, CI x = o0 := ⟨_, rfl⟩
      rw [ho0] at li si
      rw [ho0]
      have lj := Lib.hid (LJ.out x o0 li z)
      have sj := Lib.hid (SJ.out x o0)
      have zj : Hid (CJ x o0 0 = o0) := Z.out.2.1 x o0
      have zk := Lib.hid Z.out.2.2
      clear LJ SJ Z ho0
      generalize CJ x o0 = J at *
      go_wp2
      go_loopw [5, 8] (fun o i wr => ∃ y : Nat, y ≤ 15 ∧ o = .int .i64 (J y) ∧ i = .int .i64 y ∧ Hid (Below w.heap.size w wr) ∧ Hid (Lies wr b off (pairs smL))) (fun _ i _ => 15 - (intOf i).toNat)
      case atStart => exact ⟨0, Nat.zero_le _, by rw [zj.out], rfl, A1.out, L1.out⟩
      case round =>
        obtain ⟨y, hy, rfl, rfl, HA, HL⟩ := hrel
        clear A1 L1
        by_cases u : y < 15
        · have ku : decide ((y : Int) < 15) = true := decide_eq_true (by omega)
          have lj' := lj.out y hy
          have sj' := Lib.hid (sj.out y)
          have bl := HL.out.lt
          obtain ⟨xc0, xc1⟩ := sm_cell HL.out z
          obtain ⟨yc0, yc1⟩ := sm_cell HL.out u
          have ho := Lib.hid (fun w => HO.out x y z u w)
          have ob := OB.out x y z u
          have hh := Lib.hid (fun w => HH.out (ofN x y) ob w)
          have lk := Lib.hid (LK.out x y (J y) lj' z)
          have sk := Lib.hid (SK.out x y (J y))
          have zk' : Hid (CK x y (J y) 0 = J y) := zk.out x y (J y)
          have k0 : ∀ q : Kept wr, q.wd.cell? ⟨b, off + x * 2, none⟩ = some (.int .i64 (smL.getD x (0, 0)).1) := fun q => by rw [q.ok.cell (p := ⟨b, off + x * 2, none⟩) bl]; exact xc0
          have k1 : ∀ q : Kept wr, q.wd.cell? ⟨b, off + x * 2 + 1, none⟩ = some (.int .i64 (smL.getD x (0, 0)).2) := fun q => by rw [q.ok.cell (p := ⟨b, off + x * 2 + 1, none⟩) bl]; exact xc1
          have k2 : ∀ q : Kept wr, q.wd.cell? ⟨b, off + y * 2, none⟩ = some (.int .i64 (smL.getD y (0, 0)).1) := fun q => by rw [q.ok.cell (p := ⟨b, off + y * 2, none⟩) bl]; exact yc0
          have k3 : ∀ q : Kept wr, q.wd.cell? ⟨b, off + y * 2 + 1, none⟩ = some (.int .i64 (smL.getD y (0, 0)).2) := fun q => by rw [q.ok.cell (p := ⟨b, off + y * 2 + 1, none⟩) bl]; exact yc1
          clear xc0 xc1 yc0 yc1
          have ob2 := Lib.hid (fun k (hk : k < 15) => OB.out x k z hk)
          have ob3 := Lib.hid (fun k (hk : k < 15) => OB.out y k u hk)
          have ho2 := Lib.hid (fun k (hk : k < 15) w => HO.out x k z hk w)
          have ho3 := Lib.hid (fun k (hk : k < 15) w => HO.out y k u hk w)
          obtain ⟨o1, ho1⟩ : ∃ o1, J y = o1 := ⟨_, rfl⟩
          rw [ho1] at lj' sj' lk sk zk'
          rw [ho1]
          clear SK zk LK ho1
          cases tb : A.testBit (ofN x y)
          · rw [tb] at hh
            have sn : Hid (J (y + 1) = o1) := by show _ = _; rw [sj'.out, tb]; rfl
            clear tb sk zk' lk sj sj' ob2 ob3 ho2 ho3
            generalize (smL.getD x (0, 0)).1 = x1 at *
            generalize (smL.getD x (0, 0)).2 = x2 at *
            generalize (smL.getD y (0, 0)).1 = y1 at *
            generalize (smL.getD y (0, 0)).2 = y2 at *
            generalize ofN x y = r at *
            go_wp2
            refine wp_region_kept (by kernel_rfl) (by kernel_rfl) ?_
            repeat (go_big_quiet_step ((first | (go_at_call 44; with_reducible exact kept_call _ (ho.out _)) | (go_at_call 43; with_reducible exact kept_same _ (hh.out _)))))
            refine wpQuiet_nil ?_
            intro w5 hy
            obtain ⟨⟨y5, hb⟩, hw⟩ := hy
            replace hw : w5 = y5 := hw
            subst y5
            have A5 := Lib.hid (down HA.out hb)
            have L5 := Lib.hid (HL.out.keep hb)
            clear hb HA HL k0 k1 k2 k3 bl ho hh
            go_wp2
            go_roundw
            case rel => exact ⟨y + 1, by omega, by rw [sn.out], by go_num, A5, L5⟩
            case measure => simp [intOf]; omega
          · rw [tb] at hh
            have sn : Hid (J (y + 1) = CK x y o1 15) := by show _ = _; rw [sj'.out, tb]; rfl
            clear tb sj sj'
            generalize hx1 : (smL.getD x (0, 0)).1 = x1 at *
            replace hx1 := Lib.hid hx1
            generalize hx2 : (smL.getD x (0, 0)).2 = x2 at *
            replace hx2 := Lib.hid hx2
            generalize hy1 : (smL.getD y (0, 0)).1 = y1 at *
            replace hy1 := Lib.hid hy1
            generalize hy2 : (smL.getD y (0, 0)).2 = y2 at *
            replace hy2 := Lib.hid hy2
            generalize ofN x y = r at *
            go_wp2
            refine wp_region_kept (by kernel_rfl) (by kernel_rfl) ?_
            repeat (go_big_quiet_step ((first | (go_at_call 44; with_reducible exact kept_call _ (ho.out _)) | (go_at_call 43; with_reducible exact kept_same _ (hh.out _)))))
            refine wpQuiet_nil ?_
            intro w5 hy
            obtain ⟨⟨y5, hb⟩, hw⟩ := hy
            replace hw : w5 = y5 := hw
            subst y5
            have A5 := Lib.hid (down HA.out hb)
            have L5 := Lib.hid (HL.out.keep hb)
            clear hb HA HL k0 k1 k2 k3 bl ho hh
            generalize CK x y o1 = K at *
            go_wp2
            go_loopw [5, 9] (fun o i wr => ∃ k : Nat, k ≤ 15 ∧ o = .int .i64 (K k) ∧ i = .int .i64 k ∧ Hid (Below w.heap.size w wr) ∧ Hid (Lies wr b off (pairs smL))) (fun _ i _ => 15 - (intOf i).toNat)
            case atStart => exact ⟨0, Nat.zero_le _, by rw [zk'.out], rfl, A5.out, L5.out⟩
            case round =>
              obtain ⟨k, hk, rfl, rfl, HA, HL⟩ := hrel
              clear A5 L5
              by_cases v : k < 15
              · have kv : decide ((k : Int) < 15) = true := decide_eq_true (by omega)
                have bl := HL.out.lt
                obtain ⟨xc0, xc1⟩ := sm_cell HL.out z
                rw [hx1.out] at xc0
                rw [hx2.out] at xc1
                obtain ⟨yc0, yc1⟩ := sm_cell HL.out u
                rw [hy1.out] at yc0
                rw [hy2.out] at yc1
                obtain ⟨kc0, kc1⟩ := sm_cell HL.out v
                have b2 := ob2.out k v
                have b3 := ob3.out k v
                have h2 := Lib.hid (ho2.out k v)
                have h3 := Lib.hid (ho3.out k v)
                have hg := Lib.hid (fun w => HG.out (ofN y k) b3 w)
                have st := Lib.hid (sk.out k)
                have lo := lk.out k hk
                clear HO OB HH HG ob2 ob3 ho2 ho3 sk lk lj sn
                generalize (smL.getD k (0, 0)).1 = t1 at *
                generalize (smL.getD k (0, 0)).2 = t2 at *
                have k0 : ∀ q : Kept wr, q.wd.cell? ⟨b, off + k * 2, none⟩ = some (.int .i64 t1) := fun q => by rw [q.ok.cell (p := ⟨b, off + k * 2, none⟩) bl]; exact kc0
                have k1 : ∀ q : Kept wr, q.wd.cell? ⟨b, off + k * 2 + 1, none⟩ = some (.int .i64 t2) := fun q => by rw [q.ok.cell (p := ⟨b, off + k * 2 + 1, none⟩) bl]; exact kc1
                have k2 : ∀ q : Kept wr, q.wd.cell? ⟨b, off + y * 2, none⟩ = some (.int .i64 y1) := fun q => by rw [q.ok.cell (p := ⟨b, off + y * 2, none⟩) bl]; exact yc0
                have k3 : ∀ q : Kept wr, q.wd.cell? ⟨b, off + y * 2 + 1, none⟩ = some (.int .i64 y2) := fun q => by rw [q.ok.cell (p := ⟨b, off + y * 2 + 1, none⟩) bl]; exact yc1
                generalize ofN y k = r3 at *
                generalize ofN x k = r2 at *
                cases tb : B.testBit r3
                · rw [tb] at hg st
                  clear tb xc0 xc1 yc0 yc1 kc0 kc1
                  go_wp2
                  refine wp_region_kept (by kernel_rfl) (by kernel_rfl) ?_
                  repeat (go_big_quiet_step ((first | (go_at_call 44; with_reducible exact kept_call _ (h3.out _)) | (go_at_call 43; with_reducible exact kept_same _ (hg.out _)))))
                  refine wpQuiet_nil ?_
                  intro w6 hy
                  obtain ⟨⟨y6, hb⟩, hw⟩ := hy
                  replace hw : w6 = y6 := hw
                  subst y6
                  have A6 := Lib.hid (down HA.out hb)
                  have L6 := Lib.hid (HL.out.keep hb)
                  clear hb HA HL k0 k1 k2 k3 bl h2 h3 hg
                  go_wp2
                  go_roundw
                  case rel => exact ⟨k + 1, by omega, by rw [st.out]; rfl, by go_num, A6, L6⟩
                  case measure => simp [intOf]; omega
                · rw [tb] at hg st
                  have ko : ∀ q : Kept wr, q.wd.cell? ⟨b, off + x * 2, none⟩ = some (.int .i64 x1) := fun q => by rw [q.ok.cell (p := ⟨b, off + x * 2, none⟩) bl]; exact xc0
                  have kp : ∀ q : Kept wr, q.wd.cell? ⟨b, off + x * 2 + 1, none⟩ = some (.int .i64 x2) := fun q => by rw [q.ok.cell (p := ⟨b, off + x * 2 + 1, none⟩) bl]; exact xc1
                  have pw := pow_lt b2
                  have e1 := al_pow b2
                  have e2 := or_i64 (K k) (2 ^ r2) (by omega) (by omega)
                  obtain ⟨m, hm⟩ : ∃ m : Nat, 2 ^ r2 = m := ⟨_, rfl⟩
                  rw [hm] at pw e1 e2 st
                  clear tb xc0 xc1 yc0 yc1 kc0 kc1 hm
                  go_wp2
                  refine wp_region_kept (by kernel_rfl) (by kernel_rfl) ?_
                  repeat (go_big_quiet_step ((first | (go_at_call 44; with_reducible exact kept_call _ (h3.out _)) | (go_at_call 43; with_reducible exact kept_same _ (hg.out _)))))
                  refine wpQuiet_nil ?_
                  intro w6 hy
                  obtain ⟨⟨y6, hb⟩, hw⟩ := hy
                  replace hw : w6 = y6 := hw
                  subst y6
                  have A6 := Lib.hid (down HA.out hb)
                  have L6 := Lib.hid (HL.out.keep hb)
                  have j0 : ∀ q : Kept w6, q.wd.cell? ⟨b, off + k * 2, none⟩ = some (.int .i64 t1) := fun q => k0 ⟨q.wd, down hb q.ok⟩
                  have j1 : ∀ q : Kept w6, q.wd.cell? ⟨b, off + k * 2 + 1, none⟩ = some (.int .i64 t2) := fun q => k1 ⟨q.wd, down hb q.ok⟩
                  have j2 : ∀ q : Kept w6, q.wd.cell? ⟨b, off + x * 2, none⟩ = some (.int .i64 x1) := fun q => ko ⟨q.wd, down hb q.ok⟩
                  have j3 : ∀ q : Kept w6, q.wd.cell? ⟨b, off + x * 2 + 1, none⟩ = some (.int .i64 x2) := fun q => kp ⟨q.wd, down hb q.ok⟩
                  clear hb HA HL k0 k1 k2 k3 ko kp bl h3 hg
                  go_wp2
                  refine wp_region_kept (by kernel_rfl) (by kernel_rfl) ?_
                  repeat (go_big_quiet_step ((go_at_call 44; with_reducible exact kept_call _ (h2.out _))))
                  refine wpQuiet_nil ?_
                  intro w7 hy
                  obtain ⟨⟨y7, hb⟩, hw⟩ := hy
                  replace hw : w7 = y7 := hw
                  subst y7
                  have A7 := Lib.hid (down A6.out hb)
                  have L7 := Lib.hid (L6.out.keep hb)
                  clear hb A6 L6 j0 j1 j2 j3 h2
                  go_wp2
                  go_roundw
                  case rel => exact ⟨k + 1, by omega, by rw [st.out]; rfl, by go_num, A7, L7⟩
                  case measure => simp [intOf]; omega
              · have kv : decide ((k : Int) < 15) = false := decide_eq_false (by omega)
                obtain rfl : k = 15 := by omega
                clear sk lk ob2 ob3 ho2 ho3 zk'
                go_wp2
                go_roundw
                case rel => exact ⟨y + 1, by omega, by rw [sn.out], by go_num, HA, HL⟩
                case measure => simp [intOf]; omega
        · have ku : decide ((y : Int) < 15) = false := decide_eq_false (by omega)
          obtain rfl : y = 15 := by omega
          clear lj sj zj zk SK LK
          go_wp2
          go_roundw
          case rel => exact ⟨x + 1, by omega, by rw [si.out], by go_num, HA, HL⟩
          case measure => simp [intOf]; omega
    · have kz : decide ((x : Int) < 15) = false := decide_eq_false (by omega)
      obtain rfl : x = 15 := by omega
      clear SI SJ SK Z LI LJ LK
      go_wp2
      go_ret
      exact ⟨rfl, HA.out⟩
end Go.Proofs.YtiaidmjhgfaobaaDoor
