/- Contracts of civiltimeref07: Day, at. -/
import Derived.Test.YtpkkhkkanpcniaaHeF
namespace Go.Proofs.Ytpkkhkkanpcniaa
open Go.RowKit
set_option linter.unusedVariables false

def hins (n : Int) : Bool := decide (-719162 ≤ n ∧ n < 2932897)
theorem hins_iff {n : Int} : hins n = true ↔ -719162 ≤ n ∧ n < 2932897 := by unfold hins; exact decide_eq_true_iff
def hok (y m d : Int) : Bool := hvld y m d && hins (hday y m d)
def hdN (y m d : Int) : Int := if hok y m d then hday y m d else 0
def hdE (y m d : Int) : Int := if hok y m d then 0 else 2
theorem hday_bd {y m d : Int} (h : hvld y m d = true) : -2092590 ≤ hday y m d ∧ hday y m d < 5212335 := by
  have a := hday_in h
  have b := hvld_bd h
  have c := hN_bd (y := y) b.2.1 (by omega)
  have e := hN_bd (y := y + 1) (by omega) (by omega)
  omega
set_option maxHeartbeats 1000000 in
theorem rhday (y m d : Int) (hy : I64 y) (hm : I64 m) (hd : I64 d) (w : World) :
    Calls Try.prog 31 #[.agg #[.int .i64 y, .int .i64 m, .int .i64 d]] w fun e w' => e = .returned (.tuple #[.int .i64 (hdN y m d), .int .i64 (hdE y m d)]) ∧ Below w.heap.size w w' := by
  have HV := fun w => rhvld y m d hy hm hd w
  unfold hdN hdE hok
  cases h : hvld y m d
  · rw [h] at HV
    replace HV := Lib.hid HV
    simp only [Bool.false_and, Bool.false_eq_true, if_false]
    clear h
    go_enter Try.func31, Try.ntmps31
    go_wp2_with fail
    refine (HV.out _).mono ?_
    rintro e w1 ⟨rfl, hb⟩
    have A1 := Lib.hid (down (grow (here w) _) hb)
    clear hb
    go_wp2
    go_ret2
    exact ⟨rfl, A1.out⟩
  · obtain ⟨hyt, y0, y1, m0, m1, m13, d0, d30⟩ := hvld_bd h
    have db := hday_bd h
    have HF := Lib.hid (fun w => rhfirst y m hyt m0 m1 w)
    rw [h] at HV
    replace HV := Lib.hid HV
    have HI := fun w => rhin (hday y m d) ⟨by omega, by omega⟩ w
    have hdef : hday y m d = hfst y m + d - 1 := rfl
    rw [hdef] at HI db ⊢
    have HQ : hins (hfst y m + d - 1) = decide (-719162 ≤ hfst y m + d - 1 ∧ hfst y m + d - 1 < 2932897) := rfl
    rw [← HQ] at HI
    clear HQ hdef
    simp only [Bool.true_and]
    obtain ⟨n, hn⟩ : ∃ n, hfst y m + d - 1 = n := ⟨_, rfl⟩
    rw [hn] at HI db ⊢
    have fb : -3000000 ≤ hfst y m ∧ hfst y m ≤ 6000000 := by omega
    obtain ⟨fb0, fb1⟩ := fb
    obtain ⟨db0, db1⟩ := db
    generalize hfst y m = f at *
    clear h hyt m1
    cases q : hins n
    all_goals
      rw [q] at HI
      replace HI := Lib.hid HI
      simp only [Bool.false_eq_true, if_false, if_true]
      clear q
      go_enter Try.func31, Try.ntmps31
      go_wp2_with fail
      refine (HV.out _).mono ?_
      rintro e w1 ⟨rfl, hb⟩
      have A1 := Lib.hid (down (grow (here w) _) hb)
      have B1 := Lib.hid (Box.new hb)
      clear hb
      have k0 : ∀ x : Kept w1, x.wd.cell? ⟨w.heap.size, 0, none⟩ = some (.int .i64 y) := fun x => (B1.out.keep x.ok).c0
      have k1 : ∀ x : Kept w1, x.wd.cell? ⟨w.heap.size, 1, none⟩ = some (.int .i64 m) := fun x => (B1.out.keep x.ok).c1
      have k2 : ∀ x : Kept w1, x.wd.cell? ⟨w.heap.size, 2, none⟩ = some (.int .i64 d) := fun x => (B1.out.keep x.ok).c2
      go_wp2
      refine wp_region_kept (by kernel_rfl) (by kernel_rfl) ?_
      repeat (go_big_quiet_step ((go_at_call 53; exact kept_call _ (HF.out _))))
      refine wpQuiet_nil ?_
      intro w2 hx
      obtain ⟨⟨xx, hb⟩, hw⟩ := hx
      replace hw : w2 = xx := hw
      subst xx
      go_wp2_with fail
      refine (HI.out _).mono ?_
      rintro e w3 ⟨rfl, rfl⟩
      go_wp2
      go_ret2
      exact ⟨rfl, down A1.out hb⟩
set_option maxHeartbeats 4000000 in
set_option maxRecDepth 100000 in
theorem rhat (n Y M D : Int) (h : hvld Y M D = true) (hn : hday Y M D = n) (w : World) :
    Calls Try.prog 56 #[.int .i64 n] w fun e w' => e = .returned (.agg #[.int .i64 Y, .int .i64 M, .int .i64 D]) ∧ Below w.heap.size w w' := by
  obtain ⟨hyt, Y0, Y1, M0, M1, M13, D0, D30⟩ := hvld_bd h
  have db := hday_bd h
  have di := hday_in h
  have v := hvld_iff.1 h
  have HN := Lib.hid (fun y (y0 : 1 ≤ y) (y1 : y ≤ 20010) w => rhN y (by omega) (by omega) w)
  have HB : Hid (∀ y : Int, 1 ≤ y → y ≤ 20010 → -2110000 ≤ hN y ∧ hN y ≤ 40000000) := fun y y0 y1 => hN_any (by omega) (by omega)
  have HLE : Hid (∀ y : Int, Y + 1 ≤ y → n < hN y) := fun y hy => by
    have := hN_le (y := Y + 1) (z := y) hy
    rw [hn] at di; omega
  have HGE : Hid (∀ y : Int, y ≤ Y → hN y ≤ n) := fun y hy => by
    have := hN_le (y := y) (z := Y) hy
    rw [hn] at di; omega
  have HO := fun w => rhord Y hyt w
  have HL := Lib.hid (fun m (m0 : 1 ≤ m) (m1 : m ≤ 13) w => rhlen Y m ⟨by omega, by omega⟩ ⟨by omega, by omega⟩ w)
  have cn13 : hcn (hlp Y) ≤ 13 := by cases hlp Y <;> decide
  have M1' := M1
  rw [hmn_cn hyt] at M1'
  obtain ⟨p0, p1⟩ := hpos_at M0 M1'
  have fa := hord_facts hyt
  have sb : ∀ i : Nat, i ≤ hcn (hlp Y) → 0 ≤ hS (hlp Y) (hyl Y) i ∧ hS (hlp Y) (hyl Y) i ≤ 400 := fun i hi => hS_bd hi
  have sm : ∀ i : Nat, i + 1 ≤ hpos (hlp Y) M → hS (hlp Y) (hyl Y) (i + 1) ≤ hS (hlp Y) (hyl Y) (hpos (hlp Y) M) := fun i hi => by
    have := hS_le (b := hlp Y) (l := hyl Y) hi (Nat.le_of_lt p0); omega
  have s0 := hS_zero (hlp Y) (hyl Y)
  have ln := hord_len (hlp Y)
  rw [hn] at db di
  have eD : n - hN Y = hS (hlp Y) (hyl Y) (hpos (hlp Y) M) + D - 1 := by rw [← hn]; unfold hday hfst; omega
  clear hn
  generalize hS (hlp Y) (hyl Y) = G at *
  generalize hpos (hlp Y) M = P at *
  generalize hcn (hlp Y) = c at *
  generalize hord (hlp Y) = zs at *
  have HT : Hid (∀ i : Nat, i < c → 1 ≤ zs.getD i 0 ∧ zs.getD i 0 ≤ 13 ∧ G (i + 1) = G i + hlenM Y (zs.getD i 0) ∧ 0 ≤ hlenM Y (zs.getD i 0) ∧ hlenM Y (zs.getD i 0) ≤ 30) := fun i hi => ⟨(fa i hi).1, (fa i hi).2.1, (fa i hi).2.2.2.1, (fa i hi).2.2.2.2.1, (fa i hi).2.2.2.2.2⟩
  have SB := Lib.hid sb
  have SM := Lib.hid sm
  have LN : Hid (zs.length = c) := ln
  have P1 : Hid (zs.getD P 0 = M) := p1
  have S0 := Lib.hid s0
  have ED := Lib.hid eD
  have V1 := Lib.hid v
  replace HO := Lib.hid HO
  have PB := Lib.hid (sb P (by omega))
  obtain ⟨db0, db1⟩ := db
  have HF := fun w => rhfloor (n - -2092590) 366 ⟨by omega, by omega⟩ (by omega) (by omega) w
  obtain ⟨q, hq⟩ : ∃ q, (n - -2092590) / 366 = q := ⟨_, rfl⟩
  have qb : 0 ≤ q ∧ q ≤ 19960 := by omega
  rw [hq] at HF
  replace HF := Lib.hid HF
  obtain ⟨a0, ha0⟩ : ∃ a0, (if 1 < q then q else 1) = a0 := ⟨_, rfl⟩
  have ab : 1 ≤ a0 ∧ a0 ≤ 19960 := by split at ha0 <;> omega
  obtain ⟨ab0, ab1⟩ := ab
  obtain ⟨qb0, qb1⟩ := qb
  clear fa sb sm s0 ln p1 M1 M1' h hq di v eD hyt
  obtain ⟨R, hR⟩ : ∃ R : World, w.alloc (.cells #[.int .i64 0, .int .i64 0, .int .i64 0] 35) = R := ⟨_, rfl⟩
  have AR : Hid (Below w.heap.size w R) := by rw [← hR]; exact grow (here w) _
  have BR : Hid (Box R w.heap.size (.int .i64 0) (.int .i64 0) (.int .i64 0)) := by rw [← hR]; exact Box.new (here _)
  have FR : Hid (Free R w.heap.size) := by rw [← hR]; exact Free.new (here _)
  go_enter Try.func56, Try.ntmps56
  go_wp2_with fail
  refine (HF.out _).mono ?_
  rintro e w1 ⟨rfl, rfl⟩
  go_wp2
  clear HF hR ha0
  go_loop [3] (fun a => ∃ y : Int, 1 ≤ y ∧ y ≤ 20001 ∧ a = .int .i64 y) (fun a => (intOf a).toNat)
  case atStart => exact ⟨a0, ab0, by omega, rfl⟩
  case round =>
    obtain ⟨y, y0, y1, rfl⟩ := hrel
    have HNy := Lib.hid (fun w => HN.out y y0 (by omega) w)
    have nb := HB.out y y0 (by omega)
    obtain ⟨nb0, nb1⟩ := nb
    have alt : decide (1 < y) = true ∧ decide (n < hN y) = true ∧ 1 < y ∨ y ≤ Y ∧ (decide (1 < y) = false ∨ decide (1 < y) = true ∧ decide (n < hN y) = false) := by
      by_cases z : 1 < y
      · by_cases z' : n < hN y
        · exact .inl ⟨decide_eq_true z, decide_eq_true z', z⟩
        · right
          refine ⟨?_, .inr ⟨decide_eq_true z, decide_eq_false z'⟩⟩
          rcases Int.lt_or_le Y y with u | u
          · exact absurd (HLE.out y u) z'
          · exact u
      · exact .inr ⟨by omega, .inl (decide_eq_false z)⟩
    rcases alt with ⟨c1, c2, z⟩ | ⟨yY, c1 | ⟨c1, c2⟩⟩
    · clear HN HB HLE HGE HT SB SM LN P1 S0 ED V1 HO PB HL
      generalize hN y = x at *
      go_wp2_with fail
      refine (HNy.out _).mono ?_
      rintro e w2 ⟨rfl, rfl⟩
      go_wp2
      go_round
      case rel => exact ⟨y - 1, by omega, by omega, rfl⟩
      case measure => simp [intOf]; omega
    all_goals
      generalize hN y = x at *
      first
        | (go_wp2_with fail
           refine (HNy.out _).mono ?_
           rintro e w2 ⟨rfl, rfl⟩
           go_wp2)
        | go_wp2
      clear HNy
      try clear c2
      clear c1 nb0 nb1
      try clear x
      go_loop [3] (fun a => ∃ y : Int, 1 ≤ y ∧ y ≤ Y ∧ a = .int .i64 y) (fun a => (Y - intOf a).toNat)
      case atStart => exact ⟨y, y0, yY, rfl⟩
      case round =>
        obtain ⟨u, u0, u1, rfl⟩ := hrel
        have HNu := Lib.hid (fun w => HN.out (u + 1) (by omega) (by omega) w)
        have nu := HB.out (u + 1) (by omega) (by omega)
        obtain ⟨nu0, nu1⟩ := nu
        by_cases z : u < Y
        · have c3 : decide (hN (u + 1) ≤ n) = true := decide_eq_true (HGE.out (u + 1) (by omega))
          clear HN HB HLE HGE HT SB SM LN P1 S0 ED V1 HO PB HL
          generalize hN (u + 1) = x at *
          go_wp2_with fail
          refine (HNu.out _).mono ?_
          rintro e w2 ⟨rfl, rfl⟩
          go_wp2
          go_round
          case rel => exact ⟨u + 1, by omega, by omega, rfl⟩
          case measure => simp [intOf]; omega
        · obtain rfl : u = Y := by omega
          have c3 : decide (hN (u + 1) ≤ n) = false := decide_eq_false (by have := HLE.out (u + 1) (by omega); omega)
          have HNY := Lib.hid (fun w => HN.out u (by omega) (by omega) w)
          have nY := HB.out u (by omega) (by omega)
          obtain ⟨nY0, nY1⟩ := nY
          clear HN HB HLE HGE
          generalize hN (u + 1) = x at *
          generalize hN u = B at *
          go_wp2_with fail
          refine (HNu.out _).mono ?_
          rintro e w2 ⟨rfl, rfl⟩
          clear HNu
          go_wp2_with fail
          refine (HO.out _).mono ?_
          rintro e w1 ⟨⟨vv, rfl, hI⟩, hb⟩
          rcases hI with ⟨hz, -⟩ | ⟨b, off, cp, rfl, -, lies⟩
          · exact absurd hz (by have := LN.out; omega)
          rw [LN.out]
          have C1 := Lib.hid (fun j (hj : j < c) => ints_at lies j (by have := LN.out; omega))
          have A1 := Lib.hid hb
          clear lies hb HO c3 nu0 nu1
          go_wp2_with fail
          refine (HNY.out _).mono ?_
          rintro e w2 ⟨rfl, rfl⟩
          clear HNY
          have rb := PB.out
          have eN := ED.out
          have vb := V1.out
          obtain ⟨N, hN⟩ : ∃ N, n - B = N := ⟨_, rfl⟩
          have Nb : 0 ≤ N ∧ N ≤ 500 := by omega
          obtain ⟨Nb0, Nb1⟩ := Nb
          have EN : Hid (N = G P + D - 1) := by show N = _; omega
          clear rb eN vb ED
          go_wp2
          clear hN
          go_loop [5, 6] (fun a b => ∃ i : Nat, i ≤ P ∧ a = .int .i64 (N - G i) ∧ b = .int .i64 i) (fun _ b => (100 - intOf b).toNat)
          case atStart => exact ⟨0, Nat.zero_le _, by rw [S0.out, Int.sub_zero], rfl⟩
          case round =>
            obtain ⟨i, hi, rfl, rfl⟩ := hrel
            have kz : decide ((i : Int) < (c : Int)) = true := decide_eq_true (by omega)
            have d1 := C1.out i (by omega)
            have bi := SB.out i (by omega)
            obtain ⟨bi0, bi1⟩ := bi
            have t := HT.out i (by omega)
            have HLx := Lib.hid (fun w => HL.out (zs.getD i 0) t.1 t.2.1 w)
            by_cases z2 : i < P
            · have c4 : decide (N - G i < hlenM u (zs.getD i 0)) = false := decide_eq_false (by have := SM.out i z2; have := EN.out; have := V1.out; omega)
              obtain ⟨t0, t1, t2, t3, t4⟩ := t
              replace t2 := Lib.hid t2
              clear HL C1 HT SB SM LN P1 S0 EN V1 PB
              generalize hlenM u (zs.getD i 0) = l at *
              generalize zs.getD i 0 = xx at *
              go_wp2_with fail
              refine (HLx.out _).mono ?_
              rintro e w2 ⟨rfl, rfl⟩
              go_wp2
              go_round
              case rel => exact ⟨i + 1, z2, by rw [t2.out]; congr 1; omega, by go_num⟩
              case measure => simp [intOf]; omega
            · obtain rfl : i = P := by omega
              have c4 : decide (N - G i < hlenM u (zs.getD i 0)) = true := decide_eq_true (by rw [P1.out]; have := EN.out; have := V1.out; omega)
              have e1 : Hid (N - G i + 1 = D) := by show _ = _; have := EN.out; omega
              obtain ⟨t0, t1, t2, t3, t4⟩ := t
              have PM := P1
              clear HL C1 HT SB SM LN P1 S0 EN V1 PB t2
              generalize hlenM u (zs.getD i 0) = l at *
              generalize zs.getD i 0 = xx at *
              have PM' : xx = M := PM.out
              clear PM
              subst PM'
              go_wp2_with fail
              refine (HLx.out _).mono ?_
              rintro e w2 ⟨rfl, rfl⟩
              have B4 := Lib.hid (BR.out.keep A1.out)
              have F4 := Lib.hid (FR.out.keep BR.out.lt A1.out)
              have Z4 := Lib.hid (down AR.out A1.out)
              obtain ⟨b0, b1, b2, bz⟩ := B4.out
              obtain ⟨f0, f1, f2⟩ := F4.out
              obtain ⟨S, hS⟩ : ∃ S, N - G i + 1 = S := ⟨_, rfl⟩
              rw [hS] at e1
              have e1' : S = D := e1.out
              clear e1
              subst e1'
              go_wp2
              obtain ⟨w9, hw9⟩ : ∃ w9 : World, (((w1.setCell ⟨w.heap.size, 0, none⟩ (.int .i64 u)).setCell ⟨w.heap.size, 1, none⟩ (.int .i64 xx)).setCell ⟨w.heap.size, 2, none⟩ (.int .i64 S)) = w9 := ⟨_, rfl⟩
              have B9 : Box w9 w.heap.size (.int .i64 u) (.int .i64 xx) (.int .i64 S) := by rw [← hw9]; exact ((B4.out.put0 _).put1 _).put2 _
              have A9 : Below w.heap.size w w9 := by rw [← hw9]; exact ((Z4.out.setCell (Nat.le_refl _) _).setCell (Nat.le_refl _) _).setCell (Nat.le_refl _) _
              obtain ⟨e0, e1, e2, -⟩ := B9
              rw [hw9]
              exact bodyPost_ret (v := .agg #[.int .i64 u, .int .i64 xx, .int .i64 S]) (by simp [results, Try.results56, go_sem, e0, e1, e2]) rfl ⟨rfl, A9⟩
end Go.Proofs.Ytpkkhkkanpcniaa
