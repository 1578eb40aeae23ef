/- Contracts of civiltimeref06: New, Day, Date, whole. -/
import Derived.Test.YtobipbmigpkhmaaDoorIsR
namespace Go.Proofs.YtobipbmigpkhmaaDoor
open Go.RowKit
set_option linter.unusedVariables false

/-- New: the day and the error number. -/
def inewN (k y : Int) : Int := if ikd k = true ∧ 1 ≤ y ∧ y ≤ 9601 then ifirst k y else 0
def inewE (k y : Int) : Int := if ikd k = false then 1 else if 1 ≤ y ∧ y ≤ 9601 then 0 else 2
theorem inew_kind {k y : Int} (h : ikd k = false) : inewN k y = 0 ∧ inewE k y = 1 := by
  unfold inewN inewE; rw [if_neg (fun q => by rw [h] at q; exact absurd q.1 (by simp)), if_pos h]; exact ⟨rfl, rfl⟩
theorem inew_out {k y : Int} (h : ikd k = true) (q : y < 1 ∨ 9601 < y) : inewN k y = 0 ∧ inewE k y = 2 := by
  unfold inewN inewE; rw [if_neg (by omega), if_neg (by rw [h]; simp), if_neg (by omega)]; exact ⟨rfl, rfl⟩
theorem inew_in {k y : Int} (h : ikd k = true) (y0 : 1 ≤ y) (y1 : y ≤ 9601) : inewN k y = ifirst k y ∧ inewE k y = 0 := by
  unfold inewN inewE; rw [if_pos ⟨h, y0, y1⟩, if_neg (by rw [h]; simp), if_pos ⟨y0, y1⟩]; exact ⟨rfl, rfl⟩
theorem rinew (k y : Int) (hk : I64 k) (hy : I64 y) (w : World) :
    Calls Tryd.prog 22 #[.int .i64 k, .int .i64 y] w fun e w' => e = .returned (.tuple #[.int .i64 (inewN k y), .int .i64 (inewE k y)]) ∧ Below w.heap.size w w' := by
  cases h : ikd k
  · rw [(inew_kind h).1, (inew_kind h).2]; exact rinew_kind k y hk hy h w
  · by_cases q : y < 1 ∨ 9601 < y
    · rw [(inew_out h q).1, (inew_out h q).2]; exact rinew_range k y hk hy h q w
    · rw [(inew_in h (by omega) (by omega)).1, (inew_in h (by omega) (by omega)).2]; exact rinew_yes k y h (by omega) (by omega) w
theorem riday_no (k y m d : Int) (hk : I64 k) (hy : I64 y) (hm : I64 m) (hd : I64 d) (h : ivld k y m d = false) (w : World) :
    Calls Tryd.prog 24 #[.int .i64 k, .agg #[.int .i64 y, .int .i64 m, .int .i64 d]] w fun e w' => e = .returned (.tuple #[.int .i64 0, .int .i64 1]) ∧ Below w.heap.size w w' := by
  have HV := fun w => rivd k y m d hk hy hm hd w
  rw [h] at HV
  replace HV := Lib.hid HV
  go_enter Tryd.func24, Tryd.ntmps24
  go_wp2_with fail
  refine (HV.out _).mono ?_
  rintro e w1 ⟨rfl, hb⟩
  have A1 := Lib.hid (down (grow (here w) _) hb)
  clear hb
  go_wp2
  go_ret2
  exact ⟨rfl, A1.out⟩
set_option maxHeartbeats 400000 in
theorem riday_yes (k y m d : Int) (h : ivld k y m d = true) (w : World) :
    Calls Tryd.prog 24 #[.int .i64 k, .agg #[.int .i64 y, .int .i64 m, .int .i64 d]] w fun e w' => e = .returned (.tuple #[.int .i64 (idayN k y m d), .int .i64 0]) ∧ Below w.heap.size w w' := by
  obtain ⟨k0, k1, y0, y1, m0, m1, d0, d1⟩ := ivld_bd h
  have hr := ivld_yr h
  have HV := fun w => rivd k y m d ⟨by omega, by omega⟩ ⟨by omega, by omega⟩ ⟨by omega, by omega⟩ ⟨by omega, by omega⟩ w
  rw [h] at HV
  replace HV := Lib.hid HV
  have HN := Lib.hid (fun w => rinew_yes k y (ikd_iff.2 ⟨k0, k1⟩) y0 (by omega) w)
  have fb := ifirst_bd k0 k1 y0 (show y ≤ 9601 by omega)
  have HL := Lib.hid (fun x (x0 : 1 ≤ x) (x1 : x ≤ 12) w => rilen k y x ⟨by omega, by omega⟩ ⟨by omega, by omega⟩ ⟨by omega, by omega⟩ w)
  have HJ : Hid (∀ x : Int, 1 ≤ x → x ≤ 12 → icumL k y (x + 1) = icumL k y x + ilenM k y x ∧ 0 ≤ icumL k y (x + 1) ∧ icumL k y (x + 1) ≤ 355 ∧ 0 ≤ ilenM k y x ∧ ilenM k y x ≤ 30) := fun x x0 x1 => by
    have a := icumL_succ hr x0 x1
    have b := icumL_bd hr (show 1 ≤ x + 1 by omega) (show x + 1 ≤ 13 by omega)
    have c := ilenM_bd k y x
    omega
  have HD : Hid (idayN k y m d = ifirst k y + icumL k y m + d - 1) := (iday_in h).2.2
  obtain ⟨f0, f1⟩ := fb
  clear h hr
  generalize ifirst k y = f at *
  go_enter Tryd.func24, Tryd.ntmps24
  go_wp2_with fail
  refine (HV.out _).mono ?_
  rintro e w1 ⟨rfl, hb⟩
  have A1 := Lib.hid (down (grow (here w) _) hb)
  have B1 := Lib.hid (Box.new hb)
  clear hb
  obtain ⟨c0, c1, c2, cz⟩ := B1.out
  go_wp2_with fail
  refine (HN.out _).mono ?_
  rintro e w2 ⟨rfl, hb⟩
  have A2 := Lib.hid (down A1.out hb)
  have B2 := Lib.hid (B1.out.keep hb)
  clear hb A1 B1 c0 c1 c2 cz HV HN
  go_wp2
  go_loopw [6, 8] (fun a b wr => ∃ (x s : Int), 1 ≤ x ∧ x ≤ m ∧ 0 ≤ s ∧ s ≤ 355 ∧ Hid (s = icumL k y x) ∧ a = .int .i64 (f + s) ∧ b = .int .i64 x ∧ Below w.heap.size w wr ∧ Box wr w.heap.size (.int .i64 y) (.int .i64 m) (.int .i64 d)) (fun _ b _ => (m - intOf b).toNat)
  case atStart => exact ⟨1, 0, by omega, m0, by omega, by omega, (icumL_one k y).symm, by rw [Int.add_zero], rfl, A2.out, B2.out⟩
  case round =>
    obtain ⟨x, s, x0, x1, s0, s1, HC, rfl, rfl, hb0, hB⟩ := hrel
    obtain ⟨c0, c1, c2, cz⟩ := hB
    have hB := Lib.hid (Box.mk c0 c1 c2 cz)
    replace hb0 := Lib.hid hb0
    by_cases z : x < m
    · have kz : decide (x < m) = true := decide_eq_true z
      have q := HJ.out x x0 (by omega)
      have HK := Lib.hid (fun w => HL.out x x0 (by omega) w)
      have HC' : Hid (s + ilenM k y x = icumL k y (x + 1)) := by show s + ilenM k y x = _; rw [q.1, ← HC.out]
      have sb : 0 ≤ s + ilenM k y x ∧ s + ilenM k y x ≤ 355 := by rw [HC'.out]; omega
      have lb : 0 ≤ ilenM k y x ∧ ilenM k y x ≤ 30 := by omega
      clear q HC HL HJ HD
      generalize ilenM k y x = l at *
      obtain ⟨sb0, sb1⟩ := sb
      obtain ⟨lb0, lb1⟩ := lb
      go_wp2_with fail
      refine (HK.out _).mono ?_
      rintro e w3 ⟨rfl, hb⟩
      go_wp2
      go_roundw
      case rel => exact ⟨x + 1, s + l, by omega, by omega, by omega, by omega, HC', by rw [Int.add_assoc], rfl, down hb0.out hb, hB.out.keep hb⟩
      case measure => simp [intOf]; omega
    · obtain rfl : x = m := by omega
      have kz : decide (x < x) = false := decide_eq_false (by omega)
      have e : Hid (f + s + d - 1 = idayN k y x d) := by show _ = _; rw [HD.out, ← HC.out]
      clear HL HJ HC HD z
      go_wp2
      go_ret2
      exact ⟨by rw [← e.out]; rfl, hb0.out⟩
/-- Day: the number and the error number. -/
def idN (k y m d : Int) : Int := if ivld k y m d then idayN k y m d else 0
def idE (k y m d : Int) : Int := if ivld k y m d then 0 else 1
theorem riday (k y m d : Int) (hk : I64 k) (hy : I64 y) (hm : I64 m) (hd : I64 d) (w : World) :
    Calls Tryd.prog 24 #[.int .i64 k, .agg #[.int .i64 y, .int .i64 m, .int .i64 d]] w fun e w' => e = .returned (.tuple #[.int .i64 (idN k y m d), .int .i64 (idE k y m d)]) ∧ Below w.heap.size w w' := by
  unfold idN idE
  cases h : ivld k y m d
  · exact riday_no k y m d hk hy hm hd h w
  · exact riday_yes k y m d h w
theorem ridate_kind (k n : Int) (hk : I64 k) (hn : I64 n) (h : ikd k = false) (w : World) :
    Calls Tryd.prog 26 #[.int .i64 k, .int .i64 n] w fun e w' => e = .returned (.tuple #[.agg #[.int .i64 0, .int .i64 0, .int .i64 0], .int .i64 1]) ∧ Below w.heap.size w w' := by
  have HK := fun w => rikd k hk w
  rw [h] at HK
  replace HK := Lib.hid HK
  go_enter Tryd.func26, Tryd.ntmps26
  go_wp2_with fail
  refine (HK.out _).mono ?_
  rintro e w1 ⟨rfl, rfl⟩
  go_wp2
  exact bodyPost_ret (v := .tuple #[.agg #[.int .i64 0, .int .i64 0, .int .i64 0], .int .i64 1]) (by simp [results, Tryd.results26, go_sem]) rfl ⟨rfl, grow (here w) _⟩
set_option maxHeartbeats 400000 in
theorem ridate_out (k n : Int) (hn : I64 n) (h : ikd k = true) (h2 : n < -492148 ∨ 2909772 ≤ n) (w : World) :
    Calls Tryd.prog 26 #[.int .i64 k, .int .i64 n] w fun e w' => e = .returned (.tuple #[.agg #[.int .i64 0, .int .i64 0, .int .i64 0], .int .i64 2]) ∧ Below w.heap.size w w' := by
  obtain ⟨k0, k1⟩ := ikd_iff.1 h
  have HK := fun w => rikd k ⟨by omega, by omega⟩ w
  rw [h] at HK
  replace HK := Lib.hid HK
  have HN := fun w => rinew_yes k 9601 h (by omega) (by omega) w
  rw [ifirst_last k0 k1] at HN
  replace HN := Lib.hid HN
  have t : decide (n < -492148) = true ∨ decide (n < -492148) = false ∧ decide (2909772 ≤ n) = true := by
    by_cases z : n < -492148
    · exact .inl (decide_eq_true z)
    · exact .inr ⟨decide_eq_false z, decide_eq_true (by omega)⟩
  obtain ⟨n0, n1⟩ := hn
  clear h2 h
  rcases t with q | ⟨q, q2⟩
  all_goals
    go_enter Tryd.func26, Tryd.ntmps26
    go_wp2_with fail
    refine (HK.out _).mono ?_
    rintro e w1 ⟨rfl, rfl⟩
    go_wp2_with fail
    refine (HN.out _).mono ?_
    rintro e w1 ⟨rfl, hb⟩
    have A1 := Lib.hid (down (grow (here w) _) hb)
    have B1 := Lib.hid (Box.new hb)
    have F1 := Lib.hid (Free.new hb)
    clear hb
    obtain ⟨c0, c1, c2, cz⟩ := B1.out
    obtain ⟨f0, f1, f2⟩ := F1.out
    go_wp2
    obtain ⟨w9, hw9⟩ : ∃ w9 : World, (((w1.setCell ⟨w.heap.size, 0, none⟩ (.int .i64 0)).setCell ⟨w.heap.size, 1, none⟩ (.int .i64 0)).setCell ⟨w.heap.size, 2, none⟩ (.int .i64 0)) = w9 := ⟨_, rfl⟩
    have B9 : Box w9 w.heap.size (.int .i64 0) (.int .i64 0) (.int .i64 0) := by rw [← hw9]; exact ((B1.out.put0 _).put1 _).put2 _
    have A9 : Below w.heap.size w w9 := by rw [← hw9]; exact ((A1.out.setCell (Nat.le_refl _) _).setCell (Nat.le_refl _) _).setCell (Nat.le_refl _) _
    obtain ⟨e0, e1, e2, -⟩ := B9
    rw [hw9]
    exact bodyPost_ret (v := .tuple #[.agg #[.int .i64 0, .int .i64 0, .int .i64 0], .int .i64 2]) (by simp [results, Tryd.results26, go_sem, e0, e1, e2]) rfl ⟨rfl, A9⟩
theorem icyc {k n Y : Int} (k0 : 1 ≤ k) (k1 : k ≤ 4) (Y0 : 1 ≤ Y) (a : ifirst k Y ≤ n) (b : n < ifirst k (Y + 1)) : (n + 492148) / 10631 = (Y - 1) / 30 := by
  have c := icnt_bd (r := (Y - 1) % 30) k0 k1 (by omega) (by omega)
  have s := ifirst_succ k0 k1 Y0
  have l := ilp_01 k Y
  have e := icnt_end k0 k1
  have m := icnt_succ (r := (Y - 1) % 30) k0 k1 (by omega) (by omega)
  have f : ifirst k Y = -492148 + (Y - 1) / 30 * 10631 + 354 * ((Y - 1) % 30) + icnt k ((Y - 1) % 30) := rfl
  have g : ilp k Y = if ilpP k ((Y - 1) % 30 + 1) then 1 else 0 := rfl
  have d := icnt_bd (r := (Y - 1) % 30 + 1) k0 k1 (by omega) (by omega)
  rw [← g] at m
  omega
set_option maxHeartbeats 1000000 in
theorem ridate_yes (k n Y M D : Int) (h : ivld k Y M D = true) (hn : idayN k Y M D = n) (w : World) :
    Calls Tryd.prog 26 #[.int .i64 k, .int .i64 n] w fun e w' => e = .returned (.tuple #[.agg #[.int .i64 Y, .int .i64 M, .int .i64 D], .int .i64 0]) ∧ Below w.heap.size w w' := by
  obtain ⟨k0, k1, Y0, Y1, M0, M1, D0, D1⟩ := ivld_bd h
  have hr := ivld_yr h
  have kd := ikd_iff.2 ⟨k0, k1⟩
  obtain ⟨a0, a1, a2⟩ := iday_in h
  have rg := iday_range h
  rw [hn] at a0 a1 a2 rg
  have v := ivld_iff.1 h
  have cy := icyc k0 k1 Y0 a0 a1
  have HK := fun w => rikd k ⟨by omega, by omega⟩ w
  rw [kd] at HK
  replace HK := Lib.hid HK
  have HN := fun w => rinew_yes k 9601 kd (by omega) (by omega) w
  rw [ifirst_last k0 k1] at HN
  replace HN := Lib.hid HN
  obtain ⟨c0, c1, c2, c3, c4⟩ := icycle Y0
  have HS := fun w => rinew_yes k (30 * ((Y - 1) / 30) + 1) kd c0 (by omega) w
  have fs := ifirst_cycle k0 k1 c3
  rw [c4] at fs
  rw [fs] at HS
  have cb : 0 ≤ (Y - 1) / 30 ∧ (Y - 1) / 30 ≤ 320 := by omega
  have qn : (n + 492148) / 10631 = (n - -492148).tdiv 10631 := by rw [Int.tdiv_eq_ediv_of_nonneg (by omega)]; congr 1
  obtain ⟨C, hC⟩ : ∃ c, (Y - 1) / 30 = c := ⟨_, rfl⟩
  rw [hC] at cy HS fs cb c0 c1 c2
  have fs' : Hid (-492148 + C * 10631 = ifirst k (30 * C + 1)) := fs.symm
  replace HS := Lib.hid HS
  have LY := Lib.hid (fun x (x0 : 1 ≤ x) (x1 : x ≤ 9600) w => riyl k x ⟨by omega, by omega⟩ ⟨by omega, by omega⟩ w)
  have JY : Hid (∀ x : Int, 1 ≤ x → x ≤ 9600 → ifirst k (x + 1) = ifirst k x + iylN k x ∧ -492148 ≤ ifirst k (x + 1) ∧ ifirst k (x + 1) ≤ 2909772 ∧ 0 ≤ iylN k x ∧ iylN k x ≤ 355) := fun x x0 x1 => by
    have a := ifirst_succ k0 k1 x0
    have b := ifirst_bd k0 k1 (show 1 ≤ x + 1 by omega) (show x + 1 ≤ 9601 by omega)
    have c := iylN_bd k x
    rw [iylN_at (iyr_iff.2 (by omega))] at c ⊢
    omega
  have UP : Hid (∀ x, 1 ≤ x → x < Y → ifirst k (x + 1) ≤ n) := fun x x0 x1 => by
    have a := ifirst_le k0 k1 (y := x + 1) (z := Y) (by omega) (by omega)
    omega
  have LM := Lib.hid (fun x (x0 : 1 ≤ x) (x1 : x ≤ 12) w => rilen k Y x ⟨by omega, by omega⟩ ⟨by omega, by omega⟩ ⟨by omega, by omega⟩ w)
  have JM : Hid (∀ x : Int, 1 ≤ x → x < M → icumL k Y (x + 1) = icumL k Y x + ilenM k Y x ∧ icumL k Y (x + 1) ≤ icumL k Y M ∧ 0 ≤ ilenM k Y x ∧ ilenM k Y x ≤ 30) := fun x x0 x1 => by
    have a := icumL_succ hr x0 (show x ≤ 12 by omega)
    have mo := icumL_mono hr (M - (x + 1)).toNat (x + 1) (by omega) (by omega)
    rw [show x + 1 + ((M - (x + 1)).toNat : Int) = M by omega] at mo
    have c := ilenM_bd k Y x
    omega
  have cm := icumL_bd hr M0 (show M ≤ 13 by omega)
  have q0 : decide (n < -492148) = false := decide_eq_false (by omega)
  have q1 : decide (2909772 ≤ n) = false := decide_eq_false (by omega)
  have e5 : Hid (n - ifirst k Y + 1 = icumL k Y M + D) := by show _ = _; omega
  have EL : Hid (n < ifirst k (Y + 1) ∧ ifirst k (Y + 1) = ifirst k Y + iylN k Y) := ⟨a1, (JY.out Y Y0 Y1).1⟩
  have p0 : 0 ≤ n + 492148 := by omega
  obtain ⟨rg0, rg1⟩ := rg
  obtain ⟨cb0, cb1⟩ := cb
  have lenD : Hid (1 ≤ D ∧ D ≤ ilenM k Y M) := v
  have cmH := Lib.hid cm
  clear a0 a1 a2 v fs c3 c4 h hn hr kd cm qn
  obtain ⟨R, hR⟩ : ∃ R : World, w.alloc (.cells #[.int .i64 0, .int .i64 0, .int .i64 0] 29) = R := ⟨_, rfl⟩
  have AR : Hid (Below w.heap.size w R) := by rw [← hR]; exact grow (here w) _
  have BR : Hid (Box R w.heap.size (.int .i64 0) (.int .i64 0) (.int .i64 0)) := by rw [← hR]; exact Box.new (here _)
  have FR : Hid (Free R w.heap.size) := by rw [← hR]; exact Free.new (here _)
  go_enter Tryd.func26, Tryd.ntmps26
  go_wp2_with fail
  refine (HK.out _).mono ?_
  rintro e w1 ⟨rfl, rfl⟩
  go_wp2_with fail
  refine (HN.out _).mono ?_
  rintro e w1 ⟨rfl, hb⟩
  have A1 : Hid (Below R.heap.size R w1) := hb
  clear hb
  go_wp2_with fail
  refine (HS.out _).mono ?_
  rintro e w2 ⟨rfl, hb⟩
  have A2 := Lib.hid (down A1.out hb)
  clear hb A1 HK HN HS hC
  go_wp2
  try simp only [cy]
  clear cy hR
  go_loopw [8, 9] (fun a b wr => ∃ (x s : Int), 30 * C + 1 ≤ x ∧ x ≤ Y ∧ -492148 ≤ s ∧ s ≤ 2909772 ∧ Hid (s = ifirst k x) ∧ a = .int .i64 x ∧ b = .int .i64 s ∧ Below R.heap.size R wr) (fun a _ _ => (Y - intOf a).toNat)
  case atStart => exact ⟨30 * C + 1, -492148 + C * 10631, by omega, c1, by omega, by omega, fs', rfl, rfl, A2.out⟩
  case round =>
    obtain ⟨x, s, x0, x1, s0, s1, HC, rfl, rfl, hb0⟩ := hrel
    replace hb0 := Lib.hid hb0
    have HK := Lib.hid (fun w => LY.out x (by omega) (by omega) w)
    have q := JY.out x (by omega) (by omega)
    have HC' : Hid (s + iylN k x = ifirst k (x + 1)) := by show s + iylN k x = _; rw [q.1, ← HC.out]
    have sb : -492148 ≤ s + iylN k x ∧ s + iylN k x ≤ 2909772 := by rw [HC'.out]; omega
    have lb : 0 ≤ iylN k x ∧ iylN k x ≤ 355 := by omega
    obtain ⟨sb0, sb1⟩ := sb
    obtain ⟨lb0, lb1⟩ := lb
    clear q
    by_cases z : x < Y
    · have kz : decide (s + iylN k x ≤ n) = true := decide_eq_true (by rw [HC'.out]; exact UP.out x (by omega) z)
      clear HC LY JY UP LM JM e5 EL lenD cmH fs'
      generalize iylN k x = l at *
      go_wp2_with fail
      refine (HK.out _).mono ?_
      rintro e w3 ⟨rfl, hb⟩
      have A3 := Lib.hid (down hb0.out hb)
      clear hb hb0
      go_wp2_with fail
      refine (HK.out _).mono ?_
      rintro e w4 ⟨rfl, hb⟩
      go_wp2
      go_roundw
      case rel => exact ⟨x + 1, s + l, by omega, by omega, by omega, by omega, HC', rfl, rfl, down A3.out hb⟩
      case measure => simp [intOf]; omega
    · obtain rfl : x = Y := by omega
      have kz : decide (s + iylN k x ≤ n) = false := decide_eq_false (by rw [HC'.out]; have := EL.out; omega)
      have e6 : Hid (n - s + 1 = icumL k x M + D) := by show _ = _; rw [HC.out]; exact e5.out
      have nb : 1 ≤ n - s + 1 ∧ n - s + 1 ≤ 400 := by rw [e6.out]; have := cmH.out; have := lenD.out; omega
      clear HC LY JY UP e5 EL fs' HC'
      generalize iylN k x = l at *
      obtain ⟨N, hN⟩ : ∃ N, n - s + 1 = N := ⟨_, rfl⟩
      rw [hN] at e6 nb
      obtain ⟨nb0, nb1⟩ := nb
      go_wp2_with fail
      refine (HK.out _).mono ?_
      rintro e w3 ⟨rfl, hb⟩
      have A3 := Lib.hid (down hb0.out hb)
      clear hb hb0
      go_wp2
      go_loopw [11, 12] (fun a b wr => ∃ i u : Int, 1 ≤ i ∧ i ≤ M ∧ Hid (u + icumL k x i = icumL k x M + D) ∧ 0 ≤ u ∧ u ≤ 400 ∧ a = .int .i64 u ∧ b = .int .i64 i ∧ Below R.heap.size R wr) (fun _ b _ => (M - intOf b).toNat)
      case atStart => exact ⟨1, N, by omega, M0, by show N + icumL k x 1 = _; rw [icumL_one, e6.out]; omega, by omega, nb1, rfl, rfl, A3.out⟩
      case round =>
        obtain ⟨i, u, i0, i1, hu, u0, u1, rfl, rfl, hb0⟩ := hrel
        replace hb0 := Lib.hid hb0
        have HL := Lib.hid (fun w => LM.out i i0 (by omega) w)
        by_cases c : i < M
        · have q := JM.out i i0 c
          have kq : decide (ilenM k x i < u) = true := decide_eq_true (by have := hu.out; have := lenD.out; omega)
          have hu' : Hid (u - ilenM k x i + icumL k x (i + 1) = icumL k x M + D) := by show _ = _; rw [q.1]; have := hu.out; omega
          have lb : 0 ≤ ilenM k x i ∧ ilenM k x i ≤ 30 ∧ 0 ≤ u - ilenM k x i := by
            refine ⟨q.2.2.1, q.2.2.2, ?_⟩
            have := of_decide_eq_true kq
            omega
          obtain ⟨l0, l1, l2⟩ := lb
          clear q hu LM JM lenD cmH e6
          generalize ilenM k x i = l2' at *
          go_wp2_with fail
          refine (HL.out _).mono ?_
          rintro e w4 ⟨rfl, hb⟩
          have A4 := Lib.hid (down hb0.out hb)
          clear hb hb0
          go_wp2_with fail
          refine (HL.out _).mono ?_
          rintro e w5 ⟨rfl, hb⟩
          go_wp2
          go_roundw
          case rel => exact ⟨i + 1, u - l2', by omega, by omega, hu', by omega, by omega, rfl, rfl, down A4.out hb⟩
          case measure => simp [intOf]; omega
        · obtain rfl : i = M := by omega
          obtain rfl : u = D := by have := hu.out; omega
          have kq : decide (ilenM k x i < u) = false := decide_eq_false (by have := lenD.out; omega)
          clear hu LM JM lenD cmH e6 c
          go_wp2_with fail
          refine (HL.out _).mono ?_
          rintro e w4 ⟨rfl, hb⟩
          have A4 := Lib.hid (down hb0.out hb)
          have B4 := Lib.hid (BR.out.keep A4.out)
          have F4 := Lib.hid (FR.out.keep BR.out.lt A4.out)
          have Z4 := Lib.hid (down AR.out A4.out)
          clear hb hb0
          obtain ⟨b0, b1, b2, bz⟩ := B4.out
          obtain ⟨f0, f1, f2⟩ := F4.out
          go_wp2
          obtain ⟨w9, hw9⟩ : ∃ w9 : World, (((w4.setCell ⟨w.heap.size, 0, none⟩ (.int .i64 x)).setCell ⟨w.heap.size, 1, none⟩ (.int .i64 i)).setCell ⟨w.heap.size, 2, none⟩ (.int .i64 u)) = w9 := ⟨_, rfl⟩
          have B9 : Box w9 w.heap.size (.int .i64 x) (.int .i64 i) (.int .i64 u) := by rw [← hw9]; exact ((B4.out.put0 _).put1 _).put2 _
          have A9 : Below w.heap.size w w9 := by rw [← hw9]; exact ((Z4.out.setCell (Nat.le_refl _) _).setCell (Nat.le_refl _) _).setCell (Nat.le_refl _) _
          obtain ⟨e0, e1, e2, -⟩ := B9
          rw [hw9]
          exact bodyPost_ret (v := .tuple #[.agg #[.int .i64 x, .int .i64 i, .int .i64 u], .int .i64 0]) (by simp [results, Tryd.results26, go_sem, e0, e1, e2]) rfl ⟨rfl, A9⟩
end Go.Proofs.YtobipbmigpkhmaaDoor
