/- The walk of AllenParts. -/
import Derived.Test.YtiaidmjhgfaobaaDoorAlAwakes
import Derived.Test.YtiaidmjhgfaobaaDoorAlCt
import Derived.BigQuiet
import Derived.Deep.QuietTactic
import Derived.Deep.RegionHeld3
import Derived.Deep.Cut
import Derived.Outline
namespace Go.Proofs.YtiaidmjhgfaobaaDoor
open Go.RowKit
set_option linter.unusedVariables false

theorem lisC (s : Int) (hs : I64 s) (w : World) :
    Calls Tryd.prog 36 #[.int .i64 s] w fun e w' => e = .returned (.bool (isS s)) ∧ w = w' := by
  obtain ⟨h0, h1⟩ := hs
  unfold isS
  cases p : decide (0 ≤ s) <;> cases q : decide (s ≤ 8191)
  all_goals
    go_enter Tryd.func36, Tryd.ntmps36
    go_wp2
    go_ret
    exact ⟨rfl, rfl⟩
theorem i64_pow {r : Nat} (hr : r ≤ 12) : I64 ((2 ^ r : Nat) : Int) := by
  have p := pow_lt hr
  generalize 2 ^ r = m at *
  exact ⟨by omega, by omega⟩
theorem pairs_here {base : Nat} {w : World} {o : Option Addr} {n c : Nat} {ps : List (Int × Int)} (h : PairS base w (.slice o n c) ps) {i : Nat} (hi : i < ps.length) :
    ∃ b off, o = some ⟨b, off, none⟩ ∧ b < w.heap.size ∧ w.cell? ⟨b, off + i * 2, none⟩ = some (.int .i64 (ps.getD i (0, 0)).1) ∧ w.cell? ⟨b, off + i * 2 + 1, none⟩ = some (.int .i64 (ps.getD i (0, 0)).2) := by
  rcases h with ⟨h0, -⟩ | ⟨b, off, c', e, -, l⟩
  · omega
  · injection e with e1 e2 e3
    exact ⟨b, off, e1, l.lt, pairs_at l i hi⟩
set_option maxRecDepth 100000 in
set_option maxHeartbeats 4000000 in
theorem AllenParts.walk (s a b lo hi : Int) (hs : (Lit.int .i64 s).wf = true) (ha : (Lit.int .i64 a).wf = true) (hb : (Lit.int .i64 b).wf = true) (hlo : (Lit.int .i64 lo).wf = true) (hhi : (Lit.int .i64 hi).wf = true) (w : World) (ht : Tabs w) :
    Calls Tryd.prog 12 #[.int .i64 s, .agg #[.int .i64 a, .int .i64 b], .int .i64 lo, .int .i64 hi] w fun e w' => e = .returned (.bool true) ∧ Below w.heap.size w w' := by
  replace hs := i64_wf hs
  replace ha := i64_wf ha
  replace hb := i64_wf hb
  replace hlo := i64_wf hlo
  replace hhi := i64_wf hhi
  have IA := fun w => lisC s hs w
  have V1 := fun w => iuvalid a b ha hb w
  have HP := fun w ht => uapossible s a b lo hi hs ha hb hlo hhi w ht
  have AW := Lib.hid (fun w ht => awake_all w ht)
  replace ht := Lib.hid ht
  have no : poG s a b lo hi = false → poL s a b lo hi = [] := fun h => by unfold poL; rw [h]; rfl
  obtain ⟨lo0, lo1⟩ := hlo
  obtain ⟨hi0, hi1⟩ := hhi
  cases v : isS s
  · rw [v] at IA
    rw [no (by unfold poG; rw [v]; rfl)] at HP
    clear no v V1 hs ha hb
    replace IA := Lib.hid IA
    replace HP := Lib.hid HP
    go_enter Tryd.func12, Tryd.ntmps12
    go_wp2_with fail
    refine (AW.out _ (ht.out.below (grow (here w) _))).mono ?_
    rintro e w1 ⟨rfl, hb⟩
    have A1 := Lib.hid (down (grow (here w) _) hb)
    have X1 := Lib.hid (Two.new hb)
    clear hb
    obtain ⟨x1_0, x1_1, x1_z⟩ := X1.out
    go_wp2_with fail
    refine (IA.out _).mono ?_
    rintro e x1 ⟨rfl, rfl⟩
    go_wp2_with fail
    refine (HP.out _ (ht.out.below A1.out)).mono ?_
    rintro e w2 ⟨⟨v, rfl, Q⟩, hb⟩
    obtain ⟨ov, cv, rfl⟩ := Sl.shape Q
    clear Q
    have A2 := Lib.hid (down A1.out hb)
    have X2 := Lib.hid (X1.out.keep hb)
    clear hb A1 X1 x1_0 x1_1 x1_z
    obtain ⟨x2_0, x2_1, x2_z⟩ := X2.out
    go_wp2
    go_ret
    exact ⟨rfl, by first | exact A2.out | exact grow A2.out _ | exact below_drewN A2.out _ | exact grow (grow A2.out _) _ | exact grow (grow (grow A2.out _) _) _⟩
  cases va : ivB a b
  · rw [v] at IA
    rw [va] at V1
    rw [no (by unfold poG; rw [v, va]; rfl)] at HP
    clear no v va hs ha hb
    replace IA := Lib.hid IA
    replace HP := Lib.hid HP
    replace V1 := Lib.hid V1
    go_enter Tryd.func12, Tryd.ntmps12
    go_wp2_with fail
    refine (AW.out _ (ht.out.below (grow (here w) _))).mono ?_
    rintro e w1 ⟨rfl, hb⟩
    have A1 := Lib.hid (down (grow (here w) _) hb)
    have X1 := Lib.hid (Two.new hb)
    clear hb
    obtain ⟨x1_0, x1_1, x1_z⟩ := X1.out
    go_wp2_with fail
    refine (IA.out _).mono ?_
    rintro e x1 ⟨rfl, rfl⟩
    go_wp2_with fail
    refine (V1.out _).mono ?_
    rintro e w2 ⟨rfl, hb⟩
    have A2 := Lib.hid (down A1.out hb)
    have X2 := Lib.hid (X1.out.keep hb)
    clear hb A1 X1 x1_0 x1_1 x1_z
    obtain ⟨x2_0, x2_1, x2_z⟩ := X2.out
    go_wp2_with fail
    refine (HP.out _ (ht.out.below A2.out)).mono ?_
    rintro e w3 ⟨⟨v, rfl, Q⟩, hb⟩
    obtain ⟨ov, cv, rfl⟩ := Sl.shape Q
    clear Q
    have A3 := Lib.hid (down A2.out hb)
    have X3 := Lib.hid (X2.out.keep hb)
    clear hb A2 X2 x2_0 x2_1 x2_z
    obtain ⟨x3_0, x3_1, x3_z⟩ := X3.out
    go_wp2
    go_ret
    exact ⟨rfl, by first | exact A3.out | exact grow A3.out _ | exact below_drewN A3.out _ | exact grow (grow A3.out _) _ | exact grow (grow (grow A3.out _) _) _⟩
  rw [v] at IA
  rw [va] at V1
  by_cases q1 : lo < -4398046511104
  · have k1 : decide (lo < -4398046511104) = true := decide_eq_true q1
    rw [no (by unfold poG; rw [v, va, decide_eq_false (by omega : ¬ -4398046511104 ≤ lo)]; rfl)] at HP
    clear no v va hs ha hb q1
    replace IA := Lib.hid IA
    replace HP := Lib.hid HP
    replace V1 := Lib.hid V1
    go_enter Tryd.func12, Tryd.ntmps12
    go_wp2_with fail
    refine (AW.out _ (ht.out.below (grow (here w) _))).mono ?_
    rintro e w1 ⟨rfl, hb⟩
    have A1 := Lib.hid (down (grow (here w) _) hb)
    have X1 := Lib.hid (Two.new hb)
    clear hb
    obtain ⟨x1_0, x1_1, x1_z⟩ := X1.out
    go_wp2_with fail
    refine (IA.out _).mono ?_
    rintro e x1 ⟨rfl, rfl⟩
    go_wp2_with fail
    refine (V1.out _).mono ?_
    rintro e w2 ⟨rfl, hb⟩
    have A2 := Lib.hid (down A1.out hb)
    have X2 := Lib.hid (X1.out.keep hb)
    clear hb A1 X1 x1_0 x1_1 x1_z
    obtain ⟨x2_0, x2_1, x2_z⟩ := X2.out
    go_wp2_with fail
    refine (HP.out _ (ht.out.below A2.out)).mono ?_
    rintro e w3 ⟨⟨v, rfl, Q⟩, hb⟩
    obtain ⟨ov, cv, rfl⟩ := Sl.shape Q
    clear Q
    have A3 := Lib.hid (down A2.out hb)
    have X3 := Lib.hid (X2.out.keep hb)
    clear hb A2 X2 x2_0 x2_1 x2_z
    obtain ⟨x3_0, x3_1, x3_z⟩ := X3.out
    go_wp2
    go_ret
    exact ⟨rfl, by first | exact A3.out | exact grow A3.out _ | exact below_drewN A3.out _ | exact grow (grow A3.out _) _ | exact grow (grow (grow A3.out _) _) _⟩
  have k1 : decide (lo < -4398046511104) = false := decide_eq_false q1
  by_cases q2 : 4398046511104 < hi
  · have k2 : decide (4398046511104 < hi) = true := decide_eq_true q2
    rw [no (by unfold poG; rw [v, va, decide_eq_false (by omega : ¬ hi ≤ 4398046511104)]; simp)] at HP
    clear no v va hs ha hb q1 q2
    replace IA := Lib.hid IA
    replace HP := Lib.hid HP
    replace V1 := Lib.hid V1
    go_enter Tryd.func12, Tryd.ntmps12
    go_wp2_with fail
    refine (AW.out _ (ht.out.below (grow (here w) _))).mono ?_
    rintro e w1 ⟨rfl, hb⟩
    have A1 := Lib.hid (down (grow (here w) _) hb)
    have X1 := Lib.hid (Two.new hb)
    clear hb
    obtain ⟨x1_0, x1_1, x1_z⟩ := X1.out
    go_wp2_with fail
    refine (IA.out _).mono ?_
    rintro e x1 ⟨rfl, rfl⟩
    go_wp2_with fail
    refine (V1.out _).mono ?_
    rintro e w2 ⟨rfl, hb⟩
    have A2 := Lib.hid (down A1.out hb)
    have X2 := Lib.hid (X1.out.keep hb)
    clear hb A1 X1 x1_0 x1_1 x1_z
    obtain ⟨x2_0, x2_1, x2_z⟩ := X2.out
    go_wp2_with fail
    refine (HP.out _ (ht.out.below A2.out)).mono ?_
    rintro e w3 ⟨⟨v, rfl, Q⟩, hb⟩
    obtain ⟨ov, cv, rfl⟩ := Sl.shape Q
    clear Q
    have A3 := Lib.hid (down A2.out hb)
    have X3 := Lib.hid (X2.out.keep hb)
    clear hb A2 X2 x2_0 x2_1 x2_z
    obtain ⟨x3_0, x3_1, x3_z⟩ := X3.out
    go_wp2
    go_ret
    exact ⟨rfl, by first | exact A3.out | exact grow A3.out _ | exact below_drewN A3.out _ | exact grow (grow A3.out _) _ | exact grow (grow (grow A3.out _) _) _⟩
  have k2 : decide (4398046511104 < hi) = false := decide_eq_false q2
  by_cases q3 : hi ≤ lo
  · have k3 : decide (hi ≤ lo) = true := decide_eq_true q3
    rw [no (by unfold poG; rw [v, va, decide_eq_false (by omega : ¬ lo < hi)]; simp)] at HP
    clear no v va hs ha hb q1 q2 q3
    replace IA := Lib.hid IA
    replace HP := Lib.hid HP
    replace V1 := Lib.hid V1
    go_enter Tryd.func12, Tryd.ntmps12
    go_wp2_with fail
    refine (AW.out _ (ht.out.below (grow (here w) _))).mono ?_
    rintro e w1 ⟨rfl, hb⟩
    have A1 := Lib.hid (down (grow (here w) _) hb)
    have X1 := Lib.hid (Two.new hb)
    clear hb
    obtain ⟨x1_0, x1_1, x1_z⟩ := X1.out
    go_wp2_with fail
    refine (IA.out _).mono ?_
    rintro e x1 ⟨rfl, rfl⟩
    go_wp2_with fail
    refine (V1.out _).mono ?_
    rintro e w2 ⟨rfl, hb⟩
    have A2 := Lib.hid (down A1.out hb)
    have X2 := Lib.hid (X1.out.keep hb)
    clear hb A1 X1 x1_0 x1_1 x1_z
    obtain ⟨x2_0, x2_1, x2_z⟩ := X2.out
    go_wp2_with fail
    refine (HP.out _ (ht.out.below A2.out)).mono ?_
    rintro e w3 ⟨⟨v, rfl, Q⟩, hb⟩
    obtain ⟨ov, cv, rfl⟩ := Sl.shape Q
    clear Q
    have A3 := Lib.hid (down A2.out hb)
    have X3 := Lib.hid (X2.out.keep hb)
    clear hb A2 X2 x2_0 x2_1 x2_z
    obtain ⟨x3_0, x3_1, x3_z⟩ := X3.out
    go_wp2
    go_ret
    exact ⟨rfl, by first | exact A3.out | exact grow A3.out _ | exact below_drewN A3.out _ | exact grow (grow A3.out _) _ | exact grow (grow (grow A3.out _) _) _⟩
  have k3 : decide (hi ≤ lo) = false := decide_eq_false q3
  by_cases q4 : 40 < hi - lo
  · have k4 : decide (40 < hi - lo) = true := decide_eq_true q4
    rw [no (by unfold poG; rw [v, va, decide_eq_false (by omega : ¬ hi - lo ≤ 40)]; simp)] at HP
    have lo2 : -4398046511104 ≤ lo := by omega
    have hi2 : hi ≤ 4398046511104 := by omega
    have lh : lo ≤ hi := by omega
    clear no v va hs ha hb q1 q2 q3 q4
    replace IA := Lib.hid IA
    replace HP := Lib.hid HP
    replace V1 := Lib.hid V1
    go_enter Tryd.func12, Tryd.ntmps12
    go_wp2_with fail
    refine (AW.out _ (ht.out.below (grow (here w) _))).mono ?_
    rintro e w1 ⟨rfl, hb⟩
    have A1 := Lib.hid (down (grow (here w) _) hb)
    have X1 := Lib.hid (Two.new hb)
    clear hb
    obtain ⟨x1_0, x1_1, x1_z⟩ := X1.out
    go_wp2_with fail
    refine (IA.out _).mono ?_
    rintro e x1 ⟨rfl, rfl⟩
    go_wp2_with fail
    refine (V1.out _).mono ?_
    rintro e w2 ⟨rfl, hb⟩
    have A2 := Lib.hid (down A1.out hb)
    have X2 := Lib.hid (X1.out.keep hb)
    clear hb A1 X1 x1_0 x1_1 x1_z
    obtain ⟨x2_0, x2_1, x2_z⟩ := X2.out
    go_wp2_with fail
    refine (HP.out _ (ht.out.below A2.out)).mono ?_
    rintro e w3 ⟨⟨v, rfl, Q⟩, hb⟩
    obtain ⟨ov, cv, rfl⟩ := Sl.shape Q
    clear Q
    have A3 := Lib.hid (down A2.out hb)
    have X3 := Lib.hid (X2.out.keep hb)
    clear hb A2 X2 x2_0 x2_1 x2_z
    obtain ⟨x3_0, x3_1, x3_z⟩ := X3.out
    go_wp2
    go_ret
    exact ⟨rfl, by first | exact A3.out | exact grow A3.out _ | exact below_drewN A3.out _ | exact grow (grow A3.out _) _ | exact grow (grow (grow A3.out _) _) _⟩
  have k4 : decide (40 < hi - lo) = false := decide_eq_false q4
  have g : poG s a b lo hi = true := by
    unfold poG
    rw [v, va, decide_eq_true (by omega : -4398046511104 ≤ lo), decide_eq_true (by omega : hi ≤ 4398046511104), decide_eq_true (by omega : lo < hi), decide_eq_true (by omega : hi - lo ≤ 40)]
    rfl
  have v2 := isS_iff.1 v
  obtain ⟨S, rfl⟩ : ∃ S : Nat, s = S := ⟨s.toNat, by omega⟩
  have hS : S < 8192 := by omega
  have HS := fun w ht => uasingles (S : Int) hs w ht
  rw [show sgV (S : Int) = toZ (sgN S 13) by unfold sgV; rw [v, if_pos rfl]; exact sg_map S 13] at HS
  have HN := fun w ht => uapossible (8191 - S : Nat) a b lo hi ⟨by omega, by omega⟩ ha hb ⟨lo0, lo1⟩ ⟨hi0, hi1⟩ w ht
  have HR := Lib.hid (fun (r : Nat) (hr : r ≤ 12) w ht => uapossible ((2 ^ r : Nat) : Int) a b lo hi (i64_pow hr) ha hb ⟨lo0, lo1⟩ ⟨hi0, hi1⟩ w ht)
  obtain ⟨D, hD⟩ : ∃ D : Nat, hi - lo = D := ⟨(hi - lo).toNat, by omega⟩
  have bw := both_w hS g hD
  have all := ptN_all hS g
  have ml : ∀ T : Nat, T < 8192 → (poL (T : Int) a b lo hi).length ≤ 1600 := fun T hT => by
    unfold poL
    rw [if_pos (poG_set hT g)]
    have := poO_len (T : Int) a b lo hi (by omega) (hi - lo).toNat
    omega
  have mS := ml S hS
  have mN := ml (8191 - S) (by omega)
  have LL : Hid (∀ r : Nat, r ≤ 12 → (poL ((2 ^ r : Nat) : Int) a b lo hi).length ≤ 1600) := fun r hr => ml _ (pow_lt hr)
  have EL : Hid (∀ r : Nat, r ≤ 12 → ∀ j, j < (poL ((2 ^ r : Nat) : Int) a b lo hi).length → lo ≤ ((poL ((2 ^ r : Nat) : Int) a b lo hi).getD j (0, 0)).1 ∧ ((poL ((2 ^ r : Nat) : Int) a b lo hi).getD j (0, 0)).1 < ((poL ((2 ^ r : Nat) : Int) a b lo hi).getD j (0, 0)).2 ∧ ((poL ((2 ^ r : Nat) : Int) a b lo hi).getD j (0, 0)).2 ≤ hi ∧
      ∀ w, ISh w → Calls Tryd.prog 34 #[.agg #[.int .i64 ((poL ((2 ^ r : Nat) : Int) a b lo hi).getD j (0, 0)).1, .int .i64 ((poL ((2 ^ r : Nat) : Int) a b lo hi).getD j (0, 0)).2], .agg #[.int .i64 a, .int .i64 b]] w fun e w' => e = .returned (.int .i64 r) ∧ Below w.heap.size w w') := fun r hr j hj => by
    have q := poL_at hj
    refine ⟨q.1, q.2.1, q.2.2.1, fun w ht => ?_⟩
    have h := iuof ((poL ((2 ^ r : Nat) : Int) a b lo hi).getD j (0, 0)).1 ((poL ((2 ^ r : Nat) : Int) a b lo hi).getD j (0, 0)).2 a b ⟨by omega, by omega⟩ ⟨by omega, by omega⟩ ha hb w ht
    rw [ho_one hr q.2.2.2] at h
    exact h
  have mem : ∀ r, r ∈ sgN S 13 → r < 13 := fun r hr => (sgN_mem.1 hr).1
  have n13 := sgN_len S
  obtain ⟨l, hl⟩ : ∃ l, sgN S 13 = l := ⟨_, rfl⟩
  rw [hl] at HS all mem n13
  clear hl
  have ST : Hid (∀ k, k < l.length → ∃ r : Nat, r ≤ 12 ∧ (toZ l).getD k 0 = r ∧ ptN a b lo hi l (k + 1) = ptN a b lo hi l k + (poL ((2 ^ r : Nat) : Int) a b lo hi).length) := fun k hk => by
    have := mem _ (getD_mem hk)
    exact ⟨l.getD k 0, by omega, toZ_at hk, ptN_step a b lo hi hk⟩
  have P0 : Hid (ptN a b lo hi l 0 = 0) := by show ((l.take 0).map _).sum = 0; rw [List.take_zero]; rfl
  have PB : Hid (∀ k, k ≤ l.length → ptN a b lo hi l k ≤ 1600 * k) := fun k => by
    induction k with
    | zero => intro _; rw [P0.out]; exact Nat.zero_le _
    | succ k ih =>
      intro hk
      obtain ⟨r, hr, -, e⟩ := ST.out k (by omega)
      have := LL.out r hr
      have := ih (by omega)
      omega
  have PN : Hid (ptN a b lo hi l l.length = (poL (S : Int) a b lo hi).length) := all
  have lz := toZ_len l
  have sub : (8191 : Int) - S = ((8191 - S : Nat) : Int) := by omega
  obtain ⟨U, hU⟩ : ∃ U : Nat, 8191 - S = U := ⟨_, rfl⟩
  rw [hU] at HN bw mN sub
  generalize ptN a b lo hi l = PT at *
  generalize toZ l = L at *
  generalize l.length = n at *
  have D0 : (0 : Int) < D := by omega
  have D1 : (D : Int) ≤ 40 := by omega
  have dd : (D : Int) * ((D : Int) + 1) = 2 * (((poL (S : Int) a b lo hi).length : Int) + ((poL (U : Int) a b lo hi).length : Int)) := by
    have := congrArg (fun (x : Nat) => (x : Int)) bw
    push_cast at this
    omega
  obtain ⟨E, hE⟩ : ∃ E, (D : Int) * ((D : Int) + 1) = E := ⟨_, rfl⟩
  rw [hE] at dd
  have lo2 : -4398046511104 ≤ lo := by omega
  have hi2 : hi ≤ 4398046511104 := by omega
  have lh : lo ≤ hi := by omega
  have hq : E.tdiv 2 = ((poL (S : Int) a b lo hi).length : Int) + ((poL (U : Int) a b lo hi).length : Int) := by
    rw [Int.tdiv_eq_ediv_of_nonneg (by omega)]; omega
  obtain ⟨c1, hc1⟩ : ∃ c : Nat, (poL (S : Int) a b lo hi).length = c := ⟨_, rfl⟩
  obtain ⟨c2, hc2⟩ : ∃ c : Nat, (poL (U : Int) a b lo hi).length = c := ⟨_, rfl⟩
  have k4' : decide (40 < (D : Int)) = false := decide_eq_false (by omega)
  rw [hc1] at PN dd mS hq
  rw [hc2] at dd mN hq
  clear no v va g v2 all mem bw ml hs ha hb q1 q2 q3 q4 hU
  replace IA := Lib.hid IA
  replace V1 := Lib.hid V1
  replace HP := Lib.hid HP
  replace HS := Lib.hid HS
  replace HN := Lib.hid HN
  go_enter Tryd.func12, Tryd.ntmps12
  go_wp2_with fail
  refine (AW.out _ (ht.out.below (grow (here w) _))).mono ?_
  rintro e w1 ⟨rfl, hb⟩
  have A1 := Lib.hid (down (grow (here w) _) hb)
  have X1 := Lib.hid (Two.new hb)
  clear hb
  obtain ⟨x1_0, x1_1, x1_z⟩ := X1.out
  go_wp2_with fail
  refine (IA.out _).mono ?_
  rintro e x1 ⟨rfl, rfl⟩
  go_wp2_with fail
  refine (V1.out _).mono ?_
  rintro e w2 ⟨rfl, hb⟩
  have A2 := Lib.hid (down A1.out hb)
  have X2 := Lib.hid (X1.out.keep hb)
  clear hb A1 X1 x1_0 x1_1 x1_z
  obtain ⟨x2_0, x2_1, x2_z⟩ := X2.out
  go_wp2_with fail
  refine (HS.out _ (ht.out.below A2.out)).mono ?_
  rintro e w3 ⟨⟨v, rfl, Q⟩, hb⟩
  obtain ⟨ov, cv, rfl⟩ := Sl.shape Q
  replace Q := Sl.weak Q (Nat.zero_le _)
  have A3 := Lib.hid (down A2.out hb)
  have X3 := Lib.hid (X2.out.keep hb)
  clear hb A2 X2 x2_0 x2_1 x2_z
  obtain ⟨x3_0, x3_1, x3_z⟩ := X3.out
  have Q3 := Lib.hid Q
  clear Q
  go_wp2
  go_loopw [9, 55] (fun nv iv wr => ∃ k : Nat, k ≤ n ∧ nv = .int .i64 (PT k) ∧ iv = .int .i64 k ∧ Hid (Below w.heap.size w wr) ∧ Hid (IntS 0 wr (.slice ov L.length cv) L) ∧ Hid (Two wr w.heap.size (.int .i64 a) (.int .i64 b))) (fun _ iv _ => n - (intOf iv).toNat)
  case atStart => exact ⟨0, Nat.zero_le _, by rw [P0.out]; rfl, rfl, A3, Q3, X3⟩
  case round =>
    obtain ⟨k, hk, rfl, rfl, HA, HL, HX⟩ := hrel
    clear A3 Q3 X3 x3_0 x3_1 x3_z
    by_cases z : k < n
    · have kz : decide ((k : Int) < (n : Int)) = true := decide_eq_true (by omega)
      obtain ⟨r, hr, gz, st⟩ := ST.out k z
      obtain ⟨b0, off, rfl, bl, cs⟩ := ints_here HL.out (show k < L.length by omega)
      have cc := cs k (by omega)
      rw [gz] at cc
      have pr := Lib.hid (fun w ht => HR.out r hr w ht)
      have ELT := Lib.hid (fun j hj => EL.out r hr j hj)
      have ll := LL.out r hr
      have pk := PB.out k hk
      have st' := Lib.hid st
      have pk1 := PB.out (k + 1) (by omega)
      rw [st] at pk1
      have pw := pow_lt hr
      have e1 := al_pow hr
      obtain ⟨M, hM⟩ : ∃ M : Nat, 2 ^ r = M := ⟨_, rfl⟩
      rw [hM] at pw e1 pr st' ll pk1
      rw [hM] at ELT
      have d0 : decide ((r : Int) < 0) = false := decide_eq_false (by omega)
      have d1 : decide (12 < (r : Int)) = false := decide_eq_false (by omega)
      have TT : Hid (∀ W', Below wr.heap.size wr W' → Tabs W') := fun W' q => ht.out.below (down HA.out q)
      obtain ⟨x0, x1, xl⟩ := HX.out
      clear st hM gz cs HR EL LL ST P0 PB
      generalize poL (M : Int) a b lo hi = PL at *
      go_wp2_with fail
      go_region_with (go_at_call 32; (with_reducible refine (pr.out _ (TT.out _ (Below.drew (here _)))).mono ?_); rintro e w2 ⟨⟨v, rfl, PM⟩, hb⟩; obtain ⟨ol, cl, rfl⟩ := Sl.shape PM; have hq := Lib.hid (down (Below.drew (here _)) hb); have PM2 := Lib.hid (Sl.weak (base' := 0) PM (Nat.zero_le _)); clear PM hb)
      all_goals
        have A2 := Lib.hid (down HA.out hq.out)
        have L2 := Lib.hid (HL.out.keep hq.out)
        have X2 := Lib.hid (HX.out.keep hq.out)
        clear hq
        go_wp2
        go_loopw [77] (fun iv wr => ∃ j : Nat, j ≤ PL.length ∧ iv = .int .i64 j ∧ Hid (Below w.heap.size w wr) ∧ Hid (IntS 0 wr (.slice (some ⟨b0, off, none⟩) L.length cv) L) ∧ Hid (Two wr w.heap.size (.int .i64 a) (.int .i64 b)) ∧ Hid (PairS 0 wr (.slice ol PL.length cl) PL)) (fun iv _ => PL.length - (intOf iv).toNat)
        case atStart => exact ⟨0, Nat.zero_le _, rfl, A2, L2, X2, PM2⟩
        case round =>
          obtain ⟨j, hj, rfl, A3, L3, X3, M3⟩ := hrel
          clear A2 L2 X2 PM2
          by_cases y : j < PL.length
          · have ky : decide ((j : Int) < (PL.length : Int)) = true := decide_eq_true (by omega)
            obtain ⟨y0, y1, y2, oo⟩ := ELT.out j y
            obtain ⟨b1, of1, rfl, bl1, c0, c1⟩ := pairs_here M3.out y
            have OF := Lib.hid oo
            clear oo ELT
            generalize (PL.getD j (0, 0)).1 = p1 at *
            generalize (PL.getD j (0, 0)).2 = p2 at *
            have f0 : decide (p1 < lo) = false := decide_eq_false (by omega)
            have f1 : decide (hi < p2) = false := decide_eq_false (by omega)
            have f2 : decide (p2 ≤ p1) = false := decide_eq_false (by omega)
            have p0 : -4398046511104 ≤ p1 ∧ p1 ≤ 4398046511104 := by omega
            have p3 : -4398046511104 ≤ p2 ∧ p2 ≤ 4398046511104 := by omega
            obtain ⟨p0, p0'⟩ := p0
            obtain ⟨p3, p3'⟩ := p3
            obtain ⟨w4, hw4⟩ : ∃ w' : World, wr.alloc (.cells #[.int .i64 p1, .int .i64 p2] 30) = w' := ⟨_, rfl⟩
            obtain ⟨bZ, hbZ⟩ : ∃ b', wr.heap.size = b' := ⟨_, rfl⟩
            have G4 : Below wr.heap.size wr w4 := by rw [← hw4]; exact grow (here _) _
            have Z4 : Hid (Two w4 bZ (.int .i64 p1) (.int .i64 p2)) := by rw [← hbZ, ← hw4]; exact Two.new (here _)
            have A4 := Lib.hid (down A3.out G4)
            have L4 := Lib.hid (L3.out.keep G4)
            have X4 := Lib.hid (X3.out.keep G4)
            have M4 := Lib.hid (M3.out.keep G4)
            clear A3 L3 X3 M3 G4
            obtain ⟨x4_0, x4_1, x4_l⟩ := X4.out
            obtain ⟨z4_0, z4_1, z4_l⟩ := Z4.out
            have T4 : Hid (ISh w4) := (ht.out.below A4.out).sh
            go_wp2_with fail
            refine (OF.out _ T4.out).mono ?_
            rintro e w5 ⟨rfl, hb⟩
            have A5 := Lib.hid (down A4.out hb)
            have L5 := Lib.hid (L4.out.keep hb)
            have X5 := Lib.hid (X4.out.keep hb)
            have M5 := Lib.hid (M4.out.keep hb)
            have kr : ((r : Int) != (r : Int)) = false := by simp
            clear hb A4 L4 X4 M4 Z4 T4 x4_0 x4_1 x4_l z4_0 z4_1 z4_l hw4 hbZ bl1 c0 c1 OF
            go_wp2
            go_roundw
            case rel => exact ⟨j + 1, by omega, by go_num, A5, L5, X5, M5⟩
            case measure => simp [intOf]; omega
          · have ky : decide ((j : Int) < (PL.length : Int)) = false := decide_eq_false (by omega)
            clear ELT
            go_wp2
            go_roundw
            case rel => exact ⟨k + 1, by omega, by rw [st'.out]; go_num, by go_num, A3, L3, X3⟩
            case measure => simp [intOf]; omega
    · have kz : decide ((k : Int) < (n : Int)) = false := decide_eq_false (by omega)
      obtain rfl : k = n := by omega
      have T1 : Hid (Tabs wr) := ht.out.below HA.out
      obtain ⟨x0, x1, xl⟩ := HX.out
      rw [PN.out]
      clear ST P0 PB HR EL LL PN HL
      go_wp2_with fail
      refine (HP.out _ T1.out).mono ?_
      rintro e w2 ⟨⟨v, rfl, Q⟩, hb⟩
      obtain ⟨o2, c2, rfl⟩ := Sl.shape Q
      have A2 := Lib.hid (down HA.out hb)
      have X2 := Lib.hid (HX.out.keep hb)
      have T2 : Hid (Tabs w2) := ht.out.below A2.out
      clear hb Q HA HX x0 x1 xl
      obtain ⟨x0, x1, xl⟩ := X2.out
      go_wp2_with fail
      refine (HN.out _ T2.out).mono ?_
      rintro e w3 ⟨⟨v, rfl, Q⟩, hb⟩
      obtain ⟨o3, c3, rfl⟩ := Sl.shape Q
      have A3 := Lib.hid (down A2.out hb)
      clear hb Q x0 x1 xl
      go_wp2
      go_ret
      exact ⟨rfl, A3.out⟩
end Go.Proofs.YtiaidmjhgfaobaaDoor
