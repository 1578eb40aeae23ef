/- Contracts of civiltimeref06: Moved. -/
import Derived.Test.YtobipbmigpkhmaaDoorIsM
import Derived.Test.YtobipbmigpkhmaaDoorIsMov
import Derived.Test.YtobipbmigpkhmaaDoorLRefA
namespace Go.Proofs.YtobipbmigpkhmaaDoor
open Go.RowKit
set_option linter.unusedVariables false

/-- Whether Moved knows a kind, a month and a day. -/
def imovB (k m d : Int) : Bool := decide (1 ≤ k ∧ k ≤ 4 ∧ 1 ≤ m ∧ m ≤ 12 ∧ 1 ≤ d ∧ d ≤ 30 ∧ ¬ (d = 30 ∧ m % 2 = 0 ∧ ¬ m = 12))
theorem imovB_iff {k m d : Int} : imovB k m d = true ↔ 1 ≤ k ∧ k ≤ 4 ∧ 1 ≤ m ∧ m ≤ 12 ∧ 1 ≤ d ∧ d ≤ 30 ∧ ¬ (d = 30 ∧ m % 2 = 0 ∧ ¬ m = 12) := by unfold imovB; exact decide_eq_true_iff
set_option maxHeartbeats 1000000 in
theorem rimoved_arg (k y m d g : Int) (hk : I64 k) (hy : I64 y) (hm : I64 m) (hd : I64 d) (hg : I64 g) (h : imovB k m d = false) (w : World) :
    Calls Tryd.prog 31 #[.int .i64 k, .agg #[.int .i64 y, .int .i64 m, .int .i64 d], .int .i64 g] w fun e w' => e = .returned (.tuple #[.slice none 0 0, .int .i64 1]) ∧ Below w.heap.size w w' := by
  have HK := Lib.hid (fun w => rikd k hk w)
  have h' : ¬ (1 ≤ k ∧ k ≤ 4 ∧ 1 ≤ m ∧ m ≤ 12 ∧ 1 ≤ d ∧ d ≤ 30 ∧ ¬ (d = 30 ∧ m % 2 = 0 ∧ ¬ m = 12)) := fun q => by rw [imovB_iff.2 q] at h; exact absurd h (by simp)
  have t : ikd k = false ∨ ikd k = true ∧ decide (m < 1) = true ∨ ikd k = true ∧ decide (m < 1) = false ∧ decide (12 < m) = true ∨ ikd k = true ∧ decide (m < 1) = false ∧ decide (12 < m) = false ∧ decide (d < 1) = true ∨
      ikd k = true ∧ decide (m < 1) = false ∧ decide (12 < m) = false ∧ decide (d < 1) = false ∧ decide (30 < d) = true ∨
      ikd k = true ∧ decide (m < 1) = false ∧ decide (12 < m) = false ∧ decide (d < 1) = false ∧ decide (30 < d) = false ∧ (d == 30) = true ∧ 1 ≤ m ∧ m ≤ 12 ∧ (m % 2 == 0) = true ∧ (m != 12) = true := by
    cases c : ikd k
    · exact .inl rfl
    · have c' := ikd_iff.1 c
      by_cases m0 : m < 1
      · exact .inr (.inl ⟨rfl, decide_eq_true m0⟩)
      · by_cases m1 : 12 < m
        · exact .inr (.inr (.inl ⟨rfl, decide_eq_false m0, decide_eq_true m1⟩))
        · by_cases d0 : d < 1
          · exact .inr (.inr (.inr (.inl ⟨rfl, decide_eq_false m0, decide_eq_false m1, decide_eq_true d0⟩)))
          · by_cases d1 : 30 < d
            · exact .inr (.inr (.inr (.inr (.inl ⟨rfl, decide_eq_false m0, decide_eq_false m1, decide_eq_false d0, decide_eq_true d1⟩))))
            · exact .inr (.inr (.inr (.inr (.inr ⟨rfl, decide_eq_false m0, decide_eq_false m1, decide_eq_false d0, decide_eq_false d1, by simp; omega, by omega, by omega, by simp; omega, by simp; omega⟩))))
  clear h h'
  generalize ikd k = c at *
  obtain ⟨hm0, hm1⟩ := hm
  obtain ⟨hd0, hd1⟩ := hd
  rcases t with rfl | ⟨rfl, a1⟩ | ⟨rfl, a1, a2⟩ | ⟨rfl, a1, a2, a3⟩ | ⟨rfl, a1, a2, a3, a4⟩ | ⟨rfl, a1, a2, a3, a4, a5, a6, a7, a8, a9⟩
  all_goals
    go_enter Tryd.func31, Tryd.ntmps31
    go_wp2_with fail
    refine (HK.out _).mono ?_
    rintro e w1 ⟨rfl, rfl⟩
    go_wp2
    go_ret2
    exact ⟨rfl, grow (here w) _⟩
theorem imov_ok {k m d : Int} (h : imovB k m d = true) : ikd k = true ∧ decide (m < 1) = false ∧ decide (12 < m) = false ∧ decide (d < 1) = false ∧ decide (30 < d) = false ∧ ((d == 30) = false ∨ (d == 30) = true ∧ (m % 2 == 0) = false ∨ (d == 30) = true ∧ (m % 2 == 0) = true ∧ (m != 12) = false) := by
  obtain ⟨k0, k1, m0, m1, d0, d1, q⟩ := imovB_iff.1 h
  refine ⟨ikd_iff.2 ⟨k0, k1⟩, decide_eq_false (by omega), decide_eq_false (by omega), decide_eq_false (by omega), decide_eq_false (by omega), ?_⟩
  by_cases a : d = 30
  · by_cases b : m % 2 = 0
    · have c : m = 12 := by
        by_cases z : m = 12
        · exact z
        · exact absurd ⟨a, b, z⟩ q
      right; right; subst c; exact ⟨by simpa using a, by decide, by decide⟩
    · right; left; exact ⟨by simpa using a, by simpa using b⟩
  · left; simpa using a
set_option maxHeartbeats 1000000 in
theorem rimoved_range (k y m d g : Int) (hy : I64 y) (hg : I64 g) (h : imovB k m d = true) (h2 : g < 1 ∨ 9999 < g) (w : World) :
    Calls Tryd.prog 31 #[.int .i64 k, .agg #[.int .i64 y, .int .i64 m, .int .i64 d], .int .i64 g] w fun e w' => e = .returned (.tuple #[.slice none 0 0, .int .i64 2]) ∧ Below w.heap.size w w' := by
  obtain ⟨k0, k1, m0, m1, d0, d1, -⟩ := imovB_iff.1 h
  obtain ⟨c, a1, a2, a3, a4, t⟩ := imov_ok h
  have HK := fun w => rikd k ⟨by omega, by omega⟩ w
  rw [c] at HK
  replace HK := Lib.hid HK
  have u : decide (g < 1) = true ∨ decide (g < 1) = false ∧ decide (9999 < g) = true := by
    by_cases z : g < 1
    · exact .inl (decide_eq_true z)
    · exact .inr ⟨decide_eq_false z, decide_eq_true (by omega)⟩
  obtain ⟨hg0, hg1⟩ := hg
  clear h h2 c
  rcases t with a5 | ⟨a5, a6⟩ | ⟨a5, a6, a7⟩ <;> rcases u with u1 | ⟨u1, u2⟩
  all_goals
    go_enter Tryd.func31, Tryd.ntmps31
    go_wp2_with fail
    refine (HK.out _).mono ?_
    rintro e w1 ⟨rfl, rfl⟩
    go_wp2
    go_ret2
    exact ⟨rfl, grow (here w) _⟩
theorem infoInt : (Tryd.prog.info? 3).map (fun i => (i.zero, i.size, i.bytes)) = some (some (.int .i64 0), 1, 8) := by kernel_rfl
theorem jan_first {g : Int} (g0 : 1 ≤ g) (g1 : g ≤ 9999) : vld g 1 1 = true ∧ vld g 12 31 = true ∧ dayN g 12 31 ≤ dayN g 1 1 + 365 ∧ dayN g 1 1 ≤ dayN g 12 31 := by
  have a := lenM_in g0 g1 (m := 1) (by omega) (by omega)
  have l : lenM g 12 = 31 := by unfold lenM; rw [if_neg (by omega), if_neg (by omega), if_neg (by omega)]
  have b : vld g 12 31 = true := vld_iff.2 ⟨by omega, by omega⟩
  have c : vld g 1 1 = true := vld_iff.2 ⟨by omega, by omega⟩
  have d := day_in b
  have e := day_in c
  have f := first_succ g0 g1
  have h := lp_01 g
  have i := cum_one g
  have j := cum_bd g0 g1 (m := 12) (by omega) (by omega)
  exact ⟨c, b, by omega, by omega⟩
/-- The loop behind Moved's tests. -/
def movA (F : Int) : Int := if F < -492148 then 0 else 30 * ((F + 492148) / 10631)
set_option maxHeartbeats 2000000 in
set_option maxRecDepth 100000 in
theorem rimoved_yes (k y m d g : Int) (hy : I64 y) (h : imovB k m d = true) (g0 : 1 ≤ g) (g1 : g ≤ 9999) (w : World) :
    Calls Tryd.prog 31 #[.int .i64 k, .agg #[.int .i64 y, .int .i64 m, .int .i64 d], .int .i64 g] w fun e w' => (∃ v, e = .returned (.tuple #[v, .int .i64 0]) ∧ IntS w.heap.size w' v (imovL k m d (dayN g 1 1) (dayN g 12 31) 9601)) ∧ Below w.heap.size w w' := by
  obtain ⟨k0, k1, m0, m1, d0, d1, -⟩ := imovB_iff.1 h
  obtain ⟨c, a1, a2, a3, a4, t⟩ := imov_ok h
  have HK := fun w => rikd k ⟨by omega, by omega⟩ w
  rw [c] at HK
  replace HK := Lib.hid HK
  have u1 : decide (g < 1) = false := decide_eq_false (by omega)
  have u2 : decide (9999 < g) = false := decide_eq_false (by omega)
  obtain ⟨vf, vl, lf, ll⟩ := jan_first g0 g1
  have rf := day_range vf
  have rl := day_range vl
  have HF := fun w => refday_yes g 1 1 vf w
  have HL := fun w => refday_yes g 12 31 vl w
  generalize dayN g 1 1 = F at *
  generalize dayN g 12 31 = L at *
  replace HF := Lib.hid HF
  replace HL := Lib.hid HL
  have HD := Lib.hid (fun x (x0 : 1 ≤ x) (x1 : x ≤ 9600) w => riday k x m d ⟨by omega, by omega⟩ ⟨by omega, by omega⟩ ⟨by omega, by omega⟩ ⟨by omega, by omega⟩ w)
  obtain ⟨rf0, rf1⟩ := rf
  obtain ⟨rl0, rl1⟩ := rl
  obtain ⟨T, hT⟩ : ∃ T, (F + 492148).tdiv 10631 = T := ⟨_, rfl⟩
  have e : F < -492148 ∧ -300 ≤ T ∧ T ≤ 0 ∨ ¬ F < -492148 ∧ T = (F + 492148) / 10631 ∧ 0 ≤ T ∧ T ≤ 330 := by
    by_cases z : F < -492148
    · left; refine ⟨z, ?_⟩; rw [← hT, show F + 492148 = -(-F - 492148) by omega, Int.neg_tdiv, Int.tdiv_eq_ediv_of_nonneg (by omega)]; omega
    · right; refine ⟨z, ?_⟩; rw [← hT, Int.tdiv_eq_ediv_of_nonneg (by omega)]; omega
  have fin : ∃ A B : Nat, 1 ≤ A ∧ A ≤ 9700 ∧ B ≤ 9600 ∧ imovL k m d F L A = [] ∧ (∀ x : Nat, B + 1 ≤ x → imovL k m d F L x = imovL k m d F L 9601) ∧
      (decide (F < -492148) = true ∧ A = 1 ∧ B = 35 ∨ decide (F < -492148) = false ∧ 0 ≤ F + 492148 ∧ (A : Int) = (if 30 * T - 1 < 1 then 1 else 30 * T - 1) ∧ (B : Int) = (if 9600 < 30 * T + 35 then 9600 else 30 * T + 35)) := by
    have more : ∀ B : Nat, B ≤ 9600 → (∀ i : Nat, B + 1 ≤ i → imovO k m d F L i = none) → ∀ x : Nat, B + 1 ≤ x → imovL k m d F L x = imovL k m d F L 9601 := fun B hB hn x hx => by
      have p := imovL_more (k := k) (m := m) (d := d) (a := F) (b := L) (x := B + 1) (x - (B + 1)) (fun i h0 h1 => hn i h0)
      have q := imovL_more (k := k) (m := m) (d := d) (a := F) (b := L) (x := B + 1) (9601 - (B + 1)) (fun i h0 h1 => hn i h0)
      rw [show B + 1 + (x - (B + 1)) = x by omega] at p
      rw [show B + 1 + (9601 - (B + 1)) = 9601 by omega] at q
      rw [p, q]
    rcases e with ⟨z, -⟩ | ⟨z, hTe, T0, T1⟩
    · exact ⟨1, 35, by omega, by omega, by omega, imovL_none fun i hi => imov_zero (.inl (by omega)), more 35 (by omega) fun i h0 => imov_late k0 k1 lf (.inr ⟨z, by omega⟩), .inl ⟨decide_eq_true z, rfl, rfl⟩⟩
    · have hT2 : T ≤ 322 := by omega
      have hA : ((if 30 * T - 1 < 1 then 1 else 30 * T - 1 : Int) = 1 ∧ 30 * T ≤ 1 ∨ (if 30 * T - 1 < 1 then 1 else 30 * T - 1 : Int) = 30 * T - 1 ∧ 2 ≤ 30 * T) := by split <;> omega
      have hB : ((if 9600 < 30 * T + 35 then 9600 else 30 * T + 35 : Int) = 9600 ∧ 9600 < 30 * T + 35 ∨ (if 9600 < 30 * T + 35 then 9600 else 30 * T + 35 : Int) = 30 * T + 35 ∧ 30 * T + 35 ≤ 9600) := by split <;> omega
      generalize (if 30 * T - 1 < 1 then 1 else 30 * T - 1 : Int) = a at *
      generalize (if 9600 < 30 * T + 35 then 9600 else 30 * T + 35 : Int) = b at *
      refine ⟨a.toNat, b.toNat, by omega, by omega, by omega, imovL_none fun i hi => ?_, more b.toNat (by omega) fun i h0 => ?_, .inr ⟨decide_eq_false z, by omega, by omega, by omega⟩⟩
      · by_cases i0 : i = 0
        · exact imov_zero (.inl (by omega))
        · refine imov_early k0 k1 (by omega) ?_
          rw [← hTe]; omega
      · rcases hB with ⟨hB, -⟩ | ⟨hB, -⟩
        · exact imov_zero (.inr (by omega))
        · refine imov_late k0 k1 lf (.inl ⟨by omega, ?_⟩)
          rw [← hTe]; omega
  have tb : -300 ≤ T ∧ T ≤ 330 := by omega
  obtain ⟨tb0, tb1⟩ := tb
  obtain ⟨A, B, A0, AB, B1, LA, LB, alt⟩ := fin
  have LBh := Lib.hid LB
  have HQ : Hid (∀ x : Int, -1000000 ≤ idN k x m d ∧ idN k x m d ≤ 3000000) := fun x => by
    unfold idN
    split
    · rename_i q; have := iday_range q; omega
    · omega
  have LAh := Lib.hid LA
  have LLh : Hid (∀ x : Nat, (imovL k m d F L x).length ≤ x) := fun x => imovL_len k m d F L x
  have Hhit : Hid (∀ x : Nat, ivld k x m d = true → F ≤ idayN k x m d → idayN k x m d ≤ L → imovL k m d F L (x + 1) = imovL k m d F L x ++ [idayN k x m d]) := fun x h a b => imovL_hit h a b
  have Hmiss : Hid (∀ x : Nat, ¬ (ivld k x m d = true ∧ F ≤ idayN k x m d ∧ idayN k x m d ≤ L) → imovL k m d F L (x + 1) = imovL k m d F L x) := fun x h => imovL_miss h
  obtain ⟨i0, hi, hz0, hz1, hz2⟩ := info_parts infoInt
  clear LA LB e h c vf vl lf ll
  generalize hLL : imovL k m d F L = LL at *
  clear hLL
  rcases alt with ⟨b1, rfl, rfl⟩ | ⟨b1, b2, eA, eB⟩
  · rcases t with a5 | ⟨a5, a6⟩ | ⟨a5, a6, a7⟩
    · go_enter Tryd.func31, Tryd.ntmps31
      go_wp2_with fail
      refine (HK.out _).mono ?_
      rintro e w1 ⟨rfl, rfl⟩
      go_wp2_with fail
      refine (HF.out _).mono ?_
      rintro e w1 ⟨rfl, hb⟩
      have A1 := Lib.hid (down (grow (here w) _) hb)
      have D1 := Lib.hid (Box.new hb)
      clear hb
      go_wp2_with fail
      refine (HL.out _).mono ?_
      rintro e w2 ⟨rfl, hb⟩
      have A2 := Lib.hid (down A1.out hb)
      have D2 := Lib.hid (D1.out.keep hb)
      clear hb A1 D1
      go_wp2
      have ne2 : Hid (w.heap.size < w2.heap.size) := D2.out.lt
      go_loopw [12, 14] (fun a b wr => ∃ (x : Nat) (v : Value), 1 ≤ x ∧ x ≤ 9700 ∧ v = a ∧ b = .int .i64 x ∧ Hid (Below w2.heap.size w2 wr) ∧ Hid (Box wr w.heap.size (.int .i64 y) (.int .i64 m) (.int .i64 d)) ∧ Hid (wr.ownsRow w2.heap.size 3 1 v (LL x).length (ints (LL x)))) (fun _ b _ => (9800 - intOf b).toNat)
      case atStart => exact ⟨1, .slice none 0 0, by omega, by omega, rfl, rfl, here _, D2.out, by show World.ownsRow _ _ _ _ _ _ _; rw [LAh.out]; exact World.ownsRow_nil _ _ _ _⟩
      case round =>
        obtain ⟨x, v, x0, x1, rfl, rfl, HA, HD1, HO⟩ := hrel
        by_cases z : x ≤ 35
        · have kz : decide ((x : Int) ≤ (35 : Int)) = true := decide_eq_true (by omega)
          obtain ⟨bq0, bq1⟩ := HQ.out x
          have HDx := Lib.hid (fun w => HD.out x (by omega) (by omega) w)
          have fate : (idE k x m d = 0 ∧ decide (F ≤ idN k x m d) = true ∧ decide (idN k x m d ≤ L) = true ∧ Hid (LL (x + 1) = LL x ++ [idN k x m d])) ∨ ((idE k x m d = 1 ∨ idE k x m d = 0 ∧ decide (F ≤ idN k x m d) = false ∨ idE k x m d = 0 ∧ decide (F ≤ idN k x m d) = true ∧ decide (idN k x m d ≤ L) = false) ∧ Hid (LL (x + 1) = LL x)) := by
            by_cases hv : ivld k x m d = true
            · have hN : idN k x m d = idayN k x m d := by unfold idN; rw [if_pos hv]
              have hE : idE k x m d = 0 := by unfold idE; rw [if_pos hv]
              rw [hN, hE]
              by_cases q1 : F ≤ idayN k x m d
              · by_cases q2 : idayN k x m d ≤ L
                · exact .inl ⟨rfl, decide_eq_true q1, decide_eq_true q2, Hhit.out x hv q1 q2⟩
                · exact .inr ⟨.inr (.inr ⟨rfl, decide_eq_true q1, decide_eq_false q2⟩), Hmiss.out x fun r => q2 r.2.2⟩
              · exact .inr ⟨.inr (.inl ⟨rfl, decide_eq_false q1⟩), Hmiss.out x fun r => q1 r.2.1⟩
            · have hE : idE k x m d = 1 := by unfold idE; rw [if_neg hv]
              exact .inr ⟨.inl hE, Hmiss.out x fun r => hv r.1⟩
          have lx := Lib.hid (LLh.out x)
          obtain ⟨c0, c1, c2, cz⟩ := HD1.out
          clear HK HF HL HQ LAh LLh Hhit Hmiss HD LBh
          generalize idN k x m d = n at *
          generalize idE k x m d = E at *
          rcases fate with ⟨rfl, q1, q2, hs⟩ | ⟨q, hs⟩
          · go_wp2_with fail
            refine (HDx.out _).mono ?_
            rintro e w3 ⟨rfl, hb⟩
            have A3 := Lib.hid (HA.out.trans (hb.mono HA.out.size))
            have D3 := Lib.hid (HD1.out.keep hb)
            have O3 := Lib.hid (owns_below HO.out hb)
            have S3 : Hid (w2.heap.size ≤ w3.heap.size) := A3.out.size
            clear hb HA HD1 HO c0 c1 c2 cz HDx
            go_wp2_with (at_builtin; refine wpList_append_own _ rfl _ _ 50 rfl w2.heap.size 3 i0 (.int .i64 0) 1 8 Tryd.underlying50 hi hz0 hz1 hz2 rfl (by decide) v (LL x).length (ints (LL x)) rfl (O3.out.alloc _) ⟨w3.heap.size, 0, none⟩ 1 1 [.int .i64 n] rfl rfl ?c1_0 ?c2_0 ?c3_0 ?c4_0 ?c5_0 ?_)
            case c1_0 =>
              intro j u hj
              rw [Addr.add_lit, Nat.zero_add, World.cell?_alloc_new]
              simpa using hj
            case c2_0 => intro u hu; simp at hu; subst hu; rfl
            case c3_0 => have := lx.out; unfold maxLen; omega
            case c4_0 => have := lx.out; omega
            case c5_0 => have := S3.out; simp; omega
            intro v' w4 hown hgrow _
            have G : Below w2.heap.size w3 w4 := ((Below.refl _ _).alloc S3.out _).grown hgrow (by have := S3.out; simp; omega) (own_ge O3.out)
            have A4 := Lib.hid (A3.out.trans G)
            have D4 := Lib.hid (D3.out.under G ne2.out)
            rcases hown.2 with ⟨-, hzz⟩ | ⟨gg, cap, cur, rfl, -⟩
            · exact absurd hzz (by omega)
            have O4 : Hid (w4.ownsRow w2.heap.size 3 1 (.slice (some ⟨gg, 0, none⟩) ((LL x).length + 1) cap) (LL (x + 1)).length (ints (LL (x + 1)))) := by
              show World.ownsRow _ _ _ _ _ _ _
              rw [hs.out]
              simpa [ints] using hown
            clear hown hgrow G A3 D3 O3 S3
            go_wp2
            go_roundw
            case rel => exact ⟨x + 1, _, by omega, by omega, rfl, by go_num, A4, D4, O4⟩
            case measure => simp [intOf]; omega
          · rcases q with rfl | ⟨rfl, q1⟩ | ⟨rfl, q1, q2⟩
            all_goals
              go_wp2_with fail
              refine (HDx.out _).mono ?_
              rintro e w3 ⟨rfl, hb⟩
              have A3 := Lib.hid (HA.out.trans (hb.mono HA.out.size))
              have D3 := Lib.hid (HD1.out.keep hb)
              have O3 : Hid (w3.ownsRow w2.heap.size 3 1 v (LL (x + 1)).length (ints (LL (x + 1)))) := by
                show World.ownsRow _ _ _ _ _ _ _
                rw [hs.out]; exact owns_below HO.out hb
              clear hb HA HD1 HO c0 c1 c2 cz HDx
              go_wp2
              go_roundw
              case rel => exact ⟨x + 1, _, by omega, by omega, rfl, by go_num, A3, D3, O3⟩
              case measure => simp [intOf]; omega
        · have kz : decide ((x : Int) ≤ (35 : Int)) = false := decide_eq_false (by omega)
          have O3 : Hid (IntS w.heap.size wr v (LL 9601)) := by
            show Sl _ _ _ _ _
            rw [← LBh.out x (by omega)]; exact (Sl.owns HO.out).weak (Nat.le_of_lt ne2.out)
          have A3 := Lib.hid (down A2.out HA.out)
          clear HK HF HL HQ LAh LLh Hhit Hmiss HD LBh HO HD1 HA
          go_wp2
          go_ret2
          exact ⟨⟨v, rfl, O3.out⟩, A3.out⟩
    · go_enter Tryd.func31, Tryd.ntmps31
      go_wp2_with fail
      refine (HK.out _).mono ?_
      rintro e w1 ⟨rfl, rfl⟩
      go_wp2_with fail
      refine (HF.out _).mono ?_
      rintro e w1 ⟨rfl, hb⟩
      have A1 := Lib.hid (down (grow (here w) _) hb)
      have D1 := Lib.hid (Box.new hb)
      clear hb
      go_wp2_with fail
      refine (HL.out _).mono ?_
      rintro e w2 ⟨rfl, hb⟩
      have A2 := Lib.hid (down A1.out hb)
      have D2 := Lib.hid (D1.out.keep hb)
      clear hb A1 D1
      go_wp2
      have ne2 : Hid (w.heap.size < w2.heap.size) := D2.out.lt
      go_loopw [12, 14] (fun a b wr => ∃ (x : Nat) (v : Value), 1 ≤ x ∧ x ≤ 9700 ∧ v = a ∧ b = .int .i64 x ∧ Hid (Below w2.heap.size w2 wr) ∧ Hid (Box wr w.heap.size (.int .i64 y) (.int .i64 m) (.int .i64 d)) ∧ Hid (wr.ownsRow w2.heap.size 3 1 v (LL x).length (ints (LL x)))) (fun _ b _ => (9800 - intOf b).toNat)
      case atStart => exact ⟨1, .slice none 0 0, by omega, by omega, rfl, rfl, here _, D2.out, by show World.ownsRow _ _ _ _ _ _ _; rw [LAh.out]; exact World.ownsRow_nil _ _ _ _⟩
      case round =>
        obtain ⟨x, v, x0, x1, rfl, rfl, HA, HD1, HO⟩ := hrel
        by_cases z : x ≤ 35
        · have kz : decide ((x : Int) ≤ (35 : Int)) = true := decide_eq_true (by omega)
          obtain ⟨bq0, bq1⟩ := HQ.out x
          have HDx := Lib.hid (fun w => HD.out x (by omega) (by omega) w)
          have fate : (idE k x m d = 0 ∧ decide (F ≤ idN k x m d) = true ∧ decide (idN k x m d ≤ L) = true ∧ Hid (LL (x + 1) = LL x ++ [idN k x m d])) ∨ ((idE k x m d = 1 ∨ idE k x m d = 0 ∧ decide (F ≤ idN k x m d) = false ∨ idE k x m d = 0 ∧ decide (F ≤ idN k x m d) = true ∧ decide (idN k x m d ≤ L) = false) ∧ Hid (LL (x + 1) = LL x)) := by
            by_cases hv : ivld k x m d = true
            · have hN : idN k x m d = idayN k x m d := by unfold idN; rw [if_pos hv]
              have hE : idE k x m d = 0 := by unfold idE; rw [if_pos hv]
              rw [hN, hE]
              by_cases q1 : F ≤ idayN k x m d
              · by_cases q2 : idayN k x m d ≤ L
                · exact .inl ⟨rfl, decide_eq_true q1, decide_eq_true q2, Hhit.out x hv q1 q2⟩
                · exact .inr ⟨.inr (.inr ⟨rfl, decide_eq_true q1, decide_eq_false q2⟩), Hmiss.out x fun r => q2 r.2.2⟩
              · exact .inr ⟨.inr (.inl ⟨rfl, decide_eq_false q1⟩), Hmiss.out x fun r => q1 r.2.1⟩
            · have hE : idE k x m d = 1 := by unfold idE; rw [if_neg hv]
              exact .inr ⟨.inl hE, Hmiss.out x fun r => hv r.1⟩
          have lx := Lib.hid (LLh.out x)
          obtain ⟨c0, c1, c2, cz⟩ := HD1.out
          clear HK HF HL HQ LAh LLh Hhit Hmiss HD LBh
          generalize idN k x m d = n at *
          generalize idE k x m d = E at *
          rcases fate with ⟨rfl, q1, q2, hs⟩ | ⟨q, hs⟩
          · go_wp2_with fail
            refine (HDx.out _).mono ?_
            rintro e w3 ⟨rfl, hb⟩
            have A3 := Lib.hid (HA.out.trans (hb.mono HA.out.size))
            have D3 := Lib.hid (HD1.out.keep hb)
            have O3 := Lib.hid (owns_below HO.out hb)
            have S3 : Hid (w2.heap.size ≤ w3.heap.size) := A3.out.size
            clear hb HA HD1 HO c0 c1 c2 cz HDx
            go_wp2_with (at_builtin; refine wpList_append_own _ rfl _ _ 50 rfl w2.heap.size 3 i0 (.int .i64 0) 1 8 Tryd.underlying50 hi hz0 hz1 hz2 rfl (by decide) v (LL x).length (ints (LL x)) rfl (O3.out.alloc _) ⟨w3.heap.size, 0, none⟩ 1 1 [.int .i64 n] rfl rfl ?c1_1 ?c2_1 ?c3_1 ?c4_1 ?c5_1 ?_)
            case c1_1 =>
              intro j u hj
              rw [Addr.add_lit, Nat.zero_add, World.cell?_alloc_new]
              simpa using hj
            case c2_1 => intro u hu; simp at hu; subst hu; rfl
            case c3_1 => have := lx.out; unfold maxLen; omega
            case c4_1 => have := lx.out; omega
            case c5_1 => have := S3.out; simp; omega
            intro v' w4 hown hgrow _
            have G : Below w2.heap.size w3 w4 := ((Below.refl _ _).alloc S3.out _).grown hgrow (by have := S3.out; simp; omega) (own_ge O3.out)
            have A4 := Lib.hid (A3.out.trans G)
            have D4 := Lib.hid (D3.out.under G ne2.out)
            rcases hown.2 with ⟨-, hzz⟩ | ⟨gg, cap, cur, rfl, -⟩
            · exact absurd hzz (by omega)
            have O4 : Hid (w4.ownsRow w2.heap.size 3 1 (.slice (some ⟨gg, 0, none⟩) ((LL x).length + 1) cap) (LL (x + 1)).length (ints (LL (x + 1)))) := by
              show World.ownsRow _ _ _ _ _ _ _
              rw [hs.out]
              simpa [ints] using hown
            clear hown hgrow G A3 D3 O3 S3
            go_wp2
            go_roundw
            case rel => exact ⟨x + 1, _, by omega, by omega, rfl, by go_num, A4, D4, O4⟩
            case measure => simp [intOf]; omega
          · rcases q with rfl | ⟨rfl, q1⟩ | ⟨rfl, q1, q2⟩
            all_goals
              go_wp2_with fail
              refine (HDx.out _).mono ?_
              rintro e w3 ⟨rfl, hb⟩
              have A3 := Lib.hid (HA.out.trans (hb.mono HA.out.size))
              have D3 := Lib.hid (HD1.out.keep hb)
              have O3 : Hid (w3.ownsRow w2.heap.size 3 1 v (LL (x + 1)).length (ints (LL (x + 1)))) := by
                show World.ownsRow _ _ _ _ _ _ _
                rw [hs.out]; exact owns_below HO.out hb
              clear hb HA HD1 HO c0 c1 c2 cz HDx
              go_wp2
              go_roundw
              case rel => exact ⟨x + 1, _, by omega, by omega, rfl, by go_num, A3, D3, O3⟩
              case measure => simp [intOf]; omega
        · have kz : decide ((x : Int) ≤ (35 : Int)) = false := decide_eq_false (by omega)
          have O3 : Hid (IntS w.heap.size wr v (LL 9601)) := by
            show Sl _ _ _ _ _
            rw [← LBh.out x (by omega)]; exact (Sl.owns HO.out).weak (Nat.le_of_lt ne2.out)
          have A3 := Lib.hid (down A2.out HA.out)
          clear HK HF HL HQ LAh LLh Hhit Hmiss HD LBh HO HD1 HA
          go_wp2
          go_ret2
          exact ⟨⟨v, rfl, O3.out⟩, A3.out⟩
    · go_enter Tryd.func31, Tryd.ntmps31
      go_wp2_with fail
      refine (HK.out _).mono ?_
      rintro e w1 ⟨rfl, rfl⟩
      go_wp2_with fail
      refine (HF.out _).mono ?_
      rintro e w1 ⟨rfl, hb⟩
      have A1 := Lib.hid (down (grow (here w) _) hb)
      have D1 := Lib.hid (Box.new hb)
      clear hb
      go_wp2_with fail
      refine (HL.out _).mono ?_
      rintro e w2 ⟨rfl, hb⟩
      have A2 := Lib.hid (down A1.out hb)
      have D2 := Lib.hid (D1.out.keep hb)
      clear hb A1 D1
      go_wp2
      have ne2 : Hid (w.heap.size < w2.heap.size) := D2.out.lt
      go_loopw [12, 14] (fun a b wr => ∃ (x : Nat) (v : Value), 1 ≤ x ∧ x ≤ 9700 ∧ v = a ∧ b = .int .i64 x ∧ Hid (Below w2.heap.size w2 wr) ∧ Hid (Box wr w.heap.size (.int .i64 y) (.int .i64 m) (.int .i64 d)) ∧ Hid (wr.ownsRow w2.heap.size 3 1 v (LL x).length (ints (LL x)))) (fun _ b _ => (9800 - intOf b).toNat)
      case atStart => exact ⟨1, .slice none 0 0, by omega, by omega, rfl, rfl, here _, D2.out, by show World.ownsRow _ _ _ _ _ _ _; rw [LAh.out]; exact World.ownsRow_nil _ _ _ _⟩
      case round =>
        obtain ⟨x, v, x0, x1, rfl, rfl, HA, HD1, HO⟩ := hrel
        by_cases z : x ≤ 35
        · have kz : decide ((x : Int) ≤ (35 : Int)) = true := decide_eq_true (by omega)
          obtain ⟨bq0, bq1⟩ := HQ.out x
          have HDx := Lib.hid (fun w => HD.out x (by omega) (by omega) w)
          have fate : (idE k x m d = 0 ∧ decide (F ≤ idN k x m d) = true ∧ decide (idN k x m d ≤ L) = true ∧ Hid (LL (x + 1) = LL x ++ [idN k x m d])) ∨ ((idE k x m d = 1 ∨ idE k x m d = 0 ∧ decide (F ≤ idN k x m d) = false ∨ idE k x m d = 0 ∧ decide (F ≤ idN k x m d) = true ∧ decide (idN k x m d ≤ L) = false) ∧ Hid (LL (x + 1) = LL x)) := by
            by_cases hv : ivld k x m d = true
            · have hN : idN k x m d = idayN k x m d := by unfold idN; rw [if_pos hv]
              have hE : idE k x m d = 0 := by unfold idE; rw [if_pos hv]
              rw [hN, hE]
              by_cases q1 : F ≤ idayN k x m d
              · by_cases q2 : idayN k x m d ≤ L
                · exact .inl ⟨rfl, decide_eq_true q1, decide_eq_true q2, Hhit.out x hv q1 q2⟩
                · exact .inr ⟨.inr (.inr ⟨rfl, decide_eq_true q1, decide_eq_false q2⟩), Hmiss.out x fun r => q2 r.2.2⟩
              · exact .inr ⟨.inr (.inl ⟨rfl, decide_eq_false q1⟩), Hmiss.out x fun r => q1 r.2.1⟩
            · have hE : idE k x m d = 1 := by unfold idE; rw [if_neg hv]
              exact .inr ⟨.inl hE, Hmiss.out x fun r => hv r.1⟩
          have lx := Lib.hid (LLh.out x)
          obtain ⟨c0, c1, c2, cz⟩ := HD1.out
          clear HK HF HL HQ LAh LLh Hhit Hmiss HD LBh
          generalize idN k x m d = n at *
          generalize idE k x m d = E at *
          rcases fate with ⟨rfl, q1, q2, hs⟩ | ⟨q, hs⟩
          · go_wp2_with fail
            refine (HDx.out _).mono ?_
            rintro e w3 ⟨rfl, hb⟩
            have A3 := Lib.hid (HA.out.trans (hb.mono HA.out.size))
            have D3 := Lib.hid (HD1.out.keep hb)
            have O3 := Lib.hid (owns_below HO.out hb)
            have S3 : Hid (w2.heap.size ≤ w3.heap.size) := A3.out.size
            clear hb HA HD1 HO c0 c1 c2 cz HDx
            go_wp2_with (at_builtin; refine wpList_append_own _ rfl _ _ 50 rfl w2.heap.size 3 i0 (.int .i64 0) 1 8 Tryd.underlying50 hi hz0 hz1 hz2 rfl (by decide) v (LL x).length (ints (LL x)) rfl (O3.out.alloc _) ⟨w3.heap.size, 0, none⟩ 1 1 [.int .i64 n] rfl rfl ?c1_2 ?c2_2 ?c3_2 ?c4_2 ?c5_2 ?_)
            case c1_2 =>
              intro j u hj
              rw [Addr.add_lit, Nat.zero_add, World.cell?_alloc_new]
              simpa using hj
            case c2_2 => intro u hu; simp at hu; subst hu; rfl
            case c3_2 => have := lx.out; unfold maxLen; omega
            case c4_2 => have := lx.out; omega
            case c5_2 => have := S3.out; simp; omega
            intro v' w4 hown hgrow _
            have G : Below w2.heap.size w3 w4 := ((Below.refl _ _).alloc S3.out _).grown hgrow (by have := S3.out; simp; omega) (own_ge O3.out)
            have A4 := Lib.hid (A3.out.trans G)
            have D4 := Lib.hid (D3.out.under G ne2.out)
            rcases hown.2 with ⟨-, hzz⟩ | ⟨gg, cap, cur, rfl, -⟩
            · exact absurd hzz (by omega)
            have O4 : Hid (w4.ownsRow w2.heap.size 3 1 (.slice (some ⟨gg, 0, none⟩) ((LL x).length + 1) cap) (LL (x + 1)).length (ints (LL (x + 1)))) := by
              show World.ownsRow _ _ _ _ _ _ _
              rw [hs.out]
              simpa [ints] using hown
            clear hown hgrow G A3 D3 O3 S3
            go_wp2
            go_roundw
            case rel => exact ⟨x + 1, _, by omega, by omega, rfl, by go_num, A4, D4, O4⟩
            case measure => simp [intOf]; omega
          · rcases q with rfl | ⟨rfl, q1⟩ | ⟨rfl, q1, q2⟩
            all_goals
              go_wp2_with fail
              refine (HDx.out _).mono ?_
              rintro e w3 ⟨rfl, hb⟩
              have A3 := Lib.hid (HA.out.trans (hb.mono HA.out.size))
              have D3 := Lib.hid (HD1.out.keep hb)
              have O3 : Hid (w3.ownsRow w2.heap.size 3 1 v (LL (x + 1)).length (ints (LL (x + 1)))) := by
                show World.ownsRow _ _ _ _ _ _ _
                rw [hs.out]; exact owns_below HO.out hb
              clear hb HA HD1 HO c0 c1 c2 cz HDx
              go_wp2
              go_roundw
              case rel => exact ⟨x + 1, _, by omega, by omega, rfl, by go_num, A3, D3, O3⟩
              case measure => simp [intOf]; omega
        · have kz : decide ((x : Int) ≤ (35 : Int)) = false := decide_eq_false (by omega)
          have O3 : Hid (IntS w.heap.size wr v (LL 9601)) := by
            show Sl _ _ _ _ _
            rw [← LBh.out x (by omega)]; exact (Sl.owns HO.out).weak (Nat.le_of_lt ne2.out)
          have A3 := Lib.hid (down A2.out HA.out)
          clear HK HF HL HQ LAh LLh Hhit Hmiss HD LBh HO HD1 HA
          go_wp2
          go_ret2
          exact ⟨⟨v, rfl, O3.out⟩, A3.out⟩
  · rcases t with a5 | ⟨a5, a6⟩ | ⟨a5, a6, a7⟩
    · replace eA := eA.symm
      replace eB := eB.symm
      go_enter Tryd.func31, Tryd.ntmps31
      go_wp2_with fail
      refine (HK.out _).mono ?_
      rintro e w1 ⟨rfl, rfl⟩
      go_wp2_with fail
      refine (HF.out _).mono ?_
      rintro e w1 ⟨rfl, hb⟩
      have A1 := Lib.hid (down (grow (here w) _) hb)
      have D1 := Lib.hid (Box.new hb)
      clear hb
      go_wp2_with fail
      refine (HL.out _).mono ?_
      rintro e w2 ⟨rfl, hb⟩
      have A2 := Lib.hid (down A1.out hb)
      have D2 := Lib.hid (D1.out.keep hb)
      clear hb A1 D1
      go_wp2
      have ne2 : Hid (w.heap.size < w2.heap.size) := D2.out.lt
      go_loopw [12, 14] (fun a b wr => ∃ (x : Nat) (v : Value), A ≤ x ∧ x ≤ 9700 ∧ v = a ∧ b = .int .i64 x ∧ Hid (Below w2.heap.size w2 wr) ∧ Hid (Box wr w.heap.size (.int .i64 y) (.int .i64 m) (.int .i64 d)) ∧ Hid (wr.ownsRow w2.heap.size 3 1 v (LL x).length (ints (LL x)))) (fun _ b _ => (9800 - intOf b).toNat)
      case atStart => exact ⟨A, .slice none 0 0, by omega, by omega, rfl, rfl, here _, D2.out, by show World.ownsRow _ _ _ _ _ _ _; rw [LAh.out]; exact World.ownsRow_nil _ _ _ _⟩
      case round =>
        obtain ⟨x, v, x0, x1, rfl, rfl, HA, HD1, HO⟩ := hrel
        by_cases z : x ≤ B
        · have kz : decide ((x : Int) ≤ (B : Int)) = true := decide_eq_true (by omega)
          obtain ⟨bq0, bq1⟩ := HQ.out x
          have HDx := Lib.hid (fun w => HD.out x (by omega) (by omega) w)
          have fate : (idE k x m d = 0 ∧ decide (F ≤ idN k x m d) = true ∧ decide (idN k x m d ≤ L) = true ∧ Hid (LL (x + 1) = LL x ++ [idN k x m d])) ∨ ((idE k x m d = 1 ∨ idE k x m d = 0 ∧ decide (F ≤ idN k x m d) = false ∨ idE k x m d = 0 ∧ decide (F ≤ idN k x m d) = true ∧ decide (idN k x m d ≤ L) = false) ∧ Hid (LL (x + 1) = LL x)) := by
            by_cases hv : ivld k x m d = true
            · have hN : idN k x m d = idayN k x m d := by unfold idN; rw [if_pos hv]
              have hE : idE k x m d = 0 := by unfold idE; rw [if_pos hv]
              rw [hN, hE]
              by_cases q1 : F ≤ idayN k x m d
              · by_cases q2 : idayN k x m d ≤ L
                · exact .inl ⟨rfl, decide_eq_true q1, decide_eq_true q2, Hhit.out x hv q1 q2⟩
                · exact .inr ⟨.inr (.inr ⟨rfl, decide_eq_true q1, decide_eq_false q2⟩), Hmiss.out x fun r => q2 r.2.2⟩
              · exact .inr ⟨.inr (.inl ⟨rfl, decide_eq_false q1⟩), Hmiss.out x fun r => q1 r.2.1⟩
            · have hE : idE k x m d = 1 := by unfold idE; rw [if_neg hv]
              exact .inr ⟨.inl hE, Hmiss.out x fun r => hv r.1⟩
          have lx := Lib.hid (LLh.out x)
          obtain ⟨c0, c1, c2, cz⟩ := HD1.out
          clear HK HF HL HQ LAh LLh Hhit Hmiss HD LBh
          generalize idN k x m d = n at *
          generalize idE k x m d = E at *
          rcases fate with ⟨rfl, q1, q2, hs⟩ | ⟨q, hs⟩
          · go_wp2_with fail
            refine (HDx.out _).mono ?_
            rintro e w3 ⟨rfl, hb⟩
            have A3 := Lib.hid (HA.out.trans (hb.mono HA.out.size))
            have D3 := Lib.hid (HD1.out.keep hb)
            have O3 := Lib.hid (owns_below HO.out hb)
            have S3 : Hid (w2.heap.size ≤ w3.heap.size) := A3.out.size
            clear hb HA HD1 HO c0 c1 c2 cz HDx
            go_wp2_with (at_builtin; refine wpList_append_own _ rfl _ _ 50 rfl w2.heap.size 3 i0 (.int .i64 0) 1 8 Tryd.underlying50 hi hz0 hz1 hz2 rfl (by decide) v (LL x).length (ints (LL x)) rfl (O3.out.alloc _) ⟨w3.heap.size, 0, none⟩ 1 1 [.int .i64 n] rfl rfl ?c1_3 ?c2_3 ?c3_3 ?c4_3 ?c5_3 ?_)
            case c1_3 =>
              intro j u hj
              rw [Addr.add_lit, Nat.zero_add, World.cell?_alloc_new]
              simpa using hj
            case c2_3 => intro u hu; simp at hu; subst hu; rfl
            case c3_3 => have := lx.out; unfold maxLen; omega
            case c4_3 => have := lx.out; omega
            case c5_3 => have := S3.out; simp; omega
            intro v' w4 hown hgrow _
            have G : Below w2.heap.size w3 w4 := ((Below.refl _ _).alloc S3.out _).grown hgrow (by have := S3.out; simp; omega) (own_ge O3.out)
            have A4 := Lib.hid (A3.out.trans G)
            have D4 := Lib.hid (D3.out.under G ne2.out)
            rcases hown.2 with ⟨-, hzz⟩ | ⟨gg, cap, cur, rfl, -⟩
            · exact absurd hzz (by omega)
            have O4 : Hid (w4.ownsRow w2.heap.size 3 1 (.slice (some ⟨gg, 0, none⟩) ((LL x).length + 1) cap) (LL (x + 1)).length (ints (LL (x + 1)))) := by
              show World.ownsRow _ _ _ _ _ _ _
              rw [hs.out]
              simpa [ints] using hown
            clear hown hgrow G A3 D3 O3 S3
            go_wp2
            go_roundw
            case rel => exact ⟨x + 1, _, by omega, by omega, rfl, by go_num, A4, D4, O4⟩
            case measure => simp [intOf]; omega
          · rcases q with rfl | ⟨rfl, q1⟩ | ⟨rfl, q1, q2⟩
            all_goals
              go_wp2_with fail
              refine (HDx.out _).mono ?_
              rintro e w3 ⟨rfl, hb⟩
              have A3 := Lib.hid (HA.out.trans (hb.mono HA.out.size))
              have D3 := Lib.hid (HD1.out.keep hb)
              have O3 : Hid (w3.ownsRow w2.heap.size 3 1 v (LL (x + 1)).length (ints (LL (x + 1)))) := by
                show World.ownsRow _ _ _ _ _ _ _
                rw [hs.out]; exact owns_below HO.out hb
              clear hb HA HD1 HO c0 c1 c2 cz HDx
              go_wp2
              go_roundw
              case rel => exact ⟨x + 1, _, by omega, by omega, rfl, by go_num, A3, D3, O3⟩
              case measure => simp [intOf]; omega
        · have kz : decide ((x : Int) ≤ (B : Int)) = false := decide_eq_false (by omega)
          have O3 : Hid (IntS w.heap.size wr v (LL 9601)) := by
            show Sl _ _ _ _ _
            rw [← LBh.out x (by omega)]; exact (Sl.owns HO.out).weak (Nat.le_of_lt ne2.out)
          have A3 := Lib.hid (down A2.out HA.out)
          clear HK HF HL HQ LAh LLh Hhit Hmiss HD LBh HO HD1 HA
          go_wp2
          go_ret2
          exact ⟨⟨v, rfl, O3.out⟩, A3.out⟩
    · replace eA := eA.symm
      replace eB := eB.symm
      go_enter Tryd.func31, Tryd.ntmps31
      go_wp2_with fail
      refine (HK.out _).mono ?_
      rintro e w1 ⟨rfl, rfl⟩
      go_wp2_with fail
      refine (HF.out _).mono ?_
      rintro e w1 ⟨rfl, hb⟩
      have A1 := Lib.hid (down (grow (here w) _) hb)
      have D1 := Lib.hid (Box.new hb)
      clear hb
      go_wp2_with fail
      refine (HL.out _).mono ?_
      rintro e w2 ⟨rfl, hb⟩
      have A2 := Lib.hid (down A1.out hb)
      have D2 := Lib.hid (D1.out.keep hb)
      clear hb A1 D1
      go_wp2
      have ne2 : Hid (w.heap.size < w2.heap.size) := D2.out.lt
      go_loopw [12, 14] (fun a b wr => ∃ (x : Nat) (v : Value), A ≤ x ∧ x ≤ 9700 ∧ v = a ∧ b = .int .i64 x ∧ Hid (Below w2.heap.size w2 wr) ∧ Hid (Box wr w.heap.size (.int .i64 y) (.int .i64 m) (.int .i64 d)) ∧ Hid (wr.ownsRow w2.heap.size 3 1 v (LL x).length (ints (LL x)))) (fun _ b _ => (9800 - intOf b).toNat)
      case atStart => exact ⟨A, .slice none 0 0, by omega, by omega, rfl, rfl, here _, D2.out, by show World.ownsRow _ _ _ _ _ _ _; rw [LAh.out]; exact World.ownsRow_nil _ _ _ _⟩
      case round =>
        obtain ⟨x, v, x0, x1, rfl, rfl, HA, HD1, HO⟩ := hrel
        by_cases z : x ≤ B
        · have kz : decide ((x : Int) ≤ (B : Int)) = true := decide_eq_true (by omega)
          obtain ⟨bq0, bq1⟩ := HQ.out x
          have HDx := Lib.hid (fun w => HD.out x (by omega) (by omega) w)
          have fate : (idE k x m d = 0 ∧ decide (F ≤ idN k x m d) = true ∧ decide (idN k x m d ≤ L) = true ∧ Hid (LL (x + 1) = LL x ++ [idN k x m d])) ∨ ((idE k x m d = 1 ∨ idE k x m d = 0 ∧ decide (F ≤ idN k x m d) = false ∨ idE k x m d = 0 ∧ decide (F ≤ idN k x m d) = true ∧ decide (idN k x m d ≤ L) = false) ∧ Hid (LL (x + 1) = LL x)) := by
            by_cases hv : ivld k x m d = true
            · have hN : idN k x m d = idayN k x m d := by unfold idN; rw [if_pos hv]
              have hE : idE k x m d = 0 := by unfold idE; rw [if_pos hv]
              rw [hN, hE]
              by_cases q1 : F ≤ idayN k x m d
              · by_cases q2 : idayN k x m d ≤ L
                · exact .inl ⟨rfl, decide_eq_true q1, decide_eq_true q2, Hhit.out x hv q1 q2⟩
                · exact .inr ⟨.inr (.inr ⟨rfl, decide_eq_true q1, decide_eq_false q2⟩), Hmiss.out x fun r => q2 r.2.2⟩
              · exact .inr ⟨.inr (.inl ⟨rfl, decide_eq_false q1⟩), Hmiss.out x fun r => q1 r.2.1⟩
            · have hE : idE k x m d = 1 := by unfold idE; rw [if_neg hv]
              exact .inr ⟨.inl hE, Hmiss.out x fun r => hv r.1⟩
          have lx := Lib.hid (LLh.out x)
          obtain ⟨c0, c1, c2, cz⟩ := HD1.out
          clear HK HF HL HQ LAh LLh Hhit Hmiss HD LBh
          generalize idN k x m d = n at *
          generalize idE k x m d = E at *
          rcases fate with ⟨rfl, q1, q2, hs⟩ | ⟨q, hs⟩
          · go_wp2_with fail
            refine (HDx.out _).mono ?_
            rintro e w3 ⟨rfl, hb⟩
            have A3 := Lib.hid (HA.out.trans (hb.mono HA.out.size))
            have D3 := Lib.hid (HD1.out.keep hb)
            have O3 := Lib.hid (owns_below HO.out hb)
            have S3 : Hid (w2.heap.size ≤ w3.heap.size) := A3.out.size
            clear hb HA HD1 HO c0 c1 c2 cz HDx
            go_wp2_with (at_builtin; refine wpList_append_own _ rfl _ _ 50 rfl w2.heap.size 3 i0 (.int .i64 0) 1 8 Tryd.underlying50 hi hz0 hz1 hz2 rfl (by decide) v (LL x).length (ints (LL x)) rfl (O3.out.alloc _) ⟨w3.heap.size, 0, none⟩ 1 1 [.int .i64 n] rfl rfl ?c1_4 ?c2_4 ?c3_4 ?c4_4 ?c5_4 ?_)
            case c1_4 =>
              intro j u hj
              rw [Addr.add_lit, Nat.zero_add, World.cell?_alloc_new]
              simpa using hj
            case c2_4 => intro u hu; simp at hu; subst hu; rfl
            case c3_4 => have := lx.out; unfold maxLen; omega
            case c4_4 => have := lx.out; omega
            case c5_4 => have := S3.out; simp; omega
            intro v' w4 hown hgrow _
            have G : Below w2.heap.size w3 w4 := ((Below.refl _ _).alloc S3.out _).grown hgrow (by have := S3.out; simp; omega) (own_ge O3.out)
            have A4 := Lib.hid (A3.out.trans G)
            have D4 := Lib.hid (D3.out.under G ne2.out)
            rcases hown.2 with ⟨-, hzz⟩ | ⟨gg, cap, cur, rfl, -⟩
            · exact absurd hzz (by omega)
            have O4 : Hid (w4.ownsRow w2.heap.size 3 1 (.slice (some ⟨gg, 0, none⟩) ((LL x).length + 1) cap) (LL (x + 1)).length (ints (LL (x + 1)))) := by
              show World.ownsRow _ _ _ _ _ _ _
              rw [hs.out]
              simpa [ints] using hown
            clear hown hgrow G A3 D3 O3 S3
            go_wp2
            go_roundw
            case rel => exact ⟨x + 1, _, by omega, by omega, rfl, by go_num, A4, D4, O4⟩
            case measure => simp [intOf]; omega
          · rcases q with rfl | ⟨rfl, q1⟩ | ⟨rfl, q1, q2⟩
            all_goals
              go_wp2_with fail
              refine (HDx.out _).mono ?_
              rintro e w3 ⟨rfl, hb⟩
              have A3 := Lib.hid (HA.out.trans (hb.mono HA.out.size))
              have D3 := Lib.hid (HD1.out.keep hb)
              have O3 : Hid (w3.ownsRow w2.heap.size 3 1 v (LL (x + 1)).length (ints (LL (x + 1)))) := by
                show World.ownsRow _ _ _ _ _ _ _
                rw [hs.out]; exact owns_below HO.out hb
              clear hb HA HD1 HO c0 c1 c2 cz HDx
              go_wp2
              go_roundw
              case rel => exact ⟨x + 1, _, by omega, by omega, rfl, by go_num, A3, D3, O3⟩
              case measure => simp [intOf]; omega
        · have kz : decide ((x : Int) ≤ (B : Int)) = false := decide_eq_false (by omega)
          have O3 : Hid (IntS w.heap.size wr v (LL 9601)) := by
            show Sl _ _ _ _ _
            rw [← LBh.out x (by omega)]; exact (Sl.owns HO.out).weak (Nat.le_of_lt ne2.out)
          have A3 := Lib.hid (down A2.out HA.out)
          clear HK HF HL HQ LAh LLh Hhit Hmiss HD LBh HO HD1 HA
          go_wp2
          go_ret2
          exact ⟨⟨v, rfl, O3.out⟩, A3.out⟩
    · replace eA := eA.symm
      replace eB := eB.symm
      go_enter Tryd.func31, Tryd.ntmps31
      go_wp2_with fail
      refine (HK.out _).mono ?_
      rintro e w1 ⟨rfl, rfl⟩
      go_wp2_with fail
      refine (HF.out _).mono ?_
      rintro e w1 ⟨rfl, hb⟩
      have A1 := Lib.hid (down (grow (here w) _) hb)
      have D1 := Lib.hid (Box.new hb)
      clear hb
      go_wp2_with fail
      refine (HL.out _).mono ?_
      rintro e w2 ⟨rfl, hb⟩
      have A2 := Lib.hid (down A1.out hb)
      have D2 := Lib.hid (D1.out.keep hb)
      clear hb A1 D1
      go_wp2
      have ne2 : Hid (w.heap.size < w2.heap.size) := D2.out.lt
      go_loopw [12, 14] (fun a b wr => ∃ (x : Nat) (v : Value), A ≤ x ∧ x ≤ 9700 ∧ v = a ∧ b = .int .i64 x ∧ Hid (Below w2.heap.size w2 wr) ∧ Hid (Box wr w.heap.size (.int .i64 y) (.int .i64 m) (.int .i64 d)) ∧ Hid (wr.ownsRow w2.heap.size 3 1 v (LL x).length (ints (LL x)))) (fun _ b _ => (9800 - intOf b).toNat)
      case atStart => exact ⟨A, .slice none 0 0, by omega, by omega, rfl, rfl, here _, D2.out, by show World.ownsRow _ _ _ _ _ _ _; rw [LAh.out]; exact World.ownsRow_nil _ _ _ _⟩
      case round =>
        obtain ⟨x, v, x0, x1, rfl, rfl, HA, HD1, HO⟩ := hrel
        by_cases z : x ≤ B
        · have kz : decide ((x : Int) ≤ (B : Int)) = true := decide_eq_true (by omega)
          obtain ⟨bq0, bq1⟩ := HQ.out x
          have HDx := Lib.hid (fun w => HD.out x (by omega) (by omega) w)
          have fate : (idE k x m d = 0 ∧ decide (F ≤ idN k x m d) = true ∧ decide (idN k x m d ≤ L) = true ∧ Hid (LL (x + 1) = LL x ++ [idN k x m d])) ∨ ((idE k x m d = 1 ∨ idE k x m d = 0 ∧ decide (F ≤ idN k x m d) = false ∨ idE k x m d = 0 ∧ decide (F ≤ idN k x m d) = true ∧ decide (idN k x m d ≤ L) = false) ∧ Hid (LL (x + 1) = LL x)) := by
            by_cases hv : ivld k x m d = true
            · have hN : idN k x m d = idayN k x m d := by unfold idN; rw [if_pos hv]
              have hE : idE k x m d = 0 := by unfold idE; rw [if_pos hv]
              rw [hN, hE]
              by_cases q1 : F ≤ idayN k x m d
              · by_cases q2 : idayN k x m d ≤ L
                · exact .inl ⟨rfl, decide_eq_true q1, decide_eq_true q2, Hhit.out x hv q1 q2⟩
                · exact .inr ⟨.inr (.inr ⟨rfl, decide_eq_true q1, decide_eq_false q2⟩), Hmiss.out x fun r => q2 r.2.2⟩
              · exact .inr ⟨.inr (.inl ⟨rfl, decide_eq_false q1⟩), Hmiss.out x fun r => q1 r.2.1⟩
            · have hE : idE k x m d = 1 := by unfold idE; rw [if_neg hv]
              exact .inr ⟨.inl hE, Hmiss.out x fun r => hv r.1⟩
          have lx := Lib.hid (LLh.out x)
          obtain ⟨c0, c1, c2, cz⟩ := HD1.out
          clear HK HF HL HQ LAh LLh Hhit Hmiss HD LBh
          generalize idN k x m d = n at *
          generalize idE k x m d = E at *
          rcases fate with ⟨rfl, q1, q2, hs⟩ | ⟨q, hs⟩
          · go_wp2_with fail
            refine (HDx.out _).mono ?_
            rintro e w3 ⟨rfl, hb⟩
            have A3 := Lib.hid (HA.out.trans (hb.mono HA.out.size))
            have D3 := Lib.hid (HD1.out.keep hb)
            have O3 := Lib.hid (owns_below HO.out hb)
            have S3 : Hid (w2.heap.size ≤ w3.heap.size) := A3.out.size
            clear hb HA HD1 HO c0 c1 c2 cz HDx
            go_wp2_with (at_builtin; refine wpList_append_own _ rfl _ _ 50 rfl w2.heap.size 3 i0 (.int .i64 0) 1 8 Tryd.underlying50 hi hz0 hz1 hz2 rfl (by decide) v (LL x).length (ints (LL x)) rfl (O3.out.alloc _) ⟨w3.heap.size, 0, none⟩ 1 1 [.int .i64 n] rfl rfl ?c1_5 ?c2_5 ?c3_5 ?c4_5 ?c5_5 ?_)
            case c1_5 =>
              intro j u hj
              rw [Addr.add_lit, Nat.zero_add, World.cell?_alloc_new]
              simpa using hj
            case c2_5 => intro u hu; simp at hu; subst hu; rfl
            case c3_5 => have := lx.out; unfold maxLen; omega
            case c4_5 => have := lx.out; omega
            case c5_5 => have := S3.out; simp; omega
            intro v' w4 hown hgrow _
            have G : Below w2.heap.size w3 w4 := ((Below.refl _ _).alloc S3.out _).grown hgrow (by have := S3.out; simp; omega) (own_ge O3.out)
            have A4 := Lib.hid (A3.out.trans G)
            have D4 := Lib.hid (D3.out.under G ne2.out)
            rcases hown.2 with ⟨-, hzz⟩ | ⟨gg, cap, cur, rfl, -⟩
            · exact absurd hzz (by omega)
            have O4 : Hid (w4.ownsRow w2.heap.size 3 1 (.slice (some ⟨gg, 0, none⟩) ((LL x).length + 1) cap) (LL (x + 1)).length (ints (LL (x + 1)))) := by
              show World.ownsRow _ _ _ _ _ _ _
              rw [hs.out]
              simpa [ints] using hown
            clear hown hgrow G A3 D3 O3 S3
            go_wp2
            go_roundw
            case rel => exact ⟨x + 1, _, by omega, by omega, rfl, by go_num, A4, D4, O4⟩
            case measure => simp [intOf]; omega
          · rcases q with rfl | ⟨rfl, q1⟩ | ⟨rfl, q1, q2⟩
            all_goals
              go_wp2_with fail
              refine (HDx.out _).mono ?_
              rintro e w3 ⟨rfl, hb⟩
              have A3 := Lib.hid (HA.out.trans (hb.mono HA.out.size))
              have D3 := Lib.hid (HD1.out.keep hb)
              have O3 : Hid (w3.ownsRow w2.heap.size 3 1 v (LL (x + 1)).length (ints (LL (x + 1)))) := by
                show World.ownsRow _ _ _ _ _ _ _
                rw [hs.out]; exact owns_below HO.out hb
              clear hb HA HD1 HO c0 c1 c2 cz HDx
              go_wp2
              go_roundw
              case rel => exact ⟨x + 1, _, by omega, by omega, rfl, by go_num, A3, D3, O3⟩
              case measure => simp [intOf]; omega
        · have kz : decide ((x : Int) ≤ (B : Int)) = false := decide_eq_false (by omega)
          have O3 : Hid (IntS w.heap.size wr v (LL 9601)) := by
            show Sl _ _ _ _ _
            rw [← LBh.out x (by omega)]; exact (Sl.owns HO.out).weak (Nat.le_of_lt ne2.out)
          have A3 := Lib.hid (down A2.out HA.out)
          clear HK HF HL HQ LAh LLh Hhit Hmiss HD LBh HO HD1 HA
          go_wp2
          go_ret2
          exact ⟨⟨v, rfl, O3.out⟩, A3.out⟩
end Go.Proofs.YtobipbmigpkhmaaDoor
