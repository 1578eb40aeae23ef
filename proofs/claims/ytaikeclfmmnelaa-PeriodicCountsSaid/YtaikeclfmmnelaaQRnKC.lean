/- Contracts of package runs: combine, Union, Meet, Minus, Either, Not. -/
import Derived.Test.YtaikeclfmmnelaaQGD
import Derived.Test.YtaikeclfmmnelaaQGE
import Derived.Test.YtaikeclfmmnelaaQGA
import Derived.Deep.LoopGhost
import Derived.Shelf.RegionOpenPlain
namespace Go.Proofs.Ytaikeclfmmnelaa

open Go.RowKit

set_option linter.unusedVariables false

set_option maxRecDepth 100000 in
set_option maxHeartbeats 8000000 in
theorem rucombine (k : Int) (g : FuncId) (eg : ∀ args w, (callFunc g args).run Try.prog w = .ok (.enter g args) w) (hg : ∀ (x y : Bool) (w : World), Calls Try.prog g #[.bool x, .bool y] w fun e w' => e = .returned (.bool (kpB k x y)) ∧ w = w')
    (va vb : Value) (A B : List Sp) (hA : A.length ≤ maxLen) (hB : B.length ≤ maxLen) {ba bb : Nat} (w : World) (a : PairS ba w va A) (b : PairS bb w vb B) :
    Calls Try.prog 89 #[va, vb, .func (.func g) #[] #[]] w fun e w' => (∃ v', e = .returned (.tuple #[v', .int .i64 (ruAp k A B).2]) ∧ PairS w.heap.size w' v' (ruAp k A B).1 ∧ CapS v') ∧ Below w.heap.size w w' := by
  obtain ⟨i0, hi, hz0, hz1, hz2⟩ := info_parts infoS
  have VA := ruvalid va A hA w a
  have VB := Lib.hid (fun W (h : Below w.heap.size w W) => ruvalid vb B hB W (b.keep h))
  have PA := Lib.hid a
  have PB := Lib.hid b
  clear a b
  cases p : vaB A
  · rw [p] at VA
    have r2 : Hid (ruAp k A B = ([], 1)) := by show _ = _; exact ap_arg (by rw [p]; rfl)
    clear p VB PA PB hg eg hA hB
    go_enter Try.func89, Try.ntmps89
    go_wp2_with fail
    refine VA.mono ?_
    rintro e w1 ⟨rfl, hb⟩
    replace hb := Lib.hid hb
    go_wp2
    go_ret2
    rw [r2.out]
    exact ⟨⟨_, rfl, Sl.none _ _, cap_nil⟩, hb.out⟩
  rw [p] at VA
  cases q : vaB B
  · rw [q] at VB
    have r2 : Hid (ruAp k A B = ([], 1)) := by show _ = _; exact ap_arg (by rw [p, q]; rfl)
    clear p q PA PB hg eg hA hB
    go_enter Try.func89, Try.ntmps89
    go_wp2_with fail
    refine VA.mono ?_
    rintro e w1 ⟨rfl, hb⟩
    replace hb := Lib.hid hb
    go_wp2_with fail
    refine (VB.out _ hb.out).mono ?_
    rintro e w2 ⟨rfl, h2⟩
    have A2 := Lib.hid (down hb.out h2)
    clear h2 hb
    go_wp2
    go_ret2
    rw [r2.out]
    exact ⟨⟨_, rfl, Sl.none _ _, cap_nil⟩, A2.out⟩
  rw [q] at VB
  have la := va_len p
  have lb := va_len q
  have ST := Lib.hid (fun (i j : Nat) (fr : Int) (kp : Bool) (R : List Sp) (N : Int) (S : SwI k A B i j fr kp R N) (h : i < 2 * A.length ∨ j < 2 * B.length) (i' j' : Nat) (hi : i' = if edL A i = N then i + 1 else i) (hj : j' = if edL B j = N then j + 1 else j) (kp' : Bool) (hk : kp' = kpB k (decide (i' % 2 = 1)) (decide (j' % 2 = 1))) => sw_step (va_cn p) (va_ln p) (va_cn q) (va_ln q) S h hi hj hk)
  have S0 := Lib.hid (sw_start (k := k) (va_cn p) (va_ln p) (va_cn q) (va_ln q))
  have SE := Lib.hid (fun (i j : Nat) (fr : Int) (kp : Bool) (R : List Sp) (N : Int) (S : SwI k A B i j fr kp R N) (hi : 2 * A.length ≤ i) (hj : 2 * B.length ≤ j) => sw_end (va_ln p) (va_ln q) S hi hj)
  have EA := Lib.hid (fun x hx W (h : PairS ba W va A) => ruend va A p x hx W h)
  have EB := Lib.hid (fun x hx W (h : PairS bb W vb B) => ruend vb B q x hx W h)
  have ED := Lib.hid (fun (i : Nat) (h : i < 2 * B.length) => ed_top (va_cn q) (va_ln q) h)
  have r0 : Hid (ruAp k A B = ruFull (cbL k A B)) := by show _ = _; unfold ruAp; rw [p, q]; rfl
  obtain ⟨o1, c1, rfl⟩ := prs_shape PA.out
  obtain ⟨o2, c2, rfl⟩ := prs_shape PB.out
  clear p q
  obtain ⟨n, hl⟩ : ∃ n, A.length = n := ⟨_, rfl⟩
  obtain ⟨m, hm⟩ : ∃ m, B.length = m := ⟨_, rfl⟩
  rw [hl] at la ST SE EA VA PA hA
  rw [hm] at lb ST SE EB VB PB hB ED
  clear hA hB
  rw [hl, hm]
  go_enter Try.func89, Try.ntmps89
  go_wp2_with fail
  refine VA.mono ?_
  rintro e w1 ⟨rfl, hb⟩
  replace hb := Lib.hid hb
  go_wp2_with fail
  refine (VB.out _ hb.out).mono ?_
  rintro e w2 ⟨rfl, h2⟩
  have A2 := Lib.hid (down hb.out h2)
  clear h2 hb VA VB
  have I0 : Hid (w2.ownsRow w.heap.size 37 2 (.slice none 0 0) ([] : List Sp).length (pairs [])) := World.ownsRow_nil _ _ _ _
  go_wp2
  go_loopw [8, 9, 10, 11, 12] (fun s i j f kp wr => ∃ (x y : Nat) (fr : Int) (p : Bool) (R : List Sp) (N : Int) (s' : Value), s' = s ∧ i = .int .i64 x ∧ j = .int .i64 y ∧ f = .int .i64 fr ∧ kp = .bool p ∧ Hid (SwI k A B x y fr p R N) ∧ Hid (wr.ownsRow w.heap.size 37 2 s R.length (pairs R)) ∧ Hid (Below w.heap.size w wr)) (fun _ i j _ _ _ => 2 * n + 2 * m - ((intOf i).toNat + (intOf j).toNat))
  case atStart => exact ⟨0, 0, 0, false, [], _, _, rfl, rfl, rfl, rfl, rfl, S0, I0, A2⟩
  case round =>
    obtain ⟨x, y, fr, p, R, N, s', rfl, rfl, rfl, rfl, rfl, HS, HO, HA⟩ := hrel
    have PA2 := Lib.hid (PA.out.keep HA.out)
    have PB2 := Lib.hid (PB.out.keep HA.out)
    clear A2 I0 S0
    have xn := HS.out.i1
    have ym := HS.out.j1
    have rln := HS.out.ln
    rw [hl] at xn
    rw [hm] at ym
    obtain ⟨r, rl⟩ : ∃ r, Hid (R.length = r) := ⟨_, rfl⟩
    rw [rl.out] at HO rln
    by_cases z : x < 2 * n ∨ y < 2 * m
    · have ST := Lib.hid (fun i' j' => ST.out _ _ _ _ _ _ HS.out z i' j')
      have HE := Lib.hid (fun W h => EA.out x xn W h)
      have HF := Lib.hid (fun W h => EB.out y ym W h)
      have n1 := HS.out.n1
      have ex : edL A x = N → x < 2 * n := fun h => by
        rcases Nat.lt_or_ge x (2 * n) with z' | z'
        · exact z'
        · rw [ed_off (by omega)] at h
          rcases z with z | z
          · exact z
          · have := ED.out y z
            rw [n1] at h
            split at h <;> omega
      obtain ⟨x1, hx1⟩ : ∃ x1 : Nat, x + 1 = x1 := ⟨_, rfl⟩
      obtain ⟨y1, hy1⟩ : ∃ y1 : Nat, y + 1 = y1 := ⟨_, rfl⟩
      have cx : (x : Int) + 1 = (x1 : Int) := by omega
      have cy : (y : Int) + 1 = (y1 : Int) := by omega
      obtain ⟨ea, ha⟩ : ∃ ea, Hid (edL A x = ea) := ⟨_, rfl⟩
      obtain ⟨eb, hb⟩ : ∃ eb, Hid (edL B y = eb) := ⟨_, rfl⟩
      rw [ha.out] at HE ex n1
      rw [hb.out] at HF n1
      have nn : (if eb < ea then eb else ea) = N := n1.symm
      have some1 : ea = N ∨ eb = N := by rw [n1]; split <;> simp
      clear n1 EA EB SE ED r0 HS
      by_cases e1 : ea = N
      · have z1 := ex e1
        have k1 : decide ((x : Int) < 2 * (n : Int)) = true := decide_eq_true (by omega)
        clear ex z some1
        by_cases e2 : eb = N
        · skip
          have q1 : (ea == N) = true := beq_iff_eq.2 e1
          have q2 : (eb == N) = true := beq_iff_eq.2 e2
          have S1 := ST.out x1 y1 (by rw [if_pos (ha.out.trans e1)]; omega) (by rw [if_pos (hb.out.trans e2)]; omega) _ rfl
          obtain ⟨S2, more⟩ := S1
          have HX := Lib.hid (fun W => ruinside x1 (by omega) W)
          have HY := Lib.hid (fun W => ruinside y1 (by omega) W)
          have HK := Lib.hid (fun W => hg (decide (x1 % 2 = 1)) (decide (y1 % 2 = 1)) W)
          replace S2 := Lib.hid S2
          clear e1 e2 ST ha hb
          generalize decide (x1 % 2 = 1) = ox at *
          generalize decide (y1 % 2 = 1) = oy at *
          generalize kpB k ox oy = p' at *
          cases p <;> cases p'
          · skip
            replace S2 : Hid (SwI k A B x1 y1 fr false R _) := S2
            go_wp2_with fail
            refine (HE.out _ PA2.out).mono ?_
            rintro e z1 ⟨rfl, rfl⟩
            go_wp2_with fail
            refine (HF.out _ PB2.out).mono ?_
            rintro e z1 ⟨rfl, rfl⟩
            go_wp2_with fail
            refine (HE.out _ PA2.out).mono ?_
            rintro e z1 ⟨rfl, rfl⟩
            go_wp2_with fail
            refine (HF.out _ PB2.out).mono ?_
            rintro e z1 ⟨rfl, rfl⟩
            go_wp2_with fail
            refine (HX.out _).mono ?_
            rintro e z1 ⟨rfl, rfl⟩
            go_wp2_with fail
            refine (HY.out _).mono ?_
            rintro e z1 ⟨rfl, rfl⟩
            have O4 : Hid (wr.ownsRow w.heap.size 37 2 s' R.length (pairs R)) := by show World.ownsRow _ _ _ _ _ _ _; rw [rl.out]; exact HO.out
            go_wp2_with (go_at_fn g; refine (HK.out _).mono ?_; rintro e z1 ⟨rfl, rfl⟩)
            go_roundw
            case rel => exact ⟨x1, y1, fr, false, _, _, _, rfl, rfl, rfl, rfl, rfl, S2, O4, HA⟩
            case measure => simp [intOf]; omega
          · skip
            replace S2 : Hid (SwI k A B x1 y1 N true R _) := S2
            go_wp2_with fail
            refine (HE.out _ PA2.out).mono ?_
            rintro e z1 ⟨rfl, rfl⟩
            go_wp2_with fail
            refine (HF.out _ PB2.out).mono ?_
            rintro e z1 ⟨rfl, rfl⟩
            go_wp2_with fail
            refine (HE.out _ PA2.out).mono ?_
            rintro e z1 ⟨rfl, rfl⟩
            go_wp2_with fail
            refine (HF.out _ PB2.out).mono ?_
            rintro e z1 ⟨rfl, rfl⟩
            go_wp2_with fail
            refine (HX.out _).mono ?_
            rintro e z1 ⟨rfl, rfl⟩
            go_wp2_with fail
            refine (HY.out _).mono ?_
            rintro e z1 ⟨rfl, rfl⟩
            have O4 : Hid (wr.ownsRow w.heap.size 37 2 s' R.length (pairs R)) := by show World.ownsRow _ _ _ _ _ _ _; rw [rl.out]; exact HO.out
            go_wp2_with (go_at_fn g; refine (HK.out _).mono ?_; rintro e z1 ⟨rfl, rfl⟩)
            go_roundw
            case rel => exact ⟨x1, y1, N, true, _, _, _, rfl, rfl, rfl, rfl, rfl, S2, O4, HA⟩
            case measure => simp [intOf]; omega
          · skip
            replace S2 : Hid (SwI k A B x1 y1 fr false (R ++ [(fr, N)]) _) := S2
            go_wp2_with fail
            refine (HE.out _ PA2.out).mono ?_
            rintro e z1 ⟨rfl, rfl⟩
            go_wp2_with fail
            refine (HF.out _ PB2.out).mono ?_
            rintro e z1 ⟨rfl, rfl⟩
            go_wp2_with fail
            refine (HE.out _ PA2.out).mono ?_
            rintro e z1 ⟨rfl, rfl⟩
            go_wp2_with fail
            refine (HF.out _ PB2.out).mono ?_
            rintro e z1 ⟨rfl, rfl⟩
            go_wp2_with fail
            refine (HX.out _).mono ?_
            rintro e z1 ⟨rfl, rfl⟩
            go_wp2_with fail
            refine (HY.out _).mono ?_
            rintro e z1 ⟨rfl, rfl⟩
            go_wp2_with (first | (go_at_fn g; refine (HK.out _).mono ?_; rintro e z1 ⟨rfl, rfl⟩) | (at_builtin; refine wpList_append_own _ rfl _ _ 22 rfl w.heap.size 37 i0 (.agg #[.int .i64 0, .int .i64 0]) 2 16 Try.underlying22 hi hz0 hz1 hz2 rfl (by decide) s' r (pairs R) rfl (HO.out.alloc _) ⟨wr.heap.size, 0, none⟩ 1 1 [.int .i64 fr, .int .i64 N] rfl rfl ?c1 ?c2 ?c3 ?c4 ?c5 ?_))
            case c1 => intro j u hj; rw [Addr.add_lit, Nat.zero_add, World.cell?_alloc_new]; simpa using hj
            case c2 => intro u hu; simp at hu; rcases hu with rfl | rfl <;> rfl
            case c3 => unfold maxLen; omega
            case c4 => omega
            case c5 => have := HA.out.size; simp; omega
            intro v4 w4 hown hgrow _
            have B4 : Hid (Below w.heap.size w w4) := (HA.out.alloc HA.out.size _).grown hgrow (by have := HA.out.size; simp; omega) (own_ge HO.out)
            have O4 : Hid (w4.ownsRow w.heap.size 37 2 v4 (R ++ [(fr, N)]).length (pairs (R ++ [(fr, N)]))) := by show World.ownsRow _ _ _ _ _ _ _; rw [List.length_append, rl.out, pairs_append]; exact hown
            clear hown hgrow
            go_wp2
            go_roundw
            case rel => exact ⟨x1, y1, fr, false, _, _, _, rfl, rfl, rfl, rfl, rfl, S2, O4, B4⟩
            case measure => simp [intOf]; omega
          · skip
            replace S2 : Hid (SwI k A B x1 y1 fr true R _) := S2
            go_wp2_with fail
            refine (HE.out _ PA2.out).mono ?_
            rintro e z1 ⟨rfl, rfl⟩
            go_wp2_with fail
            refine (HF.out _ PB2.out).mono ?_
            rintro e z1 ⟨rfl, rfl⟩
            go_wp2_with fail
            refine (HE.out _ PA2.out).mono ?_
            rintro e z1 ⟨rfl, rfl⟩
            go_wp2_with fail
            refine (HF.out _ PB2.out).mono ?_
            rintro e z1 ⟨rfl, rfl⟩
            go_wp2_with fail
            refine (HX.out _).mono ?_
            rintro e z1 ⟨rfl, rfl⟩
            go_wp2_with fail
            refine (HY.out _).mono ?_
            rintro e z1 ⟨rfl, rfl⟩
            have O4 : Hid (wr.ownsRow w.heap.size 37 2 s' R.length (pairs R)) := by show World.ownsRow _ _ _ _ _ _ _; rw [rl.out]; exact HO.out
            go_wp2_with (go_at_fn g; refine (HK.out _).mono ?_; rintro e z1 ⟨rfl, rfl⟩)
            go_roundw
            case rel => exact ⟨x1, y1, fr, true, _, _, _, rfl, rfl, rfl, rfl, rfl, S2, O4, HA⟩
            case measure => simp [intOf]; omega
        · skip
          have q1 : (ea == N) = true := beq_iff_eq.2 e1
          have q2 : (eb == N) = false := by rw [beq_eq_false_iff_ne]; exact e2
          have S1 := ST.out x1 y (by rw [if_pos (ha.out.trans e1)]; omega) (by rw [if_neg (fun h => e2 (hb.out.symm.trans h))]) _ rfl
          obtain ⟨S2, more⟩ := S1
          have HX := Lib.hid (fun W => ruinside x1 (by omega) W)
          have HY := Lib.hid (fun W => ruinside y (by omega) W)
          have HK := Lib.hid (fun W => hg (decide (x1 % 2 = 1)) (decide (y % 2 = 1)) W)
          replace S2 := Lib.hid S2
          clear e1 e2 ST ha hb
          generalize decide (x1 % 2 = 1) = ox at *
          generalize decide (y % 2 = 1) = oy at *
          generalize kpB k ox oy = p' at *
          cases p <;> cases p'
          · skip
            replace S2 : Hid (SwI k A B x1 y fr false R _) := S2
            go_wp2_with fail
            refine (HE.out _ PA2.out).mono ?_
            rintro e z1 ⟨rfl, rfl⟩
            go_wp2_with fail
            refine (HF.out _ PB2.out).mono ?_
            rintro e z1 ⟨rfl, rfl⟩
            go_wp2_with fail
            refine (HE.out _ PA2.out).mono ?_
            rintro e z1 ⟨rfl, rfl⟩
            go_wp2_with fail
            refine (HF.out _ PB2.out).mono ?_
            rintro e z1 ⟨rfl, rfl⟩
            go_wp2_with fail
            refine (HX.out _).mono ?_
            rintro e z1 ⟨rfl, rfl⟩
            go_wp2_with fail
            refine (HY.out _).mono ?_
            rintro e z1 ⟨rfl, rfl⟩
            have O4 : Hid (wr.ownsRow w.heap.size 37 2 s' R.length (pairs R)) := by show World.ownsRow _ _ _ _ _ _ _; rw [rl.out]; exact HO.out
            go_wp2_with (go_at_fn g; refine (HK.out _).mono ?_; rintro e z1 ⟨rfl, rfl⟩)
            go_roundw
            case rel => exact ⟨x1, y, fr, false, _, _, _, rfl, rfl, rfl, rfl, rfl, S2, O4, HA⟩
            case measure => simp [intOf]; omega
          · skip
            replace S2 : Hid (SwI k A B x1 y N true R _) := S2
            go_wp2_with fail
            refine (HE.out _ PA2.out).mono ?_
            rintro e z1 ⟨rfl, rfl⟩
            go_wp2_with fail
            refine (HF.out _ PB2.out).mono ?_
            rintro e z1 ⟨rfl, rfl⟩
            go_wp2_with fail
            refine (HE.out _ PA2.out).mono ?_
            rintro e z1 ⟨rfl, rfl⟩
            go_wp2_with fail
            refine (HF.out _ PB2.out).mono ?_
            rintro e z1 ⟨rfl, rfl⟩
            go_wp2_with fail
            refine (HX.out _).mono ?_
            rintro e z1 ⟨rfl, rfl⟩
            go_wp2_with fail
            refine (HY.out _).mono ?_
            rintro e z1 ⟨rfl, rfl⟩
            have O4 : Hid (wr.ownsRow w.heap.size 37 2 s' R.length (pairs R)) := by show World.ownsRow _ _ _ _ _ _ _; rw [rl.out]; exact HO.out
            go_wp2_with (go_at_fn g; refine (HK.out _).mono ?_; rintro e z1 ⟨rfl, rfl⟩)
            go_roundw
            case rel => exact ⟨x1, y, N, true, _, _, _, rfl, rfl, rfl, rfl, rfl, S2, O4, HA⟩
            case measure => simp [intOf]; omega
          · skip
            replace S2 : Hid (SwI k A B x1 y fr false (R ++ [(fr, N)]) _) := S2
            go_wp2_with fail
            refine (HE.out _ PA2.out).mono ?_
            rintro e z1 ⟨rfl, rfl⟩
            go_wp2_with fail
            refine (HF.out _ PB2.out).mono ?_
            rintro e z1 ⟨rfl, rfl⟩
            go_wp2_with fail
            refine (HE.out _ PA2.out).mono ?_
            rintro e z1 ⟨rfl, rfl⟩
            go_wp2_with fail
            refine (HF.out _ PB2.out).mono ?_
            rintro e z1 ⟨rfl, rfl⟩
            go_wp2_with fail
            refine (HX.out _).mono ?_
            rintro e z1 ⟨rfl, rfl⟩
            go_wp2_with fail
            refine (HY.out _).mono ?_
            rintro e z1 ⟨rfl, rfl⟩
            go_wp2_with (first | (go_at_fn g; refine (HK.out _).mono ?_; rintro e z1 ⟨rfl, rfl⟩) | (at_builtin; refine wpList_append_own _ rfl _ _ 22 rfl w.heap.size 37 i0 (.agg #[.int .i64 0, .int .i64 0]) 2 16 Try.underlying22 hi hz0 hz1 hz2 rfl (by decide) s' r (pairs R) rfl (HO.out.alloc _) ⟨wr.heap.size, 0, none⟩ 1 1 [.int .i64 fr, .int .i64 N] rfl rfl ?c1 ?c2 ?c3 ?c4 ?c5 ?_))
            case c1 => intro j u hj; rw [Addr.add_lit, Nat.zero_add, World.cell?_alloc_new]; simpa using hj
            case c2 => intro u hu; simp at hu; rcases hu with rfl | rfl <;> rfl
            case c3 => unfold maxLen; omega
            case c4 => omega
            case c5 => have := HA.out.size; simp; omega
            intro v4 w4 hown hgrow _
            have B4 : Hid (Below w.heap.size w w4) := (HA.out.alloc HA.out.size _).grown hgrow (by have := HA.out.size; simp; omega) (own_ge HO.out)
            have O4 : Hid (w4.ownsRow w.heap.size 37 2 v4 (R ++ [(fr, N)]).length (pairs (R ++ [(fr, N)]))) := by show World.ownsRow _ _ _ _ _ _ _; rw [List.length_append, rl.out, pairs_append]; exact hown
            clear hown hgrow
            go_wp2
            go_roundw
            case rel => exact ⟨x1, y, fr, false, _, _, _, rfl, rfl, rfl, rfl, rfl, S2, O4, B4⟩
            case measure => simp [intOf]; omega
          · skip
            replace S2 : Hid (SwI k A B x1 y fr true R _) := S2
            go_wp2_with fail
            refine (HE.out _ PA2.out).mono ?_
            rintro e z1 ⟨rfl, rfl⟩
            go_wp2_with fail
            refine (HF.out _ PB2.out).mono ?_
            rintro e z1 ⟨rfl, rfl⟩
            go_wp2_with fail
            refine (HE.out _ PA2.out).mono ?_
            rintro e z1 ⟨rfl, rfl⟩
            go_wp2_with fail
            refine (HF.out _ PB2.out).mono ?_
            rintro e z1 ⟨rfl, rfl⟩
            go_wp2_with fail
            refine (HX.out _).mono ?_
            rintro e z1 ⟨rfl, rfl⟩
            go_wp2_with fail
            refine (HY.out _).mono ?_
            rintro e z1 ⟨rfl, rfl⟩
            have O4 : Hid (wr.ownsRow w.heap.size 37 2 s' R.length (pairs R)) := by show World.ownsRow _ _ _ _ _ _ _; rw [rl.out]; exact HO.out
            go_wp2_with (go_at_fn g; refine (HK.out _).mono ?_; rintro e z1 ⟨rfl, rfl⟩)
            go_roundw
            case rel => exact ⟨x1, y, fr, true, _, _, _, rfl, rfl, rfl, rfl, rfl, S2, O4, HA⟩
            case measure => simp [intOf]; omega
      · have e2 : eb = N := some1.resolve_left e1
        clear ex some1
        by_cases z1 : x < 2 * n
        · have k1 : decide ((x : Int) < 2 * (n : Int)) = true := decide_eq_true (by omega)
          clear z
          have q1 : (ea == N) = false := by rw [beq_eq_false_iff_ne]; exact e1
          have q2 : (eb == N) = true := beq_iff_eq.2 e2
          have S1 := ST.out x y1 (by rw [if_neg (fun h => e1 (ha.out.symm.trans h))]) (by rw [if_pos (hb.out.trans e2)]; omega) _ rfl
          obtain ⟨S2, more⟩ := S1
          have HX := Lib.hid (fun W => ruinside x (by omega) W)
          have HY := Lib.hid (fun W => ruinside y1 (by omega) W)
          have HK := Lib.hid (fun W => hg (decide (x % 2 = 1)) (decide (y1 % 2 = 1)) W)
          replace S2 := Lib.hid S2
          clear e1 e2 ST ha hb
          generalize decide (x % 2 = 1) = ox at *
          generalize decide (y1 % 2 = 1) = oy at *
          generalize kpB k ox oy = p' at *
          cases p <;> cases p'
          · skip
            replace S2 : Hid (SwI k A B x y1 fr false R _) := S2
            go_wp2_with fail
            refine (HE.out _ PA2.out).mono ?_
            rintro e z1 ⟨rfl, rfl⟩
            go_wp2_with fail
            refine (HF.out _ PB2.out).mono ?_
            rintro e z1 ⟨rfl, rfl⟩
            go_wp2_with fail
            refine (HE.out _ PA2.out).mono ?_
            rintro e z1 ⟨rfl, rfl⟩
            go_wp2_with fail
            refine (HF.out _ PB2.out).mono ?_
            rintro e z1 ⟨rfl, rfl⟩
            go_wp2_with fail
            refine (HX.out _).mono ?_
            rintro e z1 ⟨rfl, rfl⟩
            go_wp2_with fail
            refine (HY.out _).mono ?_
            rintro e z1 ⟨rfl, rfl⟩
            have O4 : Hid (wr.ownsRow w.heap.size 37 2 s' R.length (pairs R)) := by show World.ownsRow _ _ _ _ _ _ _; rw [rl.out]; exact HO.out
            go_wp2_with (go_at_fn g; refine (HK.out _).mono ?_; rintro e z1 ⟨rfl, rfl⟩)
            go_roundw
            case rel => exact ⟨x, y1, fr, false, _, _, _, rfl, rfl, rfl, rfl, rfl, S2, O4, HA⟩
            case measure => simp [intOf]; omega
          · skip
            replace S2 : Hid (SwI k A B x y1 N true R _) := S2
            go_wp2_with fail
            refine (HE.out _ PA2.out).mono ?_
            rintro e z1 ⟨rfl, rfl⟩
            go_wp2_with fail
            refine (HF.out _ PB2.out).mono ?_
            rintro e z1 ⟨rfl, rfl⟩
            go_wp2_with fail
            refine (HE.out _ PA2.out).mono ?_
            rintro e z1 ⟨rfl, rfl⟩
            go_wp2_with fail
            refine (HF.out _ PB2.out).mono ?_
            rintro e z1 ⟨rfl, rfl⟩
            go_wp2_with fail
            refine (HX.out _).mono ?_
            rintro e z1 ⟨rfl, rfl⟩
            go_wp2_with fail
            refine (HY.out _).mono ?_
            rintro e z1 ⟨rfl, rfl⟩
            have O4 : Hid (wr.ownsRow w.heap.size 37 2 s' R.length (pairs R)) := by show World.ownsRow _ _ _ _ _ _ _; rw [rl.out]; exact HO.out
            go_wp2_with (go_at_fn g; refine (HK.out _).mono ?_; rintro e z1 ⟨rfl, rfl⟩)
            go_roundw
            case rel => exact ⟨x, y1, N, true, _, _, _, rfl, rfl, rfl, rfl, rfl, S2, O4, HA⟩
            case measure => simp [intOf]; omega
          · skip
            replace S2 : Hid (SwI k A B x y1 fr false (R ++ [(fr, N)]) _) := S2
            go_wp2_with fail
            refine (HE.out _ PA2.out).mono ?_
            rintro e z1 ⟨rfl, rfl⟩
            go_wp2_with fail
            refine (HF.out _ PB2.out).mono ?_
            rintro e z1 ⟨rfl, rfl⟩
            go_wp2_with fail
            refine (HE.out _ PA2.out).mono ?_
            rintro e z1 ⟨rfl, rfl⟩
            go_wp2_with fail
            refine (HF.out _ PB2.out).mono ?_
            rintro e z1 ⟨rfl, rfl⟩
            go_wp2_with fail
            refine (HX.out _).mono ?_
            rintro e z1 ⟨rfl, rfl⟩
            go_wp2_with fail
            refine (HY.out _).mono ?_
            rintro e z1 ⟨rfl, rfl⟩
            go_wp2_with (first | (go_at_fn g; refine (HK.out _).mono ?_; rintro e z1 ⟨rfl, rfl⟩) | (at_builtin; refine wpList_append_own _ rfl _ _ 22 rfl w.heap.size 37 i0 (.agg #[.int .i64 0, .int .i64 0]) 2 16 Try.underlying22 hi hz0 hz1 hz2 rfl (by decide) s' r (pairs R) rfl (HO.out.alloc _) ⟨wr.heap.size, 0, none⟩ 1 1 [.int .i64 fr, .int .i64 N] rfl rfl ?c1 ?c2 ?c3 ?c4 ?c5 ?_))
            case c1 => intro j u hj; rw [Addr.add_lit, Nat.zero_add, World.cell?_alloc_new]; simpa using hj
            case c2 => intro u hu; simp at hu; rcases hu with rfl | rfl <;> rfl
            case c3 => unfold maxLen; omega
            case c4 => omega
            case c5 => have := HA.out.size; simp; omega
            intro v4 w4 hown hgrow _
            have B4 : Hid (Below w.heap.size w w4) := (HA.out.alloc HA.out.size _).grown hgrow (by have := HA.out.size; simp; omega) (own_ge HO.out)
            have O4 : Hid (w4.ownsRow w.heap.size 37 2 v4 (R ++ [(fr, N)]).length (pairs (R ++ [(fr, N)]))) := by show World.ownsRow _ _ _ _ _ _ _; rw [List.length_append, rl.out, pairs_append]; exact hown
            clear hown hgrow
            go_wp2
            go_roundw
            case rel => exact ⟨x, y1, fr, false, _, _, _, rfl, rfl, rfl, rfl, rfl, S2, O4, B4⟩
            case measure => simp [intOf]; omega
          · skip
            replace S2 : Hid (SwI k A B x y1 fr true R _) := S2
            go_wp2_with fail
            refine (HE.out _ PA2.out).mono ?_
            rintro e z1 ⟨rfl, rfl⟩
            go_wp2_with fail
            refine (HF.out _ PB2.out).mono ?_
            rintro e z1 ⟨rfl, rfl⟩
            go_wp2_with fail
            refine (HE.out _ PA2.out).mono ?_
            rintro e z1 ⟨rfl, rfl⟩
            go_wp2_with fail
            refine (HF.out _ PB2.out).mono ?_
            rintro e z1 ⟨rfl, rfl⟩
            go_wp2_with fail
            refine (HX.out _).mono ?_
            rintro e z1 ⟨rfl, rfl⟩
            go_wp2_with fail
            refine (HY.out _).mono ?_
            rintro e z1 ⟨rfl, rfl⟩
            have O4 : Hid (wr.ownsRow w.heap.size 37 2 s' R.length (pairs R)) := by show World.ownsRow _ _ _ _ _ _ _; rw [rl.out]; exact HO.out
            go_wp2_with (go_at_fn g; refine (HK.out _).mono ?_; rintro e z1 ⟨rfl, rfl⟩)
            go_roundw
            case rel => exact ⟨x, y1, fr, true, _, _, _, rfl, rfl, rfl, rfl, rfl, S2, O4, HA⟩
            case measure => simp [intOf]; omega
        · have k1 : decide ((x : Int) < 2 * (n : Int)) = false := decide_eq_false (by omega)
          have y2 : y < 2 * m := by omega
          have k2 : decide ((y : Int) < 2 * (m : Int)) = true := decide_eq_true (by omega)
          clear z
          have q1 : (ea == N) = false := by rw [beq_eq_false_iff_ne]; exact e1
          have q2 : (eb == N) = true := beq_iff_eq.2 e2
          have S1 := ST.out x y1 (by rw [if_neg (fun h => e1 (ha.out.symm.trans h))]) (by rw [if_pos (hb.out.trans e2)]; omega) _ rfl
          obtain ⟨S2, more⟩ := S1
          have HX := Lib.hid (fun W => ruinside x (by omega) W)
          have HY := Lib.hid (fun W => ruinside y1 (by omega) W)
          have HK := Lib.hid (fun W => hg (decide (x % 2 = 1)) (decide (y1 % 2 = 1)) W)
          replace S2 := Lib.hid S2
          clear e1 e2 ST ha hb
          generalize decide (x % 2 = 1) = ox at *
          generalize decide (y1 % 2 = 1) = oy at *
          generalize kpB k ox oy = p' at *
          cases p <;> cases p'
          · skip
            replace S2 : Hid (SwI k A B x y1 fr false R _) := S2
            go_wp2_with fail
            refine (HE.out _ PA2.out).mono ?_
            rintro e z1 ⟨rfl, rfl⟩
            go_wp2_with fail
            refine (HF.out _ PB2.out).mono ?_
            rintro e z1 ⟨rfl, rfl⟩
            go_wp2_with fail
            refine (HE.out _ PA2.out).mono ?_
            rintro e z1 ⟨rfl, rfl⟩
            go_wp2_with fail
            refine (HF.out _ PB2.out).mono ?_
            rintro e z1 ⟨rfl, rfl⟩
            go_wp2_with fail
            refine (HX.out _).mono ?_
            rintro e z1 ⟨rfl, rfl⟩
            go_wp2_with fail
            refine (HY.out _).mono ?_
            rintro e z1 ⟨rfl, rfl⟩
            have O4 : Hid (wr.ownsRow w.heap.size 37 2 s' R.length (pairs R)) := by show World.ownsRow _ _ _ _ _ _ _; rw [rl.out]; exact HO.out
            go_wp2_with (go_at_fn g; refine (HK.out _).mono ?_; rintro e z1 ⟨rfl, rfl⟩)
            go_roundw
            case rel => exact ⟨x, y1, fr, false, _, _, _, rfl, rfl, rfl, rfl, rfl, S2, O4, HA⟩
            case measure => simp [intOf]; omega
          · skip
            replace S2 : Hid (SwI k A B x y1 N true R _) := S2
            go_wp2_with fail
            refine (HE.out _ PA2.out).mono ?_
            rintro e z1 ⟨rfl, rfl⟩
            go_wp2_with fail
            refine (HF.out _ PB2.out).mono ?_
            rintro e z1 ⟨rfl, rfl⟩
            go_wp2_with fail
            refine (HE.out _ PA2.out).mono ?_
            rintro e z1 ⟨rfl, rfl⟩
            go_wp2_with fail
            refine (HF.out _ PB2.out).mono ?_
            rintro e z1 ⟨rfl, rfl⟩
            go_wp2_with fail
            refine (HX.out _).mono ?_
            rintro e z1 ⟨rfl, rfl⟩
            go_wp2_with fail
            refine (HY.out _).mono ?_
            rintro e z1 ⟨rfl, rfl⟩
            have O4 : Hid (wr.ownsRow w.heap.size 37 2 s' R.length (pairs R)) := by show World.ownsRow _ _ _ _ _ _ _; rw [rl.out]; exact HO.out
            go_wp2_with (go_at_fn g; refine (HK.out _).mono ?_; rintro e z1 ⟨rfl, rfl⟩)
            go_roundw
            case rel => exact ⟨x, y1, N, true, _, _, _, rfl, rfl, rfl, rfl, rfl, S2, O4, HA⟩
            case measure => simp [intOf]; omega
          · skip
            replace S2 : Hid (SwI k A B x y1 fr false (R ++ [(fr, N)]) _) := S2
            go_wp2_with fail
            refine (HE.out _ PA2.out).mono ?_
            rintro e z1 ⟨rfl, rfl⟩
            go_wp2_with fail
            refine (HF.out _ PB2.out).mono ?_
            rintro e z1 ⟨rfl, rfl⟩
            go_wp2_with fail
            refine (HE.out _ PA2.out).mono ?_
            rintro e z1 ⟨rfl, rfl⟩
            go_wp2_with fail
            refine (HF.out _ PB2.out).mono ?_
            rintro e z1 ⟨rfl, rfl⟩
            go_wp2_with fail
            refine (HX.out _).mono ?_
            rintro e z1 ⟨rfl, rfl⟩
            go_wp2_with fail
            refine (HY.out _).mono ?_
            rintro e z1 ⟨rfl, rfl⟩
            go_wp2_with (first | (go_at_fn g; refine (HK.out _).mono ?_; rintro e z1 ⟨rfl, rfl⟩) | (at_builtin; refine wpList_append_own _ rfl _ _ 22 rfl w.heap.size 37 i0 (.agg #[.int .i64 0, .int .i64 0]) 2 16 Try.underlying22 hi hz0 hz1 hz2 rfl (by decide) s' r (pairs R) rfl (HO.out.alloc _) ⟨wr.heap.size, 0, none⟩ 1 1 [.int .i64 fr, .int .i64 N] rfl rfl ?c1 ?c2 ?c3 ?c4 ?c5 ?_))
            case c1 => intro j u hj; rw [Addr.add_lit, Nat.zero_add, World.cell?_alloc_new]; simpa using hj
            case c2 => intro u hu; simp at hu; rcases hu with rfl | rfl <;> rfl
            case c3 => unfold maxLen; omega
            case c4 => omega
            case c5 => have := HA.out.size; simp; omega
            intro v4 w4 hown hgrow _
            have B4 : Hid (Below w.heap.size w w4) := (HA.out.alloc HA.out.size _).grown hgrow (by have := HA.out.size; simp; omega) (own_ge HO.out)
            have O4 : Hid (w4.ownsRow w.heap.size 37 2 v4 (R ++ [(fr, N)]).length (pairs (R ++ [(fr, N)]))) := by show World.ownsRow _ _ _ _ _ _ _; rw [List.length_append, rl.out, pairs_append]; exact hown
            clear hown hgrow
            go_wp2
            go_roundw
            case rel => exact ⟨x, y1, fr, false, _, _, _, rfl, rfl, rfl, rfl, rfl, S2, O4, B4⟩
            case measure => simp [intOf]; omega
          · skip
            replace S2 : Hid (SwI k A B x y1 fr true R _) := S2
            go_wp2_with fail
            refine (HE.out _ PA2.out).mono ?_
            rintro e z1 ⟨rfl, rfl⟩
            go_wp2_with fail
            refine (HF.out _ PB2.out).mono ?_
            rintro e z1 ⟨rfl, rfl⟩
            go_wp2_with fail
            refine (HE.out _ PA2.out).mono ?_
            rintro e z1 ⟨rfl, rfl⟩
            go_wp2_with fail
            refine (HF.out _ PB2.out).mono ?_
            rintro e z1 ⟨rfl, rfl⟩
            go_wp2_with fail
            refine (HX.out _).mono ?_
            rintro e z1 ⟨rfl, rfl⟩
            go_wp2_with fail
            refine (HY.out _).mono ?_
            rintro e z1 ⟨rfl, rfl⟩
            have O4 : Hid (wr.ownsRow w.heap.size 37 2 s' R.length (pairs R)) := by show World.ownsRow _ _ _ _ _ _ _; rw [rl.out]; exact HO.out
            go_wp2_with (go_at_fn g; refine (HK.out _).mono ?_; rintro e z1 ⟨rfl, rfl⟩)
            go_roundw
            case rel => exact ⟨x, y1, fr, true, _, _, _, rfl, rfl, rfl, rfl, rfl, S2, O4, HA⟩
            case measure => simp [intOf]; omega
    · have k1 : decide ((x : Int) < 2 * (n : Int)) = false := decide_eq_false (by omega)
      have k2 : decide ((y : Int) < 2 * (m : Int)) = false := decide_eq_false (by omega)
      have e := SE.out _ _ _ _ _ _ HS.out (by omega) (by omega)
      have r2 : Hid (ruAp k A B = ruFull R) := by show _ = _; rw [r0.out, e]
      obtain ⟨o3, c3, rfl⟩ := (Sl.owns HO.out).shape
      have CP := Lib.hid (cap_own HO.out)
      have LI := Lib.hid (fun W => rulimited o3 r c3 (by unfold maxLen; omega) W)
      have FU : Hid (ruFull R = if 2000 < r then ([], 5) else (R, 0)) := by show _ = _; unfold ruFull; rw [rl.out]
      clear e SE ST EA EB r0 HS z
      by_cases u : 2000 < r
      · rw [if_pos u] at LI FU
        clear u
        go_wp2_with fail
        refine (LI.out _).mono ?_
        rintro e w5 ⟨rfl, rfl⟩
        go_wp2
        go_ret2
        rw [r2.out, FU.out]
        exact ⟨⟨_, rfl, Sl.none _ _, cap_nil⟩, HA.out⟩
      · rw [if_neg u] at LI FU
        have P5 : Hid (PairS w.heap.size wr (.slice o3 r c3) R) := by show Sl _ _ _ _ _; rw [rl.out]; exact Sl.owns HO.out
        clear u
        go_wp2_with fail
        refine (LI.out _).mono ?_
        rintro e w5 ⟨rfl, rfl⟩
        go_wp2
        go_ret2
        rw [r2.out, FU.out]
        exact ⟨⟨_, rfl, P5.out, CP.out⟩, HA.out⟩
end Go.Proofs.Ytaikeclfmmnelaa
