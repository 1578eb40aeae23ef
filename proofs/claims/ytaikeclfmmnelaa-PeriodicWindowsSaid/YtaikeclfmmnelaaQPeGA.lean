/- Contracts of civiltimeref13: rotated. -/
import Derived.Test.YtaikeclfmmnelaaQPeF
import Derived.Test.YtaikeclfmmnelaaQGA
import Derived.Test.YtaikeclfmmnelaaQPeD
import Derived.Deep.AppendLies
namespace Go.Proofs.Ytaikeclfmmnelaa

open Go.RowKit

set_option linter.unusedVariables false

theorem lo_snoc (P m : Int) (A : List Sp) (q : Sp) : loL P m (A ++ [q]) = loL P m A ++ (if P < q.2 + m then [((if q.1 + m < P then P else q.1 + m) - P, q.2 + m - P)] else []) := by
  unfold loL
  by_cases h : P < q.2 + m
  · simp [List.filter_append, h]
  · simp [List.filter_append, h]
theorem hi_snoc (P m : Int) (A : List Sp) (q : Sp) : hiL P m (A ++ [q]) = hiL P m A ++ (if q.1 + m < P then [(q.1 + m, if P < q.2 + m then P else q.2 + m)] else []) := by
  unfold hiL
  by_cases h : q.1 + m < P
  · simp [List.filter_append, h]
  · simp [List.filter_append, h]
theorem lo_len (P m : Int) (A : List Sp) : (loL P m A).length ≤ A.length := by unfold loL; rw [List.length_map]; exact List.length_filter_le _ _
theorem hi_len (P m : Int) (A : List Sp) : (hiL P m A).length ≤ A.length := by unfold hiL; rw [List.length_map]; exact List.length_filter_le _ _
/-- Two rows that do not share their block. -/
def Apart (u v : Value) : Prop := ∀ g, u.ownBlock = some g → v.ownBlock ≠ some g
theorem apart_kept {w w' : World} {B : Nat} {e : TypeId} {size : Nat} {u v : Value} {n : Nat} {xs : List Value} (h : w.ownsRow B e size u n xs) (a : Apart u v) (hg : w.grownBy w' v.ownBlock) : w'.ownsRow B e size u n xs := by
  refine h.kept hg ?_
  cases q : u.ownBlock with
  | none => exact .inl rfl
  | some g => exact .inr (by have := a g q; exact fun z => this z.symm)
set_option maxRecDepth 100000 in
set_option maxHeartbeats 2000000 in
theorem rprotated (v : Value) (P : Int) (L : List Sp) (n : Int) (hL : L.length ≤ 20000) (cn : Cn L) (ip : InP P L) (P0 : 0 < P) (P1 : P ≤ 12622780800) (hn : I64 n) {ba : Nat} (w : World) (h : PairS ba w v L) :
    Calls Try.prog 59 #[v, .int .i64 P, .int .i64 n] w fun e w' => (∃ v', e = .returned v' ∧ PairS 0 w' v' (roL P n L) ∧ (v' = v ∨ PairS w.heap.size w' v' (roL P n L))) ∧ Below w.heap.size w w' := by
  obtain ⟨i0, hi, hz0, hz1, hz2⟩ := info_parts infoS
  have HM := Lib.hid (fun w => refmod_all n P hn.1 hn.2 (by omega) (by omega) w)
  rw [dR_pos P0] at HM
  have m0 := Int.emod_nonneg n (show P ≠ 0 by omega)
  have m1 := Int.emod_lt_of_pos n P0
  have rv : roL P n L = if n % P = 0 then L else cbL 1 (loL P (n % P) L) (hiL P (n % P) L) := rfl
  rw [rv]
  clear rv
  generalize n % P = m at *
  obtain ⟨o, c, rfl⟩ := prs_shape h
  have PL := Lib.hid h
  clear h
  have AT := Lib.hid (fun k hk => pe_at cn ip (k := k) hk)
  have HL : Hid (∀ W v1 v2, ∀ {b1 b2 : Nat}, PairS b1 W v1 (loL P m L) → PairS b2 W v2 (hiL P m L) → Calls Try.prog 60 #[v1, v2, .int .i64 0] W fun e w' => (∃ v', e = .returned v' ∧ PairS W.heap.size w' v' (cbL 1 (loL P m L) (hiL P m L))) ∧ Below W.heap.size W w') := fun W v1 v2 _ _ h1 h2 => rplists v1 v2 _ _ (by have := lo_len P m L; omega) (by have := hi_len P m L; omega) (lo_cn P m cn) (hi_cn P m cn) 0 (by omega) (by omega) W h1 h2
  clear cn ip
  obtain ⟨N, hl⟩ : ∃ N, L.length = N := ⟨_, rfl⟩
  rw [hl] at hL PL AT ⊢
  by_cases z : m = 0
  · have kz : (m == 0) = true := beq_iff_eq.2 z
    rw [if_pos z]
    clear z HL AT
    go_enter Try.func59, Try.ntmps59
    go_wp2_with fail
    refine (HM.out _).mono ?_
    rintro e W0 ⟨rfl, d, hW⟩
    have A0 : Hid (Below w.heap.size w W0) := by show Below _ _ _; rw [hW]; exact below_drewN (here w) d
    have P0' : Hid (PairS 0 W0 (.slice o N c) L) := by show PairS _ _ _ _; exact (PL.out.keep A0.out).weak (Nat.zero_le _)
    clear hW
    go_wp2
    go_ret
    exact ⟨⟨_, rfl, P0'.out, .inl (by rfl)⟩, A0.out⟩
  · have kz : (m == 0) = false := by rw [beq_eq_false_iff_ne]; exact z
    rw [if_neg z]
    clear z
    go_enter Try.func59, Try.ntmps59
    go_wp2_with fail
    refine (HM.out _).mono ?_
    rintro e W0 ⟨rfl, d, hW⟩
    have A0 : Hid (Below w.heap.size w W0) := by show Below _ _ _; rw [hW]; exact below_drewN (here w) d
    replace PL : Hid (PairS ba W0 (.slice o N c) L) := by show PairS _ _ _ _; exact (PL.out.keep A0.out)
    clear hW HM
    have I1 : Hid (W0.ownsRow W0.heap.size 37 2 (.slice none 0 0) (loL P m (L.take 0)).length (pairs (loL P m (L.take 0)))) := World.ownsRow_nil _ _ _ _
    have I2 : Hid (W0.ownsRow W0.heap.size 37 2 (.slice none 0 0) (hiL P m (L.take 0)).length (pairs (hiL P m (L.take 0)))) := World.ownsRow_nil _ _ _ _
    have I3 : Hid (Apart (.slice none 0 0) (.slice none 0 0)) := fun g hg => by cases hg
    have I4 : Hid (Below W0.heap.size W0 W0) := here W0
    go_wp2
    go_loopw [8, 9, 10] (fun u1 u2 i wr => ∃ (k : Nat) (v1 v2 : Value), v1 = u1 ∧ v2 = u2 ∧ k ≤ N ∧ i = .int .i64 k ∧ Hid (wr.ownsRow W0.heap.size 37 2 u1 (loL P m (L.take k)).length (pairs (loL P m (L.take k)))) ∧ Hid (wr.ownsRow W0.heap.size 37 2 u2 (hiL P m (L.take k)).length (pairs (hiL P m (L.take k)))) ∧ Hid (Apart u1 u2) ∧ Hid (Below W0.heap.size W0 wr)) (fun _ _ i _ => N - (intOf i).toNat)
    case atStart => exact ⟨0, _, _, rfl, rfl, Nat.zero_le _, rfl, I1, I2, I3, I4⟩
    case round =>
      obtain ⟨k, v1, v2, rfl, rfl, hk, rfl, O1, O2, AP, A6⟩ := hrel
      clear I1 I2 I3 I4
      have HP := Lib.hid (PL.out.keep A6.out)
      by_cases z : k < N
      · have kz1 : decide ((k : Int) < (N : Int)) = true := decide_eq_true (by omega)
        obtain ⟨b, off, rfl, bl, cs⟩ := prs_here HP.out (show k < L.length by omega)
        obtain ⟨c0, c1⟩ := cs k (by omega)
        obtain ⟨k1, hk1⟩ : ∃ k1, k + 1 = k1 := ⟨_, rfl⟩
        have e1 := lo_snoc P m (L.take k) (L.getD k (0, 0))
        have e2 := hi_snoc P m (L.take k) (L.getD k (0, 0))
        rw [← tak_snoc L (show k < L.length by omega), hk1] at e1 e2
        have at0 := AT.out k (by omega)
        have l1 := lo_len P m (L.take k)
        have l2 := hi_len P m (L.take k)
        have lt0 : (L.take k).length ≤ k := by rw [List.length_take]; omega
        clear cs
        generalize L.getD k (0, 0) = p at *
        obtain ⟨gx, gy⟩ := p
        replace c0 : wr.cell? ⟨b, off + k * 2, none⟩ = some (.int .i64 gx) := c0
        replace c1 : wr.cell? ⟨b, off + k * 2 + 1, none⟩ = some (.int .i64 gy) := c1
        replace at0 : 0 ≤ gx ∧ gx < gy ∧ gy ≤ P := at0
        obtain ⟨x, hx⟩ : ∃ x, gx + m = x := ⟨_, rfl⟩
        obtain ⟨y, hy⟩ : ∃ y, gy + m = y := ⟨_, rfl⟩
        replace e1 : loL P m (L.take k1) = loL P m (L.take k) ++ (if P < gy + m then [((if gx + m < P then P else gx + m) - P, gy + m - P)] else []) := e1
        replace e2 : hiL P m (L.take k1) = hiL P m (L.take k) ++ (if gx + m < P then [(gx + m, if P < gy + m then P else gy + m)] else []) := e2
        rw [hx, hy] at e1 e2
        have xb : 0 ≤ x ∧ x < 2 * P ∧ x < y ∧ y ≤ 2 * P := by omega
        obtain ⟨rl, hrl⟩ : ∃ r, loL P m (L.take k) = r := ⟨_, rfl⟩
        obtain ⟨rh, hrh⟩ : ∃ r, hiL P m (L.take k) = r := ⟨_, rfl⟩
        rw [hrl] at e1 O1 l1
        rw [hrh] at e2 O2 l2
        obtain ⟨n1, hn1⟩ : ∃ n1, rl.length = n1 := ⟨_, rfl⟩
        obtain ⟨n2, hn2⟩ : ∃ n2, rh.length = n2 := ⟨_, rfl⟩
        rw [hn1] at O1 l1
        rw [hn2] at O2 l2
        replace hn1 := Lib.hid hn1
        replace hn2 := Lib.hid hn2
        clear hrl hrh
        go_wp2
        go_quiet (fail)
        obtain ⟨w6, hw6⟩ : ∃ w6, wr.drewN nq = w6 := ⟨_, rfl⟩
        replace O1 : Hid (w6.ownsRow W0.heap.size 37 2 v1 n1 (pairs rl)) := by show World.ownsRow _ _ _ _ _ _ _; rw [← hw6]; exact O1.out
        replace O2 : Hid (w6.ownsRow W0.heap.size 37 2 v2 n2 (pairs rh)) := by show World.ownsRow _ _ _ _ _ _ _; rw [← hw6]; exact O2.out
        replace A6 : Hid (Below W0.heap.size W0 w6) := by show Below _ _ _; rw [← hw6]; exact below_drewN A6.out nq
        rw [hw6]
        clear hw6 c0 c1 bl HP hx hy
        have LEN1 : ∀ (x y : Int), (rl ++ [(x, y)]).length = n1 + 1 := fun x y => by rw [List.length_append, hn1.out]; rfl
        have LEN2 : ∀ (x y : Int), (rh ++ [(x, y)]).length = n2 + 1 := fun x y => by rw [List.length_append, hn2.out]; rfl
        have cN : n1 ≤ 20000 ∧ n2 ≤ 20000 := by omega
        have apSym : ∀ u v, Apart u v → Apart v u := fun u v h g hg q => h g q hg
        clear l1 l2 lt0
        by_cases xl : x < P
        · have kx := decide_eq_true xl
          obtain ⟨t, ht⟩ : ∃ t, (if P < y then P else y) = t := ⟨_, rfl⟩
          have ht2 : min y P = t := by rw [← ht]; split <;> omega
          have tb : 0 ≤ t ∧ t ≤ P := by rw [← ht]; split <;> omega
          rw [if_pos xl, ht] at e2
          rw [if_pos xl, Int.sub_self] at e1
          have hmx : (if x < P then P else x) = P := if_pos xl
          have hmx2 : max x P = P := by omega
          have pp : P - P = 0 := Int.sub_self P
          replace e2 := Lib.hid e2
          by_cases yl : P < y
          · have ky := decide_eq_true yl
            obtain ⟨ya, hya⟩ : ∃ ya, y - P = ya := ⟨_, rfl⟩
            have yab : 0 ≤ ya ∧ ya ≤ 20000000000 := by omega
            rw [if_pos yl, hya] at e1
            replace e1 := Lib.hid e1
            clear xl yl
            have Z1 := Lib.hid (O2.out.alloc (.cells #[.int .i64 x, .int .i64 t] 37))
            have Z2 : Hid (∀ (j : Nat) (u : Value), [Value.int .i64 x, .int .i64 t][j]? = some u → (w6.alloc (.cells #[.int .i64 x, .int .i64 t] 37)).cell? ((⟨w6.heap.size, 0, none⟩ : Addr).add j) = some u) := fun j u hj => by rw [Addr.add_lit, Nat.zero_add, World.cell?_alloc_new]; simpa using hj
            have Z3 : Hid (∀ u ∈ [Value.int .i64 x, .int .i64 t], u.oneCell' = true) := fun u hu => by simp at hu; rcases hu with rfl | rfl <;> rfl
            have Z5 : Hid (n2 + 1 ≤ maxLen) := by show _ ≤ _; unfold maxLen; omega
            have Z6 : Hid ((n2 + 1) * 16 ≤ 140737488355328) := by show _ ≤ _; omega
            have Z4 : Hid (W0.heap.size ≤ (w6.alloc (.cells #[.int .i64 x, .int .i64 t] 37)).heap.size) := by show _ ≤ _; have := A6.out.size; simp; omega
            have Z7 := Lib.hid (O1.out.alloc (.cells #[.int .i64 x, .int .i64 t] 37))
            have Z8 := Lib.hid (grow A6.out (.cells #[.int .i64 x, .int .i64 t] 37))
            clear O2 O1 A6
            go_wp2_with (at_builtin; refine wpList_append_lies _ rfl _ _ 22 rfl W0.heap.size 37 i0 (.agg #[.int .i64 0, .int .i64 0]) 2 16 Try.underlying22 hi hz0 hz1 hz2 rfl (by decide) (v2) (n2) (pairs (rh)) rfl Z1.out ⟨w6.heap.size, 0, none⟩ 1 1 [.int .i64 x, .int .i64 t] rfl rfl Z2.out Z3.out (Nat.succ_pos 0) Z5.out Z6.out Z4.out _ rfl ?_)
            intro g7 cap7 w7 hown hgrow hor hlt
            have A6 : Hid (Below W0.heap.size W0 w7) := Z8.out.grown hgrow Z4.out (own_ge Z1.out)
            have O1 : Hid (w7.ownsRow W0.heap.size 37 2 v1 n1 (pairs rl)) := apart_kept Z7.out AP.out hgrow
            have O2 : Hid (w7.ownsRow W0.heap.size 37 2 (.slice (some ⟨g7, 0, none⟩) (n2 + 1) cap7) (n2 + 1) (pairs (rh ++ [(x, t)]))) := by show World.ownsRow _ _ _ _ _ _ _; rw [pairs_append]; exact hown
            have FRESH : ∀ u n' xs, (w6.alloc (.cells #[.int .i64 x, .int .i64 t] 37)).ownsRow W0.heap.size 37 2 u n' xs → Apart u (v2) → Apart u (.slice (some ⟨g7, 0, none⟩) (n2 + 1) cap7) := fun u n' xs ho ha g hg q => by
              replace q : g7 = g := by injection q
              subst q
              rcases hor with h | h
              · exact ha _ hg h
              · have := (ho.lt _ hg).2; simp at this; omega
            have NA := FRESH _ _ _ Z7.out AP.out
            clear hown hgrow Z1 Z2 Z3 Z4 Z5 Z6 Z7 Z8 FRESH hor hlt
            have AP7 := Lib.hid (apSym _ _ NA)
            clear AP NA
            have Z1 := Lib.hid (O1.out.alloc (.cells #[.int .i64 0, .int .i64 ya] 37))
            have Z2 : Hid (∀ (j : Nat) (u : Value), [Value.int .i64 0, .int .i64 ya][j]? = some u → (w7.alloc (.cells #[.int .i64 0, .int .i64 ya] 37)).cell? ((⟨w7.heap.size, 0, none⟩ : Addr).add j) = some u) := fun j u hj => by rw [Addr.add_lit, Nat.zero_add, World.cell?_alloc_new]; simpa using hj
            have Z3 : Hid (∀ u ∈ [Value.int .i64 0, .int .i64 ya], u.oneCell' = true) := fun u hu => by simp at hu; rcases hu with rfl | rfl <;> rfl
            have Z5 : Hid (n1 + 1 ≤ maxLen) := by show _ ≤ _; unfold maxLen; omega
            have Z6 : Hid ((n1 + 1) * 16 ≤ 140737488355328) := by show _ ≤ _; omega
            have Z4 : Hid (W0.heap.size ≤ (w7.alloc (.cells #[.int .i64 0, .int .i64 ya] 37)).heap.size) := by show _ ≤ _; have := A6.out.size; simp; omega
            have Z7 := Lib.hid (O2.out.alloc (.cells #[.int .i64 0, .int .i64 ya] 37))
            have Z8 := Lib.hid (grow A6.out (.cells #[.int .i64 0, .int .i64 ya] 37))
            clear O1 O2 A6
            go_wp2_with (at_builtin; refine wpList_append_lies _ rfl _ _ 22 rfl W0.heap.size 37 i0 (.agg #[.int .i64 0, .int .i64 0]) 2 16 Try.underlying22 hi hz0 hz1 hz2 rfl (by decide) (v1) (n1) (pairs (rl)) rfl Z1.out ⟨w7.heap.size, 0, none⟩ 1 1 [.int .i64 0, .int .i64 ya] rfl rfl Z2.out Z3.out (Nat.succ_pos 0) Z5.out Z6.out Z4.out _ rfl ?_)
            intro g8 cap8 w8 hown hgrow hor hlt
            have A6 : Hid (Below W0.heap.size W0 w8) := Z8.out.grown hgrow Z4.out (own_ge Z1.out)
            have O2 : Hid (w8.ownsRow W0.heap.size 37 2 (.slice (some ⟨g7, 0, none⟩) (n2 + 1) cap7) (n2 + 1) (pairs (rh ++ [(x, t)]))) := apart_kept Z7.out AP7.out hgrow
            have O1 : Hid (w8.ownsRow W0.heap.size 37 2 (.slice (some ⟨g8, 0, none⟩) (n1 + 1) cap8) (n1 + 1) (pairs (rl ++ [(0, ya)]))) := by show World.ownsRow _ _ _ _ _ _ _; rw [pairs_append]; exact hown
            have FRESH : ∀ u n' xs, (w7.alloc (.cells #[.int .i64 0, .int .i64 ya] 37)).ownsRow W0.heap.size 37 2 u n' xs → Apart u (v1) → Apart u (.slice (some ⟨g8, 0, none⟩) (n1 + 1) cap8) := fun u n' xs ho ha g hg q => by
              replace q : g8 = g := by injection q
              subst q
              rcases hor with h | h
              · exact ha _ hg h
              · have := (ho.lt _ hg).2; simp at this; omega
            have NA := FRESH _ _ _ Z7.out AP7.out
            clear hown hgrow Z1 Z2 Z3 Z4 Z5 Z6 Z7 Z8 FRESH hor hlt

            have AP8 := Lib.hid (apSym _ _ NA)
            clear AP7 NA
            have W1 : Hid (w8.ownsRow W0.heap.size 37 2 (.slice (some ⟨g8, 0, none⟩) (n1 + 1) cap8) (loL P m (L.take k1)).length (pairs (loL P m (L.take k1)))) := by show World.ownsRow _ _ _ _ _ _ _; rw [e1.out, LEN1]; exact O1.out
            have W2 : Hid (w8.ownsRow W0.heap.size 37 2 (.slice (some ⟨g7, 0, none⟩) (n2 + 1) cap7) (hiL P m (L.take k1)).length (pairs (hiL P m (L.take k1)))) := by show World.ownsRow _ _ _ _ _ _ _; rw [e2.out, LEN2]; exact O2.out
            have W3 : Hid (Apart (.slice (some ⟨g8, 0, none⟩) (n1 + 1) cap8) (.slice (some ⟨g7, 0, none⟩) (n2 + 1) cap7)) := AP8.out
            clear O1 O2 e1 e2 LEN1 LEN2
            go_wp2
            go_roundw
            case rel => exact ⟨k1, _, _, rfl, rfl, by omega, by first | rfl | (congr 1; omega) | go_num, W1, W2, W3, A6⟩
            case measure => simp [intOf]; omega
          · have ky := decide_eq_false yl
            rw [if_neg yl, List.append_nil] at e1
            replace e1 := Lib.hid e1
            clear xl yl
            have Z1 := Lib.hid (O2.out.alloc (.cells #[.int .i64 x, .int .i64 t] 37))
            have Z2 : Hid (∀ (j : Nat) (u : Value), [Value.int .i64 x, .int .i64 t][j]? = some u → (w6.alloc (.cells #[.int .i64 x, .int .i64 t] 37)).cell? ((⟨w6.heap.size, 0, none⟩ : Addr).add j) = some u) := fun j u hj => by rw [Addr.add_lit, Nat.zero_add, World.cell?_alloc_new]; simpa using hj
            have Z3 : Hid (∀ u ∈ [Value.int .i64 x, .int .i64 t], u.oneCell' = true) := fun u hu => by simp at hu; rcases hu with rfl | rfl <;> rfl
            have Z5 : Hid (n2 + 1 ≤ maxLen) := by show _ ≤ _; unfold maxLen; omega
            have Z6 : Hid ((n2 + 1) * 16 ≤ 140737488355328) := by show _ ≤ _; omega
            have Z4 : Hid (W0.heap.size ≤ (w6.alloc (.cells #[.int .i64 x, .int .i64 t] 37)).heap.size) := by show _ ≤ _; have := A6.out.size; simp; omega
            have Z7 := Lib.hid (O1.out.alloc (.cells #[.int .i64 x, .int .i64 t] 37))
            have Z8 := Lib.hid (grow A6.out (.cells #[.int .i64 x, .int .i64 t] 37))
            clear O2 O1 A6
            go_wp2_with (at_builtin; refine wpList_append_lies _ rfl _ _ 22 rfl W0.heap.size 37 i0 (.agg #[.int .i64 0, .int .i64 0]) 2 16 Try.underlying22 hi hz0 hz1 hz2 rfl (by decide) (v2) (n2) (pairs (rh)) rfl Z1.out ⟨w6.heap.size, 0, none⟩ 1 1 [.int .i64 x, .int .i64 t] rfl rfl Z2.out Z3.out (Nat.succ_pos 0) Z5.out Z6.out Z4.out _ rfl ?_)
            intro g7 cap7 w7 hown hgrow hor hlt
            have A6 : Hid (Below W0.heap.size W0 w7) := Z8.out.grown hgrow Z4.out (own_ge Z1.out)
            have O1 : Hid (w7.ownsRow W0.heap.size 37 2 v1 n1 (pairs rl)) := apart_kept Z7.out AP.out hgrow
            have O2 : Hid (w7.ownsRow W0.heap.size 37 2 (.slice (some ⟨g7, 0, none⟩) (n2 + 1) cap7) (n2 + 1) (pairs (rh ++ [(x, t)]))) := by show World.ownsRow _ _ _ _ _ _ _; rw [pairs_append]; exact hown
            have FRESH : ∀ u n' xs, (w6.alloc (.cells #[.int .i64 x, .int .i64 t] 37)).ownsRow W0.heap.size 37 2 u n' xs → Apart u (v2) → Apart u (.slice (some ⟨g7, 0, none⟩) (n2 + 1) cap7) := fun u n' xs ho ha g hg q => by
              replace q : g7 = g := by injection q
              subst q
              rcases hor with h | h
              · exact ha _ hg h
              · have := (ho.lt _ hg).2; simp at this; omega
            have NA := FRESH _ _ _ Z7.out AP.out
            clear hown hgrow Z1 Z2 Z3 Z4 Z5 Z6 Z7 Z8 FRESH hor hlt
            have AP7 := Lib.hid NA
            clear AP NA
            have W1 : Hid (w7.ownsRow W0.heap.size 37 2 (v1) (loL P m (L.take k1)).length (pairs (loL P m (L.take k1)))) := by show World.ownsRow _ _ _ _ _ _ _; rw [e1.out, hn1.out]; exact O1.out
            have W2 : Hid (w7.ownsRow W0.heap.size 37 2 (.slice (some ⟨g7, 0, none⟩) (n2 + 1) cap7) (hiL P m (L.take k1)).length (pairs (hiL P m (L.take k1)))) := by show World.ownsRow _ _ _ _ _ _ _; rw [e2.out, LEN2]; exact O2.out
            have W3 : Hid (Apart (v1) (.slice (some ⟨g7, 0, none⟩) (n2 + 1) cap7)) := AP7.out
            clear O1 O2 e1 e2 LEN1 LEN2
            go_wp2
            go_roundw
            case rel => exact ⟨k1, _, _, rfl, rfl, by omega, by first | rfl | (congr 1; omega) | go_num, W1, W2, W3, A6⟩
            case measure => simp [intOf]; omega
        · have kx := decide_eq_false xl
          have yl : P < y := by omega
          have ky := decide_eq_true yl
          have hmx : (if x < P then P else x) = x := if_neg xl
          have hmx2 : max x P = x := by omega
          obtain ⟨xa, hxa⟩ : ∃ xa, x - P = xa := ⟨_, rfl⟩
          obtain ⟨ya, hya⟩ : ∃ ya, y - P = ya := ⟨_, rfl⟩
          have yab : 0 ≤ xa ∧ xa ≤ 20000000000 ∧ 0 ≤ ya ∧ ya ≤ 20000000000 := by omega
          rw [if_pos yl, if_neg xl, hya, hxa] at e1
          rw [if_neg xl, List.append_nil] at e2
          replace e1 := Lib.hid e1
          replace e2 := Lib.hid e2
          have AP6 := Lib.hid (apSym _ _ AP.out)
          clear xl yl AP
          have Z1 := Lib.hid (O1.out.alloc (.cells #[.int .i64 xa, .int .i64 ya] 37))
          have Z2 : Hid (∀ (j : Nat) (u : Value), [Value.int .i64 xa, .int .i64 ya][j]? = some u → (w6.alloc (.cells #[.int .i64 xa, .int .i64 ya] 37)).cell? ((⟨w6.heap.size, 0, none⟩ : Addr).add j) = some u) := fun j u hj => by rw [Addr.add_lit, Nat.zero_add, World.cell?_alloc_new]; simpa using hj
          have Z3 : Hid (∀ u ∈ [Value.int .i64 xa, .int .i64 ya], u.oneCell' = true) := fun u hu => by simp at hu; rcases hu with rfl | rfl <;> rfl
          have Z5 : Hid (n1 + 1 ≤ maxLen) := by show _ ≤ _; unfold maxLen; omega
          have Z6 : Hid ((n1 + 1) * 16 ≤ 140737488355328) := by show _ ≤ _; omega
          have Z4 : Hid (W0.heap.size ≤ (w6.alloc (.cells #[.int .i64 xa, .int .i64 ya] 37)).heap.size) := by show _ ≤ _; have := A6.out.size; simp; omega
          have Z7 := Lib.hid (O2.out.alloc (.cells #[.int .i64 xa, .int .i64 ya] 37))
          have Z8 := Lib.hid (grow A6.out (.cells #[.int .i64 xa, .int .i64 ya] 37))
          clear O1 O2 A6
          go_wp2_with (at_builtin; refine wpList_append_lies _ rfl _ _ 22 rfl W0.heap.size 37 i0 (.agg #[.int .i64 0, .int .i64 0]) 2 16 Try.underlying22 hi hz0 hz1 hz2 rfl (by decide) (v1) (n1) (pairs (rl)) rfl Z1.out ⟨w6.heap.size, 0, none⟩ 1 1 [.int .i64 xa, .int .i64 ya] rfl rfl Z2.out Z3.out (Nat.succ_pos 0) Z5.out Z6.out Z4.out _ rfl ?_)
          intro g7 cap7 w7 hown hgrow hor hlt
          have A6 : Hid (Below W0.heap.size W0 w7) := Z8.out.grown hgrow Z4.out (own_ge Z1.out)
          have O2 : Hid (w7.ownsRow W0.heap.size 37 2 v2 n2 (pairs rh)) := apart_kept Z7.out AP6.out hgrow
          have O1 : Hid (w7.ownsRow W0.heap.size 37 2 (.slice (some ⟨g7, 0, none⟩) (n1 + 1) cap7) (n1 + 1) (pairs (rl ++ [(xa, ya)]))) := by show World.ownsRow _ _ _ _ _ _ _; rw [pairs_append]; exact hown
          have FRESH : ∀ u n' xs, (w6.alloc (.cells #[.int .i64 xa, .int .i64 ya] 37)).ownsRow W0.heap.size 37 2 u n' xs → Apart u (v1) → Apart u (.slice (some ⟨g7, 0, none⟩) (n1 + 1) cap7) := fun u n' xs ho ha g hg q => by
            replace q : g7 = g := by injection q
            subst q
            rcases hor with h | h
            · exact ha _ hg h
            · have := (ho.lt _ hg).2; simp at this; omega
          have NA := FRESH _ _ _ Z7.out AP6.out
          clear hown hgrow Z1 Z2 Z3 Z4 Z5 Z6 Z7 Z8 FRESH hor hlt
          have AP7 := Lib.hid (apSym _ _ NA)
          clear AP6 NA
          have W1 : Hid (w7.ownsRow W0.heap.size 37 2 (.slice (some ⟨g7, 0, none⟩) (n1 + 1) cap7) (loL P m (L.take k1)).length (pairs (loL P m (L.take k1)))) := by show World.ownsRow _ _ _ _ _ _ _; rw [e1.out, LEN1]; exact O1.out
          have W2 : Hid (w7.ownsRow W0.heap.size 37 2 (v2) (hiL P m (L.take k1)).length (pairs (hiL P m (L.take k1)))) := by show World.ownsRow _ _ _ _ _ _ _; rw [e2.out, hn2.out]; exact O2.out
          have W3 : Hid (Apart (.slice (some ⟨g7, 0, none⟩) (n1 + 1) cap7) (v2)) := AP7.out
          clear O1 O2 e1 e2 LEN1 LEN2
          go_wp2
          go_roundw
          case rel => exact ⟨k1, _, _, rfl, rfl, by omega, by first | rfl | (congr 1; omega) | go_num, W1, W2, W3, A6⟩
          case measure => simp [intOf]; omega
      · have kz1 : decide ((k : Int) < (N : Int)) = false := decide_eq_false (by omega)
        obtain rfl : k = N := by omega
        rw [List.take_of_length_le (by omega)] at O1 O2
        have HL2 := Lib.hid (HL.out wr _ _ (show PairS W0.heap.size wr v1 (loL P m L) from Sl.owns O1.out) (show PairS W0.heap.size wr v2 (hiL P m L) from Sl.owns O2.out))
        have A7 := Lib.hid (down A0.out A6.out)
        clear O1 O2 HL HP AP A6
        go_wp2_with fail
        refine HL2.out.mono ?_
        rintro e w9 ⟨⟨v9, rfl, P9⟩, hb⟩
        have A9 := Lib.hid (down A7.out hb)
        have P9' := Lib.hid (show PairS 0 w9 v9 _ from Sl.weak P9 (Nat.zero_le _))
        have P9'' := Lib.hid (show PairS w.heap.size w9 v9 _ from Sl.weak P9 A7.out.size)
        clear HL2 A7 hb P9
        go_wp2
        go_ret
        exact ⟨⟨_, rfl, P9'.out, .inr P9''.out⟩, A9.out⟩
end Go.Proofs.Ytaikeclfmmnelaa
