/- Contracts of package runs: what Of calls of the library. -/
import Derived.Test.YtaikeclfmmnelaaQGD
import Derived.Test.YtaikeclfmmnelaaQGE
import Derived.Test.YtaikeclfmmnelaaQRnQ
import Derived.Test.YtaikeclfmmnelaaShelfSort
import Derived.Deep.LoopGhost
import Derived.Shelf.RegionOpenPlain
namespace Go.Proofs.Ytaikeclfmmnelaa

open Go.RowKit

set_option linter.unusedVariables false

theorem ricmpnan (a : Int) (w : World) :
    Calls Try.prog 101 #[.int .i64 a] w fun e w' => e = .returned (.bool false) ∧ w = w' := by
  have e : (a != a) = false := by simp
  go_enter Try.func101, Try.ntmps101
  go_wp2
  go_ret
  exact ⟨rfl, rfl⟩
def cmS (a b : Int) : Int := if a < b then -1 else if b < a then 1 else 0
theorem cmS_neg (a b : Int) : cmS a b < 0 ↔ a < b := by unfold cmS; split <;> (try split) <;> omega
theorem ricmp (a b : Int) (w : World) :
    Calls Try.prog 84 #[.int .i64 a, .int .i64 b] w fun e w' => e = .returned (.int .i64 (cmS a b)) ∧ w = w' := by
  have HA := Lib.hid (fun w => ricmpnan a w)
  have HB := Lib.hid (fun w => ricmpnan b w)
  have go : ∀ p q : Bool, decide (a < b) = p → decide (b < a) = q → cmS a b = (if p then -1 else if q then 1 else 0) := by
    rintro p q rfl rfl
    unfold cmS
    simp
  cases p : decide (a < b) <;> cases q : decide (b < a)
  all_goals
    rw [go _ _ p q]
    clear go
    go_enter Try.func84, Try.ntmps84
    go_wp2_with (first | (with_reducible refine (HA.out _).mono ?_) | refine (HB.out _).mono ?_); rintro e w1 ⟨rfl, rfl⟩
    go_wp2_with (first | (with_reducible refine (HB.out _).mono ?_) | refine (HA.out _).mono ?_); rintro e w2 ⟨rfl, rfl⟩
    go_wp2
    go_ret
    exact ⟨rfl, rfl⟩
set_option maxRecDepth 100000 in
set_option maxHeartbeats 1000000 in
theorem ruclosure (x y : Sp) (w : World) :
    Calls Try.prog 83 #[.agg #[.int .i64 x.1, .int .i64 x.2], .agg #[.int .i64 y.1, .int .i64 y.2]] w fun e w' => e = .returned (.int .i64 (cmS x.1 y.1)) ∧ ∃ q os', w' = Go.Sort.grow (w.drewN q) os' := by
  have HC := Lib.hid (fun W => ricmp x.1 y.1 W)
  generalize cmS x.1 y.1 = r at *
  go_enter Try.func83, Try.ntmps83
  go_wp2_with (go_at_call 84; refine (HC.out _).mono ?_; rintro e w' ⟨rfl, rfl⟩)
  go_ret
  exact ⟨rfl, 0, _, by rw [Go.Sort.alloc_eq_grow, Go.Sort.alloc_eq_grow, Go.Sort.grow_grow]; rfl⟩
theorem swoS : Go.Sort.SWO (ltOf fun x y : Sp => cmS x.1 y.1) where
  irrefl x := by unfold ltOf; rw [decide_eq_false_iff_not, cmS_neg]; omega
  trans x y z h1 h2 := by unfold ltOf at *; rw [decide_eq_true_iff, cmS_neg] at *; omega
  ntrans x y z h1 h2 := by unfold ltOf at *; rw [decide_eq_false_iff_not, cmS_neg] at *; omega
set_option maxRecDepth 100000 in
set_option maxHeartbeats 1000000 in
theorem runone1 (p : Option Addr) (c : Nat) (fv : Value) (w : World) :
    Calls Try.prog 107 #[.slice p 0 c, .int .i64 0, .int .i64 0, fv] w fun e w' => e = .returned (.tuple #[]) ∧ w = w' := by
  go_enter Try.func107, Try.ntmps107
  go_wp2
  refine wp_loop_rounds 1 ?_
  rw [rounds_succ]
  go_wp2
  go_end0
  exact ⟨rfl, rfl⟩
theorem runone2 (p : Option Addr) (c : Nat) (l : Int) (fv : Value) (w : World) :
    Calls Try.prog 99 #[.slice p 0 c, .int .i64 0, .int .i64 0, .int .i64 l, fv] w fun e w' => e = .returned (.tuple #[]) ∧ w = w' := by
  have HI := Lib.hid (fun W => runone1 p c fv W)
  go_enter Try.func99, Try.ntmps99
  go_wp2
  refine wp_loop_rounds 1 ?_
  rw [rounds_succ]
  go_wp2_with (go_at_call 107; refine (HI.out _).mono ?_; rintro e w' ⟨rfl, rfl⟩)
  (try simp only [Exit.inBlock, Exit.then])
  refine bodyPost_ret (results_none rfl _ _ _) rfl ?_
  exact ⟨rfl, rfl⟩
theorem runone (p : Option Addr) (c : Nat) (fv : Value) (w : World) :
    Calls Try.prog 82 #[.slice p 0 c, fv] w fun e w' => e = .returned (.tuple #[]) ∧ w = w' := by
  have HP := Lib.hid (fun l W => runone2 p c l fv W)
  have HL : Hid (∀ W, Calls Try.prog 100 #[.int .u64 0] W fun e w' => e = .returned (.int .i64 (Lib.bitLen 0 : Nat)) ∧ w' = W) := fun W => by
    have h := Any.bits_Len (SlLaysF0.n15.bits (P := Try.prog) (ρ := Try.sortSp_ren) { Try.sortSp with }) 0 W (by omega) (by omega)
    exact h
  go_enter Try.func82, Try.ntmps82
  go_wp2_with (first | (go_at_call 100; refine (HL.out _).mono ?_; rintro e w' ⟨rfl, rfl⟩) | (go_at_call 99; refine (HP.out _ _).mono ?_; rintro e w' ⟨rfl, rfl⟩))
  go_end0
  exact ⟨rfl, rfl⟩
set_option maxRecDepth 100000 in
set_option maxHeartbeats 1000000 in
/-- A sorted row of one's own. -/
theorem rusort (L : List Sp) (n : Nat) (hL : L.length = n) (hn : n ≤ 1000000) (v : Value) (w : World) {base : Nat} (h : w.ownsRow base 37 2 v n (pairs L)) (W0 : World) (hb : Below W0.heap.size W0 w) (hbase : W0.heap.size ≤ base) :
    Calls Try.prog 82 #[v, .func (.func 83) #[] #[]] w fun e w' => e = .returned (.tuple #[]) ∧ ∃ M : List Sp, PairS W0.heap.size w' v M ∧ M.length = n ∧ (∀ p, p ∈ M ↔ p ∈ L) ∧ (∀ i j, i < j → j < M.length → (M.getD i (0, 0)).1 ≤ (M.getD j (0, 0)).1) ∧ Below W0.heap.size W0 w' := by
  rcases Nat.eq_zero_or_pos n with n0 | n0
  · subst n0
    obtain rfl : L = [] := List.eq_nil_of_length_eq_zero hL
    obtain ⟨ao, c, rfl⟩ := (Sl.owns h).shape
    have q := runone ao c (.func (.func 83) #[] #[]) w
    refine q.mono ?_
    rintro e w' ⟨rfl, rfl⟩
    exact ⟨rfl, [], .inl ⟨rfl, _, _, rfl⟩, rfl, fun p => Iff.rfl, fun i j hij hj => absurd hj (Nat.not_lt_zero _), hb⟩
  · obtain ⟨g, cp, rfl⟩ : ∃ g cp, v = .slice (some ⟨g, 0, none⟩) n cp := by
      rcases h.2 with ⟨-, h0⟩ | ⟨g, cp, cur, e, -⟩
      · omega
      · exact ⟨g, cp, e⟩
    have gl := h.lt g rfl
    have hH := holds_own hL h
    have sz : L.toArray.size = n := by simpa using hL
    have eg : ∀ args w, (callFunc 83 args).run Try.prog w = .ok (.enter 83 args) w := enters_of Try.func83 (by kernel_rfl) rfl
    have cl : CmpLays Try.prog 83 #[] encS 2 (fun x y => cmS x.1 y.1) g 0 L.toArray.size w := fun _ _ _ _ x y => ruclosure x y _
    have q := AnyQ.slices_SortFunc Try.sortSp 2 Try.isAgg37 Try.sizeOf37 encS (fun _ => rfl) (fun x u hu => by simp [encS] at hu; rcases hu with rfl | rfl <;> rfl) (fun x y => cmS x.1 y.1) swoS 83 #[] g 0 cp L.toArray w eg cl hH gl.2 (by omega)
    change Calls Try.prog 82 _ _ _ at q
    rw [sz] at q
    refine q.mono ?_
    rintro e w' ⟨rfl, d', m, os, hp, hs, rfl⟩
    rw [← sz] at hp hs
    obtain ⟨s1, s2, s3⟩ := sort_list hp (fun i j a b c => by
      have := hs i j a b c
      unfold ltOf at this
      rw [decide_eq_false_iff_not, cmS_neg] at this
      exact this)
    have hl : d'.toList.length = n := by rw [Array.length_toList, s1, sz]
    have hB := below_sort (n := m) (d := d') (os := os) hb (show W0.heap.size ≤ g by omega) (Nat.le_refl _)
    refine ⟨rfl, d'.toList, ?_, hl, fun p => by rw [s2 p], s3, hB⟩
    have hH2 := holdsK_sortWorldK_c encS 2 w g 0 L.toArray d' m os hH gl.2 s1
    show Sl _ _ _ _ _
    rw [hl]
    refine .inr ⟨g, 0, cp, rfl, by omega, ?_⟩
    refine lies_held ?_ hH2
    have := size_sortWorldK_c encS 2 w g 0 m d' os
    omega
set_option maxRecDepth 100000 in
set_option maxHeartbeats 1000000 in
theorem ruclone (v : Value) (L : List Sp) (n : Nat) (hL : L.length = n) (hn : n ≤ 1000000) (w : World) {base : Nat} (h : PairS base w v L) :
    Calls Try.prog 77 #[v] w fun e w' => ∃ v', e = .returned v' ∧ w'.ownsRow w.heap.size 37 2 v' n (pairs L) ∧ Below w.heap.size w w' := by
  obtain ⟨i0, hi, hz0, hz1, hz2⟩ := info_parts infoS
  have q22 : ∀ (w : World) (a : Option Addr) (n c n' c' : Nat), (binOp .eql 22 (.slice a n c) (.slice none n' c')).run Try.prog w = .ok (.bool a.isNone) w := fun w a n c n' c' => Lib.run_eql_slice_nil w _ _ a n c n' c' Try.underlying22
  obtain ⟨ao, c, rfl⟩ := prs_shape h
  rw [hL]
  have cells : ∀ a, ao = some a → ∀ j u, (pairs L)[j]? = some u → w.cell? (a.add j) = some u := by
    intro a ha j u hu
    rcases h with ⟨h0, -⟩ | ⟨b, off, c', e, -, l⟩
    · rw [List.eq_nil_of_length_eq_zero h0] at hu; simp [pairs] at hu
    · injection e with e1 e2 e3
      rw [ha] at e1
      injection e1 with e1
      subst e1
      rw [Addr.add_lit]
      exact l.cell j u hu
  have nil0 : ao = none → n = 0 := by
    rintro rfl
    rcases h with ⟨h0, -⟩ | ⟨b, off, c', e, -⟩
    · omega
    · injection e with e1; cases e1
  have pl : (pairs L).length = n * 2 := by rw [pairs_length, hL]
  have P1 : Hid (∀ u ∈ pairs L, u.oneCell' = true) := fun u hu => by
    clear cells nil0 pl h hL
    induction L with
    | nil => cases hu
    | cons p l ih =>
      rcases List.mem_cons.1 hu with rfl | hu
      · rfl
      · rcases List.mem_cons.1 hu with rfl | hu
        · rfl
        · exact ih hu
  cases ao with
  | none =>
    obtain rfl := nil0 rfl
    obtain rfl : L = [] := List.eq_nil_of_length_eq_zero hL
    clear cells nil0 h pl P1
    go_enter Try.func77, Try.ntmps77
    go_wp2
    go_ret
    exact ⟨_, rfl, World.ownsRow_nil _ _ _ _, here w⟩
  | some a =>
    replace cells := Lib.hid (cells a rfl)
    clear nil0 h
    go_enter Try.func77, Try.ntmps77
    go_wp2_with (at_builtin; refine wpList_append_own _ rfl _ _ 22 rfl w.heap.size 37 i0 (.agg #[.int .i64 0, .int .i64 0]) 2 16 Try.underlying22 hi hz0 hz1 hz2 rfl (by decide) _ _ _ rfl (World.ownsRow_made w #[] 0 (Nat.le_refl _) (Nat.zero_le _) (by simp)) a n c (pairs L) rfl ?c0 ?c1 ?c2 ?c3 ?c4 ?c5 ?_)
    case c0 => exact pl
    case c1 => intro j u hj; exact Lib.cell?_alloc_some _ (cells.out j u hj)
    case c2 => exact P1.out
    case c3 => unfold maxLen; omega
    case c4 => omega
    case c5 => simp
    intro v' w1 hown hgrow _
    have A1 : Hid (Below w.heap.size w w1) := ((Below.refl _ w).alloc (Nat.le_refl _) _).grown hgrow (by simp) (by intro k hk; simp [Value.ownBlock] at hk; omega)
    have O1 : Hid (w1.ownsRow w.heap.size 37 2 v' n (pairs L)) := by show World.ownsRow _ _ _ _ _ _ _; simpa using hown
    clear hown hgrow
    go_wp2
    go_ret
    exact ⟨_, rfl, O1.out, A1.out⟩
end Go.Proofs.Ytaikeclfmmnelaa
