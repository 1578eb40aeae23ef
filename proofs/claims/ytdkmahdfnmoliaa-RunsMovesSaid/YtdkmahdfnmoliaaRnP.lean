/- Lists of spans: how a span is found, how sorted spans are merged, how two lists are swept. No program is mentioned. -/
import Derived.Test.YtdkmahdfnmoliaaRnC
namespace Go.Proofs.Ytdkmahdfnmoliaa
open Go.RowKit
set_option linter.unusedVariables false

theorem getD_zero (p : Sp) (L : List Sp) : (p :: L).getD 0 (0, 0) = p := rfl
theorem getD_succ (p : Sp) (L : List Sp) (j : Nat) : (p :: L).getD (j + 1) (0, 0) = L.getD j (0, 0) := rfl
theorem getD_mem {L : List Sp} {j : Nat} (h : j < L.length) : L.getD j (0, 0) ∈ L := by
  rw [List.getD_eq_getElem?_getD, List.getElem?_eq_getElem h]; exact List.getElem_mem h
theorem mem_getD {L : List Sp} {p : Sp} (h : p ∈ L) : ∃ j, j < L.length ∧ L.getD j (0, 0) = p := by
  obtain ⟨j, hj, rfl⟩ := List.getElem_of_mem h
  exact ⟨j, hj, by rw [List.getD_eq_getElem?_getD, List.getElem?_eq_getElem hj]; rfl⟩
/-- How many spans at the beginning end at x or before it. -/
def fdN : List Sp → Int → Nat
  | [], _ => 0
  | p :: L, x => if p.2 ≤ x then fdN L x + 1 else 0
theorem fd_le : ∀ (L : List Sp) (x : Int), fdN L x ≤ L.length
  | [], _ => Nat.le_refl _
  | p :: L, x => by
    have := fd_le L x
    rw [fdN, List.length_cons]
    split <;> omega
theorem fd_iff : ∀ {L : List Sp}, Cn L → ∀ {x : Int} {j : Nat}, j < L.length → ((L.getD j (0, 0)).2 ≤ x ↔ j < fdN L x)
  | [], _, _, _, h => absurd h (Nat.not_lt_zero _)
  | p :: L, c, x, 0, _ => by
    rw [getD_zero, fdN]
    split
    · exact ⟨fun _ => Nat.succ_pos _, fun _ => by assumption⟩
    · exact ⟨fun h => by omega, fun h => absurd h (Nat.lt_irrefl _)⟩
  | p :: L, c, x, j + 1, h => by
    have hj : j < L.length := by simpa using h
    have ih := fd_iff c.2.2 (x := x) hj
    rw [getD_succ, fdN]
    have m := getD_mem hj
    have a := c.2.1 _ m
    have b := c.2.2.lt _ m
    split
    · rw [ih]; omega
    · exact ⟨fun h => by omega, fun h => absurd h (Nat.not_lt_zero _)⟩
theorem fd_eq {L : List Sp} (c : Cn L) {x : Int} {i : Nat} (hi : i ≤ L.length) (a : ∀ j, j < i → (L.getD j (0, 0)).2 ≤ x) (b : ∀ j, i ≤ j → j < L.length → ¬ (L.getD j (0, 0)).2 ≤ x) : i = fdN L x := by
  have l := fd_le L x
  rcases Nat.lt_trichotomy i (fdN L x) with z | z | z
  · exact absurd ((fd_iff c (x := x) (by omega)).2 z) (b i (Nat.le_refl _) (by omega))
  · exact z
  · exact absurd ((fd_iff c (x := x) (by omega)).1 (a _ z)) (Nat.lt_irrefl _)
/-- Whether the found span has x. -/
def fdH (L : List Sp) (x : Int) : Bool := decide (fdN L x < L.length) && decide ((L.getD (fdN L x) (0, 0)).1 ≤ x)
theorem fd_in : ∀ {L : List Sp}, Cn L → ∀ x, fdH L x = inB L x
  | [], _, _ => rfl
  | p :: L, c, x => by
    have ih := fd_in c.2.2 x
    rw [cn_head c, fdH, fdN]
    by_cases z : p.2 ≤ x
    · rw [if_pos z, if_neg (by omega), ← ih, fdH, getD_succ, List.length_cons]
      congr 1
      exact decide_eq_decide.2 (by omega)
    · rw [if_neg z, if_pos (by omega), getD_zero, decide_eq_true (by simp), Bool.true_and]
theorem fd_rank : ∀ {L : List Sp}, Cn L → ∀ x, rkL L x = msL (L.take (fdN L x)) + (if fdH L x then x - (L.getD (fdN L x) (0, 0)).1 else 0)
  | [], _, _ => rfl
  | p :: L, c, x => by
    have ih := fd_rank c.2.2 x
    have e : rkL (p :: L) x = clS p x + rkL L x := rfl
    have hh := cn_head c x
    rw [fd_in c.2.2] at ih
    rw [e, fd_in c x, fdN]
    have hp := c.1
    by_cases z : p.2 ≤ x
    · rw [if_neg (show ¬ x < p.2 by omega)] at hh
      rw [hh, if_pos z, ih, getD_succ, List.take_succ_cons]
      have : msL (p :: L.take (fdN L x)) = (p.2 - p.1) + msL (L.take (fdN L x)) := rfl
      rw [this, clS, if_pos z]
      omega
    · rw [if_pos (show x < p.2 by omega)] at hh
      rw [hh, if_neg z, getD_zero, List.take_zero, clS, if_neg z]
      have : rkL L x = 0 := rk_low (fun q hq => by have := c.2.1 q hq; have := c.2.2.lt q hq; omega)
      rw [this]
      have m0 : msL [] = 0 := rfl
      rw [m0]
      by_cases y : p.1 ≤ x
      · rw [decide_eq_true y, if_pos rfl]
        split <;> omega
      · rw [decide_eq_false y, if_neg (show ¬ p.1 < x by omega)]; rfl
theorem fd_next : ∀ {L : List Sp}, Cn L → ∀ x, nextL L x = if fdN L x = L.length then (0, false) else ((if x < (L.getD (fdN L x) (0, 0)).1 then (L.getD (fdN L x) (0, 0)).1 else x), true)
  | [], _, _ => rfl
  | p :: L, c, x => by
    have ih := fd_next c.2.2 x
    rw [nextL, fdN, List.length_cons]
    by_cases z : p.2 ≤ x
    · rw [if_neg (show ¬ x < p.2 by omega), if_pos z, ih, getD_succ]
      by_cases y : fdN L x = L.length
      · rw [if_pos y, if_pos (show fdN L x + 1 = L.length + 1 by omega)]
      · rw [if_neg y, if_neg (show ¬ fdN L x + 1 = L.length + 1 by omega)]
    · rw [if_pos (show x < p.2 by omega), if_neg z, if_neg (show ¬ 0 = L.length + 1 by omega), getD_zero]
      split <;> rfl
/-- A span merged into a list whose spans begin before it. -/
def mgS (R : List Sp) (s : Sp) : List Sp :=
  if 0 < R.length ∧ s.1 ≤ (R.getD (R.length - 1) (0, 0)).2 then R.dropLast ++ [((R.getD (R.length - 1) (0, 0)).1, if (R.getD (R.length - 1) (0, 0)).2 < s.2 then s.2 else (R.getD (R.length - 1) (0, 0)).2)] else R ++ [s]
theorem last_snoc (R : List Sp) (q : Sp) : (R ++ [q]).getD ((R ++ [q]).length - 1) (0, 0) = q := by
  rw [List.getD_eq_getElem?_getD]; simp
theorem mg_nil (s : Sp) : mgS [] s = [s] := rfl
theorem mg_snoc (R : List Sp) (q s : Sp) : mgS (R ++ [q]) s = if s.1 ≤ q.2 then R ++ [(q.1, if q.2 < s.2 then s.2 else q.2)] else R ++ [q] ++ [s] := by
  unfold mgS
  rw [last_snoc]
  have h : 0 < (R ++ [q]).length := by simp
  by_cases z : s.1 ≤ q.2
  · rw [if_pos ⟨h, z⟩, if_pos z, List.dropLast_concat]
  · rw [if_neg (fun y => z y.2), if_neg z]
theorem mg_len (l : List Sp) (s : Sp) : (mgS l s).length ≤ l.length + 1 := by
  rcases snoc_cases l with rfl | ⟨R, q, rfl⟩
  · rw [mg_nil]; simp
  · rw [mg_snoc]; split <;> simp
theorem inB_one (s : Sp) (x : Int) : inB [s] x = (decide (s.1 ≤ x) && decide (x < s.2)) := by simp [inB]
theorem mg_ok {R : List Sp} {s : Sp} (c : Cn R) (b : ∀ q, q ∈ R → q.1 ≤ s.1) (h : s.1 < s.2) :
    Cn (mgS R s) ∧ (∀ x, inB (mgS R s) x = (inB R x || (decide (s.1 ≤ x) && decide (x < s.2)))) ∧ ∀ q, q ∈ mgS R s → q.1 ≤ s.1 := by
  rcases snoc_cases R with rfl | ⟨R, q, rfl⟩
  · rw [mg_nil]
    exact ⟨⟨h, fun q hq => (by cases hq), trivial⟩, fun x => by rw [inB_one]; rfl, fun q hq => by rw [List.mem_singleton.1 hq]; exact Int.le_refl _⟩
  · obtain ⟨c1, c2, c3⟩ := cn_last c
    have bq := b q (by simp)
    rw [mg_snoc]
    by_cases z : s.1 ≤ q.2
    · rw [if_pos z]
      refine ⟨cn_snoc c1 c2 (by show q.1 < ite _ _ _; split <;> omega), fun x => ?_, fun r hr => ?_⟩
      · rw [inB_app, inB_app, inB_one, inB_one, Bool.or_assoc]
        congr 1
        rw [Bool.eq_iff_iff]
        simp only [Bool.and_eq_true, Bool.or_eq_true, decide_eq_true_iff]
        split <;> omega
      · rcases List.mem_append.1 hr with hr | hr
        · exact b r (List.mem_append_left _ hr)
        · rw [List.mem_singleton.1 hr]; exact bq
    · rw [if_neg z]
      refine ⟨cn_snoc c (fun r hr => ?_) h, fun x => by rw [inB_app, inB_one], fun r hr => ?_⟩
      · rcases List.mem_append.1 hr with hr | hr
        · have := c2 r hr; omega
        · rw [List.mem_singleton.1 hr]; omega
      · rcases List.mem_append.1 hr with hr | hr
        · exact b r hr
        · rw [List.mem_singleton.1 hr]; exact Int.le_refl _
def mgK (L : List Sp) : Nat → List Sp
  | 0 => []
  | k + 1 => mgS (mgK L k) (L.getD k (0, 0))
theorem mgK_len (L : List Sp) : ∀ k, (mgK L k).length ≤ k
  | 0 => Nat.le_refl _
  | k + 1 => by have := mgK_len L k; have := mg_len (mgK L k) (L.getD k (0, 0)); rw [mgK]; omega
theorem mgK_inv {L : List Sp} (s : ∀ i j, i < j → j < L.length → (L.getD i (0, 0)).1 ≤ (L.getD j (0, 0)).1) (v : ∀ p, p ∈ L → p.1 < p.2) : ∀ k, k ≤ L.length →
    Cn (mgK L k) ∧ (∀ x, inB (mgK L k) x = true ↔ ∃ j, j < k ∧ (L.getD j (0, 0)).1 ≤ x ∧ x < (L.getD j (0, 0)).2) ∧ ∀ q, q ∈ mgK L k → ∃ j, j < k ∧ q.1 ≤ (L.getD j (0, 0)).1
  | 0, _ => ⟨trivial, fun x => ⟨fun h => (by cases h), fun ⟨j, hj, _⟩ => absurd hj (Nat.not_lt_zero _)⟩, fun q hq => (by cases hq)⟩
  | k + 1, hk => by
    obtain ⟨c, e, b⟩ := mgK_inv s v k (by omega)
    have b' : ∀ q, q ∈ mgK L k → q.1 ≤ (L.getD k (0, 0)).1 := fun q hq => by
      obtain ⟨j, hj, a⟩ := b q hq
      have := s j k hj (by omega)
      omega
    obtain ⟨c', e', b''⟩ := mg_ok c b' (v _ (getD_mem (by omega : k < L.length)))
    rw [mgK]
    refine ⟨c', fun x => ?_, fun q hq => ⟨k, Nat.lt_succ_self _, b'' q hq⟩⟩
    rw [e' x, Bool.or_eq_true, e x, Bool.and_eq_true, decide_eq_true_iff, decide_eq_true_iff]
    constructor
    · rintro (⟨j, hj, a⟩ | a)
      · exact ⟨j, by omega, a⟩
      · exact ⟨k, by omega, a⟩
    · rintro ⟨j, hj, a⟩
      rcases Nat.lt_or_ge j k with y | y
      · exact .inl ⟨j, y, a⟩
      · obtain rfl : j = k := by omega
        exact .inr a
theorem mg_of {L L' : List Sp} (m : ∀ p, p ∈ L' ↔ p ∈ L) (v : ∀ p, p ∈ L → p.1 < p.2) (s : ∀ i j, i < j → j < L'.length → (L'.getD i (0, 0)).1 ≤ (L'.getD j (0, 0)).1) : mgK L' L'.length = cbL 1 L [] := by
  obtain ⟨c, e, -⟩ := mgK_inv s (fun p hp => v p ((m p).1 hp)) L'.length (Nat.le_refl _)
  obtain ⟨c2, e2, -⟩ := cb_spec 1 L []
  refine cn_ext c c2 fun x => ?_
  have k1 : ∀ a, kpB 1 a false = a := fun a => by cases a <;> rfl
  rw [e2, inB_nil, k1, Bool.eq_iff_iff, e, inB_iff]
  constructor
  · rintro ⟨j, hj, a⟩
    exact ⟨_, (m _).1 (getD_mem hj), a⟩
  · rintro ⟨p, hp, a⟩
    obtain ⟨j, hj, rfl⟩ := mem_getD ((m p).2 hp)
    exact ⟨j, hj, a⟩
/-- The end with a number, in which beginnings and ends take turns. -/
def edL (A : List Sp) (i : Nat) : Int := if 2 * A.length ≤ i then 4398046511105 else if i % 2 = 0 then (A.getD (i / 2) (0, 0)).1 else (A.getD (i / 2) (0, 0)).2
theorem ed_off {A : List Sp} {i : Nat} (h : 2 * A.length ≤ i) : edL A i = 4398046511105 := by rw [edL, if_pos h]
theorem ed_even {A : List Sp} {m : Nat} (h : m < A.length) : edL A (2 * m) = (A.getD m (0, 0)).1 := by
  rw [edL, if_neg (by omega), if_pos (by omega), show 2 * m / 2 = m by omega]
theorem ed_odd {A : List Sp} {m : Nat} (h : m < A.length) : edL A (2 * m + 1) = (A.getD m (0, 0)).2 := by
  rw [edL, if_neg (by omega), if_neg (by omega), show (2 * m + 1) / 2 = m by omega]
theorem ed_lt {A : List Sp} (c : Cn A) (l : Ln A) {i : Nat} (h : i < 2 * A.length) : edL A i < edL A (i + 1) := by
  obtain ⟨m, z⟩ : ∃ m, i = 2 * m ∨ i = 2 * m + 1 := ⟨i / 2, by omega⟩
  rcases z with rfl | rfl
  · rw [ed_even (by omega), ed_odd (by omega)]
    exact c.lt _ (getD_mem (by omega))
  · rw [ed_odd (by omega)]
    by_cases y : m + 1 < A.length
    · rw [show 2 * m + 1 + 1 = 2 * (m + 1) by omega, ed_even y]
      exact gpB_at.1 (gp_of_cn c) m y
    · rw [ed_off (by omega)]
      have := l _ (getD_mem (by omega : m < A.length)); omega
theorem ed_mono {A : List Sp} (c : Cn A) (l : Ln A) {i : Nat} : ∀ d, i + d + 1 ≤ 2 * A.length → edL A i < edL A (i + d + 1)
  | 0, h => ed_lt c l (by omega)
  | d + 1, h => by
    have a := ed_mono c l (i := i) d (by omega)
    have b := ed_lt c l (i := i + d + 1) (by omega)
    rw [show i + (d + 1) + 1 = i + d + 1 + 1 by omega]; omega
theorem ed_less {A : List Sp} (c : Cn A) (l : Ln A) {i j : Nat} (h : i < j) (hj : j ≤ 2 * A.length) : edL A i < edL A j := by
  have := ed_mono c l (i := i) (j - i - 1) (by omega)
  rwa [show i + (j - i - 1) + 1 = j by omega] at this
theorem ed_top {A : List Sp} (c : Cn A) (l : Ln A) {i : Nat} (h : i < 2 * A.length) : edL A i < 4398046511105 := by
  have := ed_less c l h (Nat.le_refl _)
  rwa [ed_off (Nat.le_refl _)] at this
theorem ed_in {A : List Sp} (c : Cn A) (l : Ln A) {i : Nat} (hi : i ≤ 2 * A.length) {y : Int} (a : ∀ m, m < i → edL A m ≤ y) (b : y < edL A i) : inB A y = decide (i % 2 = 1) := by
  rw [Bool.eq_iff_iff, inB_iff, decide_eq_true_iff]
  constructor
  · rintro ⟨p, hp, p0, p1⟩
    obtain ⟨j, hj, rfl⟩ := mem_getD hp
    rw [← ed_even hj] at p0
    rw [← ed_odd hj] at p1
    rcases Nat.lt_or_ge (2 * j + 1) i with y' | y'
    · have := a _ y'; omega
    rcases Nat.lt_or_ge i (2 * j + 1) with z | z
    · rcases Nat.lt_or_ge i (2 * j) with t | t
      · have := ed_less c l t (by omega); omega
      · obtain rfl : i = 2 * j := by omega
        omega
    · omega
  · intro o
    obtain ⟨m, rfl⟩ : ∃ m, i = 2 * m + 1 := ⟨i / 2, by omega⟩
    have hm : m < A.length := by omega
    refine ⟨A.getD m (0, 0), getD_mem hm, ?_, ?_⟩
    · rw [← ed_even hm]; exact a _ (by omega)
    · rw [← ed_odd hm]; exact b
/-- What holds of a sweep of two lists ahead of the next place N. -/
structure SwI (k : Int) (A B : List Sp) (i j : Nat) (fr : Int) (kp : Bool) (R : List Sp) (N : Int) : Prop where
  i1 : i ≤ 2 * A.length
  j1 : j ≤ 2 * B.length
  kv : kp = kpB k (decide (i % 2 = 1)) (decide (j % 2 = 1))
  n1 : N = if edL B j < edL A i then edL B j else edL A i
  a1 : ∀ m, m < i → edL A m < N
  b1 : ∀ m, m < j → edL B m < N
  cn : Cn R
  op : kp = true → fr < N ∧ ∀ q, q ∈ R → q.2 < fr
  cl : ∀ q, q ∈ R → q.2 < N
  sp : ∀ y, y < N → (inB R y || (kp && decide (fr ≤ y))) = kpB k (inB A y) (inB B y)
  ln : R.length ≤ i + j
theorem sw_start {k : Int} {A B : List Sp} (hA : Cn A) (lA : Ln A) (hB : Cn B) (lB : Ln B) : SwI k A B 0 0 0 false [] (if edL B 0 < edL A 0 then edL B 0 else edL A 0) := by
  refine ⟨Nat.zero_le _, Nat.zero_le _, by rw [show decide (0 % 2 = 1) = false from rfl, kp_no], rfl, fun m h => absurd h (Nat.not_lt_zero _), fun m h => absurd h (Nat.not_lt_zero _), trivial, fun h => (by cases h), fun q h => (by cases h), fun y hy => ?_, Nat.le_refl _⟩
  have a : inB A y = false := by
    rw [ed_in hA lA (Nat.zero_le _) (fun m h => absurd h (Nat.not_lt_zero _)) (by split at hy <;> omega)]; rfl
  have b : inB B y = false := by
    rw [ed_in hB lB (Nat.zero_le _) (fun m h => absurd h (Nat.not_lt_zero _)) (by split at hy <;> omega)]; rfl
  rw [a, b, kp_no]; rfl
theorem in_high {R : List Sp} {y : Int} (h : ∀ q, q ∈ R → q.2 ≤ y) : inB R y = false := by
  rw [← Bool.not_eq_true, inB_iff]
  rintro ⟨p, hp, -, a⟩
  have := h p hp; omega
/-- One place further. -/
theorem sw_step {k : Int} {A B : List Sp} (hA : Cn A) (lA : Ln A) (hB : Cn B) (lB : Ln B) {i j : Nat} {fr : Int} {kp : Bool} {R : List Sp} {N : Int} (S : SwI k A B i j fr kp R N) (h : i < 2 * A.length ∨ j < 2 * B.length)
    {i' j' : Nat} (hi : i' = if edL A i = N then i + 1 else i) (hj : j' = if edL B j = N then j + 1 else j) {kp' : Bool} (hk : kp' = kpB k (decide (i' % 2 = 1)) (decide (j' % 2 = 1))) :
    SwI k A B i' j' (if kp' && !kp then N else fr) kp' (if kp && !kp' then R ++ [(fr, N)] else R) (if edL B j' < edL A i' then edL B j' else edL A i') ∧ i + j < i' + j' := by
  obtain ⟨i1, j1, kv, n1, a1, b1, cn, op, cl, sp, ln⟩ := S
  have top : N < 4398046511105 := by
    rw [n1]
    rcases h with h | h
    · have := ed_top hA lA h; split <;> omega
    · have := ed_top hB lB h; split <;> omega
  have ga : N ≤ edL A i := by rw [n1]; split <;> omega
  have gb : N ≤ edL B j := by rw [n1]; split <;> omega
  have ea : edL A i = N → i < 2 * A.length := fun e => by
    rcases Nat.lt_or_ge i (2 * A.length) with z | z
    · exact z
    · rw [ed_off z] at e; omega
  have eb : edL B j = N → j < 2 * B.length := fun e => by
    rcases Nat.lt_or_ge j (2 * B.length) with z | z
    · exact z
    · rw [ed_off z] at e; omega
  have i1' : i' ≤ 2 * A.length := by
    rw [hi]; split
    · have := ea (by assumption); omega
    · exact i1
  have j1' : j' ≤ 2 * B.length := by
    rw [hj]; split
    · have := eb (by assumption); omega
    · exact j1
  have a2 : ∀ m, m < i' → edL A m ≤ N := fun m hm => by
    rcases Nat.lt_or_ge m i with z | z
    · have := a1 m z; omega
    · rw [hi] at hm
      split at hm
      · obtain rfl : m = i := by omega
        omega
      · omega
  have b2 : ∀ m, m < j' → edL B m ≤ N := fun m hm => by
    rcases Nat.lt_or_ge m j with z | z
    · have := b1 m z; omega
    · rw [hj] at hm
      split at hm
      · obtain rfl : m = j := by omega
        omega
      · omega
  have a3 : N < edL A i' := by
    rw [hi]; split
    · have := ed_lt hA lA (ea (by assumption)); omega
    · omega
  have b3 : N < edL B j' := by
    rw [hj]; split
    · have := ed_lt hB lB (eb (by assumption)); omega
    · omega
  have more : i + j < i' + j' := by
    have : edL A i = N ∨ edL B j = N := by
      rw [n1]; split
      · exact .inr rfl
      · exact .inl rfl
    rw [hi, hj]
    rcases this with e | e
    · rw [if_pos e]; split <;> omega
    · rw [if_pos e]; split <;> omega
  obtain ⟨M, hM⟩ : ∃ M, (if edL B j' < edL A i' then edL B j' else edL A i') = M := ⟨_, rfl⟩
  have nm : N < M := by rw [← hM]; split <;> omega
  have ma : M ≤ edL A i' := by rw [← hM]; split <;> omega
  have mb : M ≤ edL B j' := by rw [← hM]; split <;> omega
  have mid : ∀ y, N ≤ y → y < M → kpB k (inB A y) (inB B y) = kp' := fun y y0 y1 => by
    rw [ed_in hA lA i1' (fun m hm => by have := a2 m hm; omega) (by omega), ed_in hB lB j1' (fun m hm => by have := b2 m hm; omega) (by omega), hk]
  rw [hM]
  have R0 : ∀ y, N ≤ y → inB R y = false := fun y hy => in_high (fun q hq => by have := cl q hq; omega)
  refine ⟨⟨i1', j1', hk, hM.symm, fun m hm => by have := a2 m hm; omega, fun m hm => by have := b2 m hm; omega, ?_, ?_, ?_, ?_, ?_⟩, more⟩
  · cases kp <;> cases kp' <;> simp only [Bool.and_false, Bool.and_true, Bool.not_true, Bool.not_false, Bool.false_eq_true, if_false, if_true]
    · exact cn
    · exact cn
    · obtain ⟨f1, f2⟩ := op rfl
      exact cn_snoc cn f2 f1
    · exact cn
  · intro e
    subst e
    cases kp <;> simp only [Bool.and_false, Bool.and_true, Bool.not_true, Bool.not_false, Bool.false_eq_true, if_false, if_true]
    · exact ⟨nm, cl⟩
    · obtain ⟨f1, f2⟩ := op rfl
      exact ⟨by omega, f2⟩
  · intro q hq
    cases kp <;> cases kp' <;> simp only [Bool.and_false, Bool.and_true, Bool.not_true, Bool.not_false, Bool.false_eq_true, if_false, if_true] at hq
    · have := cl q hq; omega
    · have := cl q hq; omega
    · rcases List.mem_append.1 hq with hq | hq
      · have := cl q hq; omega
      · rw [List.mem_singleton.1 hq]; exact nm
    · have := cl q hq; omega
  · intro y hy
    rcases Int.lt_or_le y N with z | z
    · rw [← sp y z]
      cases kp <;> cases kp' <;> simp only [Bool.and_false, Bool.and_true, Bool.not_true, Bool.not_false, Bool.false_eq_true, if_false, if_true, Bool.false_and, Bool.true_and, Bool.or_false]
      · rw [decide_eq_false (by omega), Bool.or_false]
      · rw [inB_app, inB_one, decide_eq_true z, Bool.and_true]
    · rw [mid y z hy]
      cases kp <;> cases kp' <;> simp only [Bool.and_false, Bool.and_true, Bool.not_true, Bool.not_false, Bool.false_eq_true, if_false, if_true, Bool.false_and, Bool.true_and, Bool.or_false]
      · exact R0 y z
      · rw [decide_eq_true z, Bool.or_true]
      · rw [inB_app, inB_one, R0 y z, decide_eq_false (by omega : ¬ y < N), Bool.and_false]; rfl
      · obtain ⟨f1, f2⟩ := op rfl
        rw [decide_eq_true (by omega : fr ≤ y), Bool.or_true]
  · split
    · rw [List.length_append, List.length_singleton]; omega
    · omega
theorem sw_end {k : Int} {A B : List Sp} (lA : Ln A) (lB : Ln B) {i j : Nat} {fr : Int} {kp : Bool} {R : List Sp} {N : Int} (S : SwI k A B i j fr kp R N) (hi : 2 * A.length ≤ i) (hj : 2 * B.length ≤ j) : R = cbL k A B := by
  obtain ⟨i1, j1, kv, n1, a1, b1, cn, op, cl, sp, ln⟩ := S
  obtain ⟨c2, e2, -⟩ := cb_spec k A B
  have hN : N = 4398046511105 := by rw [n1, ed_off hi, ed_off hj]; rfl
  have hk : kp = false := by
    rw [kv, decide_eq_false (by omega), decide_eq_false (by omega), kp_no]
  refine cn_ext cn c2 fun x => ?_
  rw [e2]
  rcases Int.lt_or_le x N with z | z
  · rw [← sp x z, hk]; simp
  · rw [in_high (fun q hq => by have := cl q hq; omega), in_high (fun q hq => by have := lA q hq; omega), in_high (fun q hq => by have := lB q hq; omega), kp_no]
theorem not_ap (A : List Sp) (p : Sp) : ruAp 3 [p] A = ruNot A p := by
  unfold ruAp ruNot
  have e : vaB [p] = spB p := by
    unfold vaB spsB gpB
    simp
  rw [e, Bool.and_comm]
theorem eq_and (A B : List Sp) : (vaB A && vaB B && decide (A = B)) = (vaB A && (A == B)) := by
  by_cases e : A = B
  · subst e; simp
  · rw [decide_eq_false e, Bool.and_false, show (A == B) = false by rw [beq_eq_false_iff_ne]; exact e, Bool.and_false]
end Go.Proofs.Ytdkmahdfnmoliaa
