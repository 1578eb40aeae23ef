/- Sets written as names in any order, and read again: plain facts. -/
import Derived.Test.YtiaidmjhgfaobaaDoorAlX
import Derived.Test.YtiaidmjhgfaobaaDoorAlPar
import Derived.Test.YtiaidmjhgfaobaaDoorAlTab
namespace Go.Proofs.YtiaidmjhgfaobaaDoor
open Go.RowKit
set_option linter.unusedVariables false

theorem add_or {o r : Nat} (ho : o < 8192) (hr : r ≤ 12) (h : o.testBit r = false) : o + 2 ^ r = o ||| 2 ^ r := by
  have p := pow_lt hr
  have z : o &&& 2 ^ r = 0 := by
    apply Nat.eq_of_testBit_eq
    intro t
    rw [Nat.testBit_and, Nat.testBit_two_pow, Nat.zero_testBit]
    by_cases e : r = t
    · subst e; rw [h]; rfl
    · rw [decide_eq_false e, Bool.and_false]
  have q := BitVec.add_eq_or_of_and_eq_zero (BitVec.ofNat 14 o) (BitVec.ofNat 14 (2 ^ r)) (by
    apply BitVec.eq_of_toNat_eq
    rw [BitVec.toNat_and, BitVec.toNat_ofNat, BitVec.toNat_ofNat, Nat.mod_eq_of_lt (by omega), Nat.mod_eq_of_lt (by omega), z]
    rfl)
  have q2 := congrArg BitVec.toNat q
  rw [BitVec.toNat_add, BitVec.toNat_or, BitVec.toNat_ofNat, BitVec.toNat_ofNat, Nat.mod_eq_of_lt (by omega : o < 2 ^ 14), Nat.mod_eq_of_lt (by omega : 2 ^ r < 2 ^ 14)] at q2
  rw [← q2]
  exact (Nat.mod_eq_of_lt (by omega)).symm
/-- The relations of a set, as a list. -/
def sgN (S n : Nat) : List Nat := (List.range n).filter fun r => S.testBit r
abbrev toZ (l : List Nat) : List Int := l.map fun r : Nat => (r : Int)
theorem sg_map (S : Nat) : ∀ n, sgL S n = toZ (sgN S n)
  | 0 => rfl
  | n + 1 => by
    show (if S.testBit n then sgL S n ++ [(n : Int)] else sgL S n) = _
    unfold toZ sgN
    rw [List.range_succ, List.filter_append, List.map_append, sg_map S n]
    cases h : S.testBit n
    · simp [h, toZ, sgN]
    · simp [h, toZ, sgN]
theorem sgN_mem {S n r : Nat} : r ∈ sgN S n ↔ r < n ∧ S.testBit r = true := by
  unfold sgN; rw [List.mem_filter, List.mem_range]
theorem sgN_nodup (S n : Nat) : (sgN S n).Nodup := List.Pairwise.filter _ List.nodup_range
theorem toZ_at {l : List Nat} {j : Nat} (h : j < l.length) : (toZ l).getD j 0 = (l.getD j 0 : Nat) := by
  simp [toZ, List.getD_eq_getElem?_getD, h]
theorem toZ_len (l : List Nat) : (toZ l).length = l.length := by simp [toZ]
theorem nodup_inj {l : List Nat} (d : l.Nodup) {i j : Nat} (hi : i < l.length) (hj : j < l.length) (e : l[i] = l[j]) : i = j := by
  have p := List.pairwise_iff_getElem.1 d
  rcases Nat.lt_trichotomy i j with q | q | q
  · exact absurd e (p i j hi hj q)
  · exact q
  · exact absurd e.symm (p j i hj hi q)
/-- A list from a place on, round. -/
def rotL (l : List Nat) (t : Nat) : List Nat := (List.range l.length).map fun j => l.getD ((j + t) % l.length) 0
theorem rot_len (l : List Nat) (t : Nat) : (rotL l t).length = l.length := by simp [rotL]
theorem rot_at {l : List Nat} {t j : Nat} (h : j < l.length) : (rotL l t).getD j 0 = l.getD ((j + t) % l.length) 0 := by
  simp [rotL, List.getD_eq_getElem?_getD, h]
theorem getD_mem {l : List Nat} {j : Nat} (h : j < l.length) : l.getD j 0 ∈ l := by
  rw [List.getD_eq_getElem?_getD, List.getElem?_eq_getElem h]; exact List.getElem_mem h
theorem rot_sub {l : List Nat} {t r : Nat} (h : r ∈ rotL l t) : r ∈ l := by
  unfold rotL at h
  obtain ⟨j, hj, rfl⟩ := List.mem_map.1 h
  rw [List.mem_range] at hj
  exact getD_mem (Nat.mod_lt _ (by omega))
theorem rot_sup {l : List Nat} {t r : Nat} (h : r ∈ l) : r ∈ rotL l t := by
  obtain ⟨i, hi, rfl⟩ := List.getElem_of_mem h
  have n0 : 0 < l.length := by omega
  have m := Nat.mod_lt t n0
  -- the place j with (j + t) % n = i
  obtain ⟨j, hj, e⟩ : ∃ j, j < l.length ∧ (j + t) % l.length = i := by
    by_cases q : t % l.length ≤ i
    · refine ⟨i - t % l.length, by omega, ?_⟩
      rw [Nat.add_mod, Nat.mod_eq_of_lt (by omega : i - t % l.length < l.length), show i - t % l.length + t % l.length = i by omega, Nat.mod_eq_of_lt hi]
    · refine ⟨i + l.length - t % l.length, by omega, ?_⟩
      rw [Nat.add_mod, Nat.mod_eq_of_lt (by omega : i + l.length - t % l.length < l.length), show i + l.length - t % l.length + t % l.length = i + l.length by omega, Nat.add_mod_right, Nat.mod_eq_of_lt hi]
  unfold rotL
  refine List.mem_map.2 ⟨j, List.mem_range.2 hj, ?_⟩
  show l.getD ((j + t) % l.length) 0 = _
  rw [e, List.getD_eq_getElem?_getD, List.getElem?_eq_getElem hi]; rfl
theorem rot_nodup {l : List Nat} (d : l.Nodup) (t : Nat) : (rotL l t).Nodup := by
  unfold rotL
  unfold List.Nodup
  rw [List.pairwise_map]
  refine List.Pairwise.imp_of_mem ?_ List.pairwise_lt_range
  intro a b ha hb lt e
  rw [List.mem_range] at ha hb
  have n0 : 0 < l.length := by omega
  have ma := Nat.mod_lt (a + t) n0
  have mb := Nat.mod_lt (b + t) n0
  rw [List.getD_eq_getElem?_getD, List.getElem?_eq_getElem ma, List.getD_eq_getElem?_getD, List.getElem?_eq_getElem mb] at e
  have q : (a + t) % l.length = (b + t) % l.length := nodup_inj d _ _ e
  have d1 := Nat.div_add_mod (a + t) l.length
  have d2 := Nat.div_add_mod (b + t) l.length
  rw [q] at d1
  have : l.length * ((b + t) / l.length) = l.length * ((a + t) / l.length) + (b - a) := by omega
  have k : l.length ∣ (b - a) := (Nat.dvd_add_right (Nat.dvd_mul_right l.length ((a + t) / l.length))).1 (this ▸ Nat.dvd_mul_right l.length ((b + t) / l.length))
  have := Nat.le_of_dvd (by omega) k
  omega
/-- The sum of the bits of a list is its set. -/
def orL (l : List Nat) : Nat := l.foldl (fun o r => o ||| 2 ^ r) 0
def smN (l : List Nat) (k : Nat) : Nat := (l.take k).foldl (fun o r => o ||| 2 ^ r) 0
theorem orL_bit (l : List Nat) (t : Nat) : (orL l).testBit t = decide (t ∈ l) := by unfold orL; rw [orF_bit]; simp
theorem orL_set {S : Nat} (hS : S < 8192) {l : List Nat} (h : ∀ r, r ∈ l ↔ r ∈ sgN S 13) : orL l = S := by
  apply Nat.eq_of_testBit_eq
  intro t
  rw [orL_bit, Bool.eq_iff_iff, decide_eq_true_iff, h, sgN_mem]
  exact ⟨fun q => q.2, fun q => ⟨bit_lt hS q, q⟩⟩
theorem smN_step {l : List Nat} (h : ∀ r, r ∈ l → r < 13) (d : l.Nodup) {k : Nat} (hk : k < l.length) : smN l k + 2 ^ l.getD k 0 = smN l (k + 1) ∧ smN l k < 8192 := by
  have g : l.getD k 0 = l[k] := by rw [List.getD_eq_getElem?_getD, List.getElem?_eq_getElem hk]; rfl
  have r13 := h _ (getD_mem hk)
  have lt : smN l k < 8192 := by
    show orL (l.take k) < 8192
    apply Nat.lt_pow_two_of_testBit (n := 13)
    intro t ht
    rw [orL_bit, decide_eq_false_iff_not]
    intro m
    have := h t (List.mem_of_mem_take m)
    omega
  refine ⟨?_, lt⟩
  rw [add_or lt (by omega)]
  · show _ = (l.take (k + 1)).foldl _ 0
    rw [List.take_succ_eq_append_getElem hk, List.foldl_append, g]; rfl
  · show (orL (l.take k)).testBit _ = false
    rw [orL_bit, decide_eq_false_iff_not, g]
    intro m
    obtain ⟨i, hi, e⟩ := List.getElem_of_mem m
    rw [List.length_take] at hi
    rw [List.getElem_take] at e
    have := nodup_inj d _ _ e
    omega
theorem smN_all (l : List Nat) : smN l l.length = orL l := by unfold smN; rw [List.take_length]; rfl
theorem spl_tx {rs : List Nat} (h : ∀ r, r ∈ rs → r < 13) : ∀ k, k < rs.length → spl (txK (toZ rs) (k + 1)) = (rs.take (k + 1)).map fun r => (nmV r).data.toList
  | 0, hk => by
    have r13 := h _ (getD_mem hk)
    show spl (([] ++ []) ++ (nmV ((toZ rs).getD 0 0).toNat).data.toList) = _
    rw [toZ_at hk, List.append_nil, List.nil_append, Int.toNat_natCast, spl_end (nm_bars r13), List.take_succ_eq_append_getElem hk]
    rw [List.getD_eq_getElem?_getD, List.getElem?_eq_getElem hk]; rfl
  | k + 1, hk => by
    have r13 := h _ (getD_mem hk)
    show spl ((txK (toZ rs) (k + 1) ++ [124]) ++ (nmV ((toZ rs).getD (k + 1) 0).toNat).data.toList) = _
    rw [toZ_at hk, Int.toNat_natCast, List.append_assoc, List.singleton_append, spl_app, spl_tx h k (by omega), spl_end (nm_bars r13), List.take_succ_eq_append_getElem hk, List.map_append]
    rw [List.getD_eq_getElem?_getD, List.getElem?_eq_getElem hk]; rfl
/-- Names of different relations, joined, are read as their set. -/
theorem join_parse {rs : List Nat} (h : ∀ r, r ∈ rs → r < 13) (d : rs.Nodup) (ne : 0 < rs.length) (l13 : rs.length ≤ 13) : psV ⟨(txK (toZ rs) rs.length).toArray⟩ = (((orL rs : Nat) : Int), 0) := by
  refine psV_parts ?_ ?_
  · have m : ∀ j, j < (toZ rs).length → ∃ r : Nat, r < 13 ∧ (toZ rs).getD j 0 = r := fun j hj => by
      rw [toZ_len] at hj
      exact ⟨_, h _ (getD_mem hj), toZ_at hj⟩
    have q := txK_len (toZ rs) m rs.length (by rw [toZ_len]; exact Nat.le_refl _)
    show (txK (toZ rs) rs.length).toArray.size ≤ 200
    rw [List.size_toArray]
    omega
  · obtain ⟨k, hk⟩ : ∃ k, rs.length = k + 1 := ⟨rs.length - 1, by omega⟩
    have s := spl_tx h k (by omega)
    rw [← hk, List.take_length] at s
    show psF (spl (txK (toZ rs) rs.length)) 0 false = _
    rw [s]
    exact psF_names rs 0 h d (fun r _ => Nat.zero_testBit r)
theorem sgN_len (S : Nat) : (sgN S 13).length ≤ 13 := by
  unfold sgN
  exact Nat.le_trans (List.length_filter_le _ _) (by simp)
/-- The text of a set is read as the set. -/
theorem back_set {S : Nat} (hS : S < 8192) : psV ⟨(txB (S : Int)).toArray⟩ = ((S : Int), 0) := by
  by_cases z0 : S = 0
  · subst z0; decide +kernel
  by_cases z1 : S = 8191
  · subst z1; decide +kernel
  have sv : sgV (S : Int) = toZ (sgN S 13) := by
    unfold sgV
    rw [isS_iff.2 (by omega), if_pos rfl]
    exact sg_map S 13
  have tb : txB (S : Int) = txK (toZ (sgN S 13)) (sgN S 13).length := by
    unfold txB
    rw [if_neg (by omega), if_neg (by omega), sv, toZ_len]
  have o : orL (sgN S 13) = S := orL_set hS fun r => Iff.rfl
  have ne : 0 < (sgN S 13).length := by
    rcases Nat.eq_zero_or_pos (sgN S 13).length with e | e
    · rw [List.length_eq_zero_iff] at e
      rw [e] at o
      exact absurd o.symm z0
    · exact e
  rw [tb, join_parse (fun r hr => (sgN_mem.1 hr).1) (sgN_nodup S 13) ne (sgN_len S), o]
end Go.Proofs.YtiaidmjhgfaobaaDoor
