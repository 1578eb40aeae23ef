/- The contract of civiltimeref11.Possible. -/
import Derived.Test.YtiaidmjhgfaobaaDoorAlH
import Derived.OwnWalk
import Derived.Deep.QuietTactic
import Derived.BigQuiet
import Derived.Outline
namespace Go.Proofs.YtiaidmjhgfaobaaDoor
open Go.RowKit
set_option linter.unusedVariables false

/-- The intervals from x on that hold, with their ends from x + 1 on; those from lo on. -/
def poI (s a b x : Int) : Nat → List (Int × Int)
  | 0 => []
  | k + 1 => if hoB s x (x + 1 + k) a b then poI s a b x k ++ [(x, x + 1 + k)] else poI s a b x k
def poO (s a b lo hi : Int) : Nat → List (Int × Int)
  | 0 => []
  | m + 1 => poO s a b lo hi m ++ poI s a b (lo + m) (hi - (lo + m)).toNat
def poG (s a b lo hi : Int) : Bool := isS s && ivB a b && decide (-4398046511104 ≤ lo) && decide (hi ≤ 4398046511104) && decide (lo < hi) && decide (hi - lo ≤ 40)
def poL (s a b lo hi : Int) : List (Int × Int) := if poG s a b lo hi then poO s a b lo hi (hi - lo).toNat else []
theorem poI_len (s a b x : Int) : ∀ k, (poI s a b x k).length ≤ k := by
  intro k
  induction k with
  | zero => exact Nat.le_refl _
  | succ k ih =>
    show (if hoB s x (x + 1 + k) a b then poI s a b x k ++ [(x, x + 1 + k)] else poI s a b x k).length ≤ _
    split
    · rw [List.length_append, List.length_singleton]; omega
    · omega
theorem poO_len (s a b lo hi : Int) (h : hi - lo ≤ 40) : ∀ m, (poO s a b lo hi m).length ≤ 40 * m := by
  intro m
  induction m with
  | zero => exact Nat.le_refl _
  | succ m ih =>
    show (poO s a b lo hi m ++ poI s a b (lo + m) (hi - (lo + m)).toNat).length ≤ _
    rw [List.length_append]
    have := poI_len s a b (lo + m) (hi - (lo + m)).toNat
    omega
set_option maxRecDepth 100000 in
set_option maxHeartbeats 1000000 in
theorem rapossible (s a b lo hi : Int) (hs : I64 s) (ha : I64 a) (hb : I64 b) (hlo : I64 lo) (hhi : I64 hi) (w : World) :
    Calls Tryd.prog 33 #[.int .i64 s, .agg #[.int .i64 a, .int .i64 b], .int .i64 lo, .int .i64 hi] w fun e w' => (∃ v, e = .returned v ∧ PairS w.heap.size w' v (poL s a b lo hi)) ∧ Below w.heap.size w w' := by
  have HS := Lib.hid (fun w => raset s hs w)
  have HV := Lib.hid (fun w => ravalid a b ha hb w)
  have A1 := Lib.hid (grow (here w) (.cells #[.int .i64 a, .int .i64 b] 30))
  have X1 := Lib.hid (Two.new (here (w.alloc (.cells #[.int .i64 a, .int .i64 b] 30))))
  have hs' := hs
  have ha' := ha
  have hb' := hb
  obtain ⟨lo0, lo1⟩ := hlo
  obtain ⟨hi0, hi1⟩ := hhi
  obtain ⟨w1, hw1⟩ : ∃ w1 : World, w.alloc (.cells #[.int .i64 a, .int .i64 b] 30) = w1 := ⟨_, rfl⟩
  rw [hw1] at A1 X1
  obtain ⟨x0, x1, xl⟩ := X1.out
  cases v : isS s
  · rw [v] at HS
    have e0 : Hid (poL s a b lo hi = []) := by show _ = _; unfold poL poG; rw [v]; rfl
    go_enter Tryd.func33, Tryd.ntmps33
    go_wp2_with fail
    refine (HS.out _).mono ?_
    rintro e w2 ⟨rfl, rfl⟩
    go_wp2
    go_ret
    exact ⟨⟨_, rfl, by rw [e0.out]; exact Sl.none _ _⟩, A1.out⟩
  rw [v] at HS
  cases va : ivB a b
  · rw [va] at HV
    have e0 : Hid (poL s a b lo hi = []) := by show _ = _; unfold poL poG; rw [v, va]; rfl
    go_enter Tryd.func33, Tryd.ntmps33
    go_wp2_with fail
    refine (HS.out _).mono ?_
    rintro e w2 ⟨rfl, rfl⟩
    go_wp2_with fail
    refine (HV.out _).mono ?_
    rintro e w3 ⟨rfl, hb⟩
    have A3 := Lib.hid (down A1.out hb)
    have X3 := Lib.hid (X1.out.keep hb)
    clear hb A1 X1 x0 x1 xl
    obtain ⟨x0, x1, xl⟩ := X3.out
    go_wp2
    go_ret
    exact ⟨⟨_, rfl, by rw [e0.out]; exact Sl.none _ _⟩, A3.out⟩
  rw [va] at HV
  by_cases z1 : lo < -4398046511104
  · have k1 := decide_eq_true z1
    have e0 : Hid (poL s a b lo hi = []) := by show _ = _; unfold poL poG; rw [v, va, decide_eq_false (by omega : ¬ -4398046511104 ≤ lo)]; rfl
    go_enter Tryd.func33, Tryd.ntmps33
    go_wp2_with fail
    refine (HS.out _).mono ?_
    rintro e w2 ⟨rfl, rfl⟩
    go_wp2_with fail
    refine (HV.out _).mono ?_
    rintro e w3 ⟨rfl, hb⟩
    have A3 := Lib.hid (down A1.out hb)
    have X3 := Lib.hid (X1.out.keep hb)
    clear hb A1 X1 x0 x1 xl
    obtain ⟨x0, x1, xl⟩ := X3.out
    go_wp2
    go_ret
    exact ⟨⟨_, rfl, by rw [e0.out]; exact Sl.none _ _⟩, A3.out⟩
  have k1 := decide_eq_false z1
  have d1 := decide_eq_true (by omega : -4398046511104 ≤ lo)
  by_cases z2 : 4398046511104 < hi
  · have k2 := decide_eq_true z2
    clear d1
    have e0 : Hid (poL s a b lo hi = []) := by show _ = _; unfold poL poG; rw [v, va, decide_eq_true (by omega : -4398046511104 ≤ lo), decide_eq_false (by omega : ¬ hi ≤ 4398046511104)]; rfl
    go_enter Tryd.func33, Tryd.ntmps33
    go_wp2_with fail
    refine (HS.out _).mono ?_
    rintro e w2 ⟨rfl, rfl⟩
    go_wp2_with fail
    refine (HV.out _).mono ?_
    rintro e w3 ⟨rfl, hb⟩
    have A3 := Lib.hid (down A1.out hb)
    have X3 := Lib.hid (X1.out.keep hb)
    clear hb A1 X1 x0 x1 xl
    obtain ⟨x0, x1, xl⟩ := X3.out
    go_wp2
    go_ret
    exact ⟨⟨_, rfl, by rw [e0.out]; exact Sl.none _ _⟩, A3.out⟩
  have k2 := decide_eq_false z2
  by_cases z3 : hi ≤ lo
  · have k3 := decide_eq_true z3
    clear d1
    have e0 : Hid (poL s a b lo hi = []) := by show _ = _; unfold poL poG; rw [v, va, decide_eq_true (by omega : -4398046511104 ≤ lo), decide_eq_true (by omega : hi ≤ 4398046511104), decide_eq_false (by omega : ¬ lo < hi)]; rfl
    go_enter Tryd.func33, Tryd.ntmps33
    go_wp2_with fail
    refine (HS.out _).mono ?_
    rintro e w2 ⟨rfl, rfl⟩
    go_wp2_with fail
    refine (HV.out _).mono ?_
    rintro e w3 ⟨rfl, hb⟩
    have A3 := Lib.hid (down A1.out hb)
    have X3 := Lib.hid (X1.out.keep hb)
    clear hb A1 X1 x0 x1 xl
    obtain ⟨x0, x1, xl⟩ := X3.out
    go_wp2
    go_ret
    exact ⟨⟨_, rfl, by rw [e0.out]; exact Sl.none _ _⟩, A3.out⟩
  have k3 := decide_eq_false z3
  by_cases z4 : 40 < hi - lo
  · have k4 := decide_eq_true z4
    clear d1
    have e0 : Hid (poL s a b lo hi = []) := by show _ = _; unfold poL poG; rw [v, va, decide_eq_true (by omega : -4398046511104 ≤ lo), decide_eq_true (by omega : hi ≤ 4398046511104), decide_eq_true (by omega : lo < hi), decide_eq_false (by omega : ¬ hi - lo ≤ 40)]; rfl
    go_enter Tryd.func33, Tryd.ntmps33
    go_wp2_with fail
    refine (HS.out _).mono ?_
    rintro e w2 ⟨rfl, rfl⟩
    go_wp2_with fail
    refine (HV.out _).mono ?_
    rintro e w3 ⟨rfl, hb⟩
    have A3 := Lib.hid (down A1.out hb)
    have X3 := Lib.hid (X1.out.keep hb)
    clear hb A1 X1 x0 x1 xl
    obtain ⟨x0, x1, xl⟩ := X3.out
    go_wp2
    go_ret
    exact ⟨⟨_, rfl, by rw [e0.out]; exact Sl.none _ _⟩, A3.out⟩
  have k4 := decide_eq_false z4
  have e0 : Hid (poL s a b lo hi = poO s a b lo hi (hi - lo).toNat) := by
    show _ = _
    unfold poL poG
    rw [v, va, decide_eq_true (by omega : -4398046511104 ≤ lo), decide_eq_true (by omega : hi ≤ 4398046511104), decide_eq_true (by omega : lo < hi), decide_eq_true (by omega : hi - lo ≤ 40)]; rfl
  rw [e0.out]
  have HH := Lib.hid (fun x y (hx : I64 x) (hy : I64 y) w => raholds s x y a b hs' hx hy ha' hb' w)
  have SI : Hid (∀ x k, poI s a b x (k + 1) = if hoB s x (x + 1 + k) a b then poI s a b x k ++ [(x, x + 1 + k)] else poI s a b x k) := fun _ _ => rfl
  have SO : Hid (∀ m, poO s a b lo hi (m + 1) = poO s a b lo hi m ++ poI s a b (lo + m) (hi - (lo + m)).toNat) := fun _ => rfl
  have ZI : Hid (∀ x, poI s a b x 0 = []) := fun _ => rfl
  have ZO : Hid (poO s a b lo hi 0 = []) := rfl
  have LI := Lib.hid (fun x k => poI_len s a b x k)
  have LO := Lib.hid (poO_len s a b lo hi (by omega))
  obtain ⟨i0, hi', hz0, hz1, hz2⟩ := info_parts infoSpanA
  clear e0 d1 v va hs hs' ha ha' hb hb'
  generalize poI s a b = PI at *
  generalize poO s a b lo hi = PO at *
  go_enter Tryd.func33, Tryd.ntmps33
  go_wp2_with fail
  refine (HS.out _).mono ?_
  rintro e w2 ⟨rfl, rfl⟩
  go_wp2_with fail
  refine (HV.out _).mono ?_
  rintro e w3 ⟨rfl, hb⟩
  have A3 := Lib.hid (down A1.out hb)
  have X3 := Lib.hid (X1.out.keep hb)
  clear hb A1 X1 x0 x1 xl
  obtain ⟨x0, x1, xl⟩ := X3.out
  have S3 : Hid (w.heap.size + 1 ≤ w3.heap.size) := by show _ ≤ _; omega
  clear hw1 HS HV x0 x1 xl
  go_wp2
  go_loopw [9, 10] (fun o i wr => ∃ (m : Nat) (v : Value), (m : Int) ≤ hi - lo ∧ o = v ∧ i = .int .i64 (lo + m) ∧ Hid (Below w.heap.size w wr) ∧ Hid (Two wr w.heap.size (.int .i64 a) (.int .i64 b)) ∧ Hid (w.heap.size + 1 ≤ wr.heap.size) ∧ Hid (wr.ownsRow (w.heap.size + 1) 30 2 v (PO m).length (pairs (PO m)))) (fun _ i _ => (hi - intOf i).toNat)
  case atStart => exact ⟨0, _, by omega, rfl, by simp, A3.out, X3.out, S3.out, by show World.ownsRow _ _ _ _ _ _ _; rw [ZO.out]; exact World.ownsRow_nil _ _ _ _⟩
  case round =>
    obtain ⟨m, v, hm, rfl, rfl, HA, HX, HZ, HO⟩ := hrel
    clear A3 X3 S3
    obtain ⟨x, hx⟩ : ∃ x, lo + m = x := ⟨_, rfl⟩
    rw [hx]
    by_cases z : x < hi
    · have kz := decide_eq_true z
      have so : Hid (PO (m + 1) = PO m ++ PI x (hi - x).toNat) := by show _ = _; rw [SO.out m, hx]
      have si := Lib.hid (SI.out x)
      have zi : Hid (PI x 0 = []) := ZI.out x
      have lo' := LO.out m
      have li := Lib.hid (LI.out x)
      obtain ⟨ao, cp, rfl⟩ := (Sl.owns HO.out).shape
      have A4 := HA
      have X4 := HX
      have S4 := HZ
      have O4 : Hid (wr.ownsRow (w.heap.size + 1) 30 2 (.slice ao (PO m).length cp) (PO m ++ []).length (pairs (PO m ++ []))) := by rw [List.append_nil]; exact HO
      clear SI SO ZI ZO LI LO HA HX HZ HO
      have x0 : -4398046511104 ≤ x ∧ x < 4398046511104 := by omega
      obtain ⟨x0, x1⟩ := x0
      generalize PO m = R at *
      generalize PI x = J at *
      have m40 : m ≤ 40 := by omega
      go_wp2
      go_loopw [9, 11] (fun o i wr => ∃ (k : Nat) (v : Value), (k : Int) ≤ hi - x ∧ o = v ∧ i = .int .i64 (x + 1 + k) ∧ Hid (Below w.heap.size w wr) ∧ Hid (Two wr w.heap.size (.int .i64 a) (.int .i64 b)) ∧ Hid (w.heap.size + 1 ≤ wr.heap.size) ∧ Hid (wr.ownsRow (w.heap.size + 1) 30 2 v (R ++ J k).length (pairs (R ++ J k)))) (fun _ i _ => (hi + 1 - intOf i).toNat)
      case atStart => exact ⟨0, _, by omega, rfl, by simp, A4.out, X4.out, S4.out, by rw [zi.out]; exact O4.out⟩
      case round =>
        obtain ⟨k, v, hk, rfl, rfl, HA, HX, HZ, HO⟩ := hrel
        clear A4 X4 S4 O4
        obtain ⟨ao', cp', rfl⟩ := (Sl.owns HO.out).shape
        obtain ⟨n, hn⟩ : ∃ n, (R ++ J k).length = n := ⟨_, rfl⟩
        rw [hn] at HO ⊢
        obtain ⟨y, hy⟩ : ∃ y, x + 1 + k = y := ⟨_, rfl⟩
        rw [hy]
        have lk := li.out k
        by_cases u : y ≤ hi
        · have ku := decide_eq_true u
          have sk := Lib.hid (si.out k)
          rw [hy] at sk
          have hh := Lib.hid (fun w => HH.out x y ⟨by omega, by omega⟩ ⟨by omega, by omega⟩ w)
          have k40 : k ≤ 40 := by omega
          have kn : ((k + 1 : Nat) : Int) ≤ hi - x := by omega
          have yn : x + 1 + ((k + 1 : Nat) : Int) = y + 1 := by omega
          obtain ⟨y0, y1⟩ : -4398046511104 ≤ y ∧ y ≤ 4398046511104 := by omega
          obtain ⟨w4, hw4⟩ : ∃ w4 : World, wr.alloc (.cells #[.int .i64 x, .int .i64 y] 30) = w4 := ⟨_, rfl⟩
          have A4 : Hid (Below w.heap.size w w4) := by rw [← hw4]; exact grow HA.out _
          have X4 : Hid (Two w4 w.heap.size (.int .i64 a) (.int .i64 b)) := by rw [← hw4]; exact HX.out.old _
          have Y4 : Hid (Two w4 wr.heap.size (.int .i64 x) (.int .i64 y)) := by rw [← hw4]; exact Two.new (here _)
          have S4 : Hid (w.heap.size + 1 ≤ w4.heap.size) := by show _ ≤ _; rw [← hw4, size_two]; have := HZ.out; omega
          have O4 : Hid (w4.ownsRow (w.heap.size + 1) 30 2 (.slice ao' n cp') n (pairs (R ++ J k))) := by rw [← hw4]; exact owns_below HO.out (grow (here wr) _)
          obtain ⟨p0, p1, pl⟩ := X4.out
          obtain ⟨q0, q1, ql⟩ := Y4.out
          have ln : n ≤ 2000 := by rw [← hn, List.length_append]; omega
          replace hn := Lib.hid hn
          clear HA HX HZ HO HH si li
          cases hb : hoB s x y a b
          · rw [hb] at hh sk
            clear hb
            go_wp2_with fail
            refine (hh.out _).mono ?_
            rintro e w5 ⟨rfl, hb⟩
            have A5 := Lib.hid (down A4.out hb)
            have X5 := Lib.hid (X4.out.keep hb)
            have S5 : Hid (w.heap.size + 1 ≤ w5.heap.size) := Nat.le_trans S4.out hb.size
            have O5 := Lib.hid (owns_below O4.out hb)
            replace O5 : Hid (w5.ownsRow (w.heap.size + 1) 30 2 (.slice ao' n cp') (R ++ J (k + 1)).length (pairs (R ++ J (k + 1)))) := by show World.ownsRow _ _ _ _ _ _ _; rw [sk.out]; show World.ownsRow _ _ _ _ _ (R ++ J k).length _; rw [hn.out]; exact O5.out
            clear hb A4 X4 Y4 S4 O4 p0 p1 pl q0 q1 ql hw4 hh
            go_wp2
            go_roundw
            case rel => exact ⟨k + 1, _, kn, rfl, by rw [yn], A5, X5, S5, O5⟩
            case measure => simp [intOf]; omega
          · rw [hb] at hh sk
            clear hb
            go_wp2_with fail
            refine (hh.out _).mono ?_
            rintro e w5 ⟨rfl, hb⟩
            have A5 := Lib.hid (down A4.out hb)
            have X5 := Lib.hid (X4.out.keep hb)
            have Y5 := Lib.hid (Y4.out.keep hb)
            have S5 : Hid (w.heap.size + 1 ≤ w5.heap.size) := Nat.le_trans S4.out hb.size
            have O5 := Lib.hid (owns_below O4.out hb)
            clear hb A4 X4 Y4 S4 O4 p0 p1 pl q0 q1 ql hw4 hh
            obtain ⟨q0, q1, ql⟩ := Y5.out
            go_wp2_with (at_builtin; refine wpList_append_own _ rfl _ _ 42 rfl (w.heap.size + 1) 30 i0 (.agg #[.int .i64 0, .int .i64 0]) 2 16 Tryd.underlying42 hi' hz0 hz1 hz2 rfl (by decide) (.slice ao' n cp') n (pairs (R ++ J k)) rfl (O5.out.alloc _) ⟨w5.heap.size, 0, none⟩ 1 1 [.int .i64 x, .int .i64 y] rfl rfl ?c1 ?c2 ?c3 ?c4 ?c5 ?_)
            case c1 =>
              intro j u hj
              rw [Addr.add_lit, Nat.zero_add, World.cell?_alloc_new]
              simpa using hj
            case c2 => intro u hu; simp at hu; rcases hu with rfl | rfl <;> rfl
            case c3 => unfold maxLen; omega
            case c4 => omega
            case c5 => have := S5.out; simp; omega
            intro v' w7 hown hgrow _
            obtain ⟨ao2, cp2, rfl⟩ := (Sl.owns hown).shape
            have G : Below (w.heap.size + 1) w5 w7 := ((Below.refl _ _).alloc S5.out _).grown hgrow (by have := S5.out; simp; omega) (own_ge O5.out)
            have A7 := Lib.hid (A5.out.trans (G.mono (by omega)))
            have X7 : Hid (Two w7 w.heap.size (.int .i64 a) (.int .i64 b)) := by
              refine ⟨?_, ?_, by have := G.size; have := X5.out.lt; omega⟩
              · rw [G.cell (p := ⟨w.heap.size, 0, none⟩) (by show w.heap.size < _; omega)]; exact X5.out.c0
              · rw [G.cell (p := ⟨w.heap.size, 1, none⟩) (by show w.heap.size < _; omega)]; exact X5.out.c1
            have S7 : Hid (w.heap.size + 1 ≤ w7.heap.size) := Nat.le_trans S5.out G.size
            have le : (R ++ J (k + 1)).length = n + 1 := by rw [sk.out, ← hn.out]; simp; omega
            have O7 : Hid (w7.ownsRow (w.heap.size + 1) 30 2 (.slice ao2 (n + 1) cp2) (R ++ J (k + 1)).length (pairs (R ++ J (k + 1)))) := by
              show World.ownsRow _ _ _ _ _ _ _
              rw [le, sk.out]
              show World.ownsRow _ _ _ _ _ _ (pairs (R ++ (J k ++ [(x, y)])))
              rw [← List.append_assoc, pairs_append]
              exact hown
            clear hown hgrow G le A5 X5 Y5 S5 O5 q0 q1 ql
            go_wp2
            go_roundw
            case rel => exact ⟨k + 1, _, kn, rfl, by rw [yn], A7, X7, S7, O7⟩
            case measure => simp [intOf]; omega
        · have ku := decide_eq_false u
          have ke : k = (hi - x).toNat := by omega
          have O5 : Hid (wr.ownsRow (w.heap.size + 1) 30 2 (.slice ao' n cp') (PO (m + 1)).length (pairs (PO (m + 1)))) := by show World.ownsRow _ _ _ _ _ _ _; rw [so.out, ← ke, hn]; exact HO.out
          have mn : ((m + 1 : Nat) : Int) ≤ hi - lo := by omega
          have xn : lo + ((m + 1 : Nat) : Int) = x + 1 := by omega
          clear si li zi so HO HH ke hn
          go_wp2
          go_roundw
          case rel => exact ⟨m + 1, _, mn, rfl, by rw [xn], HA, HX, HZ, O5⟩
          case measure => simp [intOf]; omega
    · have kz := decide_eq_false z
      have me : m = (hi - lo).toNat := by omega
      have PS := Sl.owns HO.out
      obtain ⟨ao, cp, rfl⟩ := PS.shape
      have PL : Hid (PairS w.heap.size wr (.slice ao (PO m).length cp) (PO (hi - lo).toNat)) := by rw [← me]; exact Sl.weak PS (by omega)
      clear PS SI SO ZI ZO LI LO HO HH me
      go_wp2
      go_ret
      exact ⟨⟨_, rfl, PL.out⟩, HA.out⟩
end Go.Proofs.YtiaidmjhgfaobaaDoor
