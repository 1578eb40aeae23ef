/- The contract of allen.Possible. -/
import Derived.Test.YtiaidmjhgfaobaaDoorAlU1
import Derived.Test.YtiaidmjhgfaobaaDoorAlP
namespace Go.Proofs.YtiaidmjhgfaobaaDoor
open Go.RowKit Go.Shelf
set_option linter.unusedVariables false
attribute [local go_sem] Oper.semAt_some

/-- Where a set is none or an interval is not valid, nothing holds. -/
theorem poL_win {s a b lo hi : Int} (h0 : -4398046511104 ≤ lo) (h1 : hi ≤ 4398046511104) (h2 : lo < hi) (h3 : hi - lo ≤ 40) : poL s a b lo hi = poO s a b lo hi (hi - lo).toNat := by
  unfold poL poG
  rw [decide_eq_true h0, decide_eq_true h1, decide_eq_true h2, decide_eq_true h3]
  cases v : isS s && ivB a b
  · have no : ∀ x y, hoB s x y a b = false := fun x y => by
      unfold hoB
      cases v1 : isS s
      · simp
      · rw [v1, Bool.true_and] at v; rw [v]; simp
    have i0 : ∀ x k, poI s a b x k = [] := fun x k => by
      induction k with
      | zero => rfl
      | succ k ih => show (if hoB s x (x + 1 + k) a b then _ else _) = _; rw [no, if_neg (by simp), ih]
    have oo : ∀ m, poO s a b lo hi m = [] := fun m => by
      induction m with
      | zero => rfl
      | succ m ih => show poO s a b lo hi m ++ poI s a b (lo + m) (hi - (lo + m)).toNat = _; rw [ih, i0]; rfl
    rw [oo]; rfl
  · rfl
theorem poL_out {s a b lo hi : Int} (h : ¬ (-4398046511104 ≤ lo ∧ hi ≤ 4398046511104 ∧ lo < hi ∧ hi - lo ≤ 40)) : poL s a b lo hi = [] := by
  unfold poL
  rw [if_neg]
  unfold poG
  simp only [Bool.and_eq_true, decide_eq_true_iff]
  rintro ⟨⟨⟨⟨-, q1⟩, q2⟩, q3⟩, q4⟩
  exact h ⟨q1, q2, q3, q4⟩
set_option maxRecDepth 100000 in
set_option maxHeartbeats 2000000 in
theorem uapossible0 (s a b lo hi : Int) (hs : I64 s) (ha : I64 a) (hb : I64 b) (hlo : I64 lo) (hhi : I64 hi) (w : World) (ht : ISh w) :
    Calls Tryd.prog 32 #[.int .i64 s, .agg #[.int .i64 a, .int .i64 b], .int .i64 lo, .int .i64 hi] w fun e w' => (∃ v, e = .returned v ∧ PairS w.heap.size w' v (poL s a b lo hi)) ∧ Below w.heap.size w w' := by
  have HV := Lib.hid (fun w => iuvalid lo hi hlo hhi w)
  have HL := Lib.hid (fun w => iulen lo hi hlo hhi w)
  have A2 := Lib.hid (grow (grow (here w) (.cells #[.int .i64 a, .int .i64 b] 30)) (.cells #[.int .i64 lo, .int .i64 hi] 30))
  have X2 := Lib.hid ((Two.new (here (w.alloc (.cells #[.int .i64 a, .int .i64 b] 30)))).old (.cells #[.int .i64 lo, .int .i64 hi] 30))
  have Y2 := Lib.hid (Two.new (here ((w.alloc (.cells #[.int .i64 a, .int .i64 b] 30)).alloc (.cells #[.int .i64 lo, .int .i64 hi] 30))))
  rw [size_two] at Y2
  obtain ⟨w2, hw2⟩ : ∃ w2 : World, (w.alloc (.cells #[.int .i64 a, .int .i64 b] 30)).alloc (.cells #[.int .i64 lo, .int .i64 hi] 30) = w2 := ⟨_, rfl⟩
  rw [hw2] at A2 X2 Y2
  obtain ⟨y0, y1, yl⟩ := Y2.out
  have HH := Lib.hid (fun x y (hx : I64 x) (hy : I64 y) w (t : ISh w) => uaholds0 s x y a b hs hx hy ha hb w t)
  replace ht := Lib.hid ht
  cases v : ivB lo hi
  · rw [v] at HV
    have e0 : Hid (poL s a b lo hi = []) := poL_out (fun q => by rw [ivB_iff.2 ⟨by omega, by omega, by omega⟩] at v; cases v)
    go_enter Tryd.func32, Tryd.ntmps32
    go_wp2_with fail
    refine (HV.out _).mono ?_
    rintro e w3 ⟨rfl, hb⟩
    have A3 := Lib.hid (down A2.out hb)
    clear hb A2 X2 Y2 y0 y1 yl
    go_wp2
    go_ret
    exact ⟨⟨_, rfl, by rw [e0.out]; exact Sl.none _ _⟩, A3.out⟩
  have q := ivB_iff.1 v
  obtain ⟨lo0, hi1, llt⟩ : -4398046511104 ≤ lo ∧ hi ≤ 4398046511104 ∧ lo < hi := by omega
  rw [v] at HV
  rw [show lnV lo hi = hi - lo by unfold lnV; rw [v]; rfl] at HL
  clear v q hlo hhi
  by_cases z4 : 40 < hi - lo
  · have k4 := decide_eq_true z4
    have e0 : Hid (poL s a b lo hi = []) := poL_out (fun q => by omega)
    go_enter Tryd.func32, Tryd.ntmps32
    go_wp2_with fail
    refine (HV.out _).mono ?_
    rintro e w3 ⟨rfl, hb⟩
    have A3 := Lib.hid (down A2.out hb)
    have Y3 := Lib.hid (Y2.out.keep hb)
    clear hb A2 X2 Y2 y0 y1 yl
    obtain ⟨y0, y1, yl⟩ := Y3.out
    go_wp2_with fail
    refine (HL.out _).mono ?_
    rintro e w4 ⟨rfl, hb⟩
    have A4 := Lib.hid (down A3.out hb)
    clear hb A3 Y3 y0 y1 yl
    go_wp2
    go_ret
    exact ⟨⟨_, rfl, by rw [e0.out]; exact Sl.none _ _⟩, A4.out⟩
  have k4 := decide_eq_false z4
  have e0 : Hid (poL s a b lo hi = poO s a b lo hi (hi - lo).toNat) := poL_win lo0 hi1 llt (by omega)
  rw [e0.out]
  have SI : Hid (∀ x k, poI s a b x (k + 1) = if hoB s x (x + 1 + k) a b then poI s a b x k ++ [(x, x + 1 + k)] else poI s a b x k) := fun _ _ => rfl
  have SO : Hid (∀ m, poO s a b lo hi (m + 1) = poO s a b lo hi m ++ poI s a b (lo + m) (hi - (lo + m)).toNat) := fun _ => rfl
  have ZI : Hid (∀ x, poI s a b x 0 = []) := fun _ => rfl
  have ZO : Hid (poO s a b lo hi 0 = []) := rfl
  have LI := Lib.hid (fun x k => poI_len s a b x k)
  have LO := Lib.hid (poO_len s a b lo hi (by omega))
  obtain ⟨i0, hi', hz0, hz1, hz2⟩ := info_parts infoSpanA
  clear e0 hs ha hb
  generalize poI s a b = PI at *
  generalize poO s a b lo hi = PO at *
  go_enter Tryd.func32, Tryd.ntmps32
  go_wp2_with fail
  refine (HV.out _).mono ?_
  rintro e w3 ⟨rfl, hb⟩
  have A3 := Lib.hid (down A2.out hb)
  have X3 := Lib.hid (X2.out.keep hb)
  have Y3 := Lib.hid (Y2.out.keep hb)
  clear hb A2 X2 Y2 y0 y1 yl
  obtain ⟨y0, y1, yl⟩ := Y3.out
  go_wp2_with fail
  refine (HL.out _).mono ?_
  rintro e w4 ⟨rfl, hb⟩
  have A4 := Lib.hid (down A3.out hb)
  have X4 := Lib.hid (X3.out.keep hb)
  have S4 : Hid (w.heap.size + 1 ≤ w4.heap.size) := by have := hb.size; show _ ≤ _; omega
  clear hb A3 X3 Y3 y0 y1 yl hw2 HV HL
  have A3 := A4
  have X3 := X4
  have S3 := S4
  clear A4 X4 S4
  go_wp2
  go_loopw [10, 11] (fun o i wr => ∃ (m : Nat) (v : Value), (m : Int) ≤ hi - lo ∧ o = v ∧ i = .int .i64 (lo + m) ∧ Hid (Below w.heap.size w wr) ∧ Hid (Two wr w.heap.size (.int .i64 a) (.int .i64 b)) ∧ Hid (w.heap.size + 1 ≤ wr.heap.size) ∧ Hid (wr.ownsRow (w.heap.size + 1) 30 2 v (PO m).length (pairs (PO m)))) (fun _ i _ => (hi - intOf i).toNat)
  case atStart => exact ⟨0, _, by omega, rfl, by simp, A3.out, X3.out, S3.out, by show World.ownsRow _ _ _ _ _ _ _; rw [ZO.out]; exact World.ownsRow_nil _ _ _ _⟩
  case round =>
    obtain ⟨m, v, hm, rfl, rfl, HA, HX, HZ, HO⟩ := hrel
    clear A3 X3 S3
    obtain ⟨x, hx⟩ : ∃ x, lo + m = x := ⟨_, rfl⟩
    rw [hx]
    by_cases z : x < hi
    · have kz := decide_eq_true z
      have so : Hid (PO (m + 1) = PO m ++ PI x (hi - x).toNat) := by show _ = _; rw [SO.out m, hx]
      have si := Lib.hid (SI.out x)
      have zi : Hid (PI x 0 = []) := ZI.out x
      have lo' := LO.out m
      have li := Lib.hid (LI.out x)
      obtain ⟨ao, cp, rfl⟩ := (Sl.owns HO.out).shape
      have A4 := HA
      have X4 := HX
      have S4 := HZ
      have O4 : Hid (wr.ownsRow (w.heap.size + 1) 30 2 (.slice ao (PO m).length cp) (PO m ++ []).length (pairs (PO m ++ []))) := by rw [List.append_nil]; exact HO
      clear SI SO ZI ZO LI LO HA HX HZ HO
      have x0 : -4398046511104 ≤ x ∧ x < 4398046511104 := by omega
      obtain ⟨x0, x1⟩ := x0
      generalize PO m = R at *
      generalize PI x = J at *
      have m40 : m ≤ 40 := by omega
      go_wp2
      go_loopw [10, 12] (fun o i wr => ∃ (k : Nat) (v : Value), (k : Int) ≤ hi - x ∧ o = v ∧ i = .int .i64 (x + 1 + k) ∧ Hid (Below w.heap.size w wr) ∧ Hid (Two wr w.heap.size (.int .i64 a) (.int .i64 b)) ∧ Hid (w.heap.size + 1 ≤ wr.heap.size) ∧ Hid (wr.ownsRow (w.heap.size + 1) 30 2 v (R ++ J k).length (pairs (R ++ J k)))) (fun _ i _ => (hi + 1 - intOf i).toNat)
      case atStart => exact ⟨0, _, by omega, rfl, by simp, A4.out, X4.out, S4.out, by rw [zi.out]; exact O4.out⟩
      case round =>
        obtain ⟨k, v, hk, rfl, rfl, HA, HX, HZ, HO⟩ := hrel
        clear A4 X4 S4 O4
        obtain ⟨ao', cp', rfl⟩ := (Sl.owns HO.out).shape
        obtain ⟨n, hn⟩ : ∃ n, (R ++ J k).length = n := ⟨_, rfl⟩
        rw [hn] at HO ⊢
        obtain ⟨y, hy⟩ : ∃ y, x + 1 + k = y := ⟨_, rfl⟩
        rw [hy]
        have lk := li.out k
        by_cases u : y ≤ hi
        · have ku := decide_eq_true u
          have sk := Lib.hid (si.out k)
          rw [hy] at sk
          have hh := Lib.hid (fun w (t : ISh w) => HH.out x y ⟨by omega, by omega⟩ ⟨by omega, by omega⟩ w t)
          have k40 : k ≤ 40 := by omega
          have kn : ((k + 1 : Nat) : Int) ≤ hi - x := by omega
          have yn : x + 1 + ((k + 1 : Nat) : Int) = y + 1 := by omega
          obtain ⟨y0, y1⟩ : -4398046511104 ≤ y ∧ y ≤ 4398046511104 := by omega
          obtain ⟨w4, hw4⟩ : ∃ w4 : World, wr.alloc (.cells #[.int .i64 x, .int .i64 y] 30) = w4 := ⟨_, rfl⟩
          have A4 : Hid (Below w.heap.size w w4) := by rw [← hw4]; exact grow HA.out _
          have T4 := Lib.hid (ht.out.below A4.out)
          have X4 : Hid (Two w4 w.heap.size (.int .i64 a) (.int .i64 b)) := by rw [← hw4]; exact HX.out.old _
          have Y4 : Hid (Two w4 wr.heap.size (.int .i64 x) (.int .i64 y)) := by rw [← hw4]; exact Two.new (here _)
          have S4 : Hid (w.heap.size + 1 ≤ w4.heap.size) := by show _ ≤ _; rw [← hw4, size_two]; have := HZ.out; omega
          have O4 : Hid (w4.ownsRow (w.heap.size + 1) 30 2 (.slice ao' n cp') n (pairs (R ++ J k))) := by rw [← hw4]; exact owns_below HO.out (grow (here wr) _)
          obtain ⟨p0, p1, pl⟩ := X4.out
          obtain ⟨q0, q1, ql⟩ := Y4.out
          have ln : n ≤ 2000 := by rw [← hn, List.length_append]; omega
          replace hn := Lib.hid hn
          clear HA HX HZ HO HH si li
          cases hb : hoB s x y a b
          · rw [hb] at hh sk
            clear hb
            go_wp2_with fail
            refine (hh.out _ T4.out).mono ?_
            rintro e w5 ⟨rfl, hb⟩
            have A5 := Lib.hid (down A4.out hb)
            have X5 := Lib.hid (X4.out.keep hb)
            have S5 : Hid (w.heap.size + 1 ≤ w5.heap.size) := Nat.le_trans S4.out hb.size
            have O5 := Lib.hid (owns_below O4.out hb)
            replace O5 : Hid (w5.ownsRow (w.heap.size + 1) 30 2 (.slice ao' n cp') (R ++ J (k + 1)).length (pairs (R ++ J (k + 1)))) := by show World.ownsRow _ _ _ _ _ _ _; rw [sk.out]; show World.ownsRow _ _ _ _ _ (R ++ J k).length _; rw [hn.out]; exact O5.out
            clear hb T4 A4 X4 Y4 S4 O4 p0 p1 pl q0 q1 ql hw4 hh
            go_wp2
            go_roundw
            case rel => exact ⟨k + 1, _, kn, rfl, by rw [yn], A5, X5, S5, O5⟩
            case measure => simp [intOf]; omega
          · rw [hb] at hh sk
            clear hb
            go_wp2_with fail
            refine (hh.out _ T4.out).mono ?_
            rintro e w5 ⟨rfl, hb⟩
            have A5 := Lib.hid (down A4.out hb)
            have X5 := Lib.hid (X4.out.keep hb)
            have Y5 := Lib.hid (Y4.out.keep hb)
            have S5 : Hid (w.heap.size + 1 ≤ w5.heap.size) := Nat.le_trans S4.out hb.size
            have O5 := Lib.hid (owns_below O4.out hb)
            clear hb T4 A4 X4 Y4 S4 O4 p0 p1 pl q0 q1 ql hw4 hh
            obtain ⟨q0, q1, ql⟩ := Y5.out
            go_wp2_with (at_builtin; refine wpList_append_own _ rfl _ _ 42 rfl (w.heap.size + 1) 30 i0 (.agg #[.int .i64 0, .int .i64 0]) 2 16 Tryd.underlying42 hi' hz0 hz1 hz2 rfl (by decide) (.slice ao' n cp') n (pairs (R ++ J k)) rfl (O5.out.alloc _) ⟨w5.heap.size, 0, none⟩ 1 1 [.int .i64 x, .int .i64 y] rfl rfl ?c1 ?c2 ?c3 ?c4 ?c5 ?_)
            case c1 =>
              intro j u hj
              rw [Addr.add_lit, Nat.zero_add, World.cell?_alloc_new]
              simpa using hj
            case c2 => intro u hu; simp at hu; rcases hu with rfl | rfl <;> rfl
            case c3 => unfold maxLen; omega
            case c4 => omega
            case c5 => have := S5.out; simp; omega
            intro v' w7 hown hgrow _
            obtain ⟨ao2, cp2, rfl⟩ := (Sl.owns hown).shape
            have G : Below (w.heap.size + 1) w5 w7 := ((Below.refl _ _).alloc S5.out _).grown hgrow (by have := S5.out; simp; omega) (own_ge O5.out)
            have A7 := Lib.hid (A5.out.trans (G.mono (by omega)))
            have X7 : Hid (Two w7 w.heap.size (.int .i64 a) (.int .i64 b)) := by
              refine ⟨?_, ?_, by have := G.size; have := X5.out.lt; omega⟩
              · rw [G.cell (p := ⟨w.heap.size, 0, none⟩) (by show w.heap.size < _; omega)]; exact X5.out.c0
              · rw [G.cell (p := ⟨w.heap.size, 1, none⟩) (by show w.heap.size < _; omega)]; exact X5.out.c1
            have S7 : Hid (w.heap.size + 1 ≤ w7.heap.size) := Nat.le_trans S5.out G.size
            have le : (R ++ J (k + 1)).length = n + 1 := by rw [sk.out, ← hn.out]; simp; omega
            have O7 : Hid (w7.ownsRow (w.heap.size + 1) 30 2 (.slice ao2 (n + 1) cp2) (R ++ J (k + 1)).length (pairs (R ++ J (k + 1)))) := by
              show World.ownsRow _ _ _ _ _ _ _
              rw [le, sk.out]
              show World.ownsRow _ _ _ _ _ _ (pairs (R ++ (J k ++ [(x, y)])))
              rw [← List.append_assoc, pairs_append]
              exact hown
            clear hown hgrow G le A5 X5 Y5 S5 O5 q0 q1 ql
            go_wp2
            go_roundw
            case rel => exact ⟨k + 1, _, kn, rfl, by rw [yn], A7, X7, S7, O7⟩
            case measure => simp [intOf]; omega
        · have ku := decide_eq_false u
          have ke : k = (hi - x).toNat := by omega
          have O5 : Hid (wr.ownsRow (w.heap.size + 1) 30 2 (.slice ao' n cp') (PO (m + 1)).length (pairs (PO (m + 1)))) := by show World.ownsRow _ _ _ _ _ _ _; rw [so.out, ← ke, hn]; exact HO.out
          have mn : ((m + 1 : Nat) : Int) ≤ hi - lo := by omega
          have xn : lo + ((m + 1 : Nat) : Int) = x + 1 := by omega
          clear si li zi so HO HH ke hn
          go_wp2
          go_roundw
          case rel => exact ⟨m + 1, _, mn, rfl, by rw [xn], HA, HX, HZ, O5⟩
          case measure => simp [intOf]; omega
    · have kz := decide_eq_false z
      have me : m = (hi - lo).toNat := by omega
      have PS := Sl.owns HO.out
      obtain ⟨ao, cp, rfl⟩ := PS.shape
      have PL : Hid (PairS w.heap.size wr (.slice ao (PO m).length cp) (PO (hi - lo).toNat)) := by rw [← me]; exact Sl.weak PS (by omega)
      clear PS SI SO ZI ZO LI LO HO HH me
      go_wp2
      go_ret
      exact ⟨⟨_, rfl, PL.out⟩, HA.out⟩
end Go.Proofs.YtiaidmjhgfaobaaDoor
