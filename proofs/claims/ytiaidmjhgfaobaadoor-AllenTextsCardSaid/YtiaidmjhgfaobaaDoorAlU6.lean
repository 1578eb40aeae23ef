/- Contracts: strings.Split at a bar, allen.Parse. -/
import Derived.Test.YtiaidmjhgfaobaaDoorAlU1
import Derived.Test.YtiaidmjhgfaobaaDoorAlPar
import Derived.Test.YtiaidmjhgfaobaaDoorLCut
import Derived.Test.YtiaidmjhgfaobaaDoorShelfThree
import Derived.Test.YtiaidmjhgfaobaaDoorShelfSix
namespace Go.Proofs.YtiaidmjhgfaobaaDoor
open Go.RowKit Go.Shelf
set_option linter.unusedVariables false
attribute [local go_sem] Oper.semAt_some

/-- The pieces that strings.Split lays are the parts between the bars. -/
theorem splitK_spl : ∀ (k : Nat) (s : List UInt8), Lib.count s [124] = k → Lib.splitK [124] 0 k s = spl s := by
  intro k
  induction k with
  | zero =>
    intro s h
    rw [Lib.count_one, List.count_eq_zero] at h
    show [s] = _
    rw [spl_end (fun c hc e => h (e ▸ hc))]
  | succ k ih =>
    intro s h
    rcases first_at 124 s with no | ⟨i, hi, f, e⟩
    · have z : Lib.count s [124] = 0 := by
        rw [Lib.count_one, List.count_eq_zero]
        intro m
        obtain ⟨j, hj, q⟩ := List.getElem_of_mem m
        exact no j hj (by rw [List.getD_eq_getElem?_getD, List.getElem?_eq_getElem hj, q]; rfl)
      omega
    · have ix : Lib.index s [124] = i := by rw [Lib.index_one]; exact ib_yes 124 s i hi f e
      have sp : s = s.take i ++ 124 :: s.drop (i + 1) := by
        conv => lhs; rw [← List.take_append_drop i s]
        rw [List.drop_eq_getElem_cons hi]
        rw [List.getD_eq_getElem?_getD, List.getElem?_eq_getElem hi] at e
        congr 2
      have na : ∀ c, c ∈ s.take i → ¬ c = 124 := by
        intro c hc q
        obtain ⟨j, hj, r⟩ := List.getElem_of_mem hc
        rw [List.length_take] at hj
        rw [List.getElem_take] at r
        exact f j (by omega) (by rw [List.getD_eq_getElem?_getD, List.getElem?_eq_getElem (by omega), r]; exact q)
      have cn : Lib.count (s.drop (i + 1)) [124] = k := by
        rw [Lib.count_one] at h ⊢
        rw [sp, List.count_append, List.count_cons_self, List.count_eq_zero.2 (fun m => na _ m rfl)] at h
        omega
      unfold Lib.splitK
      rw [ix, if_neg (by rw [beq_iff_eq]; omega)]
      have t : ((i : Nat) : Int).toNat = i := Int.toNat_natCast i
      rw [t]
      show s.take (i + 0) :: Lib.splitK [124] 0 k (s.drop (i + 1)) = spl s
      rw [ih _ cn, Nat.add_zero]
      conv => rhs; rw [sp]
      rw [spl_cut _ na]
theorem spl_len : ∀ (l p : List UInt8), p ∈ spl l → p.length ≤ l.length
  | [], p, h => by simp [spl] at h; subst h; exact Nat.le_refl _
  | c :: l, p, h => by
    unfold spl at h
    split at h
    · rcases List.mem_cons.1 h with rfl | h
      · simp
      · have := spl_len l p h; simp; omega
    · cases e : spl l with
      | nil => exact absurd e (spl_ne l)
      | cons q qs =>
        rw [e] at h
        rcases List.mem_cons.1 h with rfl | h
        · have := spl_len l q (by rw [e]; exact List.mem_cons_self); simp; omega
        · have := spl_len l p (by rw [e]; exact List.mem_cons_of_mem _ h); simp; omega
theorem spl_count : ∀ l : List UInt8, (spl l).length ≤ l.length + 1
  | [] => by simp [spl]
  | c :: l => by
    have := spl_count l
    unfold spl
    split
    · simp; omega
    · split
      · simp
      · rename_i e; rw [e] at this; simp at this ⊢; omega
/-- strings.Split at a bar. -/
theorem usplit (s : ByteArray) (hs : s.size ≤ 200) (w : World) :
    Calls Tryd.prog 50 #[.string s, .string ⟨#[124]⟩] w fun e w' => ∃ L : List ByteArray, e = .returned (.slice (some ⟨w.heap.size, 0, none⟩) L.length L.length) ∧
      w' = w.alloc (.cells (L.map Value.string).toArray 9) ∧ L.map (·.data.toList) = spl s.data.toList := by
  have sz : (⟨#[124]⟩ : ByteArray).size = 1 := rfl
  have hle : Lib.countB s ⟨#[124]⟩ ≤ s.size := Lib.countB_le ⟨#[124]⟩ (by rw [sz]; exact Nat.le_refl _) s.size s (Nat.le_refl _)
  have hlen := Lib.splitB_all ⟨#[124]⟩ (by rw [sz]; exact Nat.le_refl _) 0 _ s rfl
  have hI : ∀ (x : ByteArray) (c : Array Value), x.size ≤ s.size → Calls Tryd.prog 69 #[.string x, .string ⟨#[124]⟩] (w.alloc (.cells c 9)) fun e w' => e = .returned (.int .i64 (Lib.indexB x ⟨#[124]⟩)) ∧ w' = w.alloc (.cells c 9) := fun x c _ => by
    refine (Tryd.strings_Index_one x 124 _).mono fun e w' ⟨he, hw⟩ => ⟨?_, hw⟩
    rw [he, ← Lib.index_one]
  have hC : Calls Tryd.prog 68 #[.string s, .string ⟨#[124]⟩] w fun e w' => e = .returned (.int .i64 (Lib.countB s ⟨#[124]⟩)) ∧ w' = w := by
    refine (Tryd.strings_Count_one s 124 w).mono fun e w' ⟨he, hw⟩ => ⟨?_, hw⟩
    rw [he]
    show _ = Ending.returned (Value.int .i64 ((Lib.count s.data.toList [124] : Nat) : Int))
    rw [Lib.count_one]; rfl
  have c := Any.strings_genSplit_core Tryd.lays221 (by kernel_rfl) s ⟨#[124]⟩ 0 (-1) (Lib.countB s ⟨#[124]⟩ + 1) w (by omega) (by rw [sz]; exact Nat.le_refl _) (Nat.zero_le _) hI hC (by decide) (by decide) (by rw [if_pos (by decide)]; omega)
  rw [Nat.add_sub_cancel, hlen] at c
  have e2 : Lib.cellsOf (Lib.splitB ⟨#[124]⟩ 0 (Lib.countB s ⟨#[124]⟩) s) (Lib.countB s ⟨#[124]⟩ + 1) = ((Lib.splitB ⟨#[124]⟩ 0 (Lib.countB s ⟨#[124]⟩) s).map Value.string).toArray := by rw [← hlen]; exact Lib.cellsOf_full _
  rw [e2] at c
  have e3 : (Lib.splitB ⟨#[124]⟩ 0 (Lib.countB s ⟨#[124]⟩) s).map (·.data.toList) = spl s.data.toList := by
    rw [Lib.splitB_data]; exact splitK_spl _ _ rfl
  rw [← hlen] at c
  generalize Lib.splitB ⟨#[124]⟩ 0 (Lib.countB s ⟨#[124]⟩) s = L at *
  have C := Lib.hid c
  clear c hI hC e2 hlen hle
  replace e3 := Lib.hid e3
  go_enter Tryd.func50, Tryd.ntmps50
  go_wp2_with fail
  refine C.out.mono ?_
  rintro e w1 ⟨rfl, hw⟩
  replace hw := Lib.hid hw
  go_wp2
  go_ret
  exact ⟨L, rfl, hw.out, e3.out⟩
set_option maxRecDepth 100000 in
set_option maxHeartbeats 2000000 in
theorem uaparse0 (s : ByteArray) (hs : s.size ≤ 1000) (w : World) (ht : INm w) :
    Calls Tryd.prog 25 #[.string s] w fun e w' => e = .returned (.tuple #[.int .i64 (psV s).1, .int .i64 (psV s).2]) ∧ Below w.heap.size w w' := by
  by_cases l : 200 < s.size
  · have kl : decide (200 < (s.size : Int)) = true := decide_eq_true (by omega)
    rw [show psV s = (0, 5) by unfold psV; rw [if_pos l]]
    clear l
    go_enter Tryd.func25, Tryd.ntmps25
    go_wp2
    go_ret2
    exact ⟨rfl, here w⟩
  have kl : decide (200 < (s.size : Int)) = false := decide_eq_false (by omega)
  by_cases e1 : s.data.toList = nneL
  · have k1 : (s.toList == [110, 111, 110, 101]) = true := by rw [beq_iff_eq, ByteArray.toList_eq]; exact e1
    rw [show psV s = (0, 0) by unfold psV; rw [if_neg l, if_pos e1]]
    clear l e1
    go_enter Tryd.func25, Tryd.ntmps25
    go_wp2
    go_ret2
    exact ⟨rfl, here w⟩
  have k1 : (s.toList == [110, 111, 110, 101]) = false := by rw [beq_eq_false_iff_ne, ByteArray.toList_eq]; exact e1
  by_cases e2 : s.data.toList = anyL
  · have k2 : (s.toList == [97, 110, 121]) = true := by rw [beq_iff_eq, ByteArray.toList_eq]; exact e2
    rw [show psV s = (8191, 0) by unfold psV; rw [if_neg l, if_neg e1, if_pos e2]]
    clear l e1 e2
    go_enter Tryd.func25, Tryd.ntmps25
    go_wp2
    go_ret2
    exact ⟨rfl, here w⟩
  have k2 : (s.toList == [97, 110, 121]) = false := by rw [beq_eq_false_iff_ne, ByteArray.toList_eq]; exact e2
  have RR : Hid (psF (spl s.data.toList) 0 false = psV s) := by
    show _ = _
    unfold psV; rw [if_neg l, if_neg e1, if_neg e2]
  have ln : s.data.toList.length = s.size := Array.length_toList
  have hU := Lib.hid (usplit s (by omega) w)
  have SL := Lib.hid (spl_len s.data.toList)
  have SC := spl_count s.data.toList
  generalize psV s = R at *
  obtain ⟨R1, R2⟩ := R
  generalize spl s.data.toList = SP at *
  have l200 : s.size ≤ 200 := by omega
  rw [ln] at SL SC
  clear l e1 e2 hs ln
  go_enter Tryd.func25, Tryd.ntmps25
  go_wp2_with fail
  refine hU.out.mono ?_
  rintro e w1 ⟨L, rfl, hw, hL⟩
  have A1 : Hid (Below w.heap.size w w1) := by rw [hw]; exact grow (here w) _
  have HC : Hid (∀ (k : Nat) (P : ByteArray), L[k]? = some P → w1.cell? ⟨w.heap.size, k, none⟩ = some (.string P)) := fun k P h => by
    rw [hw, World.cell?_alloc_new, List.getElem?_toArray, List.getElem?_map, h]; rfl
  have lt : w.heap.size < w1.heap.size := by rw [hw]; simp
  have LS : Hid (∀ (k : Nat) (P : ByteArray), L[k]? = some P → P.size ≤ 200) := fun k P h => by
    have m : P.data.toList ∈ SP := by rw [← hL]; exact List.mem_map.2 ⟨P, List.mem_of_getElem? h, rfl⟩
    have := SL.out _ m
    have e : P.data.toList.length = P.size := Array.length_toList
    omega
  have n201 : L.length ≤ 201 := by
    have := congrArg List.length hL
    rw [List.length_map] at this; omega
  rw [← hL] at RR
  have AW : Hid (Below w1.heap.size w1 w1) := here w1
  clear hw hL SL SC hU l200
  obtain ⟨n, hn⟩ : ∃ n, L.length = n := ⟨_, rfl⟩
  rw [hn] at n201 ⊢
  go_wp2
  go_loopw [4, 5, 23] (fun ov tv iv wr => ∃ (k o : Nat) (t : Bool), k ≤ n ∧ o < 8192 ∧ ov = .int .i64 o ∧ tv = .bool t ∧ iv = .int .i64 k ∧ Hid (psF ((L.drop k).map (·.data.toList)) o t = (R1, R2)) ∧ Hid (Below w1.heap.size w1 wr)) (fun _ _ iv _ => n - (intOf iv).toNat)
  case atStart => exact ⟨0, 0, false, Nat.zero_le _, by omega, rfl, rfl, rfl, RR, AW⟩
  case round =>
    obtain ⟨k, o, t, hk, ho, rfl, rfl, rfl, HR, HA⟩ := hrel
    clear RR AW
    by_cases z : k < n
    · have kz : decide ((k : Int) < (n : Int)) = true := decide_eq_true (by omega)
      obtain ⟨P, hP⟩ : ∃ P, L[k]? = some P := ⟨L[k]'(by omega), List.getElem?_eq_getElem (by omega)⟩
      have cP : wr.cell? ⟨w.heap.size, k, none⟩ = some (.string P) := (HA.out.cell (p := ⟨w.heap.size, k, none⟩) lt).trans (HC.out k P hP)
      have HP := Lib.hid (fun w ht => iuparse P (by have := LS.out k P hP; omega) w ht)
      have T1 : Hid (INm wr) := ht.below (A1.out.trans (HA.out.mono (by omega)))
      have dr : Hid ((L.drop k).map (·.data.toList) = P.data.toList :: (L.drop (k + 1)).map (·.data.toList)) := by
        show _ = _
        have hk2 : k < L.length := by omega
        rw [List.drop_eq_getElem_cons hk2]
        rw [List.getElem?_eq_getElem hk2] at hP
        injection hP with hP
        rw [hP]; rfl
      have nn := numP_iff P.data.toList
      rw [show (⟨P.data.toList.toArray⟩ : ByteArray) = P by simp] at nn
      clear hP
      by_cases y : numP P.data.toList < 13
      · have f1 := nn.1.1 y
        have f2 := nn.2.1 y
        have R3 : Hid (psF ((L.drop (k + 1)).map (·.data.toList)) (o ||| 2 ^ numP P.data.toList) (t || o.testBit (numP P.data.toList)) = (R1, R2)) := by
          show _ = _; rw [← psF_yes y, ← dr.out]; exact HR.out
        rw [f1, f2] at HP
        have p := pow_lt (show numP P.data.toList ≤ 12 by omega)
        have q1 := al_pow (show numP P.data.toList ≤ 12 by omega)
        have HH := Lib.hid (fun w => uahas o (numP P.data.toList) ho (by omega) w)
        have ho2 : o ||| 2 ^ numP P.data.toList < 8192 := or_lt ho p
        have q2 := Lib.hid (or_i64 o (2 ^ numP P.data.toList) (by omega) (by omega))
        clear nn f1 f2 HR dr
        generalize numP P.data.toList = r at *
        have r12 : r ≤ 12 := by omega
        obtain ⟨m, hm⟩ : ∃ m : Nat, 2 ^ r = m := ⟨_, rfl⟩
        rw [hm] at p q1 q2 R3 ho2
        have q3 := q2.out
        cases t
        · rw [Bool.false_or] at R3
          generalize o.testBit r = b at *
          go_wp2_with fail
          refine (HP.out _ T1.out).mono ?_
          rintro e w2 ⟨rfl, hb⟩
          have A2 : Hid (Below w1.heap.size w1 w2) := down HA.out hb
          clear hb T1 HA cP
          go_wp2_with fail
          refine (HH.out _).mono ?_
          rintro e w3 ⟨rfl, rfl⟩
          go_wp2
          go_roundw
          case rel => exact ⟨k + 1, o ||| m, b, by omega, ho2, by first | rfl | (rw [q3]), rfl, by go_num, R3, A2⟩
          case measure => simp [intOf]; omega
        · rw [Bool.true_or] at R3
          go_wp2_with fail
          refine (HP.out _ T1.out).mono ?_
          rintro e w2 ⟨rfl, hb⟩
          have A2 : Hid (Below w1.heap.size w1 w2) := down HA.out hb
          clear hb T1 HA cP HH
          go_wp2
          go_roundw
          case rel => exact ⟨k + 1, o ||| m, true, by omega, ho2, by first | rfl | (rw [q3]), rfl, by go_num, R3, A2⟩
          case measure => simp [intOf]; omega
      · have f1 := nn.2.2 y
        have R3 := HR.out
        rw [dr.out, psF_no y] at R3
        injection R3 with r1 r2
        subst r1; subst r2
        rw [f1] at HP
        clear nn f1 HR dr y
        go_wp2_with fail
        refine (HP.out _ T1.out).mono ?_
        rintro e w2 ⟨rfl, hb⟩
        have A2 : Hid (Below w.heap.size w w2) := A1.out.trans ((down HA.out hb).mono (by omega))
        clear hb T1 HA cP
        go_wp2
        go_ret2
        exact ⟨rfl, A2.out⟩
    · have kz : decide ((k : Int) < (n : Int)) = false := decide_eq_false (by omega)
      obtain rfl : k = n := by omega
      have R3 := HR.out
      rw [← hn, List.drop_length] at R3
      have A2 : Hid (Below w.heap.size w wr) := A1.out.trans (HA.out.mono (by omega))
      cases t
      · replace R3 : ((o : Int), (0 : Int)) = (R1, R2) := R3
        injection R3 with r1 r2
        subst r1; subst r2
        clear HR HA
        go_wp2
        go_ret2
        exact ⟨rfl, A2.out⟩
      · replace R3 : ((0 : Int), (8 : Int)) = (R1, R2) := R3
        injection R3 with r1 r2
        subst r1; subst r2
        clear HR HA
        go_wp2
        go_ret2
        exact ⟨rfl, A2.out⟩
end Go.Proofs.YtiaidmjhgfaobaaDoor
