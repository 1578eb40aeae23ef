/- The walk of ClockSums: the Go text returns true, at every input. -/
import Derived.Test.YtehbegjocdahmaaDoorAwakeM
import Derived.Test.YtehbegjocdahmaaDoorCkE
namespace Go.Proofs.YtehbegjocdahmaaDoor
open Go.RowKit
set_option linter.unusedVariables false

namespace ClockSums
def fewB (n : Int) : Bool := decide (0 ≤ n) && decide (n ≤ 1000000)
theorem fewB_iff {n : Int} : fewB n = true ↔ 0 ≤ n ∧ n ≤ 1000000 := by unfold fewB; simp
theorem few (n : Int) (hn : I64 n) (w : World) :
    Calls Tryd.prog 37 #[.int .i64 n] w fun e w' => e = .returned (.bool (fewB n)) ∧ w = w' := by
  obtain ⟨h0, h1⟩ := hn
  unfold fewB
  obtain ⟨a, ha⟩ : ∃ a, decide (0 ≤ n) = a := ⟨_, rfl⟩
  obtain ⟨b, hb⟩ : ∃ a, decide (n ≤ 1000000) = a := ⟨_, rfl⟩
  rw [ha, hb]
  cases a <;> cases b
  all_goals
    go_enter Tryd.func37, Tryd.ntmps37
    go_wp2
    go_ret
    exact ⟨rfl, rfl⟩
/-- What is left of a number, and the digits behind it: at least one digit is written. -/
def NJ (n x : Int) (l : List UInt8) (fresh : Bool) : Prop := if fresh = true then x = n ∧ l = [] else DJ n x l ∧ 0 < x
set_option maxHeartbeats 1000000 in
theorem num (n : Int) (n0 : 0 ≤ n) (n1 : n ≤ 1000000) (w : World) :
    Calls Tryd.prog 38 #[.int .i64 n] w fun e w' => e = .returned (.string ⟨(Lib.decDigits n.toNat).toArray⟩) ∧ Below w.heap.size w w' := by
  go_enter Tryd.func38, Tryd.ntmps38
  go_wp2
  go_loopw [0, 3] (fun a s wr => ∃ (x : Int) (l : List UInt8), 0 ≤ x ∧ x ≤ 1000000 ∧ l.length ≤ 13 ∧ Hid ((x = n ∧ l = []) ∨ (0 < x ∧ DJ n x l)) ∧ a = .int .i64 x ∧ s = .string ⟨l.toArray⟩ ∧ Hid (Below w.heap.size w wr)) (fun a _ _ => (intOf a).toNat)
  case atStart => exact ⟨n, [], by omega, by omega, by simp, Lib.hid (.inl ⟨rfl, rfl⟩), rfl, rfl, Lib.hid (here w)⟩
  case round =>
    obtain ⟨x, l, x0, x1, hl, HI, rfl, rfl, A⟩ := hrel
    obtain ⟨E, hE⟩ : ∃ D, x % 10 = D := ⟨_, rfl⟩
    have E0 : 0 ≤ E := by omega
    have E1 : E ≤ 9 := by omega
    have HN : DJ n (x / 10) (dgt E :: l) := by
      rcases HI.out with ⟨rfl, rfl⟩ | ⟨h0, h⟩
      · rw [← hE]; exact dj_start x0
      · rw [← hE]; exact dj_step h0 h
    have hl2 := dj_len n0 (by omega) HN
    have hc := one_byte E0 E1 wr 9 Tryd.underlying9
    have A' := Lib.hid (grow A.out (.cells #[.int .u8 (48 + E)] 5))
    have cons : ((⟨#[dgt E]⟩ : ByteArray) ++ ⟨l.toArray⟩) = ⟨(dgt E :: l).toArray⟩ := Value.string.inj (str_cons (dgt E) l)
    clear HI A
    by_cases z : x / 10 = 0
    · have kz : (x / 10 == 0) = true := by simpa using z
      have HE : Hid (Lib.decDigits n.toNat = dgt E :: l) := by
        unfold DJ at HN
        rw [if_pos z, List.nil_append] at HN
        exact HN.symm
      clear HN z
      go_wp2
      go_ret
      exact ⟨by rw [HE.out, ← cons]; rfl, A'.out⟩
    · have kz : (x / 10 == 0) = false := by simpa using z
      have HM := Lib.hid (show (x / 10 = n ∧ dgt E :: l = []) ∨ (0 < x / 10 ∧ DJ n (x / 10) (dgt E :: l)) from .inr ⟨by omega, HN⟩)
      clear HN
      go_wp2
      go_roundw
      case rel => exact ⟨x / 10, dgt E :: l, by omega, by omega, hl2, HM, rfl, str_cons _ _, A'⟩
      case measure => simp [intOf]; omega
/-- Durations out of their parts. -/
theorem fuel_up {f g : Nat} {l : List UInt8} (h : l.length < f) (k : l.length < g) : pdL f false 0 true 0 l = pdL g false 0 true 0 l := pd_fuel f g false 0 true 0 l h k
theorem durP_P {neg : Bool} {body : List UInt8} {n : Int} (h : pdL (body.length + 8) false 0 true 0 body = some n) (hb : body ≠ []) : durP ((if neg then [45] else []) ++ 80 :: body) = some n := by
  have e : durB ((if neg then [45] else []) ++ 80 :: body) = 80 :: body := by
    cases neg
    · unfold durB; rw [if_neg (by simp)]; rfl
    · unfold durB; rw [if_pos (by simp)]; rfl
  unfold durP
  rw [e, if_pos ⟨rfl, by have := List.length_pos_iff.2 hb; simp only [List.length_cons]; omega⟩, ← h]
  exact fuel_up (by simp) (by show body.length < _; omega)
theorem durV_P {neg : Bool} {body : List UInt8} {n : Int} (h : pdL (body.length + 8) false 0 true 0 body = some n) (hb : body ≠ []) (hn : n ≤ 4398046511104) :
    durV ((if neg then [45] else []) ++ 80 :: body) = (if neg then -n else n) ∧ durE ((if neg then [45] else []) ++ 80 :: body) = 0 := by
  have p := durP_P (neg := neg) h hb
  unfold durV durE
  rw [p]
  refine ⟨?_, ?_⟩
  · show (if 4398046511104 < n then (0 : Int) else if ((if neg then [45] else []) ++ 80 :: body).head? = some 45 then -n else n) = _
    rw [if_neg (by omega)]
    cases neg
    · rw [if_neg (by simp)]; rfl
    · rw [if_pos (by simp)]; rfl
  · show (if 4398046511104 < n then (9 : Int) else 0) = 0
    rw [if_neg (by omega)]
theorem part_dec {f : Nat} {t : Bool} {p : Int} {o : Bool} {n x : Int} {u : UInt8} {r : List UInt8} (x0 : 0 ≤ x) (hu : isDig u = false) (hp : p < unitP u t) :
    pdL (f + 1) t p o n (Lib.decDigits x.toNat ++ u :: r) = pdL f t (unitP u t) false (n + x * unitV u t) r := by
  obtain ⟨a, b, d⟩ := dec_val x.toNat
  rw [pd_part d b hu hp, a, Int.toNat_of_nonneg x0]
theorem part_dec0 {f : Nat} {t : Bool} {p : Int} {o : Bool} {n x : Int} {u : UInt8} {r : List UInt8} (x0 : 0 ≤ x) (hu : isDig u = false) (hp : p < unitP u t) :
    pdL (f + 1) t p o n (48 :: Lib.decDigits x.toNat ++ u :: r) = pdL f t (unitP u t) false (n + x * unitV u t) r := by
  obtain ⟨a, b, d⟩ := dec_val x.toNat
  have h : (48 :: Lib.decDigits x.toNat).all isDig = true := by rw [List.all_cons, b]; decide
  have v : valD 0 (48 :: Lib.decDigits x.toNat) = valD 0 (Lib.decDigits x.toNat) := by rw [valD_cons]; rfl
  rw [pd_part (by simp) h hu hp, v, a, Int.toNat_of_nonneg x0]
theorem all_parts {d h m s : Int} (d0 : 0 ≤ d) (h0 : 0 ≤ h) (m0 : 0 ≤ m) (s0 : 0 ≤ s) (f : Nat) :
    pdL (f + 8) false 0 true 0 (Lib.decDigits d.toNat ++ 68 :: 84 :: (Lib.decDigits h.toNat ++ 72 :: (Lib.decDigits m.toNat ++ 77 :: (48 :: Lib.decDigits s.toNat ++ 83 :: [])))) = some (86400 * d + 3600 * h + 60 * m + s) := by
  rw [part_dec d0 (by decide) (by decide), pd_T, part_dec h0 (by decide) (by decide), part_dec m0 (by decide) (by decide), part_dec0 s0 (by decide) (by decide), pd_end]
  rw [show unitV 68 false = 86400 by decide, show unitV 72 true = 3600 by decide, show unitV 77 true = 60 by decide, show unitV 83 true = 1 by decide]
  congr 1; omega
theorem day_part {d : Int} (d0 : 0 ≤ d) (f : Nat) : pdL (f + 8) false 0 true 0 (Lib.decDigits d.toNat ++ 68 :: []) = some (86400 * d) := by
  rw [part_dec d0 (by decide) (by decide), pd_end, show unitV 68 false = 86400 by decide]
  congr 1; omega
theorem time_parts {h s : Int} (h0 : 0 ≤ h) (s0 : 0 ≤ s) (f : Nat) : pdL (f + 8) false 0 true 0 (84 :: (Lib.decDigits h.toNat ++ 72 :: (Lib.decDigits s.toNat ++ 83 :: []))) = some (3600 * h + s) := by
  rw [pd_T, part_dec h0 (by decide) (by decide), part_dec s0 (by decide) (by decide), pd_end, show unitV 72 true = 3600 by decide, show unitV 83 true = 1 by decide]
  congr 1; omega
set_option maxRecDepth 100000 in
set_option maxHeartbeats 2000000 in
theorem out (d h m s : Int) (hd : I64 d) (hh : I64 h) (hm : I64 m) (hs : I64 s) (v : (!fewB d || !fewB h || !fewB m || !fewB s) = true) (w : World) (hl : Listed w) :
    Calls Tryd.prog 9 #[.int .i64 d, .int .i64 h, .int .i64 m, .int .i64 s] w fun e w' => e = .returned (.bool true) ∧ Below w.heap.size w w' := by
  have H1 := Lib.hid (fun w => few d hd w)
  have H2 := Lib.hid (fun w => few h hh w)
  have H3 := Lib.hid (fun w => few m hm w)
  have H4 := Lib.hid (fun w => few s hs w)
  generalize fewB d = b1 at *
  generalize fewB h = b2 at *
  generalize fewB m = b3 at *
  generalize fewB s = b4 at *
  replace hl := Lib.hid hl
  clear hd hh hm hs
  cases b1
  · go_enter Tryd.func9, Tryd.ntmps9
    go_wp2_with fail
    refine (awake_all _ hl.out).mono ?_
    rintro e w1 ⟨rfl, A1⟩
    replace A1 := Lib.hid A1
    go_wp2_with fail
    refine (H1.out _).mono ?_
    rintro e w2 ⟨rfl, rfl⟩
    go_wp2
    go_ret
    exact ⟨rfl, A1.out⟩
  · cases b2
    · go_enter Tryd.func9, Tryd.ntmps9
      go_wp2_with fail
      refine (awake_all _ hl.out).mono ?_
      rintro e w1 ⟨rfl, A1⟩
      replace A1 := Lib.hid A1
      go_wp2_with fail
      refine (H1.out _).mono ?_
      rintro e w2 ⟨rfl, rfl⟩
      go_wp2_with fail
      refine (H2.out _).mono ?_
      rintro e w2 ⟨rfl, rfl⟩
      go_wp2
      go_ret
      exact ⟨rfl, A1.out⟩
    · cases b3
      · go_enter Tryd.func9, Tryd.ntmps9
        go_wp2_with fail
        refine (awake_all _ hl.out).mono ?_
        rintro e w1 ⟨rfl, A1⟩
        replace A1 := Lib.hid A1
        go_wp2_with fail
        refine (H1.out _).mono ?_
        rintro e w2 ⟨rfl, rfl⟩
        go_wp2_with fail
        refine (H2.out _).mono ?_
        rintro e w2 ⟨rfl, rfl⟩
        go_wp2_with fail
        refine (H3.out _).mono ?_
        rintro e w2 ⟨rfl, rfl⟩
        go_wp2
        go_ret
        exact ⟨rfl, A1.out⟩
      · cases b4
        · go_enter Tryd.func9, Tryd.ntmps9
          go_wp2_with fail
          refine (awake_all _ hl.out).mono ?_
          rintro e w1 ⟨rfl, A1⟩
          replace A1 := Lib.hid A1
          go_wp2_with fail
          refine (H1.out _).mono ?_
          rintro e w2 ⟨rfl, rfl⟩
          go_wp2_with fail
          refine (H2.out _).mono ?_
          rintro e w2 ⟨rfl, rfl⟩
          go_wp2_with fail
          refine (H3.out _).mono ?_
          rintro e w2 ⟨rfl, rfl⟩
          go_wp2_with fail
          refine (H4.out _).mono ?_
          rintro e w2 ⟨rfl, rfl⟩
          go_wp2
          go_ret
          exact ⟨rfl, A1.out⟩
        · cases v
theorem vE {X : ByteArray} {l : List UInt8} {V : Int} (hX : X = ⟨l.toArray⟩) (h : durV l = V ∧ durE l = 0) (hs : X.size ≤ 1000000) (w : World) (hu : Units w) :
    Calls Tryd.prog 35 #[.string X] w fun e w' => e = .returned (.tuple #[.int .i64 V, .int .i64 0]) ∧ ∃ m, w' = w.drewN m := by
  have q := kpd X hs w hu
  rw [show X.data.toList = l by rw [hX], h.1, h.2] at q
  exact q
set_option maxRecDepth 100000 in
set_option maxHeartbeats 4000000 in
theorem good (d h m s : Int) (vd : fewB d = true) (vh : fewB h = true) (vm : fewB m = true) (vs : fewB s = true) (w : World) (hl : Listed w) :
    Calls Tryd.prog 9 #[.int .i64 d, .int .i64 h, .int .i64 m, .int .i64 s] w fun e w' => e = .returned (.bool true) ∧ Below w.heap.size w w' := by
  obtain ⟨d0, d1⟩ := fewB_iff.1 vd
  obtain ⟨h0, h1⟩ := fewB_iff.1 vh
  obtain ⟨m0, m1⟩ := fewB_iff.1 vm
  obtain ⟨s0, s1⟩ := fewB_iff.1 vs
  have H1 := fun w => few d ⟨by omega, by omega⟩ w
  have H2 := fun w => few h ⟨by omega, by omega⟩ w
  have H3 := fun w => few m ⟨by omega, by omega⟩ w
  have H4 := fun w => few s ⟨by omega, by omega⟩ w
  rw [vd] at H1
  rw [vh] at H2
  rw [vm] at H3
  rw [vs] at H4
  replace H1 := Lib.hid H1
  replace H2 := Lib.hid H2
  replace H3 := Lib.hid H3
  replace H4 := Lib.hid H4
  have N1 := fun w => num d d0 d1 w
  have N2 := fun w => num h h0 h1 w
  have N3 := fun w => num m m0 m1 w
  have N4 := fun w => num s s0 s1 w
  have V1 := durV_P (neg := false) (all_parts d0 h0 m0 s0 _) (by simp) (by omega)
  have V2 := durV_P (neg := true) (all_parts d0 h0 m0 s0 _) (by simp) (by omega)
  have V3 := durV_P (neg := false) (day_part d0 _) (by simp) (by omega)
  have V4 := durV_P (neg := false) (time_parts h0 s0 _) (by simp) (by omega)
  have len : ∀ x : Int, x ≤ 1000000 → (Lib.decDigits x.toNat).length ≤ 13 := fun x hx => (digL_dec 12 x.toNat (by omega)).1
  have ld := len d d1
  have lh := len h h1
  have lm := len m m1
  have ls := len s s1
  generalize Lib.decDigits d.toNat = D at *
  generalize Lib.decDigits h.toNat = H at *
  generalize Lib.decDigits m.toNat = M at *
  generalize Lib.decDigits s.toNat = S at *
  obtain ⟨bd, hbd⟩ : ∃ q : ByteArray, (⟨D.toArray⟩ : ByteArray) = q := ⟨_, rfl⟩
  obtain ⟨bh, hbh⟩ : ∃ q : ByteArray, (⟨H.toArray⟩ : ByteArray) = q := ⟨_, rfl⟩
  obtain ⟨bm, hbm⟩ : ∃ q : ByteArray, (⟨M.toArray⟩ : ByteArray) = q := ⟨_, rfl⟩
  obtain ⟨bs, hbs⟩ : ∃ q : ByteArray, (⟨S.toArray⟩ : ByteArray) = q := ⟨_, rfl⟩
  rw [← size_of, hbd] at ld
  rw [← size_of, hbh] at lh
  rw [← size_of, hbm] at lm
  rw [← size_of, hbs] at ls
  have x1 : ((((((((((⟨#[80]⟩ : ByteArray) ++ bd) ++ ⟨#[68, 84]⟩) ++ bh) ++ ⟨#[72]⟩) ++ bm) ++ ⟨#[77, 48]⟩) ++ bs) ++ ⟨#[83]⟩)) = ⟨(80 :: (D ++ 68 :: 84 :: (H ++ 72 :: (M ++ 77 :: (48 :: S ++ 83 :: []))))).toArray⟩ := by
    rw [← hbd, ← hbh, ← hbm, ← hbs]
    show (((((((((⟨[80].toArray⟩ : ByteArray) ++ ⟨D.toArray⟩) ++ ⟨[68, 84].toArray⟩) ++ ⟨H.toArray⟩) ++ ⟨[72].toArray⟩) ++ ⟨M.toArray⟩) ++ ⟨[77, 48].toArray⟩) ++ ⟨S.toArray⟩) ++ ⟨[83].toArray⟩) = _
    simp only [ba_append]
    simp
  have x2 : ((⟨#[45]⟩ : ByteArray) ++ ((((((((((⟨#[80]⟩ : ByteArray) ++ bd) ++ ⟨#[68, 84]⟩) ++ bh) ++ ⟨#[72]⟩) ++ bm) ++ ⟨#[77, 48]⟩) ++ bs) ++ ⟨#[83]⟩))) = ⟨(45 :: 80 :: (D ++ 68 :: 84 :: (H ++ 72 :: (M ++ 77 :: (48 :: S ++ 83 :: []))))).toArray⟩ := by
    rw [x1]
    show (⟨[45].toArray⟩ : ByteArray) ++ ⟨_⟩ = _
    rw [ba_append]; rfl
  have x3 : (((⟨#[80]⟩ : ByteArray) ++ bd) ++ ⟨#[68]⟩) = ⟨(80 :: (D ++ 68 :: [])).toArray⟩ := by
    rw [← hbd]
    show (((⟨[80].toArray⟩ : ByteArray) ++ ⟨D.toArray⟩) ++ ⟨[68].toArray⟩) = _
    simp only [ba_append]
    simp
  have x4 : (((((⟨#[80, 84]⟩ : ByteArray) ++ bh) ++ ⟨#[72]⟩) ++ bs) ++ ⟨#[83]⟩) = ⟨(80 :: 84 :: (H ++ 72 :: (S ++ 83 :: []))).toArray⟩ := by
    rw [← hbh, ← hbs]
    show (((((⟨[80, 84].toArray⟩ : ByteArray) ++ ⟨H.toArray⟩) ++ ⟨[72].toArray⟩) ++ ⟨S.toArray⟩) ++ ⟨[83].toArray⟩) = _
    simp only [ba_append]
    simp
  have W1 := Lib.hid (fun w hu => vE x1 V1 (by simp only [ByteArray.size_append]; show 1 + bd.size + 2 + bh.size + 1 + bm.size + 2 + bs.size + 1 ≤ _; omega) w hu)
  have W2 := Lib.hid (fun w hu => vE x2 V2 (by simp only [ByteArray.size_append]; show 1 + (1 + bd.size + 2 + bh.size + 1 + bm.size + 2 + bs.size + 1) ≤ _; omega) w hu)
  have W3 := Lib.hid (fun w hu => vE x3 V3 (by simp only [ByteArray.size_append]; show 1 + bd.size + 1 ≤ _; omega) w hu)
  have W4 := Lib.hid (fun w hu => vE x4 V4 (by simp only [ByteArray.size_append]; show 2 + bh.size + 1 + bs.size + 1 ≤ _; omega) w hu)
  rw [hbd] at N1
  rw [hbh] at N2
  rw [hbm] at N3
  rw [hbs] at N4
  replace N1 := Lib.hid N1
  replace N2 := Lib.hid N2
  replace N3 := Lib.hid N3
  replace N4 := Lib.hid N4
  replace hl := Lib.hid hl
  clear x1 x2 x3 x4 V1 V2 V3 V4 hbd hbh hbm hbs len vd vh vm vs
  go_enter Tryd.func9, Tryd.ntmps9
  go_wp2_with fail
  refine (awake_all _ hl.out).mono ?_
  rintro e w1 ⟨rfl, A1⟩
  have L1 := Lib.hid (hl.out.keep A1)
  replace A1 := Lib.hid A1
  go_wp2_with fail
  refine (H1.out _).mono ?_
  rintro e w2 ⟨rfl, rfl⟩
  go_wp2_with fail
  refine (H2.out _).mono ?_
  rintro e w2 ⟨rfl, rfl⟩
  go_wp2_with fail
  refine (H3.out _).mono ?_
  rintro e w2 ⟨rfl, rfl⟩
  go_wp2_with fail
  refine (H4.out _).mono ?_
  rintro e w2 ⟨rfl, rfl⟩
  go_wp2_with fail
  refine (N1.out _).mono ?_
  rintro e w2 ⟨rfl, hb⟩
  have A2 := Lib.hid (down A1.out hb)
  clear hb A1 L1
  go_wp2_with fail
  refine (N2.out _).mono ?_
  rintro e w3 ⟨rfl, hb⟩
  have A3 := Lib.hid (down A2.out hb)
  clear hb A2
  go_wp2_with fail
  refine (N3.out _).mono ?_
  rintro e w4 ⟨rfl, hb⟩
  have A4 := Lib.hid (down A3.out hb)
  clear hb A3
  go_wp2_with fail
  refine (N4.out _).mono ?_
  rintro e w5 ⟨rfl, hb⟩
  have A5 := Lib.hid (down A4.out hb)
  have L5 := Lib.hid (hl.out.keep A5.out)
  clear hb A4
  go_wp2_with fail
  refine (W1.out _ L5.out.units).mono ?_
  rintro e w6 ⟨rfl, k1, rfl⟩
  go_wp2_with fail
  refine (W2.out _ (L5.out.drewN _).units).mono ?_
  rintro e w6 ⟨rfl, k2, rfl⟩
  go_wp2_with fail
  refine (N1.out _).mono ?_
  rintro e w6 ⟨rfl, hb⟩
  have A6 := Lib.hid (down (below_drewN A5.out _) hb)
  have L6 := Lib.hid (hl.out.keep A6.out)
  clear hb A5 L5
  go_wp2_with fail
  refine (W3.out _ L6.out.units).mono ?_
  rintro e w7 ⟨rfl, k3, rfl⟩
  go_wp2_with fail
  refine (N2.out _).mono ?_
  rintro e w7 ⟨rfl, hb⟩
  have A7 := Lib.hid (down (below_drewN A6.out _) hb)
  clear hb A6 L6
  go_wp2_with fail
  refine (N4.out _).mono ?_
  rintro e w8 ⟨rfl, hb⟩
  have A8 := Lib.hid (down A7.out hb)
  have L8 := Lib.hid (hl.out.keep A8.out)
  clear hb A7
  go_wp2_with fail
  refine (W4.out _ L8.out.units).mono ?_
  rintro e w9 ⟨rfl, k4, rfl⟩
  go_wp2
  go_ret
  exact ⟨rfl, below_drewN A8.out _⟩
theorem walk (d h m s : Int) (hd : (Lit.int .i64 d).wf = true) (hh : (Lit.int .i64 h).wf = true) (hm : (Lit.int .i64 m).wf = true) (hs : (Lit.int .i64 s).wf = true) (w : World) (hl : Listed w) :
    Calls Tryd.prog 9 #[.int .i64 d, .int .i64 h, .int .i64 m, .int .i64 s] w fun e w' => e = .returned (.bool true) ∧ Below w.heap.size w w' := by
  by_cases v : (!fewB d || !fewB h || !fewB m || !fewB s) = true
  · exact out d h m s (i64_wf hd) (i64_wf hh) (i64_wf hm) (i64_wf hs) v w hl
  · simp only [Bool.or_eq_true, Bool.not_eq_true', not_or, Bool.not_eq_false] at v
    exact good d h m s v.1.1.1 v.1.1.2 v.1.2 v.2 w hl
end ClockSums
end Go.Proofs.YtehbegjocdahmaaDoor
