/- Law 13: PeriodicNext. -/
import Derived.Test.YtaikeclfmmnelaaQPeHC
import Derived.Test.YtaikeclfmmnelaaQGI
import Derived.Test.YtaikeclfmmnelaaQGF
import Derived.BigQuiet
import Derived.Deep.QuietTactic
import Derived.Deep.RegionWith
namespace Go.Proofs.Ytaikeclfmmnelaa
open Go.RowKit
set_option linter.unusedVariables false
set_option linter.unusedSimpArgs false

set_option maxRecDepth 100000 in
set_option maxHeartbeats 4000000 in
theorem plnext (va : Value) (Pa : Int) (A : List Sp) (hA : A.length ≤ maxLen) (hPa : I64 Pa) (cpa : CapS va) (x : Int) (hx : I64 x) {ba : Nat} (w : World) (a : PairS ba w va A) :
    Calls Try.prog 10 #[.agg #[.int .i64 Pa, va], .int .i64 x] w fun e w' => e = .returned (.bool true) ∧ Below w.heap.size w w' := by
  have AW := Lib.hid (fun W => rpawake W)
  obtain ⟨oa, ca, rfl⟩ := prs_shape a
  have LOa := Lib.hid (fun W => rlong Pa oa A.length ca W)
  have AF_0 := Lib.hid (grow (here w) (.cells #[.int .i64 Pa, .slice oa A.length ca] 24))
  have Ta_0 := Lib.hid (Two.new (t := 24) (x := .int .i64 Pa) (y := .slice oa A.length ca) (here (w.alloc (.cells #[.int .i64 Pa, .slice oa A.length ca] 24))))
  have Sa_0 := Lib.hid (a.keep AF_0.out)
  clear a
  have CP := Lib.hid cpa
  cases ga : decide (40 < (A.length : Int))
  · rw [ga] at LOa
    have gt := of_decide_eq_false ga
    have NX := Lib.hid (fun W (p : PairS ba W (.slice oa A.length ca) A) => by have h := upnext _ Pa A hA hPa x hx W p; exact h)
    have UV := Lib.hid (fun W (p : PairS ba W (.slice oa A.length ca) A) => by have h := upvalid _ Pa A hA hPa W p; exact h)
    have LX := Lib.hid (fun W => rline x W)
    cases p : pvB Pa A
    · rw [p] at UV NX
      rw [if_neg (by simp)] at NX
      clear p ga gt hA hx hPa LX CP cpa
      go_enter Try.func10, Try.ntmps10
      obtain ⟨Tar0, Tar1, Tar2⟩ := Ta_0.out
      go_wp2_with fail
      clear Tar0 Tar1 Tar2
      generalize (w.alloc (.cells #[.int .i64 Pa, .slice oa A.length ca] 24)) = w0 at *
      refine (AW.out _).mono ?_
      rintro e w1 ⟨rfl, hb⟩
      have AF_1 := Lib.hid (down AF_0.out hb)
      have Ta_1 := Lib.hid (Ta_0.out.keep hb)
      have Sa_1 := Lib.hid (Sa_0.out.keep hb)
      clear hb AF_0 Ta_0 Sa_0
      obtain ⟨Tar0, Tar1, Tar2⟩ := Ta_1.out
      go_wp2_with fail
      clear Tar0 Tar1 Tar2
      refine (LOa.out _).mono ?_
      rintro e w2 ⟨rfl, hb⟩
      have AF_2 := Lib.hid (down AF_1.out hb)
      have Ta_2 := Lib.hid (Ta_1.out.keep hb)
      have Sa_2 := Lib.hid (Sa_1.out.keep hb)
      clear hb AF_1 Ta_1 Sa_1
      obtain ⟨Tar0, Tar1, Tar2⟩ := Ta_2.out
      go_wp2_with fail
      clear Tar0 Tar1 Tar2
      refine (NX.out _ Sa_2.out).mono ?_
      rintro e w3 ⟨rfl, hb⟩
      have AF_3 := Lib.hid (down AF_2.out hb)
      have Ta_3 := Lib.hid (Ta_2.out.keep hb)
      have Sa_3 := Lib.hid (Sa_2.out.keep hb)
      clear hb AF_2 Ta_2 Sa_2
      obtain ⟨Tar0, Tar1, Tar2⟩ := Ta_3.out
      go_wp2_with fail
      clear Tar0 Tar1 Tar2
      refine (UV.out _ Sa_3.out).mono ?_
      rintro e w4 ⟨rfl, hb⟩
      have AF_4 := Lib.hid (down AF_3.out hb)
      have Ta_4 := Lib.hid (Ta_3.out.keep hb)
      have Sa_4 := Lib.hid (Sa_3.out.keep hb)
      clear hb AF_3 Ta_3 Sa_3
      obtain ⟨Tar0, Tar1, Tar2⟩ := Ta_4.out
      go_wp2
      go_ret
      exact ⟨rfl, AF_4.out⟩
    · cases nx : nvB x
      · rw [p, nx] at NX
        rw [if_neg (by simp)] at NX
        rw [p] at UV
        rw [nx] at LX
        clear p nx ga gt hA hx hPa CP cpa
        go_enter Try.func10, Try.ntmps10
        obtain ⟨Tar0, Tar1, Tar2⟩ := Ta_0.out
        go_wp2_with fail
        clear Tar0 Tar1 Tar2
        generalize (w.alloc (.cells #[.int .i64 Pa, .slice oa A.length ca] 24)) = w0 at *
        refine (AW.out _).mono ?_
        rintro e w1 ⟨rfl, hb⟩
        have AF_1 := Lib.hid (down AF_0.out hb)
        have Ta_1 := Lib.hid (Ta_0.out.keep hb)
        have Sa_1 := Lib.hid (Sa_0.out.keep hb)
        clear hb AF_0 Ta_0 Sa_0
        obtain ⟨Tar0, Tar1, Tar2⟩ := Ta_1.out
        go_wp2_with fail
        clear Tar0 Tar1 Tar2
        refine (LOa.out _).mono ?_
        rintro e w2 ⟨rfl, hb⟩
        have AF_2 := Lib.hid (down AF_1.out hb)
        have Ta_2 := Lib.hid (Ta_1.out.keep hb)
        have Sa_2 := Lib.hid (Sa_1.out.keep hb)
        clear hb AF_1 Ta_1 Sa_1
        obtain ⟨Tar0, Tar1, Tar2⟩ := Ta_2.out
        go_wp2_with fail
        clear Tar0 Tar1 Tar2
        refine (NX.out _ Sa_2.out).mono ?_
        rintro e w3 ⟨rfl, hb⟩
        have AF_3 := Lib.hid (down AF_2.out hb)
        have Ta_3 := Lib.hid (Ta_2.out.keep hb)
        have Sa_3 := Lib.hid (Sa_2.out.keep hb)
        clear hb AF_2 Ta_2 Sa_2
        obtain ⟨Tar0, Tar1, Tar2⟩ := Ta_3.out
        go_wp2_with fail
        clear Tar0 Tar1 Tar2
        refine (UV.out _ Sa_3.out).mono ?_
        rintro e w4 ⟨rfl, hb⟩
        have AF_4 := Lib.hid (down AF_3.out hb)
        have Ta_4 := Lib.hid (Ta_3.out.keep hb)
        have Sa_4 := Lib.hid (Sa_3.out.keep hb)
        clear hb AF_3 Ta_3 Sa_3
        obtain ⟨Tar0, Tar1, Tar2⟩ := Ta_4.out
        go_wp2_with fail
        clear Tar0 Tar1 Tar2
        refine (LX.out _).mono ?_
        rintro e w5 ⟨rfl, hb⟩
        have AF_5 := Lib.hid (down AF_4.out hb)
        have Ta_5 := Lib.hid (Ta_4.out.keep hb)
        have Sa_5 := Lib.hid (Sa_4.out.keep hb)
        clear hb AF_4 Ta_4 Sa_4
        obtain ⟨Tar0, Tar1, Tar2⟩ := Ta_5.out
        go_wp2
        go_ret
        exact ⟨rfl, AF_5.out⟩
      · by_cases nz : 0 < A.length
        · rw [if_pos ⟨p, nz, nx⟩] at NX
          have pv := pv_iff.1 p
          have p0 := pv.p0
          have p1 := pv.p1
          obtain ⟨y0, y1, y2, y3⟩ := nx_ok (P := Pa) (by omega) pv.cn pv.ip pv.ln (by intro e; rw [e] at nz; simp at nz) x
          have nxx := nx
          unfold nvB at nxx
          rw [Bool.and_eq_true, decide_eq_true_iff, decide_eq_true_iff] at nxx
          obtain ⟨x0, x1⟩ := nxx
          obtain ⟨y, hy⟩ : ∃ y, nxV Pa A x = y := ⟨_, rfl⟩
          rw [hy] at NX y0 y1 y2 y3
          have hyI : I64 y := ⟨by omega, by omega⟩
          have UH := Lib.hid (fun W (q : PairS ba W (.slice oa A.length ca) A) => by have h := uphas _ Pa A hA hPa y hyI W q; rw [p, y2, Bool.true_and] at h; exact h)
          have UC : nvB y = true → x < y → Hid (∀ W, PairS ba W (.slice oa A.length ca) A → Calls Try.prog 35 #[.agg #[.int .i64 Pa, .slice oa A.length ca], .agg #[.int .i64 x, .int .i64 y]] W fun e w' => e = .returned (.tuple #[.int .i64 0, .int .i64 0]) ∧ Below W.heap.size W w') := fun ny xy W q => by
            have h := upcount _ Pa A hA hPa CP.out x y W q
            have s : spB (x, y) = true := by
              show (nvB x && nvB y && decide (x < y)) = true
              rw [nx, ny, decide_eq_true xy]; rfl
            rw [p, s, if_pos (by rfl), bl_none pv (by omega) y3] at h
            exact h
          have LY := Lib.hid (fun W => rline y W)
          have kz : ((A.length : Int) == 0) = false := by rw [beq_eq_false_iff_ne]; omega
          have kd1 : decide (y < x) = false := decide_eq_false (by omega)
          have kd2 : decide (Pa ≤ y - x) = false := decide_eq_false (by omega)
          rw [p] at UV
          rw [nx] at LX
          clear p nx ga gt hA hx hPa CP cpa pv y2 y3 hy hyI
          go_enter Try.func10, Try.ntmps10
          obtain ⟨Tar0, Tar1, Tar2⟩ := Ta_0.out
          go_wp2_with fail
          clear Tar0 Tar1 Tar2
          generalize (w.alloc (.cells #[.int .i64 Pa, .slice oa A.length ca] 24)) = w0 at *
          refine (AW.out _).mono ?_
          rintro e w1 ⟨rfl, hb⟩
          have AF_1 := Lib.hid (down AF_0.out hb)
          have Ta_1 := Lib.hid (Ta_0.out.keep hb)
          have Sa_1 := Lib.hid (Sa_0.out.keep hb)
          clear hb AF_0 Ta_0 Sa_0
          obtain ⟨Tar0, Tar1, Tar2⟩ := Ta_1.out
          go_wp2_with fail
          clear Tar0 Tar1 Tar2
          refine (LOa.out _).mono ?_
          rintro e w2 ⟨rfl, hb⟩
          have AF_2 := Lib.hid (down AF_1.out hb)
          have Ta_2 := Lib.hid (Ta_1.out.keep hb)
          have Sa_2 := Lib.hid (Sa_1.out.keep hb)
          clear hb AF_1 Ta_1 Sa_1
          obtain ⟨Tar0, Tar1, Tar2⟩ := Ta_2.out
          go_wp2_with fail
          clear Tar0 Tar1 Tar2
          refine (NX.out _ Sa_2.out).mono ?_
          rintro e w3 ⟨rfl, hb⟩
          have AF_3 := Lib.hid (down AF_2.out hb)
          have Ta_3 := Lib.hid (Ta_2.out.keep hb)
          have Sa_3 := Lib.hid (Sa_2.out.keep hb)
          clear hb AF_2 Ta_2 Sa_2
          obtain ⟨Tar0, Tar1, Tar2⟩ := Ta_3.out
          go_wp2_with fail
          clear Tar0 Tar1 Tar2
          refine (UV.out _ Sa_3.out).mono ?_
          rintro e w4 ⟨rfl, hb⟩
          have AF_4 := Lib.hid (down AF_3.out hb)
          have Ta_4 := Lib.hid (Ta_3.out.keep hb)
          have Sa_4 := Lib.hid (Sa_3.out.keep hb)
          clear hb AF_3 Ta_3 Sa_3
          obtain ⟨Tar0, Tar1, Tar2⟩ := Ta_4.out
          go_wp2_with fail
          clear Tar0 Tar1 Tar2
          refine (LX.out _).mono ?_
          rintro e w5 ⟨rfl, hb⟩
          have AF_5 := Lib.hid (down AF_4.out hb)
          have Ta_5 := Lib.hid (Ta_4.out.keep hb)
          have Sa_5 := Lib.hid (Sa_4.out.keep hb)
          clear hb AF_4 Ta_4 Sa_4
          obtain ⟨Tar0, Tar1, Tar2⟩ := Ta_5.out
          go_wp2_with fail
          clear Tar0 Tar1 Tar2
          refine (UH.out _ Sa_5.out).mono ?_
          rintro e w6 ⟨rfl, hb⟩
          have AF_6 := Lib.hid (down AF_5.out hb)
          have Ta_6 := Lib.hid (Ta_5.out.keep hb)
          have Sa_6 := Lib.hid (Sa_5.out.keep hb)
          clear hb AF_5 Ta_5 Sa_5
          by_cases yx : y = x
          · have ke : (y == x) = true := by rw [beq_iff_eq]; exact yx
            clear UC yx
            obtain ⟨Tar0, Tar1, Tar2⟩ := Ta_6.out
            go_wp2
            go_ret
            exact ⟨rfl, AF_6.out⟩
          · have ke : (y == x) = false := by rw [beq_eq_false_iff_ne]; exact yx
            cases ny : nvB y
            · rw [ny] at LY
              clear UC ny
              obtain ⟨Tar0, Tar1, Tar2⟩ := Ta_6.out
              go_wp2_with fail
              clear Tar0 Tar1 Tar2
              refine (LY.out _).mono ?_
              rintro e w7 ⟨rfl, hb⟩
              have AF_7 := Lib.hid (down AF_6.out hb)
              have Ta_7 := Lib.hid (Ta_6.out.keep hb)
              have Sa_7 := Lib.hid (Sa_6.out.keep hb)
              clear hb AF_6 Ta_6 Sa_6
              obtain ⟨Tar0, Tar1, Tar2⟩ := Ta_7.out
              go_wp2
              go_ret
              exact ⟨rfl, AF_7.out⟩
            · rw [ny] at LY
              replace UC := UC ny (by omega)
              clear ny
              obtain ⟨Tar0, Tar1, Tar2⟩ := Ta_6.out
              go_wp2_with fail
              clear Tar0 Tar1 Tar2
              refine (LY.out _).mono ?_
              rintro e w7 ⟨rfl, hb⟩
              have AF_7 := Lib.hid (down AF_6.out hb)
              have Ta_7 := Lib.hid (Ta_6.out.keep hb)
              have Sa_7 := Lib.hid (Sa_6.out.keep hb)
              clear hb AF_6 Ta_6 Sa_6
              obtain ⟨Tar0, Tar1, Tar2⟩ := Ta_7.out
              go_wp2_with fail
              clear Tar0 Tar1 Tar2
              refine (UC.out _ Sa_7.out).mono ?_
              rintro e w8 ⟨rfl, hb⟩
              have AF_8 := Lib.hid (down AF_7.out hb)
              have Ta_8 := Lib.hid (Ta_7.out.keep hb)
              have Sa_8 := Lib.hid (Sa_7.out.keep hb)
              clear hb AF_7 Ta_7 Sa_7
              obtain ⟨Tar0, Tar1, Tar2⟩ := Ta_8.out
              go_wp2
              go_ret
              exact ⟨rfl, AF_8.out⟩
        · rw [if_neg (by omega)] at NX
          rw [p] at UV
          rw [nx] at LX
          have kz : ((A.length : Int) == 0) = true := by rw [beq_iff_eq]; omega
          clear p nx ga gt hA hx hPa CP cpa
          go_enter Try.func10, Try.ntmps10
          obtain ⟨Tar0, Tar1, Tar2⟩ := Ta_0.out
          go_wp2_with fail
          clear Tar0 Tar1 Tar2
          generalize (w.alloc (.cells #[.int .i64 Pa, .slice oa A.length ca] 24)) = w0 at *
          refine (AW.out _).mono ?_
          rintro e w1 ⟨rfl, hb⟩
          have AF_1 := Lib.hid (down AF_0.out hb)
          have Ta_1 := Lib.hid (Ta_0.out.keep hb)
          have Sa_1 := Lib.hid (Sa_0.out.keep hb)
          clear hb AF_0 Ta_0 Sa_0
          obtain ⟨Tar0, Tar1, Tar2⟩ := Ta_1.out
          go_wp2_with fail
          clear Tar0 Tar1 Tar2
          refine (LOa.out _).mono ?_
          rintro e w2 ⟨rfl, hb⟩
          have AF_2 := Lib.hid (down AF_1.out hb)
          have Ta_2 := Lib.hid (Ta_1.out.keep hb)
          have Sa_2 := Lib.hid (Sa_1.out.keep hb)
          clear hb AF_1 Ta_1 Sa_1
          obtain ⟨Tar0, Tar1, Tar2⟩ := Ta_2.out
          go_wp2_with fail
          clear Tar0 Tar1 Tar2
          refine (NX.out _ Sa_2.out).mono ?_
          rintro e w3 ⟨rfl, hb⟩
          have AF_3 := Lib.hid (down AF_2.out hb)
          have Ta_3 := Lib.hid (Ta_2.out.keep hb)
          have Sa_3 := Lib.hid (Sa_2.out.keep hb)
          clear hb AF_2 Ta_2 Sa_2
          obtain ⟨Tar0, Tar1, Tar2⟩ := Ta_3.out
          go_wp2_with fail
          clear Tar0 Tar1 Tar2
          refine (UV.out _ Sa_3.out).mono ?_
          rintro e w4 ⟨rfl, hb⟩
          have AF_4 := Lib.hid (down AF_3.out hb)
          have Ta_4 := Lib.hid (Ta_3.out.keep hb)
          have Sa_4 := Lib.hid (Sa_3.out.keep hb)
          clear hb AF_3 Ta_3 Sa_3
          obtain ⟨Tar0, Tar1, Tar2⟩ := Ta_4.out
          go_wp2_with fail
          clear Tar0 Tar1 Tar2
          refine (LX.out _).mono ?_
          rintro e w5 ⟨rfl, hb⟩
          have AF_5 := Lib.hid (down AF_4.out hb)
          have Ta_5 := Lib.hid (Ta_4.out.keep hb)
          have Sa_5 := Lib.hid (Sa_4.out.keep hb)
          clear hb AF_4 Ta_4 Sa_4
          obtain ⟨Tar0, Tar1, Tar2⟩ := Ta_5.out
          go_wp2
          go_ret
          exact ⟨rfl, AF_5.out⟩
  · rw [ga] at LOa
    clear ga hA hx hPa CP cpa
    go_enter Try.func10, Try.ntmps10
    obtain ⟨Tar0, Tar1, Tar2⟩ := Ta_0.out
    go_wp2_with fail
    clear Tar0 Tar1 Tar2
    generalize (w.alloc (.cells #[.int .i64 Pa, .slice oa A.length ca] 24)) = w0 at *
    refine (AW.out _).mono ?_
    rintro e w1 ⟨rfl, hb⟩
    have AF_1 := Lib.hid (down AF_0.out hb)
    have Ta_1 := Lib.hid (Ta_0.out.keep hb)
    have Sa_1 := Lib.hid (Sa_0.out.keep hb)
    clear hb AF_0 Ta_0 Sa_0
    obtain ⟨Tar0, Tar1, Tar2⟩ := Ta_1.out
    go_wp2_with fail
    clear Tar0 Tar1 Tar2
    refine (LOa.out _).mono ?_
    rintro e w2 ⟨rfl, hb⟩
    have AF_2 := Lib.hid (down AF_1.out hb)
    have Ta_2 := Lib.hid (Ta_1.out.keep hb)
    have Sa_2 := Lib.hid (Sa_1.out.keep hb)
    clear hb AF_1 Ta_1 Sa_1
    obtain ⟨Tar0, Tar1, Tar2⟩ := Ta_2.out
    go_wp2_with fail
    clear Tar0 Tar1 Tar2
    refine (AW.out _).mono ?_
    rintro e w3 ⟨rfl, hb⟩
    have AF_3 := Lib.hid (down AF_2.out hb)
    have Ta_3 := Lib.hid (Ta_2.out.keep hb)
    have Sa_3 := Lib.hid (Sa_2.out.keep hb)
    clear hb AF_2 Ta_2 Sa_2
    obtain ⟨Tar0, Tar1, Tar2⟩ := Ta_3.out
    go_wp2
    go_ret
    exact ⟨rfl, AF_3.out⟩
end Go.Proofs.Ytaikeclfmmnelaa
