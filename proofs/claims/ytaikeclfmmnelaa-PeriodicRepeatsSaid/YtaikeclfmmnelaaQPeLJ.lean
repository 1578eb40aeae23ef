/- Law 13: PeriodicRepeats. -/
import Derived.Test.YtaikeclfmmnelaaQPeHC
import Derived.Test.YtaikeclfmmnelaaQPeHG
import Derived.Test.YtaikeclfmmnelaaQGI
import Derived.Test.YtaikeclfmmnelaaQGB
import Derived.Test.YtaikeclfmmnelaaQGF
import Derived.Test.YtaikeclfmmnelaaQPeB
import Derived.StillTailTactics
import Derived.Deep.AppendLies
import Derived.BigQuiet
import Derived.Deep.QuietTactic
import Derived.Deep.RegionWith
namespace Go.Proofs.Ytaikeclfmmnelaa
open Go.RowKit
set_option linter.unusedVariables false
set_option linter.unusedSimpArgs false

theorem zn_bd {z n : Int} (z0 : -128 ≤ z) (z1 : z ≤ 127) (n0 : 1 ≤ n) (n1 : n ≤ 6) : -768 ≤ z * n ∧ z * n ≤ 768 := by
  rcases (show n = 1 ∨ n = 2 ∨ n = 3 ∨ n = 4 ∨ n = 5 ∨ n = 6 by omega) with rfl | rfl | rfl | rfl | rfl | rfl <;> omega
theorem qp_bd {q P : Int} (k : Int) (q0 : -k ≤ q) (q1 : q ≤ k) (p0 : 1 ≤ P) : -(k * P) ≤ q * P ∧ q * P ≤ k * P := by
  have a := Int.mul_le_mul_of_nonneg_right q0 (show 0 ≤ P by omega)
  have b := Int.mul_le_mul_of_nonneg_right q1 (show 0 ≤ P by omega)
  rw [Int.neg_mul] at a
  exact ⟨a, b⟩
/-- The shifts, none beyond them. -/
def shZ (zs : List Int) (j : Nat) : Int := if j < zs.length then zs.getD j 0 else 0
theorem i8_here {w : World} {o : Option Addr} {n c : Nat} {zs : List Int} (h : I8S w (.slice o n c) zs) {i : Nat} (hi : i < zs.length) : ∃ b off, o = some ⟨b, off, none⟩ ∧ b < w.heap.size ∧ w.cell? ⟨b, off + i, none⟩ = some (.int .i8 (zs.getD i 0)) := by
  rcases h with ⟨h0, -⟩ | ⟨b, off, c', e, -, l⟩
  · omega
  · injection e with e1 e2 e3
    refine ⟨b, off, e1, l.lt, l.cell i _ ?_⟩
    rw [List.getElem?_map, List.getD_eq_getElem?_getD, List.getElem?_eq_getElem hi]; rfl
set_option maxRecDepth 100000 in
set_option maxHeartbeats 2000000 in
theorem rline2 (x : Int) (w : World) :
    Calls Try.prog 32 #[.int .i64 x] w fun e w' => e = .returned (.bool (nvB x)) ∧ w = w' := by
  unfold nvB
  by_cases a : -4398046511104 ≤ x
  · have ka := decide_eq_true a
    rw [ka, Bool.true_and]
    clear a
    go_enter Try.func32, Try.ntmps32
    go_wp2
    go_ret
    exact ⟨rfl, rfl⟩
  · have ka := decide_eq_false a
    rw [ka, Bool.false_and]
    clear a
    go_enter Try.func32, Try.ntmps32
    go_wp2
    go_ret
    exact ⟨rfl, rfl⟩
theorem i8_shape {w : World} {v : Value} {zs : List Int} (h : I8S w v zs) : ∃ o c, v = .slice o zs.length c := by
  rcases h with ⟨h0, a, c, rfl⟩ | ⟨b, off, c, rfl, -⟩
  · exact ⟨a, c, by rw [h0]⟩
  · exact ⟨_, _, rfl⟩
set_option maxRecDepth 100000 in
set_option maxHeartbeats 4000000 in
theorem plrepeats (va : Value) (Pa : Int) (A : List Sp) (hA : A.length ≤ maxLen) (hPa : I64 Pa) (k : Int) (k0 : 0 ≤ k) (k1 : k ≤ 255) (vz : Value) (zs : List Int) (hzl : zs.length ≤ maxLen) (bz : ∀ j, j < zs.length → -128 ≤ zs.getD j 0 ∧ zs.getD j 0 ≤ 127) {ba : Nat} (w : World) (a : PairS ba w va A) (zz : I8S w vz zs) :
    Calls Try.prog 7 #[.agg #[.int .i64 Pa, va], .int .u8 k, vz] w fun e w' => e = .returned (.bool true) ∧ Below w.heap.size w w' := by
  obtain ⟨i0, hi, hz0, hz1, hz2⟩ := info_parts infoS
  have AW := Lib.hid (fun W => rpawake W)
  obtain ⟨oa, ca, rfl⟩ := prs_shape a
  obtain ⟨oz, cz, rfl⟩ := i8_shape zz
  have LOa := Lib.hid (fun W => rlong Pa oa A.length ca W)
  have AF_0 := Lib.hid (grow (here w) (.cells #[.int .i64 Pa, .slice oa A.length ca] 24))
  have Ta_0 := Lib.hid (Two.new (t := 24) (x := .int .i64 Pa) (y := .slice oa A.length ca) (here (w.alloc (.cells #[.int .i64 Pa, .slice oa A.length ca] 24))))
  have Sa_0 := Lib.hid (a.keep AF_0.out)
  have Z0 := Lib.hid (zz.keep AF_0.out)
  have ZZ := Lib.hid zz
  clear a zz
  cases ga : decide (40 < (A.length : Int))
  · rw [ga] at LOa
    have gt := of_decide_eq_false ga
    have UV := Lib.hid (fun W (p : PairS ba W (.slice oa A.length ca) A) => by have h := upvalid _ Pa A hA hPa W p; exact h)
    cases p : pvB Pa A
    · rw [p] at UV
      clear p ga gt hA hPa hzl bz Z0 ZZ
      go_enter Try.func7, Try.ntmps7
      obtain ⟨Tar0, Tar1, Tar2⟩ := Ta_0.out
      go_wp2_with fail
      clear Tar0 Tar1 Tar2
      generalize (w.alloc (.cells #[.int .i64 Pa, .slice oa A.length ca] 24)) = w0 at *
      refine (AW.out _).mono ?_
      rintro e w1 ⟨rfl, hb⟩
      have AF_1 := Lib.hid (down AF_0.out hb)
      have Ta_1 := Lib.hid (Ta_0.out.keep hb)
      have Sa_1 := Lib.hid (Sa_0.out.keep hb)
      clear hb AF_0 Ta_0 Sa_0
      obtain ⟨Tar0, Tar1, Tar2⟩ := Ta_1.out
      go_wp2_with fail
      clear Tar0 Tar1 Tar2
      refine (LOa.out _).mono ?_
      rintro e w2 ⟨rfl, hb⟩
      have AF_2 := Lib.hid (down AF_1.out hb)
      have Ta_2 := Lib.hid (Ta_1.out.keep hb)
      have Sa_2 := Lib.hid (Sa_1.out.keep hb)
      clear hb AF_1 Ta_1 Sa_1
      obtain ⟨Tar0, Tar1, Tar2⟩ := Ta_2.out
      go_wp2_with fail
      clear Tar0 Tar1 Tar2
      refine (UV.out _ Sa_2.out).mono ?_
      rintro e w3 ⟨rfl, hb⟩
      have AF_3 := Lib.hid (down AF_2.out hb)
      have Ta_3 := Lib.hid (Ta_2.out.keep hb)
      have Sa_3 := Lib.hid (Sa_2.out.keep hb)
      clear hb AF_2 Ta_2 Sa_2
      obtain ⟨Tar0, Tar1, Tar2⟩ := Ta_3.out
      go_wp2_with fail
      clear Tar0 Tar1 Tar2
      refine (AW.out _).mono ?_
      rintro e w4 ⟨rfl, hb⟩
      have AF_4 := Lib.hid (down AF_3.out hb)
      have Ta_4 := Lib.hid (Ta_3.out.keep hb)
      have Sa_4 := Lib.hid (Sa_3.out.keep hb)
      clear hb AF_3 Ta_3 Sa_3
      obtain ⟨Tar0, Tar1, Tar2⟩ := Ta_4.out
      go_wp2
      go_ret
      exact ⟨rfl, AF_4.out⟩
    · rw [p] at UV
      by_cases big : 4294967296 < Pa
      · have kb := decide_eq_true big
        clear p ga gt hA hPa hzl bz Z0 ZZ big
        go_enter Try.func7, Try.ntmps7
        obtain ⟨Tar0, Tar1, Tar2⟩ := Ta_0.out
        go_wp2_with fail
        clear Tar0 Tar1 Tar2
        generalize (w.alloc (.cells #[.int .i64 Pa, .slice oa A.length ca] 24)) = w0 at *
        refine (AW.out _).mono ?_
        rintro e w1 ⟨rfl, hb⟩
        have AF_1 := Lib.hid (down AF_0.out hb)
        have Ta_1 := Lib.hid (Ta_0.out.keep hb)
        have Sa_1 := Lib.hid (Sa_0.out.keep hb)
        clear hb AF_0 Ta_0 Sa_0
        obtain ⟨Tar0, Tar1, Tar2⟩ := Ta_1.out
        go_wp2_with fail
        clear Tar0 Tar1 Tar2
        refine (LOa.out _).mono ?_
        rintro e w2 ⟨rfl, hb⟩
        have AF_2 := Lib.hid (down AF_1.out hb)
        have Ta_2 := Lib.hid (Ta_1.out.keep hb)
        have Sa_2 := Lib.hid (Sa_1.out.keep hb)
        clear hb AF_1 Ta_1 Sa_1
        obtain ⟨Tar0, Tar1, Tar2⟩ := Ta_2.out
        go_wp2_with fail
        clear Tar0 Tar1 Tar2
        refine (UV.out _ Sa_2.out).mono ?_
        rintro e w3 ⟨rfl, hb⟩
        have AF_3 := Lib.hid (down AF_2.out hb)
        have Ta_3 := Lib.hid (Ta_2.out.keep hb)
        have Sa_3 := Lib.hid (Sa_2.out.keep hb)
        clear hb AF_2 Ta_2 Sa_2
        obtain ⟨Tar0, Tar1, Tar2⟩ := Ta_3.out
        go_wp2_with fail
        clear Tar0 Tar1 Tar2
        refine (AW.out _).mono ?_
        rintro e w4 ⟨rfl, hb⟩
        have AF_4 := Lib.hid (down AF_3.out hb)
        have Ta_4 := Lib.hid (Ta_3.out.keep hb)
        have Sa_4 := Lib.hid (Sa_3.out.keep hb)
        clear hb AF_3 Ta_3 Sa_3
        obtain ⟨Tar0, Tar1, Tar2⟩ := Ta_4.out
        go_wp2
        go_ret
        exact ⟨rfl, AF_4.out⟩
      · have kb := decide_eq_false big
        have pv := pv_iff.1 p
        have p0 := pv.p0
        obtain ⟨n, hn⟩ : ∃ n, 1 + k % 6 = n := ⟨_, rfl⟩
        have n0 : 1 ≤ n := by omega
        have n1 : n ≤ 6 := by omega
        have tm : k.tmod 6 = k % 6 := Int.tmod_eq_emod_of_nonneg k0
        obtain ⟨NP, hNP⟩ : ∃ NP, n * Pa = NP := ⟨_, rfl⟩
        have np := qp_bd 6 (q := n) (P := Pa) (by omega) n1 p0
        obtain ⟨NL, hNL⟩ : ∃ NL, n * (A.length : Int) = NL := ⟨_, rfl⟩
        have nl := qp_bd (P := (A.length : Int) + 1) 6 (q := n) (by omega) n1 (by omega)
        rw [hNP] at np
        rw [Int.mul_add 6, Int.mul_add n, hNL] at nl
        have p1 : Pa ≤ 4294967296 := Int.not_lt.1 big
        have np0 : -25769803776 ≤ NP := by omega
        have np1 : NP ≤ 25769803776 := by omega
        have nl0 : -1000 ≤ NL := by omega
        have nl1 : NL ≤ 1000 := by omega
        replace pv := Lib.hid pv
        clear p ga hPa np nl big
        go_enter Try.func7, Try.ntmps7
        obtain ⟨Tar0, Tar1, Tar2⟩ := Ta_0.out
        go_wp2_with fail
        clear Tar0 Tar1 Tar2
        generalize (w.alloc (.cells #[.int .i64 Pa, .slice oa A.length ca] 24)) = w0 at *
        refine (AW.out _).mono ?_
        rintro e w1 ⟨rfl, hb⟩
        have AF_1 := Lib.hid (down AF_0.out hb)
        have Ta_1 := Lib.hid (Ta_0.out.keep hb)
        have Sa_1 := Lib.hid (Sa_0.out.keep hb)
        clear hb AF_0 Ta_0 Sa_0
        obtain ⟨Tar0, Tar1, Tar2⟩ := Ta_1.out
        go_wp2_with fail
        clear Tar0 Tar1 Tar2
        refine (LOa.out _).mono ?_
        rintro e w2 ⟨rfl, hb⟩
        have AF_2 := Lib.hid (down AF_1.out hb)
        have Ta_2 := Lib.hid (Ta_1.out.keep hb)
        have Sa_2 := Lib.hid (Sa_1.out.keep hb)
        clear hb AF_1 Ta_1 Sa_1
        obtain ⟨Tar0, Tar1, Tar2⟩ := Ta_2.out
        go_wp2_with fail
        clear Tar0 Tar1 Tar2
        refine (UV.out _ Sa_2.out).mono ?_
        rintro e w3 ⟨rfl, hb⟩
        have AF_3 := Lib.hid (down AF_2.out hb)
        have Ta_3 := Lib.hid (Ta_2.out.keep hb)
        have Sa_3 := Lib.hid (Sa_2.out.keep hb)
        clear hb AF_2 Ta_2 Sa_2
        by_cases b1 : 12622780800 < NP
        · have kb1 := decide_eq_true b1
          clear b1
          obtain ⟨Tar0, Tar1, Tar2⟩ := Ta_3.out
          go_wp2
          go_ret
          exact ⟨rfl, AF_3.out⟩
        · have kb1 := decide_eq_false b1
          by_cases b2 : 2000 < NL
          · have kb2 := decide_eq_true b2
            clear b2 b1
            obtain ⟨Tar0, Tar1, Tar2⟩ := Ta_3.out
            go_wp2
            go_ret
            exact ⟨rfl, AF_3.out⟩
          · have kb2 := decide_eq_false b2
            replace b1 := Lib.hid (Int.not_lt.1 b1)
            replace b2 := Lib.hid (Int.not_lt.1 b2)
            have L0 := Lib.hid (here w3)
            have I0 : Hid (w3.ownsRow w3.heap.size 37 2 (.slice none 0 0) ([] : List Sp).length (pairs [])) := World.ownsRow_nil _ _ _ _
            have R0 := Lib.hid (rp_start Pa n A (shZ zs))
            obtain ⟨Tar0, Tar1, Tar2⟩ := Ta_3.out
            go_wp2
            go_loopw [8, 9] (fun v t wr => ∃ (i : Int) (v' : Value) (M : List Sp), v' = v ∧ -1 ≤ i ∧ i < n ∧ t = .int .i64 i ∧ Hid (RpS Pa n A (shZ zs) i 0 M) ∧ Hid (wr.ownsRow w3.heap.size 37 2 v M.length (pairs M)) ∧ Hid (Below w3.heap.size w3 wr)) (fun _ t _ => (intOf t + 1).toNat)
            case atStart => exact ⟨n - 1, _, [], rfl, by omega, by omega, rfl, R0, I0, L0⟩
            case round =>
              obtain ⟨i, v', M, rfl, i0', i1, rfl, SM, OM, AM⟩ := hrel
              clear I0 L0 R0 Tar0 Tar1 Tar2
              have T2 := Lib.hid (Ta_3.out.keep AM.out)
              obtain ⟨r0, r1, r2⟩ := T2.out
              by_cases y : 0 ≤ i
              · have ky := decide_eq_true y
                obtain ⟨IP, hIP⟩ : ∃ IP, i * Pa = IP := ⟨_, rfl⟩
                have ip := qp_bd 5 (q := i) (P := Pa) (by omega) (by omega) p0
                rw [hIP] at ip
                have ip0 : -21474836480 ≤ IP := by omega
                have ip1 : IP ≤ 21474836480 := by omega
                have AM' := AM
                have OM' := OM
                clear ip AM OM
                go_wp2
                go_loopw [8, 58] (fun v t wr => ∃ (j : Nat) (v' : Value) (M : List Sp), v' = v ∧ j ≤ A.length ∧ t = .int .i64 j ∧ Hid (RpS Pa n A (shZ zs) i j M) ∧ Hid (wr.ownsRow w3.heap.size 37 2 v M.length (pairs M)) ∧ Hid (Below w3.heap.size w3 wr)) (fun _ t _ => A.length - (intOf t).toNat)
                case atStart => exact ⟨0, _, M, rfl, Nat.zero_le _, rfl, SM, OM', AM'⟩
                case round =>
                  obtain ⟨j, v2, M2, rfl, hj, rfl, SJ, O2, A2⟩ := hrel
                  clear OM' AM' T2 r0 r1 r2 SM
                  have T3 := Lib.hid (Ta_3.out.keep A2.out)
                  have P3 := Lib.hid (Sa_3.out.keep A2.out)
                  obtain ⟨r0, r1, r2⟩ := T3.out
                  by_cases z : j < A.length
                  · skip
                    obtain ⟨b, off, rfl, bl, cs⟩ := prs_here P3.out z
                    obtain ⟨c0, c1⟩ := cs j z
                    have b0 : 0 ≤ (A.getD j (0, 0)).1 := (pv.out.ip _ (getD_mem z)).1
                    have b1' : (A.getD j (0, 0)).1 < (A.getD j (0, 0)).2 := pv.out.cn.lt _ (getD_mem z)
                    have b2' : (A.getD j (0, 0)).2 ≤ Pa := (pv.out.ip _ (getD_mem z)).2
                    have few := SJ.out.few y z n0 (by rw [hNL]; exact b2.out)
                    obtain ⟨L2, hL2⟩ : ∃ L, M2.length = L := ⟨_, rfl⟩
                    rw [hL2] at O2 few
                    obtain ⟨ao, cp, rfl⟩ := (Sl.owns O2.out).shape
                    have CM : Hid (L2 + 1 ≤ maxLen) := by show _ ≤ _; unfold maxLen; omega
                    have IT : Hid (itR Pa n A (shZ zs) i j = (i * Pa + shZ zs j * n * Pa + (A.getD j (0, 0)).1, i * Pa + shZ zs j * n * Pa + (A.getD j (0, 0)).2)) := rfl
                    rw [hIP] at IT
                    generalize A.getD j (0, 0) = q at *
                    obtain ⟨qx, qy⟩ := q
                    replace c0 : wr.cell? ⟨b, off + j * 2, none⟩ = some (.int .i64 qx) := c0
                    replace c1 : wr.cell? ⟨b, off + j * 2 + 1, none⟩ = some (.int .i64 qy) := c1
                    replace b0 : 0 ≤ qx := b0
                    replace b1' : qx < qy := b1'
                    replace b2' : qy ≤ Pa := b2'
                    clear cs
                    have kz : decide ((j : Int) < (A.length : Int)) = true := decide_eq_true (by omega)
                    by_cases s : j < zs.length
                    · have ks : decide ((j : Int) < (zs.length : Int)) = true := decide_eq_true (by omega)
                      obtain ⟨b8, o8, rfl, l8, c8⟩ := i8_here (ZZ.out.keep (down AF_3.out A2.out)) s
                      obtain ⟨y0, y1⟩ := bz j s
                      have sh : shZ zs j = zs.getD j 0 := if_pos s
                      rw [sh] at IT
                      generalize zs.getD j 0 = z8 at *
                      obtain ⟨ZN, hZN⟩ : ∃ ZN, z8 * n = ZN := ⟨_, rfl⟩
                      obtain ⟨zn0, zn1⟩ := zn_bd y0 y1 n0 n1
                      rw [hZN] at zn0 zn1 IT
                      obtain ⟨ZP, hZP⟩ : ∃ ZP, ZN * Pa = ZP := ⟨_, rfl⟩
                      have zp := qp_bd 768 (q := ZN) (P := Pa) zn0 zn1 p0
                      rw [hZP] at zp IT
                      have zp0 : -3298534883328 ≤ ZP := by omega
                      have zp1 : ZP ≤ 3298534883328 := by omega
                      clear zp sh
                      obtain ⟨at', hat⟩ : ∃ a, IP + ZP = a := ⟨_, rfl⟩
                      rw [hat] at IT
                      obtain ⟨f, hf⟩ : ∃ f, at' + qx = f := ⟨_, rfl⟩
                      obtain ⟨t, ht⟩ : ∃ t, at' + qy = t := ⟨_, rfl⟩
                      replace IT : Hid (itR Pa n A (shZ zs) i j = (at' + qx, at' + qy)) := IT
                      rw [hf, ht] at IT
                      have LF := Lib.hid (fun W => rline2 f W)
                      have LT := Lib.hid (fun W => rline2 t W)
                      have W4 := grow (here wr) (.cells #[.int .i64 qx, .int .i64 qy] 37)
                      have A4 := Lib.hid (down A2.out W4)
                      have X4 := Lib.hid (Two.new (t := 37) (x := .int .i64 qx) (y := .int .i64 qy) (here (wr.alloc (.cells #[.int .i64 qx, .int .i64 qy] 37))))
                      have O4 := Lib.hid (O2.out.alloc (.cells #[.int .i64 qx, .int .i64 qy] 37))
                      have T4 := Lib.hid (T3.out.keep W4)
                      have c8' := Lib.hid (W4.cell (p := ⟨b8, o8 + j, none⟩) l8)
                      have l8' := Lib.hid (show b8 < (wr.alloc (.cells #[.int .i64 qx, .int .i64 qy] 37)).heap.size by have := W4.size; omega)
                      clear W4
                      go_wp2
                      generalize (wr.alloc (.cells #[.int .i64 qx, .int .i64 qy] 37)) = w4 at *
                      have c9 : w4.cell? ⟨b8, o8 + j, none⟩ = some (.int .i8 z8) := by rw [c8'.out]; exact c8
                      have l9 := l8'.out
                      obtain ⟨r0, r1, r2⟩ := T4.out
                      go_quiet (fail)
                      obtain ⟨w5, hw5⟩ : ∃ w5 : World, w4.drewN nq = w5 := ⟨_, rfl⟩
                      rw [hw5]
                      have A5 := Lib.hid (show Below w3.heap.size w3 w5 by rw [← hw5]; exact below_drewN A4.out _)
                      have X5 := Lib.hid (show Two w5 wr.heap.size (.int .i64 qx) (.int .i64 qy) by rw [← hw5]; exact Two.drewN X4.out _)
                      have O5 : Hid (w5.ownsRow w3.heap.size 37 2 (.slice ao L2 cp) L2 (pairs M2)) := by show World.ownsRow _ _ _ _ _ _ _; rw [← hw5]; exact O4.out
                      clear hw5 A4 X4 O4 T4 c8 c9 l8 l9 c8' l8' r0 r1 r2 c0 c1 bl
                      have x0 := X5.out.c0
                      have x1 := X5.out.c1
                      have xl := X5.out.lt
                      have A9 := Lib.hid (down AF_3.out A5.out)
                      cases nf : nvB f
                      · rw [nf] at LF
                        clear nf
                        go_wp2_with fail
                        refine (LF.out _).mono ?_
                        rintro e w' ⟨rfl, rfl⟩
                        go_wp2
                        go_ret
                        exact ⟨rfl, A9.out⟩
                      · rw [nf] at LF
                        cases nt : nvB t
                        · rw [nt] at LT
                          clear nt nf
                          go_wp2_with fail
                          refine (LF.out _).mono ?_
                          rintro e w' ⟨rfl, rfl⟩
                          go_wp2_with fail
                          refine (LT.out _).mono ?_
                          rintro e w' ⟨rfl, rfl⟩
                          go_wp2
                          go_ret
                          exact ⟨rfl, A9.out⟩
                        · rw [nt] at LT
                          have ST := Lib.hid (SJ.out.add y i1 z (by rw [IT.out]; show (nvB f && nvB t && decide (f < t)) = true; rw [nf, nt, decide_eq_true (show f < t by omega)]; rfl))
                          rw [IT.out] at ST
                          have sz : Hid (w3.heap.size ≤ (w5.alloc (.cells #[.int .i64 f, .int .i64 t] 37)).heap.size) := by show _ ≤ _; have := A5.out.size; simp; omega
                          clear nt nf
                          go_wp2_with fail
                          refine (LF.out _).mono ?_
                          rintro e w' ⟨rfl, rfl⟩
                          go_wp2_with fail
                          refine (LT.out _).mono ?_
                          rintro e w' ⟨rfl, rfl⟩
                          go_wp2_with (at_builtin; refine wpList_append_own _ rfl _ _ 22 rfl w3.heap.size 37 i0 (.agg #[.int .i64 0, .int .i64 0]) 2 16 Try.underlying22 hi hz0 hz1 hz2 rfl (by decide) (.slice ao L2 cp) L2 (pairs M2) rfl (O5.out.alloc _) ⟨w5.heap.size, 0, none⟩ 1 1 [.int .i64 f, .int .i64 t] rfl rfl (fun j u hj => by rw [Addr.add_lit, Nat.zero_add, World.cell?_alloc_new]; simpa using hj) (fun u hu => by simp at hu; rcases hu with rfl | rfl <;> rfl) CM.out (by omega) sz.out ?_)
                          intro v7 w7 hown hgrow _
                          have B7 := (A5.out.alloc A5.out.size (.cells #[.int .i64 f, .int .i64 t] 37)).grown hgrow sz.out (own_ge O5.out)
                          replace B7 := Lib.hid B7
                          have O7 : Hid (w7.ownsRow w3.heap.size 37 2 v7 (M2 ++ [(f, t)]).length (pairs (M2 ++ [(f, t)]))) := by
                            show World.ownsRow _ _ _ _ _ _ _
                            rw [pairs_append, List.length_append, hL2]; exact hown
                          clear hown hgrow
                          go_wp2
                          go_roundw
                          case rel => exact ⟨j + 1, v7, _, rfl, by omega, by first | rfl | go_num, ST.out, O7, B7⟩
                          case measure => simp [intOf]; omega
                    · have ks : decide ((j : Int) < (zs.length : Int)) = false := decide_eq_false (by omega)
                      have sh : shZ zs j = 0 := if_neg s
                      rw [sh, Int.zero_mul, Int.zero_mul, Int.add_zero] at IT
                      clear sh
                      obtain ⟨f, hf⟩ : ∃ f, IP + qx = f := ⟨_, rfl⟩
                      obtain ⟨t, ht⟩ : ∃ t, IP + qy = t := ⟨_, rfl⟩
                      replace IT : Hid (itR Pa n A (shZ zs) i j = (IP + qx, IP + qy)) := IT
                      rw [hf, ht] at IT
                      have LF := Lib.hid (fun W => rline2 f W)
                      have LT := Lib.hid (fun W => rline2 t W)
                      have W4 := grow (here wr) (.cells #[.int .i64 qx, .int .i64 qy] 37)
                      have A4 := Lib.hid (down A2.out W4)
                      have X4 := Lib.hid (Two.new (t := 37) (x := .int .i64 qx) (y := .int .i64 qy) (here (wr.alloc (.cells #[.int .i64 qx, .int .i64 qy] 37))))
                      have O4 := Lib.hid (O2.out.alloc (.cells #[.int .i64 qx, .int .i64 qy] 37))
                      have x0 := X4.out.c0
                      have x1 := X4.out.c1
                      have xl := X4.out.lt
                      clear W4
                      go_wp2_with fail
                      generalize (wr.alloc (.cells #[.int .i64 qx, .int .i64 qy] 37)) = w5 at *
                      have A5 := A4
                      have O5 := O4
                      have X5 := X4
                      clear A4 O4 X4 c0 c1 r0 r1 r2 bl x0 x1 xl
                      have x0 := X5.out.c0
                      have x1 := X5.out.c1
                      have xl := X5.out.lt
                      have A9 := Lib.hid (down AF_3.out A5.out)
                      cases nf : nvB f
                      · rw [nf] at LF
                        clear nf
                        refine (LF.out _).mono ?_
                        rintro e w' ⟨rfl, rfl⟩
                        go_wp2
                        go_ret
                        exact ⟨rfl, A9.out⟩
                      · rw [nf] at LF
                        cases nt : nvB t
                        · rw [nt] at LT
                          clear nt nf
                          refine (LF.out _).mono ?_
                          rintro e w' ⟨rfl, rfl⟩
                          go_wp2_with fail
                          refine (LT.out _).mono ?_
                          rintro e w' ⟨rfl, rfl⟩
                          go_wp2
                          go_ret
                          exact ⟨rfl, A9.out⟩
                        · rw [nt] at LT
                          have ST := Lib.hid (SJ.out.add y i1 z (by rw [IT.out]; show (nvB f && nvB t && decide (f < t)) = true; rw [nf, nt, decide_eq_true (show f < t by omega)]; rfl))
                          rw [IT.out] at ST
                          have sz : Hid (w3.heap.size ≤ (w5.alloc (.cells #[.int .i64 f, .int .i64 t] 37)).heap.size) := by show _ ≤ _; have := A5.out.size; simp; omega
                          clear nt nf
                          refine (LF.out _).mono ?_
                          rintro e w' ⟨rfl, rfl⟩
                          go_wp2_with fail
                          refine (LT.out _).mono ?_
                          rintro e w' ⟨rfl, rfl⟩
                          go_wp2_with (at_builtin; refine wpList_append_own _ rfl _ _ 22 rfl w3.heap.size 37 i0 (.agg #[.int .i64 0, .int .i64 0]) 2 16 Try.underlying22 hi hz0 hz1 hz2 rfl (by decide) (.slice ao L2 cp) L2 (pairs M2) rfl (O5.out.alloc _) ⟨w5.heap.size, 0, none⟩ 1 1 [.int .i64 f, .int .i64 t] rfl rfl (fun j u hj => by rw [Addr.add_lit, Nat.zero_add, World.cell?_alloc_new]; simpa using hj) (fun u hu => by simp at hu; rcases hu with rfl | rfl <;> rfl) CM.out (by omega) sz.out ?_)
                          intro v7 w7 hown hgrow _
                          have B7 := (A5.out.alloc A5.out.size (.cells #[.int .i64 f, .int .i64 t] 37)).grown hgrow sz.out (own_ge O5.out)
                          replace B7 := Lib.hid B7
                          have O7 : Hid (w7.ownsRow w3.heap.size 37 2 v7 (M2 ++ [(f, t)]).length (pairs (M2 ++ [(f, t)]))) := by
                            show World.ownsRow _ _ _ _ _ _ _
                            rw [pairs_append, List.length_append, hL2]; exact hown
                          clear hown hgrow
                          go_wp2
                          go_roundw
                          case rel => exact ⟨j + 1, v7, _, rfl, by omega, by first | rfl | go_num, ST.out, O7, B7⟩
                          case measure => simp [intOf]; omega
                  · have kz : decide ((j : Int) < (A.length : Int)) = false := decide_eq_false (by omega)
                    obtain rfl : j = A.length := by omega
                    have ST := Lib.hid SJ.out.turn
                    clear P3 SJ
                    go_wp2
                    go_roundw
                    case rel => exact ⟨i - 1, _, M2, rfl, by omega, by omega, by first | rfl | go_num, ST, O2, A2⟩
                    case measure => simp [intOf]; omega
              · have ky := decide_eq_false y
                obtain rfl : i = -1 := by omega
                have LN := SM.out.len
                have ln : M.length ≤ 2000 := by rw [show n - 1 - -1 = n by omega, hNL] at LN; have := b2.out; omega
                have FO := SM.out.form n0 pv.out (by rw [hNP]; exact b1.out) (by rw [hNL]; exact b2.out)
                rw [hNP] at FO
                have PF : Hid (PairS 0 wr v' M) := by show PairS _ _ _ _; exact Sl.weak (Sl.owns OM.out) (Nat.zero_le _)
                have OF := upof v' NP M (le_mx (by omega)) ⟨by omega, by omega⟩ wr PF.out
                rw [FO] at OF
                replace OF := Lib.hid OF
                have EQ := Lib.hid (fun W b v (q : PairS ba W (.slice oa A.length ca) A) (q2 : PairS b W v A) => by have h := upequal _ v Pa Pa A A hA ⟨by omega, by omega⟩ ⟨by omega, by omega⟩ W q q2; rw [pv_iff.2 pv.out, decide_eq_true rfl, beq_self_eq_true] at h; exact h)
                have A3 := Lib.hid (down AF_3.out AM.out)
                have P3 := Lib.hid (Sa_3.out.keep AM.out)
                clear LN FO SM OM AM
                go_wp2_with fail
                refine OF.out.mono ?_
                rintro e w8 ⟨⟨v4, rfl, P4⟩, hb⟩
                obtain ⟨o4, c4, rfl⟩ := Sl.shape P4
                clear r0 r1 r2
                have gb := grow (here w8) (.cells #[.int .i64 Pa, .slice o4 A.length c4] 24)
                have A9 := Lib.hid (down (down A3.out hb) gb)
                have P9 := Lib.hid ((P3.out.keep hb).keep gb)
                have Q9 := Lib.hid (P4.keep gb)
                have T9 := Lib.hid ((T2.out.keep hb).keep gb)
                have U9 := Lib.hid (Two.new (t := 24) (x := .int .i64 Pa) (y := .slice o4 A.length c4) (here (w8.alloc (.cells #[.int .i64 Pa, .slice o4 A.length c4] 24))))
                clear hb gb A3 P3 T2 P4 OF
                obtain ⟨r0, r1, r2⟩ := T9.out
                obtain ⟨s0, s1, s2⟩ := U9.out
                go_wp2_with fail
                generalize (w8.alloc (.cells #[.int .i64 Pa, .slice o4 A.length c4] 24)) = w9 at *
                refine (EQ.out _ _ _ P9.out Q9.out).mono ?_
                rintro e w10 ⟨rfl, hb⟩
                have A10 := Lib.hid (down A9.out hb)
                clear hb r0 r1 r2 s0 s1 s2
                go_wp2
                go_ret
                exact ⟨rfl, A10.out⟩
  · rw [ga] at LOa
    clear ga hA hPa hzl bz Z0 ZZ
    go_enter Try.func7, Try.ntmps7
    obtain ⟨Tar0, Tar1, Tar2⟩ := Ta_0.out
    go_wp2_with fail
    clear Tar0 Tar1 Tar2
    generalize (w.alloc (.cells #[.int .i64 Pa, .slice oa A.length ca] 24)) = w0 at *
    refine (AW.out _).mono ?_
    rintro e w1 ⟨rfl, hb⟩
    have AF_1 := Lib.hid (down AF_0.out hb)
    have Ta_1 := Lib.hid (Ta_0.out.keep hb)
    have Sa_1 := Lib.hid (Sa_0.out.keep hb)
    clear hb AF_0 Ta_0 Sa_0
    obtain ⟨Tar0, Tar1, Tar2⟩ := Ta_1.out
    go_wp2_with fail
    clear Tar0 Tar1 Tar2
    refine (LOa.out _).mono ?_
    rintro e w2 ⟨rfl, hb⟩
    have AF_2 := Lib.hid (down AF_1.out hb)
    have Ta_2 := Lib.hid (Ta_1.out.keep hb)
    have Sa_2 := Lib.hid (Sa_1.out.keep hb)
    clear hb AF_1 Ta_1 Sa_1
    obtain ⟨Tar0, Tar1, Tar2⟩ := Ta_2.out
    go_wp2_with fail
    clear Tar0 Tar1 Tar2
    refine (AW.out _).mono ?_
    rintro e w3 ⟨rfl, hb⟩
    have AF_3 := Lib.hid (down AF_2.out hb)
    have Ta_3 := Lib.hid (Ta_2.out.keep hb)
    have Sa_3 := Lib.hid (Sa_2.out.keep hb)
    clear hb AF_2 Ta_2 Sa_2
    obtain ⟨Tar0, Tar1, Tar2⟩ := Ta_3.out
    go_wp2
    go_ret
    exact ⟨rfl, AF_3.out⟩
end Go.Proofs.Ytaikeclfmmnelaa
