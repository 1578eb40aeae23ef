/- Contracts of civiltimeref07: Order, First. -/
import Derived.Test.YtpkkhkkanpcniaaHeS
import Derived.Test.YtpkkhkkanpcniaaLSl
namespace Go.Proofs.Ytpkkhkkanpcniaa
open Go.RowKit
set_option linter.unusedVariables false

theorem Free.under7 {w w' : World} {B b : Nat} (h : Free w b) (hb : Below B w w') (l : b < B) : Free w' b :=
  ⟨by rw [hb.frozen (p := ⟨b, 0, none⟩) l]; exact h.f0, by rw [hb.frozen (p := ⟨b, 1, none⟩) l]; exact h.f1, by rw [hb.frozen (p := ⟨b, 2, none⟩) l]; exact h.f2⟩
theorem own_ge {w : World} {base : Nat} {e : TypeId} {size : Nat} {v : Value} {n : Nat} {xs : List Value} (h : w.ownsRow base e size v n xs) : ∀ k, v.ownBlock = some k → base ≤ k := fun k hk => (h.lt k hk).1
theorem infoInt7 : (Try.prog.info? 3).map (fun i => (i.zero, i.size, i.bytes)) = some (some (.int .i64 0), 1, 8) := by kernel_rfl
/-- The months in the order of a number that need be no year: of 20001 only six. -/
def hordX (n : Nat) : List Int := (List.range (n + 1 - 7)).map (fun i : Nat => 7 + (i : Int)) ++ [1, 2, 3, 4, 5, 6]
theorem hordX_13 : hordX 13 = hord true := by decide
theorem hordX_12 : hordX 12 = hord false := by decide
theorem hordX_0 : hordX 0 = [1, 2, 3, 4, 5, 6] := by decide
def hord1 (i : Nat) : List Int := (List.range i).map fun i : Nat => 7 + (i : Int)
theorem hord1_succ (i : Nat) : hord1 (i + 1) = hord1 i ++ [7 + (i : Int)] := by unfold hord1; rw [List.range_succ, List.map_append]; rfl
theorem hord1_len (i : Nat) : (hord1 i).length = i := by unfold hord1; simp
def hord2 (n j : Nat) : List Int := hord1 n ++ (List.range j).map fun i : Nat => 1 + (i : Int)
theorem hord2_zero (n : Nat) : hord2 n 0 = hord1 n := by unfold hord2; simp
theorem hord2_succ (n j : Nat) : hord2 n (j + 1) = hord2 n j ++ [1 + (j : Int)] := by unfold hord2; rw [List.range_succ, List.map_append]; simp
theorem hord2_len (n j : Nat) : (hord2 n j).length = n + j := by unfold hord2; simp [hord1_len]
theorem hord2_six (n : Nat) : hord2 (n + 1 - 7) 6 = hordX n := by
  unfold hord2 hordX hord1
  congr 1
set_option maxHeartbeats 2000000 in
set_option maxRecDepth 100000 in
theorem rhordX (y : Int) (N : Nat) (hN : hmn y = N) (hy : I64 y) (w : World) :
    Calls Try.prog 60 #[.int .i64 y] w fun e w' => (∃ v, e = .returned v ∧ IntS w.heap.size w' v (hordX N)) ∧ Below w.heap.size w w' := by
  have HM := fun w => rhmn y hy w
  have nb := hmn_bd y
  rw [hN] at HM nb
  replace HM := Lib.hid HM
  have N13 : N ≤ 13 := by omega
  obtain ⟨i0, hi, hz0, hz1, hz2⟩ := info_parts infoInt7
  have E1 : Hid (∀ i : Nat, hord1 (i + 1) = hord1 i ++ [7 + (i : Int)]) := hord1_succ
  have E2 : Hid (∀ j : Nat, hord2 (N + 1 - 7) (j + 1) = hord2 (N + 1 - 7) j ++ [1 + (j : Int)]) := hord2_succ _
  have E0 : Hid (hord2 (N + 1 - 7) 0 = hord1 (N + 1 - 7)) := hord2_zero _
  have E6 : Hid (hord2 (N + 1 - 7) 6 = hordX N) := hord2_six N
  have L1 : Hid (∀ i : Nat, (hord1 i).length = i) := hord1_len
  have L2 : Hid (∀ j : Nat, (hord2 (N + 1 - 7) j).length = N + 1 - 7 + j) := hord2_len _
  have Z0 : Hid (hord1 0 = []) := rfl
  obtain ⟨y0, y1⟩ := hy
  clear nb hN
  generalize hordX N = R at *
  generalize hord2 (N + 1 - 7) = G at *
  generalize hord1 = F at *
  go_enter Try.func60, Try.ntmps60
  go_wp2
  go_loopw [3, 4] (fun a b wr => ∃ (i : Nat) (v : Value), i ≤ N + 1 - 7 ∧ v = a ∧ b = .int .i64 (7 + (i : Int)) ∧ Hid (Below w.heap.size w wr) ∧ Hid (wr.ownsRow w.heap.size 3 1 v (F i).length (ints (F i)))) (fun _ b _ => (100 - intOf b).toNat)
  case atStart => exact ⟨0, .slice none 0 0, by omega, rfl, rfl, here _, by show World.ownsRow _ _ _ _ _ _ _; rw [Z0.out]; exact World.ownsRow_nil _ _ _ _⟩
  case round =>
    obtain ⟨i, v, hi1, rfl, rfl, HA, HO⟩ := hrel
    by_cases z : i < N + 1 - 7
    · have kz : decide (7 + (i : Int) ≤ (N : Int)) = true := decide_eq_true (by omega)
      have i13 : i ≤ 13 := by omega
      have lx : Hid ((F i).length = i) := L1.out i
      have hs : Hid (F (i + 1) = F i ++ [7 + (i : Int)]) := E1.out i
      go_wp2_with fail
      refine (HM.out _).mono ?_
      rintro e w3 ⟨rfl, rfl⟩
      have S3 : Hid (w.heap.size ≤ wr.heap.size) := HA.out.size
      go_wp2_with (at_builtin; refine wpList_append_own _ rfl _ _ 53 rfl w.heap.size 3 i0 (.int .i64 0) 1 8 Try.underlying53 hi hz0 hz1 hz2 rfl (by decide) v (F i).length (ints (F i)) rfl (HO.out.alloc _) ⟨wr.heap.size, 0, none⟩ 1 1 [.int .i64 (7 + (i : Int))] rfl rfl ?c1_0 ?c2_0 ?c3_0 ?c4_0 ?c5_0 ?_)
      case c1_0 =>
        intro j u hj
        rw [Addr.add_lit, Nat.zero_add, World.cell?_alloc_new]
        simpa using hj
      case c2_0 => intro u hu; simp at hu; subst hu; rfl
      case c3_0 => have := lx.out; unfold maxLen; omega
      case c4_0 => have := lx.out; omega
      case c5_0 => have := S3.out; simp; omega
      intro v' w4 hown hgrow _
      have G4 : Below w.heap.size wr w4 := ((Below.refl _ _).alloc S3.out _).grown hgrow (by have := S3.out; simp; omega) (own_ge HO.out)
      have A4 := Lib.hid (HA.out.trans G4)
      rcases hown.2 with ⟨-, hzz⟩ | ⟨gg, cap, cur, rfl, -⟩
      · exact absurd hzz (by omega)
      have O4 : Hid (w4.ownsRow w.heap.size 3 1 (.slice (some ⟨gg, 0, none⟩) ((F i).length + 1) cap) (F (i + 1)).length (ints (F (i + 1)))) := by
        show World.ownsRow _ _ _ _ _ _ _
        rw [hs.out]
        simpa [ints] using hown
      clear hown hgrow G4 HA HO S3
      go_wp2
      go_roundw
      case rel => exact ⟨i + 1, _, by omega, rfl, by go_num, A4, O4⟩
      case measure => simp [intOf]; omega
    · obtain rfl : i = N + 1 - 7 := by omega
      have kz : decide (7 + ((N + 1 - 7 : Nat) : Int) ≤ (N : Int)) = false := decide_eq_false (by omega)
      have O1 : Hid (wr.ownsRow w.heap.size 3 1 v (G 0).length (ints (G 0))) := by
        show World.ownsRow _ _ _ _ _ _ _
        rw [E0.out]; exact HO.out
      have i13 : N + 1 - 7 ≤ 13 := by omega
      clear HO E0
      generalize N + 1 - 7 = K at *
      go_wp2_with fail
      refine (HM.out _).mono ?_
      rintro e w3 ⟨rfl, rfl⟩
      go_wp2
      go_loopw [3, 5] (fun a b wr => ∃ (j : Nat) (u : Value), j ≤ 6 ∧ u = a ∧ b = .int .i64 (1 + (j : Int)) ∧ Hid (Below w.heap.size w wr) ∧ Hid (wr.ownsRow w.heap.size 3 1 u (G j).length (ints (G j)))) (fun _ b _ => (100 - intOf b).toNat)
      case atStart => exact ⟨0, v, by omega, rfl, rfl, HA, O1⟩
      case round =>
        obtain ⟨j, u, hj1, rfl, rfl, HB, HP⟩ := hrel
        by_cases z6 : j < 6
        · have kz6 : decide (1 + (j : Int) ≤ (6 : Int)) = true := decide_eq_true (by omega)
          have lx : Hid ((G j).length = K + j) := L2.out j
          have hs : Hid (G (j + 1) = G j ++ [1 + (j : Int)]) := E2.out j
          have S3 : Hid (w.heap.size ≤ wr.heap.size) := HB.out.size
          clear HM HA O1
          go_wp2_with (at_builtin; refine wpList_append_own _ rfl _ _ 53 rfl w.heap.size 3 i0 (.int .i64 0) 1 8 Try.underlying53 hi hz0 hz1 hz2 rfl (by decide) u (G j).length (ints (G j)) rfl (HP.out.alloc _) ⟨wr.heap.size, 0, none⟩ 1 1 [.int .i64 (1 + (j : Int))] rfl rfl ?d1_0 ?d2_0 ?d3_0 ?d4_0 ?d5_0 ?_)
          case d1_0 =>
            intro j u hj
            rw [Addr.add_lit, Nat.zero_add, World.cell?_alloc_new]
            simpa using hj
          case d2_0 => intro u hu; simp at hu; subst hu; rfl
          case d3_0 => have := lx.out; unfold maxLen; omega
          case d4_0 => have := lx.out; omega
          case d5_0 => have := S3.out; simp; omega
          intro v' w4 hown hgrow _
          have G4 : Below w.heap.size wr w4 := ((Below.refl _ _).alloc S3.out _).grown hgrow (by have := S3.out; simp; omega) (own_ge HP.out)
          have A4 := Lib.hid (HB.out.trans G4)
          rcases hown.2 with ⟨-, hzz⟩ | ⟨gg, cap, cur, rfl, -⟩
          · exact absurd hzz (by omega)
          have O4 : Hid (w4.ownsRow w.heap.size 3 1 (.slice (some ⟨gg, 0, none⟩) ((G j).length + 1) cap) (G (j + 1)).length (ints (G (j + 1)))) := by
            show World.ownsRow _ _ _ _ _ _ _
            rw [hs.out]
            simpa [ints] using hown
          clear hown hgrow G4 HB HP S3
          go_wp2
          go_roundw
          case rel => exact ⟨j + 1, _, by omega, rfl, by go_num, A4, O4⟩
          case measure => simp [intOf]; omega
        · obtain rfl : j = 6 := by omega
          have O6 : Hid (IntS w.heap.size wr u R) := by
            show IntS _ _ _ _
            rw [← E6.out]; exact Sl.owns HP.out
          clear HP O1 HA
          go_wp2
          go_ret
          exact ⟨⟨_, rfl, O6.out⟩, HB.out⟩
end Go.Proofs.Ytpkkhkkanpcniaa
