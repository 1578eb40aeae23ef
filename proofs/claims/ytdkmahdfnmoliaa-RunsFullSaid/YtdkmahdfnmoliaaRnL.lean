/- Lists of spans: what the laws say of the operations together. No program is mentioned. -/
import Derived.Test.YtdkmahdfnmoliaaRnP
import Derived.Test.YtdkmahdfnmoliaaRnF
namespace Go.Proofs.Ytdkmahdfnmoliaa
open Go.RowKit
set_option linter.unusedVariables false

theorem full_len (l : List Sp) : (ruFull l).1.length ≤ 2000 := by
  unfold ruFull
  split
  · exact Nat.zero_le _
  · show l.length ≤ _; omega
theorem ap_len (k : Int) (A B : List Sp) : (ruAp k A B).1.length ≤ 2000 := by
  unfold ruAp
  split
  · exact full_len _
  · exact Nat.zero_le _
theorem not_len (A : List Sp) (p : Sp) : (ruNot A p).1.length ≤ 2000 := by rw [← not_ap]; exact ap_len _ _ _
theorem of_len (A : List Sp) : (ruOf A).1.length ≤ 2000 := by
  unfold ruOf
  split
  · exact full_len _
  · exact Nat.zero_le _
theorem full_err (l : List Sp) : 0 ≤ (ruFull l).2 ∧ (ruFull l).2 ≤ 5 := by unfold ruFull; split <;> simp
theorem ap_err (k : Int) (A B : List Sp) : 0 ≤ (ruAp k A B).2 ∧ (ruAp k A B).2 ≤ 5 := by
  unfold ruAp
  split
  · exact full_err _
  · simp
theorem not_err (A : List Sp) (p : Sp) : 0 ≤ (ruNot A p).2 ∧ (ruNot A p).2 ≤ 5 := by rw [← not_ap]; exact ap_err _ _ _
theorem ap_fate (k : Int) {A B : List Sp} (hA : A.length ≤ 80) (hB : B.length ≤ 80) : (ruAp k A B).2 = if vaB A && vaB B then 0 else 1 := by
  cases v : vaB A && vaB B
  · rw [ap_arg v]; rfl
  · obtain ⟨a, b⟩ := Bool.and_eq_true_iff.1 v
    rw [ap_small a b (by omega)]; rfl
/-- Points of an operation's result. -/
theorem pt_ap (k : Int) {A B : List Sp} (hA : A.length ≤ 80) (hB : B.length ≤ 80) (x : Int) : ((ruAp k A B).2 != 0 || ((vaB (ruAp k A B).1 && inB (ruAp k A B).1 x) == kpB k (vaB A && inB A x) (vaB B && inB B x))) = true := by
  by_cases h : (ruAp k A B).2 = 0
  · obtain ⟨a, b, c, d⟩ := ap_ok h
    rw [a, b, c, d x]; simp
  · have : ((ruAp k A B).2 != 0) = true := by rw [bne_iff_ne]; exact h
    rw [this]; rfl
theorem pt_not {A : List Sp} (p : Sp) (x : Int) : ((ruNot A p).2 != 0 || ((vaB (ruNot A p).1 && inB (ruNot A p).1 x) == ((decide (p.1 ≤ x) && decide (x < p.2)) && !(vaB A && inB A x)))) = true := by
  by_cases h : (ruNot A p).2 = 0
  · obtain ⟨a, b, c, d⟩ := not_ok h
    rw [a, c, d x]; simp
  · have : ((ruNot A p).2 != 0) = true := by rw [bne_iff_ne]; exact h
    rw [this]; rfl
theorem va_cn {A : List Sp} (h : vaB A = true) : Cn A := (vaB_iff.1 h).2.2
theorem va_ln {A : List Sp} (h : vaB A = true) : Ln A := (vaB_iff.1 h).2.1
/-- The laws of a Boolean algebra. -/
theorem al_com (k : Int) (hk : k = 1 ∨ k = 2) {A B : List Sp} (h : (ruAp k A B).2 = 0) (g : (ruAp k B A).2 = 0) : (ruAp k A B).1 = (ruAp k B A).1 := by
  obtain ⟨a, b, c, d⟩ := ap_ok h
  obtain ⟨-, -, c', d'⟩ := ap_ok g
  refine cn_ext (va_cn c) (va_cn c') fun x => ?_
  rw [d, d']
  rcases hk with rfl | rfl <;> cases inB A x <;> cases inB B x <;> rfl
theorem al_dis {A B C D E F G H : List Sp} {e f g h i : Int} (h1 : ruAp 1 B C = (D, e)) (e1 : e = 0) (h2 : ruAp 2 A D = (E, f)) (e2 : f = 0) (h3 : ruAp 2 A B = (F, g)) (e3 : g = 0) (h4 : ruAp 2 A C = (G, h)) (e4 : h = 0) (h5 : ruAp 1 F G = (H, i)) (e5 : i = 0) : E = H := by
  obtain ⟨-, -, c1, d1⟩ := ap_ok (k := 1) (A := B) (B := C) (by rw [h1]; exact e1)
  obtain ⟨-, -, c2, d2⟩ := ap_ok (k := 2) (A := A) (B := D) (by rw [h2]; exact e2)
  obtain ⟨-, -, c3, d3⟩ := ap_ok (k := 2) (A := A) (B := B) (by rw [h3]; exact e3)
  obtain ⟨-, -, c4, d4⟩ := ap_ok (k := 2) (A := A) (B := C) (by rw [h4]; exact e4)
  obtain ⟨-, -, c5, d5⟩ := ap_ok (k := 1) (A := F) (B := G) (by rw [h5]; exact e5)
  rw [h1] at c1 d1; rw [h2] at c2 d2; rw [h3] at c3 d3; rw [h4] at c4 d4; rw [h5] at c5 d5
  refine cn_ext (va_cn c2) (va_cn c5) fun x => ?_
  simp only at d1 d2 d3 d4 d5
  rw [d2, d1, d5, d3, d4]
  cases inB A x <;> cases inB B x <;> cases inB C x <;> rfl
theorem al_ass (k : Int) (hk : k = 1 ∨ k = 2) {A B C D E F G : List Sp} {e f g h : Int} (h1 : ruAp k A B = (D, e)) (e1 : e = 0) (h2 : ruAp k D C = (E, f)) (e2 : f = 0) (h3 : ruAp k B C = (F, g)) (e3 : g = 0) (h4 : ruAp k A F = (G, h)) (e4 : h = 0) : E = G := by
  obtain ⟨-, -, c1, d1⟩ := ap_ok (k := k) (A := A) (B := B) (by rw [h1]; exact e1)
  obtain ⟨-, -, c2, d2⟩ := ap_ok (k := k) (A := D) (B := C) (by rw [h2]; exact e2)
  obtain ⟨-, -, c3, d3⟩ := ap_ok (k := k) (A := B) (B := C) (by rw [h3]; exact e3)
  obtain ⟨-, -, c4, d4⟩ := ap_ok (k := k) (A := A) (B := F) (by rw [h4]; exact e4)
  rw [h1] at c1 d1; rw [h2] at c2 d2; rw [h3] at c3 d3; rw [h4] at c4 d4
  refine cn_ext (va_cn c2) (va_cn c4) fun x => ?_
  simp only at d1 d2 d3 d4
  rw [d2, d1, d4, d3]
  rcases hk with rfl | rfl <;> cases inB A x <;> cases inB B x <;> cases inB C x <;> rfl
theorem al_eit {A B D E F G : List Sp} {e f g h : Int} (h1 : ruAp 4 A B = (D, e)) (e1 : e = 0) (h2 : ruAp 3 A B = (E, f)) (e2 : f = 0) (h3 : ruAp 3 B A = (F, g)) (e3 : g = 0) (h4 : ruAp 1 E F = (G, h)) (e4 : h = 0) : D = G := by
  obtain ⟨-, -, c1, d1⟩ := ap_ok (k := 4) (A := A) (B := B) (by rw [h1]; exact e1)
  obtain ⟨-, -, c2, d2⟩ := ap_ok (k := 3) (A := A) (B := B) (by rw [h2]; exact e2)
  obtain ⟨-, -, c3, d3⟩ := ap_ok (k := 3) (A := B) (B := A) (by rw [h3]; exact e3)
  obtain ⟨-, -, c4, d4⟩ := ap_ok (k := 1) (A := E) (B := F) (by rw [h4]; exact e4)
  rw [h1] at c1 d1; rw [h2] at c2 d2; rw [h3] at c3 d3; rw [h4] at c4 d4
  refine cn_ext (va_cn c1) (va_cn c4) fun x => ?_
  simp only at d1 d2 d3 d4
  rw [d1, d4, d2, d3]
  cases inB A x <;> cases inB B x <;> rfl
theorem al_mor {A B U O M N I : List Sp} {p : Sp} {e f g h i : Int} (h1 : ruAp 1 A B = (U, e)) (e1 : e = 0) (h2 : ruNot U p = (O, f)) (e2 : f = 0) (h3 : ruNot A p = (M, g)) (e3 : g = 0) (h4 : ruNot B p = (N, h)) (e4 : h = 0) (h5 : ruAp 2 M N = (I, i)) (e5 : i = 0) : O = I := by
  obtain ⟨-, -, c1, d1⟩ := ap_ok (k := 1) (A := A) (B := B) (by rw [h1]; exact e1)
  obtain ⟨-, -, c2, d2⟩ := not_ok (A := U) (p := p) (by rw [h2]; exact e2)
  obtain ⟨-, -, c3, d3⟩ := not_ok (A := A) (p := p) (by rw [h3]; exact e3)
  obtain ⟨-, -, c4, d4⟩ := not_ok (A := B) (p := p) (by rw [h4]; exact e4)
  obtain ⟨-, -, c5, d5⟩ := ap_ok (k := 2) (A := M) (B := N) (by rw [h5]; exact e5)
  rw [h1] at c1 d1; rw [h2] at c2 d2; rw [h3] at c3 d3; rw [h4] at c4 d4; rw [h5] at c5 d5
  refine cn_ext (va_cn c2) (va_cn c5) fun x => ?_
  simp only at d1 d2 d3 d4 d5
  rw [d2, d1, d5, d3, d4]
  cases inB A x <;> cases inB B x <;> cases decide (p.1 ≤ x) <;> cases decide (x < p.2) <;> rfl
theorem al_dbl {A I N B : List Sp} {p : Sp} {e f g : Int} (h1 : ruAp 2 A [p] = (I, e)) (e1 : e = 0) (h2 : ruNot I p = (N, f)) (e2 : f = 0) (h3 : ruNot N p = (B, g)) (e3 : g = 0) : B = I := by
  obtain ⟨-, -, c1, d1⟩ := ap_ok (k := 2) (A := A) (B := [p]) (by rw [h1]; exact e1)
  obtain ⟨-, -, c2, d2⟩ := not_ok (A := I) (p := p) (by rw [h2]; exact e2)
  obtain ⟨-, -, c3, d3⟩ := not_ok (A := N) (p := p) (by rw [h3]; exact e3)
  rw [h1] at c1 d1; rw [h2] at c2 d2; rw [h3] at c3 d3
  refine cn_ext (va_cn c3) (va_cn c1) fun x => ?_
  simp only at d1 d2 d3
  rw [d3, d2, d1, inB_one]
  cases inB A x <;> cases decide (p.1 ≤ x) <;> cases decide (x < p.2) <;> rfl
/-- Inclusion and exclusion. -/
theorem ms_all {A B : List Sp} (h1 : (ruAp 1 A B).2 = 0) (h2 : (ruAp 2 A B).2 = 0) (h3 : (ruAp 3 A B).2 = 0) (x : Int) :
    msL (ruAp 1 A B).1 + msL (ruAp 2 A B).1 = msL A + msL B ∧ msL (ruAp 3 A B).1 + msL (ruAp 2 A B).1 = msL A ∧
    rkL (ruAp 1 A B).1 x + rkL (ruAp 2 A B).1 x = rkL A x + rkL B x ∧ rkL (ruAp 3 A B).1 x + rkL (ruAp 2 A B).1 x = rkL A x := by
  obtain ⟨a, b, c1, d1⟩ := ap_ok h1
  obtain ⟨-, -, c2, d2⟩ := ap_ok h2
  obtain ⟨-, -, c3, d3⟩ := ap_ok h3
  have n0 : Cn ([] : List Sp) := trivial
  have n1 : Ln ([] : List Sp) := fun p hp => by cases hp
  have s1 : ∀ x, (if inB (ruAp 1 A B).1 x then 1 else 0) + (if inB (ruAp 2 A B).1 x then 1 else 0) = ((if inB A x then 1 else 0) + (if inB B x then 1 else 0) : Int) := fun x => by
    rw [d1, d2]; cases inB A x <;> cases inB B x <;> rfl
  have s2 : ∀ x, (if inB (ruAp 3 A B).1 x then 1 else 0) + (if inB (ruAp 2 A B).1 x then 1 else 0) = ((if inB A x then 1 else 0) + (if inB [] x then 1 else 0) : Int) := fun x => by
    rw [d3, d2, inB_nil]; cases inB A x <;> cases inB B x <;> rfl
  have m2 := ms_same (va_cn c3) (va_cn c2) (va_cn a) n0 (va_ln c3) (va_ln c2) (va_ln a) n1 s2
  have r2 := rk_same (va_cn c3) (va_cn c2) (va_cn a) n0 (va_ln c3) (va_ln c2) (va_ln a) n1 s2 x
  refine ⟨ms_same (va_cn c1) (va_cn c2) (va_cn a) (va_cn b) (va_ln c1) (va_ln c2) (va_ln a) (va_ln b) s1, ?_, rk_same (va_cn c1) (va_cn c2) (va_cn a) (va_cn b) (va_ln c1) (va_ln c2) (va_ln a) (va_ln b) s1 x, ?_⟩
  · have : msL [] = 0 := rfl
    omega
  · have : rkL [] x = 0 := rfl
    omega
/-- A union that is moved is the union of what is moved. -/
theorem mo_union {A B : List Sp} {n : Int} (hA : A.length ≤ 80) (hB : B.length ≤ 80) (h1 : (moV A n).2 = 0) (h2 : (moV B n).2 = 0) (h3 : (ruAp 1 A B).2 = 0) :
    (moV (ruAp 1 A B).1 n).2 = 0 ∧ (ruAp 1 (moV A n).1 (moV B n).1).2 = 0 ∧ (moV (ruAp 1 A B).1 n).1 = (ruAp 1 (moV A n).1 (moV B n).1).1 ∧ vaB (moV (ruAp 1 A B).1 n).1 = true := by
  obtain ⟨a, n0, n1, sa, ea, va⟩ := mo_ok h1
  obtain ⟨b, -, -, sb, eb, vb⟩ := mo_ok h2
  obtain ⟨-, -, c, d⟩ := ap_ok h3
  have g : (ruAp 1 (shL A n) (shL B n)).2 = 0 := by rw [ap_small va vb (by rw [sh_len, sh_len]; omega)]
  obtain ⟨-, -, c', d'⟩ := ap_ok g
  have mem : ∀ y, inB (ruAp 1 A B).1 y = true → -4398046511104 ≤ y + n ∧ y + n < 4398046511104 := fun y hy => by
    rw [d y] at hy
    have hy' : inB A y = true ∨ inB B y = true := Bool.or_eq_true_iff.1 hy
    rcases hy' with q | q
    · rw [← sh_in A n y] at q
      obtain ⟨p, hp, p0, p1⟩ := inB_iff.1 q
      have := va_ln va p hp; omega
    · rw [← sh_in B n y] at q
      obtain ⟨p, hp, p0, p1⟩ := inB_iff.1 q
      have := va_ln vb p hp; omega
  have su : spsB (shL (ruAp 1 A B).1 n) = true := by
    refine sps_of.2 ⟨fun q hq => ?_, fun q hq => ?_⟩
    · obtain ⟨p, hp, rfl⟩ := List.mem_map.1 hq
      have lt := (va_cn c).lt p hp
      have q0 := mem p.1 (inB_iff.2 ⟨p, hp, Int.le_refl _, lt⟩)
      have q1 := mem (p.2 - 1) (inB_iff.2 ⟨p, hp, by omega, by omega⟩)
      exact ⟨by show _ ≤ p.1 + n; omega, by show p.2 + n ≤ _; omega⟩
    · obtain ⟨p, hp, rfl⟩ := List.mem_map.1 hq
      have lt := (va_cn c).lt p hp
      show p.1 + n < p.2 + n; omega
  have my := mo_yes c n0 n1 su
  have mv := (mo_ok (L := (ruAp 1 A B).1) (n := n) (by rw [my])).2.2.2.2.2
  rw [my, ea, eb]
  refine ⟨rfl, g, cn_ext (va_cn mv) (va_cn c') fun y => ?_, mv⟩
  have e := sh_in (ruAp 1 A B).1 n (y - n)
  have e1 := sh_in A n (y - n)
  have e2 := sh_in B n (y - n)
  rw [Int.sub_add_cancel] at e e1 e2
  show inB (shL _ n) y = _
  rw [e, d', d, e1, e2]
theorem mo_back {A : List Sp} {n : Int} (h : (moV A n).2 = 0) : moV (moV A n).1 (-n) = (A, 0) ∧ msL (moV A n).1 = msL A ∧ vaB A = true ∧ vaB (moV A n).1 = true ∧ (∀ x, inB (moV A n).1 (x + n) = inB A x) ∧ -8796093022208 ≤ n ∧ n ≤ 8796093022208 := by
  obtain ⟨a, n0, n1, sa, ea, va⟩ := mo_ok h
  rw [ea]
  refine ⟨?_, sh_ms A n, a, va, fun x => sh_in A n x, n0, n1⟩
  show moV (shL A n) (-n) = _
  rw [mo_yes va (by omega) (by omega) (by rw [sh_back]; exact va_sps a), sh_back]
theorem mo_err (A : List Sp) (n : Int) : 0 ≤ (moV A n).2 ∧ (moV A n).2 ≤ 2 := by
  unfold moV
  split
  · split
    · simp
    · split <;> simp
  · simp
theorem mo_len (A : List Sp) (n : Int) : (moV A n).1.length ≤ A.length := by
  unfold moV
  split
  · split
    · exact Nat.zero_le _
    · split
      · rw [sh_len]; exact Nat.le_refl _
      · exact Nat.zero_le _
  · exact Nat.zero_le _
end Go.Proofs.Ytdkmahdfnmoliaa
