/- Law 12: RunsAlgebra. -/
import Derived.Test.YtdkmahdfnmoliaaRnK
import Derived.Test.YtdkmahdfnmoliaaRnL
import Derived.BigQuiet
import Derived.Deep.QuietTactic
namespace Go.Proofs.Ytdkmahdfnmoliaa
open Go.RowKit
set_option linter.unusedVariables false
set_option linter.unusedSimpArgs false

/-- What a closure that writes one box leaves. -/
structure Bx (g : Nat) (W w' : World) : Prop where
  below : Below g W w'
  cell : ∀ p : Addr, p.block < W.heap.size → p.block ≠ g → w'.cell? p = W.cell? p
theorem Bx.prs {g : Nat} {W w' : World} (h : Bx g W w') {v : Value} {L : List Sp} (p : PairS (g + 1) W v L) : PairS (g + 1) w' v L := by
  rcases p with q | ⟨b, off, c, e, hb, l⟩
  · exact .inl q
  · refine .inr ⟨b, off, c, e, hb, ⟨by have := h.below.size; have := l.lt; omega, fun j u hu => ?_⟩⟩
    rw [h.cell ⟨b, off + j, none⟩ l.lt (by show b ≠ g; omega)]
    exact l.cell j u hu
/-- The law's state: what was there; the box of ok; the span's box. -/
structure St (w : World) (g gx : Nat) (x y : Int) (t : Bool) (W : World) : Prop where
  below : Below w.heap.size w W
  ok : One W g (.bool t)
  fz : W.frozen? ⟨g, 0, none⟩ = false
  bx : Two W gx (.int .i64 x) (.int .i64 y)
theorem St.set {w W w1 : World} {g gx : Nat} {x y : Int} {t u : Bool} (S : St w g gx x y t W) (h1 : w.heap.size ≤ g) (h2 : gx < g) (hb : Below W.heap.size W w1) : St w g gx x y u (w1.setCell ⟨g, 0, none⟩ (.bool u)) ∧ Bx g W (w1.setCell ⟨g, 0, none⟩ (.bool u)) := by
  have ok1 := S.ok.keep hb
  have B1 : Below g W (w1.setCell ⟨g, 0, none⟩ (.bool u)) := (hb.mono (Nat.le_of_lt S.ok.lt)).setCell (p := ⟨g, 0, none⟩) (Nat.le_refl _) _
  refine ⟨⟨S.below.trans (B1.mono h1), ⟨World.cell?_setCell_same w1 _ _ ok1.c, by rw [size_set]; exact ok1.lt⟩, ?_, S.bx.under B1 h2⟩, B1, fun p hp hne => ?_⟩
  · rw [World.frozen?_setCell, hb.frozen (p := ⟨g, 0, none⟩) S.ok.lt]; exact S.fz
  · rw [World.cell?_setCell_other (h := fun e => hne (by rw [← congrArg Addr.block e]))]
    exact hb.cell hp
theorem St.alloc {w W : World} {g gx : Nat} {x y : Int} {t : Bool} (S : St w g gx x y t W) (o : Obj) : St w g gx x y t (W.alloc o) :=
  ⟨grow S.below o, S.ok.old o, by rw [(grow (here W) o).frozen (p := ⟨g, 0, none⟩) S.ok.lt]; exact S.fz, S.bx.old o⟩
set_option maxRecDepth 100000 in
set_option maxHeartbeats 2000000 in
theorem rldo (k : Int) (f : FuncId) (R : List Sp × Int) (vx vy : Value) (w : World) (g gx : Nat) (x y : Int) (t : Bool) (W : World) (S : St w g gx x y t W) (h1 : w.heap.size ≤ g) (h2 : gx < g)
    (hop : Calls Try.prog f #[vx, vy] W fun e w' => (∃ v', e = .returned (.tuple #[v', .int .i64 R.2]) ∧ PairS W.heap.size w' v' R.1 ∧ CapS v') ∧ Below W.heap.size W w') (eg : ∀ args w, (callFunc f args).run Try.prog w = .ok (.enter f args) w) (he : 0 ≤ R.2 ∧ R.2 ≤ 5) :
    Calls Try.prog 40 #[.func (.func f) #[] #[], vx, vy, .pointer (some ⟨g, 0, none⟩)] W fun e w' => ∃ v', e = .returned v' ∧ PairS (g + 1) w' v' R.1 ∧ St w g gx x y (t && (R.2 == 0)) w' ∧ Bx g W w' := by
  obtain ⟨L, r⟩ := R
  obtain ⟨r0, r1⟩ := he
  replace hop := Lib.hid hop
  replace S := Lib.hid S
  obtain ⟨u, hu⟩ : ∃ u, (r == 0) = u := ⟨_, rfl⟩
  show Calls _ _ _ _ fun e w' => ∃ v', e = .returned v' ∧ PairS (g + 1) w' v' L ∧ St w g gx x y (t && (r == 0)) w' ∧ Bx g W w'
  rw [hu]
  cases t
  · have S1 := Lib.hid (fun w1 (hb : Below W.heap.size W w1) => S.out.set (u := false) h1 h2 hb)
    have OK := Lib.hid (fun w1 (hb : Below W.heap.size W w1) => S.out.ok.keep hb)
    have FZ : Hid (∀ w1, Below W.heap.size W w1 → w1.frozen? ⟨g, 0, none⟩ = false) := fun w1 hb => by rw [hb.frozen (p := ⟨g, 0, none⟩) S.out.ok.lt]; exact S.out.fz
    have gl : Hid (g + 1 ≤ W.heap.size) := S.out.ok.lt
    go_enter Try.func40, Try.ntmps40
    go_wp2_with (go_at_fn f; refine hop.out.mono ?_; rintro e w1 ⟨⟨v, rfl, P1, -⟩, hb⟩; have S2 := Lib.hid (S1.out w1 hb); have P2 := Lib.hid (Sl.far (Sl.weak P1 gl.out) (Nat.lt_succ_self g) (o := 0) (.bool false)); have fz1 := FZ.out w1 hb; obtain ⟨okc, okl⟩ := OK.out w1 hb; clear P1 hb)
    go_ret
    exact ⟨_, rfl, P2.out, by first | exact S2.out.1 | (rw [Bool.true_and]; exact S2.out.1) | (rw [Bool.false_and]; exact S2.out.1), S2.out.2⟩
  · have S1 := Lib.hid (fun w1 (hb : Below W.heap.size W w1) => S.out.set (u := u) h1 h2 hb)
    have OK := Lib.hid (fun w1 (hb : Below W.heap.size W w1) => S.out.ok.keep hb)
    have FZ : Hid (∀ w1, Below W.heap.size W w1 → w1.frozen? ⟨g, 0, none⟩ = false) := fun w1 hb => by rw [hb.frozen (p := ⟨g, 0, none⟩) S.out.ok.lt]; exact S.out.fz
    have gl : Hid (g + 1 ≤ W.heap.size) := S.out.ok.lt
    go_enter Try.func40, Try.ntmps40
    go_wp2_with (go_at_fn f; refine hop.out.mono ?_; rintro e w1 ⟨⟨v, rfl, P1, -⟩, hb⟩; have S2 := Lib.hid (S1.out w1 hb); have P2 := Lib.hid (Sl.far (Sl.weak P1 gl.out) (Nat.lt_succ_self g) (o := 0) (.bool u)); have fz1 := FZ.out w1 hb; obtain ⟨okc, okl⟩ := OK.out w1 hb; clear P1 hb)
    go_ret
    exact ⟨_, rfl, P2.out, by first | exact S2.out.1 | (rw [Bool.true_and]; exact S2.out.1) | (rw [Bool.false_and]; exact S2.out.1), S2.out.2⟩
set_option maxRecDepth 100000 in
set_option maxHeartbeats 2000000 in
theorem rlnot (R : List Sp × Int) (vx : Value) (w : World) (g gx : Nat) (x y : Int) (t : Bool) (W : World) (S : St w g gx x y t W) (h1 : w.heap.size ≤ g) (h2 : gx < g)
    (hop : Calls Try.prog 27 #[vx, .agg #[.int .i64 x, .int .i64 y]] W fun e w' => (∃ v', e = .returned (.tuple #[v', .int .i64 R.2]) ∧ PairS W.heap.size w' v' R.1 ∧ CapS v') ∧ Below W.heap.size W w') (he : 0 ≤ R.2 ∧ R.2 ≤ 5) :
    Calls Try.prog 41 #[vx, .pointer (some ⟨gx, 0, none⟩), .pointer (some ⟨g, 0, none⟩)] W fun e w' => ∃ v', e = .returned v' ∧ PairS (g + 1) w' v' R.1 ∧ St w g gx x y (t && (R.2 == 0)) w' ∧ Bx g W w' := by
  obtain ⟨L, r⟩ := R
  obtain ⟨r0, r1⟩ := he
  replace hop := Lib.hid hop
  replace S := Lib.hid S
  obtain ⟨u, hu⟩ : ∃ u, (r == 0) = u := ⟨_, rfl⟩
  show Calls _ _ _ _ fun e w' => ∃ v', e = .returned v' ∧ PairS (g + 1) w' v' L ∧ St w g gx x y (t && (r == 0)) w' ∧ Bx g W w'
  rw [hu]
  obtain ⟨xc0, xc1, xcl⟩ := S.out.bx
  cases t
  · have S1 := Lib.hid (fun w1 (hb : Below W.heap.size W w1) => S.out.set (u := false) h1 h2 hb)
    have OK := Lib.hid (fun w1 (hb : Below W.heap.size W w1) => S.out.ok.keep hb)
    have FZ : Hid (∀ w1, Below W.heap.size W w1 → w1.frozen? ⟨g, 0, none⟩ = false) := fun w1 hb => by rw [hb.frozen (p := ⟨g, 0, none⟩) S.out.ok.lt]; exact S.out.fz
    have gl : Hid (g + 1 ≤ W.heap.size) := S.out.ok.lt
    go_enter Try.func41, Try.ntmps41
    go_wp2_with (go_at_call 27; refine hop.out.mono ?_; rintro e w1 ⟨⟨v, rfl, P1, -⟩, hb⟩; have S2 := Lib.hid (S1.out w1 hb); have P2 := Lib.hid (Sl.far (Sl.weak P1 gl.out) (Nat.lt_succ_self g) (o := 0) (.bool false)); have fz1 := FZ.out w1 hb; obtain ⟨okc, okl⟩ := OK.out w1 hb; clear P1 hb)
    go_ret
    exact ⟨_, rfl, P2.out, by first | exact S2.out.1 | (rw [Bool.true_and]; exact S2.out.1) | (rw [Bool.false_and]; exact S2.out.1), S2.out.2⟩
  · have S1 := Lib.hid (fun w1 (hb : Below W.heap.size W w1) => S.out.set (u := u) h1 h2 hb)
    have OK := Lib.hid (fun w1 (hb : Below W.heap.size W w1) => S.out.ok.keep hb)
    have FZ : Hid (∀ w1, Below W.heap.size W w1 → w1.frozen? ⟨g, 0, none⟩ = false) := fun w1 hb => by rw [hb.frozen (p := ⟨g, 0, none⟩) S.out.ok.lt]; exact S.out.fz
    have gl : Hid (g + 1 ≤ W.heap.size) := S.out.ok.lt
    go_enter Try.func41, Try.ntmps41
    go_wp2_with (go_at_call 27; refine hop.out.mono ?_; rintro e w1 ⟨⟨v, rfl, P1, -⟩, hb⟩; have S2 := Lib.hid (S1.out w1 hb); have P2 := Lib.hid (Sl.far (Sl.weak P1 gl.out) (Nat.lt_succ_self g) (o := 0) (.bool u)); have fz1 := FZ.out w1 hb; obtain ⟨okc, okl⟩ := OK.out w1 hb; clear P1 hb)
    go_ret
    exact ⟨_, rfl, P2.out, by first | exact S2.out.1 | (rw [Bool.true_and]; exact S2.out.1) | (rw [Bool.false_and]; exact S2.out.1), S2.out.2⟩
set_option maxRecDepth 100000 in
set_option maxHeartbeats 16000000 in
theorem rlalgebra (va vb vc : Value) (A B C : List Sp) (hA : A.length ≤ maxLen) (hB : B.length ≤ maxLen) (hC : C.length ≤ maxLen) (x y : Int) (hx : I64 x) (hy : I64 y) {ba bb bc : Nat} (w : World) (a : PairS ba w va A) (b : PairS bb w vb B) (c : PairS bc w vc C) :
    Calls Try.prog 9 #[va, vb, vc, .agg #[.int .i64 x, .int .i64 y]] w fun e w' => e = .returned (.bool true) ∧ Below w.heap.size w w' := by
  have AW := Lib.hid (fun W => rawake W)
  obtain ⟨oa, ca, rfl⟩ := prs_shape a
  obtain ⟨ob, cb, rfl⟩ := prs_shape b
  obtain ⟨oc, cc, rfl⟩ := prs_shape c
  obtain ⟨w0, hw0⟩ : ∃ w' : World, w.alloc (.cells #[.int .i64 x, .int .i64 y] 33) = w' := ⟨_, rfl⟩
  have A0 : Hid (Below w.heap.size w w0) := by show Below _ _ _; rw [← hw0]; exact grow (here w) _
  have X0 : Hid (Two w0 w.heap.size (.int .i64 x) (.int .i64 y)) := by show Two _ _ _ _; rw [← hw0]; exact Two.new (here _)
  have PA := Lib.hid a
  have PB := Lib.hid b
  have PC := Lib.hid c
  clear a b c
  have lL : ([(x, y)] : List Sp).length ≤ maxLen := small_max (by show 1 ≤ 1000000; omega)
  obtain ⟨Lab, eab, hab⟩ : ∃ L e, ruAp 1 A B = (L, e) := ⟨_, _, rfl⟩
  have lab : Lab.length ≤ maxLen := by have h := ap_len 1 A B; rw [hab] at h; exact small_max (Nat.le_trans h (by decide))
  have rab := ap_err 1 A B
  rw [hab] at rab
  have Dab := Lib.hid (fun g t W b b' v u (S : St w g w.heap.size x y t W) (h1 : w.heap.size ≤ g) (h2 : w.heap.size < g) (p : PairS b W v A) (q : PairS b' W u B) => by have h := ruunion v u A B hA hB W p q; rw [hab] at h; exact rldo 1 22 (Lab, eab) v u w g w.heap.size x y t W S h1 h2 h (enters_of Try.func22 (by kernel_rfl) rfl) rab)
  obtain ⟨Lba, eba, hba⟩ : ∃ L e, ruAp 1 B A = (L, e) := ⟨_, _, rfl⟩
  have lba : Lba.length ≤ maxLen := by have h := ap_len 1 B A; rw [hba] at h; exact small_max (Nat.le_trans h (by decide))
  have rba := ap_err 1 B A
  rw [hba] at rba
  have Dba := Lib.hid (fun g t W b b' v u (S : St w g w.heap.size x y t W) (h1 : w.heap.size ≤ g) (h2 : w.heap.size < g) (p : PairS b W v B) (q : PairS b' W u A) => by have h := ruunion v u B A hB hA W p q; rw [hba] at h; exact rldo 1 22 (Lba, eba) v u w g w.heap.size x y t W S h1 h2 h (enters_of Try.func22 (by kernel_rfl) rfl) rba)
  obtain ⟨Lboth, eboth, hboth⟩ : ∃ L e, ruAp 2 A B = (L, e) := ⟨_, _, rfl⟩
  have lboth : Lboth.length ≤ maxLen := by have h := ap_len 2 A B; rw [hboth] at h; exact small_max (Nat.le_trans h (by decide))
  have rboth := ap_err 2 A B
  rw [hboth] at rboth
  have Dboth := Lib.hid (fun g t W b b' v u (S : St w g w.heap.size x y t W) (h1 : w.heap.size ≤ g) (h2 : w.heap.size < g) (p : PairS b W v A) (q : PairS b' W u B) => by have h := rumeet v u A B hA hB W p q; rw [hboth] at h; exact rldo 2 24 (Lboth, eboth) v u w g w.heap.size x y t W S h1 h2 h (enters_of Try.func24 (by kernel_rfl) rfl) rboth)
  obtain ⟨Lother, eother, hother⟩ : ∃ L e, ruAp 2 B A = (L, e) := ⟨_, _, rfl⟩
  have lother : Lother.length ≤ maxLen := by have h := ap_len 2 B A; rw [hother] at h; exact small_max (Nat.le_trans h (by decide))
  have rother := ap_err 2 B A
  rw [hother] at rother
  have Dother := Lib.hid (fun g t W b b' v u (S : St w g w.heap.size x y t W) (h1 : w.heap.size ≤ g) (h2 : w.heap.size < g) (p : PairS b W v B) (q : PairS b' W u A) => by have h := rumeet v u B A hB hA W p q; rw [hother] at h; exact rldo 2 24 (Lother, eother) v u w g w.heap.size x y t W S h1 h2 h (enters_of Try.func24 (by kernel_rfl) rfl) rother)
  obtain ⟨Lbc, ebc, hbc⟩ : ∃ L e, ruAp 1 B C = (L, e) := ⟨_, _, rfl⟩
  have lbc : Lbc.length ≤ maxLen := by have h := ap_len 1 B C; rw [hbc] at h; exact small_max (Nat.le_trans h (by decide))
  have rbc := ap_err 1 B C
  rw [hbc] at rbc
  have Dbc := Lib.hid (fun g t W b b' v u (S : St w g w.heap.size x y t W) (h1 : w.heap.size ≤ g) (h2 : w.heap.size < g) (p : PairS b W v B) (q : PairS b' W u C) => by have h := ruunion v u B C hB hC W p q; rw [hbc] at h; exact rldo 1 22 (Lbc, ebc) v u w g w.heap.size x y t W S h1 h2 h (enters_of Try.func22 (by kernel_rfl) rfl) rbc)
  obtain ⟨Lleft, eleft, hleft⟩ : ∃ L e, ruAp 2 A Lbc = (L, e) := ⟨_, _, rfl⟩
  have lleft : Lleft.length ≤ maxLen := by have h := ap_len 2 A Lbc; rw [hleft] at h; exact small_max (Nat.le_trans h (by decide))
  have rleft := ap_err 2 A Lbc
  rw [hleft] at rleft
  have Dleft := Lib.hid (fun g t W b b' v u (S : St w g w.heap.size x y t W) (h1 : w.heap.size ≤ g) (h2 : w.heap.size < g) (p : PairS b W v A) (q : PairS b' W u Lbc) => by have h := rumeet v u A Lbc hA lbc W p q; rw [hleft] at h; exact rldo 2 24 (Lleft, eleft) v u w g w.heap.size x y t W S h1 h2 h (enters_of Try.func24 (by kernel_rfl) rfl) rleft)
  obtain ⟨Lac, eac, hac⟩ : ∃ L e, ruAp 2 A C = (L, e) := ⟨_, _, rfl⟩
  have lac : Lac.length ≤ maxLen := by have h := ap_len 2 A C; rw [hac] at h; exact small_max (Nat.le_trans h (by decide))
  have rac := ap_err 2 A C
  rw [hac] at rac
  have Dac := Lib.hid (fun g t W b b' v u (S : St w g w.heap.size x y t W) (h1 : w.heap.size ≤ g) (h2 : w.heap.size < g) (p : PairS b W v A) (q : PairS b' W u C) => by have h := rumeet v u A C hA hC W p q; rw [hac] at h; exact rldo 2 24 (Lac, eac) v u w g w.heap.size x y t W S h1 h2 h (enters_of Try.func24 (by kernel_rfl) rfl) rac)
  obtain ⟨Lright, eright, hright⟩ : ∃ L e, ruAp 1 Lboth Lac = (L, e) := ⟨_, _, rfl⟩
  have lright : Lright.length ≤ maxLen := by have h := ap_len 1 Lboth Lac; rw [hright] at h; exact small_max (Nat.le_trans h (by decide))
  have rright := ap_err 1 Lboth Lac
  rw [hright] at rright
  have Dright := Lib.hid (fun g t W b b' v u (S : St w g w.heap.size x y t W) (h1 : w.heap.size ≤ g) (h2 : w.heap.size < g) (p : PairS b W v Lboth) (q : PairS b' W u Lac) => by have h := ruunion v u Lboth Lac lboth lac W p q; rw [hright] at h; exact rldo 1 22 (Lright, eright) v u w g w.heap.size x y t W S h1 h2 h (enters_of Try.func22 (by kernel_rfl) rfl) rright)
  obtain ⟨Lone, eone, hone⟩ : ∃ L e, ruAp 1 Lab C = (L, e) := ⟨_, _, rfl⟩
  have lone : Lone.length ≤ maxLen := by have h := ap_len 1 Lab C; rw [hone] at h; exact small_max (Nat.le_trans h (by decide))
  have rone := ap_err 1 Lab C
  rw [hone] at rone
  have Done := Lib.hid (fun g t W b b' v u (S : St w g w.heap.size x y t W) (h1 : w.heap.size ≤ g) (h2 : w.heap.size < g) (p : PairS b W v Lab) (q : PairS b' W u C) => by have h := ruunion v u Lab C lab hC W p q; rw [hone] at h; exact rldo 1 22 (Lone, eone) v u w g w.heap.size x y t W S h1 h2 h (enters_of Try.func22 (by kernel_rfl) rfl) rone)
  obtain ⟨Lbcd, ebcd, hbcd⟩ : ∃ L e, ruAp 1 B C = (L, e) := ⟨_, _, rfl⟩
  have lbcd : Lbcd.length ≤ maxLen := by have h := ap_len 1 B C; rw [hbcd] at h; exact small_max (Nat.le_trans h (by decide))
  have rbcd := ap_err 1 B C
  rw [hbcd] at rbcd
  have Dbcd := Lib.hid (fun g t W b b' v u (S : St w g w.heap.size x y t W) (h1 : w.heap.size ≤ g) (h2 : w.heap.size < g) (p : PairS b W v B) (q : PairS b' W u C) => by have h := ruunion v u B C hB hC W p q; rw [hbcd] at h; exact rldo 1 22 (Lbcd, ebcd) v u w g w.heap.size x y t W S h1 h2 h (enters_of Try.func22 (by kernel_rfl) rfl) rbcd)
  obtain ⟨Ltwo, etwo, htwo⟩ : ∃ L e, ruAp 1 A Lbcd = (L, e) := ⟨_, _, rfl⟩
  have ltwo : Ltwo.length ≤ maxLen := by have h := ap_len 1 A Lbcd; rw [htwo] at h; exact small_max (Nat.le_trans h (by decide))
  have rtwo := ap_err 1 A Lbcd
  rw [htwo] at rtwo
  have Dtwo := Lib.hid (fun g t W b b' v u (S : St w g w.heap.size x y t W) (h1 : w.heap.size ≤ g) (h2 : w.heap.size < g) (p : PairS b W v A) (q : PairS b' W u Lbcd) => by have h := ruunion v u A Lbcd hA lbcd W p q; rw [htwo] at h; exact rldo 1 22 (Ltwo, etwo) v u w g w.heap.size x y t W S h1 h2 h (enters_of Try.func22 (by kernel_rfl) rfl) rtwo)
  obtain ⟨Lthree, ethree, hthree⟩ : ∃ L e, ruAp 2 Lboth C = (L, e) := ⟨_, _, rfl⟩
  have lthree : Lthree.length ≤ maxLen := by have h := ap_len 2 Lboth C; rw [hthree] at h; exact small_max (Nat.le_trans h (by decide))
  have rthree := ap_err 2 Lboth C
  rw [hthree] at rthree
  have Dthree := Lib.hid (fun g t W b b' v u (S : St w g w.heap.size x y t W) (h1 : w.heap.size ≤ g) (h2 : w.heap.size < g) (p : PairS b W v Lboth) (q : PairS b' W u C) => by have h := rumeet v u Lboth C lboth hC W p q; rw [hthree] at h; exact rldo 2 24 (Lthree, ethree) v u w g w.heap.size x y t W S h1 h2 h (enters_of Try.func24 (by kernel_rfl) rfl) rthree)
  obtain ⟨Lbcm, ebcm, hbcm⟩ : ∃ L e, ruAp 2 B C = (L, e) := ⟨_, _, rfl⟩
  have lbcm : Lbcm.length ≤ maxLen := by have h := ap_len 2 B C; rw [hbcm] at h; exact small_max (Nat.le_trans h (by decide))
  have rbcm := ap_err 2 B C
  rw [hbcm] at rbcm
  have Dbcm := Lib.hid (fun g t W b b' v u (S : St w g w.heap.size x y t W) (h1 : w.heap.size ≤ g) (h2 : w.heap.size < g) (p : PairS b W v B) (q : PairS b' W u C) => by have h := rumeet v u B C hB hC W p q; rw [hbcm] at h; exact rldo 2 24 (Lbcm, ebcm) v u w g w.heap.size x y t W S h1 h2 h (enters_of Try.func24 (by kernel_rfl) rfl) rbcm)
  obtain ⟨Lfour, efour, hfour⟩ : ∃ L e, ruAp 2 A Lbcm = (L, e) := ⟨_, _, rfl⟩
  have lfour : Lfour.length ≤ maxLen := by have h := ap_len 2 A Lbcm; rw [hfour] at h; exact small_max (Nat.le_trans h (by decide))
  have rfour := ap_err 2 A Lbcm
  rw [hfour] at rfour
  have Dfour := Lib.hid (fun g t W b b' v u (S : St w g w.heap.size x y t W) (h1 : w.heap.size ≤ g) (h2 : w.heap.size < g) (p : PairS b W v A) (q : PairS b' W u Lbcm) => by have h := rumeet v u A Lbcm hA lbcm W p q; rw [hfour] at h; exact rldo 2 24 (Lfour, efour) v u w g w.heap.size x y t W S h1 h2 h (enters_of Try.func24 (by kernel_rfl) rfl) rfour)
  obtain ⟨Leither, eeither, heither⟩ : ∃ L e, ruAp 4 A B = (L, e) := ⟨_, _, rfl⟩
  have leither : Leither.length ≤ maxLen := by have h := ap_len 4 A B; rw [heither] at h; exact small_max (Nat.le_trans h (by decide))
  have reither := ap_err 4 A B
  rw [heither] at reither
  have Deither := Lib.hid (fun g t W b b' v u (S : St w g w.heap.size x y t W) (h1 : w.heap.size ≤ g) (h2 : w.heap.size < g) (p : PairS b W v A) (q : PairS b' W u B) => by have h := rueither v u A B hA hB W p q; rw [heither] at h; exact rldo 4 26 (Leither, eeither) v u w g w.heap.size x y t W S h1 h2 h (enters_of Try.func26 (by kernel_rfl) rfl) reither)
  obtain ⟨Lmab, emab, hmab⟩ : ∃ L e, ruAp 3 A B = (L, e) := ⟨_, _, rfl⟩
  have lmab : Lmab.length ≤ maxLen := by have h := ap_len 3 A B; rw [hmab] at h; exact small_max (Nat.le_trans h (by decide))
  have rmab := ap_err 3 A B
  rw [hmab] at rmab
  have Dmab := Lib.hid (fun g t W b b' v u (S : St w g w.heap.size x y t W) (h1 : w.heap.size ≤ g) (h2 : w.heap.size < g) (p : PairS b W v A) (q : PairS b' W u B) => by have h := ruminus v u A B hA hB W p q; rw [hmab] at h; exact rldo 3 25 (Lmab, emab) v u w g w.heap.size x y t W S h1 h2 h (enters_of Try.func25 (by kernel_rfl) rfl) rmab)
  obtain ⟨Lmba, emba, hmba⟩ : ∃ L e, ruAp 3 B A = (L, e) := ⟨_, _, rfl⟩
  have lmba : Lmba.length ≤ maxLen := by have h := ap_len 3 B A; rw [hmba] at h; exact small_max (Nat.le_trans h (by decide))
  have rmba := ap_err 3 B A
  rw [hmba] at rmba
  have Dmba := Lib.hid (fun g t W b b' v u (S : St w g w.heap.size x y t W) (h1 : w.heap.size ≤ g) (h2 : w.heap.size < g) (p : PairS b W v B) (q : PairS b' W u A) => by have h := ruminus v u B A hB hA W p q; rw [hmba] at h; exact rldo 3 25 (Lmba, emba) v u w g w.heap.size x y t W S h1 h2 h (enters_of Try.func25 (by kernel_rfl) rfl) rmba)
  obtain ⟨Lparts, eparts, hparts⟩ : ∃ L e, ruAp 1 Lmab Lmba = (L, e) := ⟨_, _, rfl⟩
  have lparts : Lparts.length ≤ maxLen := by have h := ap_len 1 Lmab Lmba; rw [hparts] at h; exact small_max (Nat.le_trans h (by decide))
  have rparts := ap_err 1 Lmab Lmba
  rw [hparts] at rparts
  have Dparts := Lib.hid (fun g t W b b' v u (S : St w g w.heap.size x y t W) (h1 : w.heap.size ≤ g) (h2 : w.heap.size < g) (p : PairS b W v Lmab) (q : PairS b' W u Lmba) => by have h := ruunion v u Lmab Lmba lmab lmba W p q; rw [hparts] at h; exact rldo 1 22 (Lparts, eparts) v u w g w.heap.size x y t W S h1 h2 h (enters_of Try.func22 (by kernel_rfl) rfl) rparts)
  obtain ⟨Louter, eouter, houter⟩ : ∃ L e, ruNot Lab (x, y) = (L, e) := ⟨_, _, rfl⟩
  have louter : Louter.length ≤ maxLen := by have h := not_len Lab (x, y); rw [houter] at h; exact small_max (Nat.le_trans h (by decide))
  have router := not_err Lab (x, y)
  rw [houter] at router
  have Douter := Lib.hid (fun g t W b v (S : St w g w.heap.size x y t W) (h1 : w.heap.size ≤ g) (h2 : w.heap.size < g) (p : PairS b W v Lab) => by have h := runot v Lab lab x y hx hy W p; rw [houter] at h; exact rlnot (Louter, eouter) v w g w.heap.size x y t W S h1 h2 h router)
  obtain ⟨Lna, ena, hna⟩ : ∃ L e, ruNot A (x, y) = (L, e) := ⟨_, _, rfl⟩
  have lna : Lna.length ≤ maxLen := by have h := not_len A (x, y); rw [hna] at h; exact small_max (Nat.le_trans h (by decide))
  have rna := not_err A (x, y)
  rw [hna] at rna
  have Dna := Lib.hid (fun g t W b v (S : St w g w.heap.size x y t W) (h1 : w.heap.size ≤ g) (h2 : w.heap.size < g) (p : PairS b W v A) => by have h := runot v A hA x y hx hy W p; rw [hna] at h; exact rlnot (Lna, ena) v w g w.heap.size x y t W S h1 h2 h rna)
  obtain ⟨Lnb, enb, hnb⟩ : ∃ L e, ruNot B (x, y) = (L, e) := ⟨_, _, rfl⟩
  have lnb : Lnb.length ≤ maxLen := by have h := not_len B (x, y); rw [hnb] at h; exact small_max (Nat.le_trans h (by decide))
  have rnb := not_err B (x, y)
  rw [hnb] at rnb
  have Dnb := Lib.hid (fun g t W b v (S : St w g w.heap.size x y t W) (h1 : w.heap.size ≤ g) (h2 : w.heap.size < g) (p : PairS b W v B) => by have h := runot v B hB x y hx hy W p; rw [hnb] at h; exact rlnot (Lnb, enb) v w g w.heap.size x y t W S h1 h2 h rnb)
  obtain ⟨Linner, einner, hinner⟩ : ∃ L e, ruAp 2 Lna Lnb = (L, e) := ⟨_, _, rfl⟩
  have linner : Linner.length ≤ maxLen := by have h := ap_len 2 Lna Lnb; rw [hinner] at h; exact small_max (Nat.le_trans h (by decide))
  have rinner := ap_err 2 Lna Lnb
  rw [hinner] at rinner
  have Dinner := Lib.hid (fun g t W b b' v u (S : St w g w.heap.size x y t W) (h1 : w.heap.size ≤ g) (h2 : w.heap.size < g) (p : PairS b W v Lna) (q : PairS b' W u Lnb) => by have h := rumeet v u Lna Lnb lna lnb W p q; rw [hinner] at h; exact rldo 2 24 (Linner, einner) v u w g w.heap.size x y t W S h1 h2 h (enters_of Try.func24 (by kernel_rfl) rfl) rinner)
  obtain ⟨Lai, eai, hai⟩ : ∃ L e, ruAp 2 A [(x, y)] = (L, e) := ⟨_, _, rfl⟩
  have lai : Lai.length ≤ maxLen := by have h := ap_len 2 A [(x, y)]; rw [hai] at h; exact small_max (Nat.le_trans h (by decide))
  have rai := ap_err 2 A [(x, y)]
  rw [hai] at rai
  have Dai := Lib.hid (fun g t W b b' v u (S : St w g w.heap.size x y t W) (h1 : w.heap.size ≤ g) (h2 : w.heap.size < g) (p : PairS b W v A) (q : PairS b' W u [(x, y)]) => by have h := rumeet v u A [(x, y)] hA lL W p q; rw [hai] at h; exact rldo 2 24 (Lai, eai) v u w g w.heap.size x y t W S h1 h2 h (enters_of Try.func24 (by kernel_rfl) rfl) rai)
  obtain ⟨Lnon, enon, hnon⟩ : ∃ L e, ruNot Lai (x, y) = (L, e) := ⟨_, _, rfl⟩
  have lnon : Lnon.length ≤ maxLen := by have h := not_len Lai (x, y); rw [hnon] at h; exact small_max (Nat.le_trans h (by decide))
  have rnon := not_err Lai (x, y)
  rw [hnon] at rnon
  have Dnon := Lib.hid (fun g t W b v (S : St w g w.heap.size x y t W) (h1 : w.heap.size ≤ g) (h2 : w.heap.size < g) (p : PairS b W v Lai) => by have h := runot v Lai lai x y hx hy W p; rw [hnon] at h; exact rlnot (Lnon, enon) v w g w.heap.size x y t W S h1 h2 h rnon)
  obtain ⟨Lback, eback, hback⟩ : ∃ L e, ruNot Lnon (x, y) = (L, e) := ⟨_, _, rfl⟩
  have lback : Lback.length ≤ maxLen := by have h := not_len Lnon (x, y); rw [hback] at h; exact small_max (Nat.le_trans h (by decide))
  have rback := not_err Lnon (x, y)
  rw [hback] at rback
  have Dback := Lib.hid (fun g t W b v (S : St w g w.heap.size x y t W) (h1 : w.heap.size ≤ g) (h2 : w.heap.size < g) (p : PairS b W v Lnon) => by have h := runot v Lnon lnon x y hx hy W p; rw [hback] at h; exact rlnot (Lback, eback) v w g w.heap.size x y t W S h1 h2 h rback)
  obtain ⟨Linside, einside, hinside⟩ : ∃ L e, ruAp 2 A [(x, y)] = (L, e) := ⟨_, _, rfl⟩
  have linside : Linside.length ≤ maxLen := by have h := ap_len 2 A [(x, y)]; rw [hinside] at h; exact small_max (Nat.le_trans h (by decide))
  have rinside := ap_err 2 A [(x, y)]
  rw [hinside] at rinside
  have Dinside := Lib.hid (fun g t W b b' v u (S : St w g w.heap.size x y t W) (h1 : w.heap.size ≤ g) (h2 : w.heap.size < g) (p : PairS b W v A) (q : PairS b' W u [(x, y)]) => by have h := rumeet v u A [(x, y)] hA lL W p q; rw [hinside] at h; exact rldo 2 24 (Linside, einside) v u w g w.heap.size x y t W S h1 h2 h (enters_of Try.func24 (by kernel_rfl) rfl) rinside)
  have sai : Lai = Linside := by have h := hai.symm.trans hinside; injection h
  have E0 : eab = 0 → eba = 0 → eboth = 0 → eother = 0 → ebc = 0 → eleft = 0 → eac = 0 → eright = 0 → eone = 0 → ebcd = 0 → etwo = 0 → ethree = 0 → ebcm = 0 → efour = 0 → eeither = 0 → emab = 0 → emba = 0 → eparts = 0 → eouter = 0 → ena = 0 → enb = 0 → einner = 0 → eai = 0 → enon = 0 → eback = 0 → einside = 0 → Hid (∀ W b b' v u, PairS b W v Lab → PairS b' W u Lba → Calls Try.prog 16 #[v, u] W fun e w' => e = .returned (.bool true) ∧ Below W.heap.size W w') := fun zab zba zboth zother zbc zleft zac zright zone zbcd ztwo zthree zbcm zfour zeither zmab zmba zparts zouter zna znb zinner zai znon zback zinside => fun W b b' v u p' q' => by
    have e : Lab = Lba := by have h := al_com 1 (.inl rfl) (by rw [hab]; exact zab) (by rw [hba]; exact zba); rw [hab, hba] at h; exact h
    have vv : vaB Lab = true := by have h := (ap_ok (k := 1) (A := A) (B := B) (by rw [hab]; exact zab)).2.2.1; rw [hab] at h; exact h
    have h := ruequal v u Lab Lba lab lba W p' q'
    rw [← e, vv, decide_eq_true rfl] at h
    exact h
  have E1 : eab = 0 → eba = 0 → eboth = 0 → eother = 0 → ebc = 0 → eleft = 0 → eac = 0 → eright = 0 → eone = 0 → ebcd = 0 → etwo = 0 → ethree = 0 → ebcm = 0 → efour = 0 → eeither = 0 → emab = 0 → emba = 0 → eparts = 0 → eouter = 0 → ena = 0 → enb = 0 → einner = 0 → eai = 0 → enon = 0 → eback = 0 → einside = 0 → Hid (∀ W b b' v u, PairS b W v Lboth → PairS b' W u Lother → Calls Try.prog 16 #[v, u] W fun e w' => e = .returned (.bool true) ∧ Below W.heap.size W w') := fun zab zba zboth zother zbc zleft zac zright zone zbcd ztwo zthree zbcm zfour zeither zmab zmba zparts zouter zna znb zinner zai znon zback zinside => fun W b b' v u p' q' => by
    have e : Lboth = Lother := by have h := al_com 2 (.inr rfl) (by rw [hboth]; exact zboth) (by rw [hother]; exact zother); rw [hboth, hother] at h; exact h
    have vv : vaB Lboth = true := by have h := (ap_ok (k := 2) (A := A) (B := B) (by rw [hboth]; exact zboth)).2.2.1; rw [hboth] at h; exact h
    have h := ruequal v u Lboth Lother lboth lother W p' q'
    rw [← e, vv, decide_eq_true rfl] at h
    exact h
  have E2 : eab = 0 → eba = 0 → eboth = 0 → eother = 0 → ebc = 0 → eleft = 0 → eac = 0 → eright = 0 → eone = 0 → ebcd = 0 → etwo = 0 → ethree = 0 → ebcm = 0 → efour = 0 → eeither = 0 → emab = 0 → emba = 0 → eparts = 0 → eouter = 0 → ena = 0 → enb = 0 → einner = 0 → eai = 0 → enon = 0 → eback = 0 → einside = 0 → Hid (∀ W b b' v u, PairS b W v Lleft → PairS b' W u Lright → Calls Try.prog 16 #[v, u] W fun e w' => e = .returned (.bool true) ∧ Below W.heap.size W w') := fun zab zba zboth zother zbc zleft zac zright zone zbcd ztwo zthree zbcm zfour zeither zmab zmba zparts zouter zna znb zinner zai znon zback zinside => fun W b b' v u p' q' => by
    have e : Lleft = Lright := by have h := al_dis hbc zbc hleft zleft hboth zboth hac zac hright zright; exact h
    have vv : vaB Lleft = true := by have h := (ap_ok (k := 2) (A := A) (B := Lbc) (by rw [hleft]; exact zleft)).2.2.1; rw [hleft] at h; exact h
    have h := ruequal v u Lleft Lright lleft lright W p' q'
    rw [← e, vv, decide_eq_true rfl] at h
    exact h
  have E3 : eab = 0 → eba = 0 → eboth = 0 → eother = 0 → ebc = 0 → eleft = 0 → eac = 0 → eright = 0 → eone = 0 → ebcd = 0 → etwo = 0 → ethree = 0 → ebcm = 0 → efour = 0 → eeither = 0 → emab = 0 → emba = 0 → eparts = 0 → eouter = 0 → ena = 0 → enb = 0 → einner = 0 → eai = 0 → enon = 0 → eback = 0 → einside = 0 → Hid (∀ W b b' v u, PairS b W v Lone → PairS b' W u Ltwo → Calls Try.prog 16 #[v, u] W fun e w' => e = .returned (.bool true) ∧ Below W.heap.size W w') := fun zab zba zboth zother zbc zleft zac zright zone zbcd ztwo zthree zbcm zfour zeither zmab zmba zparts zouter zna znb zinner zai znon zback zinside => fun W b b' v u p' q' => by
    have e : Lone = Ltwo := by have h := al_ass 1 (.inl rfl) hab zab hone zone hbcd zbcd htwo ztwo; exact h
    have vv : vaB Lone = true := by have h := (ap_ok (k := 1) (A := Lab) (B := C) (by rw [hone]; exact zone)).2.2.1; rw [hone] at h; exact h
    have h := ruequal v u Lone Ltwo lone ltwo W p' q'
    rw [← e, vv, decide_eq_true rfl] at h
    exact h
  have E4 : eab = 0 → eba = 0 → eboth = 0 → eother = 0 → ebc = 0 → eleft = 0 → eac = 0 → eright = 0 → eone = 0 → ebcd = 0 → etwo = 0 → ethree = 0 → ebcm = 0 → efour = 0 → eeither = 0 → emab = 0 → emba = 0 → eparts = 0 → eouter = 0 → ena = 0 → enb = 0 → einner = 0 → eai = 0 → enon = 0 → eback = 0 → einside = 0 → Hid (∀ W b b' v u, PairS b W v Lthree → PairS b' W u Lfour → Calls Try.prog 16 #[v, u] W fun e w' => e = .returned (.bool true) ∧ Below W.heap.size W w') := fun zab zba zboth zother zbc zleft zac zright zone zbcd ztwo zthree zbcm zfour zeither zmab zmba zparts zouter zna znb zinner zai znon zback zinside => fun W b b' v u p' q' => by
    have e : Lthree = Lfour := by have h := al_ass 2 (.inr rfl) hboth zboth hthree zthree hbcm zbcm hfour zfour; exact h
    have vv : vaB Lthree = true := by have h := (ap_ok (k := 2) (A := Lboth) (B := C) (by rw [hthree]; exact zthree)).2.2.1; rw [hthree] at h; exact h
    have h := ruequal v u Lthree Lfour lthree lfour W p' q'
    rw [← e, vv, decide_eq_true rfl] at h
    exact h
  have E5 : eab = 0 → eba = 0 → eboth = 0 → eother = 0 → ebc = 0 → eleft = 0 → eac = 0 → eright = 0 → eone = 0 → ebcd = 0 → etwo = 0 → ethree = 0 → ebcm = 0 → efour = 0 → eeither = 0 → emab = 0 → emba = 0 → eparts = 0 → eouter = 0 → ena = 0 → enb = 0 → einner = 0 → eai = 0 → enon = 0 → eback = 0 → einside = 0 → Hid (∀ W b b' v u, PairS b W v Leither → PairS b' W u Lparts → Calls Try.prog 16 #[v, u] W fun e w' => e = .returned (.bool true) ∧ Below W.heap.size W w') := fun zab zba zboth zother zbc zleft zac zright zone zbcd ztwo zthree zbcm zfour zeither zmab zmba zparts zouter zna znb zinner zai znon zback zinside => fun W b b' v u p' q' => by
    have e : Leither = Lparts := by have h := al_eit heither zeither hmab zmab hmba zmba hparts zparts; exact h
    have vv : vaB Leither = true := by have h := (ap_ok (k := 4) (A := A) (B := B) (by rw [heither]; exact zeither)).2.2.1; rw [heither] at h; exact h
    have h := ruequal v u Leither Lparts leither lparts W p' q'
    rw [← e, vv, decide_eq_true rfl] at h
    exact h
  have E6 : eab = 0 → eba = 0 → eboth = 0 → eother = 0 → ebc = 0 → eleft = 0 → eac = 0 → eright = 0 → eone = 0 → ebcd = 0 → etwo = 0 → ethree = 0 → ebcm = 0 → efour = 0 → eeither = 0 → emab = 0 → emba = 0 → eparts = 0 → eouter = 0 → ena = 0 → enb = 0 → einner = 0 → eai = 0 → enon = 0 → eback = 0 → einside = 0 → Hid (∀ W b b' v u, PairS b W v Louter → PairS b' W u Linner → Calls Try.prog 16 #[v, u] W fun e w' => e = .returned (.bool true) ∧ Below W.heap.size W w') := fun zab zba zboth zother zbc zleft zac zright zone zbcd ztwo zthree zbcm zfour zeither zmab zmba zparts zouter zna znb zinner zai znon zback zinside => fun W b b' v u p' q' => by
    have e : Louter = Linner := by have h := al_mor hab zab houter zouter hna zna hnb znb hinner zinner; exact h
    have vv : vaB Louter = true := by have h := (not_ok (A := Lab) (p := (x, y)) (by rw [houter]; exact zouter)).2.2.1; rw [houter] at h; exact h
    have h := ruequal v u Louter Linner louter linner W p' q'
    rw [← e, vv, decide_eq_true rfl] at h
    exact h
  have E7 : eab = 0 → eba = 0 → eboth = 0 → eother = 0 → ebc = 0 → eleft = 0 → eac = 0 → eright = 0 → eone = 0 → ebcd = 0 → etwo = 0 → ethree = 0 → ebcm = 0 → efour = 0 → eeither = 0 → emab = 0 → emba = 0 → eparts = 0 → eouter = 0 → ena = 0 → enb = 0 → einner = 0 → eai = 0 → enon = 0 → eback = 0 → einside = 0 → Hid (∀ W b b' v u, PairS b W v Lback → PairS b' W u Linside → Calls Try.prog 16 #[v, u] W fun e w' => e = .returned (.bool true) ∧ Below W.heap.size W w') := fun zab zba zboth zother zbc zleft zac zright zone zbcd ztwo zthree zbcm zfour zeither zmab zmba zparts zouter zna znb zinner zai znon zback zinside => fun W b b' v u p' q' => by
    have e : Lback = Linside := by have h := al_dbl hinside zinside (by rw [← sai]; exact hnon) znon hback zback; exact h
    have vv : vaB Lback = true := by have h := (not_ok (A := Lnon) (p := (x, y)) (by rw [hback]; exact zback)).2.2.1; rw [hback] at h; exact h
    have h := ruequal v u Lback Linside lback linside W p' q'
    rw [← e, vv, decide_eq_true rfl] at h
    exact h
  clear sai hA hB hC hx hy lL hab lab rab hba lba rba hboth lboth rboth hother lother rother hbc lbc rbc hleft lleft rleft hac lac rac hright lright rright hone lone rone hbcd lbcd rbcd htwo ltwo rtwo hthree lthree rthree hbcm lbcm rbcm hfour lfour rfour heither leither reither hmab lmab rmab hmba lmba rmba hparts lparts rparts houter louter router hna lna rna hnb lnb rnb hinner linner rinner hai lai rai hnon lnon rnon hback lback rback hinside linside rinside
  by_cases big : 40 < A.length ∨ 40 < B.length ∨ 40 < C.length
  · clear Dab Dba Dboth Dother Dbc Dleft Dac Dright Done Dbcd Dtwo Dthree Dbcm Dfour Deither Dmab Dmba Dparts Douter Dna Dnb Dinner Dai Dnon Dback Dinside E0 E1 E2 E3 E4 E5 E6 E7
    have GB : ∃ (p q r : Bool), decide (40 < (A.length : Int)) = p ∧ decide (40 < (B.length : Int)) = q ∧ decide (40 < (C.length : Int)) = r ∧ (p || q || r) = true := ⟨_, _, _, rfl, rfl, rfl, by rw [Bool.or_eq_true, Bool.or_eq_true, decide_eq_true_iff, decide_eq_true_iff, decide_eq_true_iff]; omega⟩
    obtain ⟨p, q, r, hp, hq, hr, pqr⟩ := GB
    clear big
    cases p
    · cases q
      · obtain rfl : r = true := by simpa using pqr
        go_enter Try.func9, Try.ntmps9
        go_wp2_with fail
        refine (AW.out _).mono ?_
        rintro e w1 ⟨rfl, hb⟩
        have A1 := Lib.hid (down A0.out hb)
        clear hb
        go_wp2
        go_ret
        exact ⟨rfl, A1.out⟩
      · go_enter Try.func9, Try.ntmps9
        go_wp2_with fail
        refine (AW.out _).mono ?_
        rintro e w1 ⟨rfl, hb⟩
        have A1 := Lib.hid (down A0.out hb)
        clear hb
        go_wp2
        go_ret
        exact ⟨rfl, A1.out⟩
    · go_enter Try.func9, Try.ntmps9
      go_wp2_with fail
      refine (AW.out _).mono ?_
      rintro e w1 ⟨rfl, hb⟩
      have A1 := Lib.hid (down A0.out hb)
      clear hb
      go_wp2
      go_ret
      exact ⟨rfl, A1.out⟩
  have ga : decide (40 < (A.length : Int)) = false := decide_eq_false (by omega)
  have gb : decide (40 < (B.length : Int)) = false := decide_eq_false (by omega)
  have gc : decide (40 < (C.length : Int)) = false := decide_eq_false (by omega)
  clear big
  go_enter Try.func9, Try.ntmps9
  go_wp2_with fail
  refine (AW.out _).mono ?_
  rintro e w1 ⟨rfl, hb⟩
  have A1 := down A0.out hb
  have X1 := X0.out.keep hb
  have g2 : w.heap.size < w1.heap.size := X1.lt
  obtain ⟨w2, hw2⟩ : ∃ w' : World, w1.alloc (.cells #[.bool true] 4) = w' := ⟨_, rfl⟩
  obtain ⟨g, hg⟩ : ∃ g, w1.heap.size = g := ⟨_, rfl⟩
  have S0 : Hid (St w g w.heap.size x y true w2) := by
    show St _ _ _ _ _ _ _
    rw [← hw2, ← hg]
    exact ⟨grow A1 _, One.new (here _), World.frozen?_alloc_new _ _ _ _, X1.old _⟩
  have g1 : Hid (w.heap.size ≤ g) := by show _ ≤ _; omega
  replace g2 : Hid (w.heap.size < g) := by show _ < _; omega
  clear hb A1 X1 A0 X0 AW hw0
  obtain ⟨xc0, xc1, xcl⟩ := S0.out.bx
  go_wp2_with fail
  clear hw2 hg
  refine (Dab.out _ _ _ _ _ _ _ S0.out g1.out g2.out (PA.out.keep S0.out.below) (PB.out.keep S0.out.below)).mono ?_
  rintro e w3 ⟨vab, rfl, U, S', BX⟩
  obtain ⟨t1, ht1⟩ : ∃ u, Hid ((true && (eab == 0)) = u) := ⟨_, rfl⟩
  rw [ht1.out] at S'
  have S1 := Lib.hid S'
  have Uab1 := Lib.hid U
  clear U S' BX  S0 Dab xc0 xc1 xcl
  go_wp2_with fail
  refine (Dba.out _ _ _ _ _ _ _ S1.out g1.out g2.out (PB.out.keep S1.out.below) (PA.out.keep S1.out.below)).mono ?_
  rintro e w4 ⟨vba, rfl, U, S', BX⟩
  obtain ⟨t2, ht2⟩ : ∃ u, Hid ((t1 && (eba == 0)) = u) := ⟨_, rfl⟩
  rw [ht2.out] at S'
  have S2 := Lib.hid S'
  have Uab2 := Lib.hid (BX.prs Uab1.out)
  have Uba2 := Lib.hid U
  clear U S' BX Uab1 S1 Dba
  go_wp2_with fail
  refine (Dboth.out _ _ _ _ _ _ _ S2.out g1.out g2.out (PA.out.keep S2.out.below) (PB.out.keep S2.out.below)).mono ?_
  rintro e w5 ⟨vboth, rfl, U, S', BX⟩
  obtain ⟨t3, ht3⟩ : ∃ u, Hid ((t2 && (eboth == 0)) = u) := ⟨_, rfl⟩
  rw [ht3.out] at S'
  have S3 := Lib.hid S'
  have Uab3 := Lib.hid (BX.prs Uab2.out)
  have Uba3 := Lib.hid (BX.prs Uba2.out)
  have Uboth3 := Lib.hid U
  clear U S' BX Uab2 Uba2 S2 Dboth
  go_wp2_with fail
  refine (Dother.out _ _ _ _ _ _ _ S3.out g1.out g2.out (PB.out.keep S3.out.below) (PA.out.keep S3.out.below)).mono ?_
  rintro e w6 ⟨vother, rfl, U, S', BX⟩
  obtain ⟨t4, ht4⟩ : ∃ u, Hid ((t3 && (eother == 0)) = u) := ⟨_, rfl⟩
  rw [ht4.out] at S'
  have S4 := Lib.hid S'
  have Uab4 := Lib.hid (BX.prs Uab3.out)
  have Uba4 := Lib.hid (BX.prs Uba3.out)
  have Uboth4 := Lib.hid (BX.prs Uboth3.out)
  have Uother4 := Lib.hid U
  clear U S' BX Uab3 Uba3 Uboth3 S3 Dother
  go_wp2_with fail
  refine (Dbc.out _ _ _ _ _ _ _ S4.out g1.out g2.out (PB.out.keep S4.out.below) (PC.out.keep S4.out.below)).mono ?_
  rintro e w7 ⟨vbc, rfl, U, S', BX⟩
  obtain ⟨t5, ht5⟩ : ∃ u, Hid ((t4 && (ebc == 0)) = u) := ⟨_, rfl⟩
  rw [ht5.out] at S'
  have S5 := Lib.hid S'
  have Uab5 := Lib.hid (BX.prs Uab4.out)
  have Uba5 := Lib.hid (BX.prs Uba4.out)
  have Uboth5 := Lib.hid (BX.prs Uboth4.out)
  have Uother5 := Lib.hid (BX.prs Uother4.out)
  have Ubc5 := Lib.hid U
  clear U S' BX Uab4 Uba4 Uboth4 Uother4 S4 Dbc
  go_wp2_with fail
  refine (Dleft.out _ _ _ _ _ _ _ S5.out g1.out g2.out (PA.out.keep S5.out.below) Ubc5.out).mono ?_
  rintro e w8 ⟨vleft, rfl, U, S', BX⟩
  obtain ⟨t6, ht6⟩ : ∃ u, Hid ((t5 && (eleft == 0)) = u) := ⟨_, rfl⟩
  rw [ht6.out] at S'
  have S6 := Lib.hid S'
  have Uab6 := Lib.hid (BX.prs Uab5.out)
  have Uba6 := Lib.hid (BX.prs Uba5.out)
  have Uboth6 := Lib.hid (BX.prs Uboth5.out)
  have Uother6 := Lib.hid (BX.prs Uother5.out)
  have Uleft6 := Lib.hid U
  clear U S' BX Uab5 Uba5 Uboth5 Uother5 Ubc5 S5 Dleft
  go_wp2_with fail
  refine (Dac.out _ _ _ _ _ _ _ S6.out g1.out g2.out (PA.out.keep S6.out.below) (PC.out.keep S6.out.below)).mono ?_
  rintro e w9 ⟨vac, rfl, U, S', BX⟩
  obtain ⟨t7, ht7⟩ : ∃ u, Hid ((t6 && (eac == 0)) = u) := ⟨_, rfl⟩
  rw [ht7.out] at S'
  have S7 := Lib.hid S'
  have Uab7 := Lib.hid (BX.prs Uab6.out)
  have Uba7 := Lib.hid (BX.prs Uba6.out)
  have Uboth7 := Lib.hid (BX.prs Uboth6.out)
  have Uother7 := Lib.hid (BX.prs Uother6.out)
  have Uleft7 := Lib.hid (BX.prs Uleft6.out)
  have Uac7 := Lib.hid U
  clear U S' BX Uab6 Uba6 Uboth6 Uother6 Uleft6 S6 Dac
  go_wp2_with fail
  refine (Dright.out _ _ _ _ _ _ _ S7.out g1.out g2.out Uboth7.out Uac7.out).mono ?_
  rintro e w10 ⟨vright, rfl, U, S', BX⟩
  obtain ⟨t8, ht8⟩ : ∃ u, Hid ((t7 && (eright == 0)) = u) := ⟨_, rfl⟩
  rw [ht8.out] at S'
  have S8 := Lib.hid S'
  have Uab8 := Lib.hid (BX.prs Uab7.out)
  have Uba8 := Lib.hid (BX.prs Uba7.out)
  have Uboth8 := Lib.hid (BX.prs Uboth7.out)
  have Uother8 := Lib.hid (BX.prs Uother7.out)
  have Uleft8 := Lib.hid (BX.prs Uleft7.out)
  have Uright8 := Lib.hid U
  clear U S' BX Uab7 Uba7 Uboth7 Uother7 Uleft7 Uac7 S7 Dright
  go_wp2_with fail
  refine (Done.out _ _ _ _ _ _ _ S8.out g1.out g2.out Uab8.out (PC.out.keep S8.out.below)).mono ?_
  rintro e w11 ⟨vone, rfl, U, S', BX⟩
  obtain ⟨t9, ht9⟩ : ∃ u, Hid ((t8 && (eone == 0)) = u) := ⟨_, rfl⟩
  rw [ht9.out] at S'
  have S9 := Lib.hid S'
  have Uab9 := Lib.hid (BX.prs Uab8.out)
  have Uba9 := Lib.hid (BX.prs Uba8.out)
  have Uboth9 := Lib.hid (BX.prs Uboth8.out)
  have Uother9 := Lib.hid (BX.prs Uother8.out)
  have Uleft9 := Lib.hid (BX.prs Uleft8.out)
  have Uright9 := Lib.hid (BX.prs Uright8.out)
  have Uone9 := Lib.hid U
  clear U S' BX Uab8 Uba8 Uboth8 Uother8 Uleft8 Uright8 S8 Done
  go_wp2_with fail
  refine (Dbcd.out _ _ _ _ _ _ _ S9.out g1.out g2.out (PB.out.keep S9.out.below) (PC.out.keep S9.out.below)).mono ?_
  rintro e w12 ⟨vbcd, rfl, U, S', BX⟩
  obtain ⟨t10, ht10⟩ : ∃ u, Hid ((t9 && (ebcd == 0)) = u) := ⟨_, rfl⟩
  rw [ht10.out] at S'
  have S10 := Lib.hid S'
  have Uab10 := Lib.hid (BX.prs Uab9.out)
  have Uba10 := Lib.hid (BX.prs Uba9.out)
  have Uboth10 := Lib.hid (BX.prs Uboth9.out)
  have Uother10 := Lib.hid (BX.prs Uother9.out)
  have Uleft10 := Lib.hid (BX.prs Uleft9.out)
  have Uright10 := Lib.hid (BX.prs Uright9.out)
  have Uone10 := Lib.hid (BX.prs Uone9.out)
  have Ubcd10 := Lib.hid U
  clear U S' BX Uab9 Uba9 Uboth9 Uother9 Uleft9 Uright9 Uone9 S9 Dbcd
  go_wp2_with fail
  refine (Dtwo.out _ _ _ _ _ _ _ S10.out g1.out g2.out (PA.out.keep S10.out.below) Ubcd10.out).mono ?_
  rintro e w13 ⟨vtwo, rfl, U, S', BX⟩
  obtain ⟨t11, ht11⟩ : ∃ u, Hid ((t10 && (etwo == 0)) = u) := ⟨_, rfl⟩
  rw [ht11.out] at S'
  have S11 := Lib.hid S'
  have Uab11 := Lib.hid (BX.prs Uab10.out)
  have Uba11 := Lib.hid (BX.prs Uba10.out)
  have Uboth11 := Lib.hid (BX.prs Uboth10.out)
  have Uother11 := Lib.hid (BX.prs Uother10.out)
  have Uleft11 := Lib.hid (BX.prs Uleft10.out)
  have Uright11 := Lib.hid (BX.prs Uright10.out)
  have Uone11 := Lib.hid (BX.prs Uone10.out)
  have Utwo11 := Lib.hid U
  clear U S' BX Uab10 Uba10 Uboth10 Uother10 Uleft10 Uright10 Uone10 Ubcd10 S10 Dtwo
  go_wp2_with fail
  refine (Dthree.out _ _ _ _ _ _ _ S11.out g1.out g2.out Uboth11.out (PC.out.keep S11.out.below)).mono ?_
  rintro e w14 ⟨vthree, rfl, U, S', BX⟩
  obtain ⟨t12, ht12⟩ : ∃ u, Hid ((t11 && (ethree == 0)) = u) := ⟨_, rfl⟩
  rw [ht12.out] at S'
  have S12 := Lib.hid S'
  have Uab12 := Lib.hid (BX.prs Uab11.out)
  have Uba12 := Lib.hid (BX.prs Uba11.out)
  have Uboth12 := Lib.hid (BX.prs Uboth11.out)
  have Uother12 := Lib.hid (BX.prs Uother11.out)
  have Uleft12 := Lib.hid (BX.prs Uleft11.out)
  have Uright12 := Lib.hid (BX.prs Uright11.out)
  have Uone12 := Lib.hid (BX.prs Uone11.out)
  have Utwo12 := Lib.hid (BX.prs Utwo11.out)
  have Uthree12 := Lib.hid U
  clear U S' BX Uab11 Uba11 Uboth11 Uother11 Uleft11 Uright11 Uone11 Utwo11 S11 Dthree
  go_wp2_with fail
  refine (Dbcm.out _ _ _ _ _ _ _ S12.out g1.out g2.out (PB.out.keep S12.out.below) (PC.out.keep S12.out.below)).mono ?_
  rintro e w15 ⟨vbcm, rfl, U, S', BX⟩
  obtain ⟨t13, ht13⟩ : ∃ u, Hid ((t12 && (ebcm == 0)) = u) := ⟨_, rfl⟩
  rw [ht13.out] at S'
  have S13 := Lib.hid S'
  have Uab13 := Lib.hid (BX.prs Uab12.out)
  have Uba13 := Lib.hid (BX.prs Uba12.out)
  have Uboth13 := Lib.hid (BX.prs Uboth12.out)
  have Uother13 := Lib.hid (BX.prs Uother12.out)
  have Uleft13 := Lib.hid (BX.prs Uleft12.out)
  have Uright13 := Lib.hid (BX.prs Uright12.out)
  have Uone13 := Lib.hid (BX.prs Uone12.out)
  have Utwo13 := Lib.hid (BX.prs Utwo12.out)
  have Uthree13 := Lib.hid (BX.prs Uthree12.out)
  have Ubcm13 := Lib.hid U
  clear U S' BX Uab12 Uba12 Uboth12 Uother12 Uleft12 Uright12 Uone12 Utwo12 Uthree12 S12 Dbcm
  go_wp2_with fail
  refine (Dfour.out _ _ _ _ _ _ _ S13.out g1.out g2.out (PA.out.keep S13.out.below) Ubcm13.out).mono ?_
  rintro e w16 ⟨vfour, rfl, U, S', BX⟩
  obtain ⟨t14, ht14⟩ : ∃ u, Hid ((t13 && (efour == 0)) = u) := ⟨_, rfl⟩
  rw [ht14.out] at S'
  have S14 := Lib.hid S'
  have Uab14 := Lib.hid (BX.prs Uab13.out)
  have Uba14 := Lib.hid (BX.prs Uba13.out)
  have Uboth14 := Lib.hid (BX.prs Uboth13.out)
  have Uother14 := Lib.hid (BX.prs Uother13.out)
  have Uleft14 := Lib.hid (BX.prs Uleft13.out)
  have Uright14 := Lib.hid (BX.prs Uright13.out)
  have Uone14 := Lib.hid (BX.prs Uone13.out)
  have Utwo14 := Lib.hid (BX.prs Utwo13.out)
  have Uthree14 := Lib.hid (BX.prs Uthree13.out)
  have Ufour14 := Lib.hid U
  clear U S' BX Uab13 Uba13 Uboth13 Uother13 Uleft13 Uright13 Uone13 Utwo13 Uthree13 Ubcm13 S13 Dfour
  go_wp2_with fail
  refine (Deither.out _ _ _ _ _ _ _ S14.out g1.out g2.out (PA.out.keep S14.out.below) (PB.out.keep S14.out.below)).mono ?_
  rintro e w17 ⟨veither, rfl, U, S', BX⟩
  obtain ⟨t15, ht15⟩ : ∃ u, Hid ((t14 && (eeither == 0)) = u) := ⟨_, rfl⟩
  rw [ht15.out] at S'
  have S15 := Lib.hid S'
  have Uab15 := Lib.hid (BX.prs Uab14.out)
  have Uba15 := Lib.hid (BX.prs Uba14.out)
  have Uboth15 := Lib.hid (BX.prs Uboth14.out)
  have Uother15 := Lib.hid (BX.prs Uother14.out)
  have Uleft15 := Lib.hid (BX.prs Uleft14.out)
  have Uright15 := Lib.hid (BX.prs Uright14.out)
  have Uone15 := Lib.hid (BX.prs Uone14.out)
  have Utwo15 := Lib.hid (BX.prs Utwo14.out)
  have Uthree15 := Lib.hid (BX.prs Uthree14.out)
  have Ufour15 := Lib.hid (BX.prs Ufour14.out)
  have Ueither15 := Lib.hid U
  clear U S' BX Uab14 Uba14 Uboth14 Uother14 Uleft14 Uright14 Uone14 Utwo14 Uthree14 Ufour14 S14 Deither
  go_wp2_with fail
  refine (Dmab.out _ _ _ _ _ _ _ S15.out g1.out g2.out (PA.out.keep S15.out.below) (PB.out.keep S15.out.below)).mono ?_
  rintro e w18 ⟨vmab, rfl, U, S', BX⟩
  obtain ⟨t16, ht16⟩ : ∃ u, Hid ((t15 && (emab == 0)) = u) := ⟨_, rfl⟩
  rw [ht16.out] at S'
  have S16 := Lib.hid S'
  have Uab16 := Lib.hid (BX.prs Uab15.out)
  have Uba16 := Lib.hid (BX.prs Uba15.out)
  have Uboth16 := Lib.hid (BX.prs Uboth15.out)
  have Uother16 := Lib.hid (BX.prs Uother15.out)
  have Uleft16 := Lib.hid (BX.prs Uleft15.out)
  have Uright16 := Lib.hid (BX.prs Uright15.out)
  have Uone16 := Lib.hid (BX.prs Uone15.out)
  have Utwo16 := Lib.hid (BX.prs Utwo15.out)
  have Uthree16 := Lib.hid (BX.prs Uthree15.out)
  have Ufour16 := Lib.hid (BX.prs Ufour15.out)
  have Ueither16 := Lib.hid (BX.prs Ueither15.out)
  have Umab16 := Lib.hid U
  clear U S' BX Uab15 Uba15 Uboth15 Uother15 Uleft15 Uright15 Uone15 Utwo15 Uthree15 Ufour15 Ueither15 S15 Dmab
  go_wp2_with fail
  refine (Dmba.out _ _ _ _ _ _ _ S16.out g1.out g2.out (PB.out.keep S16.out.below) (PA.out.keep S16.out.below)).mono ?_
  rintro e w19 ⟨vmba, rfl, U, S', BX⟩
  obtain ⟨t17, ht17⟩ : ∃ u, Hid ((t16 && (emba == 0)) = u) := ⟨_, rfl⟩
  rw [ht17.out] at S'
  have S17 := Lib.hid S'
  have Uab17 := Lib.hid (BX.prs Uab16.out)
  have Uba17 := Lib.hid (BX.prs Uba16.out)
  have Uboth17 := Lib.hid (BX.prs Uboth16.out)
  have Uother17 := Lib.hid (BX.prs Uother16.out)
  have Uleft17 := Lib.hid (BX.prs Uleft16.out)
  have Uright17 := Lib.hid (BX.prs Uright16.out)
  have Uone17 := Lib.hid (BX.prs Uone16.out)
  have Utwo17 := Lib.hid (BX.prs Utwo16.out)
  have Uthree17 := Lib.hid (BX.prs Uthree16.out)
  have Ufour17 := Lib.hid (BX.prs Ufour16.out)
  have Ueither17 := Lib.hid (BX.prs Ueither16.out)
  have Umab17 := Lib.hid (BX.prs Umab16.out)
  have Umba17 := Lib.hid U
  clear U S' BX Uab16 Uba16 Uboth16 Uother16 Uleft16 Uright16 Uone16 Utwo16 Uthree16 Ufour16 Ueither16 Umab16 S16 Dmba
  go_wp2_with fail
  refine (Dparts.out _ _ _ _ _ _ _ S17.out g1.out g2.out Umab17.out Umba17.out).mono ?_
  rintro e w20 ⟨vparts, rfl, U, S', BX⟩
  obtain ⟨t18, ht18⟩ : ∃ u, Hid ((t17 && (eparts == 0)) = u) := ⟨_, rfl⟩
  rw [ht18.out] at S'
  have S18 := Lib.hid S'
  have Uab18 := Lib.hid (BX.prs Uab17.out)
  have Uba18 := Lib.hid (BX.prs Uba17.out)
  have Uboth18 := Lib.hid (BX.prs Uboth17.out)
  have Uother18 := Lib.hid (BX.prs Uother17.out)
  have Uleft18 := Lib.hid (BX.prs Uleft17.out)
  have Uright18 := Lib.hid (BX.prs Uright17.out)
  have Uone18 := Lib.hid (BX.prs Uone17.out)
  have Utwo18 := Lib.hid (BX.prs Utwo17.out)
  have Uthree18 := Lib.hid (BX.prs Uthree17.out)
  have Ufour18 := Lib.hid (BX.prs Ufour17.out)
  have Ueither18 := Lib.hid (BX.prs Ueither17.out)
  have Uparts18 := Lib.hid U
  clear U S' BX Uab17 Uba17 Uboth17 Uother17 Uleft17 Uright17 Uone17 Utwo17 Uthree17 Ufour17 Ueither17 Umab17 Umba17 S17 Dparts
  go_wp2_with fail
  refine (Douter.out _ _ _ _ _ S18.out g1.out g2.out Uab18.out).mono ?_
  rintro e w21 ⟨vouter, rfl, U, S', BX⟩
  obtain ⟨t19, ht19⟩ : ∃ u, Hid ((t18 && (eouter == 0)) = u) := ⟨_, rfl⟩
  rw [ht19.out] at S'
  have S19 := Lib.hid S'
  have Uab19 := Lib.hid (BX.prs Uab18.out)
  have Uba19 := Lib.hid (BX.prs Uba18.out)
  have Uboth19 := Lib.hid (BX.prs Uboth18.out)
  have Uother19 := Lib.hid (BX.prs Uother18.out)
  have Uleft19 := Lib.hid (BX.prs Uleft18.out)
  have Uright19 := Lib.hid (BX.prs Uright18.out)
  have Uone19 := Lib.hid (BX.prs Uone18.out)
  have Utwo19 := Lib.hid (BX.prs Utwo18.out)
  have Uthree19 := Lib.hid (BX.prs Uthree18.out)
  have Ufour19 := Lib.hid (BX.prs Ufour18.out)
  have Ueither19 := Lib.hid (BX.prs Ueither18.out)
  have Uparts19 := Lib.hid (BX.prs Uparts18.out)
  have Uouter19 := Lib.hid U
  clear U S' BX Uab18 Uba18 Uboth18 Uother18 Uleft18 Uright18 Uone18 Utwo18 Uthree18 Ufour18 Ueither18 Uparts18 S18 Douter
  go_wp2_with fail
  refine (Dna.out _ _ _ _ _ S19.out g1.out g2.out (PA.out.keep S19.out.below)).mono ?_
  rintro e w22 ⟨vna, rfl, U, S', BX⟩
  obtain ⟨t20, ht20⟩ : ∃ u, Hid ((t19 && (ena == 0)) = u) := ⟨_, rfl⟩
  rw [ht20.out] at S'
  have S20 := Lib.hid S'
  have Uab20 := Lib.hid (BX.prs Uab19.out)
  have Uba20 := Lib.hid (BX.prs Uba19.out)
  have Uboth20 := Lib.hid (BX.prs Uboth19.out)
  have Uother20 := Lib.hid (BX.prs Uother19.out)
  have Uleft20 := Lib.hid (BX.prs Uleft19.out)
  have Uright20 := Lib.hid (BX.prs Uright19.out)
  have Uone20 := Lib.hid (BX.prs Uone19.out)
  have Utwo20 := Lib.hid (BX.prs Utwo19.out)
  have Uthree20 := Lib.hid (BX.prs Uthree19.out)
  have Ufour20 := Lib.hid (BX.prs Ufour19.out)
  have Ueither20 := Lib.hid (BX.prs Ueither19.out)
  have Uparts20 := Lib.hid (BX.prs Uparts19.out)
  have Uouter20 := Lib.hid (BX.prs Uouter19.out)
  have Una20 := Lib.hid U
  clear U S' BX Uab19 Uba19 Uboth19 Uother19 Uleft19 Uright19 Uone19 Utwo19 Uthree19 Ufour19 Ueither19 Uparts19 Uouter19 S19 Dna
  go_wp2_with fail
  refine (Dnb.out _ _ _ _ _ S20.out g1.out g2.out (PB.out.keep S20.out.below)).mono ?_
  rintro e w23 ⟨vnb, rfl, U, S', BX⟩
  obtain ⟨t21, ht21⟩ : ∃ u, Hid ((t20 && (enb == 0)) = u) := ⟨_, rfl⟩
  rw [ht21.out] at S'
  have S21 := Lib.hid S'
  have Uab21 := Lib.hid (BX.prs Uab20.out)
  have Uba21 := Lib.hid (BX.prs Uba20.out)
  have Uboth21 := Lib.hid (BX.prs Uboth20.out)
  have Uother21 := Lib.hid (BX.prs Uother20.out)
  have Uleft21 := Lib.hid (BX.prs Uleft20.out)
  have Uright21 := Lib.hid (BX.prs Uright20.out)
  have Uone21 := Lib.hid (BX.prs Uone20.out)
  have Utwo21 := Lib.hid (BX.prs Utwo20.out)
  have Uthree21 := Lib.hid (BX.prs Uthree20.out)
  have Ufour21 := Lib.hid (BX.prs Ufour20.out)
  have Ueither21 := Lib.hid (BX.prs Ueither20.out)
  have Uparts21 := Lib.hid (BX.prs Uparts20.out)
  have Uouter21 := Lib.hid (BX.prs Uouter20.out)
  have Una21 := Lib.hid (BX.prs Una20.out)
  have Unb21 := Lib.hid U
  clear U S' BX Uab20 Uba20 Uboth20 Uother20 Uleft20 Uright20 Uone20 Utwo20 Uthree20 Ufour20 Ueither20 Uparts20 Uouter20 Una20 S20 Dnb
  go_wp2_with fail
  refine (Dinner.out _ _ _ _ _ _ _ S21.out g1.out g2.out Una21.out Unb21.out).mono ?_
  rintro e w24 ⟨vinner, rfl, U, S', BX⟩
  obtain ⟨t22, ht22⟩ : ∃ u, Hid ((t21 && (einner == 0)) = u) := ⟨_, rfl⟩
  rw [ht22.out] at S'
  have S22 := Lib.hid S'
  have Uab22 := Lib.hid (BX.prs Uab21.out)
  have Uba22 := Lib.hid (BX.prs Uba21.out)
  have Uboth22 := Lib.hid (BX.prs Uboth21.out)
  have Uother22 := Lib.hid (BX.prs Uother21.out)
  have Uleft22 := Lib.hid (BX.prs Uleft21.out)
  have Uright22 := Lib.hid (BX.prs Uright21.out)
  have Uone22 := Lib.hid (BX.prs Uone21.out)
  have Utwo22 := Lib.hid (BX.prs Utwo21.out)
  have Uthree22 := Lib.hid (BX.prs Uthree21.out)
  have Ufour22 := Lib.hid (BX.prs Ufour21.out)
  have Ueither22 := Lib.hid (BX.prs Ueither21.out)
  have Uparts22 := Lib.hid (BX.prs Uparts21.out)
  have Uouter22 := Lib.hid (BX.prs Uouter21.out)
  have Uinner22 := Lib.hid U
  clear U S' BX Uab21 Uba21 Uboth21 Uother21 Uleft21 Uright21 Uone21 Utwo21 Uthree21 Ufour21 Ueither21 Uparts21 Uouter21 Una21 Unb21 S21 Dinner
  obtain ⟨xc0, xc1, xcl⟩ := S22.out.bx
  obtain ⟨wl22, hwl⟩ : ∃ w' : World, w24.alloc (.cells #[.int .i64 x, .int .i64 y] 33) = w' := ⟨_, rfl⟩
  have PL := prs_lit hwl (L := [(x, y)]) (n := 1) rfl rfl
  have SL : St w g w.heap.size x y t22 wl22 := by rw [← hwl]; exact S22.out.alloc _
  have BL : Below w24.heap.size w24 wl22 := by rw [← hwl]; exact grow (here _) _
  replace Uab22 := Lib.hid (Uab22.out.keep BL)
  replace Uba22 := Lib.hid (Uba22.out.keep BL)
  replace Uboth22 := Lib.hid (Uboth22.out.keep BL)
  replace Uother22 := Lib.hid (Uother22.out.keep BL)
  replace Uleft22 := Lib.hid (Uleft22.out.keep BL)
  replace Uright22 := Lib.hid (Uright22.out.keep BL)
  replace Uone22 := Lib.hid (Uone22.out.keep BL)
  replace Utwo22 := Lib.hid (Utwo22.out.keep BL)
  replace Uthree22 := Lib.hid (Uthree22.out.keep BL)
  replace Ufour22 := Lib.hid (Ufour22.out.keep BL)
  replace Ueither22 := Lib.hid (Ueither22.out.keep BL)
  replace Uparts22 := Lib.hid (Uparts22.out.keep BL)
  replace Uouter22 := Lib.hid (Uouter22.out.keep BL)
  replace Uinner22 := Lib.hid (Uinner22.out.keep BL)
  replace S22 := Lib.hid SL
  clear SL BL
  go_wp2_with fail
  refine (Dai.out _ _ _ _ _ _ _ S22.out g1.out g2.out (PA.out.keep S22.out.below) PL).mono ?_
  rintro e w25 ⟨vai, rfl, U, S', BX⟩
  obtain ⟨t23, ht23⟩ : ∃ u, Hid ((t22 && (eai == 0)) = u) := ⟨_, rfl⟩
  rw [ht23.out] at S'
  have S23 := Lib.hid S'
  have Uab23 := Lib.hid (BX.prs Uab22.out)
  have Uba23 := Lib.hid (BX.prs Uba22.out)
  have Uboth23 := Lib.hid (BX.prs Uboth22.out)
  have Uother23 := Lib.hid (BX.prs Uother22.out)
  have Uleft23 := Lib.hid (BX.prs Uleft22.out)
  have Uright23 := Lib.hid (BX.prs Uright22.out)
  have Uone23 := Lib.hid (BX.prs Uone22.out)
  have Utwo23 := Lib.hid (BX.prs Utwo22.out)
  have Uthree23 := Lib.hid (BX.prs Uthree22.out)
  have Ufour23 := Lib.hid (BX.prs Ufour22.out)
  have Ueither23 := Lib.hid (BX.prs Ueither22.out)
  have Uparts23 := Lib.hid (BX.prs Uparts22.out)
  have Uouter23 := Lib.hid (BX.prs Uouter22.out)
  have Uinner23 := Lib.hid (BX.prs Uinner22.out)
  have Uai23 := Lib.hid U
  clear U S' BX Uab22 Uba22 Uboth22 Uother22 Uleft22 Uright22 Uone22 Utwo22 Uthree22 Ufour22 Ueither22 Uparts22 Uouter22 Uinner22 S22 Dai PL hwl xc0 xc1 xcl
  go_wp2_with fail
  refine (Dnon.out _ _ _ _ _ S23.out g1.out g2.out Uai23.out).mono ?_
  rintro e w26 ⟨vnon, rfl, U, S', BX⟩
  obtain ⟨t24, ht24⟩ : ∃ u, Hid ((t23 && (enon == 0)) = u) := ⟨_, rfl⟩
  rw [ht24.out] at S'
  have S24 := Lib.hid S'
  have Uab24 := Lib.hid (BX.prs Uab23.out)
  have Uba24 := Lib.hid (BX.prs Uba23.out)
  have Uboth24 := Lib.hid (BX.prs Uboth23.out)
  have Uother24 := Lib.hid (BX.prs Uother23.out)
  have Uleft24 := Lib.hid (BX.prs Uleft23.out)
  have Uright24 := Lib.hid (BX.prs Uright23.out)
  have Uone24 := Lib.hid (BX.prs Uone23.out)
  have Utwo24 := Lib.hid (BX.prs Utwo23.out)
  have Uthree24 := Lib.hid (BX.prs Uthree23.out)
  have Ufour24 := Lib.hid (BX.prs Ufour23.out)
  have Ueither24 := Lib.hid (BX.prs Ueither23.out)
  have Uparts24 := Lib.hid (BX.prs Uparts23.out)
  have Uouter24 := Lib.hid (BX.prs Uouter23.out)
  have Uinner24 := Lib.hid (BX.prs Uinner23.out)
  have Unon24 := Lib.hid U
  clear U S' BX Uab23 Uba23 Uboth23 Uother23 Uleft23 Uright23 Uone23 Utwo23 Uthree23 Ufour23 Ueither23 Uparts23 Uouter23 Uinner23 Uai23 S23 Dnon
  go_wp2_with fail
  refine (Dback.out _ _ _ _ _ S24.out g1.out g2.out Unon24.out).mono ?_
  rintro e w27 ⟨vback, rfl, U, S', BX⟩
  obtain ⟨t25, ht25⟩ : ∃ u, Hid ((t24 && (eback == 0)) = u) := ⟨_, rfl⟩
  rw [ht25.out] at S'
  have S25 := Lib.hid S'
  have Uab25 := Lib.hid (BX.prs Uab24.out)
  have Uba25 := Lib.hid (BX.prs Uba24.out)
  have Uboth25 := Lib.hid (BX.prs Uboth24.out)
  have Uother25 := Lib.hid (BX.prs Uother24.out)
  have Uleft25 := Lib.hid (BX.prs Uleft24.out)
  have Uright25 := Lib.hid (BX.prs Uright24.out)
  have Uone25 := Lib.hid (BX.prs Uone24.out)
  have Utwo25 := Lib.hid (BX.prs Utwo24.out)
  have Uthree25 := Lib.hid (BX.prs Uthree24.out)
  have Ufour25 := Lib.hid (BX.prs Ufour24.out)
  have Ueither25 := Lib.hid (BX.prs Ueither24.out)
  have Uparts25 := Lib.hid (BX.prs Uparts24.out)
  have Uouter25 := Lib.hid (BX.prs Uouter24.out)
  have Uinner25 := Lib.hid (BX.prs Uinner24.out)
  have Uback25 := Lib.hid U
  clear U S' BX Uab24 Uba24 Uboth24 Uother24 Uleft24 Uright24 Uone24 Utwo24 Uthree24 Ufour24 Ueither24 Uparts24 Uouter24 Uinner24 Unon24 S24 Dback
  obtain ⟨xc0, xc1, xcl⟩ := S25.out.bx
  obtain ⟨wl25, hwl⟩ : ∃ w' : World, w27.alloc (.cells #[.int .i64 x, .int .i64 y] 33) = w' := ⟨_, rfl⟩
  have PL := prs_lit hwl (L := [(x, y)]) (n := 1) rfl rfl
  have SL : St w g w.heap.size x y t25 wl25 := by rw [← hwl]; exact S25.out.alloc _
  have BL : Below w27.heap.size w27 wl25 := by rw [← hwl]; exact grow (here _) _
  replace Uab25 := Lib.hid (Uab25.out.keep BL)
  replace Uba25 := Lib.hid (Uba25.out.keep BL)
  replace Uboth25 := Lib.hid (Uboth25.out.keep BL)
  replace Uother25 := Lib.hid (Uother25.out.keep BL)
  replace Uleft25 := Lib.hid (Uleft25.out.keep BL)
  replace Uright25 := Lib.hid (Uright25.out.keep BL)
  replace Uone25 := Lib.hid (Uone25.out.keep BL)
  replace Utwo25 := Lib.hid (Utwo25.out.keep BL)
  replace Uthree25 := Lib.hid (Uthree25.out.keep BL)
  replace Ufour25 := Lib.hid (Ufour25.out.keep BL)
  replace Ueither25 := Lib.hid (Ueither25.out.keep BL)
  replace Uparts25 := Lib.hid (Uparts25.out.keep BL)
  replace Uouter25 := Lib.hid (Uouter25.out.keep BL)
  replace Uinner25 := Lib.hid (Uinner25.out.keep BL)
  replace Uback25 := Lib.hid (Uback25.out.keep BL)
  replace S25 := Lib.hid SL
  clear SL BL
  go_wp2_with fail
  refine (Dinside.out _ _ _ _ _ _ _ S25.out g1.out g2.out (PA.out.keep S25.out.below) PL).mono ?_
  rintro e w28 ⟨vinside, rfl, U, S', BX⟩
  obtain ⟨t26, ht26⟩ : ∃ u, Hid ((t25 && (einside == 0)) = u) := ⟨_, rfl⟩
  rw [ht26.out] at S'
  have S26 := Lib.hid S'
  have Uab26 := Lib.hid (BX.prs Uab25.out)
  have Uba26 := Lib.hid (BX.prs Uba25.out)
  have Uboth26 := Lib.hid (BX.prs Uboth25.out)
  have Uother26 := Lib.hid (BX.prs Uother25.out)
  have Uleft26 := Lib.hid (BX.prs Uleft25.out)
  have Uright26 := Lib.hid (BX.prs Uright25.out)
  have Uone26 := Lib.hid (BX.prs Uone25.out)
  have Utwo26 := Lib.hid (BX.prs Utwo25.out)
  have Uthree26 := Lib.hid (BX.prs Uthree25.out)
  have Ufour26 := Lib.hid (BX.prs Ufour25.out)
  have Ueither26 := Lib.hid (BX.prs Ueither25.out)
  have Uparts26 := Lib.hid (BX.prs Uparts25.out)
  have Uouter26 := Lib.hid (BX.prs Uouter25.out)
  have Uinner26 := Lib.hid (BX.prs Uinner25.out)
  have Uback26 := Lib.hid (BX.prs Uback25.out)
  have Uinside26 := Lib.hid U
  clear U S' BX Uab25 Uba25 Uboth25 Uother25 Uleft25 Uright25 Uone25 Utwo25 Uthree25 Ufour25 Ueither25 Uparts25 Uouter25 Uinner25 Uback25 S25 Dinside PL hwl xc0 xc1 xcl
  obtain ⟨okc, okl⟩ := S26.out.ok
  cases q : t26
  · rw [q] at okc
    go_wp2
    go_ret
    exact ⟨rfl, S26.out.below⟩
  · rw [q] at okc
    obtain ⟨q25, zinside⟩ := Bool.and_eq_true_iff.1 (ht26.out.trans q)
    replace zinside := eq_of_beq zinside
    obtain ⟨q24, zback⟩ := Bool.and_eq_true_iff.1 (ht25.out.trans q25)
    replace zback := eq_of_beq zback
    obtain ⟨q23, znon⟩ := Bool.and_eq_true_iff.1 (ht24.out.trans q24)
    replace znon := eq_of_beq znon
    obtain ⟨q22, zai⟩ := Bool.and_eq_true_iff.1 (ht23.out.trans q23)
    replace zai := eq_of_beq zai
    obtain ⟨q21, zinner⟩ := Bool.and_eq_true_iff.1 (ht22.out.trans q22)
    replace zinner := eq_of_beq zinner
    obtain ⟨q20, znb⟩ := Bool.and_eq_true_iff.1 (ht21.out.trans q21)
    replace znb := eq_of_beq znb
    obtain ⟨q19, zna⟩ := Bool.and_eq_true_iff.1 (ht20.out.trans q20)
    replace zna := eq_of_beq zna
    obtain ⟨q18, zouter⟩ := Bool.and_eq_true_iff.1 (ht19.out.trans q19)
    replace zouter := eq_of_beq zouter
    obtain ⟨q17, zparts⟩ := Bool.and_eq_true_iff.1 (ht18.out.trans q18)
    replace zparts := eq_of_beq zparts
    obtain ⟨q16, zmba⟩ := Bool.and_eq_true_iff.1 (ht17.out.trans q17)
    replace zmba := eq_of_beq zmba
    obtain ⟨q15, zmab⟩ := Bool.and_eq_true_iff.1 (ht16.out.trans q16)
    replace zmab := eq_of_beq zmab
    obtain ⟨q14, zeither⟩ := Bool.and_eq_true_iff.1 (ht15.out.trans q15)
    replace zeither := eq_of_beq zeither
    obtain ⟨q13, zfour⟩ := Bool.and_eq_true_iff.1 (ht14.out.trans q14)
    replace zfour := eq_of_beq zfour
    obtain ⟨q12, zbcm⟩ := Bool.and_eq_true_iff.1 (ht13.out.trans q13)
    replace zbcm := eq_of_beq zbcm
    obtain ⟨q11, zthree⟩ := Bool.and_eq_true_iff.1 (ht12.out.trans q12)
    replace zthree := eq_of_beq zthree
    obtain ⟨q10, ztwo⟩ := Bool.and_eq_true_iff.1 (ht11.out.trans q11)
    replace ztwo := eq_of_beq ztwo
    obtain ⟨q9, zbcd⟩ := Bool.and_eq_true_iff.1 (ht10.out.trans q10)
    replace zbcd := eq_of_beq zbcd
    obtain ⟨q8, zone⟩ := Bool.and_eq_true_iff.1 (ht9.out.trans q9)
    replace zone := eq_of_beq zone
    obtain ⟨q7, zright⟩ := Bool.and_eq_true_iff.1 (ht8.out.trans q8)
    replace zright := eq_of_beq zright
    obtain ⟨q6, zac⟩ := Bool.and_eq_true_iff.1 (ht7.out.trans q7)
    replace zac := eq_of_beq zac
    obtain ⟨q5, zleft⟩ := Bool.and_eq_true_iff.1 (ht6.out.trans q6)
    replace zleft := eq_of_beq zleft
    obtain ⟨q4, zbc⟩ := Bool.and_eq_true_iff.1 (ht5.out.trans q5)
    replace zbc := eq_of_beq zbc
    obtain ⟨q3, zother⟩ := Bool.and_eq_true_iff.1 (ht4.out.trans q4)
    replace zother := eq_of_beq zother
    obtain ⟨q2, zboth⟩ := Bool.and_eq_true_iff.1 (ht3.out.trans q3)
    replace zboth := eq_of_beq zboth
    obtain ⟨q1, zba⟩ := Bool.and_eq_true_iff.1 (ht2.out.trans q2)
    replace zba := eq_of_beq zba
    obtain ⟨q0, zab⟩ := Bool.and_eq_true_iff.1 (ht1.out.trans q1)
    replace zab := eq_of_beq zab
    replace E0 := E0 zab zba zboth zother zbc zleft zac zright zone zbcd ztwo zthree zbcm zfour zeither zmab zmba zparts zouter zna znb zinner zai znon zback zinside
    replace E1 := E1 zab zba zboth zother zbc zleft zac zright zone zbcd ztwo zthree zbcm zfour zeither zmab zmba zparts zouter zna znb zinner zai znon zback zinside
    replace E2 := E2 zab zba zboth zother zbc zleft zac zright zone zbcd ztwo zthree zbcm zfour zeither zmab zmba zparts zouter zna znb zinner zai znon zback zinside
    replace E3 := E3 zab zba zboth zother zbc zleft zac zright zone zbcd ztwo zthree zbcm zfour zeither zmab zmba zparts zouter zna znb zinner zai znon zback zinside
    replace E4 := E4 zab zba zboth zother zbc zleft zac zright zone zbcd ztwo zthree zbcm zfour zeither zmab zmba zparts zouter zna znb zinner zai znon zback zinside
    replace E5 := E5 zab zba zboth zother zbc zleft zac zright zone zbcd ztwo zthree zbcm zfour zeither zmab zmba zparts zouter zna znb zinner zai znon zback zinside
    replace E6 := E6 zab zba zboth zother zbc zleft zac zright zone zbcd ztwo zthree zbcm zfour zeither zmab zmba zparts zouter zna znb zinner zai znon zback zinside
    replace E7 := E7 zab zba zboth zother zbc zleft zac zright zone zbcd ztwo zthree zbcm zfour zeither zmab zmba zparts zouter zna znb zinner zai znon zback zinside
    have AF := Lib.hid S26.out.below
    clear ht1 ht2 ht3 ht4 ht5 ht6 ht7 ht8 ht9 ht10 ht11 ht12 ht13 ht14 ht15 ht16 ht17 ht18 ht19 ht20 ht21 ht22 ht23 ht24 ht25 ht26 q0 q1 q2 q3 q4 q5 q6 q7 q8 q9 q10 q11 q12 q13 q14 q15 q16 q17 q18 q19 q20 q21 q22 q23 q24 q25 zab zba zboth zother zbc zleft zac zright zone zbcd ztwo zthree zbcm zfour zeither zmab zmba zparts zouter zna znb zinner zai znon zback zinside S26
    go_wp2_with fail
    refine (E0.out _ _ _ _ _ Uab26.out Uba26.out).mono ?_
    rintro e w29 ⟨rfl, hb⟩
    replace AF := Lib.hid (down AF.out hb)
    have Uboth27 := Lib.hid (Uboth26.out.keep hb)
    have Uother27 := Lib.hid (Uother26.out.keep hb)
    have Uleft27 := Lib.hid (Uleft26.out.keep hb)
    have Uright27 := Lib.hid (Uright26.out.keep hb)
    have Uone27 := Lib.hid (Uone26.out.keep hb)
    have Utwo27 := Lib.hid (Utwo26.out.keep hb)
    have Uthree27 := Lib.hid (Uthree26.out.keep hb)
    have Ufour27 := Lib.hid (Ufour26.out.keep hb)
    have Ueither27 := Lib.hid (Ueither26.out.keep hb)
    have Uparts27 := Lib.hid (Uparts26.out.keep hb)
    have Uouter27 := Lib.hid (Uouter26.out.keep hb)
    have Uinner27 := Lib.hid (Uinner26.out.keep hb)
    have Uback27 := Lib.hid (Uback26.out.keep hb)
    have Uinside27 := Lib.hid (Uinside26.out.keep hb)
    clear hb Uab26 Uba26 Uboth26 Uother26 Uleft26 Uright26 Uone26 Utwo26 Uthree26 Ufour26 Ueither26 Uparts26 Uouter26 Uinner26 Uback26 Uinside26 E0 okc okl
    go_wp2_with fail
    refine (E1.out _ _ _ _ _ Uboth27.out Uother27.out).mono ?_
    rintro e w30 ⟨rfl, hb⟩
    replace AF := Lib.hid (down AF.out hb)
    have Uleft28 := Lib.hid (Uleft27.out.keep hb)
    have Uright28 := Lib.hid (Uright27.out.keep hb)
    have Uone28 := Lib.hid (Uone27.out.keep hb)
    have Utwo28 := Lib.hid (Utwo27.out.keep hb)
    have Uthree28 := Lib.hid (Uthree27.out.keep hb)
    have Ufour28 := Lib.hid (Ufour27.out.keep hb)
    have Ueither28 := Lib.hid (Ueither27.out.keep hb)
    have Uparts28 := Lib.hid (Uparts27.out.keep hb)
    have Uouter28 := Lib.hid (Uouter27.out.keep hb)
    have Uinner28 := Lib.hid (Uinner27.out.keep hb)
    have Uback28 := Lib.hid (Uback27.out.keep hb)
    have Uinside28 := Lib.hid (Uinside27.out.keep hb)
    clear hb Uboth27 Uother27 Uleft27 Uright27 Uone27 Utwo27 Uthree27 Ufour27 Ueither27 Uparts27 Uouter27 Uinner27 Uback27 Uinside27 E1
    go_wp2_with fail
    refine (E2.out _ _ _ _ _ Uleft28.out Uright28.out).mono ?_
    rintro e w31 ⟨rfl, hb⟩
    replace AF := Lib.hid (down AF.out hb)
    have Uone29 := Lib.hid (Uone28.out.keep hb)
    have Utwo29 := Lib.hid (Utwo28.out.keep hb)
    have Uthree29 := Lib.hid (Uthree28.out.keep hb)
    have Ufour29 := Lib.hid (Ufour28.out.keep hb)
    have Ueither29 := Lib.hid (Ueither28.out.keep hb)
    have Uparts29 := Lib.hid (Uparts28.out.keep hb)
    have Uouter29 := Lib.hid (Uouter28.out.keep hb)
    have Uinner29 := Lib.hid (Uinner28.out.keep hb)
    have Uback29 := Lib.hid (Uback28.out.keep hb)
    have Uinside29 := Lib.hid (Uinside28.out.keep hb)
    clear hb Uleft28 Uright28 Uone28 Utwo28 Uthree28 Ufour28 Ueither28 Uparts28 Uouter28 Uinner28 Uback28 Uinside28 E2
    go_wp2_with fail
    refine (E3.out _ _ _ _ _ Uone29.out Utwo29.out).mono ?_
    rintro e w32 ⟨rfl, hb⟩
    replace AF := Lib.hid (down AF.out hb)
    have Uthree30 := Lib.hid (Uthree29.out.keep hb)
    have Ufour30 := Lib.hid (Ufour29.out.keep hb)
    have Ueither30 := Lib.hid (Ueither29.out.keep hb)
    have Uparts30 := Lib.hid (Uparts29.out.keep hb)
    have Uouter30 := Lib.hid (Uouter29.out.keep hb)
    have Uinner30 := Lib.hid (Uinner29.out.keep hb)
    have Uback30 := Lib.hid (Uback29.out.keep hb)
    have Uinside30 := Lib.hid (Uinside29.out.keep hb)
    clear hb Uone29 Utwo29 Uthree29 Ufour29 Ueither29 Uparts29 Uouter29 Uinner29 Uback29 Uinside29 E3
    go_wp2_with fail
    refine (E4.out _ _ _ _ _ Uthree30.out Ufour30.out).mono ?_
    rintro e w33 ⟨rfl, hb⟩
    replace AF := Lib.hid (down AF.out hb)
    have Ueither31 := Lib.hid (Ueither30.out.keep hb)
    have Uparts31 := Lib.hid (Uparts30.out.keep hb)
    have Uouter31 := Lib.hid (Uouter30.out.keep hb)
    have Uinner31 := Lib.hid (Uinner30.out.keep hb)
    have Uback31 := Lib.hid (Uback30.out.keep hb)
    have Uinside31 := Lib.hid (Uinside30.out.keep hb)
    clear hb Uthree30 Ufour30 Ueither30 Uparts30 Uouter30 Uinner30 Uback30 Uinside30 E4
    go_wp2_with fail
    refine (E5.out _ _ _ _ _ Ueither31.out Uparts31.out).mono ?_
    rintro e w34 ⟨rfl, hb⟩
    replace AF := Lib.hid (down AF.out hb)
    have Uouter32 := Lib.hid (Uouter31.out.keep hb)
    have Uinner32 := Lib.hid (Uinner31.out.keep hb)
    have Uback32 := Lib.hid (Uback31.out.keep hb)
    have Uinside32 := Lib.hid (Uinside31.out.keep hb)
    clear hb Ueither31 Uparts31 Uouter31 Uinner31 Uback31 Uinside31 E5
    go_wp2_with fail
    refine (E6.out _ _ _ _ _ Uouter32.out Uinner32.out).mono ?_
    rintro e w35 ⟨rfl, hb⟩
    replace AF := Lib.hid (down AF.out hb)
    have Uback33 := Lib.hid (Uback32.out.keep hb)
    have Uinside33 := Lib.hid (Uinside32.out.keep hb)
    clear hb Uouter32 Uinner32 Uback32 Uinside32 E6
    go_wp2_with fail
    refine (E7.out _ _ _ _ _ Uback33.out Uinside33.out).mono ?_
    rintro e w36 ⟨rfl, hb⟩
    replace AF := Lib.hid (down AF.out hb)
    clear hb Uback33 Uinside33 E7
    go_wp2
    go_ret
    exact ⟨rfl, AF.out⟩
end Go.Proofs.Ytdkmahdfnmoliaa
