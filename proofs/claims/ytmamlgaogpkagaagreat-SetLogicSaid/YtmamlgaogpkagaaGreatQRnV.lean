/- RnV RnW RnX RnKB. -/
import Derived.Test.YtmamlgaogpkagaaGreatQLPlain
import Derived.Test.YtmamlgaogpkagaaGreatQLGen
import Derived.Test.YtmamlgaogpkagaaGreatQLSl
import Derived.Deep.RegionWith
import Derived.Deep.RegionHeld3
import Derived.Laws.AppendOwnNone
namespace Go.Proofs.YtmamlgaogpkagaaGreat
open Go.RowKit
set_option linter.unusedVariables false
set_option linter.unusedSimpArgs false
theorem infoS:(Tryz.prog.info? 40).map (fun i=>(i.zero,i.size,i.bytes))=some (some (.agg #[.int .i64 0,.int .i64 0]),2,16):=by kernel_rfl
theorem pairs_set (R:List Sp) (q:Sp) (y:Int):(pairs (R++[q])).set (R.length * 2+1) (.int .i64 y)=pairs (R++[(q.1,y)]):=by
  induction R with
  | nil=>rfl
  | cons p R ih =>
    have e:(p :: R).length * 2+1=(R.length * 2+1)+1+1:=by simp;omega
    rw [e]
    show Value.int .i64 p.1 :: Value.int .i64 p.2 :: (pairs (R++[q])).set (R.length * 2+1) (.int .i64 y)=_
    rw [ih];rfl
theorem pairs_one (L:List Sp):∀ u∈pairs L,u.oneCell'=true:=by
  induction L with
  | nil=>intro u hu;cases hu
  | cons p L ih =>
    intro u hu
    rcases List.mem_cons.1 hu with rfl | hu
    · rfl
    · rcases List.mem_cons.1 hu with rfl | hu
      · rfl
      · exact ih u hu
theorem own_prs {w:World} {B:Nat} {v:Value} {L:List Sp} (h:w.ownsRow B 40 2 v L.length (pairs L)):PairS B w v L:=Sl.owns h
theorem rulimited (o:Option Addr) (n c:Nat) (hn:n≤maxLen) (w:World) :
    Calls Tryz.prog 130 #[.slice o n c] w fun e w'=>e=.returned (if 2000<n then .tuple #[.slice none 0 0,.int .i64 5] else .tuple #[.slice o n c,.int .i64 0])∧w=w':=by
  unfold maxLen at hn
  by_cases l:2000<n
  · rw [if_pos l];have kl:decide (2000<(n:Int))=true:=zdt (by omega);clear l
    go_enter Tryz.func130,Tryz.ntmps130
    go_wp2
    go_ret2
    exact ⟨rfl,rfl⟩
  · rw [if_neg l];have kl:decide (2000<(n:Int))=false:=zdf (by omega);clear l
    go_enter Tryz.func130,Tryz.ntmps130
    go_wp2
    go_ret2
    exact ⟨rfl,rfl⟩
theorem ruinside (i:Nat) (hi:i≤100000) (w:World) :
    Calls Tryz.prog 198 #[.int .i64 i] w fun e w'=>e=.returned (.bool (decide (i % 2=1)))∧w=w':=by
  obtain ⟨m,hm⟩:∃ m,i=2 * m∨i=2 * m+1:=⟨i / 2,by omega⟩
  rcases hm with rfl | rfl
  · have e1:decide (2 * m % 2=1)=false:=zdf (by omega);have t1:((2 * m:Nat):Int) % 2=0:=by omega
    have t1':(((2 * m:Nat):Int).tmod 2)=0:=by rw [Int.tmod_eq_emod_of_nonneg (by omega)];omega
    rw [e1];generalize ((2 * m:Nat):Int)=z at *
    go_enter Tryz.func198,Tryz.ntmps198
    go_wp2
    go_ret
    exact ⟨rfl,rfl⟩
  · have e1:decide ((2 * m+1) % 2=1)=true:=zdt (by omega);have t1:((2 * m+1:Nat):Int) % 2=1:=by omega
    have t1':(((2 * m+1:Nat):Int).tmod 2)=1:=by rw [Int.tmod_eq_emod_of_nonneg (by omega)];omega
    rw [e1];generalize ((2 * m+1:Nat):Int)=z at *
    go_enter Tryz.func198,Tryz.ntmps198
    go_wp2
    go_ret
    exact ⟨rfl,rfl⟩
set_option maxRecDepth 100000 in
set_option maxHeartbeats 1000000 in
theorem ruend (v:Value) (A:List Sp) (va:vaB A=true) (i:Nat) (hi:i≤2 * A.length) {base:Nat} (w:World) (h:PairS base w v A) :
    Calls Tryz.prog 197 #[v,.int .i64 i] w fun e w'=>e=.returned (.int .i64 (edL A i))∧w=w':=by
  have hl:=va_len va;obtain ⟨o,c,rfl⟩:=prs_shape h;have HP:=zh h;clear h va
  by_cases z:2 * A.length≤i
  · have kz:decide (2 * (A.length:Int)≤(i:Int))=true:=zdt (by omega);rw [ed_off z];clear z;generalize A.length=n at *
    go_enter Tryz.func197,Tryz.ntmps197
    go_wp2
    go_ret
    exact ⟨rfl,rfl⟩
  have kz:decide (2 * (A.length:Int)≤(i:Int))=false:=zdf (by omega);obtain ⟨m,hm⟩:∃ m,i=2 * m∨i=2 * m+1:=⟨i / 2,by omega⟩;obtain ⟨b,off,rfl,bl,cs⟩:=prs_here HP.out (show m<A.length by omega);obtain ⟨c0,c1⟩:=cs m (by omega);have ml:m<A.length:=by omega
  rcases hm with rfl | rfl
  · have t1:((2 * m:Nat):Int) % 2=0:=by omega
    have t1':(((2 * m:Nat):Int).tmod 2)=0:=by rw [Int.tmod_eq_emod_of_nonneg (by omega)];omega
    have t2:((2 * m:Nat):Int) / 2=m:=by omega
    have t2':(((2 * m:Nat):Int).tdiv 2)=m:=by rw [Int.tdiv_eq_ediv_of_nonneg (by omega)];omega
    rw [ed_even ml];have b0:(0:Int)≤((2 * m:Nat):Int):=by omega
    have b1:((2 * m:Nat):Int)≤4000:=by omega
    clear cs HP c1 z;generalize (A.getD m (0,0)).1=x at *;generalize ((2 * m:Nat):Int)=y at *;generalize A.length=n at *
    go_enter Tryz.func197,Tryz.ntmps197
    go_wp2
    go_ret
    exact ⟨rfl,rfl⟩
  · have t1:((2 * m+1:Nat):Int) % 2=1:=by omega
    have t1':(((2 * m+1:Nat):Int).tmod 2)=1:=by rw [Int.tmod_eq_emod_of_nonneg (by omega)];omega
    have t2:((2 * m+1:Nat):Int) / 2=m:=by omega
    have t2':(((2 * m+1:Nat):Int).tdiv 2)=m:=by rw [Int.tdiv_eq_ediv_of_nonneg (by omega)];omega
    rw [ed_odd ml];have b0:(0:Int)≤((2 * m+1:Nat):Int):=by omega
    have b1:((2 * m+1:Nat):Int)≤4000:=by omega
    clear cs HP c0 z;generalize (A.getD m (0,0)).2=x at *;generalize ((2 * m+1:Nat):Int)=y at *;generalize A.length=n at *
    go_enter Tryz.func197,Tryz.ntmps197
    go_wp2
    go_ret
    exact ⟨rfl,rfl⟩
end Go.Proofs.YtmamlgaogpkagaaGreat
