/- LSrch. -/
import Derived.Test.YtmamlgaogpkagaaGreatZLGen
import Derived.Test.YtmamlgaogpkagaaGreatProg
import Derived.WalkKit
import Derived.Deep.LoopGhost
import Derived.Shelf.RegionOpenPlain
namespace Go.Proofs.YtmamlgaogpkagaaGreat
open Go.RowKit
set_option linter.unusedVariables false
set_option linter.unusedSimpArgs false
set_option maxRecDepth 100000 in
set_option maxHeartbeats 1000000 in
theorem search_all (n:Nat) (K:Nat) (p:Nat→Bool) (g:FuncId) (caps:Array Value) (hn:n≤1000000) (w:World) (eg:∀ args w,(callFunc g args).run Tryz.prog w=.ok (.enter g args) w)
  (hK:K≤n) (lo:∀ i,i<K→p i=false) (up:∀ i,K≤i→i<n→p i=true)
  (hf:∀ (i:Nat) w',i<n→Below w.heap.size w w'→Calls Tryz.prog g (#[.int .i64 i]++caps) w' fun e w''=>e=.returned (.bool (p i))∧Below w'.heap.size w' w'') :
  Calls Tryz.prog 159 #[.int .i64 n,.func (.func g) #[] caps] w fun e w'=>e=.returned (.int .i64 K)∧Below w.heap.size w w':=by
 have HF:=zh hf;have LO:=zh lo;have UP:=zh up;clear hf lo up
 go_enter Tryz.func159,Tryz.ntmps159
 go_wp2
 go_loopw [5,6] (fun a b wr=>∃ x y:Nat,x≤K∧K≤y∧y≤n∧a=.int .i64 x∧b=.int .i64 y∧Hid (Below w.heap.size w wr)) (fun a b _=>(intOf b - intOf a).toNat)
 case atStart=>exact ⟨0,n,Nat.zero_le _,hK,Nat.le_refl _,rfl,rfl,here w⟩
 case round =>
  obtain ⟨x,y,hx,hy,yn,rfl,rfl,HA⟩:=hrel
  by_cases z:x<y
  ·have kz:decide ((x:Int)<(y:Int))=true:=zdt (by omega);have hc:=HF.out ((x+y) / 2) wr (by omega) HA.out;have e1:(((x+y) / 2:Nat):Int)=((x:Int)+(y:Int)) / 2:=by omega
   rw [e1] at hc
   by_cases q:(x+y) / 2<K
   ·rw [LO.out _ q] at hc;go_wp2_with (go_at_fn g;refine hc.mono ?_;rintro e w' ⟨rfl,hb⟩)
    have A5:=zd HA hb
    go_roundw
    case rel=>exact ⟨(x+y) / 2+1,y,by omega,hy,yn,by rw [← e1];rfl,rfl,A5⟩
    case measure=>simp [intOf];omega
   ·rw [UP.out _ (by omega) (by omega)] at hc;go_wp2_with (go_at_fn g;refine hc.mono ?_;rintro e w' ⟨rfl,hb⟩)
    have A5:=zd HA hb
    go_roundw
    case rel=>exact ⟨x,(x+y) / 2,hx,by omega,by omega,rfl,by rw [e1],A5⟩
    case measure=>simp [intOf];omega
  ·obtain rfl:x=K:=by omega
   obtain rfl:y=x:=by omega
   have kz:decide ((y:Int)<(y:Int))=false:=zdf (by omega);go_wp2
   go_ret
   exact ⟨rfl,HA.out⟩
end Go.Proofs.YtmamlgaogpkagaaGreat
