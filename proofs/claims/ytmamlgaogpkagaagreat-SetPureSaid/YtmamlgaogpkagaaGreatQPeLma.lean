/- PeLma. -/
import Derived.Test.YtmamlgaogpkagaaGreatQLPlain
import Derived.Test.YtmamlgaogpkagaaGreatQLPlaina
import Derived.Test.YtmamlgaogpkagaaGreatQLGen
import Derived.Test.YtmamlgaogpkagaaGreatQPeLm
import Derived.Test.YtmamlgaogpkagaaGreatShelf
import Derived.WalkKit
import Derived.Outline
import Derived.Lib.Hide
import Derived.Deep.QuietTactic
import Derived.BigQuiet
namespace Go.Proofs.YtmamlgaogpkagaaGreat
open Go.RowKit
set_option linter.unusedVariables false
set_option linter.unusedSimpArgs false
set_option maxHeartbeats 400000 in
theorem refmul_all (a b:Int) (h0:-9223372036854775808≤a) (h1:a≤9223372036854775807) (h2:-9223372036854775808≤b) (h3:b≤9223372036854775807) (w:World) :
    Calls Tryz.prog 181 #[.int .i64 a,.int .i64 b] w fun e w'=>e=.returned (.tuple #[.int .i64 (xV (a * b)),.int .i64 (xE (a * b))])∧w=w':=by
  by_cases az:a=0
  · subst az;rw [Int.zero_mul]
    go_enter Tryz.func181,Tryz.ntmps181
    go_wp2
    go_ret2
    exact ⟨rfl,rfl⟩
  by_cases bz:b=0
  · subst bz;rw [Int.mul_zero];have e1:(a==0)=false:=by simpa using az
    go_enter Tryz.func181,Tryz.ntmps181
    go_wp2
    go_ret2
    exact ⟨rfl,rfl⟩
  by_cases s1:a=-9223372036854775808∧b=-1
  · obtain ⟨rfl,rfl⟩:=s1;rw [xV_out (by decide),xE_out (by decide)]
    go_enter Tryz.func181,Tryz.ntmps181
    go_wp2
    go_ret2
    exact ⟨rfl,rfl⟩
  by_cases s2:b=-9223372036854775808∧a=-1
  · obtain ⟨rfl,rfl⟩:=s2;rw [xV_out (by decide),xE_out (by decide)]
    go_enter Tryz.func181,Tryz.ntmps181
    go_wp2
    go_ret2
    exact ⟨rfl,rfl⟩
  have e1:(a==0)=false:=by simpa using az
  have e2:(b==0)=false:=by simpa using bz
  obtain ⟨c1,hc1⟩:∃ c,(a==-9223372036854775808)=c:=⟨_,rfl⟩;obtain ⟨d1,hd1⟩:∃ c,(b==-1)=c:=⟨_,rfl⟩;obtain ⟨c2,hc2⟩:∃ c,(b==-9223372036854775808)=c:=⟨_,rfl⟩;obtain ⟨d2,hd2⟩:∃ c,(a==-1)=c:=⟨_,rfl⟩;have e3:(c1&&d1)=false:=by subst hc1;subst hd1;rw [Bool.and_eq_false_iff];simp only [beq_eq_false_iff_ne];omega
  have e4:(c2&&d2)=false:=by subst hc2;subst hd2;rw [Bool.and_eq_false_iff];simp only [beq_eq_false_iff_ne];omega
  have mb:=mul_back (a:=a) bz h2 h3;have tb:=tq_bd (a:=wrap64 (a * b)) (b:=b) (by unfold wrap64;omega) (by unfold wrap64;omega) (by unfold wrap64;rintro ⟨x,rfl⟩;omega) bz;obtain ⟨p,hp⟩:∃ p,wrap64 (a * b)=p:=⟨_,rfl⟩;rw [hp] at mb tb;obtain ⟨t,ht⟩:∃ t,p.tdiv b=t:=⟨_,rfl⟩;rw [ht] at mb tb;obtain ⟨t0,t1⟩:=tb;have P:(if ta:t=a then a * b=p else True):=by
    split
    · have:=mb.1 (by assumption);rw [← hp];unfold wrap64;omega
    · trivial
  clear s1 s2 az
  by_cases ta:t=a
  · rw [xV_in (mb.1 ta),xE_in (mb.1 ta)];rw [dif_pos ta] at P;rw [P];subst ta;clear mb P;have hp':wrap64 (t * b)=p:=hp
    cases c1 <;> cases d1 <;> (try cases e3) <;> cases c2 <;> cases d2 <;> (try cases e4)
    all_goals
      go_enter Tryz.func181,Tryz.ntmps181
      go_wp2
      go_ret2
      exact ⟨by show Ending.returned (.tuple #[.int .i64 (wrap64 (t * b)),.int .i64 0])=_;rw [hp],rfl⟩
  · rw [xV_out (mt mb.2 ta),xE_out (mt mb.2 ta)];have ta':(t != a)=true:=by simpa using ta
    clear mb P
    cases c1 <;> cases d1 <;> (try cases e3) <;> cases c2 <;> cases d2 <;> (try cases e4)
    all_goals
      go_enter Tryz.func181,Tryz.ntmps181
      go_wp2
      go_ret2
      exact ⟨rfl,rfl⟩
theorem gcd_tstep (x y:Int):Int.gcd y (x.tmod y)=Int.gcd x y:=by
 show Nat.gcd y.natAbs (x.tmod y).natAbs=Nat.gcd x.natAbs y.natAbs
 rw [Int.natAbs_tmod,Nat.gcd_comm,Nat.gcd_comm x.natAbs,Nat.gcd_rec y.natAbs x.natAbs]
set_option maxHeartbeats 400000 in
theorem refgcd_all (a b:Int) (h0:-9223372036854775808≤a) (h1:a≤9223372036854775807) (h2:-9223372036854775808≤b) (h3:b≤9223372036854775807) (w:World) :
    Calls Tryz.prog 182 #[.int .i64 a,.int .i64 b] w fun e w'=>e=.returned (.int .i64 (gR a b))∧∃ n,w'=w.drewN n:=by
  obtain ⟨G,hG⟩:∃ G,Int.gcd a b=G:=⟨_,rfl⟩;have HR:gR a b=if (G:Int)≤9223372036854775807 then (G:Int) else 0:=by unfold gR;rw [hG]
  replace HR:=zh HR;replace hG:=zh hG
  go_enter Tryz.func182,Tryz.ntmps182
  go_wp2
  go_loopw [0,1] (fun s t wr=>∃ x y:Int,-9223372036854775808≤x∧x≤9223372036854775807∧-9223372036854775808≤y∧y≤9223372036854775807∧Hid (Int.gcd x y=G)∧s=.int .i64 x∧t=.int .i64 y∧∃ n,wr=w.drewN n) (fun _ t _=>(intOf t).natAbs)
  case atStart=>exact ⟨a,b,h0,h1,h2,h3,hG,rfl,rfl,0,rfl⟩
  case round =>
    obtain ⟨x,y,x0,x1,y0,y1,HQ,rfl,rfl,n,rfl⟩:=hrel
    by_cases hy:y=0
    · subst hy;have hx:(G:Int)=x.natAbs:=by have:=HQ.out;simp [Int.gcd] at this;omega
      clear HQ
      by_cases z:x=-9223372036854775808
      · have HX:Hid (gR a b=0):=by
          have:=HR.out;rw [hx,if_neg (by omega)] at this;exact this
        subst z;clear hx;go_wp2
        go_ret
        exact ⟨by rw [HX.out];rfl,n,rfl⟩
      · have kz:(x==-9223372036854775808)=false:=by simpa using z
        by_cases p:x<0
        · have HX:Hid (gR a b=-x):=by
            have:=HR.out;rw [hx,if_pos (by omega)] at this;exact this.trans (by omega)
          have kp:decide (x<0)=true:=zdt p;have x2:-9223372036854775807≤x:=by omega
          clear hx z;go_wp2
          go_ret
          exact ⟨by rw [HX.out];rfl,n,rfl⟩
        · have HX:Hid (gR a b=x):=by
            have:=HR.out;rw [hx,if_pos (by omega)] at this;exact this.trans (by omega)
          have kp:decide (x<0)=false:=zdf p;clear hx z;go_wp2
          go_ret
          exact ⟨by rw [HX.out];rfl,n,rfl⟩
    · have hy':(y != 0)=true:=by simpa using hy
      by_cases m:y=-1
      · subst m;have HX:Hid (gR a b=1):=by
          have hx:(G:Int)=1:=by have:=HQ.out;simp [Int.gcd] at this;omega
          have:=HR.out;rw [hx,if_pos (by omega)] at this;exact this
        clear HQ;go_wp2
        go_ret
        exact ⟨by rw [HX.out];rfl,n,rfl⟩
      · have km:(y==-1)=false:=by simpa using m
        have tb:=(tr_bd (a:=x) hy).1;have HS:=zh ((gcd_tstep x y).trans HQ.out);obtain ⟨r,hr⟩:∃ r,x.tmod y=r:=⟨_,rfl⟩;rw [hr] at tb HS;clear HQ;go_wp2
        go_quiet (fail)
        go_wp2
        go_roundw
        case rel=>exact ⟨y,r,y0,y1,by omega,by omega,HS,rfl,rfl,drew2 _ _ _⟩
        case measure=>simp [intOf];omega
set_option maxHeartbeats 400000 in
theorem reflcm_all (a b:Int) (h0:-9223372036854775808≤a) (h1:a≤9223372036854775807) (h2:-9223372036854775808≤b) (h3:b≤9223372036854775807) (w:World) :
    Calls Tryz.prog 155 #[.int .i64 a,.int .i64 b] w fun e w'=>e=.returned (.tuple #[.int .i64 (lR a b),.int .i64 (lE a b)])∧∃ n,w'=w.drewN n:=by
  by_cases ha:a<1
  · unfold lR lE
    rw [if_pos (Or.inl ha),if_pos (Or.inl ha)];have k:decide (a<1)=true:=by simpa using ha
    go_enter Tryz.func155,Tryz.ntmps155
    go_wp2
    go_ret2
    exact ⟨rfl,0,rfl⟩
  · by_cases hb:b<1
    · unfold lR lE
      rw [if_pos (Or.inr hb),if_pos (Or.inr hb)];have k:decide (a<1)=false:=by simpa using ha
      have k2:decide (b<1)=true:=by simpa using hb
      go_enter Tryz.func155,Tryz.ntmps155
      go_wp2
      go_ret2
      exact ⟨rfl,0,rfl⟩
    · have k:decide (a<1)=false:=by simpa using ha
      have k2:decide (b<1)=false:=by simpa using hb
      obtain ⟨g1,g2⟩:=gR_pos (b:=b) (show 1≤a by omega) h1;have qb:0≤a / gR a b∧a / gR a b≤a:=⟨Int.ediv_nonneg (by omega) (by omega),Int.ediv_le_self _ (by omega)⟩;obtain ⟨q0,q1⟩:=qb;have HL:lR a b=xV (a / gR a b * b):=by unfold lR;rw [if_neg (by omega)]
      have HE:lE a b=xE (a / gR a b * b):=by unfold lE;rw [if_neg (by omega)]
      rw [HL,HE];clear HL HE;have HG:=zh (fun w=>refgcd_all a b h0 h1 h2 h3 w);generalize gR a b=g at *
      go_enter Tryz.func155,Tryz.ntmps155
      go_wp2_with fail
      refine (HG.out _).mono ?_;rintro e w' ⟨rfl,n,rfl⟩;go_wp2_with fail
      refine (refmul_all _ _ (by omega) (by omega) h2 h3 _).mono ?_;rintro e w' ⟨rfl,rfl⟩;go_wp2
      go_ret2
      exact ⟨rfl,_,rfl⟩
end Go.Proofs.YtmamlgaogpkagaaGreat
