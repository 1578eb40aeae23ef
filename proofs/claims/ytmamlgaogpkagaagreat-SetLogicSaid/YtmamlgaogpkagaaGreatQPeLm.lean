/- PeLm. -/
import Derived.Test.YtmamlgaogpkagaaGreatQLPlain
import Derived.Test.YtmamlgaogpkagaaGreatQLGen
import Derived.Test.YtmamlgaogpkagaaGreatShelf
import Derived.WalkKit
import Derived.Outline
import Derived.Lib.Hide
import Derived.Deep.QuietTactic
import Derived.BigQuiet
namespace Go.Proofs.YtmamlgaogpkagaaGreat
open Go.RowKit
set_option linter.unusedVariables false
set_option linter.unusedSimpArgs false
theorem mag_all (a:Int) (h0:-9223372036854775808≤a) (h1:a≤9223372036854775807) (w:World) :
    Calls Tryz.prog 208 #[.int .i64 a] w fun e w'=>e=.returned (.int .u64 (mg a))∧w=w':=by
  rcases mg_cases a with ⟨h,e⟩ | ⟨h,e⟩
  · rw [e];have hw:IntKind.u64.wrap (-IntKind.u64.wrap a)=-a:=by rw [IntKind.wrap_u64,IntKind.wrap_u64];omega
    go_enter Tryz.func208,Tryz.ntmps208
    go_wp2
    go_ret
    exact ⟨rfl,rfl⟩
  · rw [e];have h':¬ a<0:=by omega
    go_enter Tryz.func208,Tryz.ntmps208
    go_wp2
    go_ret
    exact ⟨rfl,rfl⟩
theorem mul64_at (x y H L:Int) (h0:0≤x) (h1:x<18446744073709551616) (h2:0≤y) (h3:y<18446744073709551616) (e:x * y=H * 18446744073709551616+L) (l0:0≤L) (l1:L<18446744073709551616) (w:World) :
    Calls Tryz.prog 207 #[.int .u64 x,.int .u64 y] w fun e w'=>e=.returned (.tuple #[.int .u64 H,.int .u64 L])∧w=w':=by
  obtain ⟨n,rfl⟩:=Int.eq_ofNat_of_zero_le h0;obtain ⟨m,rfl⟩:=Int.eq_ofNat_of_zero_le h2;refine (Tryz.bits_Mul64 n m (by omega) (by omega) w).mono fun e' w' ⟨he,hw⟩=>⟨?_,hw.symm⟩;rw [he];have a1:((n * m / 18446744073709551616:Nat):Int)=H:=by rw [Int.natCast_ediv,Int.natCast_mul,e];omega
  have a2:((n * m % 18446744073709551616:Nat):Int)=L:=by rw [Int.natCast_emod,Int.natCast_mul,e];omega
  rw [a1,a2]
set_option maxHeartbeats 400000 in
theorem mul_all (a b:Int) (h0:-9223372036854775808≤a) (h1:a≤9223372036854775807) (h2:-9223372036854775808≤b) (h3:b≤9223372036854775807) (w:World) :
    Calls Tryz.prog 204 #[.int .i64 a,.int .i64 b] w fun e w'=>e=.returned (.tuple #[.int .i64 (xV (a * b)),.int .i64 (xE (a * b))])∧∃ n,w'=w.drewN n:=by
  have gx:=mg_bd h0 h1;have gy:=mg_bd h2 h3;have gm:=mg_mul_nonneg h0 h1 h2 h3;have gs:=mg_mul (a:=a) (b:=b);have cM:=fun w=>mag_all a h0 h1 w;have cN:=fun w=>mag_all b h2 h3 w;have cP:=fun H L=>mul64_at (mg a) (mg b) H L gx.1 (by omega) gy.1 (by omega);generalize mg a=x at *;generalize mg b=y at *;generalize a * b=p at *;generalize x * y=m at *;obtain ⟨H,L,e,l0,l1⟩:∃ H L:Int,m=H * 18446744073709551616+L∧0≤L∧L<18446744073709551616:=⟨m / 18446744073709551616,m % 18446744073709551616,by omega,by omega,by omega⟩;have HM:=zh cM;have HN:=zh cN;have HP:=zh (cP H L e l0 l1);clear cM cN cP gx gy;obtain ⟨s,hs⟩:∃ s,decide (a<0)=s:=⟨_,rfl⟩;obtain ⟨t,ht⟩:∃ t,decide (b<0)=t:=⟨_,rfl⟩;have hp:(s=t→p=m)∧(s≠t→p=-m):=by
    subst hs;subst ht
    constructor
    · intro h;rw [decide_eq_decide] at h;omega
    · intro h;rw [Ne,decide_eq_decide] at h;omega
  clear gs
  by_cases big:18446744073709551616≤m
  · have q:¬ (-9223372036854775808≤p∧p≤9223372036854775807):=by
      by_cases h:s=t
      · have:=hp.1 h;omega
      · have:=hp.2 h;omega
    rw [xV_out q,xE_out q];have hH:(H != 0)=true:=by simp;omega
    clear hp q e gm big
    cases s <;> cases t
    all_goals
        go_enter Tryz.func204,Tryz.ntmps204
        go_wp2_with fail
        refine (HM.out _).mono ?_;rintro e w' ⟨rfl,rfl⟩;go_wp2_with fail
        refine (HN.out _).mono ?_;rintro e w' ⟨rfl,rfl⟩;go_wp2_with fail
        refine (HP.out _).mono ?_;rintro e w' ⟨rfl,rfl⟩;go_wp2
        go_ret2
        exact ⟨rfl,0,rfl⟩
  · have hH:H=0:=by omega
    subst hH;have hL:L=m:=by omega
    subst hL;clear e big
    by_cases q:-9223372036854775808≤p∧p≤9223372036854775807
    · rw [xV_in q,xE_in q];obtain ⟨q0,q1⟩:=q
      cases s <;> cases t
      · obtain rfl:=hp.1 rfl;clear hp;have k:decide (9223372036854775807<p)=false:=by simp;omega
        go_enter Tryz.func204,Tryz.ntmps204
        go_wp2_with fail
        refine (HM.out _).mono ?_;rintro e w' ⟨rfl,rfl⟩;go_wp2_with fail
        refine (HN.out _).mono ?_;rintro e w' ⟨rfl,rfl⟩;go_wp2_with fail
        refine (HP.out _).mono ?_;rintro e w' ⟨rfl,rfl⟩;go_wp2
        go_ret2
        exact ⟨rfl,0,rfl⟩
      · obtain rfl:=hp.2 (by simp);clear hp;have k:decide (9223372036854775808<L)=false:=by simp;omega
        have hw:IntKind.i64.wrap (IntKind.u64.wrap (-L))=-L:=by rw [IntKind.wrap_u64,IntKind.wrap_i64];omega
        go_enter Tryz.func204,Tryz.ntmps204
        go_wp2_with fail
        refine (HM.out _).mono ?_;rintro e w' ⟨rfl,rfl⟩;go_wp2_with fail
        refine (HN.out _).mono ?_;rintro e w' ⟨rfl,rfl⟩;go_wp2_with fail
        refine (HP.out _).mono ?_;rintro e w' ⟨rfl,rfl⟩;go_wp2
        go_ret2
        exact ⟨rfl,0,rfl⟩
      · obtain rfl:=hp.2 (by simp);clear hp;have k:decide (9223372036854775808<L)=false:=by simp;omega
        have hw:IntKind.i64.wrap (IntKind.u64.wrap (-L))=-L:=by rw [IntKind.wrap_u64,IntKind.wrap_i64];omega
        go_enter Tryz.func204,Tryz.ntmps204
        go_wp2_with fail
        refine (HM.out _).mono ?_;rintro e w' ⟨rfl,rfl⟩;go_wp2_with fail
        refine (HN.out _).mono ?_;rintro e w' ⟨rfl,rfl⟩;go_wp2_with fail
        refine (HP.out _).mono ?_;rintro e w' ⟨rfl,rfl⟩;go_wp2
        go_ret2
        exact ⟨rfl,0,rfl⟩
      · obtain rfl:=hp.1 rfl;clear hp;have k:decide (9223372036854775807<p)=false:=by simp;omega
        go_enter Tryz.func204,Tryz.ntmps204
        go_wp2_with fail
        refine (HM.out _).mono ?_;rintro e w' ⟨rfl,rfl⟩;go_wp2_with fail
        refine (HN.out _).mono ?_;rintro e w' ⟨rfl,rfl⟩;go_wp2_with fail
        refine (HP.out _).mono ?_;rintro e w' ⟨rfl,rfl⟩;go_wp2
        go_ret2
        exact ⟨rfl,0,rfl⟩
    · rw [xV_out q,xE_out q]
      cases s <;> cases t
      · obtain rfl:=hp.1 rfl;clear hp;have k:decide (9223372036854775807<p)=true:=by simp;omega
        go_enter Tryz.func204,Tryz.ntmps204
        go_wp2_with fail
        refine (HM.out _).mono ?_;rintro e w' ⟨rfl,rfl⟩;go_wp2_with fail
        refine (HN.out _).mono ?_;rintro e w' ⟨rfl,rfl⟩;go_wp2_with fail
        refine (HP.out _).mono ?_;rintro e w' ⟨rfl,rfl⟩;go_wp2
        go_ret2
        exact ⟨rfl,0,rfl⟩
      · obtain rfl:=hp.2 (by simp);clear hp;have k:decide (9223372036854775808<L)=true:=by simp;omega
        go_enter Tryz.func204,Tryz.ntmps204
        go_wp2_with fail
        refine (HM.out _).mono ?_;rintro e w' ⟨rfl,rfl⟩;go_wp2_with fail
        refine (HN.out _).mono ?_;rintro e w' ⟨rfl,rfl⟩;go_wp2_with fail
        refine (HP.out _).mono ?_;rintro e w' ⟨rfl,rfl⟩;go_wp2
        go_ret2
        exact ⟨rfl,0,rfl⟩
      · obtain rfl:=hp.2 (by simp);clear hp;have k:decide (9223372036854775808<L)=true:=by simp;omega
        go_enter Tryz.func204,Tryz.ntmps204
        go_wp2_with fail
        refine (HM.out _).mono ?_;rintro e w' ⟨rfl,rfl⟩;go_wp2_with fail
        refine (HN.out _).mono ?_;rintro e w' ⟨rfl,rfl⟩;go_wp2_with fail
        refine (HP.out _).mono ?_;rintro e w' ⟨rfl,rfl⟩;go_wp2
        go_ret2
        exact ⟨rfl,0,rfl⟩
      · obtain rfl:=hp.1 rfl;clear hp;have k:decide (9223372036854775807<p)=true:=by simp;omega
        go_enter Tryz.func204,Tryz.ntmps204
        go_wp2_with fail
        refine (HM.out _).mono ?_;rintro e w' ⟨rfl,rfl⟩;go_wp2_with fail
        refine (HN.out _).mono ?_;rintro e w' ⟨rfl,rfl⟩;go_wp2_with fail
        refine (HP.out _).mono ?_;rintro e w' ⟨rfl,rfl⟩;go_wp2
        go_ret2
        exact ⟨rfl,0,rfl⟩
theorem drew2 (w:World) (n m:Nat):∃ k,(w.drewN n).drewN m=w.drewN k:=⟨n+m,by rw [World.drewN_drewN]⟩
set_option maxHeartbeats 400000 in
theorem gcd_all (a b:Int) (h0:-9223372036854775808≤a) (h1:a≤9223372036854775807) (h2:-9223372036854775808≤b) (h3:b≤9223372036854775807) (w:World) :
    Calls Tryz.prog 205 #[.int .i64 a,.int .i64 b] w fun e w'=>e=.returned (.int .i64 (gR a b))∧∃ n,w'=w.drewN n:=by
  obtain ⟨gx,gx'⟩:=mg_bd h0 h1;obtain ⟨gy,gy'⟩:=mg_bd h2 h3;have HM:=zh (fun w=>mag_all a h0 h1 w);have HN:=zh (fun w=>mag_all b h2 h3 w);have HG:=zh (gcd_mg a b);obtain ⟨G,hG⟩:∃ G,Int.gcd a b=G:=⟨_,rfl⟩;have HR:gR a b=if (G:Int)≤9223372036854775807 then (G:Int) else 0:=by unfold gR;rw [hG]
  replace HR:=zh HR;rw [hG] at HG;clear hG h0 h1 h2 h3;generalize mg a=x at *;generalize mg b=y at *;have HQ:=zh HG;clear HG
  go_enter Tryz.func205,Tryz.ntmps205
  go_wp2_with fail
  refine (HM.out _).mono ?_;rintro e w' ⟨rfl,rfl⟩;go_wp2_with fail
  refine (HN.out _).mono ?_;rintro e w' ⟨rfl,rfl⟩;go_wp2
  go_loopw [5,6] (fun s t wr=>∃ x y:Int,0≤x∧x≤9223372036854775808∧0≤y∧y≤9223372036854775808∧Hid (Int.gcd x y=G)∧s=.int .u64 x∧t=.int .u64 y∧∃ n,wr=w.drewN n) (fun _ t _=>(intOf t).toNat)
  case atStart=>exact ⟨x,y,gx,gx',gy,gy',HQ,rfl,rfl,0,rfl⟩
  case round =>
    obtain ⟨x,y,gx,gx',gy,gy',HQ,rfl,rfl,n,rfl⟩:=hrel
    by_cases hy:y=0
    · subst hy;have hx:(G:Int)=x:=by have:=gcd_zero_right gx;rw [HQ.out] at this;exact this
      have HX:=zh hx;clear hx
      by_cases big:9223372036854775807<x
      · go_wp2
        go_ret
        exact ⟨by rw [HR.out,HX.out,if_neg (by omega)];rfl,n,rfl⟩
      · go_wp2
        go_ret
        exact ⟨by rw [HR.out,HX.out,if_pos (by omega)];rfl,n,rfl⟩
    · have hy':(y != 0)=true:=by simpa using hy
      have hlt:=Int.emod_lt_of_pos x (show 0<y by omega);have hge:=Int.emod_nonneg x hy;have HS:=zh ((gcd_step gx gy).trans HQ.out);go_wp2
      go_quiet (fail)
      go_wp2
      go_roundw
      case rel=>exact ⟨y,x % y,gy,gy',hge,by omega,HS,rfl,rfl,drew2 _ _ _⟩
      case measure=>simp [intOf];omega
def lR (a b:Int):Int:=if a<1∨b<1 then 0 else xV (a / gR a b * b)
def lE (a b:Int):Int:=if a<1∨b<1 then 2 else xE (a / gR a b * b)
theorem gR_pos {a b:Int} (ha:1≤a) (h1:a≤9223372036854775807):1≤gR a b∧gR a b≤a:=by
 have hd:(Int.gcd a b:Int) ∣ a:=Int.gcd_dvd_left a b;have hle:=Int.le_of_dvd (by omega) hd;have hpos:0<Int.gcd a b:=Int.gcd_pos_of_ne_zero_left b (by omega)
 unfold gR
 rw [if_pos (by omega)];omega
set_option maxHeartbeats 400000 in
theorem lcm_all (a b:Int) (h0:-9223372036854775808≤a) (h1:a≤9223372036854775807) (h2:-9223372036854775808≤b) (h3:b≤9223372036854775807) (w:World) :
    Calls Tryz.prog 195 #[.int .i64 a,.int .i64 b] w fun e w'=>e=.returned (.tuple #[.int .i64 (lR a b),.int .i64 (lE a b)])∧∃ n,w'=w.drewN n:=by
  by_cases ha:a<1
  · unfold lR lE
    rw [if_pos (Or.inl ha),if_pos (Or.inl ha)];have k:decide (a<1)=true:=by simpa using ha
    go_enter Tryz.func195,Tryz.ntmps195
    go_wp2
    go_ret2
    exact ⟨rfl,0,rfl⟩
  · by_cases hb:b<1
    · unfold lR lE
      rw [if_pos (Or.inr hb),if_pos (Or.inr hb)];have k:decide (a<1)=false:=by simpa using ha
      have k2:decide (b<1)=true:=by simpa using hb
      go_enter Tryz.func195,Tryz.ntmps195
      go_wp2
      go_ret2
      exact ⟨rfl,0,rfl⟩
    · have k:decide (a<1)=false:=by simpa using ha
      have k2:decide (b<1)=false:=by simpa using hb
      obtain ⟨g1,g2⟩:=gR_pos (b:=b) (show 1≤a by omega) h1;have qb:0≤a / gR a b∧a / gR a b≤a:=⟨Int.ediv_nonneg (by omega) (by omega),Int.ediv_le_self _ (by omega)⟩;obtain ⟨q0,q1⟩:=qb;have HL:lR a b=xV (a / gR a b * b):=by unfold lR;rw [if_neg (by omega)]
      have HE:lE a b=xE (a / gR a b * b):=by unfold lE;rw [if_neg (by omega)]
      rw [HL,HE];clear HL HE;have HG:=zh (fun w=>gcd_all a b h0 h1 h2 h3 w);generalize gR a b=g at *
      go_enter Tryz.func195,Tryz.ntmps195
      go_wp2_with fail
      refine (HG.out _).mono ?_;rintro e w' ⟨rfl,n,rfl⟩;go_wp2_with fail
      refine (mul_all _ _ (by omega) (by omega) h2 h3 _).mono ?_;rintro e w' ⟨rfl,m,rfl⟩;go_wp2
      go_ret2
      exact ⟨rfl,_,rfl⟩
theorem lE_ok {m n:Int} (hl:lE m n=0):1≤m∧1≤n∧lR m n=m / gR m n * n∧m / gR m n * n≤9223372036854775807:=by
 unfold lE at hl
 by_cases h:m<1∨n<1
 ·rw [if_pos h] at hl;omega
 ·rw [if_neg h] at hl;refine ⟨by omega,by omega,?_⟩
  unfold lR
  rw [if_neg h];generalize m / gR m n * n=p at *
  by_cases q:-9223372036854775808≤p∧p≤9223372036854775807
  ·rw [xV_in q];exact ⟨rfl,q.2⟩
  ·rw [xE_out q] at hl;omega
theorem gR_gcd {m n:Int} (hm:1≤m) (h3:m≤9223372036854775807):gR m n=Int.gcd m n:=by
 have hd:(Int.gcd m n:Int) ∣ m:=Int.gcd_dvd_left m n;have hle:=Int.le_of_dvd (by omega) hd
 unfold gR;rw [if_pos (by omega)]
theorem lcm_dvd {m n:Int} (m1:1≤m) (m2:m≤9223372036854775807) (n1:1≤n):m ∣ m / gR m n * n∧n ∣ m / gR m n * n∧0<m / gR m n * n:=by
 obtain ⟨g1,g2⟩:=gR_pos (b:=n) m1 m2;have e:=gR_gcd (n:=n) m1 m2;have dm:gR m n ∣ m:=by rw [e];exact Int.gcd_dvd_left m n
 have dn:gR m n ∣ n:=by rw [e];exact Int.gcd_dvd_right m n
 generalize gR m n=g at *;have M1:0<m / g:=Int.ediv_pos_of_pos_of_dvd (by omega) (by omega) dm;refine ⟨?_,Int.dvd_mul_left _ _,Int.mul_pos M1 (by omega)⟩;obtain ⟨c,rfl⟩:=dn;have:m / g * (g * c)=m * c:=by rw [← Int.mul_assoc,Int.mul_comm (m / g) g,Int.mul_ediv_cancel' dm]
 rw [this];exact Int.dvd_mul_right _ _
end Go.Proofs.YtmamlgaogpkagaaGreat
