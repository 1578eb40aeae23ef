/- PeKH. -/
import Derived.Test.YtmamlgaogpkagaaGreatZLPlain
import Derived.Test.YtmamlgaogpkagaaGreatZLGen
import Derived.Test.YtmamlgaogpkagaaGreatZLSl
import Derived.Test.YtmamlgaogpkagaaGreatZLOwn
import Derived.Test.YtmamlgaogpkagaaGreatZRnP
import Derived.Test.YtmamlgaogpkagaaGreatZPeR
import Derived.Test.YtmamlgaogpkagaaGreatZRnT
import Derived.Test.YtmamlgaogpkagaaGreatZRnV
import Derived.Test.YtmamlgaogpkagaaGreatZPeT
import Derived.Test.YtmamlgaogpkagaaGreatZRnKD
import Derived.Test.YtmamlgaogpkagaaGreatZRnKF
import Derived.Test.YtmamlgaogpkagaaGreatZPeKB
import Derived.Test.YtmamlgaogpkagaaGreatZPeKD
import Derived.Test.YtmamlgaogpkagaaGreatZPeKE
namespace Go.Proofs.YtmamlgaogpkagaaGreat
open Go.RowKit
set_option linter.unusedVariables false
set_option linter.unusedSimpArgs false
def pwE (P:Int) (M:List Sp) (s:Int) (i:Nat):Int:=if i=0 then s+(M.getD (M.length - 1) (0,0)).2 - P else s+(M.getD (i - 1) (0,0)).2
theorem lst_step {P:Int} {f:Int→Bool} {M:List Sp} (h:Crc P f M) {x y s k:Int} (hs:s=P * k) {i:Nat} (hi:i<M.length) :
  caL f x (clZ y (pwE P M s (i+1)))=if (if x<s+(M.getD i (0,0)).1 then s+(M.getD i (0,0)).1 else x)<(if s+(M.getD i (0,0)).2<y then s+(M.getD i (0,0)).2 else y) then caL f x (clZ y (pwE P M s i))++[((if x<s+(M.getD i (0,0)).1 then s+(M.getD i (0,0)).1 else x),(if s+(M.getD i (0,0)).2<y then s+(M.getD i (0,0)).2 else y))] else caL f x (clZ y (pwE P M s i)):=by
 have e:pwE P M s (i+1)=s+(M.getD i (0,0)).2:=by unfold pwE;rw [if_neg (by omega),Nat.add_sub_cancel]
 rw [e];have lt:=h.cn.lt _ (getD_mem hi);have ne:=h.ne;refine win_step (u:=s+(M.getD i (0,0)).1) (v:=s+(M.getD i (0,0)).2) (e:=pwE P M s i) ?_ (by omega) (fun z z0 z1=>?_) (fun z z0 z1=>h.yes hs hi z0 z1)
 ·unfold pwE
  split
  ·rename_i q;subst q
   have:=h.hi _ (getD_mem (show M.length - 1<M.length by omega));omega
  ·rename_i q
   have:=cn_gt h.cn (show i - 1<i by omega) hi;omega
 ·unfold pwE at z0
  split at z0
  ·rename_i q;subst q
   exact h.last (s:=s - P) (k:=k - 1) (by rw [hs,Int.mul_sub,Int.mul_one]) (by omega) (by omega)
  ·rename_i q
   have hi':i - 1+1<M.length:=by omega
   have e:i - 1+1=i:=by omega
   exact h.no hs (i:=i - 1) hi' z0 (by rw [e];exact z1)
theorem lst_next (P:Int) (M:List Sp) (ne:0<M.length) (s:Int):pwE P M s M.length=pwE P M (s+P) 0:=by
 unfold pwE
 rw [if_neg (by omega),if_pos rfl];omega
theorem lst_start {P:Int} {f:Int→Bool} {M:List Sp} (h:Crc P f M) {x y:Int}:caL f x (clZ y (pwE P M ((x / P - 1) * P) 0))=[]:=by
 refine ca_none f ?_;have ne:=h.ne;have P0:=h.P0;have a:=h.hi _ (getD_mem (show M.length - 1<M.length by omega));have o:=h.o0;have d:=Int.emod_add_mul_ediv x P;have m0:=Int.emod_nonneg x (show P≠0 by omega);have e:(x / P - 1) * P=P * (x / P) - P:=by rw [Int.sub_mul,Int.one_mul,Int.mul_comm]
 have:pwE P M ((x / P - 1) * P) 0≤x:=by unfold pwE;rw [if_pos rfl,e];omega
 unfold clZ
 split <;> omega
theorem lst_end {P:Int} {f:Int→Bool} {M:List Sp} (h:Crc P f M) {x y s k:Int} (hs:s=P * k) (ys:y≤s):caL f x (clZ y (pwE P M s 0))=caL f x y:=by
 unfold clZ
 split
 ·rfl
 ·rename_i q
  refine ca_skip (by omega) fun z z0 z1=>?_;have ne:=h.ne;have o:=h.o0
  unfold pwE at z0
  rw [if_pos rfl] at z0;exact h.last (s:=s - P) (k:=k - 1) (by rw [hs,Int.mul_sub,Int.mul_one]) (by omega) (by omega)
theorem lst_long {f:Int→Bool} {x y e:Int}:(caL f x (clZ y e)).length≤(caL f x y).length:=by
 refine len_mono' f ?_
 unfold clZ;split <;> omega
def LsD (f:Int→Bool) (x y:Int) (R:List Sp):Prop:=R=caL f x y∨(2000<R.length∧2000<(caL f x y).length)
set_option maxRecDepth 100000 in
set_option maxHeartbeats 2000000 in
theorem uplisted (va:Value) (P:Int) (A:List Sp) (pv:PV P A) (x y:Int) (sp:spB (x,y)=true) {ba:Nat} (w:World) (a:PairS ba w va A) :
  Calls Tryz.prog 174 #[.agg #[.int .i64 P,va],.agg #[.int .i64 x,.int .i64 y]] w fun e w'=>(∃ v' R,e=.returned v'∧PairS w.heap.size w' v' R∧R.length≤100000∧LsD (hsP P A) x y R)∧Below w.heap.size w w':=by
 obtain ⟨i0,hi,hz0,hz1,hz2⟩:=info_parts infoS;obtain ⟨x0,y1,xy⟩:=spB_iff.1 sp;replace x0:-4398046511104≤x:=x0;replace y1:y≤4398046511104:=y1;replace xy:x<y:=xy;have P0:0<P:=by have:=pv.p0;omega
 have P1:=pv.p1;have lA:=pv.len;have s1:=size_two w (.cells #[.int .i64 P,va] 24);have A1:=zh (grow (grow (here w) (.cells #[.int .i64 P,va] 24)) (.cells #[.int .i64 x,.int .i64 y] 40));have TA:=zh (Two.fst (here ((w.alloc (.cells #[.int .i64 P,va] 24)).alloc (.cells #[.int .i64 x,.int .i64 y] 40))));have TB:=zh (Two.snd (here ((w.alloc (.cells #[.int .i64 P,va] 24)).alloc (.cells #[.int .i64 x,.int .i64 y] 40))));have a2:=zh (a.keep A1.out);have HC:=zh (upcircle va P A _ (cir_in P0 pv.cn pv.ip) (by omega) P1 _ a2.out);have HF:=zh (fun Q (Q0:0<Q) (Q1:Q≤12622780800) W=>cfloorP x Q (by unfold I64;omega) Q0 Q1 W);clear a pv sp;generalize hsP P A=f at *;obtain ⟨t0,t1,tl⟩:=TA.out;obtain ⟨u0,u1,ul⟩:=TB.out
 go_enter Tryz.func174,Tryz.ntmps174
 go_wp2_with fail
 refine HC.out.mono ?_;rintro e w3 ⟨⟨Q,v3,M,rfl,O3,C3,ml⟩,hb⟩;have A3:=zd A1 hb;replace TB:=zh (TB.out.keep hb);clear hb A1 HC a2 TA t0 t1 tl u0 u1 ul s1;obtain ⟨u0,u1,ul⟩:=TB.out;obtain ⟨o3,c3,rfl,cp3,-⟩:=O3.sh;obtain ⟨n,hn⟩:∃ n,M.length=n:=⟨_,rfl⟩;have nb:n≤2001:=by omega
 rw [hn] at O3 cp3 ⊢
 rcases C3 with ⟨rfl,rfl,fa⟩ | ⟨rfl,rfl,fa⟩ | ⟨rfl,C⟩
 ·obtain rfl:n=0:=hn.symm;have r:Hid (LsD f x y []):=.inl (by rw [← ca_skip (f:=f) (a:=x) (e:=x) (b:=y) (by omega) (fun z _ _=>fa z),ca_none f (Int.le_refl x)]);clear O3 ml hn fa;go_wp2
  go_ret
  exact ⟨⟨_,[],rfl,Sl.none _ _,by simp,r.out⟩,A3.out⟩
 ·obtain rfl:n=1:=hn.symm;have r:Hid (LsD f x y [(x,y)]):=.inl (by rw [ca_tight (fun z _ _=>fa z) xy]);obtain ⟨b,off,rfl,cl,bB,bl,cs,-⟩:=O3.at (by omega);obtain ⟨c0,c1⟩:=cs 0 (by simp);rw [Nat.zero_mul,Nat.add_zero] at c0 c1;replace c0:w3.cell? ⟨b,off,none⟩=some (.int .i64 0):=c0;replace c1:w3.cell? ⟨b,off+1,none⟩=some (.int .i64 1):=c1;have HL:=zh (fun W=>rilen 0 1 (by decide) W);clear O3 ml hn fa cs;go_wp2_with fail
  refine (HL.out _).mono ?_;rintro e w4 ⟨rfl,hb⟩;have A4:=zd A3 hb;replace TB:=zh (TB.out.keep hb);clear hb A3 u0 u1 ul c0 c1;obtain ⟨u0,u1,ul⟩:=TB.out;go_wp2
  go_ret
  refine ⟨⟨_,[(x,y)],rfl,.inr ⟨w4.heap.size,0,1,rfl,A4.out.size,?_⟩,by simp,r.out⟩,grow A4.out _⟩;exact lies_pairs (by simp) (fun j hj=>by
   obtain rfl:j=0:=by simp at hj;omega
   exact ⟨by rw [World.cell?_alloc_new];rfl,by rw [World.cell?_alloc_new];rfl⟩)
 ·have ne:=C.ne;obtain ⟨b,off,rfl,cl,bB,bl,cs,-⟩:=O3.at (by omega);obtain ⟨c0,c1⟩:=cs 0 ne;rw [Nat.zero_mul,Nat.add_zero] at c0 c1;have lo:=C.lo _ (getD_mem ne);have hi0:=C.hi _ (getD_mem ne);have lt:=C.cn.lt _ (getD_mem ne);have BD:Hid (∀ i,i<n→0≤(M.getD i (0,0)).1∧(M.getD i (0,0)).1<Q∧0≤(M.getD i (0,0)).2∧(M.getD i (0,0)).2≤2 * Q):=fun i hi=>by
   have hm:i<M.length:=by omega
   have a:=C.lo _ (getD_mem hm);have b:=C.hi _ (getD_mem hm);have c:=C.cn.lt _ (getD_mem hm);omega
  have STEP:Hid (∀ (s k:Int) (i:Nat),s=Q * k→i<n→caL f x (clZ y (pwE Q M s (i+1)))=if (if x<s+(M.getD i (0,0)).1 then s+(M.getD i (0,0)).1 else x)<(if s+(M.getD i (0,0)).2<y then s+(M.getD i (0,0)).2 else y) then caL f x (clZ y (pwE Q M s i))++[((if x<s+(M.getD i (0,0)).1 then s+(M.getD i (0,0)).1 else x),(if s+(M.getD i (0,0)).2<y then s+(M.getD i (0,0)).2 else y))] else caL f x (clZ y (pwE Q M s i))):=fun s k i hs hi=>lst_step C hs (by omega);have NEXT:Hid (∀ s,pwE Q M s n=pwE Q M (s+Q) 0):=fun s=>by rw [← hn];exact lst_next Q M ne s
  have START:Hid (caL f x (clZ y (pwE Q M ((x / Q - 1) * Q) 0))=[]):=lst_start C;have END:Hid (∀ s k,s=Q * k→y≤s→caL f x (clZ y (pwE Q M s 0))=caL f x y):=fun s k hs ys=>lst_end C hs ys;have d:=Int.emod_add_mul_ediv x Q;have m0:=Int.emod_nonneg x (show Q≠0 by omega);have m1:=Int.emod_lt_of_pos x P0;have hst:(x / Q - 1) * Q=Q * (x / Q - 1):=Int.mul_comm _ _;have hst2:Q * (x / Q - 1)=Q * (x / Q) - Q:=by rw [Int.mul_sub,Int.mul_one]
  have fl0:-4398046511105≤x / Q:=by
   have:=Int.ediv_le_ediv P0 (show -4398046511104≤x by omega);have h2:-4398046511104≤-4398046511104 / Q:=by
    rcases Int.lt_or_le (-4398046511104 / Q) (-4398046511104) with z | z
    ·have q1:=Int.emod_add_mul_ediv (-4398046511104) Q;have q2:=Int.emod_lt_of_pos (-4398046511104) P0;have q3:Q * (-4398046511104 / Q)≤Q * (-4398046511105):=Int.mul_le_mul_of_nonneg_left (by omega) (by omega);have q4:Q * (-4398046511105)≤-4398046511105 - Q+1:=by
      have:0≤(Q - 1) * 4398046511104:=Int.mul_nonneg (by omega) (by omega);omega
     omega
    ·exact z
   omega
  have fl1:x / Q≤4398046511104:=by
   rcases Int.lt_or_le x 0 with z | z
   ·have:x / Q<0:=Int.ediv_neg_of_neg_of_pos z P0;omega
   ·have:=Int.ediv_le_self Q z;omega
  have g:=HF.out Q P0 P1;replace g:=zh g;have HL:=zh (fun W=>rilen (M.getD 0 (0,0)).1 (M.getD 0 (0,0)).2 (spB_iff.2 ⟨by omega,by omega,lt⟩) W);have neq:((M.getD 0 (0,0)).2 - (M.getD 0 (0,0)).1==Q)=false:=by rw [beq_eq_false_iff_ne];omega
  replace hn:=zh hn;have n0:0<n:=by rw [← hn.out];exact ne
  have zn:((n:Int)==0)=false:=by rw [beq_eq_false_iff_ne];omega
  have zi:(0:Int)<(n:Int):=by omega
  replace O3:=zh O3;clear C cs HF ml ne hi0 lo lt;generalize (M.getD 0 (0,0)).1=p0 at *;generalize (M.getD 0 (0,0)).2=p1 at *;go_wp2_with fail
  refine (HL.out _).mono ?_;rintro e w4 ⟨rfl,hb⟩;have A4:=zd A3 hb;replace TB:=zh (TB.out.keep hb);replace O3:=zh (O3.out.keep hb);clear hb A3 u0 u1 ul c0 c1 bl bB HL;obtain ⟨u0,u1,ul⟩:=TB.out;go_wp2_with fail
  refine (g.out _).mono ?_;rintro e w5 ⟨rfl,q,hw5⟩;replace A4:Hid (Below w.heap.size w w5):=by show Below _ _ _;rw [hw5];exact below_drewN A4.out q
  replace TB:Hid (Two w5 (w.heap.size+1) (.int .i64 x) (.int .i64 y)):=by show Two _ _ _ _;rw [hw5];exact TB.out.drewN q
  replace O3:=zh (O3.out.keep (below_drewN (here w4) q));rw [← hw5] at O3;clear hw5 u0 u1 ul;obtain ⟨u0,u1,ul⟩:=TB.out;have st0:(x / Q - 1) * Q≤x:=by omega
  have st1:x - 2 * Q≤(x / Q - 1) * Q:=by omega
  have I5:Hid (w5.ownsRow w5.heap.size 40 2 (.slice none 0 0) 0 (pairs (caL f x (clZ y (pwE Q M ((x / Q - 1) * Q) 0))))∧(caL f x (clZ y (pwE Q M ((x / Q - 1) * Q) 0))).length=0):=by
   show _∧_
   rw [START.out];exact ⟨World.ownsRow_nil _ _ _ _,rfl⟩
  have L5:Hid (Below w5.heap.size w5 w5):=here w5;have A3k:Hid (∀ {W},Below w5.heap.size w5 W→Below w5.heap.size w5 W):=fun h=>h;have TB5:=TB;have stk:Hid ((x / Q - 1) * Q=Q * (x / Q - 1)):=hst;have s5:=A4.out.size;clear hst hst2 d m0 m1 START g;generalize x / Q=F at *;obtain ⟨G,hG⟩:∃ G,F - 1=G:=⟨_,rfl⟩;rw [hG] at st0 st1 stk I5;obtain ⟨st,hS⟩:∃ st,G * Q=st:=⟨_,rfl⟩;rw [hS] at st0 st1 stk I5;go_wp2
  go_loopw [7,8] (fun s i wr=>∃ (t k:Int) (r:Nat) (s':Value),s'=s∧i=.int .i64 t∧st≤t∧t≤4410669291904∧r≤4001∧Hid (t=Q * k)∧Hid (wr.ownsRow w5.heap.size 40 2 s r (pairs (caL f x (clZ y (pwE Q M t 0))))∧(caL f x (clZ y (pwE Q M t 0))).length=r)∧Hid (Below w5.heap.size w5 wr)) (fun _ i _=>(y - intOf i).toNat)
  case atStart=>exact ⟨st,G,0,_,rfl,rfl,Int.le_refl _,by omega,by omega,stk,I5,L5⟩
  case round =>
   obtain ⟨t,k,r,s',rfl,rfl,t0,t1,r0,HK,HO,HL⟩:=hrel;clear I5 L5 stk hS hG neq zn zi u0 u1 ul;replace TB:=zh (TB.out.keep HL.out);obtain ⟨u0,u1,ul⟩:=TB.out;obtain ⟨os,cs',rfl⟩:=(Sl.owns HO.out.1).shape
   by_cases ty:t<y
   ·have kt:decide (t<y)=true:=zdt ty
    by_cases rb:r≤2000
    ·have kr:decide ((r:Int)≤2000)=true:=zdt (by omega);have kr2:decide (r≤2000)=true:=zdt rb;obtain ⟨sv,hsv⟩:∃ sv,Value.slice os r cs'=sv:=⟨_,rfl⟩;rw [hsv] at HO;replace hsv:=zh hsv;go_wp2
     rw [hsv.out]
     go_loopw [7,55] (fun s i wx=>∃ (j r2:Nat) (s':Value),s'=s∧j≤n∧i=.int .i64 j∧r2≤r+j∧Hid (wx.ownsRow w5.heap.size 40 2 s r2 (pairs (caL f x (clZ y (pwE Q M t j))))∧(caL f x (clZ y (pwE Q M t j))).length=r2)∧Hid (Below w5.heap.size w5 wx)) (fun _ i _=>n - (intOf i).toNat)
     case atStart=>exact ⟨0,r,_,rfl,Nat.zero_le _,rfl,Nat.le_refl _,HO,HL⟩
     case round =>
      clear HO HL TB u0 u1 ul;obtain ⟨j,r2,s',rfl,hj,rfl,r20,HO,HL⟩:=hrel
      by_cases z:j<n
      ·have kz:decide ((j:Int)<(n:Int))=true:=zdt (by omega);have HP:=zh (O3.out.prs.keep (A3k.out HL.out));obtain ⟨b1,off1,e1,bl,cs⟩:=prs_here HP.out (show j<M.length by rw [hn.out];exact z)
       injection e1 with e1;injection e1 with e1 e2
       subst e1;subst e2;obtain ⟨c0,c1⟩:=cs j (by rw [hn.out];exact z);have bd:=BD.out j z;have stp:=STEP.out t k j HK.out z;obtain ⟨j1,hj1⟩:∃ j1,j+1=j1:=⟨_,rfl⟩;rw [hj1] at stp;clear cs HP;generalize M.getD j (0,0)=p at *;obtain ⟨gx,gy⟩:=p;replace c0:wr.cell? ⟨b,off+j * 2,none⟩=some (.int .i64 gx):=c0;replace c1:wr.cell? ⟨b,off+j * 2+1,none⟩=some (.int .i64 gy):=c1;replace bd:0≤gx∧gx<Q∧0≤gy∧gy≤2 * Q:=bd;obtain ⟨ux,hux⟩:∃ ux,t+gx=ux:=⟨_,rfl⟩;obtain ⟨vy,hvy⟩:∃ vy,t+gy=vy:=⟨_,rfl⟩;obtain ⟨U,hU⟩:∃ U,(if x<ux then ux else x)=U:=⟨_,rfl⟩;obtain ⟨V,hV⟩:∃ V,(if vy<y then vy else y)=V:=⟨_,rfl⟩;have hU2:max x ux=U:=by rw [← hU];split <;> omega
       have hV2:min y vy=V:=by rw [← hV];split <;> omega
       replace stp:caL f x (clZ y (pwE Q M t j1))=if (if x<t+gx then t+gx else x)<(if t+gy<y then t+gy else y) then caL f x (clZ y (pwE Q M t j))++[((if x<t+gx then t+gx else x),(if t+gy<y then t+gy else y))] else caL f x (clZ y (pwE Q M t j)):=stp;rw [hux,hvy,hU,hV] at stp;have bU:-4398046511104≤U∧U≤4500000000000:=by rw [← hU];split <;> omega
       have bV:-4500000000000≤V∧V≤4398046511104:=by rw [← hV];split <;> omega
       generalize caL f x (clZ y (pwE Q M t j))=RR at *;replace TB:=zh ((TB5.out.keep HL.out).old (.cells #[.int .i64 gx,.int .i64 gy] 40));obtain ⟨u0,u1,ul⟩:=TB.out;obtain ⟨x0',x1',xl⟩:=Two.new (here (wr.alloc (.cells #[.int .i64 gx,.int .i64 gy] 40)));have L6:=zh (grow HL.out (.cells #[.int .i64 gx,.int .i64 gy] 40));have O6:=zh (HO.out.1.alloc (.cells #[.int .i64 gx,.int .i64 gy] 40));have ln:=HO.out.2;go_wp2
       go_region
       obtain ⟨w6,hw6⟩:∃ w6:World,(wr.alloc (.cells #[.int .i64 gx,.int .i64 gy] 40)).drew=w6:=⟨_,rfl⟩;rw [hw6];replace L6:Hid (Below w5.heap.size w5 w6):=by show Below _ _ _;rw [← hw6];exact L6.out.drew
       replace O6:Hid (w6.ownsRow w5.heap.size 40 2 s' r2 (pairs RR)):=by show World.ownsRow _ _ _ _ _ _ _;rw [← hw6];exact O6.out
       replace ln:=zh ln;clear hw6 x0' x1' xl u0 u1 ul TB HO HL c0 c1 bl hU hV hU2 hV2 hux hvy bd
       by_cases uv:U<V
       ·have kuv:decide (U<V)=true:=zdt uv;rw [if_pos uv] at stp;replace stp:=zh stp;have X1:=zh (O6.out.alloc (.cells #[.int .i64 U,.int .i64 V] 40));have X2:Hid (∀ (j:Nat) (u:Value),[Value.int .i64 U,.int .i64 V][j]?=some u→(w6.alloc (.cells #[.int .i64 U,.int .i64 V] 40)).cell? ((⟨w6.heap.size,0,none⟩:Addr).add j)=some u):=fun j u hj=>by rw [Addr.add_lit,Nat.zero_add,World.cell?_alloc_new];simpa using hj
        have X3:Hid (∀ u∈[Value.int .i64 U,.int .i64 V],u.oneCell'=true):=fun u hu=>by simp at hu;rcases hu with rfl | rfl <;> rfl
        have X5:Hid (r2+1≤maxLen):=by show _≤_;unfold maxLen;omega
        have X6:Hid ((r2+1) * 16≤140737488355328):=by show _≤_;omega
        have X4:Hid (w5.heap.size≤(w6.alloc (.cells #[.int .i64 U,.int .i64 V] 40)).heap.size):=by show _≤_;have:=L6.out.size;simp;omega
        have grow6:=zh (grow L6.out (.cells #[.int .i64 U,.int .i64 V] 40));clear L6 O6 uv;go_wp2_with (at_builtin;refine wpList_append_own _ rfl _ _ 22 rfl w5.heap.size 40 i0 (.agg #[.int .i64 0,.int .i64 0]) 2 16 Tryz.underlying22 hi hz0 hz1 hz2 rfl (by decide) s' r2 (pairs RR) rfl X1.out ⟨w6.heap.size,0,none⟩ 1 1 [.int .i64 U,.int .i64 V] rfl rfl X2.out X3.out X5.out X6.out X4.out ?_)
        intro v7 w7 hown hgrow _;have A7:Hid (Below w5.heap.size w5 w7):=grow6.out.grown hgrow X4.out (own_ge X1.out);have O7:Hid (w7.ownsRow w5.heap.size 40 2 v7 (r2+1) (pairs (caL f x (clZ y (pwE Q M t j1))))∧(caL f x (clZ y (pwE Q M t j1))).length=r2+1):=by
         show _∧_
         rw [stp.out];exact ⟨by rw [pairs_append];exact hown,by rw [List.length_append,ln.out];rfl⟩
        clear hown hgrow X1 X2 X3 X4 X5 X6 grow6 stp ln;go_wp2
        go_roundw
        case rel=>exact ⟨j1,r2+1,_,rfl,by omega,by first | rfl | (congr 1;omega) | go_num,by omega,O7,A7⟩
        case measure=>simp [intOf];omega
       ·have kuv:decide (U<V)=false:=zdf uv;rw [if_neg uv] at stp;have O7:Hid (w6.ownsRow w5.heap.size 40 2 s' r2 (pairs (caL f x (clZ y (pwE Q M t j1))))∧(caL f x (clZ y (pwE Q M t j1))).length=r2):=by
         show _∧_
         rw [stp];exact ⟨O6.out,ln.out⟩
        clear O6 stp ln uv;go_wp2
        go_roundw
        case rel=>exact ⟨j1,r2,_,rfl,by omega,by first | rfl | (congr 1;omega) | go_num,by omega,O7,L6⟩
        case measure=>simp [intOf];omega
      ·have kz:decide ((j:Int)<(n:Int))=false:=zdf (by omega);obtain rfl:j=n:=by omega
       rw [NEXT.out] at HO;have HK2:Hid (t+Q=Q * (k+1)):=by show _=_;rw [HK.out,Int.mul_add,Int.mul_one]
       go_wp2
       go_roundw
       case rel=>exact ⟨t+Q,k+1,r2,_,rfl,rfl,by omega,by omega,by omega,HK2,HO,HL⟩
       case measure=>simp [intOf];omega
    ·have kr:decide ((r:Int)≤2000)=false:=zdf (by omega);have kr2:decide (r≤2000)=false:=zdf rb;have rr:Hid (LsD f x y (caL f x (clZ y (pwE Q M t 0)))):=.inr ⟨by rw [HO.out.2];omega,by have:=lst_long (f:=f) (x:=x) (y:=y) (e:=pwE Q M t 0);have e:=HO.out.2;omega⟩;have PR:Hid (PairS w.heap.size wr (.slice os r cs') (caL f x (clZ y (pwE Q M t 0)))):=by show Sl _ _ _ _ _;rw [HO.out.2];exact Sl.owns (own_weak HO.out.1 s5)
     have A9:=zh (A4.out.trans (HL.out.mono s5));have ln:=HO.out.2;go_wp2
     go_ret
     have lb:Hid ((caL f x (clZ y (pwE Q M t 0))).length≤100000):=by show _≤_;omega
     first | exact ⟨⟨_,_,rfl,PR.out,lb.out,rr.out⟩,A9.out⟩ | exact ⟨⟨_,rfl,_,PR.out,lb.out,rr.out⟩,A9.out⟩
   ·have kt:decide (t<y)=false:=zdf ty;have e:=END.out t k HK.out (by omega);have rr:Hid (LsD f x y (caL f x (clZ y (pwE Q M t 0)))):=.inl e;have PR:Hid (PairS w.heap.size wr (.slice os r cs') (caL f x (clZ y (pwE Q M t 0)))):=by show Sl _ _ _ _ _;rw [HO.out.2];exact Sl.owns (own_weak HO.out.1 s5)
    have A9:=zh (A4.out.trans (HL.out.mono s5));have lb:Hid ((caL f x (clZ y (pwE Q M t 0))).length≤100000):=by show _≤_;rw [HO.out.2];omega
    clear e HO;go_wp2
    go_ret
    first | exact ⟨⟨_,_,rfl,PR.out,lb.out,rr.out⟩,A9.out⟩ | exact ⟨⟨_,rfl,_,PR.out,lb.out,rr.out⟩,A9.out⟩
end Go.Proofs.YtmamlgaogpkagaaGreat
