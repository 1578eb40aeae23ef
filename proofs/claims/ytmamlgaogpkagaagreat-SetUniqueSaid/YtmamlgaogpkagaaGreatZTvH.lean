/- TvH. -/
import Derived.Test.YtmamlgaogpkagaaGreatZLPlain
import Derived.Test.YtmamlgaogpkagaaGreatZLGen
import Derived.Test.YtmamlgaogpkagaaGreatZLSl
import Derived.Test.YtmamlgaogpkagaaGreatZLOwn
import Derived.Test.YtmamlgaogpkagaaGreatZRnP
import Derived.Test.YtmamlgaogpkagaaGreatZPeKK
import Derived.Test.YtmamlgaogpkagaaGreatZPeGD
import Derived.Test.YtmamlgaogpkagaaGreatZTsR
import Derived.Test.YtmamlgaogpkagaaGreatZTsG
import Derived.Test.YtmamlgaogpkagaaGreatZTsA
import Derived.Test.YtmamlgaogpkagaaGreatZTvB
import Derived.Test.YtmamlgaogpkagaaGreatZTvE
import Derived.StillTailTactics
import Derived.BigQuiet
import Derived.Deep.QuietTactic
import Derived.Deep.RegionHeld3
import Derived.Laws.EntriesVeiled
namespace Go.Proofs.YtmamlgaogpkagaaGreat
open Go.RowKit
set_option linter.unusedVariables false
set_option linter.unusedSimpArgs false
set_option maxRecDepth 100000 in
set_option maxHeartbeats 4000000 in
theorem tvdep (s:TS) (gw:GW s) (va vb vl:Value) (M:Int) (hd:¬ smP s→DfM s M) (m0:0≤M) (m1:M≤12622780800) (w:World) (h:SS3 w s va vb vl) :
  Calls Tryz.prog 117 #[.agg #[.int .i64 s.P,va,.int .i64 s.Q,vb,.int .i64 s.a,.int .i64 s.b,vl]] w fun e w'=>(∃ d o,e=.returned (.tuple #[.int .i64 d,.bool o])∧DpR s d o∧-8796093022208≤d∧d≤17592186044416)∧Below w.heap.size w w':=by
 obtain ⟨oa,ca,rfl⟩:=prs_shape h.a;obtain ⟨ob,cb,rfl⟩:=prs_shape h.b;obtain ⟨ol,cl,rfl⟩:=prs_shape h.l;obtain ⟨w1,hw1⟩:∃ w1:World,(w.alloc (.cells #[.int .i64 s.P,.slice oa s.A.length ca,.int .i64 s.Q,.slice ob s.B.length cb,.int .i64 s.a,.int .i64 s.b,.slice ol s.L.length cl] 26))=w1:=⟨_,rfl⟩;have B1:Hid (Bxs w1 w.heap.size [.int .i64 s.P,.slice oa s.A.length ca,.int .i64 s.Q,.slice ob s.B.length cb,.int .i64 s.a,.int .i64 s.b,.slice ol s.L.length cl]):=by show Bxs _ _ _;rw [← hw1];exact Bxs.new (w:=w) [.int .i64 s.P,.slice oa s.A.length ca,.int .i64 s.Q,.slice ob s.B.length cb,.int .i64 s.a,.int .i64 s.b,.slice ol s.L.length cl] 26
 have A1:Hid (Below w.heap.size w w1):=by show Below _ _ _;rw [← hw1];exact grow (here w) _
 have HE:=zh (fun W (k:Below w.heap.size w W)=>tvsame s.P s.Q _ _ s.A s.B (by have:=gw.p.len;omega) W (h.keep k).a (h.keep k).b);have HV1:=zh (fun W (k:Below w.heap.size w W)=>tvset s gw _ _ _ W (h.keep k));have HV2:Hid (∀ W,Below w.heap.size w W→Calls Tryz.prog 123 #[.agg #[.int .i64 s.P,.slice oa s.A.length ca]] W fun e w'=>(∃ v',e=.returned v'∧Vw w' v' (hsP s.P s.A) (nxP s.P s.A))∧Below W.heap.size W w'):=fun W k=>tvper s.P s.A gw.p _ W W (h.keep k).a (here W) (fun _=>False) (fun _ c=>c.elim);have N1:=zh (fun x (xf:x<farI)=>nxT_ok gw (x:=x) xf);have N2:=zh (fun x (xf:x<farI)=>nxP_ok gw.p.p0 gw.p.p1 gw.p.cn (x:=x) xf);have lo0:=gw.lo0;have hi0:=gw.hi0;have le:=gw.le;have NF:=zh (fun x (x1:x≤1152921504606846976)=>nxT_far gw x x1);replace gw:=zh gw;refine B1.out.k7 fun b0 b1 b2 b3 b4 b5 aa bl=>?_;clear aa;clear h
 by_cases sm:s.P=s.Q∧s.A=s.B
 ·rw [zdt sm] at HE;clear hd;replace sm:=zh sm
  go_enter Tryz.func117,Tryz.ntmps117
  go_wp2_with fail
  refine (HE.out _ A1.out).mono ?_;rintro e w3 ⟨rfl,hb⟩;have A3:=zd A1 hb;have hS0:Below w.heap.size w w3∧w3.cell? ⟨w.heap.size,0,none⟩=some (.int .i64 s.P)∧w3.cell? ⟨w.heap.size,1,none⟩=some (.slice oa s.A.length ca)∧w3.cell? ⟨w.heap.size,2,none⟩=some (.int .i64 s.Q)∧w3.cell? ⟨w.heap.size,3,none⟩=some (.slice ob s.B.length cb)∧w3.cell? ⟨w.heap.size,4,none⟩=some (.int .i64 s.a)∧w3.cell? ⟨w.heap.size,5,none⟩=some (.int .i64 s.b)∧w3.cell? ⟨w.heap.size,6,none⟩=some (.slice ol s.L.length cl)∧w.heap.size<w3.heap.size:=⟨A3.out,(B1.out.keep hb).c 0 _ rfl,(B1.out.keep hb).c 1 _ rfl,(B1.out.keep hb).c 2 _ rfl,(B1.out.keep hb).c 3 _ rfl,(B1.out.keep hb).c 4 _ rfl,(B1.out.keep hb).c 5 _ rfl,(B1.out.keep hb).c 6 _ rfl,(B1.out.keep hb).lt⟩;have s2:=hS0.2.1;have s3:=hS0.2.2.2.2.2.1;have s4:=hS0.2.2.2.2.2.2.1;have s9:=hS0.2.2.2.2.2.2.2.2;clear hb A1 HE B1;go_wp2
  have mk:∀ W W':World,(Below w.heap.size w W∧W.cell? ⟨w.heap.size,0,none⟩=some (.int .i64 s.P)∧W.cell? ⟨w.heap.size,1,none⟩=some (.slice oa s.A.length ca)∧W.cell? ⟨w.heap.size,2,none⟩=some (.int .i64 s.Q)∧W.cell? ⟨w.heap.size,3,none⟩=some (.slice ob s.B.length cb)∧W.cell? ⟨w.heap.size,4,none⟩=some (.int .i64 s.a)∧W.cell? ⟨w.heap.size,5,none⟩=some (.int .i64 s.b)∧W.cell? ⟨w.heap.size,6,none⟩=some (.slice ol s.L.length cl)∧w.heap.size<W.heap.size)→Below W.heap.size W W'→(Below w.heap.size w W'∧W'.cell? ⟨w.heap.size,0,none⟩=some (.int .i64 s.P)∧W'.cell? ⟨w.heap.size,1,none⟩=some (.slice oa s.A.length ca)∧W'.cell? ⟨w.heap.size,2,none⟩=some (.int .i64 s.Q)∧W'.cell? ⟨w.heap.size,3,none⟩=some (.slice ob s.B.length cb)∧W'.cell? ⟨w.heap.size,4,none⟩=some (.int .i64 s.a)∧W'.cell? ⟨w.heap.size,5,none⟩=some (.int .i64 s.b)∧W'.cell? ⟨w.heap.size,6,none⟩=some (.slice ol s.L.length cl)∧w.heap.size<W'.heap.size):=fun W W' ⟨kb,k0_0,k0_1,k0_2,k0_3,k0_4,k0_5,k0_6,kl⟩ hb=>⟨down kb hb,(hb.cell (p:=⟨w.heap.size,0,none⟩) (by show w.heap.size<_;omega)).trans k0_0,(hb.cell (p:=⟨w.heap.size,1,none⟩) (by show w.heap.size<_;omega)).trans k0_1,(hb.cell (p:=⟨w.heap.size,2,none⟩) (by show w.heap.size<_;omega)).trans k0_2,(hb.cell (p:=⟨w.heap.size,3,none⟩) (by show w.heap.size<_;omega)).trans k0_3,(hb.cell (p:=⟨w.heap.size,4,none⟩) (by show w.heap.size<_;omega)).trans k0_4,(hb.cell (p:=⟨w.heap.size,5,none⟩) (by show w.heap.size<_;omega)).trans k0_5,(hb.cell (p:=⟨w.heap.size,6,none⟩) (by show w.heap.size<_;omega)).trans k0_6,zll kl hb.size⟩
  go_region_held3 (fun W'=>Below w.heap.size w W'∧W'.cell? ⟨w.heap.size,0,none⟩=some (.int .i64 s.P)∧W'.cell? ⟨w.heap.size,1,none⟩=some (.slice oa s.A.length ca)∧W'.cell? ⟨w.heap.size,2,none⟩=some (.int .i64 s.Q)∧W'.cell? ⟨w.heap.size,3,none⟩=some (.slice ob s.B.length cb)∧W'.cell? ⟨w.heap.size,4,none⟩=some (.int .i64 s.a)∧W'.cell? ⟨w.heap.size,5,none⟩=some (.int .i64 s.b)∧W'.cell? ⟨w.heap.size,6,none⟩=some (.slice ol s.L.length cl)∧w.heap.size<W'.heap.size) (first | assumption | (exact mk _ _ (by assumption) (here _).drew) | (exact mk _ _ (by assumption) (grow (here _) _)))
   (first
   | (go_at_call 68;(with_reducible refine (HV1.out _ (And.left (by assumption))).mono ?_);rintro e w' ⟨⟨v5,rfl,V5⟩,hb⟩;obtain ⟨g5,c5,rfl⟩:=VwX.shape V5;have hS:=mk _ w' (by assumption) hb)
   | (go_at_call 123;(with_reducible refine (HV2.out _ (And.left (by assumption))).mono ?_);rintro e w' ⟨⟨v6,rfl,V6⟩,hb⟩;obtain ⟨g6,c6,rfl⟩:=VwX.shape V6;have hS:=mk _ w' (by assumption) hb;replace V5:=VwX.keep V5 hb))
  have A6:=zh hS.1;have s1:=hS.2.1;have s2:=hS.2.2.2.2.2.1;have s3:=hS.2.2.2.2.2.2.1;have s9:=hS.2.2.2.2.2.2.2.2;clear hS mk hS0;replace V5:=zh V5;replace V6:=zh V6;obtain ⟨g1,k1,e5,eg1,hg1⟩:=V5.out
  injection e5 with e5a e5c e5b
  injection e5a with e5a
  subst e5a e5b;obtain ⟨g2,k2,e6,eg2,hg2⟩:=V6.out
  injection e6 with e6a e6c e6b
  injection e6a with e6a
  subst e6a e6b;have HG1:Hid (∀ W y c,Below w'.heap.size w' W→hsT s y=c→I64 y→Calls Tryz.prog g5 (#[.int .i64 y]++c5) W fun e W'=>(∃ n,e=.returned (.tuple #[.bool c,.int .i64 n])∧(-1152921504606846976≤y→y≤1152921504606846976→n=nxT s y))∧Below W.heap.size W W'):=fun W y c hW e hy=>by subst e;exact hg1 W (Far.of hW) y hy
  have HG2:Hid (∀ W y c,Below w'.heap.size w' W→hsP s.P s.A y=c→I64 y→Calls Tryz.prog g6 (#[.int .i64 y]++c6) W fun e W'=>(∃ n,e=.returned (.tuple #[.bool c,.int .i64 n])∧(-1152921504606846976≤y→y≤1152921504606846976→n=nxP s.P s.A y))∧Below W.heap.size W W'):=fun W y c hW e hy=>by subst e;exact hg2 W (Far.of hW) y hy
  clear hg1 hg2 V5 V6 e5c e6c hb;have L0:Hid (Below w'.heap.size w' w'):=here w';go_wp2
  go_loopw [7] (fun t wr=>∃ x:Int,t=.int .i64 x∧s.a≤x∧x≤9223372036854775807∧Hid (∀ z,s.a≤z→z<x→hsT s z=hsP s.P s.A z)∧Hid (Below w'.heap.size w' wr)) (fun t _=>(s.b - intOf t).toNat)
  case atStart=>exact ⟨s.a,rfl,Int.le_refl _,by omega,fun z a b=>absurd a (by omega),L0⟩
  case round =>
   obtain ⟨x,rfl,x0,x1,ON,LR⟩:=hrel;clear L0 s1 s2 s3 s9;have AR:=zh (down A6.out LR.out)
   by_cases z:x<s.b
   ·have kz:decide (x<s.b)=true:=zdt z;obtain ⟨i1,hi1⟩:∃ i,hsT s x=i:=⟨_,rfl⟩;obtain ⟨i2,hi2⟩:∃ i,hsP s.P s.A x=i:=⟨_,rfl⟩;have C1:=zh (HG1.out wr x i1 LR.out hi1 (by unfold I64;omega));have C2:Hid (∀ W,Below wr.heap.size wr W→_):=fun W (hW:Below wr.heap.size wr W)=>HG2.out W x i2 (down LR.out hW) hi2 (by unfold I64;omega);have T1:=zh (N1.out x (by unfold farI;omega));have T2:=zh (N2.out x (by unfold farI;omega));replace hi1:=zh hi1;replace hi2:=zh hi2;clear HG1 HG2
    by_cases cd:i1=i2
    ·subst cd;have kc:(i1==i1)=true:=by simp
     go_wp2_with fail
     go_at_fn g5
     refine C1.out.mono ?_;rintro e w8 ⟨⟨n1,rfl,hn1⟩,hb⟩;have A8:=zd AR hb;have C3:=zh (C2.out w8 hb);have L8:=zd LR hb;replace hn1:=zh hn1;clear hb C1 C2 AR;go_wp2_with fail
     go_at_fn g6
     refine C3.out.mono ?_;rintro e w9 ⟨⟨n2,rfl,hn2⟩,hb⟩;have A9:=zd A8 hb;have L9:=zd L8 hb;have en1:n1=nxT s x:=hn1.out (by omega) (by omega);have en2:n2=nxP s.P s.A x:=hn2 (by omega) (by omega);have T1f:=zh (NF.out x (by omega));rw [← en1] at T1f;rw [← en1] at T1;rw [← en2] at T2;clear hn1 hn2 hb C3 A8 L8 en1 en2 eg1 eg2;obtain ⟨m,hm⟩:∃ m,mnI n1 n2=m:=⟨_,rfl⟩;have ef:(if n2<n1 then n2 else n1)=m:=hm;have em:min n1 n2=m:=by rw [mn_min];exact hm
     have mb:x<m∧m≤n1∧m≤n2:=by have h1:=mnI_le n1 n2;have h2:=mnI_or n1 n2;have h3:=T1.out.lt;have h4:=T2.out.lt;rw [hm] at h1 h2;omega
     have mf:m≤9223372036854775807:=by
      have h2:=mb.2.1;have h3:n1≤9223372036854775807:=T1f.out;omega
     have ON':Hid (∀ z,s.a≤z→z<m→hsT s z=hsP s.P s.A z):=fun z a b=>by
      by_cases zx:z<x
      ·exact ON.out z a zx
      ·rw [T1.out.on z (by omega) (by omega),T2.out.on z (by omega) (by omega),hi1.out,hi2.out]
     obtain ⟨m0',-,-⟩:=mb;clear hm T1 T2 hi1 hi2 ON LR;go_wp2
     go_roundw
     case rel=>exact ⟨m,rfl,by omega,mf,ON',L9⟩
     case measure=>simp [intOf];omega
    ·have kc:(i1==i2)=false:=by rw [beq_eq_false_iff_ne];exact cd
     have DR:Hid (DpR s x true):=⟨fun _=>⟨x0,by rw [hi1.out,hi2.out];exact cd,ON.out,fun _=>z⟩,fun c=>by cases c⟩;clear cd;go_wp2_with fail
     go_at_fn g5
     refine C1.out.mono ?_;rintro e w8 ⟨⟨n1,rfl,hn1⟩,hb⟩;have A8:=zd AR hb;have C3:=zh (C2.out w8 hb);have L8:=zd LR hb;replace hn1:=zh hn1;clear hb C1 C2 AR;go_wp2_with fail
     go_at_fn g6
     refine C3.out.mono ?_;rintro e w9 ⟨⟨n2,rfl,hn2⟩,hb⟩;have A9:=zd A8 hb;have L9:=zd L8 hb;have en1:n1=nxT s x:=hn1.out (by omega) (by omega);have en2:n2=nxP s.P s.A x:=hn2 (by omega) (by omega);have T1f:=zh (NF.out x (by omega));rw [← en1] at T1f;rw [← en1] at T1;rw [← en2] at T2;clear hn1 hn2 hb C3 A8 L8 en1 en2 eg1 eg2;clear T1 T2 hi1 hi2 ON LR;go_wp2
     go_ret2
     first | exact ⟨⟨_,_,rfl,DR.out,by omega,by omega⟩,A9.out⟩ | exact ⟨⟨_,.inr ⟨rfl,DR.out,by omega,by omega⟩⟩,A9.out⟩
   ·have kz:decide (x<s.b)=false:=zdf z;have DR:Hid (DpR s 0 false):=⟨fun c=>(by cases c),fun _=>⟨rfl,sm.out,fun y a b=>ON.out y a (by omega)⟩⟩;clear ON LR HG1 HG2 eg1 eg2;go_wp2
    go_ret2
    exact ⟨⟨_,.inl ⟨rfl,DR.out,by omega,by omega⟩⟩,AR.out⟩
 ·rw [zdf sm] at HE;replace hd:=zh (hd sm);replace sm:Hid (¬ smP s):=sm
  go_enter Tryz.func117,Tryz.ntmps117
  go_wp2_with fail
  refine (HE.out _ A1.out).mono ?_;rintro e w3 ⟨rfl,hb⟩;have A3:=zd A1 hb;have hS0:Below w.heap.size w w3∧w3.cell? ⟨w.heap.size,0,none⟩=some (.int .i64 s.P)∧w3.cell? ⟨w.heap.size,1,none⟩=some (.slice oa s.A.length ca)∧w3.cell? ⟨w.heap.size,2,none⟩=some (.int .i64 s.Q)∧w3.cell? ⟨w.heap.size,3,none⟩=some (.slice ob s.B.length cb)∧w3.cell? ⟨w.heap.size,4,none⟩=some (.int .i64 s.a)∧w3.cell? ⟨w.heap.size,5,none⟩=some (.int .i64 s.b)∧w3.cell? ⟨w.heap.size,6,none⟩=some (.slice ol s.L.length cl)∧w.heap.size<w3.heap.size:=⟨A3.out,(B1.out.keep hb).c 0 _ rfl,(B1.out.keep hb).c 1 _ rfl,(B1.out.keep hb).c 2 _ rfl,(B1.out.keep hb).c 3 _ rfl,(B1.out.keep hb).c 4 _ rfl,(B1.out.keep hb).c 5 _ rfl,(B1.out.keep hb).c 6 _ rfl,(B1.out.keep hb).lt⟩;have s2:=hS0.2.1;have s3:=hS0.2.2.2.2.2.1;have s4:=hS0.2.2.2.2.2.2.1;have s9:=hS0.2.2.2.2.2.2.2.2;clear hb A1 HE B1;go_wp2
  have mk:∀ W W':World,(Below w.heap.size w W∧W.cell? ⟨w.heap.size,0,none⟩=some (.int .i64 s.P)∧W.cell? ⟨w.heap.size,1,none⟩=some (.slice oa s.A.length ca)∧W.cell? ⟨w.heap.size,2,none⟩=some (.int .i64 s.Q)∧W.cell? ⟨w.heap.size,3,none⟩=some (.slice ob s.B.length cb)∧W.cell? ⟨w.heap.size,4,none⟩=some (.int .i64 s.a)∧W.cell? ⟨w.heap.size,5,none⟩=some (.int .i64 s.b)∧W.cell? ⟨w.heap.size,6,none⟩=some (.slice ol s.L.length cl)∧w.heap.size<W.heap.size)→Below W.heap.size W W'→(Below w.heap.size w W'∧W'.cell? ⟨w.heap.size,0,none⟩=some (.int .i64 s.P)∧W'.cell? ⟨w.heap.size,1,none⟩=some (.slice oa s.A.length ca)∧W'.cell? ⟨w.heap.size,2,none⟩=some (.int .i64 s.Q)∧W'.cell? ⟨w.heap.size,3,none⟩=some (.slice ob s.B.length cb)∧W'.cell? ⟨w.heap.size,4,none⟩=some (.int .i64 s.a)∧W'.cell? ⟨w.heap.size,5,none⟩=some (.int .i64 s.b)∧W'.cell? ⟨w.heap.size,6,none⟩=some (.slice ol s.L.length cl)∧w.heap.size<W'.heap.size):=fun W W' ⟨kb,k0_0,k0_1,k0_2,k0_3,k0_4,k0_5,k0_6,kl⟩ hb=>⟨down kb hb,(hb.cell (p:=⟨w.heap.size,0,none⟩) (by show w.heap.size<_;omega)).trans k0_0,(hb.cell (p:=⟨w.heap.size,1,none⟩) (by show w.heap.size<_;omega)).trans k0_1,(hb.cell (p:=⟨w.heap.size,2,none⟩) (by show w.heap.size<_;omega)).trans k0_2,(hb.cell (p:=⟨w.heap.size,3,none⟩) (by show w.heap.size<_;omega)).trans k0_3,(hb.cell (p:=⟨w.heap.size,4,none⟩) (by show w.heap.size<_;omega)).trans k0_4,(hb.cell (p:=⟨w.heap.size,5,none⟩) (by show w.heap.size<_;omega)).trans k0_5,(hb.cell (p:=⟨w.heap.size,6,none⟩) (by show w.heap.size<_;omega)).trans k0_6,zll kl hb.size⟩
  go_region_held3 (fun W'=>Below w.heap.size w W'∧W'.cell? ⟨w.heap.size,0,none⟩=some (.int .i64 s.P)∧W'.cell? ⟨w.heap.size,1,none⟩=some (.slice oa s.A.length ca)∧W'.cell? ⟨w.heap.size,2,none⟩=some (.int .i64 s.Q)∧W'.cell? ⟨w.heap.size,3,none⟩=some (.slice ob s.B.length cb)∧W'.cell? ⟨w.heap.size,4,none⟩=some (.int .i64 s.a)∧W'.cell? ⟨w.heap.size,5,none⟩=some (.int .i64 s.b)∧W'.cell? ⟨w.heap.size,6,none⟩=some (.slice ol s.L.length cl)∧w.heap.size<W'.heap.size) (first | assumption | (exact mk _ _ (by assumption) (here _).drew) | (exact mk _ _ (by assumption) (grow (here _) _)))
   (first
   | (go_at_call 68;(with_reducible refine (HV1.out _ (And.left (by assumption))).mono ?_);rintro e w' ⟨⟨v5,rfl,V5⟩,hb⟩;obtain ⟨g5,c5,rfl⟩:=VwX.shape V5;have hS:=mk _ w' (by assumption) hb)
   | (go_at_call 123;(with_reducible refine (HV2.out _ (And.left (by assumption))).mono ?_);rintro e w' ⟨⟨v6,rfl,V6⟩,hb⟩;obtain ⟨g6,c6,rfl⟩:=VwX.shape V6;have hS:=mk _ w' (by assumption) hb;replace V5:=VwX.keep V5 hb))
  have A6:=zh hS.1;have s1:=hS.2.1;have s2:=hS.2.2.2.2.2.1;have s3:=hS.2.2.2.2.2.2.1;have s9:=hS.2.2.2.2.2.2.2.2;clear hS mk hS0;replace V5:=zh V5;replace V6:=zh V6;obtain ⟨g1,k1,e5,eg1,hg1⟩:=V5.out
  injection e5 with e5a e5c e5b
  injection e5a with e5a
  subst e5a e5b;obtain ⟨g2,k2,e6,eg2,hg2⟩:=V6.out
  injection e6 with e6a e6c e6b
  injection e6a with e6a
  subst e6a e6b;have HG1:Hid (∀ W y c,Below w'.heap.size w' W→hsT s y=c→I64 y→Calls Tryz.prog g5 (#[.int .i64 y]++c5) W fun e W'=>(∃ n,e=.returned (.tuple #[.bool c,.int .i64 n])∧(-1152921504606846976≤y→y≤1152921504606846976→n=nxT s y))∧Below W.heap.size W W'):=fun W y c hW e hy=>by subst e;exact hg1 W (Far.of hW) y hy
  have HG2:Hid (∀ W y c,Below w'.heap.size w' W→hsP s.P s.A y=c→I64 y→Calls Tryz.prog g6 (#[.int .i64 y]++c6) W fun e W'=>(∃ n,e=.returned (.tuple #[.bool c,.int .i64 n])∧(-1152921504606846976≤y→y≤1152921504606846976→n=nxP s.P s.A y))∧Below W.heap.size W W'):=fun W y c hW e hy=>by subst e;exact hg2 W (Far.of hW) y hy
  clear hg1 hg2 V5 V6 e5c e6c hb;have L0:Hid (Below w'.heap.size w' w'):=here w';go_wp2
  go_loopw [7] (fun t wr=>∃ x:Int,t=.int .i64 x∧s.a≤x∧x≤9223372036854775807∧Hid (∀ z,s.a≤z→z<x→hsT s z=hsP s.P s.A z)∧Hid (Below w'.heap.size w' wr)) (fun t _=>((s.b+M) - intOf t).toNat)
  case atStart=>exact ⟨s.a,rfl,Int.le_refl _,by omega,fun z a b=>absurd a (by omega),L0⟩
  case round =>
   obtain ⟨x,rfl,x0,x1,ON,LR⟩:=hrel;clear L0 s1 s2 s3 s9;have xM:x<s.b+M:=by
    by_cases c:x<s.b+M
    ·exact c
    ·obtain ⟨y,y0,y1,y2⟩:=hd.out.ex s.b;refine absurd ?_ y2;rw [← ON.out y (by omega) (by omega)];exact (gv_high gw.out.le y0).symm
   have AR:=zh (down A6.out LR.out)
   by_cases z:x<9223372036854775807
   ·have kz:decide (x<9223372036854775807)=true:=zdt z;obtain ⟨i1,hi1⟩:∃ i,hsT s x=i:=⟨_,rfl⟩;obtain ⟨i2,hi2⟩:∃ i,hsP s.P s.A x=i:=⟨_,rfl⟩;have C1:=zh (HG1.out wr x i1 LR.out hi1 (by unfold I64;omega));have C2:Hid (∀ W,Below wr.heap.size wr W→_):=fun W (hW:Below wr.heap.size wr W)=>HG2.out W x i2 (down LR.out hW) hi2 (by unfold I64;omega);have T1:=zh (N1.out x (by unfold farI;omega));have T2:=zh (N2.out x (by unfold farI;omega));replace hi1:=zh hi1;replace hi2:=zh hi2;clear HG1 HG2
    by_cases cd:i1=i2
    ·subst cd;have kc:(i1==i1)=true:=by simp
     go_wp2_with fail
     go_at_fn g5
     refine C1.out.mono ?_;rintro e w8 ⟨⟨n1,rfl,hn1⟩,hb⟩;have A8:=zd AR hb;have C3:=zh (C2.out w8 hb);have L8:=zd LR hb;replace hn1:=zh hn1;clear hb C1 C2 AR;go_wp2_with fail
     go_at_fn g6
     refine C3.out.mono ?_;rintro e w9 ⟨⟨n2,rfl,hn2⟩,hb⟩;have A9:=zd A8 hb;have L9:=zd L8 hb;have en1:n1=nxT s x:=hn1.out (by omega) (by omega);have en2:n2=nxP s.P s.A x:=hn2 (by omega) (by omega);have T1f:=zh (NF.out x (by omega));rw [← en1] at T1f;rw [← en1] at T1;rw [← en2] at T2;clear hn1 hn2 hb C3 A8 L8 en1 en2 eg1 eg2;obtain ⟨m,hm⟩:∃ m,mnI n1 n2=m:=⟨_,rfl⟩;have ef:(if n2<n1 then n2 else n1)=m:=hm;have em:min n1 n2=m:=by rw [mn_min];exact hm
     have mb:x<m∧m≤n1∧m≤n2:=by have h1:=mnI_le n1 n2;have h2:=mnI_or n1 n2;have h3:=T1.out.lt;have h4:=T2.out.lt;rw [hm] at h1 h2;omega
     have mf:m≤9223372036854775807:=by
      have h2:=mb.2.1;have h3:n1≤9223372036854775807:=T1f.out;omega
     have ON':Hid (∀ z,s.a≤z→z<m→hsT s z=hsP s.P s.A z):=fun z a b=>by
      by_cases zx:z<x
      ·exact ON.out z a zx
      ·rw [T1.out.on z (by omega) (by omega),T2.out.on z (by omega) (by omega),hi1.out,hi2.out]
     obtain ⟨m0',-,-⟩:=mb;clear hm T1 T2 hi1 hi2 ON LR;go_wp2
     go_roundw
     case rel=>exact ⟨m,rfl,by omega,mf,ON',L9⟩
     case measure=>simp [intOf];omega
    ·have kc:(i1==i2)=false:=by rw [beq_eq_false_iff_ne];exact cd
     have DR:Hid (DpR s x true):=⟨fun _=>⟨x0,by rw [hi1.out,hi2.out];exact cd,ON.out,fun c=>absurd c sm.out⟩,fun c=>by cases c⟩;clear cd;go_wp2_with fail
     go_at_fn g5
     refine C1.out.mono ?_;rintro e w8 ⟨⟨n1,rfl,hn1⟩,hb⟩;have A8:=zd AR hb;have C3:=zh (C2.out w8 hb);have L8:=zd LR hb;replace hn1:=zh hn1;clear hb C1 C2 AR;go_wp2_with fail
     go_at_fn g6
     refine C3.out.mono ?_;rintro e w9 ⟨⟨n2,rfl,hn2⟩,hb⟩;have A9:=zd A8 hb;have L9:=zd L8 hb;have en1:n1=nxT s x:=hn1.out (by omega) (by omega);have en2:n2=nxP s.P s.A x:=hn2 (by omega) (by omega);have T1f:=zh (NF.out x (by omega));rw [← en1] at T1f;rw [← en1] at T1;rw [← en2] at T2;clear hn1 hn2 hb C3 A8 L8 en1 en2 eg1 eg2;clear T1 T2 hi1 hi2 ON LR;go_wp2
     go_ret2
     first | exact ⟨⟨_,_,rfl,DR.out,by omega,by omega⟩,A9.out⟩ | exact ⟨⟨_,.inr ⟨rfl,DR.out,by omega,by omega⟩⟩,A9.out⟩
   ·exact absurd (show x<9223372036854775807 by omega) z
end Go.Proofs.YtmamlgaogpkagaaGreat
