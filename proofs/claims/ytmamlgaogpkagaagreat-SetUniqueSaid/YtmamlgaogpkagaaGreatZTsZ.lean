/- TsZ TsAw. -/
import Derived.Test.YtmamlgaogpkagaaGreatZLPlain
import Derived.Test.YtmamlgaogpkagaaGreatZLGen
import Derived.Test.YtmamlgaogpkagaaGreatZLSl
import Derived.Test.YtmamlgaogpkagaaGreatZLOwn
import Derived.Test.YtmamlgaogpkagaaGreatZRnP
import Derived.Test.YtmamlgaogpkagaaGreatZPeKD
import Derived.Test.YtmamlgaogpkagaaGreatZPeKE
import Derived.Test.YtmamlgaogpkagaaGreatZPeKI
import Derived.Test.YtmamlgaogpkagaaGreatZPeKJ
import Derived.Test.YtmamlgaogpkagaaGreatZPeKK
import Derived.Test.YtmamlgaogpkagaaGreatZPeGD
import Derived.Test.YtmamlgaogpkagaaGreatZTsR
import Derived.Test.YtmamlgaogpkagaaGreatZTsG
import Derived.Test.YtmamlgaogpkagaaGreatZTsI
namespace Go.Proofs.YtmamlgaogpkagaaGreat
open Go.RowKit
set_option linter.unusedVariables false
set_option linter.unusedSimpArgs false
def TsO (w:World) (R:TS × Int) (e:Ending) (w':World):Prop :=
 (∃ ua ub ul,e=.returned (.tuple #[.agg #[.int .i64 R.1.P,ua,.int .i64 R.1.Q,ub,.int .i64 R.1.a,.int .i64 R.1.b,ul],.int .i64 R.2])∧SS3 w' R.1 ua ub ul)∧Below w.heap.size w w'
theorem TsO.zero {w w':World} (e:Int) (h:Below w.heap.size w w'):TsO w (tsZ,e) (.returned (.tuple #[.agg #[.int .i64 0,.slice none 0 0,.int .i64 0,.slice none 0 0,.int .i64 0,.int .i64 0,.slice none 0 0],.int .i64 e])) w':=⟨⟨_,_,_,rfl,ss3_none _⟩,h⟩
theorem Lies.past {w:World} {b b' off i:Nat} {xs:List Value} (k:Lies w b off xs) (h:b≠b'∨i<off) (u:Value):Lies (w.setCell ⟨b',i,none⟩ u) b off xs:=by
 refine ⟨by rw [size_set];exact k.lt,fun j x hj=>?_⟩;rw [zco (h:=fun e=>by have h1:=congrArg Addr.block e;have h2:=congrArg Addr.off e;simp at h1 h2;omega)];exact k.cell j x hj
theorem two_vals {a b:Value} {o:Option Value} (h:o=some a) (k:o=some b):a=b:=by rw [h] at k;injection k
theorem stray7 {w:World} {v:Value} {L:List Sp} {b:Nat} (h:PairS 0 w v L) (lt:∀ q,q∈L→q.1<q.2) (z:Bxo w b [.int .i64 0,.slice none 0 0,.int .i64 0,.slice none 0 0,.int .i64 0,.int .i64 0,.slice none 0 0]) (u0 u1 u2 u3 u4 u5 u6:Value) :
    PairS 0 (((((((w.setCell ⟨b,0,none⟩ u0).setCell ⟨b,1,none⟩ u1).setCell ⟨b,2,none⟩ u2).setCell ⟨b,3,none⟩ u3).setCell ⟨b,4,none⟩ u4).setCell ⟨b,5,none⟩ u5).setCell ⟨b,6,none⟩ u6) v L:=by
  rcases h with h | ⟨blk,off,c,e,l,k⟩
  · exact .inl h
  · cases L with
    | nil=>exact .inl ⟨rfl,_,_,e⟩
    | cons q L =>
      have c0:=k.cell 0 _ rfl;have c1:=k.cell 1 _ rfl;have q2:=lt q (List.mem_cons_self ..);have away:blk≠b∨6<off:=by
        by_cases e1:blk=b
        · subst e1;refine Or.inr ?_
          by_cases o0:6<off
          · exact o0
          · exfalso
            have cs:off=0∨off=1∨off=2∨off=3∨off=4∨off=5∨off=6:=by omega
            rcases cs with rfl | rfl | rfl | rfl | rfl | rfl | rfl
            · have:=two_vals c1 (z.t.c 1 _ rfl);cases this
            · have:=two_vals c0 (z.t.c 1 _ rfl);cases this
            · have:=two_vals c1 (z.t.c 3 _ rfl);cases this
            · have:=two_vals c0 (z.t.c 3 _ rfl);cases this
            · have h1:=two_vals c0 (z.t.c 4 _ rfl);have h2:=two_vals c1 (z.t.c 5 _ rfl)
              injection h1 with _ h1
              injection h2 with _ h2
              omega
            · have:=two_vals c1 (z.t.c 6 _ rfl);cases this
            · have:=two_vals c0 (z.t.c 6 _ rfl);cases this
        · exact Or.inl e1
      exact .inr ⟨blk,off,c,e,l,((((((k.past (by omega) u0).past (by omega) u1).past (by omega) u2).past (by omega) u3).past (by omega) u4).past (by omega) u5).past (by omega) u6⟩
structure TsL (s:TS):Prop where
 A:∀ q,q∈s.A→q.1<q.2
 B:∀ q,q∈s.B→q.1<q.2
 L:∀ q,q∈s.L→q.1<q.2
theorem tl_zero:TsL tsZ:=⟨fun q h=>(by cases h),fun q h=>(by cases h),fun q h=>(by cases h)⟩
theorem PV.lt {P:Int} {A:List Sp} (h:PV P A):∀ q,q∈A→q.1<q.2:=(vaB_iff.1 h.va).2.2.lt
theorem fr_tl {P Q:Int} {A B:List Sp} (p:PV P A) (q:PV Q B) (f:Int→Bool):TsL (frT P A Q B f).1:=by
 unfold frT
 split
 ·exact tl_zero
 ·split
  ·exact ⟨p.lt,q.lt,fun q h=>(by cases h)⟩
  ·split
   ·exact ⟨p.lt,q.lt,(ca_cn _ _ _).lt⟩
   ·exact tl_zero
theorem to_tl (P:Int) (A:List Sp) (Q:Int) (B:List Sp) (lo hi:Int) (l:List Sp):TsL (toR P A Q B lo hi l).1:=by
 unfold toR
 split
 ·rename_i g
  have:=giv_iff.1 g;exact fr_tl this.p this.q _
 ·exact tl_zero
theorem SS3.stray {w:World} {s:TS} {ua ub ul:Value} {b:Nat} (h:SS3 w s ua ub ul) (lt:TsL s) (z:Bxo w b [.int .i64 0,.slice none 0 0,.int .i64 0,.slice none 0 0,.int .i64 0,.int .i64 0,.slice none 0 0]) (u0 u1 u2 u3 u4 u5 u6:Value) :
  SS3 (((((((w.setCell ⟨b,0,none⟩ u0).setCell ⟨b,1,none⟩ u1).setCell ⟨b,2,none⟩ u2).setCell ⟨b,3,none⟩ u3).setCell ⟨b,4,none⟩ u4).setCell ⟨b,5,none⟩ u5).setCell ⟨b,6,none⟩ u6) s ua ub ul :=
 ⟨stray7 h.a lt.A z _ _ _ _ _ _ _,stray7 h.b lt.B z _ _ _ _ _ _ _,stray7 h.l lt.L z _ _ _ _ _ _ _⟩
theorem lst7b:Lst (hsP 7 [(0,1)]) 7 7:=⟨by omega,Int.dvd_refl 7,hs_per,fun e e0 dv per=>by
 have le:=dv_cases e0 (by omega) dv;obtain ⟨c,hc⟩:=dv
 rcases (show e=1∨e=2∨e=3∨e=4∨e=5∨e=6∨e=7 by omega) with rfl | rfl | rfl | rfl | rfl | rfl | rfl
 ·exact absurd (per 0) (by decide)
 all_goals omega⟩
theorem lst4:Lst (hsP 4 [(0,1)]) 4 4:=⟨by omega,Int.dvd_refl 4,hs_per,fun e e0 dv per=>by
 have le:=dv_cases e0 (by omega) dv;obtain ⟨c,hc⟩:=dv
 rcases (show e=1∨e=2∨e=3∨e=4 by omega) with rfl | rfl | rfl | rfl
 ·exact absurd (per 0) (by decide)
 ·exact absurd (per 0) (by decide)
 all_goals omega⟩
theorem pv7:PV 7 [(0,1)]:=⟨by omega,by omega,by decide,fun q hq=>by rw [List.mem_singleton.1 hq];exact ⟨by decide,by decide⟩,lst7b⟩
theorem pv4:PV 4 [(0,1)]:=⟨by omega,by omega,by decide,fun q hq=>by rw [List.mem_singleton.1 hq];exact ⟨by decide,by decide⟩,lst4⟩
theorem aw_hole:faT [(7,8)]=(⟨1,[],1,[],7,8,[(7,8)]⟩,0):=by
 have v:vaB [((7:Int),(8:Int))]=true:=by decide
 rw [fa_eq (by rw [of_va v]),of_va v];rfl
theorem aw_co:coR 3 7 [(0,1)] 1 []=((7,[(0,1)]),0):=by
 have f:(fun x=>kpB 3 (hsP 7 [(0,1)] x) (hsP 1 [] x))=hsP 7 [(0,1)]:=funext fun x=>by
  show (hsP 7 [(0,1)] x&&!hsP 1 [] x)=_
  rw [hs_none];simp
 have pr:prR 7 1 1 0=(7,0):=by decide
 have e:fmP 7 (hsP 7 [(0,1)])=(7,[(0,1)]):=fm_self ⟨by decide,fun q hq=>(by cases hq),trivial⟩ pv7.ip lst7b
 unfold coR
 rw [pv_iff.2 pv7,pv_iff.2 pv_none,f]
 show (if true=true then (if (prR 7 1 1 0).2=0 then pfR (prR 7 1 1 0).1 _ else _) else _)=_
 rw [pr]
 unfold pfR
 show (if true=true then (if (0:Int)=0 then (if 2000<(fmP 7 _).2.length then _ else _) else _) else _)=_
 rw [e];rfl
theorem ca_short {f:Int→Bool} {a:Int}:(caL f a (a+1)).length≤1:=by
 cases h:f a
 ·rw [show caL f a (a+1)=[] from (ca_eq (show Cn [] from trivial) fun x=>by
   rw [inB_nil];symm;rw [← Bool.not_eq_true]
   simp only [Bool.and_eq_true,decide_eq_true_eq]
   rintro ⟨⟨h1,h2⟩,h3⟩;obtain rfl:x=a:=by omega
   rw [h] at h3;cases h3).symm]
  exact Nat.zero_le _
 ·rw [ca_tight (fun x h1 h2=>by have e:x=a:=(by omega);rw [e];exact h) (show a<a+1 by omega)];exact Nat.le_refl _
theorem aw_minus:cbT 3 ⟨7,[(0,1)],7,[(0,1)],0,0,[]⟩ ⟨1,[],1,[],7,8,[(7,8)]⟩=(⟨7,[(0,1)],7,[(0,1)],7,8,[]⟩,0):=by
 obtain ⟨vs,hs⟩:=pu_vs pv7;have vt:VS ⟨1,[],1,[],7,8,[(7,8)]⟩∧hsT ⟨1,[],1,[],7,8,[(7,8)]⟩=inB [(7,8)]:=by
  have h:=fa_vs (l:=[(7,8)]) (by rw [aw_hole]);rw [aw_hole] at h;exact h
 obtain ⟨vt,ht⟩:=vt;have wn:wnT ⟨7,[(0,1)],7,[(0,1)],0,0,[]⟩ ⟨1,[],1,[],7,8,[(7,8)]⟩=(7,8):=by
  unfold wnT;rw [if_pos (pu_iff.2 ⟨rfl,rfl,rfl,rfl⟩)]
 have f:(fun x=>kpB 3 (hsT ⟨7,[(0,1)],7,[(0,1)],0,0,[]⟩ x) (hsT ⟨1,[],1,[],7,8,[(7,8)]⟩ x))=fun x=>hsP 7 [(0,1)] x&&!inB [(7,8)] x:=funext fun x=>by
  rw [show hsT ⟨7,[(0,1)],7,[(0,1)],0,0,[]⟩=hsP 7 [(0,1)] from hs,ht];rfl
 have l1:=ca_short (f:=hsT ⟨7,[(0,1)],7,[(0,1)],0,0,[]⟩) (a:=7);have l2:=ca_short (f:=hsT ⟨1,[],1,[],7,8,[(7,8)]⟩) (a:=7);have out:∀ x,(x<7∨8≤x)→(hsP 7 [(0,1)] x&&!inB [(7,8)] x)=hsP 7 [(0,1)] x:=fun x h=>by
  have:inB [((7:Int),(8:Int))] x=false:=by
   rw [← Bool.not_eq_true];intro c;obtain ⟨p,hp,a,b⟩:=inB_iff.1 c;rw [List.mem_singleton.1 hp] at a b;have a:(7:Int)≤x:=a;have b:x<(8:Int):=b;omega
  rw [this];simp
 have ea:EdA (fun x=>hsP 7 [(0,1)] x&&!inB [(7,8)] x) (hsP 7 [(0,1)]) 7:=⟨fun x hx=>out x (Or.inl hx),by decide⟩;have eb:EdB (fun x=>hsP 7 [(0,1)] x&&!inB [(7,8)] x) (hsP 7 [(0,1)]) 8:=⟨fun x hx=>out x (Or.inr hx),by decide⟩;have np:¬ ((7:Int)=7∧[((0:Int),(1:Int))]=[(0,1)]∧(fun x=>hsP 7 [(0,1)] x&&!inB [(7,8)] x)=hsP 7 [(0,1)]):=fun c=>ea.no (congrFun c.2.2 7);have lo:loT (fun x=>hsP 7 [(0,1)] x&&!inB [(7,8)] x) (hsP 7 [(0,1)]) (hsP 7 [(0,1)])=7:=by unfold loT;rw [edA_eq ea,edB_eq eb,if_pos (by omega)]
 have ep:pqE 7 [(0,1)] 7 [(0,1)]=0:=by unfold pqE;rw [if_pos ⟨rfl,rfl⟩]
 have cl:caL (fun x=>hsP 7 [(0,1)] x&&!inB [(7,8)] x) 7 8=[]:=(ca_eq (show Cn [] from trivial) fun x=>by
  rw [inB_nil];symm;rw [← Bool.not_eq_true]
  simp only [Bool.and_eq_true,decide_eq_true_eq]
  rintro ⟨⟨h1,h2⟩,h3⟩;obtain rfl:x=7:=by omega
  exact absurd h3.2 (by decide)).symm
 unfold cbT
 rw [if_neg (by rw [vs_ok.2 vs,vs_ok.2 vt];simp),wn,f]
 show (if (coR 3 7 [(0,1)] 1 []).2≠0 then _ else if (coR 3 7 [(0,1)] 1 []).2≠0 then _ else if pqE (coR 3 7 [(0,1)] 1 []).1.1 (coR 3 7 [(0,1)] 1 []).1.2 (coR 3 7 [(0,1)] 1 []).1.1 (coR 3 7 [(0,1)] 1 []).1.2≠0 then _ else if 2000<(caL _ 7 8).length+(caL _ 7 8).length then _ else frT (coR 3 7 [(0,1)] 1 []).1.1 (coR 3 7 [(0,1)] 1 []).1.2 (coR 3 7 [(0,1)] 1 []).1.1 (coR 3 7 [(0,1)] 1 []).1.2 _)=_
 rw [aw_co,if_neg (fun c=>c rfl),if_neg (fun c=>c rfl),if_neg (by show ¬ (pqE 7 [(0,1)] 7 [(0,1)]≠0);rw [ep];exact fun c=>c rfl),if_neg (by have l1:(caL (hsT ⟨7,[(0,1)],7,[(0,1)],0,0,[]⟩) 7 8).length≤1:=l1;have l2:(caL (hsT ⟨1,[],1,[],7,8,[(7,8)]⟩) 7 8).length≤1:=l2;omega)]
 show frT 7 [(0,1)] 7 [(0,1)] _=_
 unfold frT
 rw [if_neg (by rw [ep];exact fun c=>c rfl),if_neg np,lo,edB_eq eb,if_pos (by decide),cl]
theorem aw_pair:toR 2 [(0,1)] 4 [(0,1)] 10 10 []=(⟨2,[(0,1)],4,[(0,1)],7,7,[]⟩,0):=by
 have g:Giv 2 [(0,1)] 4 [(0,1)] 10 10 []:=⟨pv2,pv4,Int.le_refl _,by decide,by decide,rfl,fun s h=>by cases h⟩;have ep:pqE 2 [(0,1)] 4 [(0,1)]=0:=by decide
 have mod2:∀ x,hsP 2 [(0,1)] x=decide (x % 2=0):=fun x=>by
  show ((decide ((0:Int)≤x % 2)&&decide (x % 2<1)) || false)=_
  rw [Bool.eq_iff_iff];simp only [Bool.or_eq_true,Bool.and_eq_true,decide_eq_true_iff,Bool.false_eq_true,or_false];omega
 have mod4:∀ x,hsP 4 [(0,1)] x=decide (x % 4=0):=fun x=>by
  show ((decide ((0:Int)≤x % 4)&&decide (x % 4<1)) || false)=_
  rw [Bool.eq_iff_iff];simp only [Bool.or_eq_true,Bool.and_eq_true,decide_eq_true_iff,Bool.false_eq_true,or_false];omega
 have low:∀ x,x<10→gvF 2 [(0,1)] 4 [(0,1)] 10 10 [] x=hsP 2 [(0,1)] x:=fun x h=>gv_low h;have high:∀ x,10≤x→gvF 2 [(0,1)] 4 [(0,1)] 10 10 [] x=hsP 4 [(0,1)] x:=fun x h=>gv_high (Int.le_refl _) h;have ea:EdA (gvF 2 [(0,1)] 4 [(0,1)] 10 10 []) (hsP 2 [(0,1)]) 10:=⟨fun x hx=>low x hx,by rw [high 10 (Int.le_refl _)];decide⟩;have eb:EdB (gvF 2 [(0,1)] 4 [(0,1)] 10 10 []) (hsP 4 [(0,1)]) 7:=by
  refine ⟨fun x hx=>?_,by rw [low (7 - 1) (by omega)];decide⟩
  by_cases z:x<10
  ·rw [low x z,mod2,mod4]
   rcases (show x=7∨x=8∨x=9 by omega) with rfl | rfl | rfl <;> decide
  ·exact high x (by omega)
 have f:=fr_ends g ep ea eb (fun h=>by omega)
 unfold toR
 rw [if_pos (giv_iff.2 g),f,if_neg (show ¬ (10:Int)≤7 by omega),if_neg (show ¬ (10:Int)≤7 by omega)];exact if_pos (by decide)
theorem aw_has (x:Int):(vsB (⟨2,[(0,1)],4,[(0,1)],7,7,[]⟩:TS)&&hsT ⟨2,[(0,1)],4,[(0,1)],7,7,[]⟩ x)=gvF 2 [(0,1)] 4 [(0,1)] 10 10 [] x:=by
 obtain ⟨-,v,h⟩:=to_vs (P:=2) (A:=[(0,1)]) (Q:=4) (B:=[(0,1)]) (lo:=10) (hi:=10) (l:=[]) (by rw [aw_pair]);rw [aw_pair] at v h;rw [vs_ok.2 v,← h];rfl
theorem aw_8:(vsB (⟨2,[(0,1)],4,[(0,1)],7,7,[]⟩:TS)&&hsT ⟨2,[(0,1)],4,[(0,1)],7,7,[]⟩ 8)=true:=by rw [aw_has];decide
theorem aw_10:(vsB (⟨2,[(0,1)],4,[(0,1)],7,7,[]⟩:TS)&&hsT ⟨2,[(0,1)],4,[(0,1)],7,7,[]⟩ 10)=false:=by rw [aw_has];decide
end Go.Proofs.YtmamlgaogpkagaaGreat
