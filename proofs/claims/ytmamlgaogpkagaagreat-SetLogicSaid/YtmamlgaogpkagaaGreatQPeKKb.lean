/- PeKKb TsSa TsJ TsUc TsCb. -/
import Derived.Test.YtmamlgaogpkagaaGreatQLPlain
import Derived.Test.YtmamlgaogpkagaaGreatQRnCa
import Derived.Test.YtmamlgaogpkagaaGreatQLGen
import Derived.Test.YtmamlgaogpkagaaGreatQLSl
import Derived.Test.YtmamlgaogpkagaaGreatQRnKD
import Derived.Test.YtmamlgaogpkagaaGreatQRnKF
import Derived.Test.YtmamlgaogpkagaaGreatQPeKD
import Derived.Test.YtmamlgaogpkagaaGreatQRnKHb
import Derived.Test.YtmamlgaogpkagaaGreatQPeKJ
import Derived.Test.YtmamlgaogpkagaaGreatQTsGa
namespace Go.Proofs.YtmamlgaogpkagaaGreat
open Go.RowKit
set_option linter.unusedVariables false
set_option linter.unusedSimpArgs false
noncomputable def noR (P:Int) (A:List Sp):(Int × List Sp) × Int:=if pvB P A then pfR P (fun x=>!hsP P A x) else ((0,[]),1)
theorem no_lists {P:Int} {A:List Sp} (pv:PV P A):ruNot A (0,P)=ruFull (caL (fun x=>!hsP P A x) 0 P)∧pfR P (fun x=>!hsP P A x)=if 2000<(caL (fun x=>!hsP P A x) 0 P).length then ((0,[]),5) else ((P,caL (fun x=>!hsP P A x) 0 P),0):=by
 have P0:0<P:=by have:=pv.p0;omega
 have P1:=pv.p1
 constructor
 ·have e:cbL 3 [(0,P)] A=caL (fun x=>!hsP P A x) 0 P:=by
   rw [cb_ca P0 (A:=[(0,P)]) (fun q hq=>by rw [List.mem_singleton.1 hq];exact ⟨Int.le_refl _,Int.le_refl _⟩) pv.ip 3];refine ca_congr fun x x0 x1=>?_;have:hsP P [(0,P)] x=true:=by
    rw [hs_in x0 x1,inB_one,zdt x0,zdt x1];rfl
   rw [this]
   unfold kpB
   simp
  unfold ruNot
  rw [pv.va,e,show spB (0,P)=true from spB_iff.2 ⟨by show (-4398046511104:Int)≤0;omega,by show P≤4398046511104;omega,P0⟩];rfl
 ·have e:leF P (fun x=>!hsP P A x)=P:=le_eq (lst_not pv.ls)
  unfold pfR fmP
  rw [e]
set_option maxRecDepth 100000 in
set_option maxHeartbeats 2000000 in
theorem upnot (va:Value) (P:Int) (A:List Sp) (hA:A.length≤maxLen) (hP:I64 P) {ba:Nat} (w:World) (a:PairS ba w va A) :
    Calls Tryz.prog 77 #[.agg #[.int .i64 P,va]] w fun e w'=>(∃ v',e=.returned (.tuple #[.agg #[.int .i64 (noR P A).1.1,v'],.int .i64 (noR P A).2])∧PairS w.heap.size w' v' (noR P A).1.2∧CapS v')∧Below w.heap.size w w':=by
  have s1:=size_two w (.cells #[.int .i64 P,va] 24);have A1:=zh (grow (grow (here w) (.cells #[.int .i64 P,va] 24)) (.cells #[.int .i64 0,.slice none 0 0] 24));have TA:=zh (Two.fst (here ((w.alloc (.cells #[.int .i64 P,va] 24)).alloc (.cells #[.int .i64 0,.slice none 0 0] 24))));have TR:=Tuo.new (w.alloc (.cells #[.int .i64 P,va] 24)) (.int .i64 0) (.slice none 0 0) 24;rw [s1] at TR;replace TR:=zh TR;have a2:=zh (a.keep A1.out);have HV:=zh (upvalid va P A hA hP _ a2.out);obtain ⟨t0,t1,tl⟩:=TA.out;clear a
  cases p:pvB P A
  · have r:Hid (noR P A=((0,[]),1)):=by show _=_;unfold noR;rw [p];rfl
    rw [p] at HV;clear p s1
    go_enter Tryz.func77,Tryz.ntmps77
    go_wp2_with fail
    refine HV.out.mono ?_;rintro e w4 ⟨rfl,hb⟩;have B9:=zd A1 hb;replace TR:=zh (TR.out.keep hb);clear hb A1 HV a2 TA t0 t1 tl;have FI:Hid (Two ((w4.setCell ⟨w.heap.size+1,0,none⟩ (.int .i64 0)).setCell ⟨w.heap.size+1,1,none⟩ (.slice none 0 0)) (w.heap.size+1) (.int .i64 0) (.slice none 0 0)∧Below w.heap.size w ((w4.setCell ⟨w.heap.size+1,0,none⟩ (.int .i64 0)).setCell ⟨w.heap.size+1,1,none⟩ (.slice none 0 0))∧PairS w.heap.size ((w4.setCell ⟨w.heap.size+1,0,none⟩ (.int .i64 0)).setCell ⟨w.heap.size+1,1,none⟩ (.slice none 0 0)) (.slice none 0 0) []) :=
      ⟨TR.out.put _ _,(B9.out.setCell (p:=⟨w.heap.size+1,0,none⟩) (by show w.heap.size≤w.heap.size+1;omega) _).setCell (p:=⟨w.heap.size+1,1,none⟩) (by show w.heap.size≤w.heap.size+1;omega) _,Sl.none _ _⟩
    obtain ⟨⟨ri0,ri1,ri2⟩,rf0,rf1⟩:=TR.out;go_wp2
    have q0:=FI.out.1.c0;have q1:=FI.out.1.c1;generalize (w4.setCell ⟨w.heap.size+1,0,none⟩ (.int .i64 0)).setCell ⟨w.heap.size+1,1,none⟩ (.slice none 0 0)=w13 at *;refine bodyPost_ret (v:=.tuple #[.agg #[.int .i64 0,.slice none 0 0],.int .i64 1]) (by simp [results,Tryz.results77,go_sem,q0,q1]) rfl ?_;rw [r.out];exact ⟨⟨_,rfl,FI.out.2.2,cap_nil⟩,FI.out.2.1⟩
  · have pv:=pv_iff.1 p;have r:Hid (noR P A=pfR P (fun x=>!hsP P A x)):=by show _=_;unfold noR;rw [p];rfl
    rw [p] at HV;obtain ⟨n1,n2⟩:=no_lists pv;rw [n2] at r;have P0:=pv.p0;have P1:=pv.p1;have HN:=zh (fun W h=>runot va A hA 0 P (by unfold I64;omega) (by unfold I64;omega) (ba:=ba) W h);rw [n1] at HN;clear p s1 n1 n2 pv;generalize caL (fun x=>!hsP P A x) 0 P=C at *
    go_enter Tryz.func77,Tryz.ntmps77
    go_wp2_with fail
    refine HV.out.mono ?_;rintro e w4 ⟨rfl,hb⟩;have A4:=zd A1 hb;replace TA:=zh (TA.out.keep hb);replace TR:=zh (TR.out.keep hb);replace a2:=zh (a2.out.keep hb);clear hb A1 HV t0 t1 tl;obtain ⟨t0,t1,tl⟩:=TA.out;have HM:=zh (HN.out _ a2.out);go_wp2_with fail
    refine HM.out.mono ?_;rintro e w10 ⟨⟨v10,rfl,P10,C10⟩,hb⟩;have B9:=zd A4 hb;have tr9:=TR.out.t.lt;replace TA:=zh (TA.out.keep hb);replace TR:=zh (TR.out.keep hb);have sz9:=A4.out.size;clear hb HM HN a2 A4 t0 t1 tl;obtain ⟨t0,t1,tl⟩:=TA.out
    by_cases big:2000<C.length
    · have ef:ruFull C=([],5):=by unfold ruFull;rw [if_pos big]
      rw [ef] at P10;rw [if_pos big] at r;rw [ef];obtain ⟨o10,c10,rfl⟩:=Sl.shape P10;clear P10 C10 ef big;have FI:Hid (Two ((w10.setCell ⟨w.heap.size+1,0,none⟩ (.int .i64 0)).setCell ⟨w.heap.size+1,1,none⟩ (.slice none 0 0)) (w.heap.size+1) (.int .i64 0) (.slice none 0 0)∧Below w.heap.size w ((w10.setCell ⟨w.heap.size+1,0,none⟩ (.int .i64 0)).setCell ⟨w.heap.size+1,1,none⟩ (.slice none 0 0))∧PairS w.heap.size ((w10.setCell ⟨w.heap.size+1,0,none⟩ (.int .i64 0)).setCell ⟨w.heap.size+1,1,none⟩ (.slice none 0 0)) (.slice none 0 0) []) :=
        ⟨TR.out.put _ _,(B9.out.setCell (p:=⟨w.heap.size+1,0,none⟩) (by show w.heap.size≤w.heap.size+1;omega) _).setCell (p:=⟨w.heap.size+1,1,none⟩) (by show w.heap.size≤w.heap.size+1;omega) _,Sl.none _ _⟩
      obtain ⟨⟨ri0,ri1,ri2⟩,rf0,rf1⟩:=TR.out;go_wp2
      have q0:=FI.out.1.c0;have q1:=FI.out.1.c1;generalize (w10.setCell ⟨w.heap.size+1,0,none⟩ (.int .i64 0)).setCell ⟨w.heap.size+1,1,none⟩ (.slice none 0 0)=w13 at *;refine bodyPost_ret (v:=.tuple #[.agg #[.int .i64 0,.slice none 0 0],.int .i64 5]) (by simp [results,Tryz.results77,go_sem,q0,q1]) rfl ?_;rw [r.out];exact ⟨⟨_,rfl,FI.out.2.2,cap_nil⟩,FI.out.2.1⟩
    · have ef:ruFull C=(C,0):=by unfold ruFull;rw [if_neg big]
      rw [ef] at P10;rw [if_neg big] at r;rw [ef];replace C10:=zh C10;obtain ⟨o10,c10,rfl⟩:=Sl.shape P10;replace P10:=zh P10;clear ef big;have FI:Hid (Two ((w10.setCell ⟨w.heap.size+1,0,none⟩ (.int .i64 P)).setCell ⟨w.heap.size+1,1,none⟩ (.slice o10 C.length c10)) (w.heap.size+1) (.int .i64 P) (.slice o10 C.length c10)∧Below w.heap.size w ((w10.setCell ⟨w.heap.size+1,0,none⟩ (.int .i64 P)).setCell ⟨w.heap.size+1,1,none⟩ (.slice o10 C.length c10))∧PairS w.heap.size ((w10.setCell ⟨w.heap.size+1,0,none⟩ (.int .i64 P)).setCell ⟨w.heap.size+1,1,none⟩ (.slice o10 C.length c10)) (.slice o10 C.length c10) C) :=
        ⟨TR.out.put _ _,(B9.out.setCell (p:=⟨w.heap.size+1,0,none⟩) (by show w.heap.size≤w.heap.size+1;omega) _).setCell (p:=⟨w.heap.size+1,1,none⟩) (by show w.heap.size≤w.heap.size+1;omega) _,Sl.weak (Sl.far (Sl.far P10.out tr9 _) tr9 _) sz9⟩
      obtain ⟨⟨ri0,ri1,ri2⟩,rf0,rf1⟩:=TR.out;go_wp2
      have q0:=FI.out.1.c0;have q1:=FI.out.1.c1;generalize (w10.setCell ⟨w.heap.size+1,0,none⟩ (.int .i64 P)).setCell ⟨w.heap.size+1,1,none⟩ (.slice o10 C.length c10)=w13 at *;refine bodyPost_ret (v:=.tuple #[.agg #[.int .i64 P,.slice o10 C.length c10],.int .i64 0]) (by simp [results,Tryz.results77,go_sem,q0,q1]) rfl ?_;rw [r.out];exact ⟨⟨_,rfl,FI.out.2.2,C10.out⟩,FI.out.2.1⟩
theorem no_ok {P:Int} {A:List Sp} (h:(noR P A).2=0):PV P A∧PV (noR P A).1.1 (noR P A).1.2∧∀ x,hsP (noR P A).1.1 (noR P A).1.2 x=!hsP P A x:=by
 unfold noR at h ⊢
 by_cases v:pvB P A=true
 ·rw [if_pos v] at h ⊢;have pv:=pv_iff.1 v;have p0:=pv.p0;exact ⟨pv,pf_pv (by omega) pv.p1 (fun x=>by show (!hsP P A (x+P))=_;rw [hs_per]) h⟩
 ·rw [if_neg v] at h;cases h
theorem nvb_line {s:TS} (h:VS s):nvB s.a=true∧nvB s.b=true:=⟨(giv_iff.2 h.g).2.1,(giv_iff.2 h.g).2.2.1⟩
theorem edA_map {f g f' g':Int→Bool} (h:∀ a,EdA f' g' a↔EdA f g a):edA f' g'=edA f g:=by
 by_cases e:∃ a,EdA f g a
 ·obtain ⟨a,ha⟩:=e;rw [edA_eq ha,edA_eq ((h a).2 ha)]
 ·have e':¬ ∃ a,EdA f' g' a:=fun ⟨a,ha⟩=>e ⟨a,(h a).1 ha⟩
  unfold edA;rw [dif_neg e,dif_neg e']
theorem edA_not {f g:Int→Bool} {a:Int}:EdA (fun x=>!f x) (fun x=>!g x) a↔EdA f g a :=
 ⟨fun h=>⟨fun x hx=>by have:=h.on x hx;simpa using this,fun c=>h.no (by show (!f a)=!g a;rw [c])⟩,fun h=>⟨fun x hx=>by show (!f x)=!g x;rw [h.on x hx],fun c=>h.no (by have:(!f a)=!g a:=c;simpa using this)⟩⟩
theorem edB_not {f g:Int→Bool} {a:Int}:EdB (fun x=>!f x) (fun x=>!g x) a↔EdB f g a :=
 ⟨fun h=>⟨fun x hx=>by have:=h.on x hx;simpa using this,fun c=>h.no (by show (!f (a - 1))=!g (a - 1);rw [c])⟩,fun h=>⟨fun x hx=>by show (!f x)=!g x;rw [h.on x hx],fun c=>h.no (by have:(!f (a - 1))=!g (a - 1):=c;simpa using this)⟩⟩
theorem no_form {s:TS} (h:VS s) (e1:(noR s.P s.A).2=0) (e2:(noR s.Q s.B).2=0) (pq:pqE (noR s.P s.A).1.1 (noR s.P s.A).1.2 (noR s.Q s.B).1.1 (noR s.Q s.B).1.2=0) :
    frT (noR s.P s.A).1.1 (noR s.P s.A).1.2 (noR s.Q s.B).1.1 (noR s.Q s.B).1.2 (fun x=>!hsT s x)=(⟨(noR s.P s.A).1.1,(noR s.P s.A).1.2,(noR s.Q s.B).1.1,(noR s.Q s.B).1.2,s.a,s.b,caL (fun x=>!hsT s x) s.a s.b⟩,0):=by
  obtain ⟨-,pl,fl⟩:=no_ok e1;obtain ⟨-,pr,fr⟩:=no_ok e2;have fl':hsP (noR s.P s.A).1.1 (noR s.P s.A).1.2=fun x=>!hsP s.P s.A x:=funext fl;have fr':hsP (noR s.Q s.B).1.1 (noR s.Q s.B).1.2=fun x=>!hsP s.Q s.B x:=funext fr
  by_cases p:s.P=s.Q∧s.A=s.B∧hsT s=hsP s.P s.A
  · have e:=h.pure p;obtain ⟨p1,p2,p3⟩:=p;have q:(noR s.P s.A).1.1=(noR s.Q s.B).1.1∧(noR s.P s.A).1.2=(noR s.Q s.B).1.2:=by rw [p1,p2];exact ⟨rfl,rfl⟩
    have sa:s.a=0:=by rw [e]
    have sb:s.b=0:=by rw [e]
    unfold frT
    rw [if_neg (by rw [pq];exact fun c=>c rfl),if_pos ⟨q.1,q.2,by rw [fl',p3]⟩,sa,sb,ca_none _ (Int.le_refl 0)]
  · obtain ⟨ea,eb,eL,-,-⟩:=h.ends p;have np:¬ ((noR s.P s.A).1.1=(noR s.Q s.B).1.1∧(noR s.P s.A).1.2=(noR s.Q s.B).1.2∧(fun x=>!hsT s x)=hsP (noR s.P s.A).1.1 (noR s.P s.A).1.2):=fun ⟨c1,c2,c3⟩=>by
      have k:hsP s.P s.A=hsP s.Q s.B:=funext fun x=>by
        have a:=fl x;have b:=fr x;rw [c1,c2,b] at a
        simpa using a.symm
      obtain ⟨k1,k2⟩:=pv_ext h.g.p h.g.q k;refine p ⟨k1,k2,funext fun x=>?_⟩;have:=congrFun c3 x;rw [fl x] at this
      simpa using this
    have e1':edA (fun x=>!hsT s x) (fun x=>!hsP s.P s.A x)=edA (hsT s) (hsP s.P s.A):=edA_map fun a=>edA_not;have e2':edB (fun x=>!hsT s x) (fun x=>!hsP s.Q s.B x)=edB (hsT s) (hsP s.Q s.B):=by
      obtain ⟨-,-,-,-,b,hb⟩:=h.ends p;rw [edB_eq hb,edB_eq (edB_not.2 hb)]
    have lo:loT (fun x=>!hsT s x) (fun x=>!hsP s.P s.A x) (fun x=>!hsP s.Q s.B x)=s.a:=by rw [ea];unfold loT;rw [e1',e2']
    obtain ⟨n1,n2⟩:=nvb_line h
    unfold frT
    rw [if_neg (by rw [pq];exact fun c=>c rfl),if_neg np,fl',fr',lo,e2',← eb,n1,n2,if_pos (by rfl)]
noncomputable def ntT (s:TS):TS × Int :=
 if vsB s=false then (tsZ,1)
 else if (noR s.P s.A).2≠0 then (tsZ,(noR s.P s.A).2)
 else if (noR s.Q s.B).2≠0 then (tsZ,(noR s.Q s.B).2)
 else if pqE (noR s.P s.A).1.1 (noR s.P s.A).1.2 (noR s.Q s.B).1.1 (noR s.Q s.B).1.2≠0 then (tsZ,pqE (noR s.P s.A).1.1 (noR s.P s.A).1.2 (noR s.Q s.B).1.1 (noR s.Q s.B).1.2)
 else if 2000<(caL (fun x=>!hsT s x) s.a s.b).length then (tsZ,5)
 else (⟨(noR s.P s.A).1.1,(noR s.P s.A).1.2,(noR s.Q s.B).1.1,(noR s.Q s.B).1.2,s.a,s.b,caL (fun x=>!hsT s x) s.a s.b⟩,0)
def or3 (e f g:Int):Int:=if e=0 then (if f=0 then g else f) else e
theorem or3_zero {e f g:Int}:or3 e f g=0↔e=0∧f=0∧g=0:=by
 unfold or3
 by_cases a:e=0
 ·rw [if_pos a]
  by_cases b:f=0
  ·rw [if_pos b];exact ⟨fun c=>⟨a,b,c⟩,fun c=>c.2.2⟩
  ·rw [if_neg b];exact ⟨fun c=>absurd c b,fun c=>absurd c.2.1 b⟩
 ·rw [if_neg a];exact ⟨fun c=>absurd c a,fun c=>absurd c.1 a⟩
theorem nt_err {s:TS} (v:vsB s=true) (e:or3 (noR s.P s.A).2 (noR s.Q s.B).2 (paE (noR s.P s.A).1.1 (noR s.P s.A).1.2 (noR s.Q s.B).1.1 (noR s.Q s.B).1.2)≠0) :
    ntT s=(tsZ,or3 (noR s.P s.A).2 (noR s.Q s.B).2 (paE (noR s.P s.A).1.1 (noR s.P s.A).1.2 (noR s.Q s.B).1.1 (noR s.Q s.B).1.2)):=by
  unfold ntT
  rw [if_neg (by rw [v];simp)]
  unfold or3 at e ⊢
  by_cases a:(noR s.P s.A).2=0
  · rw [if_neg (fun c=>c a),if_pos a];rw [if_pos a] at e
    by_cases b:(noR s.Q s.B).2=0
    · rw [if_neg (fun c=>c b),if_pos b];rw [if_pos b] at e;rw [paE_pq (no_ok a).2.1 (no_ok b).2.1] at e ⊢;rw [if_pos e]
    · rw [if_pos b,if_neg b]
  · rw [if_pos a,if_neg a]
theorem nt_go {s:TS} (v:vsB s=true) (e:or3 (noR s.P s.A).2 (noR s.Q s.B).2 (paE (noR s.P s.A).1.1 (noR s.P s.A).1.2 (noR s.Q s.B).1.1 (noR s.Q s.B).1.2)=0) :
    (noR s.P s.A).2=0∧(noR s.Q s.B).2=0∧pqE (noR s.P s.A).1.1 (noR s.P s.A).1.2 (noR s.Q s.B).1.1 (noR s.Q s.B).1.2=0 ∧
    ntT s=if 2000<(caL (fun x=>!hsT s x) s.a s.b).length then (tsZ,5) else (⟨(noR s.P s.A).1.1,(noR s.P s.A).1.2,(noR s.Q s.B).1.1,(noR s.Q s.B).1.2,s.a,s.b,caL (fun x=>!hsT s x) s.a s.b⟩,0):=by
  obtain ⟨a,b,c⟩:=or3_zero.1 e;rw [paE_pq (no_ok a).2.1 (no_ok b).2.1] at c;refine ⟨a,b,c,?_⟩
  unfold ntT
  rw [if_neg (by rw [v];simp),if_neg (fun h=>h a),if_neg (fun h=>h b),if_neg (fun h=>h c)]
theorem no_small (P:Int) (A:List Sp):(noR P A).1.2.length≤maxLen∧I64 (noR P A).1.1:=by
 by_cases e:(noR P A).2=0
 ·have p:=(no_ok e).2.1;have l:=p.len;have p0:=p.p0;have p1:=p.p1;exact ⟨le_mx (by omega),by unfold I64;omega⟩
 ·have z:(noR P A).1=(0,[]):=by
   unfold noR at e ⊢
   split
   ·rename_i h1
    rw [if_pos h1] at e
    unfold pfR at e ⊢
    split
    ·rfl
    ·rename_i h2
     rw [if_neg h2] at e;exact absurd rfl e
   ·rfl
  rw [z];exact ⟨Nat.zero_le _,by unfold I64;omega⟩
theorem nt_vs {s:TS} (h:(ntT s).2=0):VS s∧VS (ntT s).1∧∀ x,hsT (ntT s).1 x=!hsT s x:=by
 by_cases v:vsB s=true
 rotate_left
 ·unfold ntT at h;rw [if_pos (by simpa using v)] at h;cases h
 have vs:=vs_ok.1 v
 by_cases z:or3 (noR s.P s.A).2 (noR s.Q s.B).2 (paE (noR s.P s.A).1.1 (noR s.P s.A).1.2 (noR s.Q s.B).1.1 (noR s.Q s.B).1.2)=0
 rotate_left
 ·rw [nt_err v z] at h;exact absurd h z
 obtain ⟨e1,e2,pq,er⟩:=nt_go v z
 by_cases big:2000<(caL (fun x=>!hsT s x) s.a s.b).length
 ·rw [er,if_pos big] at h;cases h
 rw [if_neg big] at er;have nf:=no_form vs e1 e2 pq;obtain ⟨-,pl,fl⟩:=no_ok e1;obtain ⟨-,pr,fr⟩:=no_ok e2;have g:Giv (noR s.P s.A).1.1 (noR s.P s.A).1.2 (noR s.Q s.B).1.1 (noR s.Q s.B).1.2 s.a s.b (caL (fun x=>!hsT s x) s.a s.b) :=
  ⟨pl,pr,vs.g.le,vs.g.lo0,vs.g.hi0,vaB_iff.2 ⟨by omega,fun q hq=>by have:=ca_ends _ _ _ q hq;have:=vs.g.lo0;have:=vs.g.hi0;omega,ca_cn _ _ _⟩,ca_ends _ _ _⟩
 have ge:gvF (noR s.P s.A).1.1 (noR s.P s.A).1.2 (noR s.Q s.B).1.1 (noR s.Q s.B).1.2 s.a s.b (caL (fun x=>!hsT s x) s.a s.b)=fun x=>!hsT s x :=
  pc_congr (m':=fun _=>false) (fun x hx=>by rw [fl,hs_low hx]) (fun x a b=>by rw [ca_in,zdt a,zdt b];rfl) (fun x hx=>by rw [fr,hs_high vs.g.le hx]) vs.g.le
 rw [er,← nf,← ge];obtain ⟨a,b⟩:=fr_vs g (by rw [ge,nf]);exact ⟨vs,a,fun x=>by rw [b,ge]⟩
theorem nt_zt (s:TS):(ntT s).2=0∨(ntT s).1=tsZ:=by
 unfold ntT
 (repeat' split) <;> first | exact Or.inr rfl | exact Or.inl rfl
end Go.Proofs.YtmamlgaogpkagaaGreat
