/- Law 14: SetPoints, in parts. -/
import Derived.Test.YtmamlgaogpkagaaGreatZK
import Derived.Test.YtmamlgaogpkagaaGreatQTvNa
import Derived.Test.YtmamlgaogpkagaaGreatQTvPb
import Derived.Test.YtmamlgaogpkagaaGreatQTvRb
import Derived.Test.YtmamlgaogpkagaaGreatQTsCg
import Derived.Test.YtmamlgaogpkagaaGreatQTlCb
import Derived.Test.YtmamlgaogpkagaaGreatQLRd
import Derived.Test.YtmamlgaogpkagaaGreatQTlP
import Derived.WalkKit
import Derived.StillTailTactics
import Derived.BigQuiet
import Derived.Deep.QuietTactic
import Derived.Deep.RegionHeld3
import Derived.Deep.Cut
import Derived.Deep.CutRange
namespace Go.Proofs.YtmamlgaogpkagaaGreat
open Go.RowKit
set_option linter.unusedVariables false
set_option linter.unusedSimpArgs false
set_option maxRecDepth 100000 in
set_option maxHeartbeats 16000000 in
theorem plpoints00 (a:TS) (vaa vab val:Value) (tia:TsI a) (b:TS) (vba vbb vbl:Value) (tib:TsI b) (x:Int) (hx:I64 x) (n:Int) (hn:I64 n) (hp:(vsB a&&hsT a x)=false) (q:Bool) (hq:(vsB b&&hsT b x)=q) (x0:-4398046511104≤x) (x1:x≤4398046511104) (n0:-4398046511104≤n) (n1:n≤4398046511104) (ng:(lgB a || lgB b)=false) (he:¬ (cbT 1 a b).2=0) (w:World) (ha:SS3 w a vaa vab val) (hb:SS3 w b vba vbb vbl) :
  Calls Tryz.prog 8 #[.agg #[.int .i64 a.P,vaa,.int .i64 a.Q,vab,.int .i64 a.a,.int .i64 a.b,val],.agg #[.int .i64 b.P,vba,.int .i64 b.Q,vbb,.int .i64 b.a,.int .i64 b.b,vbl],.int .i64 x,.int .i64 n] w fun e w'=>e=.returned (.bool true)∧Below w.heap.size w w':=by
 obtain ⟨oaa,caa,rfl⟩:=prs_shape ha.a;obtain ⟨oab,cab,rfl⟩:=prs_shape ha.b;obtain ⟨oal,cal,rfl⟩:=prs_shape ha.l;obtain ⟨oba,cba,rfl⟩:=prs_shape hb.a;obtain ⟨obb,cbb,rfl⟩:=prs_shape hb.b;obtain ⟨obl,cbl,rfl⟩:=prs_shape hb.l;have AF_0:=zh (grow (grow (here w) (.cells #[.int .i64 a.P,.slice oaa a.A.length caa,.int .i64 a.Q,.slice oab a.B.length cab,.int .i64 a.a,.int .i64 a.b,.slice oal a.L.length cal] 26)) (.cells #[.int .i64 b.P,.slice oba b.A.length cba,.int .i64 b.Q,.slice obb b.B.length cbb,.int .i64 b.a,.int .i64 b.b,.slice obl b.L.length cbl] 26));have Ta_0:=zh ((Bxs.new (w:=w) [.int .i64 a.P,.slice oaa a.A.length caa,.int .i64 a.Q,.slice oab a.B.length cab,.int .i64 a.a,.int .i64 a.b,.slice oal a.L.length cal] 26).old (.cells #[.int .i64 b.P,.slice oba b.A.length cba,.int .i64 b.Q,.slice obb b.B.length cbb,.int .i64 b.a,.int .i64 b.b,.slice obl b.L.length cbl] 26));have Tb_0:=zh (Bxs.snd (w:=w) (o:=(.cells #[.int .i64 a.P,.slice oaa a.A.length caa,.int .i64 a.Q,.slice oab a.B.length cab,.int .i64 a.a,.int .i64 a.b,.slice oal a.L.length cal] 26)) [.int .i64 b.P,.slice oba b.A.length cba,.int .i64 b.Q,.slice obb b.B.length cbb,.int .i64 b.a,.int .i64 b.b,.slice obl b.L.length cbl] 26);have Sa_0:=zh (ha.keep AF_0.out);have Sb_0:=zh (hb.keep AF_0.out);have AW:=zh (fun W=>lawake W);have LG0:=zh (fun W bk (h:Bxs W bk [.int .i64 a.P,.slice oaa a.A.length caa,.int .i64 a.Q,.slice oab a.B.length cab,.int .i64 a.a,.int .i64 a.b,.slice oal a.L.length cal,.int .i64 b.P,.slice oba b.A.length cba,.int .i64 b.Q,.slice obb b.B.length cbb,.int .i64 b.a,.int .i64 b.b,.slice obl b.L.length cbl])=>llarge2s a _ _ _ _ _ _ b _ _ _ _ _ _ W bk h);have LG:Hid (∀ W bk,Bxs W bk [.int .i64 a.P,.slice oaa a.A.length caa,.int .i64 a.Q,.slice oab a.B.length cab,.int .i64 a.a,.int .i64 a.b,.slice oal a.L.length cal,.int .i64 b.P,.slice oba b.A.length cba,.int .i64 b.Q,.slice obb b.B.length cbb,.int .i64 b.a,.int .i64 b.b,.slice obl b.L.length cbl]→Calls Tryz.prog 15 #[.slice (some ⟨bk,0,none⟩) 2 2] W fun e w'=>e=.returned (.bool (lgB a || lgB b))∧Below W.heap.size W w'):=LG0;clear LG0;obtain ⟨lg,hlg⟩:∃ lg,(lgB a || lgB b)=lg:=⟨_,rfl⟩;rw [hlg] at LG;clear ha hb;rw [ng] at hlg;subst hlg;have HA:=zh (fun W (h:SS3 W a (.slice oaa a.A.length caa) (.slice oab a.B.length cab) (.slice oal a.L.length cal))=>tvhas a _ _ _ tia x hx W h);have HB:=zh (fun W (h:SS3 W b (.slice oba b.A.length cba) (.slice obb b.B.length cbb) (.slice obl b.L.length cbl))=>tvhas b _ _ _ tib x hx W h);rw [hp] at HA;rw [hq] at HB;have UN:=zh (fun W (h:SS3 W a (.slice oaa a.A.length caa) (.slice oab a.B.length cab) (.slice oal a.L.length cal)) (k:SS3 W b (.slice oba b.A.length cba) (.slice obb b.B.length cbb) (.slice obl b.L.length cbl))=>tvunion a b _ _ _ _ _ _ tia tib W h k);have ME:=zh (fun W (h:SS3 W a (.slice oaa a.A.length caa) (.slice oab a.B.length cab) (.slice oal a.L.length cal)) (k:SS3 W b (.slice oba b.A.length cba) (.slice obb b.B.length cbb) (.slice obl b.L.length cbl))=>tvmeet a b _ _ _ _ _ _ tia tib W h k)
 have MI:=zh (fun W (h:SS3 W a (.slice oaa a.A.length caa) (.slice oab a.B.length cab) (.slice oal a.L.length cal)) (k:SS3 W b (.slice oba b.A.length cba) (.slice obb b.B.length cbb) (.slice obl b.L.length cbl))=>tvminus a b _ _ _ _ _ _ tia tib W h k);have NO:=zh (fun W (h:SS3 W a (.slice oaa a.A.length caa) (.slice oab a.B.length cab) (.slice oal a.L.length cal))=>tvnot a _ _ _ tia W h);have MO:=zh (fun W (h:SS3 W a (.slice oaa a.A.length caa) (.slice oab a.B.length cab) (.slice oal a.L.length cal))=>tvmove a n hn _ _ _ tia W h);have H00:(cbT 1 a b).2=0→Hid (∀ W ua ub ul,SS3 W (cbT 1 a b).1 ua ub ul→Calls Tryz.prog 21 #[.agg #[.int .i64 (cbT 1 a b).1.P,ua,.int .i64 (cbT 1 a b).1.Q,ub,.int .i64 (cbT 1 a b).1.a,.int .i64 (cbT 1 a b).1.b,ul],.int .i64 x] W fun e w'=>e=.returned (.bool q)∧Below W.heap.size W w'):=fun e W ua ub ul h=>by
  have z:=tvhas (cbT 1 a b).1 ua ub ul (cb_ti (by decide) (by decide) a b) x hx W h;rw [pt_cb (by decide) (by decide) e x,hp,hq] at z
  cases q <;> exact z
 have H10:(cbT 2 a b).2=0→Hid (∀ W ua ub ul,SS3 W (cbT 2 a b).1 ua ub ul→Calls Tryz.prog 21 #[.agg #[.int .i64 (cbT 2 a b).1.P,ua,.int .i64 (cbT 2 a b).1.Q,ub,.int .i64 (cbT 2 a b).1.a,.int .i64 (cbT 2 a b).1.b,ul],.int .i64 x] W fun e w'=>e=.returned (.bool false)∧Below W.heap.size W w'):=fun e W ua ub ul h=>by
  have z:=tvhas (cbT 2 a b).1 ua ub ul (cb_ti (by decide) (by decide) a b) x hx W h;rw [pt_cb (by decide) (by decide) e x,hp,hq] at z
  cases q <;> exact z
 have H20:(cbT 3 a b).2=0→Hid (∀ W ua ub ul,SS3 W (cbT 3 a b).1 ua ub ul→Calls Tryz.prog 21 #[.agg #[.int .i64 (cbT 3 a b).1.P,ua,.int .i64 (cbT 3 a b).1.Q,ub,.int .i64 (cbT 3 a b).1.a,.int .i64 (cbT 3 a b).1.b,ul],.int .i64 x] W fun e w'=>e=.returned (.bool false)∧Below W.heap.size W w'):=fun e W ua ub ul h=>by
  have z:=tvhas (cbT 3 a b).1 ua ub ul (cb_ti (by decide) (by decide) a b) x hx W h;rw [pt_cb (by decide) (by decide) e x,hp,hq] at z
  cases q <;> exact z
 have H30:(ntT a).2=0→Hid (∀ W ua ub ul,SS3 W (ntT a).1 ua ub ul→Calls Tryz.prog 21 #[.agg #[.int .i64 (ntT a).1.P,ua,.int .i64 (ntT a).1.Q,ub,.int .i64 (ntT a).1.a,.int .i64 (ntT a).1.b,ul],.int .i64 x] W fun e w'=>e=.returned (.bool true)∧Below W.heap.size W w'):=fun e W ua ub ul h=>by
  have z:=tvhas (ntT a).1 ua ub ul (nt_ti a) x hx W h;rw [pt_nt e x,hp] at z;exact z
 have H40:(mtR a n).2=0→Hid (∀ W ua ub ul,SS3 W (mtR a n).1 ua ub ul→Calls Tryz.prog 21 #[.agg #[.int .i64 (mtR a n).1.P,ua,.int .i64 (mtR a n).1.Q,ub,.int .i64 (mtR a n).1.a,.int .i64 (mtR a n).1.b,ul],.int .i64 (x+n)] W fun e w'=>e=.returned (.bool false)∧Below W.heap.size W w'):=fun e W ua ub ul h=>by
  have z:=tvhas (mtR a n).1 ua ub ul (mt_ti a n) (x+n) ⟨by omega,by omega⟩ W h;rw [pt_mt e x,hp] at z;exact z
 have wr:IntKind.i64.wrap (x+n)=x+n:=by rw [IntKind.wrap_i64];omega
 clear tia tib hp hq ng;generalize (cbT 1 a b)=U at *;generalize (cbT 2 a b)=M at *;generalize (cbT 3 a b)=D at *;generalize (ntT a)=C at *;generalize (mtR a n)=V at *
 go_enter Tryz.func8,Tryz.ntmps8
 refine Ta_0.out.k7 fun aa ab ac ad ae af ag ah=>?_;refine Tb_0.out.k7 fun ai aj ak al am an ao ap=>?_;go_wp2_with fail
 clear aa ab ac ad ae af ag ai aj ak al am an ao ah ap;generalize ((w.alloc (.cells #[.int .i64 a.P,.slice oaa a.A.length caa,.int .i64 a.Q,.slice oab a.B.length cab,.int .i64 a.a,.int .i64 a.b,.slice oal a.L.length cal] 26)).alloc (.cells #[.int .i64 b.P,.slice oba b.A.length cba,.int .i64 b.Q,.slice obb b.B.length cbb,.int .i64 b.a,.int .i64 b.b,.slice obl b.L.length cbl] 26))=w0 at *;refine (AW.out _).mono ?_;rintro e w1 ⟨rfl,hb⟩;have AF_1:=zd AF_0 hb;have Ta_1:=zh (Ta_0.out.keep hb);have Tb_1:=zh (Tb_0.out.keep hb);have Sa_1:=zh (Sa_0.out.keep hb);have Sb_1:=zh (Sb_0.out.keep hb);clear hb AF_0 Ta_0 Tb_0 Sa_0 Sb_0;refine Ta_1.out.k7 fun aq ar au av aw ax ay az=>?_;refine Tb_1.out.k7 fun aA aB aC aD aE aF aG aH=>?_;have gb:=grow (here w1) (.cells #[.int .i64 a.P,.slice oaa a.A.length caa,.int .i64 a.Q,.slice oab a.B.length cab,.int .i64 a.a,.int .i64 a.b,.slice oal a.L.length cal,.int .i64 b.P,.slice oba b.A.length cba,.int .i64 b.Q,.slice obb b.B.length cbb,.int .i64 b.a,.int .i64 b.b,.slice obl b.L.length cbl] 26);have AF_2:=zd AF_1 gb;have Ta_2:=zh (Ta_1.out.keep gb);have Tb_2:=zh (Tb_1.out.keep gb);have Sa_2:=zh (Sa_1.out.keep gb);have Sb_2:=zh (Sb_1.out.keep gb);have G_2:=zh (Bxs.new (w:=w1) [.int .i64 a.P,.slice oaa a.A.length caa,.int .i64 a.Q,.slice oab a.B.length cab,.int .i64 a.a,.int .i64 a.b,.slice oal a.L.length cal,.int .i64 b.P,.slice oba b.A.length cba,.int .i64 b.Q,.slice obb b.B.length cbb,.int .i64 b.a,.int .i64 b.b,.slice obl b.L.length cbl] 26);clear gb AF_1 Ta_1 Tb_1 Sa_1 Sb_1;refine Ta_2.out.k7 fun aa ab ac ad ae af ag ah=>?_;refine Tb_2.out.k7 fun ai aj ak al am an ao ap=>?_;have Gr0:=G_2.out.c 0 _ rfl;have Gr1:=G_2.out.c 1 _ rfl;have Gr2:=G_2.out.c 2 _ rfl;have Gr3:=G_2.out.c 3 _ rfl;have Gr4:=G_2.out.c 4 _ rfl;have Gr5:=G_2.out.c 5 _ rfl;have Gr6:=G_2.out.c 6 _ rfl;have Gr7:=G_2.out.c 7 _ rfl;have Gr8:=G_2.out.c 8 _ rfl;have Gr9:=G_2.out.c 9 _ rfl;have Gr10:=G_2.out.c 10 _ rfl;have Gr11:=G_2.out.c 11 _ rfl;have Gr12:=G_2.out.c 12 _ rfl;have Gr13:=G_2.out.c 13 _ rfl;have Grl:=G_2.out.lt;go_wp2_with fail
 clear aa ab ac ad ae af ag ai aj ak al am an ao Gr0 Gr1 Gr2 Gr3 Gr4 Gr5 Gr6 Gr7 Gr8 Gr9 Gr10 Gr11 Gr12 Gr13 ah ap Grl;generalize (w1.alloc (.cells #[.int .i64 a.P,.slice oaa a.A.length caa,.int .i64 a.Q,.slice oab a.B.length cab,.int .i64 a.a,.int .i64 a.b,.slice oal a.L.length cal,.int .i64 b.P,.slice oba b.A.length cba,.int .i64 b.Q,.slice obb b.B.length cbb,.int .i64 b.a,.int .i64 b.b,.slice obl b.L.length cbl] 26))=w2 at *;refine (LG.out _ _ G_2.out).mono ?_;rintro e w3 ⟨rfl,hb⟩;have AF_3:=zd AF_2 hb;have Ta_3:=zh (Ta_2.out.keep hb);have Tb_3:=zh (Tb_2.out.keep hb);have G_3:=zh (G_2.out.keep hb);have Sa_3:=zh (Sa_2.out.keep hb);have Sb_3:=zh (Sb_2.out.keep hb);clear hb AF_2 Ta_2 Tb_2 G_2 Sa_2 Sb_2;clear aq ar au av aw ax ay aA aB aC aD aE aF aG az aH;refine Ta_3.out.k7 fun aa ab ac ad ae af ag ah=>?_;refine Tb_3.out.k7 fun ai aj ak al am an ao ap=>?_;go_wp2_with fail
 clear aa ab ac ad ae af ag ai aj ak al am an ao ah ap;have HA2:Hid (∀ W,Below w3.heap.size w3 W→Calls Tryz.prog 21 #[.agg #[.int .i64 a.P,.slice oaa a.A.length caa,.int .i64 a.Q,.slice oab a.B.length cab,.int .i64 a.a,.int .i64 a.b,.slice oal a.L.length cal],.int .i64 x] W fun e w'=>e=.returned (.bool false)∧Below W.heap.size W w'):=fun W hW=>HA.out W (Sa_3.out.keep hW);have HB2:Hid (∀ W,Below w3.heap.size w3 W→Calls Tryz.prog 21 #[.agg #[.int .i64 b.P,.slice oba b.A.length cba,.int .i64 b.Q,.slice obb b.B.length cbb,.int .i64 b.a,.int .i64 b.b,.slice obl b.L.length cbl],.int .i64 x] W fun e w'=>e=.returned (.bool q)∧Below W.heap.size W w'):=fun W hW=>HB.out W (Sb_3.out.keep hW);refine Ta_3.out.k7 fun aa ab ac ad ae af ag ah=>?_;refine Tb_3.out.k7 fun ai aj ak al am an ao ap=>?_;go_wp2
 clear aa ab ac ad ae af ag ai aj ak al am an ao ah ap;refine pts_region _ x false q w.heap.size (w.heap.size+1) w3 w3 (fun _ _ _ _ _ h=>h) HA2 HB2 ⟨here _,Ta_3.out.c 0 _ rfl,Ta_3.out.c 1 _ rfl,Ta_3.out.c 2 _ rfl,Ta_3.out.c 3 _ rfl,Ta_3.out.c 4 _ rfl,Ta_3.out.c 5 _ rfl,Ta_3.out.c 6 _ rfl,Tb_3.out.c 0 _ rfl,Tb_3.out.c 1 _ rfl,Tb_3.out.c 2 _ rfl,Tb_3.out.c 3 _ rfl,Tb_3.out.c 4 _ rfl,Tb_3.out.c 5 _ rfl,Tb_3.out.c 6 _ rfl,Tb_3.out.lt⟩ (Nat.le_succ _) ?_;intro w4 hS;have hb:=hS.1;clear hS HA2 HB2;have AF_4:=zd AF_3 hb;have Ta_4:=zh (Ta_3.out.keep hb);have Tb_4:=zh (Tb_3.out.keep hb);have Sa_4:=zh (Sa_3.out.keep hb);have Sb_4:=zh (Sb_3.out.keep hb);clear hb AF_3 Ta_3 Tb_3 Sa_3 Sb_3;refine Ta_4.out.k7 fun aa ab ac ad ae af ag ah=>?_;refine Tb_4.out.k7 fun ai aj ak al am an ao ap=>?_;go_wp2_with fail
 clear aa ab ac ad ae af ag ai aj ak al am an ao ah ap;refine (UN.out _ Sa_4.out Sb_4.out).mono ?_;rintro e w5 ⟨⟨ua,ub,ul,rfl,ss⟩,hb⟩;obtain ⟨oua,cua,rfl⟩:=prs_shape ss.a;obtain ⟨oub,cub,rfl⟩:=prs_shape ss.b;obtain ⟨oul,cul,rfl⟩:=prs_shape ss.l;have AF_5:=zd AF_4 hb;have Ta_5:=zh (Ta_4.out.keep hb);have Tb_5:=zh (Tb_4.out.keep hb);have Sa_5:=zh (Sa_4.out.keep hb);have Sb_5:=zh (Sb_4.out.keep hb);clear hb AF_4 Ta_4 Tb_4 Sa_4 Sb_4;have SSu_5:=zh ss;clear ss;have gb:=grow (here w5) (.cells #[.int .i64 U.1.P,.slice oua U.1.A.length cua,.int .i64 U.1.Q,.slice oub U.1.B.length cub,.int .i64 U.1.a,.int .i64 U.1.b,.slice oul U.1.L.length cul] 26);have AF_6:=zd AF_5 gb;have Ta_6:=zh (Ta_5.out.keep gb);have Tb_6:=zh (Tb_5.out.keep gb);have Sa_6:=zh (Sa_5.out.keep gb);have Sb_6:=zh (Sb_5.out.keep gb);have SSu_6:=zh (SSu_5.out.keep gb);have Bu_6:=zh (Bxs.new (w:=w5) [.int .i64 U.1.P,.slice oua U.1.A.length cua,.int .i64 U.1.Q,.slice oub U.1.B.length cub,.int .i64 U.1.a,.int .i64 U.1.b,.slice oul U.1.L.length cul] 26);clear gb AF_5 Ta_5 Tb_5 Sa_5 Sb_5 SSu_5;refine Ta_6.out.k7 fun aa ab ac ad ae af ag ah=>?_;refine Tb_6.out.k7 fun ai aj ak al am an ao ap=>?_;refine Bu_6.out.k7 fun aI aJ aK aL aM aN aO aP=>?_;go_wp2_with fail
 clear aa ab ac ad ae af ag ai aj ak al am an ao aI aJ aK aL aM aN aO ah ap aP;generalize (w5.alloc (.cells #[.int .i64 U.1.P,.slice oua U.1.A.length cua,.int .i64 U.1.Q,.slice oub U.1.B.length cub,.int .i64 U.1.a,.int .i64 U.1.b,.slice oul U.1.L.length cul] 26))=w6 at *;refine (ME.out _ Sa_6.out Sb_6.out).mono ?_;rintro e w7 ⟨⟨ua,ub,ul,rfl,ss⟩,hb⟩;obtain ⟨oma,cma,rfl⟩:=prs_shape ss.a;obtain ⟨omb,cmb,rfl⟩:=prs_shape ss.b;obtain ⟨oml,cml,rfl⟩:=prs_shape ss.l;have AF_7:=zd AF_6 hb;have Ta_7:=zh (Ta_6.out.keep hb);have Tb_7:=zh (Tb_6.out.keep hb);have Bu_7:=zh (Bu_6.out.keep hb);have Sa_7:=zh (Sa_6.out.keep hb);have Sb_7:=zh (Sb_6.out.keep hb);have SSu_7:=zh (SSu_6.out.keep hb);clear hb AF_6 Ta_6 Tb_6 Bu_6 Sa_6 Sb_6 SSu_6;have SSm_7:=zh ss;clear ss;have gb:=grow (here w7) (.cells #[.int .i64 M.1.P,.slice oma M.1.A.length cma,.int .i64 M.1.Q,.slice omb M.1.B.length cmb,.int .i64 M.1.a,.int .i64 M.1.b,.slice oml M.1.L.length cml] 26);have AF_8:=zd AF_7 gb;have Ta_8:=zh (Ta_7.out.keep gb);have Tb_8:=zh (Tb_7.out.keep gb);have Bu_8:=zh (Bu_7.out.keep gb);have Sa_8:=zh (Sa_7.out.keep gb);have Sb_8:=zh (Sb_7.out.keep gb);have SSu_8:=zh (SSu_7.out.keep gb);have SSm_8:=zh (SSm_7.out.keep gb);have Bm_8:=zh (Bxs.new (w:=w7) [.int .i64 M.1.P,.slice oma M.1.A.length cma,.int .i64 M.1.Q,.slice omb M.1.B.length cmb,.int .i64 M.1.a,.int .i64 M.1.b,.slice oml M.1.L.length cml] 26);clear gb AF_7 Ta_7 Tb_7 Bu_7 Sa_7 Sb_7 SSu_7 SSm_7;refine Ta_8.out.k7 fun aa ab ac ad ae af ag ah=>?_;refine Tb_8.out.k7 fun ai aj ak al am an ao ap=>?_;refine Bu_8.out.k7 fun aI aJ aK aL aM aN aO aP=>?_;refine Bm_8.out.k7 fun aQ aR aS aT aU aV aW aX=>?_;go_wp2_with fail
 clear aa ab ac ad ae af ag ai aj ak al am an ao aI aJ aK aL aM aN aO aQ aR aS aT aU aV aW ah ap aP aX;generalize (w7.alloc (.cells #[.int .i64 M.1.P,.slice oma M.1.A.length cma,.int .i64 M.1.Q,.slice omb M.1.B.length cmb,.int .i64 M.1.a,.int .i64 M.1.b,.slice oml M.1.L.length cml] 26))=w8 at *;refine (MI.out _ Sa_8.out Sb_8.out).mono ?_;rintro e w9 ⟨⟨ua,ub,ul,rfl,ss⟩,hb⟩;obtain ⟨oda,cda,rfl⟩:=prs_shape ss.a;obtain ⟨odb,cdb,rfl⟩:=prs_shape ss.b;obtain ⟨odl,cdl,rfl⟩:=prs_shape ss.l;have AF_9:=zd AF_8 hb;have Ta_9:=zh (Ta_8.out.keep hb);have Tb_9:=zh (Tb_8.out.keep hb);have Bu_9:=zh (Bu_8.out.keep hb);have Bm_9:=zh (Bm_8.out.keep hb);have Sa_9:=zh (Sa_8.out.keep hb);have Sb_9:=zh (Sb_8.out.keep hb);have SSu_9:=zh (SSu_8.out.keep hb);have SSm_9:=zh (SSm_8.out.keep hb);clear hb AF_8 Ta_8 Tb_8 Bu_8 Bm_8 Sa_8 Sb_8 SSu_8 SSm_8;have SSd_9:=zh ss;clear ss;have gb:=grow (here w9) (.cells #[.int .i64 D.1.P,.slice oda D.1.A.length cda,.int .i64 D.1.Q,.slice odb D.1.B.length cdb,.int .i64 D.1.a,.int .i64 D.1.b,.slice odl D.1.L.length cdl] 26);have AF_10:=zd AF_9 gb;have Ta_10:=zh (Ta_9.out.keep gb);have Tb_10:=zh (Tb_9.out.keep gb);have Bu_10:=zh (Bu_9.out.keep gb);have Bm_10:=zh (Bm_9.out.keep gb);have Sa_10:=zh (Sa_9.out.keep gb);have Sb_10:=zh (Sb_9.out.keep gb);have SSu_10:=zh (SSu_9.out.keep gb);have SSm_10:=zh (SSm_9.out.keep gb);have SSd_10:=zh (SSd_9.out.keep gb);have Bd_10:=zh (Bxs.new (w:=w9) [.int .i64 D.1.P,.slice oda D.1.A.length cda,.int .i64 D.1.Q,.slice odb D.1.B.length cdb,.int .i64 D.1.a,.int .i64 D.1.b,.slice odl D.1.L.length cdl] 26);clear gb AF_9 Ta_9 Tb_9 Bu_9 Bm_9 Sa_9 Sb_9 SSu_9 SSm_9 SSd_9;refine Ta_10.out.k7 fun aa ab ac ad ae af ag ah=>?_;refine Tb_10.out.k7 fun ai aj ak al am an ao ap=>?_;refine Bu_10.out.k7 fun aI aJ aK aL aM aN aO aP=>?_;refine Bm_10.out.k7 fun aQ aR aS aT aU aV aW aX=>?_;refine Bd_10.out.k7 fun aY aZ a0 a1 a2 a3 a4 a5=>?_;go_wp2_with fail
 clear aa ab ac ad ae af ag ai aj ak al am an ao aI aJ aK aL aM aN aO aQ aR aS aT aU aV aW aY aZ a0 a1 a2 a3 a4 ah ap aP aX a5;generalize (w9.alloc (.cells #[.int .i64 D.1.P,.slice oda D.1.A.length cda,.int .i64 D.1.Q,.slice odb D.1.B.length cdb,.int .i64 D.1.a,.int .i64 D.1.b,.slice odl D.1.L.length cdl] 26))=w10 at *;refine (NO.out _ Sa_10.out).mono ?_;rintro e w11 ⟨⟨ua,ub,ul,rfl,ss⟩,hb⟩;obtain ⟨oca,cca,rfl⟩:=prs_shape ss.a;obtain ⟨ocb,ccb,rfl⟩:=prs_shape ss.b;obtain ⟨ocl,ccl,rfl⟩:=prs_shape ss.l;have AF_11:=zd AF_10 hb;have Ta_11:=zh (Ta_10.out.keep hb);have Tb_11:=zh (Tb_10.out.keep hb);have Bu_11:=zh (Bu_10.out.keep hb);have Bm_11:=zh (Bm_10.out.keep hb);have Bd_11:=zh (Bd_10.out.keep hb);have Sa_11:=zh (Sa_10.out.keep hb);have Sb_11:=zh (Sb_10.out.keep hb);have SSu_11:=zh (SSu_10.out.keep hb);have SSm_11:=zh (SSm_10.out.keep hb);have SSd_11:=zh (SSd_10.out.keep hb);clear hb AF_10 Ta_10 Tb_10 Bu_10 Bm_10 Bd_10 Sa_10 Sb_10 SSu_10 SSm_10 SSd_10;have SSc_11:=zh ss;clear ss;have gb:=grow (here w11) (.cells #[.int .i64 C.1.P,.slice oca C.1.A.length cca,.int .i64 C.1.Q,.slice ocb C.1.B.length ccb,.int .i64 C.1.a,.int .i64 C.1.b,.slice ocl C.1.L.length ccl] 26);have AF_12:=zd AF_11 gb;have Ta_12:=zh (Ta_11.out.keep gb);have Tb_12:=zh (Tb_11.out.keep gb);have Bu_12:=zh (Bu_11.out.keep gb);have Bm_12:=zh (Bm_11.out.keep gb);have Bd_12:=zh (Bd_11.out.keep gb);have Sa_12:=zh (Sa_11.out.keep gb);have Sb_12:=zh (Sb_11.out.keep gb);have SSu_12:=zh (SSu_11.out.keep gb);have SSm_12:=zh (SSm_11.out.keep gb);have SSd_12:=zh (SSd_11.out.keep gb);have SSc_12:=zh (SSc_11.out.keep gb);have Bc_12:=zh (Bxs.new (w:=w11) [.int .i64 C.1.P,.slice oca C.1.A.length cca,.int .i64 C.1.Q,.slice ocb C.1.B.length ccb,.int .i64 C.1.a,.int .i64 C.1.b,.slice ocl C.1.L.length ccl] 26);clear gb AF_11 Ta_11 Tb_11 Bu_11 Bm_11 Bd_11 Sa_11 Sb_11 SSu_11 SSm_11 SSd_11 SSc_11;refine Ta_12.out.k7 fun aa ab ac ad ae af ag ah=>?_;refine Tb_12.out.k7 fun ai aj ak al am an ao ap=>?_;refine Bu_12.out.k7 fun aI aJ aK aL aM aN aO aP=>?_;refine Bm_12.out.k7 fun aQ aR aS aT aU aV aW aX=>?_;refine Bd_12.out.k7 fun aY aZ a0 a1 a2 a3 a4 a5=>?_;refine Bc_12.out.k7 fun a6 a7 a8 a9 ba bb bc bd=>?_
 go_upto_region 10 with (fail)
 clear aa ab ac ad ae af ag ai aj ak al am an ao aI aJ aK aL aM aN aO aQ aR aS aT aU aV aW aY aZ a0 a1 a2 a3 a4 a6 a7 a8 a9 ba bb bc ah ap aP aX a5 bd;generalize (w11.alloc (.cells #[.int .i64 C.1.P,.slice oca C.1.A.length cca,.int .i64 C.1.Q,.slice ocb C.1.B.length ccb,.int .i64 C.1.a,.int .i64 C.1.b,.slice ocl C.1.L.length ccl] 26))=w12 at *
 go_cut [19,20] from 21 to 143 (fun s19 s20 wx=>∃ (bv:Nat) (ova ovb ovl:Option Addr) (cva cvb cvl:Nat),s19=.pointer (some ⟨bv,0,none⟩)∧s20=.int .i64 V.2∧Hid (Bxs wx bv [.int .i64 V.1.P,.slice ova V.1.A.length cva,.int .i64 V.1.Q,.slice ovb V.1.B.length cvb,.int .i64 V.1.a,.int .i64 V.1.b,.slice ovl V.1.L.length cvl])∧Hid (SS3 wx V.1 (.slice ova V.1.A.length cva) (.slice ovb V.1.B.length cvb) (.slice ovl V.1.L.length cvl))∧Hid (Dn w12 wx))
 case first =>
  have D_12:Hid (Dn w12 w12):=here w12;refine Ta_12.out.k7 fun aa ab ac ad ae af ag ah=>?_;refine Tb_12.out.k7 fun ai aj ak al am an ao ap=>?_;refine Bu_12.out.k7 fun aI aJ aK aL aM aN aO aP=>?_;refine Bm_12.out.k7 fun aQ aR aS aT aU aV aW aX=>?_;refine Bd_12.out.k7 fun aY aZ a0 a1 a2 a3 a4 a5=>?_;refine Bc_12.out.k7 fun a6 a7 a8 a9 ba bb bc bd=>?_;go_wp2_with fail
  clear aa ab ac ad ae af ag ai aj ak al am an ao aI aJ aK aL aM aN aO aQ aR aS aT aU aV aW aY aZ a0 a1 a2 a3 a4 a6 a7 a8 a9 ba bb bc ah ap aP aX a5 bd;refine (MO.out _ Sa_12.out).mono ?_;rintro e w13 ⟨⟨ua,ub,ul,rfl,ss⟩,hb⟩;obtain ⟨ova,cva,rfl⟩:=prs_shape ss.a;obtain ⟨ovb,cvb,rfl⟩:=prs_shape ss.b;obtain ⟨ovl,cvl,rfl⟩:=prs_shape ss.l;have AF_13:=zd AF_12 hb;have Ta_13:=zh (Ta_12.out.keep hb);have Tb_13:=zh (Tb_12.out.keep hb);have Bu_13:=zh (Bu_12.out.keep hb);have Bm_13:=zh (Bm_12.out.keep hb);have Bd_13:=zh (Bd_12.out.keep hb);have Bc_13:=zh (Bc_12.out.keep hb);have Sa_13:=zh (Sa_12.out.keep hb);have Sb_13:=zh (Sb_12.out.keep hb);have SSu_13:=zh (SSu_12.out.keep hb);have SSm_13:=zh (SSm_12.out.keep hb);have SSd_13:=zh (SSd_12.out.keep hb);have SSc_13:=zh (SSc_12.out.keep hb);have D_13:=zh (D_12.out.keep hb);clear hb AF_12 Ta_12 Tb_12 Bu_12 Bm_12 Bd_12 Bc_12 Sa_12 Sb_12 SSu_12 SSm_12 SSd_12 SSc_12 D_12;have SSv_13:=zh ss;clear ss;have gb:=grow (here w13) (.cells #[.int .i64 V.1.P,.slice ova V.1.A.length cva,.int .i64 V.1.Q,.slice ovb V.1.B.length cvb,.int .i64 V.1.a,.int .i64 V.1.b,.slice ovl V.1.L.length cvl] 26);have AF_14:=zd AF_13 gb;have Ta_14:=zh (Ta_13.out.keep gb);have Tb_14:=zh (Tb_13.out.keep gb);have Bu_14:=zh (Bu_13.out.keep gb);have Bm_14:=zh (Bm_13.out.keep gb);have Bd_14:=zh (Bd_13.out.keep gb);have Bc_14:=zh (Bc_13.out.keep gb);have Sa_14:=zh (Sa_13.out.keep gb);have Sb_14:=zh (Sb_13.out.keep gb);have SSu_14:=zh (SSu_13.out.keep gb);have SSm_14:=zh (SSm_13.out.keep gb);have SSd_14:=zh (SSd_13.out.keep gb);have SSc_14:=zh (SSc_13.out.keep gb);have D_14:=zh (D_13.out.keep gb);have SSv_14:=zh (SSv_13.out.keep gb);have Bv_14:=zh (Bxs.new (w:=w13) [.int .i64 V.1.P,.slice ova V.1.A.length cva,.int .i64 V.1.Q,.slice ovb V.1.B.length cvb,.int .i64 V.1.a,.int .i64 V.1.b,.slice ovl V.1.L.length cvl] 26);clear gb AF_13 Ta_13 Tb_13 Bu_13 Bm_13 Bd_13 Bc_13 Sa_13 Sb_13 SSu_13 SSm_13 SSd_13 SSc_13 D_13 SSv_13;refine Ta_14.out.k7 fun aa ab ac ad ae af ag ah=>?_;refine Tb_14.out.k7 fun ai aj ak al am an ao ap=>?_;refine Bu_14.out.k7 fun aI aJ aK aL aM aN aO aP=>?_;refine Bm_14.out.k7 fun aQ aR aS aT aU aV aW aX=>?_;refine Bd_14.out.k7 fun aY aZ a0 a1 a2 a3 a4 a5=>?_;refine Bc_14.out.k7 fun a6 a7 a8 a9 ba bb bc bd=>?_;refine Bv_14.out.k7 fun be bf bg bh bi bj bl bm=>?_;go_wp2_with fail
  go_meet
  exact ⟨_,_,_,_,_,_,_,rfl,rfl,Bv_14,SSv_14,D_14⟩
 case rest =>
 obtain ⟨bv,ova,ovb,ovl,cva,cvb,cvl,hq19,hq20,Bv0,SSv0,HB⟩:=hcut;subst hq19;subst hq20;generalize wc=w13 at *;have AF_13:=zh (down AF_12.out HB.out);have Bu_13:=zh (Bu_12.out.keep HB.out);have Bm_13:=zh (Bm_12.out.keep HB.out);have Bd_13:=zh (Bd_12.out.keep HB.out);have Bc_13:=zh (Bc_12.out.keep HB.out);have SSu_13:=zh (SSu_12.out.keep HB.out);have SSm_13:=zh (SSm_12.out.keep HB.out);have SSd_13:=zh (SSd_12.out.keep HB.out);have SSc_13:=zh (SSc_12.out.keep HB.out);have Bv_13:=Bv0;have SSv_13:=SSv0;clear HB Bv0 SSv0 AF_12 Ta_12 Tb_12 Sa_12 Sb_12 Bu_12 Bm_12 Bd_12 Bc_12 SSu_12 SSm_12 SSd_12 SSc_12;have k0:(U.2==0)=false:=by rw [beq_eq_false_iff_ne];exact he
 clear H00;clear Bu_13 SSu_13;have hu:undef=Value.tuple #[]:=rfl
 by_cases e1:M.2=0
 ·have H1:=H10 e1;have k1:(M.2==0)=true:=beq_iff_eq.2 e1;clear H10;refine Bm_13.out.k7 fun aQ aR aS aT aU aV aW aX=>?_;go_wp2_with fail
  clear aQ aR aS aT aU aV aW aX;refine (H1.out _ _ _ _ SSm_13.out).mono ?_;rintro e w14 ⟨rfl,hb⟩;have AF_14:=zd AF_13 hb;have Bm_14:=zh (Bm_13.out.keep hb);have Bd_14:=zh (Bd_13.out.keep hb);have Bc_14:=zh (Bc_13.out.keep hb);have Bv_14:=zh (Bv_13.out.keep hb);have SSm_14:=zh (SSm_13.out.keep hb);have SSd_14:=zh (SSd_13.out.keep hb);have SSc_14:=zh (SSc_13.out.keep hb);have SSv_14:=zh (SSv_13.out.keep hb);clear hb AF_13 Bm_13 Bd_13 Bc_13 Bv_13 SSm_13 SSd_13 SSc_13 SSv_13;clear Bm_14 SSm_14
  by_cases e2:D.2=0
  ·have H2:=H20 e2;have k2:(D.2==0)=true:=beq_iff_eq.2 e2;clear H20;refine Bd_14.out.k7 fun aY aZ a0 a1 a2 a3 a4 a5=>?_;go_wp2_with fail
   clear aY aZ a0 a1 a2 a3 a4 a5;refine (H2.out _ _ _ _ SSd_14.out).mono ?_;rintro e w15 ⟨rfl,hb⟩;have AF_15:=zd AF_14 hb;have Bd_15:=zh (Bd_14.out.keep hb);have Bc_15:=zh (Bc_14.out.keep hb);have Bv_15:=zh (Bv_14.out.keep hb);have SSd_15:=zh (SSd_14.out.keep hb);have SSc_15:=zh (SSc_14.out.keep hb);have SSv_15:=zh (SSv_14.out.keep hb);clear hb AF_14 Bd_14 Bc_14 Bv_14 SSd_14 SSc_14 SSv_14;clear Bd_15 SSd_15
   by_cases e3:C.2=0
   ·have H3:=H30 e3;have k3:(C.2==0)=true:=beq_iff_eq.2 e3;clear H30;refine Bc_15.out.k7 fun a6 a7 a8 a9 ba bb bc bd=>?_;go_wp2_with fail
    clear a6 a7 a8 a9 ba bb bc bd;refine (H3.out _ _ _ _ SSc_15.out).mono ?_;rintro e w16 ⟨rfl,hb⟩;have AF_16:=zd AF_15 hb;have Bc_16:=zh (Bc_15.out.keep hb);have Bv_16:=zh (Bv_15.out.keep hb);have SSc_16:=zh (SSc_15.out.keep hb);have SSv_16:=zh (SSv_15.out.keep hb);clear hb AF_15 Bc_15 Bv_15 SSc_15 SSv_15;clear Bc_16 SSc_16
    by_cases e4:V.2=0
    ·have H4:=H40 e4;have k4:(V.2==0)=true:=beq_iff_eq.2 e4;clear H40;refine Bv_16.out.k7 fun be bf bg bh bi bj bl bm=>?_;go_wp2_with fail
     clear be bf bg bh bi bj bl bm;refine (H4.out _ _ _ _ SSv_16.out).mono ?_;rintro e w17 ⟨rfl,hb⟩;have AF_17:=zd AF_16 hb;have Bv_17:=zh (Bv_16.out.keep hb);have SSv_17:=zh (SSv_16.out.keep hb);clear hb AF_16 Bv_16 SSv_16;clear Bv_17 SSv_17;go_wp2
     go_ret
     exact ⟨rfl,AF_17.out⟩
    ·have k4:(V.2==0)=false:=by rw [beq_eq_false_iff_ne];exact e4
     clear H40;clear Bv_16 SSv_16;go_wp2
     go_ret
     exact ⟨rfl,AF_16.out⟩
   ·have k3:(C.2==0)=false:=by rw [beq_eq_false_iff_ne];exact e3
    clear H30;clear Bc_15 SSc_15
    by_cases e4:V.2=0
    ·have H4:=H40 e4;have k4:(V.2==0)=true:=beq_iff_eq.2 e4;clear H40;refine Bv_15.out.k7 fun be bf bg bh bi bj bl bm=>?_;go_wp2_with fail
     clear be bf bg bh bi bj bl bm;refine (H4.out _ _ _ _ SSv_15.out).mono ?_;rintro e w16 ⟨rfl,hb⟩;have AF_16:=zd AF_15 hb;have Bv_16:=zh (Bv_15.out.keep hb);have SSv_16:=zh (SSv_15.out.keep hb);clear hb AF_15 Bv_15 SSv_15;clear Bv_16 SSv_16;go_wp2
     go_ret
     exact ⟨rfl,AF_16.out⟩
    ·have k4:(V.2==0)=false:=by rw [beq_eq_false_iff_ne];exact e4
     clear H40;clear Bv_15 SSv_15;go_wp2
     go_ret
     exact ⟨rfl,AF_15.out⟩
  ·have k2:(D.2==0)=false:=by rw [beq_eq_false_iff_ne];exact e2
   clear H20;clear Bd_14 SSd_14
   by_cases e3:C.2=0
   ·have H3:=H30 e3;have k3:(C.2==0)=true:=beq_iff_eq.2 e3;clear H30;refine Bc_14.out.k7 fun a6 a7 a8 a9 ba bb bc bd=>?_;go_wp2_with fail
    clear a6 a7 a8 a9 ba bb bc bd;refine (H3.out _ _ _ _ SSc_14.out).mono ?_;rintro e w15 ⟨rfl,hb⟩;have AF_15:=zd AF_14 hb;have Bc_15:=zh (Bc_14.out.keep hb);have Bv_15:=zh (Bv_14.out.keep hb);have SSc_15:=zh (SSc_14.out.keep hb);have SSv_15:=zh (SSv_14.out.keep hb);clear hb AF_14 Bc_14 Bv_14 SSc_14 SSv_14;clear Bc_15 SSc_15
    by_cases e4:V.2=0
    ·have H4:=H40 e4;have k4:(V.2==0)=true:=beq_iff_eq.2 e4;clear H40;refine Bv_15.out.k7 fun be bf bg bh bi bj bl bm=>?_;go_wp2_with fail
     clear be bf bg bh bi bj bl bm;refine (H4.out _ _ _ _ SSv_15.out).mono ?_;rintro e w16 ⟨rfl,hb⟩;have AF_16:=zd AF_15 hb;have Bv_16:=zh (Bv_15.out.keep hb);have SSv_16:=zh (SSv_15.out.keep hb);clear hb AF_15 Bv_15 SSv_15;clear Bv_16 SSv_16;go_wp2
     go_ret
     exact ⟨rfl,AF_16.out⟩
    ·have k4:(V.2==0)=false:=by rw [beq_eq_false_iff_ne];exact e4
     clear H40;clear Bv_15 SSv_15;go_wp2
     go_ret
     exact ⟨rfl,AF_15.out⟩
   ·have k3:(C.2==0)=false:=by rw [beq_eq_false_iff_ne];exact e3
    clear H30;clear Bc_14 SSc_14
    by_cases e4:V.2=0
    ·have H4:=H40 e4;have k4:(V.2==0)=true:=beq_iff_eq.2 e4;clear H40;refine Bv_14.out.k7 fun be bf bg bh bi bj bl bm=>?_;go_wp2_with fail
     clear be bf bg bh bi bj bl bm;refine (H4.out _ _ _ _ SSv_14.out).mono ?_;rintro e w15 ⟨rfl,hb⟩;have AF_15:=zd AF_14 hb;have Bv_15:=zh (Bv_14.out.keep hb);have SSv_15:=zh (SSv_14.out.keep hb);clear hb AF_14 Bv_14 SSv_14;clear Bv_15 SSv_15;go_wp2
     go_ret
     exact ⟨rfl,AF_15.out⟩
    ·have k4:(V.2==0)=false:=by rw [beq_eq_false_iff_ne];exact e4
     clear H40;clear Bv_14 SSv_14;go_wp2
     go_ret
     exact ⟨rfl,AF_14.out⟩
 ·have k1:(M.2==0)=false:=by rw [beq_eq_false_iff_ne];exact e1
  clear H10;clear Bm_13 SSm_13
  by_cases e2:D.2=0
  ·have H2:=H20 e2;have k2:(D.2==0)=true:=beq_iff_eq.2 e2;clear H20;refine Bd_13.out.k7 fun aY aZ a0 a1 a2 a3 a4 a5=>?_;go_wp2_with fail
   clear aY aZ a0 a1 a2 a3 a4 a5;refine (H2.out _ _ _ _ SSd_13.out).mono ?_;rintro e w14 ⟨rfl,hb⟩;have AF_14:=zd AF_13 hb;have Bd_14:=zh (Bd_13.out.keep hb);have Bc_14:=zh (Bc_13.out.keep hb);have Bv_14:=zh (Bv_13.out.keep hb);have SSd_14:=zh (SSd_13.out.keep hb);have SSc_14:=zh (SSc_13.out.keep hb);have SSv_14:=zh (SSv_13.out.keep hb);clear hb AF_13 Bd_13 Bc_13 Bv_13 SSd_13 SSc_13 SSv_13;clear Bd_14 SSd_14
   by_cases e3:C.2=0
   ·have H3:=H30 e3;have k3:(C.2==0)=true:=beq_iff_eq.2 e3;clear H30;refine Bc_14.out.k7 fun a6 a7 a8 a9 ba bb bc bd=>?_;go_wp2_with fail
    clear a6 a7 a8 a9 ba bb bc bd;refine (H3.out _ _ _ _ SSc_14.out).mono ?_;rintro e w15 ⟨rfl,hb⟩;have AF_15:=zd AF_14 hb;have Bc_15:=zh (Bc_14.out.keep hb);have Bv_15:=zh (Bv_14.out.keep hb);have SSc_15:=zh (SSc_14.out.keep hb);have SSv_15:=zh (SSv_14.out.keep hb);clear hb AF_14 Bc_14 Bv_14 SSc_14 SSv_14;clear Bc_15 SSc_15
    by_cases e4:V.2=0
    ·have H4:=H40 e4;have k4:(V.2==0)=true:=beq_iff_eq.2 e4;clear H40;refine Bv_15.out.k7 fun be bf bg bh bi bj bl bm=>?_;go_wp2_with fail
     clear be bf bg bh bi bj bl bm;refine (H4.out _ _ _ _ SSv_15.out).mono ?_;rintro e w16 ⟨rfl,hb⟩;have AF_16:=zd AF_15 hb;have Bv_16:=zh (Bv_15.out.keep hb);have SSv_16:=zh (SSv_15.out.keep hb);clear hb AF_15 Bv_15 SSv_15;clear Bv_16 SSv_16;go_wp2
     go_ret
     exact ⟨rfl,AF_16.out⟩
    ·have k4:(V.2==0)=false:=by rw [beq_eq_false_iff_ne];exact e4
     clear H40;clear Bv_15 SSv_15;go_wp2
     go_ret
     exact ⟨rfl,AF_15.out⟩
   ·have k3:(C.2==0)=false:=by rw [beq_eq_false_iff_ne];exact e3
    clear H30;clear Bc_14 SSc_14
    by_cases e4:V.2=0
    ·have H4:=H40 e4;have k4:(V.2==0)=true:=beq_iff_eq.2 e4;clear H40;refine Bv_14.out.k7 fun be bf bg bh bi bj bl bm=>?_;go_wp2_with fail
     clear be bf bg bh bi bj bl bm;refine (H4.out _ _ _ _ SSv_14.out).mono ?_;rintro e w15 ⟨rfl,hb⟩;have AF_15:=zd AF_14 hb;have Bv_15:=zh (Bv_14.out.keep hb);have SSv_15:=zh (SSv_14.out.keep hb);clear hb AF_14 Bv_14 SSv_14;clear Bv_15 SSv_15;go_wp2
     go_ret
     exact ⟨rfl,AF_15.out⟩
    ·have k4:(V.2==0)=false:=by rw [beq_eq_false_iff_ne];exact e4
     clear H40;clear Bv_14 SSv_14;go_wp2
     go_ret
     exact ⟨rfl,AF_14.out⟩
  ·have k2:(D.2==0)=false:=by rw [beq_eq_false_iff_ne];exact e2
   clear H20;clear Bd_13 SSd_13
   by_cases e3:C.2=0
   ·have H3:=H30 e3;have k3:(C.2==0)=true:=beq_iff_eq.2 e3;clear H30;refine Bc_13.out.k7 fun a6 a7 a8 a9 ba bb bc bd=>?_;go_wp2_with fail
    clear a6 a7 a8 a9 ba bb bc bd;refine (H3.out _ _ _ _ SSc_13.out).mono ?_;rintro e w14 ⟨rfl,hb⟩;have AF_14:=zd AF_13 hb;have Bc_14:=zh (Bc_13.out.keep hb);have Bv_14:=zh (Bv_13.out.keep hb);have SSc_14:=zh (SSc_13.out.keep hb);have SSv_14:=zh (SSv_13.out.keep hb);clear hb AF_13 Bc_13 Bv_13 SSc_13 SSv_13;clear Bc_14 SSc_14
    by_cases e4:V.2=0
    ·have H4:=H40 e4;have k4:(V.2==0)=true:=beq_iff_eq.2 e4;clear H40;refine Bv_14.out.k7 fun be bf bg bh bi bj bl bm=>?_;go_wp2_with fail
     clear be bf bg bh bi bj bl bm;refine (H4.out _ _ _ _ SSv_14.out).mono ?_;rintro e w15 ⟨rfl,hb⟩;have AF_15:=zd AF_14 hb;have Bv_15:=zh (Bv_14.out.keep hb);have SSv_15:=zh (SSv_14.out.keep hb);clear hb AF_14 Bv_14 SSv_14;clear Bv_15 SSv_15;go_wp2
     go_ret
     exact ⟨rfl,AF_15.out⟩
    ·have k4:(V.2==0)=false:=by rw [beq_eq_false_iff_ne];exact e4
     clear H40;clear Bv_14 SSv_14;go_wp2
     go_ret
     exact ⟨rfl,AF_14.out⟩
   ·have k3:(C.2==0)=false:=by rw [beq_eq_false_iff_ne];exact e3
    clear H30;clear Bc_13 SSc_13
    by_cases e4:V.2=0
    ·have H4:=H40 e4;have k4:(V.2==0)=true:=beq_iff_eq.2 e4;clear H40;refine Bv_13.out.k7 fun be bf bg bh bi bj bl bm=>?_;go_wp2_with fail
     clear be bf bg bh bi bj bl bm;refine (H4.out _ _ _ _ SSv_13.out).mono ?_;rintro e w14 ⟨rfl,hb⟩;have AF_14:=zd AF_13 hb;have Bv_14:=zh (Bv_13.out.keep hb);have SSv_14:=zh (SSv_13.out.keep hb);clear hb AF_13 Bv_13 SSv_13;clear Bv_14 SSv_14;go_wp2
     go_ret
     exact ⟨rfl,AF_14.out⟩
    ·have k4:(V.2==0)=false:=by rw [beq_eq_false_iff_ne];exact e4
     clear H40;clear Bv_13 SSv_13;go_wp2
     go_ret
     exact ⟨rfl,AF_13.out⟩
end Go.Proofs.YtmamlgaogpkagaaGreat
