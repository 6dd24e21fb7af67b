/- Own work. -/
import Derived.Test.YtnichceiafandaaGreatDoorFixP11M
set_option linter.unusedSimpArgs false
set_option linter.unusedVariables false
set_option maxHeartbeats 4000000
set_option maxRecDepth 100000
namespace Go.Proofs.YtnichceiafandaaGreatDoor
open Go.RowKit
open Tm (Nd plainN checkT printT)
open Pz (PsIs)
theorem Calls.args_eq{pr:Program}{f:Nat}{a b:Array Value}{w:World}{Q:Ending→World→Prop}(h:Calls pr f a w Q)(e:a=b):Calls pr f b w Q:=e▸h
theorem order11_a0(a b:Int)(w:World)(hg:GoodP w)  (hn:a<0):Calls Tryz.prog 6 #[.int .i64 a,.int .i64 b] w (GiveB w true):=by
 have HG:=Lib.hid hg;clear hg;go_enter Tryz.func6,Tryz.ntmps6;go_wp2_with fail;refine(fixed11_any _ HG.out).mono ?_;rintro r w1 ⟨rfl,b⟩;have B1:=Lib.hid b;replace HG:=hid_g HG b;clear b;go_wp2_with fail;refine(fixed11_any _ HG.out).mono ?_;rintro r w2 ⟨rfl,b⟩;have B2:=Lib.hid (Below.more B1.out b);replace HG:=hid_g HG b;clear b;go_wp2_with fail;go_ret;exact⟨ret_bool (by first|rfl|simp),B2.out⟩
theorem order11_b0(a b:Int)(w:World)(hg:GoodP w)(h1:¬a<0)(hn:b<0):Calls Tryz.prog 6 #[.int .i64 a,.int .i64 b] w (GiveB w true):=by
 have HG:=Lib.hid hg;clear hg;go_enter Tryz.func6,Tryz.ntmps6;go_wp2_with fail;refine(fixed11_any _ HG.out).mono ?_;rintro r w1 ⟨rfl,b⟩;have B1:=Lib.hid b;replace HG:=hid_g HG b;clear b;go_wp2_with fail;refine(fixed11_any _ HG.out).mono ?_;rintro r w2 ⟨rfl,b⟩;have B2:=Lib.hid (Below.more B1.out b);replace HG:=hid_g HG b;clear b;go_wp2_with fail;go_ret;exact⟨ret_bool (by first|rfl|simp),B2.out⟩
theorem order11_a3(a b:Int)(w:World)(hg:GoodP w)(h1:¬a<0)(h2:¬b<0)(hn:3<a):Calls Tryz.prog 6 #[.int .i64 a,.int .i64 b] w (GiveB w true):=by
 have HG:=Lib.hid hg;clear hg;go_enter Tryz.func6,Tryz.ntmps6;go_wp2_with fail;refine(fixed11_any _ HG.out).mono ?_;rintro r w1 ⟨rfl,b⟩;have B1:=Lib.hid b;replace HG:=hid_g HG b;clear b;go_wp2_with fail;refine(fixed11_any _ HG.out).mono ?_;rintro r w2 ⟨rfl,b⟩;have B2:=Lib.hid (Below.more B1.out b);replace HG:=hid_g HG b;clear b;go_wp2_with fail;go_ret;exact⟨ret_bool (by first|rfl|simp),B2.out⟩
theorem order11_b3(a b:Int)(w:World)(hg:GoodP w)(h1:¬a<0)(h2:¬b<0)(h3:¬3<a)(hn:3<b):Calls Tryz.prog 6 #[.int .i64 a,.int .i64 b] w (GiveB w true):=by
 have HG:=Lib.hid hg;clear hg;go_enter Tryz.func6,Tryz.ntmps6;go_wp2_with fail;refine(fixed11_any _ HG.out).mono ?_;rintro r w1 ⟨rfl,b⟩;have B1:=Lib.hid b;replace HG:=hid_g HG b;clear b;go_wp2_with fail;refine(fixed11_any _ HG.out).mono ?_;rintro r w2 ⟨rfl,b⟩;have B2:=Lib.hid (Below.more B1.out b);replace HG:=hid_g HG b;clear b;go_wp2_with fail;go_ret;exact⟨ret_bool (by first|rfl|simp),B2.out⟩
theorem order11_00(w:World)(hg:GoodP w):Calls Tryz.prog 6 #[.int .i64 0,.int .i64 0] w (GiveB w true):=by
 have HG:=Lib.hid hg;clear hg;obtain⟨h1,h2⟩:=Pz.ps_order (i:=0) (j:=0) (by decide) (by decide);have C:=Lib.hid (fun w hg=>give_t h1 (by decide) (few_short (by decide)) w hg);have hl2:(Pz.ordT 0 0).length=6:=rfl;go_enter Tryz.func6,Tryz.ntmps6;go_wp2_with fail;refine(fixed11_any _ HG.out).mono ?_;rintro r w1 ⟨rfl,b⟩;have B1:=Lib.hid b;replace HG:=hid_g HG b;clear b;go_wp2_with fail
 go_region
 have bd:=Below.drew (Below.refl w1.heap.size w1);replace HG:=hid_g HG bd;replace B1:=Lib.hid (Below.more B1.out bd);clear bd
 try (go_wp2_with fail)
 refine(Calls.args_eq (C.out _ HG.out) (by rfl)).mono ?_;rintro r w2 ⟨⟨q2,c2,rfl,hc2,hn2,hz2⟩,b2⟩;have B2:=Lib.hid (Below.more B1.out b2);have cp:=rtprint_any q2 c2 (Pz.ordT 0 0) w2 (rt_big hz2) hn2;rw[hl2,h2]at cp;rw[hl2];have CP:=Lib.hid cp;clear b2 hc2 hn2 hz2 C cp h1 h2 B1;go_wp2_with fail;refine CP.out.mono ?_;rintro r w3 ⟨rfl,b3⟩;have B3:=Lib.hid (Below.more B2.out b3);clear b3 B2 CP;go_wp2_with fail;go_ret;exact⟨ret_bool (by simp;decide +kernel),B3.out⟩
theorem order11_01(w:World)(hg:GoodP w):Calls Tryz.prog 6 #[.int .i64 0,.int .i64 1] w (GiveB w true):=by
 have HG:=Lib.hid hg;clear hg;obtain⟨h1,h2⟩:=Pz.ps_order (i:=0) (j:=1) (by decide) (by decide);have C:=Lib.hid (fun w hg=>give_t h1 (by decide) (few_short (by decide)) w hg);have hl2:(Pz.ordT 0 1).length=6:=rfl;go_enter Tryz.func6,Tryz.ntmps6;go_wp2_with fail;refine(fixed11_any _ HG.out).mono ?_;rintro r w1 ⟨rfl,b⟩;have B1:=Lib.hid b;replace HG:=hid_g HG b;clear b;go_wp2_with fail
 go_region
 have bd:=Below.drew (Below.refl w1.heap.size w1);replace HG:=hid_g HG bd;replace B1:=Lib.hid (Below.more B1.out bd);clear bd
 try (go_wp2_with fail)
 refine(Calls.args_eq (C.out _ HG.out) (by rfl)).mono ?_;rintro r w2 ⟨⟨q2,c2,rfl,hc2,hn2,hz2⟩,b2⟩;have B2:=Lib.hid (Below.more B1.out b2);have cp:=rtprint_any q2 c2 (Pz.ordT 0 1) w2 (rt_big hz2) hn2;rw[hl2,h2]at cp;rw[hl2];have CP:=Lib.hid cp;clear b2 hc2 hn2 hz2 C cp h1 h2 B1;go_wp2_with fail;refine CP.out.mono ?_;rintro r w3 ⟨rfl,b3⟩;have B3:=Lib.hid (Below.more B2.out b3);clear b3 B2 CP;go_wp2_with fail;go_ret;exact⟨ret_bool (by simp;decide +kernel),B3.out⟩
theorem order11_02(w:World)(hg:GoodP w):Calls Tryz.prog 6 #[.int .i64 0,.int .i64 2] w (GiveB w true):=by
 have HG:=Lib.hid hg;clear hg;obtain⟨h1,h2⟩:=Pz.ps_order (i:=0) (j:=2) (by decide) (by decide);have C:=Lib.hid (fun w hg=>give_t h1 (by decide) (few_short (by decide)) w hg);have hl2:(Pz.ordT 0 2).length=6:=rfl;go_enter Tryz.func6,Tryz.ntmps6;go_wp2_with fail;refine(fixed11_any _ HG.out).mono ?_;rintro r w1 ⟨rfl,b⟩;have B1:=Lib.hid b;replace HG:=hid_g HG b;clear b;go_wp2_with fail
 go_region
 have bd:=Below.drew (Below.refl w1.heap.size w1);replace HG:=hid_g HG bd;replace B1:=Lib.hid (Below.more B1.out bd);clear bd
 try (go_wp2_with fail)
 refine(Calls.args_eq (C.out _ HG.out) (by rfl)).mono ?_;rintro r w2 ⟨⟨q2,c2,rfl,hc2,hn2,hz2⟩,b2⟩;have B2:=Lib.hid (Below.more B1.out b2);have cp:=rtprint_any q2 c2 (Pz.ordT 0 2) w2 (rt_big hz2) hn2;rw[hl2,h2]at cp;rw[hl2];have CP:=Lib.hid cp;clear b2 hc2 hn2 hz2 C cp h1 h2 B1;go_wp2_with fail;refine CP.out.mono ?_;rintro r w3 ⟨rfl,b3⟩;have B3:=Lib.hid (Below.more B2.out b3);clear b3 B2 CP;go_wp2_with fail;go_ret;exact⟨ret_bool (by simp;decide +kernel),B3.out⟩
theorem order11_03(w:World)(hg:GoodP w):Calls Tryz.prog 6 #[.int .i64 0,.int .i64 3] w (GiveB w true):=by
 have HG:=Lib.hid hg;clear hg;obtain⟨h1,h2⟩:=Pz.ps_order (i:=0) (j:=3) (by decide) (by decide);have C:=Lib.hid (fun w hg=>give_t h1 (by decide) (few_short (by decide)) w hg);have hl2:(Pz.ordT 0 3).length=6:=rfl;go_enter Tryz.func6,Tryz.ntmps6;go_wp2_with fail;refine(fixed11_any _ HG.out).mono ?_;rintro r w1 ⟨rfl,b⟩;have B1:=Lib.hid b;replace HG:=hid_g HG b;clear b;go_wp2_with fail
 go_region
 have bd:=Below.drew (Below.refl w1.heap.size w1);replace HG:=hid_g HG bd;replace B1:=Lib.hid (Below.more B1.out bd);clear bd
 try (go_wp2_with fail)
 refine(Calls.args_eq (C.out _ HG.out) (by rfl)).mono ?_;rintro r w2 ⟨⟨q2,c2,rfl,hc2,hn2,hz2⟩,b2⟩;have B2:=Lib.hid (Below.more B1.out b2);have cp:=rtprint_any q2 c2 (Pz.ordT 0 3) w2 (rt_big hz2) hn2;rw[hl2,h2]at cp;rw[hl2];have CP:=Lib.hid cp;clear b2 hc2 hn2 hz2 C cp h1 h2 B1;go_wp2_with fail;refine CP.out.mono ?_;rintro r w3 ⟨rfl,b3⟩;have B3:=Lib.hid (Below.more B2.out b3);clear b3 B2 CP;go_wp2_with fail;go_ret;exact⟨ret_bool (by simp;decide +kernel),B3.out⟩
theorem order11_10(w:World)(hg:GoodP w):Calls Tryz.prog 6 #[.int .i64 1,.int .i64 0] w (GiveB w true):=by
 have HG:=Lib.hid hg;clear hg;obtain⟨h1,h2⟩:=Pz.ps_order (i:=1) (j:=0) (by decide) (by decide);have C:=Lib.hid (fun w hg=>give_t h1 (by decide) (few_short (by decide)) w hg);have hl2:(Pz.ordT 1 0).length=6:=rfl;go_enter Tryz.func6,Tryz.ntmps6;go_wp2_with fail;refine(fixed11_any _ HG.out).mono ?_;rintro r w1 ⟨rfl,b⟩;have B1:=Lib.hid b;replace HG:=hid_g HG b;clear b;go_wp2_with fail
 go_region
 have bd:=Below.drew (Below.refl w1.heap.size w1);replace HG:=hid_g HG bd;replace B1:=Lib.hid (Below.more B1.out bd);clear bd
 try (go_wp2_with fail)
 refine(Calls.args_eq (C.out _ HG.out) (by rfl)).mono ?_;rintro r w2 ⟨⟨q2,c2,rfl,hc2,hn2,hz2⟩,b2⟩;have B2:=Lib.hid (Below.more B1.out b2);have cp:=rtprint_any q2 c2 (Pz.ordT 1 0) w2 (rt_big hz2) hn2;rw[hl2,h2]at cp;rw[hl2];have CP:=Lib.hid cp;clear b2 hc2 hn2 hz2 C cp h1 h2 B1;go_wp2_with fail;refine CP.out.mono ?_;rintro r w3 ⟨rfl,b3⟩;have B3:=Lib.hid (Below.more B2.out b3);clear b3 B2 CP;go_wp2_with fail;go_ret;exact⟨ret_bool (by simp;decide +kernel),B3.out⟩
theorem order11_11(w:World)(hg:GoodP w):Calls Tryz.prog 6 #[.int .i64 1,.int .i64 1] w (GiveB w true):=by
 have HG:=Lib.hid hg;clear hg;obtain⟨h1,h2⟩:=Pz.ps_order (i:=1) (j:=1) (by decide) (by decide);have C:=Lib.hid (fun w hg=>give_t h1 (by decide) (few_short (by decide)) w hg);have hl2:(Pz.ordT 1 1).length=6:=rfl;go_enter Tryz.func6,Tryz.ntmps6;go_wp2_with fail;refine(fixed11_any _ HG.out).mono ?_;rintro r w1 ⟨rfl,b⟩;have B1:=Lib.hid b;replace HG:=hid_g HG b;clear b;go_wp2_with fail
 go_region
 have bd:=Below.drew (Below.refl w1.heap.size w1);replace HG:=hid_g HG bd;replace B1:=Lib.hid (Below.more B1.out bd);clear bd
 try (go_wp2_with fail)
 refine(Calls.args_eq (C.out _ HG.out) (by rfl)).mono ?_;rintro r w2 ⟨⟨q2,c2,rfl,hc2,hn2,hz2⟩,b2⟩;have B2:=Lib.hid (Below.more B1.out b2);have cp:=rtprint_any q2 c2 (Pz.ordT 1 1) w2 (rt_big hz2) hn2;rw[hl2,h2]at cp;rw[hl2];have CP:=Lib.hid cp;clear b2 hc2 hn2 hz2 C cp h1 h2 B1;go_wp2_with fail;refine CP.out.mono ?_;rintro r w3 ⟨rfl,b3⟩;have B3:=Lib.hid (Below.more B2.out b3);clear b3 B2 CP;go_wp2_with fail;go_ret;exact⟨ret_bool (by simp;decide +kernel),B3.out⟩
theorem order11_12(w:World)(hg:GoodP w):Calls Tryz.prog 6 #[.int .i64 1,.int .i64 2] w (GiveB w true):=by
 have HG:=Lib.hid hg;clear hg;obtain⟨h1,h2⟩:=Pz.ps_order (i:=1) (j:=2) (by decide) (by decide);have C:=Lib.hid (fun w hg=>give_t h1 (by decide) (few_short (by decide)) w hg);have hl2:(Pz.ordT 1 2).length=6:=rfl;go_enter Tryz.func6,Tryz.ntmps6;go_wp2_with fail;refine(fixed11_any _ HG.out).mono ?_;rintro r w1 ⟨rfl,b⟩;have B1:=Lib.hid b;replace HG:=hid_g HG b;clear b;go_wp2_with fail
 go_region
 have bd:=Below.drew (Below.refl w1.heap.size w1);replace HG:=hid_g HG bd;replace B1:=Lib.hid (Below.more B1.out bd);clear bd
 try (go_wp2_with fail)
 refine(Calls.args_eq (C.out _ HG.out) (by rfl)).mono ?_;rintro r w2 ⟨⟨q2,c2,rfl,hc2,hn2,hz2⟩,b2⟩;have B2:=Lib.hid (Below.more B1.out b2);have cp:=rtprint_any q2 c2 (Pz.ordT 1 2) w2 (rt_big hz2) hn2;rw[hl2,h2]at cp;rw[hl2];have CP:=Lib.hid cp;clear b2 hc2 hn2 hz2 C cp h1 h2 B1;go_wp2_with fail;refine CP.out.mono ?_;rintro r w3 ⟨rfl,b3⟩;have B3:=Lib.hid (Below.more B2.out b3);clear b3 B2 CP;go_wp2_with fail;go_ret;exact⟨ret_bool (by simp;decide +kernel),B3.out⟩
theorem order11_13(w:World)(hg:GoodP w):Calls Tryz.prog 6 #[.int .i64 1,.int .i64 3] w (GiveB w true):=by
 have HG:=Lib.hid hg;clear hg;obtain⟨h1,h2⟩:=Pz.ps_order (i:=1) (j:=3) (by decide) (by decide);have C:=Lib.hid (fun w hg=>give_t h1 (by decide) (few_short (by decide)) w hg);have hl2:(Pz.ordT 1 3).length=6:=rfl;go_enter Tryz.func6,Tryz.ntmps6;go_wp2_with fail;refine(fixed11_any _ HG.out).mono ?_;rintro r w1 ⟨rfl,b⟩;have B1:=Lib.hid b;replace HG:=hid_g HG b;clear b;go_wp2_with fail
 go_region
 have bd:=Below.drew (Below.refl w1.heap.size w1);replace HG:=hid_g HG bd;replace B1:=Lib.hid (Below.more B1.out bd);clear bd
 try (go_wp2_with fail)
 refine(Calls.args_eq (C.out _ HG.out) (by rfl)).mono ?_;rintro r w2 ⟨⟨q2,c2,rfl,hc2,hn2,hz2⟩,b2⟩;have B2:=Lib.hid (Below.more B1.out b2);have cp:=rtprint_any q2 c2 (Pz.ordT 1 3) w2 (rt_big hz2) hn2;rw[hl2,h2]at cp;rw[hl2];have CP:=Lib.hid cp;clear b2 hc2 hn2 hz2 C cp h1 h2 B1;go_wp2_with fail;refine CP.out.mono ?_;rintro r w3 ⟨rfl,b3⟩;have B3:=Lib.hid (Below.more B2.out b3);clear b3 B2 CP;go_wp2_with fail;go_ret;exact⟨ret_bool (by simp;decide +kernel),B3.out⟩
theorem order11_20(w:World)(hg:GoodP w):Calls Tryz.prog 6 #[.int .i64 2,.int .i64 0] w (GiveB w true):=by
 have HG:=Lib.hid hg;clear hg;obtain⟨h1,h2⟩:=Pz.ps_order (i:=2) (j:=0) (by decide) (by decide);have C:=Lib.hid (fun w hg=>give_t h1 (by decide) (few_short (by decide)) w hg);have hl2:(Pz.ordT 2 0).length=6:=rfl;go_enter Tryz.func6,Tryz.ntmps6;go_wp2_with fail;refine(fixed11_any _ HG.out).mono ?_;rintro r w1 ⟨rfl,b⟩;have B1:=Lib.hid b;replace HG:=hid_g HG b;clear b;go_wp2_with fail
 go_region
 have bd:=Below.drew (Below.refl w1.heap.size w1);replace HG:=hid_g HG bd;replace B1:=Lib.hid (Below.more B1.out bd);clear bd
 try (go_wp2_with fail)
 refine(Calls.args_eq (C.out _ HG.out) (by rfl)).mono ?_;rintro r w2 ⟨⟨q2,c2,rfl,hc2,hn2,hz2⟩,b2⟩;have B2:=Lib.hid (Below.more B1.out b2);have cp:=rtprint_any q2 c2 (Pz.ordT 2 0) w2 (rt_big hz2) hn2;rw[hl2,h2]at cp;rw[hl2];have CP:=Lib.hid cp;clear b2 hc2 hn2 hz2 C cp h1 h2 B1;go_wp2_with fail;refine CP.out.mono ?_;rintro r w3 ⟨rfl,b3⟩;have B3:=Lib.hid (Below.more B2.out b3);clear b3 B2 CP;go_wp2_with fail;go_ret;exact⟨ret_bool (by simp;decide +kernel),B3.out⟩
theorem order11_21(w:World)(hg:GoodP w):Calls Tryz.prog 6 #[.int .i64 2,.int .i64 1] w (GiveB w true):=by
 have HG:=Lib.hid hg;clear hg;obtain⟨h1,h2⟩:=Pz.ps_order (i:=2) (j:=1) (by decide) (by decide);have C:=Lib.hid (fun w hg=>give_t h1 (by decide) (few_short (by decide)) w hg);have hl2:(Pz.ordT 2 1).length=6:=rfl;go_enter Tryz.func6,Tryz.ntmps6;go_wp2_with fail;refine(fixed11_any _ HG.out).mono ?_;rintro r w1 ⟨rfl,b⟩;have B1:=Lib.hid b;replace HG:=hid_g HG b;clear b;go_wp2_with fail
 go_region
 have bd:=Below.drew (Below.refl w1.heap.size w1);replace HG:=hid_g HG bd;replace B1:=Lib.hid (Below.more B1.out bd);clear bd
 try (go_wp2_with fail)
 refine(Calls.args_eq (C.out _ HG.out) (by rfl)).mono ?_;rintro r w2 ⟨⟨q2,c2,rfl,hc2,hn2,hz2⟩,b2⟩;have B2:=Lib.hid (Below.more B1.out b2);have cp:=rtprint_any q2 c2 (Pz.ordT 2 1) w2 (rt_big hz2) hn2;rw[hl2,h2]at cp;rw[hl2];have CP:=Lib.hid cp;clear b2 hc2 hn2 hz2 C cp h1 h2 B1;go_wp2_with fail;refine CP.out.mono ?_;rintro r w3 ⟨rfl,b3⟩;have B3:=Lib.hid (Below.more B2.out b3);clear b3 B2 CP;go_wp2_with fail;go_ret;exact⟨ret_bool (by simp;decide +kernel),B3.out⟩
theorem order11_22(w:World)(hg:GoodP w):Calls Tryz.prog 6 #[.int .i64 2,.int .i64 2] w (GiveB w true):=by
 have HG:=Lib.hid hg;clear hg;obtain⟨h1,h2⟩:=Pz.ps_order (i:=2) (j:=2) (by decide) (by decide);have C:=Lib.hid (fun w hg=>give_t h1 (by decide) (few_short (by decide)) w hg);have hl2:(Pz.ordT 2 2).length=6:=rfl;go_enter Tryz.func6,Tryz.ntmps6;go_wp2_with fail;refine(fixed11_any _ HG.out).mono ?_;rintro r w1 ⟨rfl,b⟩;have B1:=Lib.hid b;replace HG:=hid_g HG b;clear b;go_wp2_with fail
 go_region
 have bd:=Below.drew (Below.refl w1.heap.size w1);replace HG:=hid_g HG bd;replace B1:=Lib.hid (Below.more B1.out bd);clear bd
 try (go_wp2_with fail)
 refine(Calls.args_eq (C.out _ HG.out) (by rfl)).mono ?_;rintro r w2 ⟨⟨q2,c2,rfl,hc2,hn2,hz2⟩,b2⟩;have B2:=Lib.hid (Below.more B1.out b2);have cp:=rtprint_any q2 c2 (Pz.ordT 2 2) w2 (rt_big hz2) hn2;rw[hl2,h2]at cp;rw[hl2];have CP:=Lib.hid cp;clear b2 hc2 hn2 hz2 C cp h1 h2 B1;go_wp2_with fail;refine CP.out.mono ?_;rintro r w3 ⟨rfl,b3⟩;have B3:=Lib.hid (Below.more B2.out b3);clear b3 B2 CP;go_wp2_with fail;go_ret;exact⟨ret_bool (by simp;decide +kernel),B3.out⟩
theorem order11_23(w:World)(hg:GoodP w):Calls Tryz.prog 6 #[.int .i64 2,.int .i64 3] w (GiveB w true):=by
 have HG:=Lib.hid hg;clear hg;obtain⟨h1,h2⟩:=Pz.ps_order (i:=2) (j:=3) (by decide) (by decide);have C:=Lib.hid (fun w hg=>give_t h1 (by decide) (few_short (by decide)) w hg);have hl2:(Pz.ordT 2 3).length=6:=rfl;go_enter Tryz.func6,Tryz.ntmps6;go_wp2_with fail;refine(fixed11_any _ HG.out).mono ?_;rintro r w1 ⟨rfl,b⟩;have B1:=Lib.hid b;replace HG:=hid_g HG b;clear b;go_wp2_with fail
 go_region
 have bd:=Below.drew (Below.refl w1.heap.size w1);replace HG:=hid_g HG bd;replace B1:=Lib.hid (Below.more B1.out bd);clear bd
 try (go_wp2_with fail)
 refine(Calls.args_eq (C.out _ HG.out) (by rfl)).mono ?_;rintro r w2 ⟨⟨q2,c2,rfl,hc2,hn2,hz2⟩,b2⟩;have B2:=Lib.hid (Below.more B1.out b2);have cp:=rtprint_any q2 c2 (Pz.ordT 2 3) w2 (rt_big hz2) hn2;rw[hl2,h2]at cp;rw[hl2];have CP:=Lib.hid cp;clear b2 hc2 hn2 hz2 C cp h1 h2 B1;go_wp2_with fail;refine CP.out.mono ?_;rintro r w3 ⟨rfl,b3⟩;have B3:=Lib.hid (Below.more B2.out b3);clear b3 B2 CP;go_wp2_with fail;go_ret;exact⟨ret_bool (by simp;decide +kernel),B3.out⟩
theorem order11_30(w:World)(hg:GoodP w):Calls Tryz.prog 6 #[.int .i64 3,.int .i64 0] w (GiveB w true):=by
 have HG:=Lib.hid hg;clear hg;obtain⟨h1,h2⟩:=Pz.ps_order (i:=3) (j:=0) (by decide) (by decide);have C:=Lib.hid (fun w hg=>give_t h1 (by decide) (few_short (by decide)) w hg);have hl2:(Pz.ordT 3 0).length=6:=rfl;go_enter Tryz.func6,Tryz.ntmps6;go_wp2_with fail;refine(fixed11_any _ HG.out).mono ?_;rintro r w1 ⟨rfl,b⟩;have B1:=Lib.hid b;replace HG:=hid_g HG b;clear b;go_wp2_with fail
 go_region
 have bd:=Below.drew (Below.refl w1.heap.size w1);replace HG:=hid_g HG bd;replace B1:=Lib.hid (Below.more B1.out bd);clear bd
 try (go_wp2_with fail)
 refine(Calls.args_eq (C.out _ HG.out) (by rfl)).mono ?_;rintro r w2 ⟨⟨q2,c2,rfl,hc2,hn2,hz2⟩,b2⟩;have B2:=Lib.hid (Below.more B1.out b2);have cp:=rtprint_any q2 c2 (Pz.ordT 3 0) w2 (rt_big hz2) hn2;rw[hl2,h2]at cp;rw[hl2];have CP:=Lib.hid cp;clear b2 hc2 hn2 hz2 C cp h1 h2 B1;go_wp2_with fail;refine CP.out.mono ?_;rintro r w3 ⟨rfl,b3⟩;have B3:=Lib.hid (Below.more B2.out b3);clear b3 B2 CP;go_wp2_with fail;go_ret;exact⟨ret_bool (by simp;decide +kernel),B3.out⟩
theorem order11_31(w:World)(hg:GoodP w):Calls Tryz.prog 6 #[.int .i64 3,.int .i64 1] w (GiveB w true):=by
 have HG:=Lib.hid hg;clear hg;obtain⟨h1,h2⟩:=Pz.ps_order (i:=3) (j:=1) (by decide) (by decide);have C:=Lib.hid (fun w hg=>give_t h1 (by decide) (few_short (by decide)) w hg);have hl2:(Pz.ordT 3 1).length=6:=rfl;go_enter Tryz.func6,Tryz.ntmps6;go_wp2_with fail;refine(fixed11_any _ HG.out).mono ?_;rintro r w1 ⟨rfl,b⟩;have B1:=Lib.hid b;replace HG:=hid_g HG b;clear b;go_wp2_with fail
 go_region
 have bd:=Below.drew (Below.refl w1.heap.size w1);replace HG:=hid_g HG bd;replace B1:=Lib.hid (Below.more B1.out bd);clear bd
 try (go_wp2_with fail)
 refine(Calls.args_eq (C.out _ HG.out) (by rfl)).mono ?_;rintro r w2 ⟨⟨q2,c2,rfl,hc2,hn2,hz2⟩,b2⟩;have B2:=Lib.hid (Below.more B1.out b2);have cp:=rtprint_any q2 c2 (Pz.ordT 3 1) w2 (rt_big hz2) hn2;rw[hl2,h2]at cp;rw[hl2];have CP:=Lib.hid cp;clear b2 hc2 hn2 hz2 C cp h1 h2 B1;go_wp2_with fail;refine CP.out.mono ?_;rintro r w3 ⟨rfl,b3⟩;have B3:=Lib.hid (Below.more B2.out b3);clear b3 B2 CP;go_wp2_with fail;go_ret;exact⟨ret_bool (by simp;decide +kernel),B3.out⟩
theorem order11_32(w:World)(hg:GoodP w):Calls Tryz.prog 6 #[.int .i64 3,.int .i64 2] w (GiveB w true):=by
 have HG:=Lib.hid hg;clear hg;obtain⟨h1,h2⟩:=Pz.ps_order (i:=3) (j:=2) (by decide) (by decide);have C:=Lib.hid (fun w hg=>give_t h1 (by decide) (few_short (by decide)) w hg);have hl2:(Pz.ordT 3 2).length=6:=rfl;go_enter Tryz.func6,Tryz.ntmps6;go_wp2_with fail;refine(fixed11_any _ HG.out).mono ?_;rintro r w1 ⟨rfl,b⟩;have B1:=Lib.hid b;replace HG:=hid_g HG b;clear b;go_wp2_with fail
 go_region
 have bd:=Below.drew (Below.refl w1.heap.size w1);replace HG:=hid_g HG bd;replace B1:=Lib.hid (Below.more B1.out bd);clear bd
 try (go_wp2_with fail)
 refine(Calls.args_eq (C.out _ HG.out) (by rfl)).mono ?_;rintro r w2 ⟨⟨q2,c2,rfl,hc2,hn2,hz2⟩,b2⟩;have B2:=Lib.hid (Below.more B1.out b2);have cp:=rtprint_any q2 c2 (Pz.ordT 3 2) w2 (rt_big hz2) hn2;rw[hl2,h2]at cp;rw[hl2];have CP:=Lib.hid cp;clear b2 hc2 hn2 hz2 C cp h1 h2 B1;go_wp2_with fail;refine CP.out.mono ?_;rintro r w3 ⟨rfl,b3⟩;have B3:=Lib.hid (Below.more B2.out b3);clear b3 B2 CP;go_wp2_with fail;go_ret;exact⟨ret_bool (by simp;decide +kernel),B3.out⟩
theorem order11_33(w:World)(hg:GoodP w):Calls Tryz.prog 6 #[.int .i64 3,.int .i64 3] w (GiveB w true):=by
 have HG:=Lib.hid hg;clear hg;obtain⟨h1,h2⟩:=Pz.ps_order (i:=3) (j:=3) (by decide) (by decide);have C:=Lib.hid (fun w hg=>give_t h1 (by decide) (few_short (by decide)) w hg);have hl2:(Pz.ordT 3 3).length=6:=rfl;go_enter Tryz.func6,Tryz.ntmps6;go_wp2_with fail;refine(fixed11_any _ HG.out).mono ?_;rintro r w1 ⟨rfl,b⟩;have B1:=Lib.hid b;replace HG:=hid_g HG b;clear b;go_wp2_with fail
 go_region
 have bd:=Below.drew (Below.refl w1.heap.size w1);replace HG:=hid_g HG bd;replace B1:=Lib.hid (Below.more B1.out bd);clear bd
 try (go_wp2_with fail)
 refine(Calls.args_eq (C.out _ HG.out) (by rfl)).mono ?_;rintro r w2 ⟨⟨q2,c2,rfl,hc2,hn2,hz2⟩,b2⟩;have B2:=Lib.hid (Below.more B1.out b2);have cp:=rtprint_any q2 c2 (Pz.ordT 3 3) w2 (rt_big hz2) hn2;rw[hl2,h2]at cp;rw[hl2];have CP:=Lib.hid cp;clear b2 hc2 hn2 hz2 C cp h1 h2 B1;go_wp2_with fail;refine CP.out.mono ?_;rintro r w3 ⟨rfl,b3⟩;have B3:=Lib.hid (Below.more B2.out b3);clear b3 B2 CP;go_wp2_with fail;go_ret;exact⟨ret_bool (by simp;decide +kernel),B3.out⟩
theorem order11_any(a b:Int)(w:World)(hg:GoodP w):Calls Tryz.prog 6 #[.int .i64 a,.int .i64 b] w (GiveB w true):=by
 by_cases h1:a<0
 ·exact order11_a0 a b w hg h1
 by_cases h2:b<0
 ·exact order11_b0 a b w hg h1 h2
 by_cases h3:3<a
 ·exact order11_a3 a b w hg h1 h2 h3
 by_cases h4:3<b
 ·exact order11_b3 a b w hg h1 h2 h3 h4
 have ha:a=0∨a=1∨a=2∨a=3:=by omega
 have hb:b=0∨b=1∨b=2∨b=3:=by omega
 clear h1 h2 h3 h4;rcases ha with rfl|rfl|rfl|rfl
 ·rcases hb with rfl|rfl|rfl|rfl
  ·exact order11_00 w hg
  ·exact order11_01 w hg
  ·exact order11_02 w hg
  ·exact order11_03 w hg
 ·rcases hb with rfl|rfl|rfl|rfl
  ·exact order11_10 w hg
  ·exact order11_11 w hg
  ·exact order11_12 w hg
  ·exact order11_13 w hg
 ·rcases hb with rfl|rfl|rfl|rfl
  ·exact order11_20 w hg
  ·exact order11_21 w hg
  ·exact order11_22 w hg
  ·exact order11_23 w hg
 ·rcases hb with rfl|rfl|rfl|rfl
  ·exact order11_30 w hg
  ·exact order11_31 w hg
  ·exact order11_32 w hg
  ·exact order11_33 w hg
end Go.Proofs.YtnichceiafandaaGreatDoor
