/- Own work. -/
import Derived.Test.YtcebkcilkhebeaaGreatDoorAcLi
set_option linter.unusedSimpArgs false
set_option linter.unusedVariables false
set_option maxHeartbeats 8000000
set_option maxRecDepth 100000
namespace Go.Proofs.YtcebkcilkhebeaaGreatDoor
open Go.RowKit
open Ac (parseA noneA printA mayA Actn oB rB cB assetB dayA kindA)
theorem put2x{b:Nat}{a w:World}(h:Below a.heap.size a w)(hb:a.heap.size≤b)(i:Nat)(x y:Value):Below a.heap.size a ((w.setCell ⟨b,i,none⟩ x).setCell ⟨b,i+1,none⟩ y):=Below.setCell (Below.setCell h hb _) hb _
theorem kinds15_any(k:Int)(o r c:Bool)(w:World)(hk:-9223372036854775808≤k∧k≤9223372036854775807)(hg:GoodA w):Calls Tryz.prog 6 #[.int .i64 k,.agg #[.bool o,.bool r,.bool c]] w (GiveB w true):=by
 have FX:=zh fixed15_any;have HG:=zh hg;clear hg hk;obtain⟨ov,hov⟩:∃ov:List UInt8,ov=if o then [121] else []:=⟨_,rfl⟩
 obtain⟨rv,hrv⟩:∃rv:List UInt8,rv=[if r then 50 else 48]:=⟨_,rfl⟩;obtain⟨cv,hcv⟩:∃cv:List UInt8,cv=[if c then 51 else 48]:=⟨_,rfl⟩;have CM:Hid (∀V,GoodA V→Calls Tryz.prog 11 #[.agg #[.string ⟨#[97,49]⟩,.int .i64 k,.string ⟨#[120]⟩,.string ⟨(ov).toArray⟩,.string ⟨(rv).toArray⟩,.string ⟨#[49]⟩,.string ⟨(cv).toArray⟩,.string ⟨#[49]⟩,.int .i64 0,.int .i64 0,.int .i64 0]] V (GiveB V (mayA (kindA k o r c)))):=zh (fun V g=>by rw[hov,hrv,hcv];exact amay_any (kindA k o r c) V g);have OVN:Hid (o=false→ov=[]):=zh (fun h=>by rw[hov,h];rfl);have OVY:Hid (o=true→ov=[121]):=zh (fun h=>by rw[hov,h];rfl);have RVN:Hid (r=false→rv=[48]):=zh (fun h=>by rw[hrv,h];rfl);have RVY:Hid (r=true→rv=[50]):=zh (fun h=>by rw[hrv,h];rfl);have CVN:Hid (c=false→cv=[48]):=zh (fun h=>by rw[hcv,h];rfl);have CVY:Hid (c=true→cv=[51]):=zh (fun h=>by rw[hcv,h];rfl);have HK:Hid ((k<0∨4<k)∧mayA (kindA k o r c)=false∨(0≤k∧k≤4)∧mayA (kindA k o r c)=((o==oB k)&&((r==rB k)&&(decide (k=4)||c==decide (k=2))))):=zh (by
  by_cases h:0≤k∧k≤4
  ·exact .inr ⟨h,Ac.kinds_may h.1 h.2 o r c⟩
  ·exact .inl ⟨by omega,Ac.kinds_no (k:=k) (by omega) _ rfl⟩)
 generalize mayA (kindA k o r c)=m at *;clear hov hrv hcv;go_enter Tryz.func6,Tryz.ntmps6
 go_upto_region 1 with fail
 obtain⟨U1,hW,BU1,s1,kk⟩:=layN (Below.refl w.heap.size w) #[.bool o,.bool r,.bool c] 36;rw[hW];clear hW s1;have p0:=kk 0 _ rfl;have p1:=kk 1 _ rfl;have p2:=kk 2 _ rfl
 clear kk;have b0:=Below.refl U1.heap.size U1;refine wp_region_noPanic ?_;refine wp_region_held_drew (S:=fun w'=>Below U1.heap.size U1 w') (by kernel_rfl) (b0.drew) (fun hH0=>?_);refine sch_in [0,1,2,3,4,5,6,7,8] ?_
 iterate 9 (refine sch_yes (v:=?_) rfl (by kernel_rfl) (by rfl) ?_ (by assumption) ?_;rotate_left 1;(· (intro w hSw;(try dsimp only at hSw);go_simp<;>(with_reducible rfl)));try simp only[Act.put,qA,qB,qC,qD,qE,qF])
 refine sch_out ?_;refine wpAnyH_done (by kernel_rfl) ?_ _;refine NoPanic.normal ?_;have b1:=Below.more BU1 hH0;clear hH0 b0 p0 p1 p2;go_wp2_with fail;refine(fc_o (n:=0) (l:=[48]) (by decide) (by decide) (by decide +kernel) _).mono ?_;rintro e2 w2 ⟨rfl,b⟩;have b2:=Below.more b1 b;clear b;go_wp2_with fail;refine(fc_o (n:=0) (l:=[48]) (by decide) (by decide) (by decide +kernel) _).mono ?_;rintro e3 w3 ⟨rfl,b⟩;have b3:=Below.more b2 b;clear b b1 b2
 go_upto_if 20 with fail
 obtain⟨U,hU,BU,hX⟩:∃U,w3.alloc (.cells #[.string ⟨#[97,49]⟩,.int .i64 k,.string ⟨#[120]⟩,.string ⟨([]).toArray⟩,.string ⟨([48]).toArray⟩,.string ⟨#[49]⟩,.string ⟨([48]).toArray⟩,.string ⟨#[49]⟩,.int .i64 0,.int .i64 0,.int .i64 0] 25)=U∧Below w3.heap.size w3 U∧Blk w3.heap.size [.string ⟨#[97,49]⟩,.int .i64 k,.string ⟨#[120]⟩,.string ⟨([]).toArray⟩,.string ⟨([48]).toArray⟩,.string ⟨#[49]⟩,.string ⟨([48]).toArray⟩,.string ⟨#[49]⟩,.int .i64 0,.int .i64 0,.int .i64 0] U:=⟨_,rfl,Below.alloc (Below.refl _ _) (Nat.le_refl _) _,blk_new w3 _ _⟩;rw[hU];clear hU;have HX:=zh hX;have HV:=zh (Below.more b3 BU);have hge:=Below.size b3;clear hX BU b3;generalize w3.heap.size=X at *
 go_cut [] from 20 to 21 (fun W=>Blk X [.string ⟨#[97,49]⟩,.int .i64 k,.string ⟨#[120]⟩,.string ⟨(ov).toArray⟩,.string ⟨([48]).toArray⟩,.string ⟨#[49]⟩,.string ⟨([48]).toArray⟩,.string ⟨#[49]⟩,.int .i64 0,.int .i64 0,.int .i64 0] W∧Below w.heap.size w W)
 case first =>
  cases o with
  | false =>
   obtain rfl:=OVN.out rfl;go_wp2_with fail
   go_meet
   exact⟨HX.out,HV.out⟩
  | true =>
   obtain rfl:=OVY.out rfl;have y3:=HX.out.c 3 _ rfl;have z3:=HX.out.f 3 (by simp)
   have HX2:=zh (HX.out.set 3 (by simp) (.string ⟨#[121]⟩));have HV2:=zh (Below.setCell (p:=⟨X,3,none⟩) HV.out hge (.string ⟨#[121]⟩));go_wp2_with fail
   go_meet
   exact⟨HX2.out,HV2.out⟩
 case rest =>
 clear HX HV;obtain⟨hX1,hV1⟩:=hcut;have HX:=zh hX1;have HV:=zh hV1
 clear hX1 hV1
 go_upto_if 22 with fail
 go_cut [] from 22 to 24 (fun W=>Blk X [.string ⟨#[97,49]⟩,.int .i64 k,.string ⟨#[120]⟩,.string ⟨(ov).toArray⟩,.string ⟨(rv).toArray⟩,.string ⟨#[49]⟩,.string ⟨([48]).toArray⟩,.string ⟨#[49]⟩,.int .i64 0,.int .i64 0,.int .i64 0] W∧Below w.heap.size w W)
 case first =>
  cases r with
  | false =>
   obtain rfl:=RVN.out rfl;go_wp2_with fail
   go_meet
   exact⟨HX.out,HV.out⟩
  | true =>
   obtain rfl:=RVY.out rfl;go_wp2_with fail;refine(fc_o (n:=2) (l:=[50]) (by decide) (by decide) (by decide +kernel) _).mono ?_;rintro e9 w9 ⟨rfl,c9⟩;have hx:=HX.out.below c9;have hv:=Below.more HV.out c9;clear c9;have y4:=hx.c 4 _ rfl;have z4:=hx.f 4 (by simp);have y5:=hx.c 5 _ rfl;have z5:=hx.f 5 (by simp)
   have hx2:=(hx.set 4 (by simp) (.string ⟨[50].toArray⟩)).set 5 (by simp) (.string ⟨#[49]⟩);have hv2:=put2x hv hge 4 (.string ⟨[50].toArray⟩) (.string ⟨#[49]⟩);clear hx hv;have HX2:=zh hx2;have HV2:=zh hv2
   clear hx2 hv2;go_wp2_with fail
   go_meet
   exact⟨HX2.out,HV2.out⟩
 case rest =>
 clear HX HV;obtain⟨hX2,hV2⟩:=hcut;have HX:=zh hX2;have HV:=zh hV2
 clear hX2 hV2
 go_upto_if 25 with fail
 go_cut [] from 25 to 27 (fun W=>Blk X [.string ⟨#[97,49]⟩,.int .i64 k,.string ⟨#[120]⟩,.string ⟨(ov).toArray⟩,.string ⟨(rv).toArray⟩,.string ⟨#[49]⟩,.string ⟨(cv).toArray⟩,.string ⟨#[49]⟩,.int .i64 0,.int .i64 0,.int .i64 0] W∧Below w.heap.size w W)
 case first =>
  cases c with
  | false =>
   obtain rfl:=CVN.out rfl;go_wp2_with fail
   go_meet
   exact⟨HX.out,HV.out⟩
  | true =>
   obtain rfl:=CVY.out rfl;go_wp2_with fail;refine(fc_o (n:=3) (l:=[51]) (by decide) (by decide) (by decide +kernel) _).mono ?_;rintro e9 w9 ⟨rfl,c9⟩;have hx:=HX.out.below c9;have hv:=Below.more HV.out c9;clear c9;have y6:=hx.c 6 _ rfl;have z6:=hx.f 6 (by simp);have y7:=hx.c 7 _ rfl;have z7:=hx.f 7 (by simp)
   have hx2:=(hx.set 6 (by simp) (.string ⟨[51].toArray⟩)).set 7 (by simp) (.string ⟨#[49]⟩);have hv2:=put2x hv hge 6 (.string ⟨[51].toArray⟩) (.string ⟨#[49]⟩);clear hx hv;have HX2:=zh hx2;have HV2:=zh hv2
   clear hx2 hv2;go_wp2_with fail
   go_meet
   exact⟨HX2.out,HV2.out⟩
 case rest =>
 clear HX HV;obtain⟨hX3,hV3⟩:=hcut;have HX:=zh hX3;have HV:=zh hV3
 clear hX3 hV3;go_wp2_with fail;refine(FX.out _ (HG.out.below HV.out)).mono ?_;rintro e5 w5 ⟨rfl,b⟩;replace HX:=zh (HX.out.below b);replace HV:=zh (Below.more HV.out b);clear b OVN OVY RVN RVY CVN CVY;rcases HK.out with ⟨hk,hm⟩|⟨⟨hk0,hk4⟩,hm⟩
 ·have CM0:Hid (∀V,GoodA V→Calls Tryz.prog 11 #[.agg #[.string ⟨#[97,49]⟩,.int .i64 k,.string ⟨#[120]⟩,.string ⟨(ov).toArray⟩,.string ⟨(rv).toArray⟩,.string ⟨#[49]⟩,.string ⟨(cv).toArray⟩,.string ⟨#[49]⟩,.int .i64 0,.int .i64 0,.int .i64 0]] V (GiveB V false)):=zh (by rw[←hm];exact CM.out);clear CM HK hm;rcases hk with hk|hk
  ·have hk2:k<0:=hk;go_wp2_with fail;refine(FX.out _ (HG.out.below HV.out)).mono ?_;rintro e6 w6 ⟨rfl,b⟩;have hx:=HX.out.below b;have HV2:=zh (Below.more HV.out b);have y0:=hx.c 0 _ rfl;have y1:=hx.c 1 _ rfl;have y2:=hx.c 2 _ rfl;have y3:=hx.c 3 _ rfl;have y4:=hx.c 4 _ rfl;have y5:=hx.c 5 _ rfl;have y6:=hx.c 6 _ rfl;have y7:=hx.c 7 _ rfl;have y8:=hx.c 8 _ rfl;have y9:=hx.c 9 _ rfl;have y10:=hx.c 10 _ rfl
   clear hx b;go_wp2_with fail;refine(CM0.out _ (HG.out.below HV2.out)).mono ?_;rintro e7 w7 ⟨rfl,b⟩;go_wp2_with fail;go_ret;exact⟨rfl,Below.more HV2.out b⟩
  ·have hk2:¬k<0:=by omega
   go_wp2_with fail;refine(FX.out _ (HG.out.below HV.out)).mono ?_;rintro e6 w6 ⟨rfl,b⟩;have hx:=HX.out.below b;have HV2:=zh (Below.more HV.out b);have y0:=hx.c 0 _ rfl;have y1:=hx.c 1 _ rfl;have y2:=hx.c 2 _ rfl;have y3:=hx.c 3 _ rfl;have y4:=hx.c 4 _ rfl;have y5:=hx.c 5 _ rfl;have y6:=hx.c 6 _ rfl;have y7:=hx.c 7 _ rfl;have y8:=hx.c 8 _ rfl;have y9:=hx.c 9 _ rfl;have y10:=hx.c 10 _ rfl
   clear hx b;go_wp2_with fail;refine(CM0.out _ (HG.out.below HV2.out)).mono ?_;rintro e7 w7 ⟨rfl,b⟩;go_wp2_with fail;go_ret;exact⟨rfl,Below.more HV2.out b⟩
 ·have hk1:¬k<0:=by omega
  have hk2:¬4<k:=by omega
  have HM:=zh hm;have H0:=zh hk0;have H4:=zh hk4
  clear hm HK hk0 hk4
  go_upto_region 11 with fail
  go_cut [9] from 44 to 63 (fun g W=>g=.bool m∧Below w5.heap.size w5 W)
  case first =>
   clear hk1 hk2;have hk0:=H0.out;have hk4:=H4.out
   clear CM HX HV FX HG H0 H4;rcases(show k=0∨k=1∨k=2∨k=3∨k=4 by omega) with rfl|rfl|rfl|rfl|rfl<;>cases o<;>cases r<;>cases c<;>(
    go_wp2_with fail
    go_meet
    exact⟨by rw[HM.out];rfl,Below.refl _ _⟩)
  case rest =>
  obtain⟨rfl,b⟩:=hcut;have hx:=HX.out.below b;have HV2:=zh (Below.more HV.out b);have y0:=hx.c 0 _ rfl;have y1:=hx.c 1 _ rfl;have y2:=hx.c 2 _ rfl;have y3:=hx.c 3 _ rfl;have y4:=hx.c 4 _ rfl;have y5:=hx.c 5 _ rfl;have y6:=hx.c 6 _ rfl;have y7:=hx.c 7 _ rfl;have y8:=hx.c 8 _ rfl;have y9:=hx.c 9 _ rfl;have y10:=hx.c 10 _ rfl
  clear hx b;go_wp2_with fail;refine(CM.out _ (HG.out.below HV2.out)).mono ?_;rintro e7 w7 ⟨rfl,b⟩;go_wp2_with fail;go_ret;exact⟨ret_bool (by simp),Below.more HV2.out b⟩
end Go.Proofs.YtcebkcilkhebeaaGreatDoor
