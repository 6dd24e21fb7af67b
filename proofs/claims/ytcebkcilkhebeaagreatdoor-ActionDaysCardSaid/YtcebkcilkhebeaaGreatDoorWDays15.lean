/- Own work. -/
import Derived.Test.YtcebkcilkhebeaaGreatDoorAcLi
set_option linter.unusedSimpArgs false
set_option linter.unusedVariables false
set_option maxHeartbeats 8000000
set_option maxRecDepth 100000
namespace Go.Proofs.YtcebkcilkhebeaaGreatDoor
open Go.RowKit
open Ac (parseA noneA printA mayA Actn oB rB cB assetB dayA kindA)
theorem days15_any(ex rc pay:Int)(w:World)(hx:-9223372036854775808≤ex∧ex≤9223372036854775807)(hr:-9223372036854775808≤rc∧rc≤9223372036854775807)(hp:-9223372036854775808≤pay∧pay≤9223372036854775807)(hg:GoodA w):Calls Tryz.prog 5 #[.int .i64 ex,.int .i64 rc,.int .i64 pay] w (GiveB w true):=by
 have FX:=zh fixed15_any;have HG:=zh hg;have HG0:=HG;clear hg
 have HD:=zh (Ac.days_may ex rc pay);have CP:Hid (∀V,GoodA V→Calls Tryz.prog 13 #[.agg #[.string ⟨#[115,49]⟩,.int .i64 0,.string ⟨#[120]⟩,.string ⟨#[]⟩,.string ⟨#[50]⟩,.string ⟨#[49]⟩,.string ⟨#[48]⟩,.string ⟨#[49]⟩,.int .i64 ex,.int .i64 rc,.int .i64 pay]] V (GiveS V (printA (dayA ex rc pay)))):=zh (fun V g=>aprint_any (dayA ex rc pay) V g);have CM:Hid (∀V,GoodA V→Calls Tryz.prog 11 #[.agg #[.string ⟨#[115,49]⟩,.int .i64 0,.string ⟨#[120]⟩,.string ⟨#[]⟩,.string ⟨#[50]⟩,.string ⟨#[49]⟩,.string ⟨#[48]⟩,.string ⟨#[49]⟩,.int .i64 ex,.int .i64 rc,.int .i64 pay]] V (GiveB V (mayA (dayA ex rc pay)))):=zh (fun V g=>amay_any (dayA ex rc pay) V g);have CQ:=zh (fun V g=>aparse_l (printA (dayA ex rc pay)) (Nat.le_trans (printA_len _) (by decide)) V g);have HQ:Hid (mayA (dayA ex rc pay)=true∧printA (dayA ex rc pay)≠[]∧parseA (printA (dayA ex rc pay))=(dayA ex rc pay,0)∨mayA (dayA ex rc pay)=false∧printA (dayA ex rc pay)=[]∧parseA (printA (dayA ex rc pay))=(noneA,150)):=zh (by
  cases hm:mayA (dayA ex rc pay) with
  | true=>exact .inl ⟨rfl,Ac.print_ne hm,Ac.parse_print hm⟩
  | false =>
   have hp:printA (dayA ex rc pay)=[]:=by unfold printA;rw[hm];rfl
   exact .inr ⟨rfl,hp,by rw[hp];decide +kernel⟩)
 generalize mayA (dayA ex rc pay)=m at *;generalize printA (dayA ex rc pay)=t at *;generalize parseA t=r at *;clear hx hr hp;obtain⟨lo,hlo⟩:∃lo:Bool,lo=decide (ex < -2∨rc < -2∨pay < -2∨10100<ex∨10100<rc∨10100<pay):=⟨_,rfl⟩;have HLO:=zh hlo;clear hlo;go_enter Tryz.func5,Tryz.ntmps5
 go_upto_region 1 with fail
 go_cut [29] from 14 to 29 (fun c W=>c=.bool lo∧Below w.heap.size w W)
 case first =>
  go_wp2_with fail;refine(FX.out _ HG.out).mono ?_;rintro e1 w1 ⟨rfl,b1⟩;go_wp2_with fail
  all_goals (
   go_meet
   exact⟨by rw[HLO.out];congr 1;rw[Bool.eq_iff_iff];simp;omega,b1⟩)
 case rest =>
 obtain⟨rfl,b1⟩:=hcut;replace HG:=zh (HG.out.below b1)
 cases lo with
 | true =>
  go_wp2_with fail;refine(FX.out _ HG.out).mono ?_;rintro e2 w2 ⟨rfl,b2⟩;go_wp2_with fail;go_ret;exact⟨rfl,Below.more b1 b2⟩
 | false =>
 rcases HQ.out with ⟨rfl,hq2,hq3⟩|⟨rfl,rfl,hq3⟩
 ·have hc:(0≤ex∧ex≤rc)∧rc≤pay∧pay≤9999:=by
   have h:=HD.out.symm;simp only[Bool.and_eq_true,decide_eq_true_eq]at h;exact⟨⟨h.1,h.2.1⟩,h.2.2⟩
  obtain⟨⟨h1,h2⟩,h3,h4⟩:=hc;have hq:(t == [])=false:=by rw[beq_eq_false_iff_ne];exact hq2
  obtain⟨r1,r2⟩:=r;obtain⟨rfl,rfl⟩:=Prod.mk.inj hq3;clear hq2 hq3 HQ HD HLO;go_wp2_with fail;refine(fc_o (n:=2) (l:=[50]) (by decide) (by decide) (by decide +kernel) _).mono ?_;rintro e2 w2 ⟨rfl,b⟩;have b2:=Below.more b1 b;clear b;go_wp2_with fail;refine(fc_o (n:=0) (l:=[48]) (by decide) (by decide) (by decide +kernel) _).mono ?_;rintro e3 w3 ⟨rfl,b⟩;have b3:=Below.more b2 b;clear b1 b2 b;go_wp2_with fail;obtain⟨U,hW,bU,_,kk⟩:=layN (Below.refl w3.heap.size w3) #[.string ⟨#[115,49]⟩,.int .i64 0,.string ⟨#[120]⟩,.string ⟨#[]⟩,.string ⟨#[50]⟩,.string ⟨#[49]⟩,.string ⟨#[48]⟩,.string ⟨#[49]⟩,.int .i64 ex,.int .i64 rc,.int .i64 pay] 25;rw[hW];clear hW;have BW:=Below.more b3 bU;clear b3 bU;have b0:=Below.refl U.heap.size U;have p0:=kk 0 _ rfl;have p1:=kk 1 _ rfl;have p2:=kk 2 _ rfl;have p3:=kk 3 _ rfl;have p4:=kk 4 _ rfl;have p5:=kk 5 _ rfl;have p6:=kk 6 _ rfl;have p7:=kk 7 _ rfl;have p8:=kk 8 _ rfl;have p9:=kk 9 _ rfl;have p10:=kk 10 _ rfl
  clear kk;replace HG:=zh (HG0.out.below BW);go_wp2_with fail;refine(CP.out _ HG.out).mono ?_;rintro e1 w1 ⟨rfl,b⟩;have b1:=Below.more b0 b;clear b;go_wp2_with fail;refine(CQ.out _ (HG.out.below b1)).mono ?_;rintro e2 w2 ⟨rfl,b⟩;have b2:=Below.more b1 b;clear b;go_wp2_with fail;obtain⟨U2,hW,bU,_,kk⟩:=layN b2 #[.string ⟨(dayA ex rc pay).nm.toArray⟩,.int .i64 (dayA ex rc pay).kind,.string ⟨(dayA ex rc pay).ast.toArray⟩,.string ⟨(dayA ex rc pay).oth.toArray⟩,.string ⟨(dayA ex rc pay).ratio.1.toArray⟩,.string ⟨(dayA ex rc pay).ratio.2.toArray⟩,.string ⟨(dayA ex rc pay).cash.1.toArray⟩,.string ⟨(dayA ex rc pay).cash.2.toArray⟩,.int .i64 (dayA ex rc pay).ex,.int .i64 (dayA ex rc pay).rc,.int .i64 (dayA ex rc pay).pay] 25;rw[hW];clear hW kk;have b3:=bU;clear bU b2;go_wp2_with fail;refine(fc_6 _ (HG.out.below b3)).mono ?_;rintro e4 w4 ⟨rfl,b⟩;have b4:=Below.more b3 b;clear b;have ba:=fun x=>Below.alloc b4 (Below.size b4) x;go_wp2_with fail;clear ba;obtain⟨U3,hW,bU,_,kk⟩:=layN b4 #[.string ⟨#[]⟩,.int .i64 0,.string ⟨#[]⟩,.string ⟨#[]⟩,.string ⟨#[]⟩,.string ⟨#[]⟩,.string ⟨#[]⟩,.string ⟨#[]⟩,.int .i64 0,.int .i64 0,.int .i64 0] 25;rw[hW];clear hW kk;have b5:=bU;clear bU b4;refine(CM.out _ (HG.out.below b5)).mono ?_;rintro e6 w6 ⟨rfl,b⟩;have b6:=Below.more b5 b;clear b;go_wp2_with fail;go_ret;exact⟨ret_bool (by first|rfl|simp[*]),Below.more BW b6⟩
 ·obtain⟨r1,r2⟩:=r;obtain⟨rfl,rfl⟩:=Prod.mk.inj hq3;have hc:¬0≤ex∨0≤ex∧¬ex≤rc∨0≤ex∧ex≤rc∧¬rc≤pay∨0≤ex∧ex≤rc∧rc≤pay∧¬pay≤9999:=by
   have h:=HD.out.symm;simp only[Bool.and_eq_false_iff,decide_eq_false_iff_not]at h;omega
  clear hq3 HQ HD HLO;rcases hc with h1|⟨h1,h2⟩|⟨h1,h2,h3⟩|⟨h1,h2,h3,h4⟩<;>(
   go_wp2_with fail;refine(fc_o (n:=2) (l:=[50]) (by decide) (by decide) (by decide +kernel) _).mono ?_;rintro e2 w2 ⟨rfl,b⟩;have b2:=Below.more b1 b;clear b;go_wp2_with fail;refine(fc_o (n:=0) (l:=[48]) (by decide) (by decide) (by decide +kernel) _).mono ?_;rintro e3 w3 ⟨rfl,b⟩;have b3:=Below.more b2 b;clear b1 b2 b;go_wp2_with fail;obtain⟨U,hW,bU,_,kk⟩:=layN (Below.refl w3.heap.size w3) #[.string ⟨#[115,49]⟩,.int .i64 0,.string ⟨#[120]⟩,.string ⟨#[]⟩,.string ⟨#[50]⟩,.string ⟨#[49]⟩,.string ⟨#[48]⟩,.string ⟨#[49]⟩,.int .i64 ex,.int .i64 rc,.int .i64 pay] 25;rw[hW];clear hW;have BW:=Below.more b3 bU;clear b3 bU;have b0:=Below.refl U.heap.size U;have p0:=kk 0 _ rfl;have p1:=kk 1 _ rfl;have p2:=kk 2 _ rfl;have p3:=kk 3 _ rfl;have p4:=kk 4 _ rfl;have p5:=kk 5 _ rfl;have p6:=kk 6 _ rfl;have p7:=kk 7 _ rfl;have p8:=kk 8 _ rfl;have p9:=kk 9 _ rfl;have p10:=kk 10 _ rfl
   clear kk;replace HG:=zh (HG0.out.below BW);go_wp2_with fail;refine(CP.out _ HG.out).mono ?_;rintro e1 w1 ⟨rfl,b⟩;have b1:=Below.more b0 b;clear b;go_wp2_with fail;refine(CQ.out _ (HG.out.below b1)).mono ?_;rintro e2 w2 ⟨rfl,b⟩;have b2:=Below.more b1 b;clear b;go_wp2_with fail;obtain⟨U2,hW,bU,_,kk⟩:=layN b2 #[.string ⟨noneA.nm.toArray⟩,.int .i64 noneA.kind,.string ⟨noneA.ast.toArray⟩,.string ⟨noneA.oth.toArray⟩,.string ⟨noneA.ratio.1.toArray⟩,.string ⟨noneA.ratio.2.toArray⟩,.string ⟨noneA.cash.1.toArray⟩,.string ⟨noneA.cash.2.toArray⟩,.int .i64 noneA.ex,.int .i64 noneA.rc,.int .i64 noneA.pay] 25;rw[hW];clear hW kk;have b3:=bU;clear bU b2;go_wp2_with fail;refine(fc_6 _ (HG.out.below b3)).mono ?_;rintro e4 w4 ⟨rfl,b⟩;have b4:=Below.more b3 b;clear b;have ba:=fun x=>Below.alloc b4 (Below.size b4) x;go_wp2_with fail;clear ba;obtain⟨U3,hW,bU,_,kk⟩:=layN b4 #[.string ⟨#[]⟩,.int .i64 0,.string ⟨#[]⟩,.string ⟨#[]⟩,.string ⟨#[]⟩,.string ⟨#[]⟩,.string ⟨#[]⟩,.string ⟨#[]⟩,.int .i64 0,.int .i64 0,.int .i64 0] 25;rw[hW];clear hW kk;have b5:=bU;clear bU b4;refine(CM.out _ (HG.out.below b5)).mono ?_;rintro e6 w6 ⟨rfl,b⟩;have b6:=Below.more b5 b;clear b;go_wp2_with fail;go_ret;exact⟨ret_bool (by first|rfl|simp[*]),Below.more BW b6⟩
   )
end Go.Proofs.YtcebkcilkhebeaaGreatDoor
