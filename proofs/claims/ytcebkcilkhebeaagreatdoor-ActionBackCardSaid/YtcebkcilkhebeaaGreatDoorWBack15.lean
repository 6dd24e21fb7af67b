/- Own work. -/
import Derived.Test.YtcebkcilkhebeaaGreatDoorAcLi
set_option linter.unusedSimpArgs false
set_option linter.unusedVariables false
set_option maxHeartbeats 8000000
set_option maxRecDepth 100000
namespace Go.Proofs.YtcebkcilkhebeaaGreatDoor
open Go.RowKit
open Ac (parseA noneA printA mayA Actn oB rB cB assetB dayA kindA)
theorem parse_cases(s:List UInt8):(∃x,parseA s=(x,0)∧mayA x=true∧parseA (printA x)=(x,0))∨parseA s=(noneA,150):=by
 cases h:Ac.parseL (Ac.words 11 s) with
 | none=>exact .inr (by unfold parseA;rw[h];rfl)
 | some x =>
  have e:parseA s=(x,0):=by unfold parseA;rw[h];rfl
  exact .inl ⟨x,e,Ac.parse_may e,Ac.parse_back e⟩
theorem actn_ext{a b:Actn}(h0:a.nm=b.nm)(h1:a.kind=b.kind)(h2:a.ast=b.ast)(h3:a.oth=b.oth)(h4:a.ratio.1=b.ratio.1)(h5:a.ratio.2=b.ratio.2)(h6:a.cash.1=b.cash.1)(h7:a.cash.2=b.cash.2)(h8:a.ex=b.ex)(h9:a.rc=b.rc)(h10:a.pay=b.pay):a=b:=by
 obtain⟨_,_,_,_,⟨_,_⟩,⟨_,_⟩,_,_,_⟩:=a;obtain⟨_,_,_,_,⟨_,_⟩,⟨_,_⟩,_,_,_⟩:=b
 cases h0;cases h1;cases h2;cases h3;cases h4;cases h5;cases h6;cases h7;cases h8;cases h9;cases h10;rfl
theorem print_cases(a:Actn):mayA a=true∧printA a≠[]∧parseA (printA a)=(a,0)∨mayA a=false∧printA a=[]:=by
 cases hm:mayA a with
 | true=>exact .inl ⟨rfl,Ac.print_ne hm,Ac.parse_print hm⟩
 | false=>exact .inr ⟨rfl,by unfold printA;rw[hm];rfl⟩
theorem back15_any(a b:Actn)(s:ByteArray)(w:World)(hza:a.nm.length+a.ast.length+a.oth.length≤4611686018427387904)(hzb:b.nm.length+b.ast.length+b.oth.length≤4611686018427387904)(hg:GoodA w):Calls Tryz.prog 4 #[.agg #[.string ⟨a.nm.toArray⟩,.int .i64 a.kind,.string ⟨a.ast.toArray⟩,.string ⟨a.oth.toArray⟩,.string ⟨a.ratio.1.toArray⟩,.string ⟨a.ratio.2.toArray⟩,.string ⟨a.cash.1.toArray⟩,.string ⟨a.cash.2.toArray⟩,.int .i64 a.ex,.int .i64 a.rc,.int .i64 a.pay],.agg #[.string ⟨b.nm.toArray⟩,.int .i64 b.kind,.string ⟨b.ast.toArray⟩,.string ⟨b.oth.toArray⟩,.string ⟨b.ratio.1.toArray⟩,.string ⟨b.ratio.2.toArray⟩,.string ⟨b.cash.1.toArray⟩,.string ⟨b.cash.2.toArray⟩,.int .i64 b.ex,.int .i64 b.rc,.int .i64 b.pay],.string s] w (GiveB w true):=by
 have FX:=zh fixed15_any;have HG:=zh hg;clear hg;have CLA:=zh (fun V=>aclight_y a.nm a.ast a.oth a.ratio.1 a.ratio.2 a.cash.1 a.cash.2 a.kind a.ex a.rc a.pay V hza);have CLB:=zh (fun V=>aclight_y b.nm b.ast b.oth b.ratio.1 b.ratio.2 b.cash.1 b.cash.2 b.kind b.ex b.rc b.pay V hzb);clear hza hzb;generalize lightA _=la at CLA;generalize lightA _=lb at CLB;have CPA:=zh (fun V g=>aprint_any a V g);have CPB:=zh (fun V g=>aprint_any b V g);have CMA:=zh (fun V g=>amay_any a V g);have CQ:=zh (fun V g=>aparse_l (printA a) (Nat.le_trans (printA_len _) (by decide)) V g);have HT:=zh (print_cases a);have HU:=zh (print_cases b);have HI:Hid (mayA a=true→mayA b=true→printA a=printA b→a=b):=zh (fun h1 h2 h=>Ac.print_inj h1 h2 h);have HE:Hid (a=b→printA a=printA b):=zh (fun e=>by rw[e]);generalize printA a=t at *;generalize printA b=u at *;generalize parseA t=r at *;generalize mayA a=ma at *;generalize mayA b=mb at *;go_enter Tryz.func4,Tryz.ntmps4
 go_upto_region 1 with fail
 obtain⟨U1,hW,BU1,s1,kk⟩:=layN (Below.refl w.heap.size w) #[.string ⟨a.nm.toArray⟩,.int .i64 a.kind,.string ⟨a.ast.toArray⟩,.string ⟨a.oth.toArray⟩,.string ⟨a.ratio.1.toArray⟩,.string ⟨a.ratio.2.toArray⟩,.string ⟨a.cash.1.toArray⟩,.string ⟨a.cash.2.toArray⟩,.int .i64 a.ex,.int .i64 a.rc,.int .i64 a.pay] 25;rw[hW];clear hW;obtain⟨U,hW,BU2,s2,jj⟩:=layN (Below.refl U1.heap.size U1) #[.string ⟨b.nm.toArray⟩,.int .i64 b.kind,.string ⟨b.ast.toArray⟩,.string ⟨b.oth.toArray⟩,.string ⟨b.ratio.1.toArray⟩,.string ⟨b.ratio.2.toArray⟩,.string ⟨b.cash.1.toArray⟩,.string ⟨b.cash.2.toArray⟩,.int .i64 b.ex,.int .i64 b.rc,.int .i64 b.pay] 25;rw[hW];clear hW;rw[←s1]at jj;have BW:=Below.more BU1 BU2;replace HG:=zh (HG.out.below BW);have b0:=Below.refl U.heap.size U;have p0:∀v,Below U.heap.size U v→_:=fun v hv=>kk 0 _ rfl v (Below.more BU2 hv);have p1:∀v,Below U.heap.size U v→_:=fun v hv=>kk 1 _ rfl v (Below.more BU2 hv);have p2:∀v,Below U.heap.size U v→_:=fun v hv=>kk 2 _ rfl v (Below.more BU2 hv);have p3:∀v,Below U.heap.size U v→_:=fun v hv=>kk 3 _ rfl v (Below.more BU2 hv);have p4:∀v,Below U.heap.size U v→_:=fun v hv=>kk 4 _ rfl v (Below.more BU2 hv);have p5:∀v,Below U.heap.size U v→_:=fun v hv=>kk 5 _ rfl v (Below.more BU2 hv);have p6:∀v,Below U.heap.size U v→_:=fun v hv=>kk 6 _ rfl v (Below.more BU2 hv);have p7:∀v,Below U.heap.size U v→_:=fun v hv=>kk 7 _ rfl v (Below.more BU2 hv);have p8:∀v,Below U.heap.size U v→_:=fun v hv=>kk 8 _ rfl v (Below.more BU2 hv);have p9:∀v,Below U.heap.size U v→_:=fun v hv=>kk 9 _ rfl v (Below.more BU2 hv);have p10:∀v,Below U.heap.size U v→_:=fun v hv=>kk 10 _ rfl v (Below.more BU2 hv)
 have q0:=jj 0 _ rfl;have q1:=jj 1 _ rfl;have q2:=jj 2 _ rfl;have q3:=jj 3 _ rfl;have q4:=jj 4 _ rfl;have q5:=jj 5 _ rfl;have q6:=jj 6 _ rfl;have q7:=jj 7 _ rfl;have q8:=jj 8 _ rfl;have q9:=jj 9 _ rfl;have q10:=jj 10 _ rfl
 clear kk jj s1 s2 BU1 BU2
 go_cut [31] from 15 to 31 (fun c W=>c=.bool (!la||(!lb||decide (1000<s.size)))∧Below U.heap.size U W)
 case first =>
  go_wp2_with fail;refine(FX.out _ HG.out).mono ?_;rintro e1 w1 ⟨rfl,b⟩;have b1:=Below.more b0 b;clear b;go_wp2_with fail;refine(CLA.out _).mono ?_;rintro e2 w2 ⟨rfl,b⟩;have b2:=Below.more b1 b;clear b
  cases la with
  | false =>
   go_wp2_with fail
   go_meet
   exact⟨rfl,b2⟩
  | true =>
   go_wp2_with fail;refine(CLB.out _).mono ?_;rintro e3 w3 ⟨rfl,b⟩;have b3:=Below.more b2 b;clear b
   cases lb with
   | false =>
    go_wp2_with fail
    go_meet
    exact⟨rfl,b3⟩
   | true =>
    by_cases hs:1000<s.size
    ·have hi:(1000:Int)<(s.size:Int):=by omega
     go_wp2_with fail
     go_meet
     exact⟨by rw[decide_eq_true hs];first|rfl|(rw[decide_eq_true (show (1000:Int)<(s.size:Int) by omega)];rfl),b3⟩
    ·have hi:¬(1000:Int)<(s.size:Int):=by omega
     go_wp2_with fail
     go_meet
     exact⟨by rw[decide_eq_false hs];first|rfl|(rw[decide_eq_false (show ¬(1000:Int)<(s.size:Int) by omega)];rfl),b3⟩
 case rest =>
 obtain⟨rfl,b1⟩:=hcut;have hsk:(!la||(!lb||decide (1000<s.size)))=true∨(!la||(!lb||decide (1000<s.size)))=false∧s.size≤1000:=by
  by_cases h:1000<s.size
  ·rw[decide_eq_true h];simp
  ·rw[decide_eq_false h]
   cases la<;>cases lb<;>simp<;>omega
 generalize (!la||(!lb||decide (1000<s.size)))=sk at *;clear CLA CLB;rcases hsk with rfl|⟨rfl,hs⟩
 ·go_wp2_with fail;refine(FX.out _ (HG.out.below b1)).mono ?_;rintro e2 w2 ⟨rfl,b⟩;have b2:=Below.more b1 b;go_wp2_with fail;go_ret;exact⟨rfl,Below.more BW b2⟩
 have CS:=zh (fun V g=>aparse_any s V (by omega) g);have HP:=zh (parse_cases s.data.toList);generalize parseA s.data.toList=y at *;obtain⟨x,e⟩:=y;clear hs;go_wp2_with fail;refine(CS.out _ (HG.out.below b1)).mono ?_;rintro e2 w2 ⟨rfl,b⟩;have b2:=Below.more b1 b;clear b CS b1;have ba:=fun x=>Below.alloc b2 (Below.size b2) x
 go_upto_if 39 with fail
 obtain⟨V1,hW,b3,_,kk⟩:=layN b2 #[.string ⟨x.nm.toArray⟩,.int .i64 x.kind,.string ⟨x.ast.toArray⟩,.string ⟨x.oth.toArray⟩,.string ⟨x.ratio.1.toArray⟩,.string ⟨x.ratio.2.toArray⟩,.string ⟨x.cash.1.toArray⟩,.string ⟨x.cash.2.toArray⟩,.int .i64 x.ex,.int .i64 x.rc,.int .i64 x.pay] 25;rw[hW];clear hW ba;have y0:=kk 0 _ rfl;have y1:=kk 1 _ rfl;have y2:=kk 2 _ rfl;have y3:=kk 3 _ rfl;have y4:=kk 4 _ rfl;have y5:=kk 5 _ rfl;have y6:=kk 6 _ rfl;have y7:=kk 7 _ rfl;have y8:=kk 8 _ rfl;have y9:=kk 9 _ rfl;have y10:=kk 10 _ rfl
 clear kk b2
 go_cut [] from 38 to 57 (fun W=>Below U.heap.size U W)
 case first =>
  rcases HP.out with ⟨x',h',hx,hy⟩|h'
  ·obtain⟨rfl,rfl⟩:=Prod.mk.inj h';have CPX:=zh (fun V g=>aprint_any x V g);have CQX:Hid (∀V,GoodA V→Calls Tryz.prog 9 #[.string ⟨(printA x).toArray⟩] V (GiveA V (x,0))):=zh (fun V g=>by have k:=aparse_l (printA x) (Nat.le_trans (printA_len _) (by decide)) V g;rw[hy]at k;exact k);have CMX:Hid (∀V,GoodA V→Calls Tryz.prog 11 #[.agg #[.string ⟨x.nm.toArray⟩,.int .i64 x.kind,.string ⟨x.ast.toArray⟩,.string ⟨x.oth.toArray⟩,.string ⟨x.ratio.1.toArray⟩,.string ⟨x.ratio.2.toArray⟩,.string ⟨x.cash.1.toArray⟩,.string ⟨x.cash.2.toArray⟩,.int .i64 x.ex,.int .i64 x.rc,.int .i64 x.pay]] V (GiveB V true)):=zh (fun V g=>by have k:=amay_any x V g;rw[hx]at k;exact k);clear hx hy HP h';generalize printA x=tx at *;have c9:=Below.refl V1.heap.size V1;go_wp2_with fail;refine(CPX.out _ (HG.out.below b3)).mono ?_;rintro e3 w3 ⟨rfl,c⟩;have b4:=Below.more b3 c;replace y0:=fun v (h:Below w3.heap.size w3 v)=>y0 v (Below.more c h);replace y1:=fun v (h:Below w3.heap.size w3 v)=>y1 v (Below.more c h);replace y2:=fun v (h:Below w3.heap.size w3 v)=>y2 v (Below.more c h);replace y3:=fun v (h:Below w3.heap.size w3 v)=>y3 v (Below.more c h);replace y4:=fun v (h:Below w3.heap.size w3 v)=>y4 v (Below.more c h);replace y5:=fun v (h:Below w3.heap.size w3 v)=>y5 v (Below.more c h);replace y6:=fun v (h:Below w3.heap.size w3 v)=>y6 v (Below.more c h);replace y7:=fun v (h:Below w3.heap.size w3 v)=>y7 v (Below.more c h);replace y8:=fun v (h:Below w3.heap.size w3 v)=>y8 v (Below.more c h);replace y9:=fun v (h:Below w3.heap.size w3 v)=>y9 v (Below.more c h);replace y10:=fun v (h:Below w3.heap.size w3 v)=>y10 v (Below.more c h)
   have c0:=Below.refl w3.heap.size w3;clear c c9;go_wp2_with fail;refine(CQX.out _ (HG.out.below b4)).mono ?_;rintro e4 w4 ⟨rfl,c⟩;have b5:=Below.more b4 c;have c1:=Below.more c0 c;clear c;have ca:=fun x=>Below.alloc c1 (Below.size c1) x;go_wp2_with fail;have b6:Below U.heap.size U (w4.alloc (.cells #[.string ⟨x.nm.toArray⟩,.int .i64 x.kind,.string ⟨x.ast.toArray⟩,.string ⟨x.oth.toArray⟩,.string ⟨x.ratio.1.toArray⟩,.string ⟨x.ratio.2.toArray⟩,.string ⟨x.cash.1.toArray⟩,.string ⟨x.cash.2.toArray⟩,.int .i64 x.ex,.int .i64 x.rc,.int .i64 x.pay] 25)):=Below.alloc b5 (Below.size b5) _;refine(CMX.out _ (HG.out.below b6)).mono ?_;rintro e5 w5 ⟨rfl,c⟩;have b7:=Below.more b6 c;clear c ca c0 c1 y0 y1 y2 y3 y4 y5 y6 y7 y8 y9 y10;go_wp2_with fail
   go_meet
   exact b7
  ·obtain⟨rfl,rfl⟩:=Prod.mk.inj h';go_wp2_with fail
   go_meet
   exact b3
 case rest =>
 have b4:=hcut;clear hcut b3 y0 y1 y2 y3 y4 y5 y6 y7 y8 y9 y10 HP;have hB:=zh (Nat.le_refl U.heap.size);go_wp2_with fail;refine wp_region_noPanic ?_;refine wp_region_held_drew (S:=fun w'=>Below U.heap.size U w') (by kernel_rfl) (b4.drew) (fun hH0=>?_);refine wpAnyH_take (i:=0) (v:=?_) rfl (by kernel_rfl) (by kernel_rfl) (by kernel_rfl) (fun _ _ _ h=>h) (Or.inl ⟨by rfl,?_⟩) (by assumption) ?_;rotate_left 1
 ·(intro w hSw;(try dsimp only at hSw);go_simp<;>(with_reducible rfl))
 try simp only[Act.put,qA,qB,qC,qD,qE,qF]
 refine wpAnyH_take (i:=2) (v:=?_) rfl (by kernel_rfl) (by kernel_rfl) (by kernel_rfl) (fun _ _ _ h=>h) (Or.inl ⟨by rfl,?_⟩) (by assumption) ?_;rotate_left 1
 ·(intro w hSw;(try dsimp only at hSw);go_simp<;>(with_reducible rfl))
 try simp only[Act.put,qA,qB,qC,qD,qE,qF]
 refine wpAnyH_ready (rs:=[1]) (by kernel_rfl) (by simp) ?_;refine AllReadyH.cons rfl (fun K hK=>?_) AllReadyH.nil
 go_simp
 refine(held (W:=U) hB.out (CPA.out _ (HG.out.below (by assumption))) (by assumption)).mono ?_;rintro e x1 ⟨rfl,hb,hw⟩
 (try go_wp2_with fail)
 refine hK.out _ _ hw (fun hH1=>?_);clear hK hH0 hb hw
 try simp only[Act.put,qA,qB,qC,qD,qE,qF]
 refine wpAnyH_ready (rs:=[3]) (by kernel_rfl) (by simp) ?_;refine AllReadyH.cons rfl (fun K hK=>?_) AllReadyH.nil
 go_simp
 refine(held (W:=U) hB.out (CPB.out _ (HG.out.below (by assumption))) (by assumption)).mono ?_;rintro e x2 ⟨rfl,hb,hw⟩
 (try go_wp2_with fail)
 refine hK.out _ _ hw (fun hH2=>?_);clear hK hH1 hb hw
 try simp only[Act.put,qA,qB,qC,qD,qE,qF]
 refine wpAnyH_take (i:=4) (v:=?_) rfl (by kernel_rfl) (by kernel_rfl) (by kernel_rfl) (fun _ _ _ h=>h) (Or.inl ⟨by rfl,?_⟩) (by assumption) ?_;rotate_left 1
 ·(intro w hSw;(try dsimp only at hSw);go_simp<;>(with_reducible rfl))
 try simp only[Act.put,qA,qB,qC,qD,qE,qF]
 refine wpAnyH_take (i:=5) (v:=?_) rfl (by kernel_rfl) (by kernel_rfl) (by kernel_rfl) (fun _ _ _ h=>h) (Or.inl ⟨by rfl,?_⟩) (by assumption) ?_;rotate_left 1
 ·(intro w hSw;(try dsimp only at hSw);go_simp<;>(with_reducible rfl))
 try simp only[Act.put,qA,qB,qC,qD,qE,qF]
 refine wpAnyH_done (by kernel_rfl) ?_ _;refine NoPanic.normal ?_;have b5:=hH2;clear hH2;clear CPA CPB;rcases HT.out with ⟨rfl,ht,hr⟩|⟨rfl,rfl⟩
 ·have hq:(t == [])=false:=by rw[beq_eq_false_iff_ne];exact ht
  rcases HU.out with ⟨rfl,hu,_⟩|⟨rfl,rfl⟩
  ·have hq2:(u == [])=false:=by rw[beq_eq_false_iff_ne];exact hu
   obtain⟨r1,r2⟩:=r;obtain⟨rfl,rfl⟩:=Prod.mk.inj hr;have HI2:Hid (t=u→r1=b):=zh (HI.out rfl rfl);clear ht hu hr HT HU HI;go_wp2_with fail;refine(CQ.out _ (HG.out.below b5)).mono ?_;rintro e6 w6 ⟨rfl,c⟩;have b6:=Below.more b5 c;clear c CQ;have ba:=fun x=>Below.alloc b6 (Below.size b6) x;by_cases hab:r1=b
   ·subst hab;obtain rfl:=HE.out rfl;clear HI2 HE;go_wp2_with fail;go_ret;exact⟨ret_bool (by first|rfl|simp),Below.more BW (Below.alloc b6 (Below.size b6) _)⟩
   ·have hq3:(t==u)=false:=by rw[beq_eq_false_iff_ne];exact fun c=>hab (HI2.out c)
    clear HI2 HE;go_wp2_with fail
    all_goals first
     | exact absurd (actn_ext (by assumption) (by assumption) (by assumption) (by assumption) (by assumption) (by assumption) (by assumption) (by assumption) (by assumption) (by assumption) (by assumption)) hab
     | (go_ret;exact⟨ret_bool (by first|rfl|simp),Below.more BW (Below.alloc b6 (Below.size b6) _)⟩)
  ·clear HT HU HI HE ht hr;go_wp2_with fail;go_ret;exact⟨rfl,Below.more BW b5⟩
 ·clear HT HU HI HE;go_wp2_with fail;refine(CMA.out _ (HG.out.below b5)).mono ?_;rintro e6 w6 ⟨rfl,c⟩;have b6:=Below.more b5 c;go_wp2_with fail;go_ret;exact⟨rfl,Below.more BW b6⟩
end Go.Proofs.YtcebkcilkhebeaaGreatDoor
