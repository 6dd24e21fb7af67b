/- Own work. -/
import Derived.Test.YthgopcnagecbaaaGreatDoorAllAc1
set_option linter.unusedSimpArgs false
set_option linter.unusedVariables false
set_option maxHeartbeats 4000000
set_option maxRecDepth 100000
namespace Go.Proofs.YthgopcnagecbaaaGreatDoor
open Go.RowKit
open Ac (oB rB cB assetB numB wordK mayA Actn leastC)
theorem amay_eq(nm ast oth rn rd' cn cd:List UInt8)(k ex rc pay:Int)(h:0≤k)(h2:k≤4):mayA ⟨nm,k,ast,oth,(rn,rd'),(cn,cd),ex,rc,pay⟩=(isName nm&&(assetB ast&&((decide (0≤ex)&&(decide (ex≤rc)&&(decide (rc≤pay)&&decide (pay≤9999))))&&((if oB k then assetB oth&&!(oth==ast) else oth == [])&&(numB (rn,rd') (rB k) 1&&numB (cn,cd) (cB k) (leastC k)))))):=by
 unfold mayA;rw[decide_eq_true h,decide_eq_true h2,Bool.true_and,Bool.true_and];simp only[Bool.and_assoc]
theorem amay_0(nm ast oth rn rd' cn cd:List UInt8)(ex rc pay:Int)(w:World)(hg:GoodA w):Calls Tryz.prog 35 #[.agg #[.string ⟨nm.toArray⟩,.int .i64 0,.string ⟨ast.toArray⟩,.string ⟨oth.toArray⟩,.string ⟨rn.toArray⟩,.string ⟨rd'.toArray⟩,.string ⟨cn.toArray⟩,.string ⟨cd.toArray⟩,.int .i64 ex,.int .i64 rc,.int .i64 pay]] w (GiveB w (mayA ⟨nm,0,ast,oth,(rn,rd'),(cn,cd),ex,rc,pay⟩)):=by
 have HG:=zh hg;clear hg;have HE:=zh (amay_eq nm ast oth rn rd' cn cd 0 ex rc pay (by decide) (by decide));have CN:Hid (∀V,Calls Tryz.prog 41 #[.string ⟨nm.toArray⟩] V (GiveB V (isName nm))):=zh (fun V=>bname_any ⟨nm.toArray⟩ V);have CA:=zh (fun V=>ashare_any ast V);have CD:=zh (fun V=>adays_any nm ast oth rn rd' cn cd 0 ex rc pay V);have CO:Hid (∀V,Calls Tryz.prog 73 #[.agg #[.string ⟨nm.toArray⟩,.int .i64 0,.string ⟨ast.toArray⟩,.string ⟨oth.toArray⟩,.string ⟨rn.toArray⟩,.string ⟨rd'.toArray⟩,.string ⟨cn.toArray⟩,.string ⟨cd.toArray⟩,.int .i64 ex,.int .i64 rc,.int .i64 pay],.bool false] V (GiveB V (if oB 0 then assetB oth&&!(oth==ast) else oth == []))):=zh (fun V=>aother_any nm ast oth rn rd' cn cd 0 ex rc pay false V);have CR:Hid (∀V,GoodA V→Calls Tryz.prog 74 #[.agg #[.string ⟨rn.toArray⟩,.string ⟨rd'.toArray⟩],.int .i64 1] V (GiveB V (numB (rn,rd') (rB 0) 1))):=zh (fun V g=>by rw[←fits_is (rn,rd') (rB 0) 1 (.inr rfl)];exact afits_any rn rd' 1 V g);have CC:Hid (∀V,GoodA V→Calls Tryz.prog 74 #[.agg #[.string ⟨cn.toArray⟩,.string ⟨cd.toArray⟩],.int .i64 0] V (GiveB V (numB (cn,cd) (cB 0) (leastC 0)))):=zh (fun V g=>by rw[←fits_is (cn,cd) (cB 0) (leastC 0) (by decide)];exact afits_any cn cd 0 V g);generalize mayA ⟨nm,0,ast,oth,(rn,rd'),(cn,cd),ex,rc,pay⟩=res at *;generalize (decide (0≤ex)&&(decide (ex≤rc)&&(decide (rc≤pay)&&decide (pay≤9999))))=vd at *;generalize (if oB 0 then assetB oth&&!(oth==ast) else oth == [])=vo at *;generalize numB (rn,rd') (rB 0) 1=vr at *;generalize numB (cn,cd) (cB 0) (leastC 0)=vc at *
 generalize isName nm=vn at *;generalize assetB ast=va at *;have ba:Below w.heap.size w (w.alloc (.cells #[.string ⟨nm.toArray⟩,.int .i64 0,.string ⟨ast.toArray⟩,.string ⟨oth.toArray⟩,.string ⟨rn.toArray⟩,.string ⟨rd'.toArray⟩,.string ⟨cn.toArray⟩,.string ⟨cd.toArray⟩,.int .i64 ex,.int .i64 rc,.int .i64 pay] 25)):=Below.alloc (Below.refl _ _) (Nat.le_refl _) _;have g0:=(HG.out.below ba).sh 0 (.string ⟨#[115,112,108,105,116]⟩) rfl;have g1:=(HG.out.below ba).sh 1 (.bool false) rfl;have g2:=(HG.out.below ba).sh 2 (.int .i64 1) rfl;have g3:=(HG.out.below ba).sh 3 (.int .i64 0) rfl
 clear ba;go_enter Tryz.func35,Tryz.ntmps35;go_wp2_with fail;obtain⟨W1,hW,BW1,s1,kk⟩:=layN (Below.refl w.heap.size w) #[.string ⟨nm.toArray⟩,.int .i64 0,.string ⟨ast.toArray⟩,.string ⟨oth.toArray⟩,.string ⟨rn.toArray⟩,.string ⟨rd'.toArray⟩,.string ⟨cn.toArray⟩,.string ⟨cd.toArray⟩,.int .i64 ex,.int .i64 rc,.int .i64 pay] 25;rw[hW];clear hW g0 g1 g2 g3;obtain⟨W,hW,BW2,s2,jj⟩:=layN (Below.refl W1.heap.size W1) #[.string ⟨#[115,112,108,105,116]⟩,.bool false,.int .i64 1,.int .i64 0] 82;rw[hW];clear hW;rw[←s1]at jj;have BW:=Below.more BW1 BW2;replace HG:=zh (HG.out.below BW);have b0:=Below.refl W.heap.size W;have k0:∀v,Below W.heap.size W v→_:=fun v hv=>kk 0 _ rfl v (Below.more BW2 hv);have k1:∀v,Below W.heap.size W v→_:=fun v hv=>kk 1 _ rfl v (Below.more BW2 hv);have k2:∀v,Below W.heap.size W v→_:=fun v hv=>kk 2 _ rfl v (Below.more BW2 hv);have k3:∀v,Below W.heap.size W v→_:=fun v hv=>kk 3 _ rfl v (Below.more BW2 hv);have k4:∀v,Below W.heap.size W v→_:=fun v hv=>kk 4 _ rfl v (Below.more BW2 hv);have k5:∀v,Below W.heap.size W v→_:=fun v hv=>kk 5 _ rfl v (Below.more BW2 hv);have k6:∀v,Below W.heap.size W v→_:=fun v hv=>kk 6 _ rfl v (Below.more BW2 hv);have k7:∀v,Below W.heap.size W v→_:=fun v hv=>kk 7 _ rfl v (Below.more BW2 hv);have k8:∀v,Below W.heap.size W v→_:=fun v hv=>kk 8 _ rfl v (Below.more BW2 hv);have k9:∀v,Below W.heap.size W v→_:=fun v hv=>kk 9 _ rfl v (Below.more BW2 hv);have k10:∀v,Below W.heap.size W v→_:=fun v hv=>kk 10 _ rfl v (Below.more BW2 hv)
 have j0:=jj 0 _ rfl;have j1:=jj 1 _ rfl;have j2:=jj 2 _ rfl;have j3:=jj 3 _ rfl
 clear kk jj s1 s2;go_wp2_with fail;refine(CN.out _).mono ?_;rintro e1 w1 ⟨rfl,b⟩;have b1:=Below.more b0 b;clear b
 cases vn with
 | false =>
  go_wp2_with fail;go_ret;exact⟨ret_bool (by rw[HE.out];simp[*]),Below.more BW b1⟩
 | true =>
 go_wp2_with fail;refine(CA.out _).mono ?_;rintro e2 w2 ⟨rfl,b⟩;have b2:=Below.more b1 b;clear b
 cases va with
 | false =>
  go_wp2_with fail;go_ret;exact⟨ret_bool (by rw[HE.out];simp[*]),Below.more BW b2⟩
 | true =>
 go_wp2_with fail;refine(CD.out _).mono ?_;rintro e3 w3 ⟨rfl,b⟩;have b3:=Below.more b2 b;clear b
 cases vd with
 | false =>
  go_wp2_with fail;go_ret;exact⟨ret_bool (by rw[HE.out];simp[*]),Below.more BW b3⟩
 | true =>
 go_wp2_with fail;refine(CO.out _).mono ?_;rintro e4 w4 ⟨rfl,b⟩;have b4:=Below.more b3 b;clear b
 cases vo with
 | false =>
  go_wp2_with fail;go_ret;exact⟨ret_bool (by rw[HE.out];simp[*]),Below.more BW b4⟩
 | true =>
 go_wp2_with fail;refine(CR.out _ (HG.out.below b4)).mono ?_;rintro e5 w5 ⟨rfl,b⟩;have b5:=Below.more b4 b;clear b
 cases vr with
 | false =>
  go_wp2_with fail;go_ret;exact⟨ret_bool (by rw[HE.out];simp[*]),Below.more BW b5⟩
 | true =>
 go_wp2_with fail;refine(CC.out _ (HG.out.below b5)).mono ?_;rintro e6 w6 ⟨rfl,b⟩;have b6:=Below.more b5 b;clear b
 cases vc<;>(
  go_wp2_with fail;go_ret;exact⟨ret_bool (by rw[HE.out];simp[*]),Below.more BW b6⟩)
theorem amay_1(nm ast oth rn rd' cn cd:List UInt8)(ex rc pay:Int)(w:World)(hg:GoodA w):Calls Tryz.prog 35 #[.agg #[.string ⟨nm.toArray⟩,.int .i64 1,.string ⟨ast.toArray⟩,.string ⟨oth.toArray⟩,.string ⟨rn.toArray⟩,.string ⟨rd'.toArray⟩,.string ⟨cn.toArray⟩,.string ⟨cd.toArray⟩,.int .i64 ex,.int .i64 rc,.int .i64 pay]] w (GiveB w (mayA ⟨nm,1,ast,oth,(rn,rd'),(cn,cd),ex,rc,pay⟩)):=by
 have HG:=zh hg;clear hg;have HE:=zh (amay_eq nm ast oth rn rd' cn cd 1 ex rc pay (by decide) (by decide));have CN:Hid (∀V,Calls Tryz.prog 41 #[.string ⟨nm.toArray⟩] V (GiveB V (isName nm))):=zh (fun V=>bname_any ⟨nm.toArray⟩ V);have CA:=zh (fun V=>ashare_any ast V);have CD:=zh (fun V=>adays_any nm ast oth rn rd' cn cd 1 ex rc pay V);have CO:Hid (∀V,Calls Tryz.prog 73 #[.agg #[.string ⟨nm.toArray⟩,.int .i64 1,.string ⟨ast.toArray⟩,.string ⟨oth.toArray⟩,.string ⟨rn.toArray⟩,.string ⟨rd'.toArray⟩,.string ⟨cn.toArray⟩,.string ⟨cd.toArray⟩,.int .i64 ex,.int .i64 rc,.int .i64 pay],.bool false] V (GiveB V (if oB 1 then assetB oth&&!(oth==ast) else oth == []))):=zh (fun V=>aother_any nm ast oth rn rd' cn cd 1 ex rc pay false V);have CR:Hid (∀V,GoodA V→Calls Tryz.prog 74 #[.agg #[.string ⟨rn.toArray⟩,.string ⟨rd'.toArray⟩],.int .i64 1] V (GiveB V (numB (rn,rd') (rB 1) 1))):=zh (fun V g=>by rw[←fits_is (rn,rd') (rB 1) 1 (.inr rfl)];exact afits_any rn rd' 1 V g);have CC:Hid (∀V,GoodA V→Calls Tryz.prog 74 #[.agg #[.string ⟨cn.toArray⟩,.string ⟨cd.toArray⟩],.int .i64 0] V (GiveB V (numB (cn,cd) (cB 1) (leastC 1)))):=zh (fun V g=>by rw[←fits_is (cn,cd) (cB 1) (leastC 1) (by decide)];exact afits_any cn cd 0 V g);generalize mayA ⟨nm,1,ast,oth,(rn,rd'),(cn,cd),ex,rc,pay⟩=res at *;generalize (decide (0≤ex)&&(decide (ex≤rc)&&(decide (rc≤pay)&&decide (pay≤9999))))=vd at *;generalize (if oB 1 then assetB oth&&!(oth==ast) else oth == [])=vo at *;generalize numB (rn,rd') (rB 1) 1=vr at *;generalize numB (cn,cd) (cB 1) (leastC 1)=vc at *
 generalize isName nm=vn at *;generalize assetB ast=va at *;have ba:Below w.heap.size w (w.alloc (.cells #[.string ⟨nm.toArray⟩,.int .i64 1,.string ⟨ast.toArray⟩,.string ⟨oth.toArray⟩,.string ⟨rn.toArray⟩,.string ⟨rd'.toArray⟩,.string ⟨cn.toArray⟩,.string ⟨cd.toArray⟩,.int .i64 ex,.int .i64 rc,.int .i64 pay] 25)):=Below.alloc (Below.refl _ _) (Nat.le_refl _) _;have g0:=(HG.out.below ba).sh 4 (.string ⟨#[115,116,111,99,107]⟩) rfl;have g1:=(HG.out.below ba).sh 5 (.bool false) rfl;have g2:=(HG.out.below ba).sh 6 (.int .i64 1) rfl;have g3:=(HG.out.below ba).sh 7 (.int .i64 0) rfl
 clear ba;go_enter Tryz.func35,Tryz.ntmps35;go_wp2_with fail;obtain⟨W1,hW,BW1,s1,kk⟩:=layN (Below.refl w.heap.size w) #[.string ⟨nm.toArray⟩,.int .i64 1,.string ⟨ast.toArray⟩,.string ⟨oth.toArray⟩,.string ⟨rn.toArray⟩,.string ⟨rd'.toArray⟩,.string ⟨cn.toArray⟩,.string ⟨cd.toArray⟩,.int .i64 ex,.int .i64 rc,.int .i64 pay] 25;rw[hW];clear hW g0 g1 g2 g3;obtain⟨W,hW,BW2,s2,jj⟩:=layN (Below.refl W1.heap.size W1) #[.string ⟨#[115,116,111,99,107]⟩,.bool false,.int .i64 1,.int .i64 0] 82;rw[hW];clear hW;rw[←s1]at jj;have BW:=Below.more BW1 BW2;replace HG:=zh (HG.out.below BW);have b0:=Below.refl W.heap.size W;have k0:∀v,Below W.heap.size W v→_:=fun v hv=>kk 0 _ rfl v (Below.more BW2 hv);have k1:∀v,Below W.heap.size W v→_:=fun v hv=>kk 1 _ rfl v (Below.more BW2 hv);have k2:∀v,Below W.heap.size W v→_:=fun v hv=>kk 2 _ rfl v (Below.more BW2 hv);have k3:∀v,Below W.heap.size W v→_:=fun v hv=>kk 3 _ rfl v (Below.more BW2 hv);have k4:∀v,Below W.heap.size W v→_:=fun v hv=>kk 4 _ rfl v (Below.more BW2 hv);have k5:∀v,Below W.heap.size W v→_:=fun v hv=>kk 5 _ rfl v (Below.more BW2 hv);have k6:∀v,Below W.heap.size W v→_:=fun v hv=>kk 6 _ rfl v (Below.more BW2 hv);have k7:∀v,Below W.heap.size W v→_:=fun v hv=>kk 7 _ rfl v (Below.more BW2 hv);have k8:∀v,Below W.heap.size W v→_:=fun v hv=>kk 8 _ rfl v (Below.more BW2 hv);have k9:∀v,Below W.heap.size W v→_:=fun v hv=>kk 9 _ rfl v (Below.more BW2 hv);have k10:∀v,Below W.heap.size W v→_:=fun v hv=>kk 10 _ rfl v (Below.more BW2 hv)
 have j0:=jj 0 _ rfl;have j1:=jj 1 _ rfl;have j2:=jj 2 _ rfl;have j3:=jj 3 _ rfl
 clear kk jj s1 s2;go_wp2_with fail;refine(CN.out _).mono ?_;rintro e1 w1 ⟨rfl,b⟩;have b1:=Below.more b0 b;clear b
 cases vn with
 | false =>
  go_wp2_with fail;go_ret;exact⟨ret_bool (by rw[HE.out];simp[*]),Below.more BW b1⟩
 | true =>
 go_wp2_with fail;refine(CA.out _).mono ?_;rintro e2 w2 ⟨rfl,b⟩;have b2:=Below.more b1 b;clear b
 cases va with
 | false =>
  go_wp2_with fail;go_ret;exact⟨ret_bool (by rw[HE.out];simp[*]),Below.more BW b2⟩
 | true =>
 go_wp2_with fail;refine(CD.out _).mono ?_;rintro e3 w3 ⟨rfl,b⟩;have b3:=Below.more b2 b;clear b
 cases vd with
 | false =>
  go_wp2_with fail;go_ret;exact⟨ret_bool (by rw[HE.out];simp[*]),Below.more BW b3⟩
 | true =>
 go_wp2_with fail;refine(CO.out _).mono ?_;rintro e4 w4 ⟨rfl,b⟩;have b4:=Below.more b3 b;clear b
 cases vo with
 | false =>
  go_wp2_with fail;go_ret;exact⟨ret_bool (by rw[HE.out];simp[*]),Below.more BW b4⟩
 | true =>
 go_wp2_with fail;refine(CR.out _ (HG.out.below b4)).mono ?_;rintro e5 w5 ⟨rfl,b⟩;have b5:=Below.more b4 b;clear b
 cases vr with
 | false =>
  go_wp2_with fail;go_ret;exact⟨ret_bool (by rw[HE.out];simp[*]),Below.more BW b5⟩
 | true =>
 go_wp2_with fail;refine(CC.out _ (HG.out.below b5)).mono ?_;rintro e6 w6 ⟨rfl,b⟩;have b6:=Below.more b5 b;clear b
 cases vc<;>(
  go_wp2_with fail;go_ret;exact⟨ret_bool (by rw[HE.out];simp[*]),Below.more BW b6⟩)
theorem amay_2(nm ast oth rn rd' cn cd:List UInt8)(ex rc pay:Int)(w:World)(hg:GoodA w):Calls Tryz.prog 35 #[.agg #[.string ⟨nm.toArray⟩,.int .i64 2,.string ⟨ast.toArray⟩,.string ⟨oth.toArray⟩,.string ⟨rn.toArray⟩,.string ⟨rd'.toArray⟩,.string ⟨cn.toArray⟩,.string ⟨cd.toArray⟩,.int .i64 ex,.int .i64 rc,.int .i64 pay]] w (GiveB w (mayA ⟨nm,2,ast,oth,(rn,rd'),(cn,cd),ex,rc,pay⟩)):=by
 have HG:=zh hg;clear hg;have HE:=zh (amay_eq nm ast oth rn rd' cn cd 2 ex rc pay (by decide) (by decide));have CN:Hid (∀V,Calls Tryz.prog 41 #[.string ⟨nm.toArray⟩] V (GiveB V (isName nm))):=zh (fun V=>bname_any ⟨nm.toArray⟩ V);have CA:=zh (fun V=>ashare_any ast V);have CD:=zh (fun V=>adays_any nm ast oth rn rd' cn cd 2 ex rc pay V);have CO:Hid (∀V,Calls Tryz.prog 73 #[.agg #[.string ⟨nm.toArray⟩,.int .i64 2,.string ⟨ast.toArray⟩,.string ⟨oth.toArray⟩,.string ⟨rn.toArray⟩,.string ⟨rd'.toArray⟩,.string ⟨cn.toArray⟩,.string ⟨cd.toArray⟩,.int .i64 ex,.int .i64 rc,.int .i64 pay],.bool false] V (GiveB V (if oB 2 then assetB oth&&!(oth==ast) else oth == []))):=zh (fun V=>aother_any nm ast oth rn rd' cn cd 2 ex rc pay false V);have CR:Hid (∀V,GoodA V→Calls Tryz.prog 74 #[.agg #[.string ⟨rn.toArray⟩,.string ⟨rd'.toArray⟩],.int .i64 0] V (GiveB V (numB (rn,rd') (rB 2) 1))):=zh (fun V g=>by rw[←fits_is (rn,rd') (rB 2) 1 (.inr rfl)];exact afits_any rn rd' 0 V g);have CC:Hid (∀V,GoodA V→Calls Tryz.prog 74 #[.agg #[.string ⟨cn.toArray⟩,.string ⟨cd.toArray⟩],.int .i64 1] V (GiveB V (numB (cn,cd) (cB 2) (leastC 2)))):=zh (fun V g=>by rw[←fits_is (cn,cd) (cB 2) (leastC 2) (by decide)];exact afits_any cn cd 1 V g);generalize mayA ⟨nm,2,ast,oth,(rn,rd'),(cn,cd),ex,rc,pay⟩=res at *;generalize (decide (0≤ex)&&(decide (ex≤rc)&&(decide (rc≤pay)&&decide (pay≤9999))))=vd at *;generalize (if oB 2 then assetB oth&&!(oth==ast) else oth == [])=vo at *;generalize numB (rn,rd') (rB 2) 1=vr at *;generalize numB (cn,cd) (cB 2) (leastC 2)=vc at *
 generalize isName nm=vn at *;generalize assetB ast=va at *;have ba:Below w.heap.size w (w.alloc (.cells #[.string ⟨nm.toArray⟩,.int .i64 2,.string ⟨ast.toArray⟩,.string ⟨oth.toArray⟩,.string ⟨rn.toArray⟩,.string ⟨rd'.toArray⟩,.string ⟨cn.toArray⟩,.string ⟨cd.toArray⟩,.int .i64 ex,.int .i64 rc,.int .i64 pay] 25)):=Below.alloc (Below.refl _ _) (Nat.le_refl _) _;have g0:=(HG.out.below ba).sh 8 (.string ⟨#[99,97,115,104]⟩) rfl;have g1:=(HG.out.below ba).sh 9 (.bool false) rfl;have g2:=(HG.out.below ba).sh 10 (.int .i64 0) rfl;have g3:=(HG.out.below ba).sh 11 (.int .i64 1) rfl
 clear ba;go_enter Tryz.func35,Tryz.ntmps35;go_wp2_with fail;obtain⟨W1,hW,BW1,s1,kk⟩:=layN (Below.refl w.heap.size w) #[.string ⟨nm.toArray⟩,.int .i64 2,.string ⟨ast.toArray⟩,.string ⟨oth.toArray⟩,.string ⟨rn.toArray⟩,.string ⟨rd'.toArray⟩,.string ⟨cn.toArray⟩,.string ⟨cd.toArray⟩,.int .i64 ex,.int .i64 rc,.int .i64 pay] 25;rw[hW];clear hW g0 g1 g2 g3;obtain⟨W,hW,BW2,s2,jj⟩:=layN (Below.refl W1.heap.size W1) #[.string ⟨#[99,97,115,104]⟩,.bool false,.int .i64 0,.int .i64 1] 82;rw[hW];clear hW;rw[←s1]at jj;have BW:=Below.more BW1 BW2;replace HG:=zh (HG.out.below BW);have b0:=Below.refl W.heap.size W;have k0:∀v,Below W.heap.size W v→_:=fun v hv=>kk 0 _ rfl v (Below.more BW2 hv);have k1:∀v,Below W.heap.size W v→_:=fun v hv=>kk 1 _ rfl v (Below.more BW2 hv);have k2:∀v,Below W.heap.size W v→_:=fun v hv=>kk 2 _ rfl v (Below.more BW2 hv);have k3:∀v,Below W.heap.size W v→_:=fun v hv=>kk 3 _ rfl v (Below.more BW2 hv);have k4:∀v,Below W.heap.size W v→_:=fun v hv=>kk 4 _ rfl v (Below.more BW2 hv);have k5:∀v,Below W.heap.size W v→_:=fun v hv=>kk 5 _ rfl v (Below.more BW2 hv);have k6:∀v,Below W.heap.size W v→_:=fun v hv=>kk 6 _ rfl v (Below.more BW2 hv);have k7:∀v,Below W.heap.size W v→_:=fun v hv=>kk 7 _ rfl v (Below.more BW2 hv);have k8:∀v,Below W.heap.size W v→_:=fun v hv=>kk 8 _ rfl v (Below.more BW2 hv);have k9:∀v,Below W.heap.size W v→_:=fun v hv=>kk 9 _ rfl v (Below.more BW2 hv);have k10:∀v,Below W.heap.size W v→_:=fun v hv=>kk 10 _ rfl v (Below.more BW2 hv)
 have j0:=jj 0 _ rfl;have j1:=jj 1 _ rfl;have j2:=jj 2 _ rfl;have j3:=jj 3 _ rfl
 clear kk jj s1 s2;go_wp2_with fail;refine(CN.out _).mono ?_;rintro e1 w1 ⟨rfl,b⟩;have b1:=Below.more b0 b;clear b
 cases vn with
 | false =>
  go_wp2_with fail;go_ret;exact⟨ret_bool (by rw[HE.out];simp[*]),Below.more BW b1⟩
 | true =>
 go_wp2_with fail;refine(CA.out _).mono ?_;rintro e2 w2 ⟨rfl,b⟩;have b2:=Below.more b1 b;clear b
 cases va with
 | false =>
  go_wp2_with fail;go_ret;exact⟨ret_bool (by rw[HE.out];simp[*]),Below.more BW b2⟩
 | true =>
 go_wp2_with fail;refine(CD.out _).mono ?_;rintro e3 w3 ⟨rfl,b⟩;have b3:=Below.more b2 b;clear b
 cases vd with
 | false =>
  go_wp2_with fail;go_ret;exact⟨ret_bool (by rw[HE.out];simp[*]),Below.more BW b3⟩
 | true =>
 go_wp2_with fail;refine(CO.out _).mono ?_;rintro e4 w4 ⟨rfl,b⟩;have b4:=Below.more b3 b;clear b
 cases vo with
 | false =>
  go_wp2_with fail;go_ret;exact⟨ret_bool (by rw[HE.out];simp[*]),Below.more BW b4⟩
 | true =>
 go_wp2_with fail;refine(CR.out _ (HG.out.below b4)).mono ?_;rintro e5 w5 ⟨rfl,b⟩;have b5:=Below.more b4 b;clear b
 cases vr with
 | false =>
  go_wp2_with fail;go_ret;exact⟨ret_bool (by rw[HE.out];simp[*]),Below.more BW b5⟩
 | true =>
 go_wp2_with fail;refine(CC.out _ (HG.out.below b5)).mono ?_;rintro e6 w6 ⟨rfl,b⟩;have b6:=Below.more b5 b;clear b
 cases vc<;>(
  go_wp2_with fail;go_ret;exact⟨ret_bool (by rw[HE.out];simp[*]),Below.more BW b6⟩)
theorem amay_3(nm ast oth rn rd' cn cd:List UInt8)(ex rc pay:Int)(w:World)(hg:GoodA w):Calls Tryz.prog 35 #[.agg #[.string ⟨nm.toArray⟩,.int .i64 3,.string ⟨ast.toArray⟩,.string ⟨oth.toArray⟩,.string ⟨rn.toArray⟩,.string ⟨rd'.toArray⟩,.string ⟨cn.toArray⟩,.string ⟨cd.toArray⟩,.int .i64 ex,.int .i64 rc,.int .i64 pay]] w (GiveB w (mayA ⟨nm,3,ast,oth,(rn,rd'),(cn,cd),ex,rc,pay⟩)):=by
 have HG:=zh hg;clear hg;have HE:=zh (amay_eq nm ast oth rn rd' cn cd 3 ex rc pay (by decide) (by decide));have CN:Hid (∀V,Calls Tryz.prog 41 #[.string ⟨nm.toArray⟩] V (GiveB V (isName nm))):=zh (fun V=>bname_any ⟨nm.toArray⟩ V);have CA:=zh (fun V=>ashare_any ast V);have CD:=zh (fun V=>adays_any nm ast oth rn rd' cn cd 3 ex rc pay V);have CO:Hid (∀V,Calls Tryz.prog 73 #[.agg #[.string ⟨nm.toArray⟩,.int .i64 3,.string ⟨ast.toArray⟩,.string ⟨oth.toArray⟩,.string ⟨rn.toArray⟩,.string ⟨rd'.toArray⟩,.string ⟨cn.toArray⟩,.string ⟨cd.toArray⟩,.int .i64 ex,.int .i64 rc,.int .i64 pay],.bool true] V (GiveB V (if oB 3 then assetB oth&&!(oth==ast) else oth == []))):=zh (fun V=>aother_any nm ast oth rn rd' cn cd 3 ex rc pay true V);have CR:Hid (∀V,GoodA V→Calls Tryz.prog 74 #[.agg #[.string ⟨rn.toArray⟩,.string ⟨rd'.toArray⟩],.int .i64 1] V (GiveB V (numB (rn,rd') (rB 3) 1))):=zh (fun V g=>by rw[←fits_is (rn,rd') (rB 3) 1 (.inr rfl)];exact afits_any rn rd' 1 V g);have CC:Hid (∀V,GoodA V→Calls Tryz.prog 74 #[.agg #[.string ⟨cn.toArray⟩,.string ⟨cd.toArray⟩],.int .i64 0] V (GiveB V (numB (cn,cd) (cB 3) (leastC 3)))):=zh (fun V g=>by rw[←fits_is (cn,cd) (cB 3) (leastC 3) (by decide)];exact afits_any cn cd 0 V g);generalize mayA ⟨nm,3,ast,oth,(rn,rd'),(cn,cd),ex,rc,pay⟩=res at *;generalize (decide (0≤ex)&&(decide (ex≤rc)&&(decide (rc≤pay)&&decide (pay≤9999))))=vd at *;generalize (if oB 3 then assetB oth&&!(oth==ast) else oth == [])=vo at *;generalize numB (rn,rd') (rB 3) 1=vr at *;generalize numB (cn,cd) (cB 3) (leastC 3)=vc at *
 generalize isName nm=vn at *;generalize assetB ast=va at *;have ba:Below w.heap.size w (w.alloc (.cells #[.string ⟨nm.toArray⟩,.int .i64 3,.string ⟨ast.toArray⟩,.string ⟨oth.toArray⟩,.string ⟨rn.toArray⟩,.string ⟨rd'.toArray⟩,.string ⟨cn.toArray⟩,.string ⟨cd.toArray⟩,.int .i64 ex,.int .i64 rc,.int .i64 pay] 25)):=Below.alloc (Below.refl _ _) (Nat.le_refl _) _;have g0:=(HG.out.below ba).sh 12 (.string ⟨#[115,112,105,110]⟩) rfl;have g1:=(HG.out.below ba).sh 13 (.bool true) rfl;have g2:=(HG.out.below ba).sh 14 (.int .i64 1) rfl;have g3:=(HG.out.below ba).sh 15 (.int .i64 0) rfl
 clear ba;go_enter Tryz.func35,Tryz.ntmps35;go_wp2_with fail;obtain⟨W1,hW,BW1,s1,kk⟩:=layN (Below.refl w.heap.size w) #[.string ⟨nm.toArray⟩,.int .i64 3,.string ⟨ast.toArray⟩,.string ⟨oth.toArray⟩,.string ⟨rn.toArray⟩,.string ⟨rd'.toArray⟩,.string ⟨cn.toArray⟩,.string ⟨cd.toArray⟩,.int .i64 ex,.int .i64 rc,.int .i64 pay] 25;rw[hW];clear hW g0 g1 g2 g3;obtain⟨W,hW,BW2,s2,jj⟩:=layN (Below.refl W1.heap.size W1) #[.string ⟨#[115,112,105,110]⟩,.bool true,.int .i64 1,.int .i64 0] 82;rw[hW];clear hW;rw[←s1]at jj;have BW:=Below.more BW1 BW2;replace HG:=zh (HG.out.below BW);have b0:=Below.refl W.heap.size W;have k0:∀v,Below W.heap.size W v→_:=fun v hv=>kk 0 _ rfl v (Below.more BW2 hv);have k1:∀v,Below W.heap.size W v→_:=fun v hv=>kk 1 _ rfl v (Below.more BW2 hv);have k2:∀v,Below W.heap.size W v→_:=fun v hv=>kk 2 _ rfl v (Below.more BW2 hv);have k3:∀v,Below W.heap.size W v→_:=fun v hv=>kk 3 _ rfl v (Below.more BW2 hv);have k4:∀v,Below W.heap.size W v→_:=fun v hv=>kk 4 _ rfl v (Below.more BW2 hv);have k5:∀v,Below W.heap.size W v→_:=fun v hv=>kk 5 _ rfl v (Below.more BW2 hv);have k6:∀v,Below W.heap.size W v→_:=fun v hv=>kk 6 _ rfl v (Below.more BW2 hv);have k7:∀v,Below W.heap.size W v→_:=fun v hv=>kk 7 _ rfl v (Below.more BW2 hv);have k8:∀v,Below W.heap.size W v→_:=fun v hv=>kk 8 _ rfl v (Below.more BW2 hv);have k9:∀v,Below W.heap.size W v→_:=fun v hv=>kk 9 _ rfl v (Below.more BW2 hv);have k10:∀v,Below W.heap.size W v→_:=fun v hv=>kk 10 _ rfl v (Below.more BW2 hv)
 have j0:=jj 0 _ rfl;have j1:=jj 1 _ rfl;have j2:=jj 2 _ rfl;have j3:=jj 3 _ rfl
 clear kk jj s1 s2;go_wp2_with fail;refine(CN.out _).mono ?_;rintro e1 w1 ⟨rfl,b⟩;have b1:=Below.more b0 b;clear b
 cases vn with
 | false =>
  go_wp2_with fail;go_ret;exact⟨ret_bool (by rw[HE.out];simp[*]),Below.more BW b1⟩
 | true =>
 go_wp2_with fail;refine(CA.out _).mono ?_;rintro e2 w2 ⟨rfl,b⟩;have b2:=Below.more b1 b;clear b
 cases va with
 | false =>
  go_wp2_with fail;go_ret;exact⟨ret_bool (by rw[HE.out];simp[*]),Below.more BW b2⟩
 | true =>
 go_wp2_with fail;refine(CD.out _).mono ?_;rintro e3 w3 ⟨rfl,b⟩;have b3:=Below.more b2 b;clear b
 cases vd with
 | false =>
  go_wp2_with fail;go_ret;exact⟨ret_bool (by rw[HE.out];simp[*]),Below.more BW b3⟩
 | true =>
 go_wp2_with fail;refine(CO.out _).mono ?_;rintro e4 w4 ⟨rfl,b⟩;have b4:=Below.more b3 b;clear b
 cases vo with
 | false =>
  go_wp2_with fail;go_ret;exact⟨ret_bool (by rw[HE.out];simp[*]),Below.more BW b4⟩
 | true =>
 go_wp2_with fail;refine(CR.out _ (HG.out.below b4)).mono ?_;rintro e5 w5 ⟨rfl,b⟩;have b5:=Below.more b4 b;clear b
 cases vr with
 | false =>
  go_wp2_with fail;go_ret;exact⟨ret_bool (by rw[HE.out];simp[*]),Below.more BW b5⟩
 | true =>
 go_wp2_with fail;refine(CC.out _ (HG.out.below b5)).mono ?_;rintro e6 w6 ⟨rfl,b⟩;have b6:=Below.more b5 b;clear b
 cases vc<;>(
  go_wp2_with fail;go_ret;exact⟨ret_bool (by rw[HE.out];simp[*]),Below.more BW b6⟩)
theorem amay_4(nm ast oth rn rd' cn cd:List UInt8)(ex rc pay:Int)(w:World)(hg:GoodA w):Calls Tryz.prog 35 #[.agg #[.string ⟨nm.toArray⟩,.int .i64 4,.string ⟨ast.toArray⟩,.string ⟨oth.toArray⟩,.string ⟨rn.toArray⟩,.string ⟨rd'.toArray⟩,.string ⟨cn.toArray⟩,.string ⟨cd.toArray⟩,.int .i64 ex,.int .i64 rc,.int .i64 pay]] w (GiveB w (mayA ⟨nm,4,ast,oth,(rn,rd'),(cn,cd),ex,rc,pay⟩)):=by
 have HG:=zh hg;clear hg;have HE:=zh (amay_eq nm ast oth rn rd' cn cd 4 ex rc pay (by decide) (by decide));have CN:Hid (∀V,Calls Tryz.prog 41 #[.string ⟨nm.toArray⟩] V (GiveB V (isName nm))):=zh (fun V=>bname_any ⟨nm.toArray⟩ V);have CA:=zh (fun V=>ashare_any ast V);have CD:=zh (fun V=>adays_any nm ast oth rn rd' cn cd 4 ex rc pay V);have CO:Hid (∀V,Calls Tryz.prog 73 #[.agg #[.string ⟨nm.toArray⟩,.int .i64 4,.string ⟨ast.toArray⟩,.string ⟨oth.toArray⟩,.string ⟨rn.toArray⟩,.string ⟨rd'.toArray⟩,.string ⟨cn.toArray⟩,.string ⟨cd.toArray⟩,.int .i64 ex,.int .i64 rc,.int .i64 pay],.bool true] V (GiveB V (if oB 4 then assetB oth&&!(oth==ast) else oth == []))):=zh (fun V=>aother_any nm ast oth rn rd' cn cd 4 ex rc pay true V);have CR:Hid (∀V,GoodA V→Calls Tryz.prog 74 #[.agg #[.string ⟨rn.toArray⟩,.string ⟨rd'.toArray⟩],.int .i64 1] V (GiveB V (numB (rn,rd') (rB 4) 1))):=zh (fun V g=>by rw[←fits_is (rn,rd') (rB 4) 1 (.inr rfl)];exact afits_any rn rd' 1 V g);have CC:Hid (∀V,GoodA V→Calls Tryz.prog 74 #[.agg #[.string ⟨cn.toArray⟩,.string ⟨cd.toArray⟩],.int .i64 2] V (GiveB V (numB (cn,cd) (cB 4) (leastC 4)))):=zh (fun V g=>by rw[←fits_is (cn,cd) (cB 4) (leastC 4) (by decide)];exact afits_any cn cd 2 V g);generalize mayA ⟨nm,4,ast,oth,(rn,rd'),(cn,cd),ex,rc,pay⟩=res at *;generalize (decide (0≤ex)&&(decide (ex≤rc)&&(decide (rc≤pay)&&decide (pay≤9999))))=vd at *;generalize (if oB 4 then assetB oth&&!(oth==ast) else oth == [])=vo at *;generalize numB (rn,rd') (rB 4) 1=vr at *;generalize numB (cn,cd) (cB 4) (leastC 4)=vc at *
 generalize isName nm=vn at *;generalize assetB ast=va at *;have ba:Below w.heap.size w (w.alloc (.cells #[.string ⟨nm.toArray⟩,.int .i64 4,.string ⟨ast.toArray⟩,.string ⟨oth.toArray⟩,.string ⟨rn.toArray⟩,.string ⟨rd'.toArray⟩,.string ⟨cn.toArray⟩,.string ⟨cd.toArray⟩,.int .i64 ex,.int .i64 rc,.int .i64 pay] 25)):=Below.alloc (Below.refl _ _) (Nat.le_refl _) _;have g0:=(HG.out.below ba).sh 16 (.string ⟨#[109,101,114,103,101,114]⟩) rfl;have g1:=(HG.out.below ba).sh 17 (.bool true) rfl;have g2:=(HG.out.below ba).sh 18 (.int .i64 1) rfl;have g3:=(HG.out.below ba).sh 19 (.int .i64 2) rfl
 clear ba;go_enter Tryz.func35,Tryz.ntmps35;go_wp2_with fail;obtain⟨W1,hW,BW1,s1,kk⟩:=layN (Below.refl w.heap.size w) #[.string ⟨nm.toArray⟩,.int .i64 4,.string ⟨ast.toArray⟩,.string ⟨oth.toArray⟩,.string ⟨rn.toArray⟩,.string ⟨rd'.toArray⟩,.string ⟨cn.toArray⟩,.string ⟨cd.toArray⟩,.int .i64 ex,.int .i64 rc,.int .i64 pay] 25;rw[hW];clear hW g0 g1 g2 g3;obtain⟨W,hW,BW2,s2,jj⟩:=layN (Below.refl W1.heap.size W1) #[.string ⟨#[109,101,114,103,101,114]⟩,.bool true,.int .i64 1,.int .i64 2] 82;rw[hW];clear hW;rw[←s1]at jj;have BW:=Below.more BW1 BW2;replace HG:=zh (HG.out.below BW);have b0:=Below.refl W.heap.size W;have k0:∀v,Below W.heap.size W v→_:=fun v hv=>kk 0 _ rfl v (Below.more BW2 hv);have k1:∀v,Below W.heap.size W v→_:=fun v hv=>kk 1 _ rfl v (Below.more BW2 hv);have k2:∀v,Below W.heap.size W v→_:=fun v hv=>kk 2 _ rfl v (Below.more BW2 hv);have k3:∀v,Below W.heap.size W v→_:=fun v hv=>kk 3 _ rfl v (Below.more BW2 hv);have k4:∀v,Below W.heap.size W v→_:=fun v hv=>kk 4 _ rfl v (Below.more BW2 hv);have k5:∀v,Below W.heap.size W v→_:=fun v hv=>kk 5 _ rfl v (Below.more BW2 hv);have k6:∀v,Below W.heap.size W v→_:=fun v hv=>kk 6 _ rfl v (Below.more BW2 hv);have k7:∀v,Below W.heap.size W v→_:=fun v hv=>kk 7 _ rfl v (Below.more BW2 hv);have k8:∀v,Below W.heap.size W v→_:=fun v hv=>kk 8 _ rfl v (Below.more BW2 hv);have k9:∀v,Below W.heap.size W v→_:=fun v hv=>kk 9 _ rfl v (Below.more BW2 hv);have k10:∀v,Below W.heap.size W v→_:=fun v hv=>kk 10 _ rfl v (Below.more BW2 hv)
 have j0:=jj 0 _ rfl;have j1:=jj 1 _ rfl;have j2:=jj 2 _ rfl;have j3:=jj 3 _ rfl
 clear kk jj s1 s2;go_wp2_with fail;refine(CN.out _).mono ?_;rintro e1 w1 ⟨rfl,b⟩;have b1:=Below.more b0 b;clear b
 cases vn with
 | false =>
  go_wp2_with fail;go_ret;exact⟨ret_bool (by rw[HE.out];simp[*]),Below.more BW b1⟩
 | true =>
 go_wp2_with fail;refine(CA.out _).mono ?_;rintro e2 w2 ⟨rfl,b⟩;have b2:=Below.more b1 b;clear b
 cases va with
 | false =>
  go_wp2_with fail;go_ret;exact⟨ret_bool (by rw[HE.out];simp[*]),Below.more BW b2⟩
 | true =>
 go_wp2_with fail;refine(CD.out _).mono ?_;rintro e3 w3 ⟨rfl,b⟩;have b3:=Below.more b2 b;clear b
 cases vd with
 | false =>
  go_wp2_with fail;go_ret;exact⟨ret_bool (by rw[HE.out];simp[*]),Below.more BW b3⟩
 | true =>
 go_wp2_with fail;refine(CO.out _).mono ?_;rintro e4 w4 ⟨rfl,b⟩;have b4:=Below.more b3 b;clear b
 cases vo with
 | false =>
  go_wp2_with fail;go_ret;exact⟨ret_bool (by rw[HE.out];simp[*]),Below.more BW b4⟩
 | true =>
 go_wp2_with fail;refine(CR.out _ (HG.out.below b4)).mono ?_;rintro e5 w5 ⟨rfl,b⟩;have b5:=Below.more b4 b;clear b
 cases vr with
 | false =>
  go_wp2_with fail;go_ret;exact⟨ret_bool (by rw[HE.out];simp[*]),Below.more BW b5⟩
 | true =>
 go_wp2_with fail;refine(CC.out _ (HG.out.below b5)).mono ?_;rintro e6 w6 ⟨rfl,b⟩;have b6:=Below.more b5 b;clear b
 cases vc<;>(
  go_wp2_with fail;go_ret;exact⟨ret_bool (by rw[HE.out];simp[*]),Below.more BW b6⟩)
theorem amay_x(nm ast oth rn rd' cn cd:List UInt8)(k ex rc pay:Int)(w:World)(hg:GoodA w):Calls Tryz.prog 35 #[.agg #[.string ⟨nm.toArray⟩,.int .i64 k,.string ⟨ast.toArray⟩,.string ⟨oth.toArray⟩,.string ⟨rn.toArray⟩,.string ⟨rd'.toArray⟩,.string ⟨cn.toArray⟩,.string ⟨cd.toArray⟩,.int .i64 ex,.int .i64 rc,.int .i64 pay]] w (GiveB w (mayA ⟨nm,k,ast,oth,(rn,rd'),(cn,cd),ex,rc,pay⟩)):=by
 by_cases hk:0≤k∧k≤4
 ·rcases(show k=0∨k=1∨k=2∨k=3∨k=4 by omega) with rfl|rfl|rfl|rfl|rfl
  ·exact amay_0 nm ast oth rn rd' cn cd ex rc pay w hg
  ·exact amay_1 nm ast oth rn rd' cn cd ex rc pay w hg
  ·exact amay_2 nm ast oth rn rd' cn cd ex rc pay w hg
  ·exact amay_3 nm ast oth rn rd' cn cd ex rc pay w hg
  ·exact amay_4 nm ast oth rn rd' cn cd ex rc pay w hg
 ·have HE:Hid (mayA ⟨nm,k,ast,oth,(rn,rd'),(cn,cd),ex,rc,pay⟩=false):=zh (Ac.kinds_no (k:=k) (by omega) _ rfl);clear hg;rcases(show k<0∨¬k<0∧5≤k by omega) with c|⟨c,c'⟩<;>(
  clear hk;go_enter Tryz.func35,Tryz.ntmps35;go_wp2_with fail;obtain⟨W,hW,BW,_,kk⟩:=layN (Below.refl w.heap.size w) #[.string ⟨nm.toArray⟩,.int .i64 k,.string ⟨ast.toArray⟩,.string ⟨oth.toArray⟩,.string ⟨rn.toArray⟩,.string ⟨rd'.toArray⟩,.string ⟨cn.toArray⟩,.string ⟨cd.toArray⟩,.int .i64 ex,.int .i64 rc,.int .i64 pay] 25;rw[hW];clear hW;have b0:=Below.refl W.heap.size W;have k0:=kk 0 _ rfl;have k1:=kk 1 _ rfl;have k2:=kk 2 _ rfl;have k3:=kk 3 _ rfl;have k4:=kk 4 _ rfl;have k5:=kk 5 _ rfl;have k6:=kk 6 _ rfl;have k7:=kk 7 _ rfl;have k8:=kk 8 _ rfl;have k9:=kk 9 _ rfl;have k10:=kk 10 _ rfl
  clear kk;go_wp2_with fail;go_ret;exact⟨ret_bool (by rw[HE.out]),Below.more BW b0⟩)
theorem amay_any(a:Actn)(w:World)(hg:GoodA w):Calls Tryz.prog 35 #[.agg #[.string ⟨a.nm.toArray⟩,.int .i64 a.kind,.string ⟨a.ast.toArray⟩,.string ⟨a.oth.toArray⟩,.string ⟨a.ratio.1.toArray⟩,.string ⟨a.ratio.2.toArray⟩,.string ⟨a.cash.1.toArray⟩,.string ⟨a.cash.2.toArray⟩,.int .i64 a.ex,.int .i64 a.rc,.int .i64 a.pay]] w (GiveB w (mayA a)) :=
 amay_x a.nm a.ast a.oth a.ratio.1 a.ratio.2 a.cash.1 a.cash.2 a.kind a.ex a.rc a.pay w hg
end Go.Proofs.YthgopcnagecbaaaGreatDoor
