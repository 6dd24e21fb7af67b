/- Own work. -/
import Derived.Test.YtcebkcilkhebeaaGreatDoorAllAc2
import Derived.Test.YtcebkcilkhebeaaGreatDoorAllRefA2M
set_option linter.unusedSimpArgs false
set_option linter.unusedVariables false
set_option maxHeartbeats 4000000
set_option maxRecDepth 100000
namespace Go.Proofs.YtcebkcilkhebeaaGreatDoor
open Go.RowKit
open Ac (oB rB cB assetB wordK mayA Actn moreA wordsA printA joinW)
theorem join_is:∀l:List (List UInt8),Lib.join l [32]=joinW l
 | []=>rfl
 | [w]=>Lib.join_one w _
 | w::v::r=>by
  rw[Lib.join_cons];show w++Lib.joinTail [32] (v::r)=w++32::joinW (v::r);rw[←join_is (v::r),Lib.join_cons];unfold Lib.joinTail;simp
theorem ownG_made{B:Nat}(w:World)(l:List (List UInt8))(cs:Array Value)(hc:cs.toList=l.flatMap encW)(hl:l.length≤1000)(h:B≤w.heap.size):OwnTx B (w.alloc (.cells cs 9)) (.slice (some ⟨w.heap.size,0,none⟩) l.length l.length) l:=by
 have hf:=flat_len (enc:=encW) (k:=1) (fun _=>rfl) l;have hs:cs.size=l.length:=by rw[←Array.length_toList,hc,hf,Nat.mul_one]
 refine⟨hf,.inr ⟨w.heap.size,l.length,cs,rfl,h,heap_alloc_new w _,Nat.le_refl _,by unfold maxLen;omega,by rw[hs,Nat.mul_one],?_⟩⟩;rw[hc,Nat.mul_one];exact List.take_of_length_le (by rw[hf,Nat.mul_one];exact Nat.le_refl _)
theorem joinC{q:Option Addr}{c:Nat}{ls:List (List UInt8)}{x:List UInt8}{r:List (List UInt8)}(he:ls=x::r)(hc:ls.length≤c)(h1:ls.length≤1000)(h2:(joinW ls).length≤100000)(V:World)(h:Txs V q ls):Calls Tryz.prog 38 #[.slice q ls.length c,.string ⟨#[32]⟩] V (GiveS V (joinW ls)):=by
 obtain⟨b,o,rfl,hr⟩:=tx_rule h (k:=0) (x:=x) (by rw[he];rfl);have hm:((ls.map fun u=>(⟨u.toArray⟩:ByteArray)).map (·.data.toList))=ls:=by
  rw[List.map_map];exact(List.map_congr_left fun u _=>rfl).trans (List.map_id ls)
 have hj:Lib.join ls (⟨#[32]⟩:ByteArray).data.toList=joinW ls:=join_is ls;have k:=Tryz.strings_Join b o c (ls.map fun u=>(⟨u.toArray⟩:ByteArray)) ⟨#[32]⟩ V (fun j y hy=>by
  rw[List.getElem?_map]at hy
  cases e:ls[j]? with
  | none=>rw[e]at hy;cases hy
  | some u =>
   rw[e]at hy;obtain rfl:=Option.some.inj hy;obtain⟨b',o',e2,hr2⟩:=tx_rule h e
   cases e2
   exact hr2 V (Below.refl _ _)) (World.block_lt_of_cell? _ _ (hr V (Below.refl _ _))) (by rw[List.length_map];omega) (by rw[List.length_map];exact hc) (by rw[hm,hj];omega)
 rw[hm,hj,List.length_map]at k;exact k
theorem aprint_0(nm ast oth rn rd' cn cd:List UInt8)(ex rc pay:Int)(w:World)(hg:GoodA w)(hm:mayA ⟨nm,0,ast,oth,(rn,rd'),(cn,cd),ex,rc,pay⟩=true):Calls Tryz.prog 13 #[.agg #[.string ⟨nm.toArray⟩,.int .i64 0,.string ⟨ast.toArray⟩,.string ⟨oth.toArray⟩,.string ⟨rn.toArray⟩,.string ⟨rd'.toArray⟩,.string ⟨cn.toArray⟩,.string ⟨cd.toArray⟩,.int .i64 ex,.int .i64 rc,.int .i64 pay]] w (GiveS w (printA ⟨nm,0,ast,oth,(rn,rd'),(cn,cd),ex,rc,pay⟩)):=by
 obtain⟨p1,p2,⟨p3,p4⟩,⟨p5,p6,p7,p8⟩,p9,p10,p11⟩:=mayA_parts hm;dsimp only at p1 p2 p3 p4 p5 p6 p7 p8 p9 p10 p11;have HG:=zh hg;clear hg;have CM:=zh (fun V g=>amay_0 nm ast oth rn rd' cn cd ex rc pay V g);rw[hm]at CM;have HE:Hid (printA ⟨nm,0,ast,oth,(rn,rd'),(cn,cd),ex,rc,pay⟩=joinW ([[115,112,108,105,116],nm,ast,dig ex.toNat,dig rc.toNat,dig pay.toNat]++[prS (rn,rd')])):=zh (by
  unfold printA;rw[if_pos hm];unfold wordsA moreA;rw[wd_dig p5,wd_dig (k:=rc) (by omega),wd_dig (k:=pay) (by omega)];rfl)
 have CX:Hid (∀V,GoodT V→Calls Tryz.prog 36 #[.int .i64 ex] V (GiveS V (dig ex.toNat))):=zh (fun V g=>by have c:=of_any ex V (by omega) (by omega) g;unfold ofS at c;rw[if_neg (by omega)]at c;exact c);have CY:Hid (∀V,GoodT V→Calls Tryz.prog 36 #[.int .i64 rc] V (GiveS V (dig rc.toNat))):=zh (fun V g=>by have c:=of_any rc V (by omega) (by omega) g;unfold ofS at c;rw[if_neg (by omega)]at c;exact c);have CZ:Hid (∀V,GoodT V→Calls Tryz.prog 36 #[.int .i64 pay] V (GiveS V (dig pay.toNat))):=zh (fun V g=>by have c:=of_any pay V (by omega) (by omega) g;unfold ofS at c;rw[if_neg (by omega)]at c;exact c);have l1:=acname_len p1;have l2:ast.length≤20:=acname_len (by unfold assetB at p2;simp only[Bool.and_eq_true]at p2;exact p2.1);have l4:=dig_9999 p5 (show ex≤9999 by omega);have l5:=dig_9999 (show 0≤rc by omega) (show rc≤9999 by omega);have l6:=dig_9999 (show 0≤pay by omega) p8;obtain⟨y1,y2,y3⟩:=numB_len p10 rfl;dsimp only at y2 y3;have l8:=Ac.prS_len y1 y2 y3;have CR:Hid (∀V,GoodD V→Calls Tryz.prog 37 #[.agg #[.string ⟨rn.toArray⟩,.string ⟨rd'.toArray⟩]] V (GiveS V (prS (rn,rd')))):=zh (fun V g=>print_any ⟨rn.toArray⟩ ⟨rd'.toArray⟩ V (by rw[size_of];omega) (by rw[size_of];omega) g);clear y1 y2 y3;generalize prS (rn,rd')=tr at *;generalize prS (cn,cd)=tc at *;generalize dig ex.toNat=tx at *;generalize dig rc.toNat=ty at *;generalize dig pay.toNat=tz at *;generalize printA ⟨nm,0,ast,oth,(rn,rd'),(cn,cd),ex,rc,pay⟩=res at *;have HL:Hid ((joinW ([[115,112,108,105,116],nm,ast,tx,ty,tz]++[tr])).length≤100000):=zh (by simp[joinW];omega)
 clear hm p1 p2 p3 p4 p5 p6 p7 p8 p9 p10 p11 l1 l2 l4 l5 l6;go_enter Tryz.func13,Tryz.ntmps13;go_wp2_with fail;obtain⟨W,hW,BW,_,kk⟩:=layN (Below.refl w.heap.size w) #[.string ⟨nm.toArray⟩,.int .i64 0,.string ⟨ast.toArray⟩,.string ⟨oth.toArray⟩,.string ⟨rn.toArray⟩,.string ⟨rd'.toArray⟩,.string ⟨cn.toArray⟩,.string ⟨cd.toArray⟩,.int .i64 ex,.int .i64 rc,.int .i64 pay] 25;rw[hW];clear hW;have b0:=Below.refl W.heap.size W;have k0:=kk 0 _ rfl;have k1:=kk 1 _ rfl;have k2:=kk 2 _ rfl;have k3:=kk 3 _ rfl;have k4:=kk 4 _ rfl;have k5:=kk 5 _ rfl;have k6:=kk 6 _ rfl;have k7:=kk 7 _ rfl;have k8:=kk 8 _ rfl;have k9:=kk 9 _ rfl;have k10:=kk 10 _ rfl
 have KK:=zh kk;clear kk;replace HG:=zh (HG.out.below BW);go_wp2_with fail;refine(CM.out _ HG.out).mono ?_;rintro e1 w1 ⟨rfl,b1⟩;have g0:=(HG.out.below b1).sh 0 (.string ⟨#[115,112,108,105,116]⟩) rfl;have g1:=(HG.out.below b1).sh 1 (.bool false) rfl;have g2:=(HG.out.below b1).sh 2 (.int .i64 1) rfl;have g3:=(HG.out.below b1).sh 3 (.int .i64 0) rfl
 go_wp2_with fail;obtain⟨U,hW,BU,s2,jj⟩:=layN b1 #[.string ⟨#[115,112,108,105,116]⟩,.bool false,.int .i64 1,.int .i64 0] 44;rw[hW];clear hW b0 b1 s2 k0 k1 k2 k3 k4 k5 k6 k7 k8 k9 k10 g0 g1 g2 g3;replace HG:=zh (HG.out.below BU);replace BW:=Below.more BW BU;have k0:∀v,Below U.heap.size U v→_:=fun v hv=>KK.out 0 _ rfl v (Below.more BU hv);have k1:∀v,Below U.heap.size U v→_:=fun v hv=>KK.out 1 _ rfl v (Below.more BU hv);have k2:∀v,Below U.heap.size U v→_:=fun v hv=>KK.out 2 _ rfl v (Below.more BU hv);have k3:∀v,Below U.heap.size U v→_:=fun v hv=>KK.out 3 _ rfl v (Below.more BU hv);have k4:∀v,Below U.heap.size U v→_:=fun v hv=>KK.out 4 _ rfl v (Below.more BU hv);have k5:∀v,Below U.heap.size U v→_:=fun v hv=>KK.out 5 _ rfl v (Below.more BU hv);have k6:∀v,Below U.heap.size U v→_:=fun v hv=>KK.out 6 _ rfl v (Below.more BU hv);have k7:∀v,Below U.heap.size U v→_:=fun v hv=>KK.out 7 _ rfl v (Below.more BU hv);have k8:∀v,Below U.heap.size U v→_:=fun v hv=>KK.out 8 _ rfl v (Below.more BU hv);have k9:∀v,Below U.heap.size U v→_:=fun v hv=>KK.out 9 _ rfl v (Below.more BU hv);have k10:∀v,Below U.heap.size U v→_:=fun v hv=>KK.out 10 _ rfl v (Below.more BU hv)
 have j0:=jj 0 _ rfl;have j1:=jj 1 _ rfl;have j2:=jj 2 _ rfl;have j3:=jj 3 _ rfl
 clear KK jj BU;have b0:=Below.refl U.heap.size U;have hB:=zh (Nat.le_refl U.heap.size);go_wp2_with fail;refine wp_region_noPanic ?_;refine wp_region_held_drew (S:=fun w'=>Below U.heap.size U w') (by kernel_rfl) (b0.drew) (fun hH0=>?_);refine sch_in [0,1,2,3,4,5,6,7,9,10,12,13] ?_
 iterate 12 (refine sch_yes (v:=?_) rfl (by kernel_rfl) (by rfl) ?_ (by assumption) ?_;rotate_left 1;(· (intro w hSw;(try dsimp only at hSw);go_simp<;>(with_reducible rfl)));try simp only[Act.put,qA,qB,qC,qD,qE,qF])
 refine sch_out ?_;refine wpAnyH_ready (rs:=[8]) (by kernel_rfl) (by simp) ?_;refine AllReadyH.cons rfl (fun K hK=>?_) AllReadyH.nil
 go_simp
 refine(held (W:=U) hB.out (CX.out _ (HG.out.tab.below hH0)) hH0).mono ?_;rintro e x1 ⟨rfl,hb,hw⟩
 (try go_wp2_with fail)
 refine hK.out _ _ hw (fun hH1=>?_);clear hK hH0 hb hw
 try simp only[Act.put,qA,qB,qC,qD,qE,qF]
 refine wpAnyH_ready (rs:=[11]) (by kernel_rfl) (by simp) ?_;refine AllReadyH.cons rfl (fun K hK=>?_) AllReadyH.nil
 go_simp
 refine(held (W:=U) hB.out (CY.out _ (HG.out.tab.below hH1)) hH1).mono ?_;rintro e x2 ⟨rfl,hb,hw⟩
 (try go_wp2_with fail)
 refine hK.out _ _ hw (fun hH2=>?_);clear hK hH1 hb hw
 try simp only[Act.put,qA,qB,qC,qD,qE,qF]
 refine wpAnyH_ready (rs:=[14]) (by kernel_rfl) (by simp) ?_;refine AllReadyH.cons rfl (fun K hK=>?_) AllReadyH.nil
 go_simp
 refine(held (W:=U) hB.out (CZ.out _ (HG.out.tab.below hH2)) hH2).mono ?_;rintro e x3 ⟨rfl,hb,hw⟩
 (try go_wp2_with fail)
 refine hK.out _ _ hw (fun hH3=>?_);clear hK hH2 hb hw
 try simp only[Act.put,qA,qB,qC,qD,qE,qF]
 refine wpAnyH_ready (rs:=[15]) (by kernel_rfl) (by simp) ?_;refine AllReadyH.cons rfl (fun K hK=>?_) AllReadyH.nil
 go_simp
 have HO:Hid (OwnTx U.heap.size (x3.alloc (.cells _ 9)) (.slice (some ⟨x3.heap.size,0,none⟩) 6 6) [[115,112,108,105,116],nm,ast,tx,ty,tz]):=zh (ownG_made x3 [[115,112,108,105,116],nm,ast,tx,ty,tz] #[.string ⟨#[115,112,108,105,116]⟩,.string ⟨nm.toArray⟩,.string ⟨ast.toArray⟩,.string ⟨tx.toArray⟩,.string ⟨ty.toArray⟩,.string ⟨tz.toArray⟩] rfl (by simp) hH3.size);refine hK.out _ _ (Below.alloc hH3 hH3.size _) (fun hV=>?_);clear hK;generalize x3.alloc (.cells _ 9)=V at *;generalize (Value.slice (some ⟨x3.heap.size,0,none⟩) 6 6)=v0 at *;clear hH3
 try simp only[Act.put,qA,qB,qC,qD,qE,qF]
 refine sch_in [16] ?_
 iterate 1 (refine sch_yes (v:=?_) rfl (by kernel_rfl) (by rfl) ?_ (by assumption) ?_;rotate_left 1;(· (intro w hSw;(try dsimp only at hSw);go_simp<;>(with_reducible rfl)));try simp only[Act.put,qA,qB,qC,qD,qE,qF])
 refine sch_out ?_;refine wpAnyH_done (by kernel_rfl) ?_ _;refine NoPanic.normal ?_;have HV:=zh hV;clear b0;go_wp2_with fail;refine(CR.out _ (HG.out.dec.below hV)).mono ?_;rintro e9 V ⟨rfl,b9⟩;replace HO:=zh (ownG_below HO.out b9);replace HV:=zh (Below.more HV.out b9);clear b9 hV;have hV:=HV.out;go_wp2_with (at_builtin;refine haltG ?_);show wpList _ _ _ _ _ _;refine wpList_append_G rfl _ _ 39 9 rfl Tryz.underlying39 txInfo rfl (by decide) (by decide) (fun _=>rfl) encW_one U.heap.size _ _ rfl (World.ownsRow.alloc HO.out _) ⟨V.heap.size,0,none⟩ (tr) 1 rfl (rowsOne (enc:=encW) (k:=1) V (tr) 9 _ (by rfl)) (by simp) (Below.size (Below.alloc HV.out (Below.size HV.out) _)) ?_;intro v3 w3 ho hg hloc;replace HV:Hid (Below U.heap.size U w3):=zh (Below.grown (Below.alloc HV.out (Below.size HV.out) _) hg (Below.size (Below.alloc HV.out (Below.size HV.out) _)) fun j hj=>(World.ownsRow.lt HO.out j hj).1);replace HO:Hid (OwnTx U.heap.size w3 v3 _):=zh ho;clear ho hg hloc hV
 try clear V
 have hV:=HV.out
 go_frame
 obtain⟨q3,c3,e3,hc3,hr3,_⟩:=ownG_rows (enc:=encW) (k:=1) (fun _=>rfl) HO.out;subst e3;have CJ:=zh (joinC rfl hc3 (by simp) (by exact HL.out) _ hr3);clear hr3 hc3 HO;go_wp2_with fail;refine CJ.out.mono ?_;rintro e8 w8 ⟨rfl,b8⟩;go_wp2_with fail;go_ret;exact⟨by rw[HE.out];rfl,Below.more BW (Below.more HV.out b8)⟩
theorem aprint_1(nm ast oth rn rd' cn cd:List UInt8)(ex rc pay:Int)(w:World)(hg:GoodA w)(hm:mayA ⟨nm,1,ast,oth,(rn,rd'),(cn,cd),ex,rc,pay⟩=true):Calls Tryz.prog 13 #[.agg #[.string ⟨nm.toArray⟩,.int .i64 1,.string ⟨ast.toArray⟩,.string ⟨oth.toArray⟩,.string ⟨rn.toArray⟩,.string ⟨rd'.toArray⟩,.string ⟨cn.toArray⟩,.string ⟨cd.toArray⟩,.int .i64 ex,.int .i64 rc,.int .i64 pay]] w (GiveS w (printA ⟨nm,1,ast,oth,(rn,rd'),(cn,cd),ex,rc,pay⟩)):=by
 obtain⟨p1,p2,⟨p3,p4⟩,⟨p5,p6,p7,p8⟩,p9,p10,p11⟩:=mayA_parts hm;dsimp only at p1 p2 p3 p4 p5 p6 p7 p8 p9 p10 p11;have HG:=zh hg;clear hg;have CM:=zh (fun V g=>amay_1 nm ast oth rn rd' cn cd ex rc pay V g);rw[hm]at CM;have HE:Hid (printA ⟨nm,1,ast,oth,(rn,rd'),(cn,cd),ex,rc,pay⟩=joinW ([[115,116,111,99,107],nm,ast,dig ex.toNat,dig rc.toNat,dig pay.toNat]++[prS (rn,rd')])):=zh (by
  unfold printA;rw[if_pos hm];unfold wordsA moreA;rw[wd_dig p5,wd_dig (k:=rc) (by omega),wd_dig (k:=pay) (by omega)];rfl)
 have CX:Hid (∀V,GoodT V→Calls Tryz.prog 36 #[.int .i64 ex] V (GiveS V (dig ex.toNat))):=zh (fun V g=>by have c:=of_any ex V (by omega) (by omega) g;unfold ofS at c;rw[if_neg (by omega)]at c;exact c);have CY:Hid (∀V,GoodT V→Calls Tryz.prog 36 #[.int .i64 rc] V (GiveS V (dig rc.toNat))):=zh (fun V g=>by have c:=of_any rc V (by omega) (by omega) g;unfold ofS at c;rw[if_neg (by omega)]at c;exact c);have CZ:Hid (∀V,GoodT V→Calls Tryz.prog 36 #[.int .i64 pay] V (GiveS V (dig pay.toNat))):=zh (fun V g=>by have c:=of_any pay V (by omega) (by omega) g;unfold ofS at c;rw[if_neg (by omega)]at c;exact c);have l1:=acname_len p1;have l2:ast.length≤20:=acname_len (by unfold assetB at p2;simp only[Bool.and_eq_true]at p2;exact p2.1);have l4:=dig_9999 p5 (show ex≤9999 by omega);have l5:=dig_9999 (show 0≤rc by omega) (show rc≤9999 by omega);have l6:=dig_9999 (show 0≤pay by omega) p8;obtain⟨y1,y2,y3⟩:=numB_len p10 rfl;dsimp only at y2 y3;have l8:=Ac.prS_len y1 y2 y3;have CR:Hid (∀V,GoodD V→Calls Tryz.prog 37 #[.agg #[.string ⟨rn.toArray⟩,.string ⟨rd'.toArray⟩]] V (GiveS V (prS (rn,rd')))):=zh (fun V g=>print_any ⟨rn.toArray⟩ ⟨rd'.toArray⟩ V (by rw[size_of];omega) (by rw[size_of];omega) g);clear y1 y2 y3;generalize prS (rn,rd')=tr at *;generalize prS (cn,cd)=tc at *;generalize dig ex.toNat=tx at *;generalize dig rc.toNat=ty at *;generalize dig pay.toNat=tz at *;generalize printA ⟨nm,1,ast,oth,(rn,rd'),(cn,cd),ex,rc,pay⟩=res at *;have HL:Hid ((joinW ([[115,116,111,99,107],nm,ast,tx,ty,tz]++[tr])).length≤100000):=zh (by simp[joinW];omega)
 clear hm p1 p2 p3 p4 p5 p6 p7 p8 p9 p10 p11 l1 l2 l4 l5 l6;go_enter Tryz.func13,Tryz.ntmps13;go_wp2_with fail;obtain⟨W,hW,BW,_,kk⟩:=layN (Below.refl w.heap.size w) #[.string ⟨nm.toArray⟩,.int .i64 1,.string ⟨ast.toArray⟩,.string ⟨oth.toArray⟩,.string ⟨rn.toArray⟩,.string ⟨rd'.toArray⟩,.string ⟨cn.toArray⟩,.string ⟨cd.toArray⟩,.int .i64 ex,.int .i64 rc,.int .i64 pay] 25;rw[hW];clear hW;have b0:=Below.refl W.heap.size W;have k0:=kk 0 _ rfl;have k1:=kk 1 _ rfl;have k2:=kk 2 _ rfl;have k3:=kk 3 _ rfl;have k4:=kk 4 _ rfl;have k5:=kk 5 _ rfl;have k6:=kk 6 _ rfl;have k7:=kk 7 _ rfl;have k8:=kk 8 _ rfl;have k9:=kk 9 _ rfl;have k10:=kk 10 _ rfl
 have KK:=zh kk;clear kk;replace HG:=zh (HG.out.below BW);go_wp2_with fail;refine(CM.out _ HG.out).mono ?_;rintro e1 w1 ⟨rfl,b1⟩;have g0:=(HG.out.below b1).sh 4 (.string ⟨#[115,116,111,99,107]⟩) rfl;have g1:=(HG.out.below b1).sh 5 (.bool false) rfl;have g2:=(HG.out.below b1).sh 6 (.int .i64 1) rfl;have g3:=(HG.out.below b1).sh 7 (.int .i64 0) rfl
 go_wp2_with fail;obtain⟨U,hW,BU,s2,jj⟩:=layN b1 #[.string ⟨#[115,116,111,99,107]⟩,.bool false,.int .i64 1,.int .i64 0] 44;rw[hW];clear hW b0 b1 s2 k0 k1 k2 k3 k4 k5 k6 k7 k8 k9 k10 g0 g1 g2 g3;replace HG:=zh (HG.out.below BU);replace BW:=Below.more BW BU;have k0:∀v,Below U.heap.size U v→_:=fun v hv=>KK.out 0 _ rfl v (Below.more BU hv);have k1:∀v,Below U.heap.size U v→_:=fun v hv=>KK.out 1 _ rfl v (Below.more BU hv);have k2:∀v,Below U.heap.size U v→_:=fun v hv=>KK.out 2 _ rfl v (Below.more BU hv);have k3:∀v,Below U.heap.size U v→_:=fun v hv=>KK.out 3 _ rfl v (Below.more BU hv);have k4:∀v,Below U.heap.size U v→_:=fun v hv=>KK.out 4 _ rfl v (Below.more BU hv);have k5:∀v,Below U.heap.size U v→_:=fun v hv=>KK.out 5 _ rfl v (Below.more BU hv);have k6:∀v,Below U.heap.size U v→_:=fun v hv=>KK.out 6 _ rfl v (Below.more BU hv);have k7:∀v,Below U.heap.size U v→_:=fun v hv=>KK.out 7 _ rfl v (Below.more BU hv);have k8:∀v,Below U.heap.size U v→_:=fun v hv=>KK.out 8 _ rfl v (Below.more BU hv);have k9:∀v,Below U.heap.size U v→_:=fun v hv=>KK.out 9 _ rfl v (Below.more BU hv);have k10:∀v,Below U.heap.size U v→_:=fun v hv=>KK.out 10 _ rfl v (Below.more BU hv)
 have j0:=jj 0 _ rfl;have j1:=jj 1 _ rfl;have j2:=jj 2 _ rfl;have j3:=jj 3 _ rfl
 clear KK jj BU;have b0:=Below.refl U.heap.size U;have hB:=zh (Nat.le_refl U.heap.size);go_wp2_with fail;refine wp_region_noPanic ?_;refine wp_region_held_drew (S:=fun w'=>Below U.heap.size U w') (by kernel_rfl) (b0.drew) (fun hH0=>?_);refine sch_in [0,1,2,3,4,5,6,7,9,10,12,13] ?_
 iterate 12 (refine sch_yes (v:=?_) rfl (by kernel_rfl) (by rfl) ?_ (by assumption) ?_;rotate_left 1;(· (intro w hSw;(try dsimp only at hSw);go_simp<;>(with_reducible rfl)));try simp only[Act.put,qA,qB,qC,qD,qE,qF])
 refine sch_out ?_;refine wpAnyH_ready (rs:=[8]) (by kernel_rfl) (by simp) ?_;refine AllReadyH.cons rfl (fun K hK=>?_) AllReadyH.nil
 go_simp
 refine(held (W:=U) hB.out (CX.out _ (HG.out.tab.below hH0)) hH0).mono ?_;rintro e x1 ⟨rfl,hb,hw⟩
 (try go_wp2_with fail)
 refine hK.out _ _ hw (fun hH1=>?_);clear hK hH0 hb hw
 try simp only[Act.put,qA,qB,qC,qD,qE,qF]
 refine wpAnyH_ready (rs:=[11]) (by kernel_rfl) (by simp) ?_;refine AllReadyH.cons rfl (fun K hK=>?_) AllReadyH.nil
 go_simp
 refine(held (W:=U) hB.out (CY.out _ (HG.out.tab.below hH1)) hH1).mono ?_;rintro e x2 ⟨rfl,hb,hw⟩
 (try go_wp2_with fail)
 refine hK.out _ _ hw (fun hH2=>?_);clear hK hH1 hb hw
 try simp only[Act.put,qA,qB,qC,qD,qE,qF]
 refine wpAnyH_ready (rs:=[14]) (by kernel_rfl) (by simp) ?_;refine AllReadyH.cons rfl (fun K hK=>?_) AllReadyH.nil
 go_simp
 refine(held (W:=U) hB.out (CZ.out _ (HG.out.tab.below hH2)) hH2).mono ?_;rintro e x3 ⟨rfl,hb,hw⟩
 (try go_wp2_with fail)
 refine hK.out _ _ hw (fun hH3=>?_);clear hK hH2 hb hw
 try simp only[Act.put,qA,qB,qC,qD,qE,qF]
 refine wpAnyH_ready (rs:=[15]) (by kernel_rfl) (by simp) ?_;refine AllReadyH.cons rfl (fun K hK=>?_) AllReadyH.nil
 go_simp
 have HO:Hid (OwnTx U.heap.size (x3.alloc (.cells _ 9)) (.slice (some ⟨x3.heap.size,0,none⟩) 6 6) [[115,116,111,99,107],nm,ast,tx,ty,tz]):=zh (ownG_made x3 [[115,116,111,99,107],nm,ast,tx,ty,tz] #[.string ⟨#[115,116,111,99,107]⟩,.string ⟨nm.toArray⟩,.string ⟨ast.toArray⟩,.string ⟨tx.toArray⟩,.string ⟨ty.toArray⟩,.string ⟨tz.toArray⟩] rfl (by simp) hH3.size);refine hK.out _ _ (Below.alloc hH3 hH3.size _) (fun hV=>?_);clear hK;generalize x3.alloc (.cells _ 9)=V at *;generalize (Value.slice (some ⟨x3.heap.size,0,none⟩) 6 6)=v0 at *;clear hH3
 try simp only[Act.put,qA,qB,qC,qD,qE,qF]
 refine sch_in [16] ?_
 iterate 1 (refine sch_yes (v:=?_) rfl (by kernel_rfl) (by rfl) ?_ (by assumption) ?_;rotate_left 1;(· (intro w hSw;(try dsimp only at hSw);go_simp<;>(with_reducible rfl)));try simp only[Act.put,qA,qB,qC,qD,qE,qF])
 refine sch_out ?_;refine wpAnyH_done (by kernel_rfl) ?_ _;refine NoPanic.normal ?_;have HV:=zh hV;clear b0;go_wp2_with fail;refine(CR.out _ (HG.out.dec.below hV)).mono ?_;rintro e9 V ⟨rfl,b9⟩;replace HO:=zh (ownG_below HO.out b9);replace HV:=zh (Below.more HV.out b9);clear b9 hV;have hV:=HV.out;go_wp2_with (at_builtin;refine haltG ?_);show wpList _ _ _ _ _ _;refine wpList_append_G rfl _ _ 39 9 rfl Tryz.underlying39 txInfo rfl (by decide) (by decide) (fun _=>rfl) encW_one U.heap.size _ _ rfl (World.ownsRow.alloc HO.out _) ⟨V.heap.size,0,none⟩ (tr) 1 rfl (rowsOne (enc:=encW) (k:=1) V (tr) 9 _ (by rfl)) (by simp) (Below.size (Below.alloc HV.out (Below.size HV.out) _)) ?_;intro v3 w3 ho hg hloc;replace HV:Hid (Below U.heap.size U w3):=zh (Below.grown (Below.alloc HV.out (Below.size HV.out) _) hg (Below.size (Below.alloc HV.out (Below.size HV.out) _)) fun j hj=>(World.ownsRow.lt HO.out j hj).1);replace HO:Hid (OwnTx U.heap.size w3 v3 _):=zh ho;clear ho hg hloc hV
 try clear V
 have hV:=HV.out
 go_frame
 obtain⟨q3,c3,e3,hc3,hr3,_⟩:=ownG_rows (enc:=encW) (k:=1) (fun _=>rfl) HO.out;subst e3;have CJ:=zh (joinC rfl hc3 (by simp) (by exact HL.out) _ hr3);clear hr3 hc3 HO;go_wp2_with fail;refine CJ.out.mono ?_;rintro e8 w8 ⟨rfl,b8⟩;go_wp2_with fail;go_ret;exact⟨by rw[HE.out];rfl,Below.more BW (Below.more HV.out b8)⟩
theorem aprint_2(nm ast oth rn rd' cn cd:List UInt8)(ex rc pay:Int)(w:World)(hg:GoodA w)(hm:mayA ⟨nm,2,ast,oth,(rn,rd'),(cn,cd),ex,rc,pay⟩=true):Calls Tryz.prog 13 #[.agg #[.string ⟨nm.toArray⟩,.int .i64 2,.string ⟨ast.toArray⟩,.string ⟨oth.toArray⟩,.string ⟨rn.toArray⟩,.string ⟨rd'.toArray⟩,.string ⟨cn.toArray⟩,.string ⟨cd.toArray⟩,.int .i64 ex,.int .i64 rc,.int .i64 pay]] w (GiveS w (printA ⟨nm,2,ast,oth,(rn,rd'),(cn,cd),ex,rc,pay⟩)):=by
 obtain⟨p1,p2,⟨p3,p4⟩,⟨p5,p6,p7,p8⟩,p9,p10,p11⟩:=mayA_parts hm;dsimp only at p1 p2 p3 p4 p5 p6 p7 p8 p9 p10 p11;have HG:=zh hg;clear hg;have CM:=zh (fun V g=>amay_2 nm ast oth rn rd' cn cd ex rc pay V g);rw[hm]at CM;have HE:Hid (printA ⟨nm,2,ast,oth,(rn,rd'),(cn,cd),ex,rc,pay⟩=joinW ([[99,97,115,104],nm,ast,dig ex.toNat,dig rc.toNat,dig pay.toNat]++[prS (cn,cd)])):=zh (by
  unfold printA;rw[if_pos hm];unfold wordsA moreA;rw[wd_dig p5,wd_dig (k:=rc) (by omega),wd_dig (k:=pay) (by omega)];rfl)
 have CX:Hid (∀V,GoodT V→Calls Tryz.prog 36 #[.int .i64 ex] V (GiveS V (dig ex.toNat))):=zh (fun V g=>by have c:=of_any ex V (by omega) (by omega) g;unfold ofS at c;rw[if_neg (by omega)]at c;exact c);have CY:Hid (∀V,GoodT V→Calls Tryz.prog 36 #[.int .i64 rc] V (GiveS V (dig rc.toNat))):=zh (fun V g=>by have c:=of_any rc V (by omega) (by omega) g;unfold ofS at c;rw[if_neg (by omega)]at c;exact c);have CZ:Hid (∀V,GoodT V→Calls Tryz.prog 36 #[.int .i64 pay] V (GiveS V (dig pay.toNat))):=zh (fun V g=>by have c:=of_any pay V (by omega) (by omega) g;unfold ofS at c;rw[if_neg (by omega)]at c;exact c);have l1:=acname_len p1;have l2:ast.length≤20:=acname_len (by unfold assetB at p2;simp only[Bool.and_eq_true]at p2;exact p2.1);have l4:=dig_9999 p5 (show ex≤9999 by omega);have l5:=dig_9999 (show 0≤rc by omega) (show rc≤9999 by omega);have l6:=dig_9999 (show 0≤pay by omega) p8;obtain⟨y1,y2,y3⟩:=numB_len p11 rfl;dsimp only at y2 y3;have l9:=Ac.prS_len y1 y2 y3;have CC:Hid (∀V,GoodD V→Calls Tryz.prog 37 #[.agg #[.string ⟨cn.toArray⟩,.string ⟨cd.toArray⟩]] V (GiveS V (prS (cn,cd)))):=zh (fun V g=>print_any ⟨cn.toArray⟩ ⟨cd.toArray⟩ V (by rw[size_of];omega) (by rw[size_of];omega) g);clear y1 y2 y3;generalize prS (rn,rd')=tr at *;generalize prS (cn,cd)=tc at *;generalize dig ex.toNat=tx at *;generalize dig rc.toNat=ty at *;generalize dig pay.toNat=tz at *;generalize printA ⟨nm,2,ast,oth,(rn,rd'),(cn,cd),ex,rc,pay⟩=res at *;have HL:Hid ((joinW ([[99,97,115,104],nm,ast,tx,ty,tz]++[tc])).length≤100000):=zh (by simp[joinW];omega)
 clear hm p1 p2 p3 p4 p5 p6 p7 p8 p9 p10 p11 l1 l2 l4 l5 l6;go_enter Tryz.func13,Tryz.ntmps13;go_wp2_with fail;obtain⟨W,hW,BW,_,kk⟩:=layN (Below.refl w.heap.size w) #[.string ⟨nm.toArray⟩,.int .i64 2,.string ⟨ast.toArray⟩,.string ⟨oth.toArray⟩,.string ⟨rn.toArray⟩,.string ⟨rd'.toArray⟩,.string ⟨cn.toArray⟩,.string ⟨cd.toArray⟩,.int .i64 ex,.int .i64 rc,.int .i64 pay] 25;rw[hW];clear hW;have b0:=Below.refl W.heap.size W;have k0:=kk 0 _ rfl;have k1:=kk 1 _ rfl;have k2:=kk 2 _ rfl;have k3:=kk 3 _ rfl;have k4:=kk 4 _ rfl;have k5:=kk 5 _ rfl;have k6:=kk 6 _ rfl;have k7:=kk 7 _ rfl;have k8:=kk 8 _ rfl;have k9:=kk 9 _ rfl;have k10:=kk 10 _ rfl
 have KK:=zh kk;clear kk;replace HG:=zh (HG.out.below BW);go_wp2_with fail;refine(CM.out _ HG.out).mono ?_;rintro e1 w1 ⟨rfl,b1⟩;have g0:=(HG.out.below b1).sh 8 (.string ⟨#[99,97,115,104]⟩) rfl;have g1:=(HG.out.below b1).sh 9 (.bool false) rfl;have g2:=(HG.out.below b1).sh 10 (.int .i64 0) rfl;have g3:=(HG.out.below b1).sh 11 (.int .i64 1) rfl
 go_wp2_with fail;obtain⟨U,hW,BU,s2,jj⟩:=layN b1 #[.string ⟨#[99,97,115,104]⟩,.bool false,.int .i64 0,.int .i64 1] 44;rw[hW];clear hW b0 b1 s2 k0 k1 k2 k3 k4 k5 k6 k7 k8 k9 k10 g0 g1 g2 g3;replace HG:=zh (HG.out.below BU);replace BW:=Below.more BW BU;have k0:∀v,Below U.heap.size U v→_:=fun v hv=>KK.out 0 _ rfl v (Below.more BU hv);have k1:∀v,Below U.heap.size U v→_:=fun v hv=>KK.out 1 _ rfl v (Below.more BU hv);have k2:∀v,Below U.heap.size U v→_:=fun v hv=>KK.out 2 _ rfl v (Below.more BU hv);have k3:∀v,Below U.heap.size U v→_:=fun v hv=>KK.out 3 _ rfl v (Below.more BU hv);have k4:∀v,Below U.heap.size U v→_:=fun v hv=>KK.out 4 _ rfl v (Below.more BU hv);have k5:∀v,Below U.heap.size U v→_:=fun v hv=>KK.out 5 _ rfl v (Below.more BU hv);have k6:∀v,Below U.heap.size U v→_:=fun v hv=>KK.out 6 _ rfl v (Below.more BU hv);have k7:∀v,Below U.heap.size U v→_:=fun v hv=>KK.out 7 _ rfl v (Below.more BU hv);have k8:∀v,Below U.heap.size U v→_:=fun v hv=>KK.out 8 _ rfl v (Below.more BU hv);have k9:∀v,Below U.heap.size U v→_:=fun v hv=>KK.out 9 _ rfl v (Below.more BU hv);have k10:∀v,Below U.heap.size U v→_:=fun v hv=>KK.out 10 _ rfl v (Below.more BU hv)
 have j0:=jj 0 _ rfl;have j1:=jj 1 _ rfl;have j2:=jj 2 _ rfl;have j3:=jj 3 _ rfl
 clear KK jj BU;have b0:=Below.refl U.heap.size U;have hB:=zh (Nat.le_refl U.heap.size);go_wp2_with fail;refine wp_region_noPanic ?_;refine wp_region_held_drew (S:=fun w'=>Below U.heap.size U w') (by kernel_rfl) (b0.drew) (fun hH0=>?_);refine sch_in [0,1,2,3,4,5,6,7,9,10,12,13] ?_
 iterate 12 (refine sch_yes (v:=?_) rfl (by kernel_rfl) (by rfl) ?_ (by assumption) ?_;rotate_left 1;(· (intro w hSw;(try dsimp only at hSw);go_simp<;>(with_reducible rfl)));try simp only[Act.put,qA,qB,qC,qD,qE,qF])
 refine sch_out ?_;refine wpAnyH_ready (rs:=[8]) (by kernel_rfl) (by simp) ?_;refine AllReadyH.cons rfl (fun K hK=>?_) AllReadyH.nil
 go_simp
 refine(held (W:=U) hB.out (CX.out _ (HG.out.tab.below hH0)) hH0).mono ?_;rintro e x1 ⟨rfl,hb,hw⟩
 (try go_wp2_with fail)
 refine hK.out _ _ hw (fun hH1=>?_);clear hK hH0 hb hw
 try simp only[Act.put,qA,qB,qC,qD,qE,qF]
 refine wpAnyH_ready (rs:=[11]) (by kernel_rfl) (by simp) ?_;refine AllReadyH.cons rfl (fun K hK=>?_) AllReadyH.nil
 go_simp
 refine(held (W:=U) hB.out (CY.out _ (HG.out.tab.below hH1)) hH1).mono ?_;rintro e x2 ⟨rfl,hb,hw⟩
 (try go_wp2_with fail)
 refine hK.out _ _ hw (fun hH2=>?_);clear hK hH1 hb hw
 try simp only[Act.put,qA,qB,qC,qD,qE,qF]
 refine wpAnyH_ready (rs:=[14]) (by kernel_rfl) (by simp) ?_;refine AllReadyH.cons rfl (fun K hK=>?_) AllReadyH.nil
 go_simp
 refine(held (W:=U) hB.out (CZ.out _ (HG.out.tab.below hH2)) hH2).mono ?_;rintro e x3 ⟨rfl,hb,hw⟩
 (try go_wp2_with fail)
 refine hK.out _ _ hw (fun hH3=>?_);clear hK hH2 hb hw
 try simp only[Act.put,qA,qB,qC,qD,qE,qF]
 refine wpAnyH_ready (rs:=[15]) (by kernel_rfl) (by simp) ?_;refine AllReadyH.cons rfl (fun K hK=>?_) AllReadyH.nil
 go_simp
 have HO:Hid (OwnTx U.heap.size (x3.alloc (.cells _ 9)) (.slice (some ⟨x3.heap.size,0,none⟩) 6 6) [[99,97,115,104],nm,ast,tx,ty,tz]):=zh (ownG_made x3 [[99,97,115,104],nm,ast,tx,ty,tz] #[.string ⟨#[99,97,115,104]⟩,.string ⟨nm.toArray⟩,.string ⟨ast.toArray⟩,.string ⟨tx.toArray⟩,.string ⟨ty.toArray⟩,.string ⟨tz.toArray⟩] rfl (by simp) hH3.size);refine hK.out _ _ (Below.alloc hH3 hH3.size _) (fun hV=>?_);clear hK;generalize x3.alloc (.cells _ 9)=V at *;generalize (Value.slice (some ⟨x3.heap.size,0,none⟩) 6 6)=v0 at *;clear hH3
 try simp only[Act.put,qA,qB,qC,qD,qE,qF]
 refine sch_in [16] ?_
 iterate 1 (refine sch_yes (v:=?_) rfl (by kernel_rfl) (by rfl) ?_ (by assumption) ?_;rotate_left 1;(· (intro w hSw;(try dsimp only at hSw);go_simp<;>(with_reducible rfl)));try simp only[Act.put,qA,qB,qC,qD,qE,qF])
 refine sch_out ?_;refine wpAnyH_done (by kernel_rfl) ?_ _;refine NoPanic.normal ?_;have HV:=zh hV;clear b0;go_wp2_with fail;refine(CC.out _ (HG.out.dec.below hV)).mono ?_;rintro e9 V ⟨rfl,b9⟩;replace HO:=zh (ownG_below HO.out b9);replace HV:=zh (Below.more HV.out b9);clear b9 hV;have hV:=HV.out;go_wp2_with (at_builtin;refine haltG ?_);show wpList _ _ _ _ _ _;refine wpList_append_G rfl _ _ 39 9 rfl Tryz.underlying39 txInfo rfl (by decide) (by decide) (fun _=>rfl) encW_one U.heap.size _ _ rfl (World.ownsRow.alloc HO.out _) ⟨V.heap.size,0,none⟩ (tc) 1 rfl (rowsOne (enc:=encW) (k:=1) V (tc) 9 _ (by rfl)) (by simp) (Below.size (Below.alloc HV.out (Below.size HV.out) _)) ?_;intro v3 w3 ho hg hloc;replace HV:Hid (Below U.heap.size U w3):=zh (Below.grown (Below.alloc HV.out (Below.size HV.out) _) hg (Below.size (Below.alloc HV.out (Below.size HV.out) _)) fun j hj=>(World.ownsRow.lt HO.out j hj).1);replace HO:Hid (OwnTx U.heap.size w3 v3 _):=zh ho;clear ho hg hloc hV
 try clear V
 have hV:=HV.out
 go_frame
 obtain⟨q3,c3,e3,hc3,hr3,_⟩:=ownG_rows (enc:=encW) (k:=1) (fun _=>rfl) HO.out;subst e3;have CJ:=zh (joinC rfl hc3 (by simp) (by exact HL.out) _ hr3);clear hr3 hc3 HO;go_wp2_with fail;refine CJ.out.mono ?_;rintro e8 w8 ⟨rfl,b8⟩;go_wp2_with fail;go_ret;exact⟨by rw[HE.out];rfl,Below.more BW (Below.more HV.out b8)⟩
theorem aprint_3(nm ast oth rn rd' cn cd:List UInt8)(ex rc pay:Int)(w:World)(hg:GoodA w)(hm:mayA ⟨nm,3,ast,oth,(rn,rd'),(cn,cd),ex,rc,pay⟩=true):Calls Tryz.prog 13 #[.agg #[.string ⟨nm.toArray⟩,.int .i64 3,.string ⟨ast.toArray⟩,.string ⟨oth.toArray⟩,.string ⟨rn.toArray⟩,.string ⟨rd'.toArray⟩,.string ⟨cn.toArray⟩,.string ⟨cd.toArray⟩,.int .i64 ex,.int .i64 rc,.int .i64 pay]] w (GiveS w (printA ⟨nm,3,ast,oth,(rn,rd'),(cn,cd),ex,rc,pay⟩)):=by
 obtain⟨p1,p2,⟨p3,p4⟩,⟨p5,p6,p7,p8⟩,p9,p10,p11⟩:=mayA_parts hm;dsimp only at p1 p2 p3 p4 p5 p6 p7 p8 p9 p10 p11;have HG:=zh hg;clear hg;have CM:=zh (fun V g=>amay_3 nm ast oth rn rd' cn cd ex rc pay V g);rw[hm]at CM;have HE:Hid (printA ⟨nm,3,ast,oth,(rn,rd'),(cn,cd),ex,rc,pay⟩=joinW ([[115,112,105,110],nm,ast,dig ex.toNat,dig rc.toNat,dig pay.toNat]++[oth]++[prS (rn,rd')])):=zh (by
  unfold printA;rw[if_pos hm];unfold wordsA moreA;rw[wd_dig p5,wd_dig (k:=rc) (by omega),wd_dig (k:=pay) (by omega)];rfl)
 have CX:Hid (∀V,GoodT V→Calls Tryz.prog 36 #[.int .i64 ex] V (GiveS V (dig ex.toNat))):=zh (fun V g=>by have c:=of_any ex V (by omega) (by omega) g;unfold ofS at c;rw[if_neg (by omega)]at c;exact c);have CY:Hid (∀V,GoodT V→Calls Tryz.prog 36 #[.int .i64 rc] V (GiveS V (dig rc.toNat))):=zh (fun V g=>by have c:=of_any rc V (by omega) (by omega) g;unfold ofS at c;rw[if_neg (by omega)]at c;exact c);have CZ:Hid (∀V,GoodT V→Calls Tryz.prog 36 #[.int .i64 pay] V (GiveS V (dig pay.toNat))):=zh (fun V g=>by have c:=of_any pay V (by omega) (by omega) g;unfold ofS at c;rw[if_neg (by omega)]at c;exact c);have l1:=acname_len p1;have l2:ast.length≤20:=acname_len (by unfold assetB at p2;simp only[Bool.and_eq_true]at p2;exact p2.1);have l4:=dig_9999 p5 (show ex≤9999 by omega);have l5:=dig_9999 (show 0≤rc by omega) (show rc≤9999 by omega);have l6:=dig_9999 (show 0≤pay by omega) p8;have l7:oth.length≤20:=acname_len (by have:=p9 rfl;unfold assetB at this;simp only[Bool.and_eq_true]at this;exact this.1);obtain⟨y1,y2,y3⟩:=numB_len p10 rfl;dsimp only at y2 y3;have l8:=Ac.prS_len y1 y2 y3;have CR:Hid (∀V,GoodD V→Calls Tryz.prog 37 #[.agg #[.string ⟨rn.toArray⟩,.string ⟨rd'.toArray⟩]] V (GiveS V (prS (rn,rd')))):=zh (fun V g=>print_any ⟨rn.toArray⟩ ⟨rd'.toArray⟩ V (by rw[size_of];omega) (by rw[size_of];omega) g);clear y1 y2 y3;generalize prS (rn,rd')=tr at *;generalize prS (cn,cd)=tc at *;generalize dig ex.toNat=tx at *;generalize dig rc.toNat=ty at *;generalize dig pay.toNat=tz at *;generalize printA ⟨nm,3,ast,oth,(rn,rd'),(cn,cd),ex,rc,pay⟩=res at *
 have HL:Hid ((joinW ([[115,112,105,110],nm,ast,tx,ty,tz]++[oth]++[tr])).length≤100000):=zh (by simp[joinW];omega);clear hm p1 p2 p3 p4 p5 p6 p7 p8 p9 p10 p11 l1 l2 l4 l5 l6;go_enter Tryz.func13,Tryz.ntmps13;go_wp2_with fail;obtain⟨W,hW,BW,_,kk⟩:=layN (Below.refl w.heap.size w) #[.string ⟨nm.toArray⟩,.int .i64 3,.string ⟨ast.toArray⟩,.string ⟨oth.toArray⟩,.string ⟨rn.toArray⟩,.string ⟨rd'.toArray⟩,.string ⟨cn.toArray⟩,.string ⟨cd.toArray⟩,.int .i64 ex,.int .i64 rc,.int .i64 pay] 25;rw[hW];clear hW;have b0:=Below.refl W.heap.size W;have k0:=kk 0 _ rfl;have k1:=kk 1 _ rfl;have k2:=kk 2 _ rfl;have k3:=kk 3 _ rfl;have k4:=kk 4 _ rfl;have k5:=kk 5 _ rfl;have k6:=kk 6 _ rfl;have k7:=kk 7 _ rfl;have k8:=kk 8 _ rfl;have k9:=kk 9 _ rfl;have k10:=kk 10 _ rfl
 have KK:=zh kk;clear kk;replace HG:=zh (HG.out.below BW);go_wp2_with fail;refine(CM.out _ HG.out).mono ?_;rintro e1 w1 ⟨rfl,b1⟩;have g0:=(HG.out.below b1).sh 12 (.string ⟨#[115,112,105,110]⟩) rfl;have g1:=(HG.out.below b1).sh 13 (.bool true) rfl;have g2:=(HG.out.below b1).sh 14 (.int .i64 1) rfl;have g3:=(HG.out.below b1).sh 15 (.int .i64 0) rfl
 go_wp2_with fail;obtain⟨U,hW,BU,s2,jj⟩:=layN b1 #[.string ⟨#[115,112,105,110]⟩,.bool true,.int .i64 1,.int .i64 0] 44;rw[hW];clear hW b0 b1 s2 k0 k1 k2 k3 k4 k5 k6 k7 k8 k9 k10 g0 g1 g2 g3;replace HG:=zh (HG.out.below BU);replace BW:=Below.more BW BU;have k0:∀v,Below U.heap.size U v→_:=fun v hv=>KK.out 0 _ rfl v (Below.more BU hv);have k1:∀v,Below U.heap.size U v→_:=fun v hv=>KK.out 1 _ rfl v (Below.more BU hv);have k2:∀v,Below U.heap.size U v→_:=fun v hv=>KK.out 2 _ rfl v (Below.more BU hv);have k3:∀v,Below U.heap.size U v→_:=fun v hv=>KK.out 3 _ rfl v (Below.more BU hv);have k4:∀v,Below U.heap.size U v→_:=fun v hv=>KK.out 4 _ rfl v (Below.more BU hv);have k5:∀v,Below U.heap.size U v→_:=fun v hv=>KK.out 5 _ rfl v (Below.more BU hv);have k6:∀v,Below U.heap.size U v→_:=fun v hv=>KK.out 6 _ rfl v (Below.more BU hv);have k7:∀v,Below U.heap.size U v→_:=fun v hv=>KK.out 7 _ rfl v (Below.more BU hv);have k8:∀v,Below U.heap.size U v→_:=fun v hv=>KK.out 8 _ rfl v (Below.more BU hv);have k9:∀v,Below U.heap.size U v→_:=fun v hv=>KK.out 9 _ rfl v (Below.more BU hv);have k10:∀v,Below U.heap.size U v→_:=fun v hv=>KK.out 10 _ rfl v (Below.more BU hv)
 have j0:=jj 0 _ rfl;have j1:=jj 1 _ rfl;have j2:=jj 2 _ rfl;have j3:=jj 3 _ rfl
 clear KK jj BU;have b0:=Below.refl U.heap.size U;have hB:=zh (Nat.le_refl U.heap.size);go_wp2_with fail;refine wp_region_noPanic ?_;refine wp_region_held_drew (S:=fun w'=>Below U.heap.size U w') (by kernel_rfl) (b0.drew) (fun hH0=>?_);refine sch_in [0,1,2,3,4,5,6,7,9,10,12,13] ?_
 iterate 12 (refine sch_yes (v:=?_) rfl (by kernel_rfl) (by rfl) ?_ (by assumption) ?_;rotate_left 1;(· (intro w hSw;(try dsimp only at hSw);go_simp<;>(with_reducible rfl)));try simp only[Act.put,qA,qB,qC,qD,qE,qF])
 refine sch_out ?_;refine wpAnyH_ready (rs:=[8]) (by kernel_rfl) (by simp) ?_;refine AllReadyH.cons rfl (fun K hK=>?_) AllReadyH.nil
 go_simp
 refine(held (W:=U) hB.out (CX.out _ (HG.out.tab.below hH0)) hH0).mono ?_;rintro e x1 ⟨rfl,hb,hw⟩
 (try go_wp2_with fail)
 refine hK.out _ _ hw (fun hH1=>?_);clear hK hH0 hb hw
 try simp only[Act.put,qA,qB,qC,qD,qE,qF]
 refine wpAnyH_ready (rs:=[11]) (by kernel_rfl) (by simp) ?_;refine AllReadyH.cons rfl (fun K hK=>?_) AllReadyH.nil
 go_simp
 refine(held (W:=U) hB.out (CY.out _ (HG.out.tab.below hH1)) hH1).mono ?_;rintro e x2 ⟨rfl,hb,hw⟩
 (try go_wp2_with fail)
 refine hK.out _ _ hw (fun hH2=>?_);clear hK hH1 hb hw
 try simp only[Act.put,qA,qB,qC,qD,qE,qF]
 refine wpAnyH_ready (rs:=[14]) (by kernel_rfl) (by simp) ?_;refine AllReadyH.cons rfl (fun K hK=>?_) AllReadyH.nil
 go_simp
 refine(held (W:=U) hB.out (CZ.out _ (HG.out.tab.below hH2)) hH2).mono ?_;rintro e x3 ⟨rfl,hb,hw⟩
 (try go_wp2_with fail)
 refine hK.out _ _ hw (fun hH3=>?_);clear hK hH2 hb hw
 try simp only[Act.put,qA,qB,qC,qD,qE,qF]
 refine wpAnyH_ready (rs:=[15]) (by kernel_rfl) (by simp) ?_;refine AllReadyH.cons rfl (fun K hK=>?_) AllReadyH.nil
 go_simp
 have HO:Hid (OwnTx U.heap.size (x3.alloc (.cells _ 9)) (.slice (some ⟨x3.heap.size,0,none⟩) 6 6) [[115,112,105,110],nm,ast,tx,ty,tz]):=zh (ownG_made x3 [[115,112,105,110],nm,ast,tx,ty,tz] #[.string ⟨#[115,112,105,110]⟩,.string ⟨nm.toArray⟩,.string ⟨ast.toArray⟩,.string ⟨tx.toArray⟩,.string ⟨ty.toArray⟩,.string ⟨tz.toArray⟩] rfl (by simp) hH3.size);refine hK.out _ _ (Below.alloc hH3 hH3.size _) (fun hV=>?_);clear hK;generalize x3.alloc (.cells _ 9)=V at *;generalize (Value.slice (some ⟨x3.heap.size,0,none⟩) 6 6)=v0 at *;clear hH3
 try simp only[Act.put,qA,qB,qC,qD,qE,qF]
 refine sch_in [16] ?_
 iterate 1 (refine sch_yes (v:=?_) rfl (by kernel_rfl) (by rfl) ?_ (by assumption) ?_;rotate_left 1;(· (intro w hSw;(try dsimp only at hSw);go_simp<;>(with_reducible rfl)));try simp only[Act.put,qA,qB,qC,qD,qE,qF])
 refine sch_out ?_;refine wpAnyH_done (by kernel_rfl) ?_ _;refine NoPanic.normal ?_;have HV:=zh hV;clear b0;go_wp2_with (at_builtin;refine haltG ?_);show wpList _ _ _ _ _ _;refine wpList_append_G rfl _ _ 39 9 rfl Tryz.underlying39 txInfo rfl (by decide) (by decide) (fun _=>rfl) encW_one U.heap.size _ _ rfl (World.ownsRow.alloc HO.out _) ⟨V.heap.size,0,none⟩ (oth) 1 rfl (rowsOne (enc:=encW) (k:=1) V (oth) 9 _ (by rfl)) (by simp) (Below.size (Below.alloc HV.out (Below.size HV.out) _)) ?_;intro v3 w3 ho hg hloc;replace HV:Hid (Below U.heap.size U w3):=zh (Below.grown (Below.alloc HV.out (Below.size HV.out) _) hg (Below.size (Below.alloc HV.out (Below.size HV.out) _)) fun j hj=>(World.ownsRow.lt HO.out j hj).1);replace HO:Hid (OwnTx U.heap.size w3 v3 _):=zh ho;clear ho hg hloc hV
 try clear V
 have hV:=HV.out
 go_frame
 go_wp2_with fail;refine(CR.out _ (HG.out.dec.below hV)).mono ?_;rintro e9 V ⟨rfl,b9⟩;replace HO:=zh (ownG_below HO.out b9);replace HV:=zh (Below.more HV.out b9);clear b9 hV;have hV:=HV.out;go_wp2_with (at_builtin;refine haltG ?_);show wpList _ _ _ _ _ _;refine wpList_append_G rfl _ _ 39 9 rfl Tryz.underlying39 txInfo rfl (by decide) (by decide) (fun _=>rfl) encW_one U.heap.size _ _ rfl (World.ownsRow.alloc HO.out _) ⟨V.heap.size,0,none⟩ (tr) 1 rfl (rowsOne (enc:=encW) (k:=1) V (tr) 9 _ (by rfl)) (by simp) (Below.size (Below.alloc HV.out (Below.size HV.out) _)) ?_;intro v3 w3 ho hg hloc;replace HV:Hid (Below U.heap.size U w3):=zh (Below.grown (Below.alloc HV.out (Below.size HV.out) _) hg (Below.size (Below.alloc HV.out (Below.size HV.out) _)) fun j hj=>(World.ownsRow.lt HO.out j hj).1);replace HO:Hid (OwnTx U.heap.size w3 v3 _):=zh ho;clear ho hg hloc hV
 try clear V
 have hV:=HV.out
 go_frame
 obtain⟨q3,c3,e3,hc3,hr3,_⟩:=ownG_rows (enc:=encW) (k:=1) (fun _=>rfl) HO.out;subst e3;have CJ:=zh (joinC rfl hc3 (by simp) (by exact HL.out) _ hr3);clear hr3 hc3 HO;go_wp2_with fail;refine CJ.out.mono ?_;rintro e8 w8 ⟨rfl,b8⟩;go_wp2_with fail;go_ret;exact⟨by rw[HE.out];rfl,Below.more BW (Below.more HV.out b8)⟩
theorem aprint_4(nm ast oth rn rd' cn cd:List UInt8)(ex rc pay:Int)(w:World)(hg:GoodA w)(hm:mayA ⟨nm,4,ast,oth,(rn,rd'),(cn,cd),ex,rc,pay⟩=true):Calls Tryz.prog 13 #[.agg #[.string ⟨nm.toArray⟩,.int .i64 4,.string ⟨ast.toArray⟩,.string ⟨oth.toArray⟩,.string ⟨rn.toArray⟩,.string ⟨rd'.toArray⟩,.string ⟨cn.toArray⟩,.string ⟨cd.toArray⟩,.int .i64 ex,.int .i64 rc,.int .i64 pay]] w (GiveS w (printA ⟨nm,4,ast,oth,(rn,rd'),(cn,cd),ex,rc,pay⟩)):=by
 obtain⟨p1,p2,⟨p3,p4⟩,⟨p5,p6,p7,p8⟩,p9,p10,p11⟩:=mayA_parts hm;dsimp only at p1 p2 p3 p4 p5 p6 p7 p8 p9 p10 p11;have HG:=zh hg;clear hg;have CM:=zh (fun V g=>amay_4 nm ast oth rn rd' cn cd ex rc pay V g);rw[hm]at CM;have HE:Hid (printA ⟨nm,4,ast,oth,(rn,rd'),(cn,cd),ex,rc,pay⟩=joinW ([[109,101,114,103,101,114],nm,ast,dig ex.toNat,dig rc.toNat,dig pay.toNat]++[oth]++[prS (rn,rd')]++[prS (cn,cd)])):=zh (by
  unfold printA;rw[if_pos hm];unfold wordsA moreA;rw[wd_dig p5,wd_dig (k:=rc) (by omega),wd_dig (k:=pay) (by omega)];rfl)
 have CX:Hid (∀V,GoodT V→Calls Tryz.prog 36 #[.int .i64 ex] V (GiveS V (dig ex.toNat))):=zh (fun V g=>by have c:=of_any ex V (by omega) (by omega) g;unfold ofS at c;rw[if_neg (by omega)]at c;exact c);have CY:Hid (∀V,GoodT V→Calls Tryz.prog 36 #[.int .i64 rc] V (GiveS V (dig rc.toNat))):=zh (fun V g=>by have c:=of_any rc V (by omega) (by omega) g;unfold ofS at c;rw[if_neg (by omega)]at c;exact c);have CZ:Hid (∀V,GoodT V→Calls Tryz.prog 36 #[.int .i64 pay] V (GiveS V (dig pay.toNat))):=zh (fun V g=>by have c:=of_any pay V (by omega) (by omega) g;unfold ofS at c;rw[if_neg (by omega)]at c;exact c);have l1:=acname_len p1;have l2:ast.length≤20:=acname_len (by unfold assetB at p2;simp only[Bool.and_eq_true]at p2;exact p2.1);have l4:=dig_9999 p5 (show ex≤9999 by omega);have l5:=dig_9999 (show 0≤rc by omega) (show rc≤9999 by omega);have l6:=dig_9999 (show 0≤pay by omega) p8;have l7:oth.length≤20:=acname_len (by have:=p9 rfl;unfold assetB at this;simp only[Bool.and_eq_true]at this;exact this.1);obtain⟨y1,y2,y3⟩:=numB_len p10 rfl;dsimp only at y2 y3;have l8:=Ac.prS_len y1 y2 y3;have CR:Hid (∀V,GoodD V→Calls Tryz.prog 37 #[.agg #[.string ⟨rn.toArray⟩,.string ⟨rd'.toArray⟩]] V (GiveS V (prS (rn,rd')))):=zh (fun V g=>print_any ⟨rn.toArray⟩ ⟨rd'.toArray⟩ V (by rw[size_of];omega) (by rw[size_of];omega) g);clear y1 y2 y3;obtain⟨y1,y2,y3⟩:=numB_len p11 rfl;dsimp only at y2 y3;have l9:=Ac.prS_len y1 y2 y3;have CC:Hid (∀V,GoodD V→Calls Tryz.prog 37 #[.agg #[.string ⟨cn.toArray⟩,.string ⟨cd.toArray⟩]] V (GiveS V (prS (cn,cd)))):=zh (fun V g=>print_any ⟨cn.toArray⟩ ⟨cd.toArray⟩ V (by rw[size_of];omega) (by rw[size_of];omega) g)
 clear y1 y2 y3;generalize prS (rn,rd')=tr at *;generalize prS (cn,cd)=tc at *;generalize dig ex.toNat=tx at *;generalize dig rc.toNat=ty at *;generalize dig pay.toNat=tz at *;generalize printA ⟨nm,4,ast,oth,(rn,rd'),(cn,cd),ex,rc,pay⟩=res at *;have HL:Hid ((joinW ([[109,101,114,103,101,114],nm,ast,tx,ty,tz]++[oth]++[tr]++[tc])).length≤100000):=zh (by simp[joinW];omega);clear hm p1 p2 p3 p4 p5 p6 p7 p8 p9 p10 p11 l1 l2 l4 l5 l6;go_enter Tryz.func13,Tryz.ntmps13;go_wp2_with fail;obtain⟨W,hW,BW,_,kk⟩:=layN (Below.refl w.heap.size w) #[.string ⟨nm.toArray⟩,.int .i64 4,.string ⟨ast.toArray⟩,.string ⟨oth.toArray⟩,.string ⟨rn.toArray⟩,.string ⟨rd'.toArray⟩,.string ⟨cn.toArray⟩,.string ⟨cd.toArray⟩,.int .i64 ex,.int .i64 rc,.int .i64 pay] 25;rw[hW];clear hW;have b0:=Below.refl W.heap.size W;have k0:=kk 0 _ rfl;have k1:=kk 1 _ rfl;have k2:=kk 2 _ rfl;have k3:=kk 3 _ rfl;have k4:=kk 4 _ rfl;have k5:=kk 5 _ rfl;have k6:=kk 6 _ rfl;have k7:=kk 7 _ rfl;have k8:=kk 8 _ rfl;have k9:=kk 9 _ rfl;have k10:=kk 10 _ rfl
 have KK:=zh kk;clear kk;replace HG:=zh (HG.out.below BW);go_wp2_with fail;refine(CM.out _ HG.out).mono ?_;rintro e1 w1 ⟨rfl,b1⟩;have g0:=(HG.out.below b1).sh 16 (.string ⟨#[109,101,114,103,101,114]⟩) rfl;have g1:=(HG.out.below b1).sh 17 (.bool true) rfl;have g2:=(HG.out.below b1).sh 18 (.int .i64 1) rfl;have g3:=(HG.out.below b1).sh 19 (.int .i64 2) rfl
 go_wp2_with fail;obtain⟨U,hW,BU,s2,jj⟩:=layN b1 #[.string ⟨#[109,101,114,103,101,114]⟩,.bool true,.int .i64 1,.int .i64 2] 44;rw[hW];clear hW b0 b1 s2 k0 k1 k2 k3 k4 k5 k6 k7 k8 k9 k10 g0 g1 g2 g3;replace HG:=zh (HG.out.below BU);replace BW:=Below.more BW BU;have k0:∀v,Below U.heap.size U v→_:=fun v hv=>KK.out 0 _ rfl v (Below.more BU hv);have k1:∀v,Below U.heap.size U v→_:=fun v hv=>KK.out 1 _ rfl v (Below.more BU hv);have k2:∀v,Below U.heap.size U v→_:=fun v hv=>KK.out 2 _ rfl v (Below.more BU hv);have k3:∀v,Below U.heap.size U v→_:=fun v hv=>KK.out 3 _ rfl v (Below.more BU hv);have k4:∀v,Below U.heap.size U v→_:=fun v hv=>KK.out 4 _ rfl v (Below.more BU hv);have k5:∀v,Below U.heap.size U v→_:=fun v hv=>KK.out 5 _ rfl v (Below.more BU hv);have k6:∀v,Below U.heap.size U v→_:=fun v hv=>KK.out 6 _ rfl v (Below.more BU hv);have k7:∀v,Below U.heap.size U v→_:=fun v hv=>KK.out 7 _ rfl v (Below.more BU hv);have k8:∀v,Below U.heap.size U v→_:=fun v hv=>KK.out 8 _ rfl v (Below.more BU hv);have k9:∀v,Below U.heap.size U v→_:=fun v hv=>KK.out 9 _ rfl v (Below.more BU hv);have k10:∀v,Below U.heap.size U v→_:=fun v hv=>KK.out 10 _ rfl v (Below.more BU hv)
 have j0:=jj 0 _ rfl;have j1:=jj 1 _ rfl;have j2:=jj 2 _ rfl;have j3:=jj 3 _ rfl
 clear KK jj BU;have b0:=Below.refl U.heap.size U;have hB:=zh (Nat.le_refl U.heap.size);go_wp2_with fail;refine wp_region_noPanic ?_;refine wp_region_held_drew (S:=fun w'=>Below U.heap.size U w') (by kernel_rfl) (b0.drew) (fun hH0=>?_);refine sch_in [0,1,2,3,4,5,6,7,9,10,12,13] ?_
 iterate 12 (refine sch_yes (v:=?_) rfl (by kernel_rfl) (by rfl) ?_ (by assumption) ?_;rotate_left 1;(· (intro w hSw;(try dsimp only at hSw);go_simp<;>(with_reducible rfl)));try simp only[Act.put,qA,qB,qC,qD,qE,qF])
 refine sch_out ?_;refine wpAnyH_ready (rs:=[8]) (by kernel_rfl) (by simp) ?_;refine AllReadyH.cons rfl (fun K hK=>?_) AllReadyH.nil
 go_simp
 refine(held (W:=U) hB.out (CX.out _ (HG.out.tab.below hH0)) hH0).mono ?_;rintro e x1 ⟨rfl,hb,hw⟩
 (try go_wp2_with fail)
 refine hK.out _ _ hw (fun hH1=>?_);clear hK hH0 hb hw
 try simp only[Act.put,qA,qB,qC,qD,qE,qF]
 refine wpAnyH_ready (rs:=[11]) (by kernel_rfl) (by simp) ?_;refine AllReadyH.cons rfl (fun K hK=>?_) AllReadyH.nil
 go_simp
 refine(held (W:=U) hB.out (CY.out _ (HG.out.tab.below hH1)) hH1).mono ?_;rintro e x2 ⟨rfl,hb,hw⟩
 (try go_wp2_with fail)
 refine hK.out _ _ hw (fun hH2=>?_);clear hK hH1 hb hw
 try simp only[Act.put,qA,qB,qC,qD,qE,qF]
 refine wpAnyH_ready (rs:=[14]) (by kernel_rfl) (by simp) ?_;refine AllReadyH.cons rfl (fun K hK=>?_) AllReadyH.nil
 go_simp
 refine(held (W:=U) hB.out (CZ.out _ (HG.out.tab.below hH2)) hH2).mono ?_;rintro e x3 ⟨rfl,hb,hw⟩
 (try go_wp2_with fail)
 refine hK.out _ _ hw (fun hH3=>?_);clear hK hH2 hb hw
 try simp only[Act.put,qA,qB,qC,qD,qE,qF]
 refine wpAnyH_ready (rs:=[15]) (by kernel_rfl) (by simp) ?_;refine AllReadyH.cons rfl (fun K hK=>?_) AllReadyH.nil
 go_simp
 have HO:Hid (OwnTx U.heap.size (x3.alloc (.cells _ 9)) (.slice (some ⟨x3.heap.size,0,none⟩) 6 6) [[109,101,114,103,101,114],nm,ast,tx,ty,tz]):=zh (ownG_made x3 [[109,101,114,103,101,114],nm,ast,tx,ty,tz] #[.string ⟨#[109,101,114,103,101,114]⟩,.string ⟨nm.toArray⟩,.string ⟨ast.toArray⟩,.string ⟨tx.toArray⟩,.string ⟨ty.toArray⟩,.string ⟨tz.toArray⟩] rfl (by simp) hH3.size);refine hK.out _ _ (Below.alloc hH3 hH3.size _) (fun hV=>?_);clear hK;generalize x3.alloc (.cells _ 9)=V at *;generalize (Value.slice (some ⟨x3.heap.size,0,none⟩) 6 6)=v0 at *;clear hH3
 try simp only[Act.put,qA,qB,qC,qD,qE,qF]
 refine sch_in [16] ?_
 iterate 1 (refine sch_yes (v:=?_) rfl (by kernel_rfl) (by rfl) ?_ (by assumption) ?_;rotate_left 1;(· (intro w hSw;(try dsimp only at hSw);go_simp<;>(with_reducible rfl)));try simp only[Act.put,qA,qB,qC,qD,qE,qF])
 refine sch_out ?_;refine wpAnyH_done (by kernel_rfl) ?_ _;refine NoPanic.normal ?_;have HV:=zh hV;clear b0;go_wp2_with (at_builtin;refine haltG ?_);show wpList _ _ _ _ _ _;refine wpList_append_G rfl _ _ 39 9 rfl Tryz.underlying39 txInfo rfl (by decide) (by decide) (fun _=>rfl) encW_one U.heap.size _ _ rfl (World.ownsRow.alloc HO.out _) ⟨V.heap.size,0,none⟩ (oth) 1 rfl (rowsOne (enc:=encW) (k:=1) V (oth) 9 _ (by rfl)) (by simp) (Below.size (Below.alloc HV.out (Below.size HV.out) _)) ?_;intro v3 w3 ho hg hloc;replace HV:Hid (Below U.heap.size U w3):=zh (Below.grown (Below.alloc HV.out (Below.size HV.out) _) hg (Below.size (Below.alloc HV.out (Below.size HV.out) _)) fun j hj=>(World.ownsRow.lt HO.out j hj).1);replace HO:Hid (OwnTx U.heap.size w3 v3 _):=zh ho;clear ho hg hloc hV
 try clear V
 have hV:=HV.out
 go_frame
 go_wp2_with fail;refine(CR.out _ (HG.out.dec.below hV)).mono ?_;rintro e9 V ⟨rfl,b9⟩;replace HO:=zh (ownG_below HO.out b9);replace HV:=zh (Below.more HV.out b9);clear b9 hV;have hV:=HV.out;go_wp2_with (at_builtin;refine haltG ?_);show wpList _ _ _ _ _ _;refine wpList_append_G rfl _ _ 39 9 rfl Tryz.underlying39 txInfo rfl (by decide) (by decide) (fun _=>rfl) encW_one U.heap.size _ _ rfl (World.ownsRow.alloc HO.out _) ⟨V.heap.size,0,none⟩ (tr) 1 rfl (rowsOne (enc:=encW) (k:=1) V (tr) 9 _ (by rfl)) (by simp) (Below.size (Below.alloc HV.out (Below.size HV.out) _)) ?_;intro v3 w3 ho hg hloc;replace HV:Hid (Below U.heap.size U w3):=zh (Below.grown (Below.alloc HV.out (Below.size HV.out) _) hg (Below.size (Below.alloc HV.out (Below.size HV.out) _)) fun j hj=>(World.ownsRow.lt HO.out j hj).1);replace HO:Hid (OwnTx U.heap.size w3 v3 _):=zh ho;clear ho hg hloc hV
 try clear V
 have hV:=HV.out
 go_frame
 go_wp2_with fail;refine(CC.out _ (HG.out.dec.below hV)).mono ?_;rintro e9 V ⟨rfl,b9⟩;replace HO:=zh (ownG_below HO.out b9);replace HV:=zh (Below.more HV.out b9);clear b9 hV;have hV:=HV.out;go_wp2_with (at_builtin;refine haltG ?_);show wpList _ _ _ _ _ _;refine wpList_append_G rfl _ _ 39 9 rfl Tryz.underlying39 txInfo rfl (by decide) (by decide) (fun _=>rfl) encW_one U.heap.size _ _ rfl (World.ownsRow.alloc HO.out _) ⟨V.heap.size,0,none⟩ (tc) 1 rfl (rowsOne (enc:=encW) (k:=1) V (tc) 9 _ (by rfl)) (by simp) (Below.size (Below.alloc HV.out (Below.size HV.out) _)) ?_;intro v3 w3 ho hg hloc;replace HV:Hid (Below U.heap.size U w3):=zh (Below.grown (Below.alloc HV.out (Below.size HV.out) _) hg (Below.size (Below.alloc HV.out (Below.size HV.out) _)) fun j hj=>(World.ownsRow.lt HO.out j hj).1);replace HO:Hid (OwnTx U.heap.size w3 v3 _):=zh ho;clear ho hg hloc hV
 try clear V
 have hV:=HV.out
 go_frame
 obtain⟨q3,c3,e3,hc3,hr3,_⟩:=ownG_rows (enc:=encW) (k:=1) (fun _=>rfl) HO.out;subst e3;have CJ:=zh (joinC rfl hc3 (by simp) (by exact HL.out) _ hr3);clear hr3 hc3 HO;go_wp2_with fail;refine CJ.out.mono ?_;rintro e8 w8 ⟨rfl,b8⟩;go_wp2_with fail;go_ret;exact⟨by rw[HE.out];rfl,Below.more BW (Below.more HV.out b8)⟩
theorem aprint_x(nm ast oth rn rd' cn cd:List UInt8)(k ex rc pay:Int)(w:World)(hg:GoodA w):Calls Tryz.prog 13 #[.agg #[.string ⟨nm.toArray⟩,.int .i64 k,.string ⟨ast.toArray⟩,.string ⟨oth.toArray⟩,.string ⟨rn.toArray⟩,.string ⟨rd'.toArray⟩,.string ⟨cn.toArray⟩,.string ⟨cd.toArray⟩,.int .i64 ex,.int .i64 rc,.int .i64 pay]] w (GiveS w (printA ⟨nm,k,ast,oth,(rn,rd'),(cn,cd),ex,rc,pay⟩)):=by
 cases hm:mayA ⟨nm,k,ast,oth,(rn,rd'),(cn,cd),ex,rc,pay⟩ with
 | true =>
  obtain⟨_,_,⟨p3,p4⟩,_⟩:=mayA_parts hm;dsimp only at p3 p4;rcases(show k=0∨k=1∨k=2∨k=3∨k=4 by omega) with rfl|rfl|rfl|rfl|rfl
  ·exact aprint_0 nm ast oth rn rd' cn cd ex rc pay w hg hm
  ·exact aprint_1 nm ast oth rn rd' cn cd ex rc pay w hg hm
  ·exact aprint_2 nm ast oth rn rd' cn cd ex rc pay w hg hm
  ·exact aprint_3 nm ast oth rn rd' cn cd ex rc pay w hg hm
  ·exact aprint_4 nm ast oth rn rd' cn cd ex rc pay w hg hm
 | false =>
  have HE:Hid (printA ⟨nm,k,ast,oth,(rn,rd'),(cn,cd),ex,rc,pay⟩=[]):=zh (by unfold printA;rw[hm];rfl);have HG:=zh hg;clear hg;have CM:=zh (fun V g=>amay_x nm ast oth rn rd' cn cd k ex rc pay V g);rw[hm]at CM;clear hm;go_enter Tryz.func13,Tryz.ntmps13;go_wp2_with fail;obtain⟨W,hW,BW,_,kk⟩:=layN (Below.refl w.heap.size w) #[.string ⟨nm.toArray⟩,.int .i64 k,.string ⟨ast.toArray⟩,.string ⟨oth.toArray⟩,.string ⟨rn.toArray⟩,.string ⟨rd'.toArray⟩,.string ⟨cn.toArray⟩,.string ⟨cd.toArray⟩,.int .i64 ex,.int .i64 rc,.int .i64 pay] 25;rw[hW];clear hW;have b0:=Below.refl W.heap.size W;have k0:=kk 0 _ rfl;have k1:=kk 1 _ rfl;have k2:=kk 2 _ rfl;have k3:=kk 3 _ rfl;have k4:=kk 4 _ rfl;have k5:=kk 5 _ rfl;have k6:=kk 6 _ rfl;have k7:=kk 7 _ rfl;have k8:=kk 8 _ rfl;have k9:=kk 9 _ rfl;have k10:=kk 10 _ rfl
  clear kk;replace HG:=zh (HG.out.below BW);go_wp2_with fail;refine(CM.out _ HG.out).mono ?_;rintro e1 w1 ⟨rfl,b⟩;have b1:=Below.more b0 b;clear b;go_wp2_with fail;go_ret;exact⟨by rw[HE.out];rfl,Below.more BW b1⟩
theorem aprint_any(a:Actn)(w:World)(hg:GoodA w):Calls Tryz.prog 13 #[.agg #[.string ⟨a.nm.toArray⟩,.int .i64 a.kind,.string ⟨a.ast.toArray⟩,.string ⟨a.oth.toArray⟩,.string ⟨a.ratio.1.toArray⟩,.string ⟨a.ratio.2.toArray⟩,.string ⟨a.cash.1.toArray⟩,.string ⟨a.cash.2.toArray⟩,.int .i64 a.ex,.int .i64 a.rc,.int .i64 a.pay]] w (GiveS w (printA a)) :=
 aprint_x a.nm a.ast a.oth a.ratio.1 a.ratio.2 a.cash.1 a.cash.2 a.kind a.ex a.rc a.pay w hg
end Go.Proofs.YtcebkcilkhebeaaGreatDoor
