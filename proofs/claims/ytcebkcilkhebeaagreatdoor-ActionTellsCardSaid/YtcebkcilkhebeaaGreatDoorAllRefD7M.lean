/- Own work. -/
import Derived.Test.YtcebkcilkhebeaaGreatDoorAllRefA3M
set_option linter.unusedSimpArgs false
set_option linter.unusedVariables false
set_option maxHeartbeats 4000000
set_option maxRecDepth 100000
namespace Go.Proofs.YtcebkcilkhebeaaGreatDoor
open Go.RowKit
open Ac (oB rB cB assetB numB wordK mayA Actn leastC moreA wordsA printA joinW)
def lightA(a:Actn):Bool:=decide (a.ratio.1.length≤30)&&(decide (a.ratio.2.length≤30)&&(decide (a.cash.1.length≤30)&&(decide (a.cash.2.length≤30)&&decide (a.nm.length+a.ast.length+a.oth.length≤200))))
theorem wd_dig{k:Int}(h:0≤k):wd k=dig k.toNat:=by
 unfold wd;rw[if_neg (by omega)]
 first|rfl|(congr 1;omega)
theorem acof{k:Int}(h:0≤k)(h2:k≤9999)(w:World):Calls Tryz.prog 39 #[.int .i64 k] w (fun e w'=>e=.returned (.string ⟨(dig k.toNat).toArray⟩)∧Below w.heap.size w w'):=by
 refine(rof_any k w (by omega) (by omega)).mono ?_;rintro e w' ⟨rfl,rfl⟩;refine⟨?_,Below.refl _ _⟩;unfold ofS;rw[if_neg (by omega)]
theorem mayA_parts{a:Actn}(h:mayA a=true):isName a.nm=true∧assetB a.ast=true∧(0≤a.kind∧a.kind≤4)∧(0≤a.ex∧a.ex≤a.rc∧a.rc≤a.pay∧a.pay≤9999)∧(oB a.kind=true→assetB a.oth=true)∧numB a.ratio (rB a.kind) 1=true∧numB a.cash (cB a.kind) (leastC a.kind)=true:=by
 unfold mayA at h;simp only[Bool.and_eq_true,decide_eq_true_eq]at h;obtain⟨h1,h2,h3,h4,h5,h6,h7,h8,h9,h10,h11⟩:=h;refine⟨h1,h2,⟨h3,h4⟩,⟨h5,h6,h7,h8⟩,fun e=>?_,h10,h11⟩;rw[e]at h9;simp only[if_true,Bool.and_eq_true]at h9;exact h9.1
theorem numB_len{x:Key}{b:Bool}{m:Int}(h:numB x b m=true)(hb:b=true):isR x=true∧x.1.length≤20∧x.2.length≤20:=by
 subst hb;unfold numB at h;simp only[if_true,Bool.and_eq_true,decide_eq_true_eq]at h;exact⟨h.1,h.2.2⟩
theorem print_eq{a:Actn}(h:0≤a.ex∧0≤a.rc∧0≤a.pay):joinW (wordsA a)=(wordK a.kind++[32]++a.nm++[32]++a.ast++[32]++dig a.ex.toNat++[32]++dig a.rc.toNat++[32]++dig a.pay.toNat)++((if oB a.kind=true then 32::a.oth else [])++((if rB a.kind=true then 32::prS a.ratio else [])++(if cB a.kind=true then 32::prS a.cash else []))):=by
 unfold wordsA moreA;rw[wd_dig h.1,wd_dig h.2.1,wd_dig h.2.2]
 cases oB a.kind<;>cases rB a.kind<;>cases cB a.kind<;>simp[joinW]
theorem dig_9999{k:Int}(h:0≤k)(h2:k≤9999):(dig k.toNat).length≤5:=Nat.le_trans (dig_length (k:=4) (by decide) (by omega)) (by decide)
theorem acname_len{l:List UInt8}(h:isName l=true):l.length≤20:=by
 unfold isName at h;simp only[Bool.and_eq_true,decide_eq_true_eq]at h;omega
theorem wordK_len(k:Int):(wordK k).length≤10:=by unfold wordK;repeat' split<;>try decide
theorem acprint_x(nm ast oth rn rd' cn cd:List UInt8)(k ex rc pay:Int)(w:World)(h:SzA ⟨nm,k,ast,oth,(rn,rd'),(cn,cd),ex,rc,pay⟩):Calls Tryz.prog 14 #[.agg #[.string ⟨nm.toArray⟩,.int .i64 k,.string ⟨ast.toArray⟩,.string ⟨oth.toArray⟩,.string ⟨rn.toArray⟩,.string ⟨rd'.toArray⟩,.string ⟨cn.toArray⟩,.string ⟨cd.toArray⟩,.int .i64 ex,.int .i64 rc,.int .i64 pay]] w (GiveS w (printA ⟨nm,k,ast,oth,(rn,rd'),(cn,cd),ex,rc,pay⟩)):=by
 have CM:=zh (fun V=>acmay_x nm ast oth rn rd' cn cd k ex rc pay V h)
 cases hm:mayA ⟨nm,k,ast,oth,(rn,rd'),(cn,cd),ex,rc,pay⟩ with
 | false =>
  have HE:Hid (printA ⟨nm,k,ast,oth,(rn,rd'),(cn,cd),ex,rc,pay⟩=[]):=zh (by unfold printA;rw[hm];rfl);rw[hm]at CM;clear hm;go_enter Tryz.func14,Tryz.ntmps14;go_wp2_with fail;obtain⟨W,hW,BW,_,kk⟩:=layN (Below.refl w.heap.size w) #[.string ⟨nm.toArray⟩,.int .i64 k,.string ⟨ast.toArray⟩,.string ⟨oth.toArray⟩,.string ⟨rn.toArray⟩,.string ⟨rd'.toArray⟩,.string ⟨cn.toArray⟩,.string ⟨cd.toArray⟩,.int .i64 ex,.int .i64 rc,.int .i64 pay] 25;rw[hW];clear hW;have b0:=Below.refl W.heap.size W;have k0:=kk 0 _ rfl;have k1:=kk 1 _ rfl;have k2:=kk 2 _ rfl;have k3:=kk 3 _ rfl;have k4:=kk 4 _ rfl;have k5:=kk 5 _ rfl;have k6:=kk 6 _ rfl;have k7:=kk 7 _ rfl;have k8:=kk 8 _ rfl;have k9:=kk 9 _ rfl;have k10:=kk 10 _ rfl
  clear kk;go_wp2_with fail;refine(CM.out _).mono ?_;rintro e1 w1 ⟨rfl,b⟩;have b1:=Below.more b0 b;clear b;go_wp2_with fail;go_ret;exact⟨by rw[HE.out];rfl,Below.more BW b1⟩
 | true =>
  obtain⟨p1,p2,⟨p3,p4⟩,⟨p5,p6,p7,p8⟩,p9,p10,p11⟩:=mayA_parts hm;dsimp only at p1 p2 p3 p4 p5 p6 p7 p8 p9 p10 p11;have HE:Hid (printA ⟨nm,k,ast,oth,(rn,rd'),(cn,cd),ex,rc,pay⟩=(wordK k++[32]++nm++[32]++ast++[32]++dig ex.toNat++[32]++dig rc.toNat++[32]++dig pay.toNat)++((if oB k=true then 32::oth else [])++((if rB k=true then 32::prS (rn,rd') else [])++(if cB k=true then 32::prS (cn,cd) else [])))):=zh (by unfold printA;rw[hm];exact print_eq (a:=⟨nm,k,ast,oth,(rn,rd'),(cn,cd),ex,rc,pay⟩) ⟨p5,by show 0≤rc;omega,by show 0≤pay;omega⟩);have CR:Hid (rB k=true→(prS (rn,rd')).length≤200∧∀V,Calls Tryz.prog 40 #[.agg #[.string ⟨rn.toArray⟩,.string ⟨rd'.toArray⟩]] V (GiveS V (prS (rn,rd')))):=zh (fun e=>by
   obtain⟨y1,y2,y3⟩:=numB_len p10 e;dsimp only at y2 y3;exact⟨Ac.prS_len y1 y2 y3,fun V=>rdprint_any ⟨rn.toArray⟩ ⟨rd'.toArray⟩ V (by rw[size_of];omega) (by rw[size_of];omega)⟩)
  have CC:Hid (cB k=true→(prS (cn,cd)).length≤200∧∀V,Calls Tryz.prog 40 #[.agg #[.string ⟨cn.toArray⟩,.string ⟨cd.toArray⟩]] V (GiveS V (prS (cn,cd)))):=zh (fun e=>by
   obtain⟨y1,y2,y3⟩:=numB_len p11 e;dsimp only at y2 y3;exact⟨Ac.prS_len y1 y2 y3,fun V=>rdprint_any ⟨cn.toArray⟩ ⟨cd.toArray⟩ V (by rw[size_of];omega) (by rw[size_of];omega)⟩)
  have lo:Hid (oB k=true→oth.length≤20):=zh (fun e=>acname_len (by have:=p9 e;unfold assetB at this;simp only[Bool.and_eq_true]at this;exact this.1));rw[hm]at CM;clear hm;have CW:=zh (fun V=>acword_any k p3 p4 V);have CK:=zh (fun V=>acnames_any k V);have CX:=zh (fun V=>acof (k:=ex) p5 (by omega) V);have CY:=zh (fun V=>acof (k:=rc) (by omega) (by omega) V);have CZ:=zh (fun V=>acof (k:=pay) (by omega) p8 V);have l1:=acname_len p1;have l2:ast.length≤20:=acname_len (by unfold assetB at p2;simp only[Bool.and_eq_true]at p2;exact p2.1);have l3:=wordK_len k;have l4:=dig_9999 p5 (show ex≤9999 by omega);have l5:=dig_9999 (show 0≤rc by omega) (show rc≤9999 by omega);have l6:=dig_9999 (show 0≤pay by omega) p8;have a1:¬9223372036854775807<(wordK k).length+1:=by omega
  have a2:¬9223372036854775807<(wordK k).length+1+nm.length:=by omega
  have a3:¬9223372036854775807<(wordK k).length+1+nm.length+1:=by omega
  have a4:¬9223372036854775807<(wordK k).length+1+nm.length+1+ast.length:=by omega
  have a5:¬9223372036854775807<(wordK k).length+1+nm.length+1+ast.length+1:=by omega
  have a6:¬9223372036854775807<(wordK k).length+1+nm.length+1+ast.length+1+(dig ex.toNat).length:=by omega
  have a7:¬9223372036854775807<(wordK k).length+1+nm.length+1+ast.length+1+(dig ex.toNat).length+1:=by omega
  have a8:¬9223372036854775807<(wordK k).length+1+nm.length+1+ast.length+1+(dig ex.toNat).length+1+(dig rc.toNat).length:=by omega
  have a9:¬9223372036854775807<(wordK k).length+1+nm.length+1+ast.length+1+(dig ex.toNat).length+1+(dig rc.toNat).length+1:=by omega
  have a10:¬9223372036854775807<(wordK k).length+1+nm.length+1+ast.length+1+(dig ex.toNat).length+1+(dig rc.toNat).length+1+(dig pay.toNat).length:=by omega
  generalize oB k=bo at *;generalize rB k=br at *;generalize cB k=bc at *;generalize prS (rn,rd')=tr at *;generalize prS (cn,cd)=tc at *;clear p9 p10 p11;go_enter Tryz.func14,Tryz.ntmps14;go_wp2_with fail;obtain⟨W,hW,BW,_,kk⟩:=layN (Below.refl w.heap.size w) #[.string ⟨nm.toArray⟩,.int .i64 k,.string ⟨ast.toArray⟩,.string ⟨oth.toArray⟩,.string ⟨rn.toArray⟩,.string ⟨rd'.toArray⟩,.string ⟨cn.toArray⟩,.string ⟨cd.toArray⟩,.int .i64 ex,.int .i64 rc,.int .i64 pay] 25;rw[hW];clear hW;have b0:=Below.refl W.heap.size W;have k0:=kk 0 _ rfl;have k1:=kk 1 _ rfl;have k2:=kk 2 _ rfl;have k3:=kk 3 _ rfl;have k4:=kk 4 _ rfl;have k5:=kk 5 _ rfl;have k6:=kk 6 _ rfl;have k7:=kk 7 _ rfl;have k8:=kk 8 _ rfl;have k9:=kk 9 _ rfl;have k10:=kk 10 _ rfl
  clear kk;have hB:=zh (Nat.le_refl W.heap.size);go_wp2_with fail;refine(CM.out _).mono ?_;rintro e1 w1 ⟨rfl,b⟩;have b1:=Below.more b0 b;clear b;go_wp2_with fail;refine(CK.out _).mono ?_;rintro e2 w2 ⟨rfl,b⟩;have b2:=Below.more b1 b;clear b;go_wp2_with fail;refine wp_region_noPanic ?_;refine wp_region_held_drew (S:=fun w'=>Below W.heap.size W w') (by kernel_rfl) (b2.drew) (fun hH0=>?_);refine sch_in [0,1,4,5,8,9,12,13,17,18,22,23] ?_
  iterate 12 (refine sch_yes (v:=?_) rfl (by kernel_rfl) (by rfl) ?_ (by assumption) ?_;rotate_left 1;(· (intro w hSw;(try dsimp only at hSw);go_simp<;>(with_reducible rfl)));try simp only[Act.put,qA,qB,qC,qD,qE,qF])
  refine sch_out ?_;refine wpAnyH_ready (rs:=[2]) (by kernel_rfl) (by simp) ?_;refine AllReadyH.cons rfl (fun K hK=>?_) AllReadyH.nil
  go_simp
  refine(held (W:=W) hB.out (CW.out _) hH0).mono ?_;rintro e x1 ⟨rfl,hb,hw⟩
  (try go_wp2_with fail)
  refine hK.out _ _ hw (fun hH1=>?_);clear hK hH0 hb hw
  try simp only[Act.put,qA,qB,qC,qD,qE,qF]
  refine sch_in [3,6,7,10,11] ?_
  iterate 5 (refine sch_yes (v:=?_) rfl (by kernel_rfl) (by rfl) ?_ (by assumption) ?_;rotate_left 1;(· (intro w hSw;(try dsimp only at hSw);go_simp<;>(with_reducible rfl)));try simp only[Act.put,qA,qB,qC,qD,qE,qF])
  refine sch_out ?_;refine wpAnyH_ready (rs:=[14]) (by kernel_rfl) (by simp) ?_;refine AllReadyH.cons rfl (fun K hK=>?_) AllReadyH.nil
  go_simp
  refine(held (W:=W) hB.out (CX.out _) hH1).mono ?_;rintro e x2 ⟨rfl,hb,hw⟩
  (try go_wp2_with fail)
  refine hK.out _ _ hw (fun hH2=>?_);clear hK hH1 hb hw
  try simp only[Act.put,qA,qB,qC,qD,qE,qF]
  refine sch_in [15,16] ?_
  iterate 2 (refine sch_yes (v:=?_) rfl (by kernel_rfl) (by rfl) ?_ (by assumption) ?_;rotate_left 1;(· (intro w hSw;(try dsimp only at hSw);go_simp<;>(with_reducible rfl)));try simp only[Act.put,qA,qB,qC,qD,qE,qF])
  refine sch_out ?_;refine wpAnyH_ready (rs:=[19]) (by kernel_rfl) (by simp) ?_;refine AllReadyH.cons rfl (fun K hK=>?_) AllReadyH.nil
  go_simp
  refine(held (W:=W) hB.out (CY.out _) hH2).mono ?_;rintro e x3 ⟨rfl,hb,hw⟩
  (try go_wp2_with fail)
  refine hK.out _ _ hw (fun hH3=>?_);clear hK hH2 hb hw
  try simp only[Act.put,qA,qB,qC,qD,qE,qF]
  refine sch_in [20,21] ?_
  iterate 2 (refine sch_yes (v:=?_) rfl (by kernel_rfl) (by rfl) ?_ (by assumption) ?_;rotate_left 1;(· (intro w hSw;(try dsimp only at hSw);go_simp<;>(with_reducible rfl)));try simp only[Act.put,qA,qB,qC,qD,qE,qF])
  refine sch_out ?_;refine wpAnyH_ready (rs:=[24]) (by kernel_rfl) (by simp) ?_;refine AllReadyH.cons rfl (fun K hK=>?_) AllReadyH.nil
  go_simp
  refine(held (W:=W) hB.out (CZ.out _) hH3).mono ?_;rintro e x4 ⟨rfl,hb,hw⟩
  (try go_wp2_with fail)
  refine hK.out _ _ hw (fun hH4=>?_);clear hK hH3 hb hw
  try simp only[Act.put,qA,qB,qC,qD,qE,qF]
  refine sch_in [25,26] ?_
  iterate 2 (refine sch_yes (v:=?_) rfl (by kernel_rfl) (by rfl) ?_ (by assumption) ?_;rotate_left 1;(· (intro w hSw;(try dsimp only at hSw);go_simp<;>(with_reducible rfl)));try simp only[Act.put,qA,qB,qC,qD,qE,qF])
  refine sch_out ?_;refine wpAnyH_done (by kernel_rfl) ?_ _;refine NoPanic.normal ?_;obtain⟨T,hT,HT,tz⟩:∃T:ByteArray,(⟨(wordK k).toArray⟩:ByteArray)++(⟨#[32]⟩:ByteArray)++(⟨nm.toArray⟩:ByteArray)++(⟨#[32]⟩:ByteArray)++(⟨ast.toArray⟩:ByteArray)++(⟨#[32]⟩:ByteArray)++(⟨(dig ex.toNat).toArray⟩:ByteArray)++(⟨#[32]⟩:ByteArray)++(⟨(dig rc.toNat).toArray⟩:ByteArray)++(⟨#[32]⟩:ByteArray)++(⟨(dig pay.toNat).toArray⟩:ByteArray)=T∧Hid (T.data.toList=(wordK k++[32]++nm++[32]++ast++[32]++dig ex.toNat++[32]++dig rc.toNat++[32]++dig pay.toNat))∧T.size≤100:=⟨_,rfl,zh (by simp only[ba_append]),by simp only[ByteArray.size_append,size_of];simp;omega⟩;rw[hT];clear hT
  cases bo with
  | false =>
   cases br with
   | false =>
    cases bc with
    | false =>
     go_wp2_with fail;go_ret;exact⟨ret_str (bytes_eq (by rw[HE.out];simp only[ba_append,HT.out];simp)),Below.more BW hH4⟩
    | true =>
     obtain⟨lc',CC'⟩:=CC.out rfl;replace CC':=zh CC';have e5:¬9223372036854775807<1+tc.length:=by omega
     have e6:¬9223372036854775807<T.size+(1+tc.length):=by omega
     go_wp2_with fail;refine(CC'.out _).mono ?_;rintro e5 w5 ⟨rfl,b⟩;have b5:=Below.more hH4 b;clear b;go_wp2_with fail;go_ret;exact⟨ret_str (bytes_eq (by rw[HE.out];simp only[ba_append,HT.out];simp)),Below.more BW b5⟩
   | true =>
    cases bc with
    | false =>
     obtain⟨lr',CR'⟩:=CR.out rfl;replace CR':=zh CR';have e3:¬9223372036854775807<1+tr.length:=by omega
     have e4:¬9223372036854775807<T.size+(1+tr.length):=by omega
     go_wp2_with fail;refine(CR'.out _).mono ?_;rintro e5 w5 ⟨rfl,b⟩;have b5:=Below.more hH4 b;clear b;go_wp2_with fail;go_ret;exact⟨ret_str (bytes_eq (by rw[HE.out];simp only[ba_append,HT.out];simp)),Below.more BW b5⟩
    | true =>
     obtain⟨lr',CR'⟩:=CR.out rfl;replace CR':=zh CR';have e3:¬9223372036854775807<1+tr.length:=by omega
     have e4:¬9223372036854775807<T.size+(1+tr.length):=by omega
     obtain⟨lc',CC'⟩:=CC.out rfl;replace CC':=zh CC';have e5:¬9223372036854775807<1+tc.length:=by omega
     have e6:¬9223372036854775807<T.size+(1+tr.length)+(1+tc.length):=by omega
     go_wp2_with fail;refine(CR'.out _).mono ?_;rintro e5 w5 ⟨rfl,b⟩;have b5:=Below.more hH4 b;clear b;go_wp2_with fail;refine(CC'.out _).mono ?_;rintro e6 w6 ⟨rfl,b⟩;have b6:=Below.more b5 b;clear b;go_wp2_with fail;go_ret;exact⟨ret_str (bytes_eq (by rw[HE.out];simp only[ba_append,HT.out];simp)),Below.more BW b6⟩
  | true =>
   cases br with
   | false =>
    cases bc with
    | false =>
     have lo':=lo.out rfl;have e1:¬9223372036854775807<1+oth.length:=by omega
     have e2:¬9223372036854775807<T.size+(1+oth.length):=by omega
     go_wp2_with fail;go_ret;exact⟨ret_str (bytes_eq (by rw[HE.out];simp only[ba_append,HT.out];simp)),Below.more BW hH4⟩
    | true =>
     have lo':=lo.out rfl;have e1:¬9223372036854775807<1+oth.length:=by omega
     have e2:¬9223372036854775807<T.size+(1+oth.length):=by omega
     obtain⟨lc',CC'⟩:=CC.out rfl;replace CC':=zh CC';have e5:¬9223372036854775807<1+tc.length:=by omega
     have e6:¬9223372036854775807<T.size+(1+oth.length)+(1+tc.length):=by omega
     go_wp2_with fail;refine(CC'.out _).mono ?_;rintro e5 w5 ⟨rfl,b⟩;have b5:=Below.more hH4 b;clear b;go_wp2_with fail;go_ret;exact⟨ret_str (bytes_eq (by rw[HE.out];simp only[ba_append,HT.out];simp)),Below.more BW b5⟩
   | true =>
    cases bc with
    | false =>
     have lo':=lo.out rfl;have e1:¬9223372036854775807<1+oth.length:=by omega
     have e2:¬9223372036854775807<T.size+(1+oth.length):=by omega
     obtain⟨lr',CR'⟩:=CR.out rfl;replace CR':=zh CR';have e3:¬9223372036854775807<1+tr.length:=by omega
     have e4:¬9223372036854775807<T.size+(1+oth.length)+(1+tr.length):=by omega
     go_wp2_with fail;refine(CR'.out _).mono ?_;rintro e5 w5 ⟨rfl,b⟩;have b5:=Below.more hH4 b;clear b;go_wp2_with fail;go_ret;exact⟨ret_str (bytes_eq (by rw[HE.out];simp only[ba_append,HT.out];simp)),Below.more BW b5⟩
    | true =>
     have lo':=lo.out rfl;have e1:¬9223372036854775807<1+oth.length:=by omega
     have e2:¬9223372036854775807<T.size+(1+oth.length):=by omega
     obtain⟨lr',CR'⟩:=CR.out rfl;replace CR':=zh CR';have e3:¬9223372036854775807<1+tr.length:=by omega
     have e4:¬9223372036854775807<T.size+(1+oth.length)+(1+tr.length):=by omega
     obtain⟨lc',CC'⟩:=CC.out rfl;replace CC':=zh CC';have e5:¬9223372036854775807<1+tc.length:=by omega
     have e6:¬9223372036854775807<T.size+(1+oth.length)+(1+tr.length)+(1+tc.length):=by omega
     go_wp2_with fail;refine(CR'.out _).mono ?_;rintro e5 w5 ⟨rfl,b⟩;have b5:=Below.more hH4 b;clear b;go_wp2_with fail;refine(CC'.out _).mono ?_;rintro e6 w6 ⟨rfl,b⟩;have b6:=Below.more b5 b;clear b;go_wp2_with fail;go_ret;exact⟨ret_str (bytes_eq (by rw[HE.out];simp only[ba_append,HT.out];simp)),Below.more BW b6⟩
theorem acprint_any(a:Actn)(w:World)(h:SzA a):Calls Tryz.prog 14 #[.agg #[.string ⟨a.nm.toArray⟩,.int .i64 a.kind,.string ⟨a.ast.toArray⟩,.string ⟨a.oth.toArray⟩,.string ⟨a.ratio.1.toArray⟩,.string ⟨a.ratio.2.toArray⟩,.string ⟨a.cash.1.toArray⟩,.string ⟨a.cash.2.toArray⟩,.int .i64 a.ex,.int .i64 a.rc,.int .i64 a.pay]] w (GiveS w (printA a)) :=
 acprint_x a.nm a.ast a.oth a.ratio.1 a.ratio.2 a.cash.1 a.cash.2 a.kind a.ex a.rc a.pay w h
end Go.Proofs.YtcebkcilkhebeaaGreatDoor
set_option maxHeartbeats 2000000
set_option maxRecDepth 100000
namespace Go.Proofs.YtcebkcilkhebeaaGreatDoor
open Go.RowKit
theorem rdparse_long(s:ByteArray)(w:World)(hs:s.size≤1000000)(h:1000<s.size) :
  Calls Tryz.prog 27 #[.string s] w (GiveRE w (([],[]),40)):=by
 go_enter Tryz.func27,Tryz.ntmps27;go_wp2_with fail;obtain⟨W,hW,BW,sW,k0,k1,k2,k3⟩:=box2 w (.string ⟨#[]⟩) (.string ⟨#[]⟩) (.string ⟨#[]⟩) (.string ⟨#[]⟩) 23 23;rw[hW];clear hW;have b0:=Below.refl W.heap.size W;refine bodyPost_ret (v:=.tuple #[.agg #[.string ⟨#[]⟩,.string ⟨#[]⟩],.int .i64 40]) (by simp[results,Tryz.results27,go_sem, *]) rfl ⟨rfl,BW⟩
end Go.Proofs.YtcebkcilkhebeaaGreatDoor
namespace Go.Proofs.YtcebkcilkhebeaaGreatDoor
open Go.RowKit
theorem boxz2(w:World)(x y a b:Value)(z t:TypeId):∃W,(w.alloc (.cells #[x,y] z)).alloc (.cells #[a,b] t)=W∧Below w.heap.size w W∧w.heap.size+1+1=W.heap.size ∧
  (∀v,Below W.heap.size W v→v.cell? ⟨w.heap.size,0,none⟩=some x)∧(∀v,Below W.heap.size W v→v.cell? ⟨w.heap.size,1,none⟩=some y) ∧
  (∀v,Below W.heap.size W v→v.frozen? ⟨w.heap.size,0,none⟩=false)∧(∀v,Below W.heap.size W v→v.frozen? ⟨w.heap.size,1,none⟩=false) ∧
  (∀v,Below W.heap.size W v→v.cell? ⟨w.heap.size+1,0,none⟩=some a)∧(∀v,Below W.heap.size W v→v.cell? ⟨w.heap.size+1,1,none⟩=some b):=by
 obtain⟨V,hV,B,s,c0,c1,f0,f1⟩:=box0z w x y z;rw[hV];have hz:∀v,Below (V.alloc (.cells #[a,b] t)).heap.size (V.alloc (.cells #[a,b] t)) v→Zc (w.heap.size+1) a b v:=fun v h=>by rw[s];exact zc_made h
 exact⟨_,rfl,Below.more B (Below.step _ (Below.refl _ _)),by rw[s];simp,fun v h=>c0 v (Below.step _ h),fun v h=>c1 v (Below.step _ h),fun v h=>f0 v (Below.step _ h),fun v h=>f1 v (Below.step _ h),fun v h=>(hz v h).c0,fun v h=>(hz v h).c1⟩
end Go.Proofs.YtcebkcilkhebeaaGreatDoor
