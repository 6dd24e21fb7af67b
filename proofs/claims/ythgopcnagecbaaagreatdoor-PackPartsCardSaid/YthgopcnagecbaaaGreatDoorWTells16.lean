/- Own work. -/
import Derived.Test.YthgopcnagecbaaaGreatDoorWMay16
import Derived.Test.YthgopcnagecbaaaGreatDoorAllRefM2
import Derived.Test.YthgopcnagecbaaaGreatDoorAllRefK2
import Derived.Test.YthgopcnagecbaaaGreatDoorPkLt
set_option linter.unusedSimpArgs false
set_option linter.unusedVariables false
set_option maxHeartbeats 8000000
set_option maxRecDepth 100000
namespace Go.Proofs.YthgopcnagecbaaaGreatDoor
open Go.RowKit
open Pk (Part Pack mayP valueP keepsP ofP)
variable {G : World → Prop}
theorem light_sz{ps:List Part}{un ud:List UInt8}(h:lightP ⟨ps,(un,ud)⟩=true):((∀y∈ps,y.1.length≤4611686018427387904)∧SzPk 20 ⟨ps,(un,ud)⟩)∧ps.length≤4:=by
 unfold lightP lightPt at h;simp only[Bool.and_eq_true,decide_eq_true_eq,List.all_eq_true]at h;obtain⟨h1,h2,h3,h4⟩:=h;exact⟨⟨fun y hy=>by have:=(h1 y hy).2.2;omega,fun y hy=>⟨(h1 y hy).1,(h1 y hy).2.1⟩,h3,h4⟩,h2⟩
theorem small_sz{l:List Fx.Fix}(h:smallX l=true):SzFx 40 l∧l.length≤60:=by
 obtain⟨h1,h2⟩:=smallX_iff.1 h;exact⟨fun y hy=>by have:=smX_iff.1 (h1 y hy);exact⟨by omega,by omega,by omega⟩,h2⟩
theorem tells16_x(nm ast oth rn rd cn cd:List UInt8)(k ex rc pay:Int)(p q:Option Addr)(c d:Nat)(ps:List Part)(un ud s:List UInt8)(l:List Fx.Fix)(day:Int)(H:PackC G)(w:World)(hza:nm.length+ast.length+oth.length≤4611686018427387904)(hc:ps.length≤c)(hpl:ps.length≤4611686018427387904)(hd:l.length≤d)(hxl:l.length≤4611686018427387904)(hp:Pts w p ps)(hx:Fxs w q l)(hg:G w) :
  Calls Tryz.prog 3 #[.agg #[.string ⟨nm.toArray⟩,.int .i64 k,.string ⟨ast.toArray⟩,.string ⟨oth.toArray⟩,.string ⟨rn.toArray⟩,.string ⟨rd.toArray⟩,.string ⟨cn.toArray⟩,.string ⟨cd.toArray⟩,.int .i64 ex,.int .i64 rc,.int .i64 pay],.agg #[.slice p ps.length c,.string ⟨un.toArray⟩,.string ⟨ud.toArray⟩],.agg #[.slice q l.length d,.int .i64 day,.string ⟨s.toArray⟩]] w (GiveB w true):=by
 have HB:=zh H;have HG:=zh hg;have HP0:=zh hp;have HX0:=zh hx
 have FX:=zh (fun V g=>fixed16_any H V g);have CLA:=zh (fun V=>aclight_y nm ast oth rn rd cn cd k ex rc pay V hza);have HZA:Hid (lightA ⟨nm,k,ast,oth,(rn,rd),(cn,cd),ex,rc,pay⟩=true→SzA ⟨nm,k,ast,oth,(rn,rd),(cn,cd),ex,rc,pay⟩):=zh (fun h=>by
  unfold lightA at h;simp only[Bool.and_eq_true,decide_eq_true_eq]at h;exact⟨⟨by show nm.length≤_;omega,by show ast.length≤_;omega,by show oth.length≤_;omega⟩,⟨by show rn.length≤_;omega,by show rd.length≤_;omega⟩,by show cn.length≤_;omega,by show cd.length≤_;omega⟩)
 have CLP:=zh (fun V (h:Pts V p ps)=>pklight_y p c ps un ud V hc hpl h);have HZP:Hid (lightP ⟨ps,(un,ud)⟩=true→_):=zh (fun h=>light_sz h);have CLX:=zh (fun V (h:Fxs V q l)=>rfsmall_any q d l V hd hxl h);have HZX:Hid (smallX l=true→_):=zh (fun h=>small_sz h);clear H hg hp hx hza hpl hxl;generalize lightA _=la at CLA HZA;generalize lightP _=lp at CLP HZP;generalize smallX _=lx at CLX HZX;go_enter Tryz.func3,Tryz.ntmps3;have BW:=Below.refl w.heap.size w;have b0:=Below.refl w.heap.size w;go_wp2_with fail;obtain⟨U1,hU,bU,s1,kk⟩:=layN b0 #[.string ⟨nm.toArray⟩,.int .i64 k,.string ⟨ast.toArray⟩,.string ⟨oth.toArray⟩,.string ⟨rn.toArray⟩,.string ⟨rd.toArray⟩,.string ⟨cn.toArray⟩,.string ⟨cd.toArray⟩,.int .i64 ex,.int .i64 rc,.int .i64 pay] 25;rw[hU];clear hU;have ra0:=kk 0 _ rfl;have ra1:=kk 1 _ rfl;have ra2:=kk 2 _ rfl;have ra3:=kk 3 _ rfl;have ra4:=kk 4 _ rfl;have ra5:=kk 5 _ rfl;have ra6:=kk 6 _ rfl;have ra7:=kk 7 _ rfl;have ra8:=kk 8 _ rfl;have ra9:=kk 9 _ rfl;have ra10:=kk 10 _ rfl
 clear kk;replace BW:=Below.more BW bU;replace HG:=zh (HB.out.below HG.out bU);clear bU;have b1:=Below.refl U1.heap.size U1;obtain⟨U2,hU,bU,s2,kk⟩:=layN b1 #[.slice p ps.length c,.string ⟨un.toArray⟩,.string ⟨ud.toArray⟩] 28;rw[hU];clear hU;rw[←s1]at kk;have rp0:=kk 0 _ rfl;have rp1:=kk 1 _ rfl;have rp2:=kk 2 _ rfl
 clear kk;replace ra0:=fun v (h:Below U2.heap.size U2 v)=>ra0 v (Below.more bU h);replace ra1:=fun v (h:Below U2.heap.size U2 v)=>ra1 v (Below.more bU h);replace ra2:=fun v (h:Below U2.heap.size U2 v)=>ra2 v (Below.more bU h);replace ra3:=fun v (h:Below U2.heap.size U2 v)=>ra3 v (Below.more bU h);replace ra4:=fun v (h:Below U2.heap.size U2 v)=>ra4 v (Below.more bU h);replace ra5:=fun v (h:Below U2.heap.size U2 v)=>ra5 v (Below.more bU h);replace ra6:=fun v (h:Below U2.heap.size U2 v)=>ra6 v (Below.more bU h);replace ra7:=fun v (h:Below U2.heap.size U2 v)=>ra7 v (Below.more bU h);replace ra8:=fun v (h:Below U2.heap.size U2 v)=>ra8 v (Below.more bU h);replace ra9:=fun v (h:Below U2.heap.size U2 v)=>ra9 v (Below.more bU h);replace ra10:=fun v (h:Below U2.heap.size U2 v)=>ra10 v (Below.more bU h);replace BW:=Below.more BW bU;replace HG:=zh (HB.out.below HG.out bU);clear bU;have b2:=Below.refl U2.heap.size U2;obtain⟨U3,hU,bU,s3,kk⟩:=layN b2 #[.slice q l.length d,.int .i64 day,.string ⟨s.toArray⟩] 31;rw[hU];clear hU;rw[←s2]at kk;rw[←s1]at kk;have rx0:=kk 0 _ rfl;have rx1:=kk 1 _ rfl;have rx2:=kk 2 _ rfl
 clear kk;replace ra0:=fun v (h:Below U3.heap.size U3 v)=>ra0 v (Below.more bU h);replace ra1:=fun v (h:Below U3.heap.size U3 v)=>ra1 v (Below.more bU h);replace ra2:=fun v (h:Below U3.heap.size U3 v)=>ra2 v (Below.more bU h);replace ra3:=fun v (h:Below U3.heap.size U3 v)=>ra3 v (Below.more bU h);replace ra4:=fun v (h:Below U3.heap.size U3 v)=>ra4 v (Below.more bU h);replace ra5:=fun v (h:Below U3.heap.size U3 v)=>ra5 v (Below.more bU h);replace ra6:=fun v (h:Below U3.heap.size U3 v)=>ra6 v (Below.more bU h);replace ra7:=fun v (h:Below U3.heap.size U3 v)=>ra7 v (Below.more bU h);replace ra8:=fun v (h:Below U3.heap.size U3 v)=>ra8 v (Below.more bU h);replace ra9:=fun v (h:Below U3.heap.size U3 v)=>ra9 v (Below.more bU h);replace ra10:=fun v (h:Below U3.heap.size U3 v)=>ra10 v (Below.more bU h);replace rp0:=fun v (h:Below U3.heap.size U3 v)=>rp0 v (Below.more bU h);replace rp1:=fun v (h:Below U3.heap.size U3 v)=>rp1 v (Below.more bU h);replace rp2:=fun v (h:Below U3.heap.size U3 v)=>rp2 v (Below.more bU h);replace BW:=Below.more BW bU;replace HG:=zh (HB.out.below HG.out bU);clear bU;have b3:=Below.refl U3.heap.size U3;clear s1;clear s2;clear s3;have LP:=zh (HP0.out.below BW);have LX:=zh (HX0.out.below BW)
 clear HP0 HX0;refine(CLA.out _).mono ?_;rintro e w4 ⟨rfl,b⟩;have b4:=Below.more b3 b;clear b
 cases la with
 | false =>
  go_wp2_with fail;refine(FX.out _ (HB.out.below HG.out b4)).mono ?_;rintro e w5 ⟨rfl,b⟩;have b5:=Below.more b4 b;clear b;go_wp2_with fail;go_ret;exact⟨ret_bool (by first|rfl|simp),Below.more BW b5⟩
 | true =>
 go_wp2_with fail;refine(CLP.out _ (LP.out.below b4)).mono ?_;rintro e w5 ⟨rfl,b⟩;have b5:=Below.more b4 b;clear b
 cases lp with
 | false =>
  go_wp2_with fail;refine(FX.out _ (HB.out.below HG.out b5)).mono ?_;rintro e w6 ⟨rfl,b⟩;have b6:=Below.more b5 b;clear b;go_wp2_with fail;go_ret;exact⟨ret_bool (by first|rfl|simp),Below.more BW b6⟩
 | true =>
 go_wp2_with fail;refine(CLX.out _ (LX.out.below b5)).mono ?_;rintro e w6 ⟨rfl,b⟩;have b6:=Below.more b5 b;clear b
 cases lx with
 | false =>
  go_wp2_with fail;refine(FX.out _ (HB.out.below HG.out b6)).mono ?_;rintro e w7 ⟨rfl,b⟩;have b7:=Below.more b6 b;clear b;go_wp2_with fail;go_ret;exact⟨ret_bool (by first|rfl|simp),Below.more BW b7⟩
 | true =>
 have hzp:=HZP.out (by simp);have hzx:=HZX.out (by simp);have hza:=HZA.out (by simp)
 clear HZP HZX HZA CLA CLP CLX;have hpl:ps.length≤4:=hzp.2;have hxl:l.length≤60:=hzx.2;have hK:(ps.length+1)*(2*40+3)≤10000:=Nat.le_trans (Nat.mul_le_mul_right _ (by omega:ps.length+1≤5)) (by decide);obtain⟨⟨gn,gd⟩,hgq⟩:∃y,optR (valueP ⟨ps,(un,ud)⟩ l day)=y:=⟨_,rfl⟩;obtain⟨gb,hgb⟩:∃y,(valueP ⟨ps,(un,ud)⟩ l day).isSome=y:=⟨_,rfl⟩;have CV:Hid (∀V,Pts V p ps→Fxs V q l→G V→Calls Tryz.prog 12 #[.agg #[.slice p ps.length c,.string ⟨un.toArray⟩,.string ⟨ud.toArray⟩],.slice q l.length d,.int .i64 day] V (GiveW V (.tuple #[.agg #[.string ⟨gn.toArray⟩,.string ⟨gd.toArray⟩],.bool gb]))):=zh (fun V h1 h2 g=>by
  have k:=HB.out.value p q c d ⟨ps,(un,ud)⟩ l day 40 V hc hd (by omega) hK (hzp.1.2.mono (by decide)) hzx.1 h1 h2 g;unfold GiveG at k;rw[hgq,hgb]at k;exact k)
 have DV:Hid (∀V,Pts V p ps→Fxs V q l→Calls Tryz.prog 13 #[.agg #[.slice p ps.length c,.string ⟨un.toArray⟩,.string ⟨ud.toArray⟩],.slice q l.length d,.int .i64 day] V (GiveW V (.tuple #[.agg #[.string ⟨gn.toArray⟩,.string ⟨gd.toArray⟩],.bool gb]))):=zh (fun V h1 h2=>by
  have k:=pkvalue_any p q c d ⟨ps,(un,ud)⟩ l day 40 V hc hd (by omega) hK hzp.1.1 (hzp.1.2.mono (by decide)) hzx.1 h1 h2;unfold GiveG at k;rw[hgq,hgb]at k;exact k)
 have CM:=zh (fun V (h:Pts V p ps) g=>HB.out.may p c ⟨ps,(un,ud)⟩ V hc (show ps.length≤1000 by omega) (hzp.1.2.mono (by decide)) h g);have DM:=zh (fun V (h:Pts V p ps)=>pkmay_any p c ps un ud V (by omega) (fun y hy=>⟨hzp.1.1 y hy,Nat.le_trans (hzp.1.2.1 y hy).1 (by decide),Nat.le_trans (hzp.1.2.1 y hy).2 (by decide)⟩) (Nat.le_trans hzp.1.2.2.1 (by decide)) (Nat.le_trans hzp.1.2.2.2 (by decide)) h);have CK:=zh (fun V (h:Pts V p ps) g=>HB.out.keeps p c ⟨ps,(un,ud)⟩ s V hc (show ps.length≤1000 by omega) h g);have DK:=zh (fun V (h:Pts V p ps)=>pkkeeps_any p c ps un ud s V (by omega) h);have CO:=zh (fun V g=>HB.out.of ⟨nm,k,ast,oth,(rn,rd),(cn,cd),ex,rc,pay⟩ V g);have DO:=zh (fun V=>pkof_any ⟨nm,k,ast,oth,(rn,rd),(cn,cd),ex,rc,pay⟩ V hza);have hol:(ofP ⟨nm,k,ast,oth,(rn,rd),(cn,cd),ex,rc,pay⟩).parts.length≤4611686018427387904:=by
  cases hm:Ac.mayA ⟨nm,k,ast,oth,(rn,rd),(cn,cd),ex,rc,pay⟩ with
  | false=>unfold ofP;rw[if_neg (by rw[hm];decide)];exact Nat.zero_le _
  | true=>rw[(Pk.of_may hm).2.1];split<;>decide
 generalize ofP ⟨nm,k,ast,oth,(rn,rd),(cn,cd),ex,rc,pay⟩=P at *;generalize mayP ⟨ps,(un,ud)⟩=mp at *;generalize keepsP ⟨ps,(un,ud)⟩ s=kp at *;obtain⟨pl,⟨vn,vd⟩⟩:=P;have HOL:=zh hol;clear hgq hgb hzp hzx hza hol hK;go_wp2_with fail;refine(CV.out _ (LP.out.below b6) (LX.out.below b6) (HB.out.below HG.out b6)).mono ?_;rintro e w7 ⟨rfl,b⟩;have b7:=Below.more b6 b;clear b;have ba:=fun x=>Below.alloc b7 (Below.size b7) x;go_wp2_with fail;clear ba;obtain⟨U8,hU,bU,s8,kk⟩:=layN b7 #[.string ⟨gn.toArray⟩,.string ⟨gd.toArray⟩] 23;rw[hU];clear hU;have rv0:=kk 0 _ rfl;have rv1:=kk 1 _ rfl
 clear kk s8;replace ra0:=fun v (h:Below U8.heap.size U8 v)=>ra0 v (Below.more bU h);replace ra1:=fun v (h:Below U8.heap.size U8 v)=>ra1 v (Below.more bU h);replace ra2:=fun v (h:Below U8.heap.size U8 v)=>ra2 v (Below.more bU h);replace ra3:=fun v (h:Below U8.heap.size U8 v)=>ra3 v (Below.more bU h);replace ra4:=fun v (h:Below U8.heap.size U8 v)=>ra4 v (Below.more bU h);replace ra5:=fun v (h:Below U8.heap.size U8 v)=>ra5 v (Below.more bU h);replace ra6:=fun v (h:Below U8.heap.size U8 v)=>ra6 v (Below.more bU h);replace ra7:=fun v (h:Below U8.heap.size U8 v)=>ra7 v (Below.more bU h);replace ra8:=fun v (h:Below U8.heap.size U8 v)=>ra8 v (Below.more bU h);replace ra9:=fun v (h:Below U8.heap.size U8 v)=>ra9 v (Below.more bU h);replace ra10:=fun v (h:Below U8.heap.size U8 v)=>ra10 v (Below.more bU h);replace rp0:=fun v (h:Below U8.heap.size U8 v)=>rp0 v (Below.more bU h);replace rp1:=fun v (h:Below U8.heap.size U8 v)=>rp1 v (Below.more bU h);replace rp2:=fun v (h:Below U8.heap.size U8 v)=>rp2 v (Below.more bU h);replace rx0:=fun v (h:Below U8.heap.size U8 v)=>rx0 v (Below.more bU h);replace rx1:=fun v (h:Below U8.heap.size U8 v)=>rx1 v (Below.more bU h);replace rx2:=fun v (h:Below U8.heap.size U8 v)=>rx2 v (Below.more bU h);replace LP:=zh (LP.out.below bU);replace LX:=zh (LX.out.below bU);replace BW:=Below.more BW bU;replace HG:=zh (HB.out.below HG.out bU);clear bU;have b8:=Below.refl U8.heap.size U8;go_wp2_with fail;refine(DV.out _ (LP.out.below b8) (LX.out.below b8)).mono ?_;rintro e w9 ⟨rfl,b⟩
 have b9:=Below.more b8 b;clear b;have ba:=fun x=>Below.alloc b9 (Below.size b9) x;go_wp2_with fail;clear ba;obtain⟨U10,hU,bU,s10,kk⟩:=layN b9 #[.string ⟨gn.toArray⟩,.string ⟨gd.toArray⟩] 23;rw[hU];clear hU;have ry0:=kk 0 _ rfl;have ry1:=kk 1 _ rfl
 clear kk s10;replace ra0:=fun v (h:Below U10.heap.size U10 v)=>ra0 v (Below.more bU h);replace ra1:=fun v (h:Below U10.heap.size U10 v)=>ra1 v (Below.more bU h);replace ra2:=fun v (h:Below U10.heap.size U10 v)=>ra2 v (Below.more bU h);replace ra3:=fun v (h:Below U10.heap.size U10 v)=>ra3 v (Below.more bU h);replace ra4:=fun v (h:Below U10.heap.size U10 v)=>ra4 v (Below.more bU h);replace ra5:=fun v (h:Below U10.heap.size U10 v)=>ra5 v (Below.more bU h);replace ra6:=fun v (h:Below U10.heap.size U10 v)=>ra6 v (Below.more bU h);replace ra7:=fun v (h:Below U10.heap.size U10 v)=>ra7 v (Below.more bU h);replace ra8:=fun v (h:Below U10.heap.size U10 v)=>ra8 v (Below.more bU h);replace ra9:=fun v (h:Below U10.heap.size U10 v)=>ra9 v (Below.more bU h);replace ra10:=fun v (h:Below U10.heap.size U10 v)=>ra10 v (Below.more bU h);replace rp0:=fun v (h:Below U10.heap.size U10 v)=>rp0 v (Below.more bU h);replace rp1:=fun v (h:Below U10.heap.size U10 v)=>rp1 v (Below.more bU h);replace rp2:=fun v (h:Below U10.heap.size U10 v)=>rp2 v (Below.more bU h);replace rx0:=fun v (h:Below U10.heap.size U10 v)=>rx0 v (Below.more bU h);replace rx1:=fun v (h:Below U10.heap.size U10 v)=>rx1 v (Below.more bU h);replace rx2:=fun v (h:Below U10.heap.size U10 v)=>rx2 v (Below.more bU h);replace rv0:=fun v (h:Below U10.heap.size U10 v)=>rv0 v (Below.more bU h);replace rv1:=fun v (h:Below U10.heap.size U10 v)=>rv1 v (Below.more bU h);replace LP:=zh (LP.out.below bU);replace LX:=zh (LX.out.below bU);replace BW:=Below.more BW bU
 replace HG:=zh (HB.out.below HG.out bU);clear bU;have b10:=Below.refl U10.heap.size U10;go_wp2_with fail;have hB:=zh (Nat.le_refl U10.heap.size);refine wp_region_noPanic ?_;refine wp_region_held_drew (S:=fun w'=>Below U10.heap.size U10 w') (by kernel_rfl) (b10.drew) (fun hH0=>?_);refine wpAnyH_ready (rs:=[0]) (by kernel_rfl) (by simp) ?_;refine AllReadyH.cons rfl (fun K hK=>?_) AllReadyH.nil
 go_simp
 refine(held (W:=U10) hB.out (FX.out _ (HB.out.below HG.out (by assumption))) (by assumption)).mono ?_;rintro e x1 ⟨rfl,hb,hw⟩
 (try go_wp2_with fail)
 refine hK.out _ _ hw (fun hH1=>?_);clear hK hH0 hb hw
 try simp only[Act.put,qA,qB,qC,qD,qE,qF]
 refine wpAnyH_take (i:=1) (v:=?_) rfl (by kernel_rfl) (by kernel_rfl) (by kernel_rfl) (fun _ _ _ h=>h) (Or.inl ⟨by rfl,?_⟩) (by assumption) ?_;rotate_left 1
 ·(intro w hSw;(try dsimp only at hSw);go_simp<;>(with_reducible rfl))
 try simp only[Act.put,qA,qB,qC,qD,qE,qF]
 refine wpAnyH_take (i:=2) (v:=?_) rfl (by kernel_rfl) (by kernel_rfl) (by kernel_rfl) (fun _ _ _ h=>h) (Or.inl ⟨by rfl,?_⟩) (by assumption) ?_;rotate_left 1
 ·(intro w hSw;(try dsimp only at hSw);go_simp<;>(with_reducible rfl))
 try simp only[Act.put,qA,qB,qC,qD,qE,qF]
 refine wpAnyH_take (i:=4) (v:=?_) rfl (by kernel_rfl) (by kernel_rfl) (by kernel_rfl) (fun _ _ _ h=>h) (Or.inl ⟨by rfl,?_⟩) (by assumption) ?_;rotate_left 1
 ·(intro w hSw;(try dsimp only at hSw);go_simp<;>(with_reducible rfl))
 try simp only[Act.put,qA,qB,qC,qD,qE,qF]
 refine wpAnyH_ready (rs:=[3]) (by kernel_rfl) (by simp) ?_;refine AllReadyH.cons rfl (fun K hK=>?_) AllReadyH.nil
 go_simp
 refine(CO.out _ (HB.out.below HG.out (by assumption))).mono ?_;rintro e x2 ⟨⟨pO,cO,rfl,hcO,hlO⟩,hb⟩;have hw:Below U10.heap.size U10 x2:=hH1.trans (hb.mono (Nat.le_trans hB.out hH1.size));have LO:Hid (Pts x2 pO pl):=zh hlO;clear hlO hcO
 (try go_wp2_with fail)
 refine hK.out _ _ hw (fun hH2=>?_);clear hK hH1 hb hw
 try simp only[Act.put,qA,qB,qC,qD,qE,qF]
 refine wpAnyH_ready (rs:=[5]) (by kernel_rfl) (by simp) ?_;refine AllReadyH.cons rfl (fun K hK=>?_) AllReadyH.nil
 go_simp
 refine(DO.out _).mono ?_;rintro e x3 ⟨⟨pD,cD,rfl,hcD,hlD⟩,hb⟩;have hw:Below U10.heap.size U10 x3:=hH2.trans (hb.mono (Nat.le_trans hB.out hH2.size));replace LO:=zh (LO.out.below hb);have LD:Hid (Pts x3 pD pl):=zh hlD;clear hlD hcD
 (try go_wp2_with fail)
 refine hK.out _ _ hw (fun hH3=>?_);clear hK hH2 hb hw
 try simp only[Act.put,qA,qB,qC,qD,qE,qF]
 refine wpAnyH_ready (rs:=[6]) (by kernel_rfl) (by simp) ?_;refine AllReadyH.cons rfl (fun K hK=>?_) AllReadyH.nil
 go_simp
 have CS:=pksame_any pO pD cO cD pl pl vn vd vn vd _ HOL.out HOL.out LO.out LD.out;rw[show sameP pl pl (vn,vd) (vn,vd)=true by unfold sameP;simp]at CS;refine(held (W:=U10) hB.out CS (by assumption)).mono ?_;rintro e x4 ⟨rfl,hb,hw⟩
 (try go_wp2_with fail)
 refine hK.out _ _ hw (fun hH4=>?_);clear hK hH3 hb hw
 try simp only[Act.put,qA,qB,qC,qD,qE,qF]
 refine wpAnyH_take (i:=7) (v:=?_) rfl (by kernel_rfl) (by kernel_rfl) (by kernel_rfl) (fun _ _ _ h=>h) (Or.inl ⟨by rfl,?_⟩) (by assumption) ?_;rotate_left 1
 ·(intro w hSw;(try dsimp only at hSw);go_simp<;>(with_reducible rfl))
 try simp only[Act.put,qA,qB,qC,qD,qE,qF]
 refine wpAnyH_take (i:=8) (v:=?_) rfl (by kernel_rfl) (by kernel_rfl) (by kernel_rfl) (fun _ _ _ h=>h) (Or.inl ⟨by rfl,?_⟩) (by assumption) ?_;rotate_left 1
 ·(intro w hSw;(try dsimp only at hSw);go_simp<;>(with_reducible rfl))
 try simp only[Act.put,qA,qB,qC,qD,qE,qF]
 refine wpAnyH_take (i:=9) (v:=?_) rfl (by kernel_rfl) (by kernel_rfl) (by kernel_rfl) (fun _ _ _ h=>h) (Or.inl ⟨by rfl,?_⟩) (by assumption) ?_;rotate_left 1
 ·(intro w hSw;(try dsimp only at hSw);go_simp<;>(with_reducible rfl))
 try simp only[Act.put,qA,qB,qC,qD,qE,qF]
 refine wpAnyH_take (i:=11) (v:=?_) rfl (by kernel_rfl) (by kernel_rfl) (by kernel_rfl) (fun _ _ _ h=>h) (Or.inl ⟨by rfl,?_⟩) (by assumption) ?_;rotate_left 1
 ·(intro w hSw;(try dsimp only at hSw);go_simp<;>(with_reducible rfl))
 try simp only[Act.put,qA,qB,qC,qD,qE,qF]
 refine wpAnyH_ready (rs:=[10]) (by kernel_rfl) (by simp) ?_;refine AllReadyH.cons rfl (fun K hK=>?_) AllReadyH.nil
 go_simp
 refine(held (W:=U10) hB.out (CM.out _ (LP.out.below (by assumption)) (HB.out.below HG.out (by assumption))) (by assumption)).mono ?_;rintro e x5 ⟨rfl,hb,hw⟩
 (try go_wp2_with fail)
 refine hK.out _ _ hw (fun hH5=>?_);clear hK hH4 hb hw
 try simp only[Act.put,qA,qB,qC,qD,qE,qF]
 refine wpAnyH_ready (rs:=[12]) (by kernel_rfl) (by simp) ?_;refine AllReadyH.cons rfl (fun K hK=>?_) AllReadyH.nil
 go_simp
 refine(held (W:=U10) hB.out (DM.out _ (LP.out.below (by assumption))) (by assumption)).mono ?_;rintro e x6 ⟨rfl,hb,hw⟩
 (try go_wp2_with fail)
 refine hK.out _ _ hw (fun hH6=>?_);clear hK hH5 hb hw
 try simp only[Act.put,qA,qB,qC,qD,qE,qF]
 refine wpAnyH_take (i:=13) (v:=?_) rfl (by kernel_rfl) (by kernel_rfl) (by kernel_rfl) (fun _ _ _ h=>h) (Or.inl ⟨by rfl,?_⟩) (by assumption) ?_;rotate_left 1
 ·(intro w hSw;(try dsimp only at hSw);go_simp<;>(with_reducible rfl))
 try simp only[Act.put,qA,qB,qC,qD,qE,qF]
 refine wpAnyH_take (i:=14) (v:=?_) rfl (by kernel_rfl) (by kernel_rfl) (by kernel_rfl) (fun _ _ _ h=>h) (Or.inl ⟨by rfl,?_⟩) (by assumption) ?_;rotate_left 1
 ·(intro w hSw;(try dsimp only at hSw);go_simp<;>(with_reducible rfl))
 try simp only[Act.put,qA,qB,qC,qD,qE,qF]
 refine wpAnyH_take (i:=15) (v:=?_) rfl (by kernel_rfl) (by kernel_rfl) (by kernel_rfl) (fun _ _ _ h=>h) (Or.inl ⟨by rfl,?_⟩) (by assumption) ?_;rotate_left 1
 ·(intro w hSw;(try dsimp only at hSw);go_simp<;>(with_reducible rfl))
 try simp only[Act.put,qA,qB,qC,qD,qE,qF]
 refine wpAnyH_take (i:=16) (v:=?_) rfl (by kernel_rfl) (by kernel_rfl) (by kernel_rfl) (fun _ _ _ h=>h) (Or.inl ⟨by rfl,?_⟩) (by assumption) ?_;rotate_left 1
 ·(intro w hSw;(try dsimp only at hSw);go_simp<;>(with_reducible rfl))
 try simp only[Act.put,qA,qB,qC,qD,qE,qF]
 refine wpAnyH_take (i:=17) (v:=?_) rfl (by kernel_rfl) (by kernel_rfl) (by kernel_rfl) (fun _ _ _ h=>h) (Or.inl ⟨by rfl,?_⟩) (by assumption) ?_;rotate_left 1
 ·(intro w hSw;(try dsimp only at hSw);go_simp<;>(with_reducible rfl))
 try simp only[Act.put,qA,qB,qC,qD,qE,qF]
 refine wpAnyH_take (i:=18) (v:=?_) rfl (by kernel_rfl) (by kernel_rfl) (by kernel_rfl) (fun _ _ _ h=>h) (Or.inl ⟨by rfl,?_⟩) (by assumption) ?_;rotate_left 1
 ·(intro w hSw;(try dsimp only at hSw);go_simp<;>(with_reducible rfl))
 try simp only[Act.put,qA,qB,qC,qD,qE,qF]
 refine wpAnyH_take (i:=19) (v:=?_) rfl (by kernel_rfl) (by kernel_rfl) (by kernel_rfl) (fun _ _ _ h=>h) (Or.inl ⟨by rfl,?_⟩) (by assumption) ?_;rotate_left 1
 ·(intro w hSw;(try dsimp only at hSw);go_simp<;>(with_reducible rfl))
 try simp only[Act.put,qA,qB,qC,qD,qE,qF]
 refine wpAnyH_take (i:=20) (v:=?_) rfl (by kernel_rfl) (by kernel_rfl) (by kernel_rfl) (fun _ _ _ h=>h) (Or.inl ⟨by rfl,?_⟩) (by assumption) ?_;rotate_left 1
 ·(intro w hSw;(try dsimp only at hSw);go_simp<;>(with_reducible rfl))
 try simp only[Act.put,qA,qB,qC,qD,qE,qF]
 refine wpAnyH_take (i:=21) (v:=?_) rfl (by kernel_rfl) (by kernel_rfl) (by kernel_rfl) (fun _ _ _ h=>h) (Or.inl ⟨by rfl,?_⟩) (by assumption) ?_;rotate_left 1
 ·(intro w hSw;(try dsimp only at hSw);go_simp<;>(with_reducible rfl))
 try simp only[Act.put,qA,qB,qC,qD,qE,qF]
 refine wpAnyH_take (i:=22) (v:=?_) rfl (by kernel_rfl) (by kernel_rfl) (by kernel_rfl) (fun _ _ _ h=>h) (Or.inl ⟨by rfl,?_⟩) (by assumption) ?_;rotate_left 1
 ·(intro w hSw;(try dsimp only at hSw);go_simp<;>(with_reducible rfl))
 try simp only[Act.put,qA,qB,qC,qD,qE,qF]
 refine wpAnyH_take (i:=23) (v:=?_) rfl (by kernel_rfl) (by kernel_rfl) (by kernel_rfl) (fun _ _ _ h=>h) (Or.inl ⟨by rfl,?_⟩) (by assumption) ?_;rotate_left 1
 ·(intro w hSw;(try dsimp only at hSw);go_simp<;>(with_reducible rfl))
 try simp only[Act.put,qA,qB,qC,qD,qE,qF]
 refine wpAnyH_take (i:=24) (v:=?_) rfl (by kernel_rfl) (by kernel_rfl) (by kernel_rfl) (fun _ _ _ h=>h) (Or.inl ⟨by rfl,?_⟩) (by assumption) ?_;rotate_left 1
 ·(intro w hSw;(try dsimp only at hSw);go_simp<;>(with_reducible rfl))
 try simp only[Act.put,qA,qB,qC,qD,qE,qF]
 refine wpAnyH_take (i:=25) (v:=?_) rfl (by kernel_rfl) (by kernel_rfl) (by kernel_rfl) (fun _ _ _ h=>h) (Or.inl ⟨by rfl,?_⟩) (by assumption) ?_;rotate_left 1
 ·(intro w hSw;(try dsimp only at hSw);go_simp<;>(with_reducible rfl))
 try simp only[Act.put,qA,qB,qC,qD,qE,qF]
 refine wpAnyH_take (i:=26) (v:=?_) rfl (by kernel_rfl) (by kernel_rfl) (by kernel_rfl) (fun _ _ _ h=>h) (Or.inl ⟨by rfl,?_⟩) (by assumption) ?_;rotate_left 1
 ·(intro w hSw;(try dsimp only at hSw);go_simp<;>(with_reducible rfl))
 try simp only[Act.put,qA,qB,qC,qD,qE,qF]
 refine wpAnyH_take (i:=27) (v:=?_) rfl (by kernel_rfl) (by kernel_rfl) (by kernel_rfl) (fun _ _ _ h=>h) (Or.inl ⟨by rfl,?_⟩) (by assumption) ?_;rotate_left 1
 ·(intro w hSw;(try dsimp only at hSw);go_simp<;>(with_reducible rfl))
 try simp only[Act.put,qA,qB,qC,qD,qE,qF]
 refine wpAnyH_take (i:=28) (v:=?_) rfl (by kernel_rfl) (by kernel_rfl) (by kernel_rfl) (fun _ _ _ h=>h) (Or.inl ⟨by rfl,?_⟩) (by assumption) ?_;rotate_left 1
 ·(intro w hSw;(try dsimp only at hSw);go_simp<;>(with_reducible rfl))
 try simp only[Act.put,qA,qB,qC,qD,qE,qF]
 refine wpAnyH_take (i:=30) (v:=?_) rfl (by kernel_rfl) (by kernel_rfl) (by kernel_rfl) (fun _ _ _ h=>h) (Or.inl ⟨by rfl,?_⟩) (by assumption) ?_;rotate_left 1
 ·(intro w hSw;(try dsimp only at hSw);go_simp<;>(with_reducible rfl))
 try simp only[Act.put,qA,qB,qC,qD,qE,qF]
 refine wpAnyH_take (i:=31) (v:=?_) rfl (by kernel_rfl) (by kernel_rfl) (by kernel_rfl) (fun _ _ _ h=>h) (Or.inl ⟨by rfl,?_⟩) (by assumption) ?_;rotate_left 1
 ·(intro w hSw;(try dsimp only at hSw);go_simp<;>(with_reducible rfl))
 try simp only[Act.put,qA,qB,qC,qD,qE,qF]
 refine wpAnyH_take (i:=32) (v:=?_) rfl (by kernel_rfl) (by kernel_rfl) (by kernel_rfl) (fun _ _ _ h=>h) (Or.inl ⟨by rfl,?_⟩) (by assumption) ?_;rotate_left 1
 ·(intro w hSw;(try dsimp only at hSw);go_simp<;>(with_reducible rfl))
 try simp only[Act.put,qA,qB,qC,qD,qE,qF]
 refine wpAnyH_ready (rs:=[29]) (by kernel_rfl) (by simp) ?_;refine AllReadyH.cons rfl (fun K hK=>?_) AllReadyH.nil
 go_simp
 refine(held (W:=U10) hB.out (CK.out _ (LP.out.below (by assumption)) (HB.out.below HG.out (by assumption))) (by assumption)).mono ?_;rintro e x7 ⟨rfl,hb,hw⟩
 (try go_wp2_with fail)
 refine hK.out _ _ hw (fun hH7=>?_);clear hK hH6 hb hw
 try simp only[Act.put,qA,qB,qC,qD,qE,qF]
 refine wpAnyH_ready (rs:=[33]) (by kernel_rfl) (by simp) ?_;refine AllReadyH.cons rfl (fun K hK=>?_) AllReadyH.nil
 go_simp
 refine(held (W:=U10) hB.out (DK.out _ (LP.out.below (by assumption))) (by assumption)).mono ?_;rintro e x8 ⟨rfl,hb,hw⟩
 (try go_wp2_with fail)
 refine hK.out _ _ hw (fun hH8=>?_);clear hK hH7 hb hw
 try simp only[Act.put,qA,qB,qC,qD,qE,qF]
 refine wpAnyH_take (i:=34) (v:=?_) rfl (by kernel_rfl) (by kernel_rfl) (by kernel_rfl) (fun _ _ _ h=>h) (Or.inl ⟨by rfl,?_⟩) (by assumption) ?_;rotate_left 1
 ·(intro w hSw;(try dsimp only at hSw);go_simp<;>(with_reducible rfl))
 try simp only[Act.put,qA,qB,qC,qD,qE,qF]
 refine wpAnyH_take (i:=35) (v:=?_) rfl (by kernel_rfl) (by kernel_rfl) (by kernel_rfl) (fun _ _ _ h=>h) (Or.inl ⟨by rfl,?_⟩) (by assumption) ?_;rotate_left 1
 ·(intro w hSw;(try dsimp only at hSw);go_simp<;>(with_reducible rfl))
 try simp only[Act.put,qA,qB,qC,qD,qE,qF]
 refine wpAnyH_take (i:=36) (v:=?_) rfl (by kernel_rfl) (by kernel_rfl) (by kernel_rfl) (fun _ _ _ h=>h) (Or.inl ⟨by rfl,?_⟩) (by assumption) ?_;rotate_left 1
 ·(intro w hSw;(try dsimp only at hSw);go_simp<;>(with_reducible rfl))
 try simp only[Act.put,qA,qB,qC,qD,qE,qF]
 refine wpAnyH_done (by kernel_rfl) ?_ _;refine NoPanic.normal ?_;have b99:=hH8;clear hH8;go_wp2_with fail;go_ret;exact⟨ret_bool (by first|rfl|simp),Below.more BW b99⟩
end Go.Proofs.YthgopcnagecbaaaGreatDoor
