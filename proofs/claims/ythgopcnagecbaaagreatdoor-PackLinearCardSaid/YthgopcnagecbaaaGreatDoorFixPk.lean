/- Own work. -/
import Derived.Test.YthgopcnagecbaaaGreatDoorPkLiM
set_option linter.unusedSimpArgs false
set_option linter.unusedVariables false
set_option maxHeartbeats 8000000
set_option maxRecDepth 100000
namespace Go.Proofs.YthgopcnagecbaaaGreatDoor
open Go.RowKit
open Pk (Part Pack mayP valueP keepsP ofP)
variable {G : World → Prop}
theorem sz_spin:SzPk 100 spinP:=by
 refine⟨fun y hy=>?_,by decide,by decide⟩;unfold spinP at hy;simp only[List.mem_cons,List.not_mem_nil,or_false]at hy;rcases hy with rfl|rfl<;>exact⟨by decide,by decide⟩
theorem sz_zero(K:Nat):SzPk K ⟨[],([],[])⟩:=⟨fun y hy=>(by cases hy),Nat.zero_le _,Nat.zero_le _⟩
theorem sz_two:SzFx 100 twoF:=fun y hy=>by
 unfold twoF at hy;simp only[List.mem_cons,List.not_mem_nil,or_false]at hy;rcases hy with rfl|rfl<;>exact⟨by decide,by decide,by decide⟩
theorem sz_one:SzFx 100 oneF:=fun y hy=>by
 unfold oneF at hy;simp only[List.mem_cons,List.not_mem_nil,or_false]at hy;subst hy;exact⟨by decide,by decide,by decide⟩
theorem cf_spin(H:PackC G){w:World}(hg:G w):Calls Tryz.prog 15 #[.agg #[.string ⟨#[112,49]⟩,.int .i64 3,.string ⟨#[120]⟩,.string ⟨#[121]⟩,.string ⟨#[49]⟩,.string ⟨#[50]⟩,.string ⟨#[48]⟩,.string ⟨#[49]⟩,.int .i64 0,.int .i64 0,.int .i64 0]] w (fun e w'=>(∃p c,e=.returned (.agg #[.slice p 2 c,.string ⟨#[48]⟩,.string ⟨#[49]⟩])∧2≤c∧Pts w' p spinP.parts)∧Below w.heap.size w w'):=by
 have k:=H.of spinA w hg;rw[of_spin]at k;exact k
theorem cf_merg(H:PackC G){w:World}(hg:G w):Calls Tryz.prog 15 #[.agg #[.string ⟨#[112,49]⟩,.int .i64 4,.string ⟨#[120]⟩,.string ⟨#[121]⟩,.string ⟨#[49]⟩,.string ⟨#[50]⟩,.string ⟨#[50]⟩,.string ⟨#[49]⟩,.int .i64 0,.int .i64 0,.int .i64 0]] w (fun e w'=>(∃p c,e=.returned (.agg #[.slice p 1 c,.string ⟨#[50]⟩,.string ⟨#[49]⟩])∧1≤c∧Pts w' p mergP.parts)∧Below w.heap.size w w'):=by
 have k:=H.of mergA w hg;rw[of_merg]at k;exact k
theorem cf_two(H:PackC G){p:Option Addr}{c:Nat}{w:World}(hc:2≤c)(h:Pts w p spinP.parts)(hg:G w){q:Option Addr}(h2:Fxs w q twoF):Calls Tryz.prog 12 #[.agg #[.slice p 2 c,.string ⟨#[48]⟩,.string ⟨#[49]⟩],.slice q 2 2,.int .i64 3] w (GiveW w (.tuple #[.agg #[.string ⟨#[49,48]⟩,.string ⟨#[49]⟩],.bool true])):=by
 have k:=H.value p q c 2 spinP twoF 3 100 w hc (by decide) (by decide) (by decide) sz_spin sz_two h h2 hg;rw[val_two]at k;exact k
theorem cf_one(H:PackC G){p:Option Addr}{c:Nat}{w:World}(hc:2≤c)(h:Pts w p spinP.parts)(hg:G w){q:Option Addr}{d:Nat}(hd:1≤d)(h2:Fxs w q oneF):Calls Tryz.prog 12 #[.agg #[.slice p 2 c,.string ⟨#[48]⟩,.string ⟨#[49]⟩],.slice q 1 d,.int .i64 3] w (GiveW w (.tuple #[.agg #[.string ⟨#[]⟩,.string ⟨#[]⟩],.bool false])):=by
 have k:=H.value p q c d spinP oneF 3 100 w hc hd (by decide) (by decide) sz_spin sz_one h h2 hg;rw[val_one]at k;exact k
theorem cf_k1(H:PackC G){p:Option Addr}{c:Nat}{w:World}(hc:2≤c)(h:Pts w p spinP.parts)(hg:G w):Calls Tryz.prog 19 #[.agg #[.slice p 2 c,.string ⟨#[48]⟩,.string ⟨#[49]⟩],.string ⟨#[120]⟩] w (GiveB w true):=by
 have k:=H.keeps p c spinP [120] w hc (by decide) h hg;rw[keep_1]at k;exact k
theorem cf_k2(H:PackC G){p:Option Addr}{c:Nat}{w:World}(hc:2≤c)(h:Pts w p spinP.parts)(hg:G w):Calls Tryz.prog 19 #[.agg #[.slice p 2 c,.string ⟨#[48]⟩,.string ⟨#[49]⟩],.string ⟨#[121]⟩] w (GiveB w false):=by
 have k:=H.keeps p c spinP [121] w hc (by decide) h hg;rw[keep_2]at k;exact k
theorem cf_k3(H:PackC G){p:Option Addr}{c:Nat}{w:World}(hc:1≤c)(h:Pts w p mergP.parts)(hg:G w):Calls Tryz.prog 19 #[.agg #[.slice p 1 c,.string ⟨#[50]⟩,.string ⟨#[49]⟩],.string ⟨#[120]⟩] w (GiveB w false):=by
 have k:=H.keeps p c mergP [120] w hc (by decide) h hg;rw[keep_3]at k;exact k
theorem cf_m1(H:PackC G){p:Option Addr}{c:Nat}{w:World}(hc:2≤c)(h:Pts w p spinP.parts)(hg:G w):Calls Tryz.prog 17 #[.agg #[.slice p 2 c,.string ⟨#[48]⟩,.string ⟨#[49]⟩]] w (GiveB w true):=by
 have k:=H.may p c spinP w hc (by decide) (sz_spin.mono (by decide)) h hg;rw[may_1]at k;exact k
theorem cf_m0(H:PackC G){w:World}(hg:G w):Calls Tryz.prog 17 #[.agg #[.slice none 0 0,.string ⟨#[]⟩,.string ⟨#[]⟩]] w (GiveB w false):=by
 have k:=H.may none 0 ⟨[],([],[])⟩ w (Nat.le_refl _) (by decide) (sz_zero _) (RowsG.nil _ _) hg;rw[may_0]at k;exact k
theorem fixed16_any(H:PackC G)(w:World)(hg:G w):Calls Tryz.prog 11 #[] w (GiveB w true):=by
 have HB:=zh H;have HG:=zh hg;clear H hg
 go_enter Tryz.func11,Tryz.ntmps11;have BW:=Below.refl w.heap.size w;have b0:=Below.refl w.heap.size w;go_wp2_with fail;refine(spin_any _).mono ?_;rintro e w1 ⟨rfl,b⟩;have b1:=Below.more b0 b;clear b;go_wp2_with fail;refine(cf_spin HB.out (HB.out.below HG.out b1)).mono ?_;rintro e0 U2 ⟨⟨pa,ca,rfl,hca,hla⟩,b⟩;have bU:=Below.more b1 b;clear b;replace BW:=Below.more BW bU;replace HG:=zh (HB.out.below HG.out bU);have La:=zh hla;clear hla;clear bU;have b2:=Below.refl U2.heap.size U2;obtain⟨bba,ooa,rfl,ia0,ia1,ia2⟩:=pt_rule La.out (k:=0) rfl;simp only[Nat.zero_mul,Nat.add_zero]at ia0 ia1 ia2;have ba:=fun x=>Below.alloc b2 (Below.size b2) x;go_wp2_with fail;clear ba;obtain⟨U3,hU,bU,s3,kk⟩:=layN b2 #[.slice (some ⟨bba,ooa,none⟩) 2 ca,.string ⟨#[48]⟩,.string ⟨#[49]⟩] 28;rw[hU];clear hU;have rp0:=kk 0 _ rfl;have rp1:=kk 1 _ rfl;have rp2:=kk 2 _ rfl
 clear kk s3;replace ia0:=fun v (h:Below U3.heap.size U3 v)=>ia0 v (Below.more bU h);replace ia1:=fun v (h:Below U3.heap.size U3 v)=>ia1 v (Below.more bU h);replace ia2:=fun v (h:Below U3.heap.size U3 v)=>ia2 v (Below.more bU h);replace La:=zh (La.out.below bU);replace BW:=Below.more BW bU;replace HG:=zh (HB.out.below HG.out bU);clear bU;have b3:=Below.refl U3.heap.size U3;go_wp2_with fail;refine((pk_o (n:=8) (l:=[56]) (by decide) (by decide) (by decide +kernel) _)).mono ?_;rintro e w4 ⟨rfl,b⟩;have b4:=Below.more b3 b;clear b;go_wp2_with fail;refine((pk_o (n:=4) (l:=[52]) (by decide) (by decide) (by decide +kernel) _)).mono ?_;rintro e w5 ⟨rfl,b⟩;have b5:=Below.more b4 b;clear b;have ba:=fun x=>Below.alloc b5 (Below.size b5) x;go_wp2_with fail;clear ba;have hrow:=rowsLitK (enc:=encFx) (k:=4) (fun _=>rfl) w5 twoF #[.string ⟨#[120]⟩,.int .i64 3,.string ⟨#[56]⟩,.string ⟨#[49]⟩,.string ⟨#[121]⟩,.int .i64 3,.string ⟨#[52]⟩,.string ⟨#[49]⟩] 47 rfl;have bn:Below w5.heap.size w5 (w5.alloc (.cells #[.string ⟨#[120]⟩,.int .i64 3,.string ⟨#[56]⟩,.string ⟨#[49]⟩,.string ⟨#[121]⟩,.int .i64 3,.string ⟨#[52]⟩,.string ⟨#[49]⟩] 47)):=Below.alloc (Below.refl _ _) (Nat.le_refl _) _;obtain⟨U6,hU⟩:∃U,w5.alloc (.cells #[.string ⟨#[120]⟩,.int .i64 3,.string ⟨#[56]⟩,.string ⟨#[49]⟩,.string ⟨#[121]⟩,.int .i64 3,.string ⟨#[52]⟩,.string ⟨#[49]⟩] 47)=U:=⟨_,rfl⟩;rw[hU]at hrow bn ⊢;have bU:=Below.more b5 bn;clear bn;replace ia0:=fun v (h:Below U6.heap.size U6 v)=>ia0 v (Below.more bU h);replace ia1:=fun v (h:Below U6.heap.size U6 v)=>ia1 v (Below.more bU h)
 replace ia2:=fun v (h:Below U6.heap.size U6 v)=>ia2 v (Below.more bU h);replace rp0:=fun v (h:Below U6.heap.size U6 v)=>rp0 v (Below.more bU h);replace rp1:=fun v (h:Below U6.heap.size U6 v)=>rp1 v (Below.more bU h);replace rp2:=fun v (h:Below U6.heap.size U6 v)=>rp2 v (Below.more bU h);replace La:=zh (La.out.below bU);replace BW:=Below.more BW bU;replace HG:=zh (HB.out.below HG.out bU);have Lf:=zh hrow;clear hrow hU;clear bU;have b6:=Below.refl U6.heap.size U6;go_wp2_with fail;refine(cf_two HB.out hca (La.out.below b6) (HB.out.below HG.out b6) (Lf.out.below b6)).mono ?_;rintro e w7 ⟨rfl,b⟩;have b7:=Below.more b6 b;clear b;have ba:=fun x=>Below.alloc b7 (Below.size b7) x;go_wp2_with fail;clear ba;obtain⟨U8,hU,bU,s8,kk⟩:=layN b7 #[.string ⟨#[49,48]⟩,.string ⟨#[49]⟩] 23;rw[hU];clear hU;have rv0:=kk 0 _ rfl;have rv1:=kk 1 _ rfl
 clear kk s8;replace ia0:=fun v (h:Below U8.heap.size U8 v)=>ia0 v (Below.more bU h);replace ia1:=fun v (h:Below U8.heap.size U8 v)=>ia1 v (Below.more bU h);replace ia2:=fun v (h:Below U8.heap.size U8 v)=>ia2 v (Below.more bU h);replace rp0:=fun v (h:Below U8.heap.size U8 v)=>rp0 v (Below.more bU h);replace rp1:=fun v (h:Below U8.heap.size U8 v)=>rp1 v (Below.more bU h);replace rp2:=fun v (h:Below U8.heap.size U8 v)=>rp2 v (Below.more bU h);replace La:=zh (La.out.below bU);replace Lf:=zh (Lf.out.below bU);replace BW:=Below.more BW bU;replace HG:=zh (HB.out.below HG.out bU);clear bU;have b8:=Below.refl U8.heap.size U8;have Lo:Hid (Fxs _ _ oneF):=zh (rows_takes Lf.out 1)
 go_upto_region 4 with fail
 go_cut [5,6] from 23 to 28 (fun t0' t1' V'=>∃V Y,V=V'∧t0'=.pointer (some ⟨Y,0,none⟩)∧t1'=.bool false∧Blk Y [.string ⟨#[]⟩,.string ⟨#[]⟩] V∧Below U8.heap.size U8 V)
 case first =>
  refine wp_region_noPanic ?_;refine wp_region_held_drew (S:=fun w'=>Below U8.heap.size U8 w') (by kernel_rfl) (b8.drew) (fun hH0=>?_);refine wpAnyH_take (i:=0) (v:=?_) rfl (by kernel_rfl) (by kernel_rfl) (by kernel_rfl) (fun _ _ _ h=>h) (Or.inl ⟨by rfl,?_⟩) (by assumption) ?_;rotate_left 1
  ·(intro w hSw;(try dsimp only at hSw);go_simp<;>(with_reducible rfl))
  try simp only[Act.put,qA,qB,qC,qD,qE,qF]
  refine wpAnyH_take (i:=1) (v:=?_) rfl (by kernel_rfl) (by kernel_rfl) (by kernel_rfl) (fun _ _ _ h=>h) (Or.inl ⟨by rfl,?_⟩) (by assumption) ?_;rotate_left 1
  ·(intro w hSw;(try dsimp only at hSw);go_simp<;>(with_reducible rfl))
  try simp only[Act.put,qA,qB,qC,qD,qE,qF]
  refine wpAnyH_take (i:=2) (v:=?_) rfl (by kernel_rfl) (by kernel_rfl) (by kernel_rfl) (fun _ _ _ h=>h) (Or.inl ⟨by rfl,?_⟩) (by assumption) ?_;rotate_left 1
  ·(intro w hSw;(try dsimp only at hSw);go_simp<;>(with_reducible rfl))
  try simp only[Act.put,qA,qB,qC,qD,qE,qF]
  refine wpAnyH_ready (rs:=[3,7]) (by kernel_rfl) (by simp) ?_;refine AllReadyH.cons rfl (fun K hK=>?_) (AllReadyH.cons rfl (fun K hK=>?_) AllReadyH.nil)
  ·go_simp
   refine(cf_one HB.out hca (La.out.below (by assumption)) (HB.out.below HG.out (by assumption)) (by decide) (Lo.out.below (by assumption))).mono ?_;rintro e x1 ⟨rfl,hb⟩;have hw:Below U8.heap.size U8 x1:=Below.more hH0 hb
   (try go_wp2_with fail)
   refine hK.out _ _ hw (fun hH1=>?_);clear hK hH0 hb hw
   try simp only[Act.put,qA,qB,qC,qD,qE,qF]
   refine wpAnyH_take (i:=4) (v:=?_) rfl (by kernel_rfl) (by kernel_rfl) (by kernel_rfl) (fun _ _ _ h=>h) (Or.inl ⟨by rfl,?_⟩) (by assumption) ?_;rotate_left 1
   ·(intro w hSw;(try dsimp only at hSw);go_simp<;>(with_reducible rfl))
   try simp only[Act.put,qA,qB,qC,qD,qE,qF]
   refine wpAnyH_take (i:=5) (v:=?_) rfl (by kernel_rfl) (by kernel_rfl) (by kernel_rfl) (fun _ _ _ h=>h) (Or.inl ⟨by rfl,?_⟩) (by assumption) ?_;rotate_left 1
   ·(intro w hSw;(try dsimp only at hSw);go_simp<;>(with_reducible rfl))
   try simp only[Act.put,qA,qB,qC,qD,qE,qF]
   refine wpAnyH_take (i:=6) (v:=?_) rfl (by kernel_rfl) (by kernel_rfl) (by kernel_rfl) (fun _ _ _ h=>h) (Or.inl ⟨by rfl,?_⟩) (by assumption) ?_;rotate_left 1
   ·(intro w hSw;(try dsimp only at hSw);go_simp<;>(with_reducible rfl))
   try simp only[Act.put,qA,qB,qC,qD,qE,qF]
   refine wpAnyH_ready (rs:=[7]) (by kernel_rfl) (by simp) ?_;refine AllReadyH.cons rfl (fun K hK=>?_) AllReadyH.nil
   go_simp
   have hY:=blk_new x1 #[.string ⟨#[]⟩,.string ⟨#[]⟩] 23;have bb:Below x1.heap.size x1 (x1.alloc (.cells #[.string ⟨#[]⟩,.string ⟨#[]⟩] 23)):=Below.alloc (Below.refl _ _) (Nat.le_refl _) _;have hge:U8.heap.size≤x1.heap.size:=hH1.size;obtain⟨Y,hYe⟩:∃Y,x1.heap.size=Y:=⟨_,rfl⟩;obtain⟨x2,hU⟩:∃Z9,x1.alloc (.cells #[.string ⟨#[]⟩,.string ⟨#[]⟩] 23)=Z9:=⟨_,rfl⟩;rw[hU]at hY bb ⊢;have hw:Below U8.heap.size U8 x2:=Below.more hH1 bb;replace hge:U8.heap.size≤Y:=hYe▸hge;rw[hYe]at hY
   (try rw[hYe])
   clear hU hYe bb;refine hK.out _ _ hw (fun hH2=>?_);clear hK hH1 hw
   try simp only[Act.put,qA,qB,qC,qD,qE,qF]
   have y0:=hY.c 0 _ rfl;have z0:=hY.f 0 (by simp)
   have y1:=hY.c 1 _ rfl;have z1:=hY.f 1 (by simp)
   refine wpAnyH_ready (rs:=[8]) (by kernel_rfl) (by simp) ?_;refine AllReadyH.cons rfl (fun K hK=>?_) AllReadyH.nil
   go_simp
   have hY2:=((hY.set 0 (by simp) (.string ⟨#[]⟩)).set 1 (by simp) (.string ⟨#[]⟩));refine hK.out _ _ (Below.setCell (Below.setCell (hH2) (hge) _) (hge) _) (fun hH3=>?_);clear hK hY y0 z0 y1 z1
   try simp only[Act.put,qA,qB,qC,qD,qE,qF]
   refine wpAnyH_take (i:=9) (v:=?_) rfl (by kernel_rfl) (by kernel_rfl) (by kernel_rfl) (fun _ _ _ h=>h) (Or.inl ⟨by rfl,?_⟩) (by assumption) ?_;rotate_left 1
   ·(intro w hSw;(try dsimp only at hSw);go_simp<;>(with_reducible rfl))
   try simp only[Act.put,qA,qB,qC,qD,qE,qF]
   refine wpAnyH_done (by kernel_rfl) ?_ _;refine NoPanic.normal ?_;go_wp2_with fail
   go_meet
   exact⟨_,Y,rfl,rfl,rfl,hY2,hH3⟩
  ·go_simp
   have hY:=(blk_new U8 #[.string ⟨#[]⟩,.string ⟨#[]⟩] 23).drew;have bb:Below U8.heap.size U8 ((U8.alloc (.cells #[.string ⟨#[]⟩,.string ⟨#[]⟩] 23)).drew):=(Below.alloc (Below.refl _ _) (Nat.le_refl _) _).drew;have hge:U8.heap.size≤U8.heap.size:=b8.size;obtain⟨Y,hYe⟩:∃Y,U8.heap.size=Y:=⟨_,rfl⟩;obtain⟨x1,hU⟩:∃Z9,(U8.alloc (.cells #[.string ⟨#[]⟩,.string ⟨#[]⟩] 23)).drew=Z9:=⟨_,rfl⟩;rw[hU]at hY bb ⊢;have hw:Below U8.heap.size U8 x1:=Below.more b8 bb;replace hge:U8.heap.size≤Y:=hYe▸hge;rw[hYe]at hY
   (try rw[hYe])
   clear hU hYe bb;refine hK.out _ _ hw (fun hH1=>?_);clear hK hH0 hw
   try simp only[Act.put,qA,qB,qC,qD,qE,qF]
   refine wpAnyH_ready (rs:=[3]) (by kernel_rfl) (by simp) ?_;refine AllReadyH.cons rfl (fun K hK=>?_) AllReadyH.nil
   go_simp
   refine(cf_one HB.out hca (La.out.below (by assumption)) (HB.out.below HG.out (by assumption)) (by decide) (Lo.out.below (by assumption))).mono ?_;rintro e x2 ⟨rfl,hb⟩;have hw:Below U8.heap.size U8 x2:=Below.more hH1 hb;replace hY:=hY.below hb
   (try go_wp2_with fail)
   refine hK.out _ _ hw (fun hH2=>?_);clear hK hH1 hb hw
   try simp only[Act.put,qA,qB,qC,qD,qE,qF]
   refine wpAnyH_take (i:=4) (v:=?_) rfl (by kernel_rfl) (by kernel_rfl) (by kernel_rfl) (fun _ _ _ h=>h) (Or.inl ⟨by rfl,?_⟩) (by assumption) ?_;rotate_left 1
   ·(intro w hSw;(try dsimp only at hSw);go_simp<;>(with_reducible rfl))
   try simp only[Act.put,qA,qB,qC,qD,qE,qF]
   refine wpAnyH_take (i:=5) (v:=?_) rfl (by kernel_rfl) (by kernel_rfl) (by kernel_rfl) (fun _ _ _ h=>h) (Or.inl ⟨by rfl,?_⟩) (by assumption) ?_;rotate_left 1
   ·(intro w hSw;(try dsimp only at hSw);go_simp<;>(with_reducible rfl))
   try simp only[Act.put,qA,qB,qC,qD,qE,qF]
   refine wpAnyH_take (i:=6) (v:=?_) rfl (by kernel_rfl) (by kernel_rfl) (by kernel_rfl) (fun _ _ _ h=>h) (Or.inl ⟨by rfl,?_⟩) (by assumption) ?_;rotate_left 1
   ·(intro w hSw;(try dsimp only at hSw);go_simp<;>(with_reducible rfl))
   try simp only[Act.put,qA,qB,qC,qD,qE,qF]
   have y0:=hY.c 0 _ rfl;have z0:=hY.f 0 (by simp)
   have y1:=hY.c 1 _ rfl;have z1:=hY.f 1 (by simp)
   refine wpAnyH_ready (rs:=[8]) (by kernel_rfl) (by simp) ?_;refine AllReadyH.cons rfl (fun K hK=>?_) AllReadyH.nil
   go_simp
   have hY2:=((hY.set 0 (by simp) (.string ⟨#[]⟩)).set 1 (by simp) (.string ⟨#[]⟩));refine hK.out _ _ (Below.setCell (Below.setCell (hH2) (hge) _) (hge) _) (fun hH3=>?_);clear hK hY y0 z0 y1 z1
   try simp only[Act.put,qA,qB,qC,qD,qE,qF]
   refine wpAnyH_take (i:=9) (v:=?_) rfl (by kernel_rfl) (by kernel_rfl) (by kernel_rfl) (fun _ _ _ h=>h) (Or.inl ⟨by rfl,?_⟩) (by assumption) ?_;rotate_left 1
   ·(intro w hSw;(try dsimp only at hSw);go_simp<;>(with_reducible rfl))
   try simp only[Act.put,qA,qB,qC,qD,qE,qF]
   refine wpAnyH_done (by kernel_rfl) ?_ _;refine NoPanic.normal ?_;go_wp2_with fail
   go_meet
   exact⟨_,Y,rfl,rfl,rfl,hY2,hH3⟩
 case rest =>
 obtain⟨U9,Yw,hVe,rfl,rfl,hYw,bU⟩:=hcut;subst hVe;replace ia0:=fun v (h:Below U9.heap.size U9 v)=>ia0 v (Below.more bU h);replace ia1:=fun v (h:Below U9.heap.size U9 v)=>ia1 v (Below.more bU h);replace ia2:=fun v (h:Below U9.heap.size U9 v)=>ia2 v (Below.more bU h);replace rp0:=fun v (h:Below U9.heap.size U9 v)=>rp0 v (Below.more bU h);replace rp1:=fun v (h:Below U9.heap.size U9 v)=>rp1 v (Below.more bU h);replace rp2:=fun v (h:Below U9.heap.size U9 v)=>rp2 v (Below.more bU h);replace rv0:=fun v (h:Below U9.heap.size U9 v)=>rv0 v (Below.more bU h);replace rv1:=fun v (h:Below U9.heap.size U9 v)=>rv1 v (Below.more bU h);replace La:=zh (La.out.below bU);replace Lf:=zh (Lf.out.below bU);replace Lo:=zh (Lo.out.below bU);replace BW:=Below.more BW bU;replace HG:=zh (HB.out.below HG.out bU);have rw0:∀v,Below U9.heap.size U9 v→_:=fun v hv=>(hYw.below hv).c 0 _ rfl;have rw1:∀v,Below U9.heap.size U9 v→_:=fun v hv=>(hYw.below hv).c 1 _ rfl
 clear hYw;clear bU;have b9:=Below.refl U9.heap.size U9;go_wp2_with fail;refine(spin_any _).mono ?_;rintro e w10 ⟨rfl,b⟩;have b10:=Below.more b9 b;clear b;have ba:=fun x=>Below.alloc b10 (Below.size b10) x
 go_upto_region 7 with fail
 clear ba;have hX:=blk_new w10 #[.string ⟨#[112,49]⟩,.int .i64 4,.string ⟨#[120]⟩,.string ⟨#[121]⟩,.string ⟨#[49]⟩,.string ⟨#[50]⟩,.string ⟨#[48]⟩,.string ⟨#[49]⟩,.int .i64 0,.int .i64 0,.int .i64 0] 25;have bX:Below w10.heap.size w10 (w10.alloc (.cells #[.string ⟨#[112,49]⟩,.int .i64 4,.string ⟨#[120]⟩,.string ⟨#[121]⟩,.string ⟨#[49]⟩,.string ⟨#[50]⟩,.string ⟨#[48]⟩,.string ⟨#[49]⟩,.int .i64 0,.int .i64 0,.int .i64 0] 25)):=Below.alloc (Below.refl _ _) (Nat.le_refl _) _;have hgX:=Below.size b10;obtain⟨X,hXe⟩:∃x,w10.heap.size=x:=⟨_,rfl⟩;obtain⟨U11,hUX⟩:∃x,w10.alloc (.cells #[.string ⟨#[112,49]⟩,.int .i64 4,.string ⟨#[120]⟩,.string ⟨#[121]⟩,.string ⟨#[49]⟩,.string ⟨#[50]⟩,.string ⟨#[48]⟩,.string ⟨#[49]⟩,.int .i64 0,.int .i64 0,.int .i64 0] 25)=x:=⟨_,rfl⟩;rw[hUX]at hX bX ⊢;rw[hXe]at hX hgX
 (try rw[hXe])
 have b11:=Below.more b10 bX;clear hUX hXe bX;go_wp2_with fail;refine((pk_o (n:=2) (l:=[50]) (by decide) (by decide) (by decide +kernel) _)).mono ?_;rintro e w12 ⟨rfl,b⟩;replace hX:=hX.below b;have b12:=Below.more b11 b;clear b;have y6:=hX.c 6 _ rfl;have z6:=hX.f 6 (by simp);have y7:=hX.c 7 _ rfl;have z7:=hX.f 7 (by simp)
 go_upto_region 8 with fail
 clear y6 z6 y7 z7;replace hX:=((hX.set 6 (by simp) (.string ⟨#[50]⟩)).set 7 (by simp) (.string ⟨#[49]⟩));have b13:Below U9.heap.size U9 ((w12.setCell ⟨X,6,none⟩ (.string ⟨#[50]⟩)).setCell ⟨X,7,none⟩ (.string ⟨#[49]⟩)):=(Below.setCell (Below.setCell b12 hgX _) hgX _);obtain⟨U13,hUX⟩:∃x,((w12.setCell ⟨X,6,none⟩ (.string ⟨#[50]⟩)).setCell ⟨X,7,none⟩ (.string ⟨#[49]⟩))=x:=⟨_,rfl⟩;rw[hUX]at hX b13 ⊢;clear hUX;have y0:=hX.c 0 _ rfl;have y1:=hX.c 1 _ rfl;have y2:=hX.c 2 _ rfl;have y3:=hX.c 3 _ rfl;have y4:=hX.c 4 _ rfl;have y5:=hX.c 5 _ rfl;have y6:=hX.c 6 _ rfl;have y7:=hX.c 7 _ rfl;have y8:=hX.c 8 _ rfl;have y9:=hX.c 9 _ rfl;have y10:=hX.c 10 _ rfl
 clear hX hgX;go_wp2_with fail;refine(cf_merg HB.out (HB.out.below HG.out b13)).mono ?_;rintro e0 U14 ⟨⟨pm,cm,rfl,hcm,hlm⟩,b⟩;have bU:=Below.more b13 b;clear b;replace ia0:=fun v (h:Below U14.heap.size U14 v)=>ia0 v (Below.more bU h);replace ia1:=fun v (h:Below U14.heap.size U14 v)=>ia1 v (Below.more bU h);replace ia2:=fun v (h:Below U14.heap.size U14 v)=>ia2 v (Below.more bU h);replace rp0:=fun v (h:Below U14.heap.size U14 v)=>rp0 v (Below.more bU h);replace rp1:=fun v (h:Below U14.heap.size U14 v)=>rp1 v (Below.more bU h);replace rp2:=fun v (h:Below U14.heap.size U14 v)=>rp2 v (Below.more bU h);replace rv0:=fun v (h:Below U14.heap.size U14 v)=>rv0 v (Below.more bU h);replace rv1:=fun v (h:Below U14.heap.size U14 v)=>rv1 v (Below.more bU h);replace rw0:=fun v (h:Below U14.heap.size U14 v)=>rw0 v (Below.more bU h);replace rw1:=fun v (h:Below U14.heap.size U14 v)=>rw1 v (Below.more bU h);replace La:=zh (La.out.below bU);replace Lf:=zh (Lf.out.below bU);replace Lo:=zh (Lo.out.below bU);replace BW:=Below.more BW bU;replace HG:=zh (HB.out.below HG.out bU);have Lm:=zh hlm;clear hlm;clear bU;have b14:=Below.refl U14.heap.size U14;clear y0 y1 y2 y3 y4 y5 y6 y7 y8 y9 y10;have ba:=fun x=>Below.alloc b14 (Below.size b14) x;go_wp2_with fail;clear ba;obtain⟨U15,hU,bU,s15,kk⟩:=layN b14 #[.slice pm 1 cm,.string ⟨#[50]⟩,.string ⟨#[49]⟩] 28;rw[hU];clear hU;have rq0:=kk 0 _ rfl;have rq1:=kk 1 _ rfl;have rq2:=kk 2 _ rfl
 clear kk s15;replace ia0:=fun v (h:Below U15.heap.size U15 v)=>ia0 v (Below.more bU h);replace ia1:=fun v (h:Below U15.heap.size U15 v)=>ia1 v (Below.more bU h);replace ia2:=fun v (h:Below U15.heap.size U15 v)=>ia2 v (Below.more bU h);replace rp0:=fun v (h:Below U15.heap.size U15 v)=>rp0 v (Below.more bU h);replace rp1:=fun v (h:Below U15.heap.size U15 v)=>rp1 v (Below.more bU h);replace rp2:=fun v (h:Below U15.heap.size U15 v)=>rp2 v (Below.more bU h);replace rv0:=fun v (h:Below U15.heap.size U15 v)=>rv0 v (Below.more bU h);replace rv1:=fun v (h:Below U15.heap.size U15 v)=>rv1 v (Below.more bU h);replace rw0:=fun v (h:Below U15.heap.size U15 v)=>rw0 v (Below.more bU h);replace rw1:=fun v (h:Below U15.heap.size U15 v)=>rw1 v (Below.more bU h);replace La:=zh (La.out.below bU);replace Lf:=zh (Lf.out.below bU);replace Lo:=zh (Lo.out.below bU);replace Lm:=zh (Lm.out.below bU);replace BW:=Below.more BW bU;replace HG:=zh (HB.out.below HG.out bU);clear bU;have b15:=Below.refl U15.heap.size U15;go_wp2_with fail;have hB:=zh (Nat.le_refl U15.heap.size);refine wp_region_noPanic ?_;refine wp_region_held_drew (S:=fun w'=>Below U15.heap.size U15 w') (by kernel_rfl) (b15.drew) (fun hH0=>?_);refine wpAnyH_take (i:=0) (v:=?_) rfl (by kernel_rfl) (by kernel_rfl) (by kernel_rfl) (fun _ _ _ h=>h) (Or.inl ⟨by rfl,?_⟩) (by assumption) ?_;rotate_left 1
 ·(intro w hSw;(try dsimp only at hSw);go_simp<;>(with_reducible rfl))
 try simp only[Act.put,qA,qB,qC,qD,qE,qF]
 refine wpAnyH_take (i:=1) (v:=?_) rfl (by kernel_rfl) (by kernel_rfl) (by kernel_rfl) (fun _ _ _ h=>h) (Or.inl ⟨by rfl,?_⟩) (by assumption) ?_;rotate_left 1
 ·(intro w hSw;(try dsimp only at hSw);go_simp<;>(with_reducible rfl))
 try simp only[Act.put,qA,qB,qC,qD,qE,qF]
 refine wpAnyH_take (i:=2) (v:=?_) rfl (by kernel_rfl) (by kernel_rfl) (by kernel_rfl) (fun _ _ _ h=>h) (Or.inl ⟨by rfl,?_⟩) (by assumption) ?_;rotate_left 1
 ·(intro w hSw;(try dsimp only at hSw);go_simp<;>(with_reducible rfl))
 try simp only[Act.put,qA,qB,qC,qD,qE,qF]
 refine wpAnyH_take (i:=3) (v:=?_) rfl (by kernel_rfl) (by kernel_rfl) (by kernel_rfl) (fun _ _ _ h=>h) (Or.inl ⟨by rfl,?_⟩) (by assumption) ?_;rotate_left 1
 ·(intro w hSw;(try dsimp only at hSw);go_simp<;>(with_reducible rfl))
 try simp only[Act.put,qA,qB,qC,qD,qE,qF]
 refine wpAnyH_take (i:=4) (v:=?_) rfl (by kernel_rfl) (by kernel_rfl) (by kernel_rfl) (fun _ _ _ h=>h) (Or.inl ⟨by rfl,?_⟩) (by assumption) ?_;rotate_left 1
 ·(intro w hSw;(try dsimp only at hSw);go_simp<;>(with_reducible rfl))
 try simp only[Act.put,qA,qB,qC,qD,qE,qF]
 refine wpAnyH_take (i:=5) (v:=?_) rfl (by kernel_rfl) (by kernel_rfl) (by kernel_rfl) (fun _ _ _ h=>h) (Or.inl ⟨by rfl,?_⟩) (by assumption) ?_;rotate_left 1
 ·(intro w hSw;(try dsimp only at hSw);go_simp<;>(with_reducible rfl))
 try simp only[Act.put,qA,qB,qC,qD,qE,qF]
 refine wpAnyH_take (i:=6) (v:=?_) rfl (by kernel_rfl) (by kernel_rfl) (by kernel_rfl) (fun _ _ _ h=>h) (Or.inl ⟨by rfl,?_⟩) (by assumption) ?_;rotate_left 1
 ·(intro w hSw;(try dsimp only at hSw);go_simp<;>(with_reducible rfl))
 try simp only[Act.put,qA,qB,qC,qD,qE,qF]
 refine wpAnyH_take (i:=7) (v:=?_) rfl (by kernel_rfl) (by kernel_rfl) (by kernel_rfl) (fun _ _ _ h=>h) (Or.inl ⟨by rfl,?_⟩) (by assumption) ?_;rotate_left 1
 ·(intro w hSw;(try dsimp only at hSw);go_simp<;>(with_reducible rfl))
 try simp only[Act.put,qA,qB,qC,qD,qE,qF]
 refine wpAnyH_take (i:=8) (v:=?_) rfl (by kernel_rfl) (by kernel_rfl) (by kernel_rfl) (fun _ _ _ h=>h) (Or.inl ⟨by rfl,?_⟩) (by assumption) ?_;rotate_left 1
 ·(intro w hSw;(try dsimp only at hSw);go_simp<;>(with_reducible rfl))
 try simp only[Act.put,qA,qB,qC,qD,qE,qF]
 refine wpAnyH_take (i:=9) (v:=?_) rfl (by kernel_rfl) (by kernel_rfl) (by kernel_rfl) (fun _ _ _ h=>h) (Or.inl ⟨by rfl,?_⟩) (by assumption) ?_;rotate_left 1
 ·(intro w hSw;(try dsimp only at hSw);go_simp<;>(with_reducible rfl))
 try simp only[Act.put,qA,qB,qC,qD,qE,qF]
 refine wpAnyH_take (i:=10) (v:=?_) rfl (by kernel_rfl) (by kernel_rfl) (by kernel_rfl) (fun _ _ _ h=>h) (Or.inl ⟨by rfl,?_⟩) (by assumption) ?_;rotate_left 1
 ·(intro w hSw;(try dsimp only at hSw);go_simp<;>(with_reducible rfl))
 try simp only[Act.put,qA,qB,qC,qD,qE,qF]
 refine wpAnyH_take (i:=11) (v:=?_) rfl (by kernel_rfl) (by kernel_rfl) (by kernel_rfl) (fun _ _ _ h=>h) (Or.inl ⟨by rfl,?_⟩) (by assumption) ?_;rotate_left 1
 ·(intro w hSw;(try dsimp only at hSw);go_simp<;>(with_reducible rfl))
 try simp only[Act.put,qA,qB,qC,qD,qE,qF]
 refine wpAnyH_take (i:=12) (v:=?_) rfl (by kernel_rfl) (by kernel_rfl) (by kernel_rfl) (fun _ _ _ h=>h) (Or.inl ⟨by rfl,?_⟩) (by assumption) ?_;rotate_left 1
 ·(intro w hSw;(try dsimp only at hSw);go_simp<;>(with_reducible rfl))
 try simp only[Act.put,qA,qB,qC,qD,qE,qF]
 refine wpAnyH_take (i:=13) (v:=?_) rfl (by kernel_rfl) (by kernel_rfl) (by kernel_rfl) (fun _ _ _ h=>h) (Or.inl ⟨by rfl,?_⟩) (by assumption) ?_;rotate_left 1
 ·(intro w hSw;(try dsimp only at hSw);go_simp<;>(with_reducible rfl))
 try simp only[Act.put,qA,qB,qC,qD,qE,qF]
 refine wpAnyH_ready (rs:=[14]) (by kernel_rfl) (by simp) ?_;refine AllReadyH.cons rfl (fun K hK=>?_) AllReadyH.nil
 go_simp
 refine(held (W:=U15) hB.out ((pk_o (n:=10) (l:=[49,48]) (by decide) (by decide) (by decide +kernel) _)) (by assumption)).mono ?_;rintro e x1 ⟨rfl,hb,hw⟩
 (try go_wp2_with fail)
 refine hK.out _ _ hw (fun hH1=>?_);clear hK hH0 hb hw
 try simp only[Act.put,qA,qB,qC,qD,qE,qF]
 refine wpAnyH_take (i:=15) (v:=?_) rfl (by kernel_rfl) (by kernel_rfl) (by kernel_rfl) (fun _ _ _ h=>h) (Or.inl ⟨by rfl,?_⟩) (by assumption) ?_;rotate_left 1
 ·(intro w hSw;(try dsimp only at hSw);go_simp<;>(with_reducible rfl))
 try simp only[Act.put,qA,qB,qC,qD,qE,qF]
 refine wpAnyH_take (i:=16) (v:=?_) rfl (by kernel_rfl) (by kernel_rfl) (by kernel_rfl) (fun _ _ _ h=>h) (Or.inl ⟨by rfl,?_⟩) (by assumption) ?_;rotate_left 1
 ·(intro w hSw;(try dsimp only at hSw);go_simp<;>(with_reducible rfl))
 try simp only[Act.put,qA,qB,qC,qD,qE,qF]
 refine wpAnyH_take (i:=17) (v:=?_) rfl (by kernel_rfl) (by kernel_rfl) (by kernel_rfl) (fun _ _ _ h=>h) (Or.inl ⟨by rfl,?_⟩) (by assumption) ?_;rotate_left 1
 ·(intro w hSw;(try dsimp only at hSw);go_simp<;>(with_reducible rfl))
 try simp only[Act.put,qA,qB,qC,qD,qE,qF]
 refine wpAnyH_take (i:=18) (v:=?_) rfl (by kernel_rfl) (by kernel_rfl) (by kernel_rfl) (fun _ _ _ h=>h) (Or.inl ⟨by rfl,?_⟩) (by assumption) ?_;rotate_left 1
 ·(intro w hSw;(try dsimp only at hSw);go_simp<;>(with_reducible rfl))
 try simp only[Act.put,qA,qB,qC,qD,qE,qF]
 refine wpAnyH_take (i:=19) (v:=?_) rfl (by kernel_rfl) (by kernel_rfl) (by kernel_rfl) (fun _ _ _ h=>h) (Or.inl ⟨by rfl,?_⟩) (by assumption) ?_;rotate_left 1
 ·(intro w hSw;(try dsimp only at hSw);go_simp<;>(with_reducible rfl))
 try simp only[Act.put,qA,qB,qC,qD,qE,qF]
 refine wpAnyH_take (i:=20) (v:=?_) rfl (by kernel_rfl) (by kernel_rfl) (by kernel_rfl) (fun _ _ _ h=>h) (Or.inl ⟨by rfl,?_⟩) (by assumption) ?_;rotate_left 1
 ·(intro w hSw;(try dsimp only at hSw);go_simp<;>(with_reducible rfl))
 try simp only[Act.put,qA,qB,qC,qD,qE,qF]
 refine wpAnyH_take (i:=21) (v:=?_) rfl (by kernel_rfl) (by kernel_rfl) (by kernel_rfl) (fun _ _ _ h=>h) (Or.inl ⟨by rfl,?_⟩) (by assumption) ?_;rotate_left 1
 ·(intro w hSw;(try dsimp only at hSw);go_simp<;>(with_reducible rfl))
 try simp only[Act.put,qA,qB,qC,qD,qE,qF]
 refine wpAnyH_take (i:=22) (v:=?_) rfl (by kernel_rfl) (by kernel_rfl) (by kernel_rfl) (fun _ _ _ h=>h) (Or.inl ⟨by rfl,?_⟩) (by assumption) ?_;rotate_left 1
 ·(intro w hSw;(try dsimp only at hSw);go_simp<;>(with_reducible rfl))
 try simp only[Act.put,qA,qB,qC,qD,qE,qF]
 refine wpAnyH_take (i:=23) (v:=?_) rfl (by kernel_rfl) (by kernel_rfl) (by kernel_rfl) (fun _ _ _ h=>h) (Or.inl ⟨by rfl,?_⟩) (by assumption) ?_;rotate_left 1
 ·(intro w hSw;(try dsimp only at hSw);go_simp<;>(with_reducible rfl))
 try simp only[Act.put,qA,qB,qC,qD,qE,qF]
 refine wpAnyH_take (i:=24) (v:=?_) rfl (by kernel_rfl) (by kernel_rfl) (by kernel_rfl) (fun _ _ _ h=>h) (Or.inl ⟨by rfl,?_⟩) (by assumption) ?_;rotate_left 1
 ·(intro w hSw;(try dsimp only at hSw);go_simp<;>(with_reducible rfl))
 try simp only[Act.put,qA,qB,qC,qD,qE,qF]
 refine wpAnyH_take (i:=25) (v:=?_) rfl (by kernel_rfl) (by kernel_rfl) (by kernel_rfl) (fun _ _ _ h=>h) (Or.inl ⟨by rfl,?_⟩) (by assumption) ?_;rotate_left 1
 ·(intro w hSw;(try dsimp only at hSw);go_simp<;>(with_reducible rfl))
 try simp only[Act.put,qA,qB,qC,qD,qE,qF]
 refine wpAnyH_take (i:=26) (v:=?_) rfl (by kernel_rfl) (by kernel_rfl) (by kernel_rfl) (fun _ _ _ h=>h) (Or.inl ⟨by rfl,?_⟩) (by assumption) ?_;rotate_left 1
 ·(intro w hSw;(try dsimp only at hSw);go_simp<;>(with_reducible rfl))
 try simp only[Act.put,qA,qB,qC,qD,qE,qF]
 refine wpAnyH_take (i:=27) (v:=?_) rfl (by kernel_rfl) (by kernel_rfl) (by kernel_rfl) (fun _ _ _ h=>h) (Or.inl ⟨by rfl,?_⟩) (by assumption) ?_;rotate_left 1
 ·(intro w hSw;(try dsimp only at hSw);go_simp<;>(with_reducible rfl))
 try simp only[Act.put,qA,qB,qC,qD,qE,qF]
 refine wpAnyH_take (i:=28) (v:=?_) rfl (by kernel_rfl) (by kernel_rfl) (by kernel_rfl) (fun _ _ _ h=>h) (Or.inl ⟨by rfl,?_⟩) (by assumption) ?_;rotate_left 1
 ·(intro w hSw;(try dsimp only at hSw);go_simp<;>(with_reducible rfl))
 try simp only[Act.put,qA,qB,qC,qD,qE,qF]
 refine wpAnyH_take (i:=29) (v:=?_) rfl (by kernel_rfl) (by kernel_rfl) (by kernel_rfl) (fun _ _ _ h=>h) (Or.inl ⟨by rfl,?_⟩) (by assumption) ?_;rotate_left 1
 ·(intro w hSw;(try dsimp only at hSw);go_simp<;>(with_reducible rfl))
 try simp only[Act.put,qA,qB,qC,qD,qE,qF]
 refine wpAnyH_take (i:=30) (v:=?_) rfl (by kernel_rfl) (by kernel_rfl) (by kernel_rfl) (fun _ _ _ h=>h) (Or.inl ⟨by rfl,?_⟩) (by assumption) ?_;rotate_left 1
 ·(intro w hSw;(try dsimp only at hSw);go_simp<;>(with_reducible rfl))
 try simp only[Act.put,qA,qB,qC,qD,qE,qF]
 refine wpAnyH_take (i:=31) (v:=?_) rfl (by kernel_rfl) (by kernel_rfl) (by kernel_rfl) (fun _ _ _ h=>h) (Or.inl ⟨by rfl,?_⟩) (by assumption) ?_;rotate_left 1
 ·(intro w hSw;(try dsimp only at hSw);go_simp<;>(with_reducible rfl))
 try simp only[Act.put,qA,qB,qC,qD,qE,qF]
 refine wpAnyH_take (i:=32) (v:=?_) rfl (by kernel_rfl) (by kernel_rfl) (by kernel_rfl) (fun _ _ _ h=>h) (Or.inl ⟨by rfl,?_⟩) (by assumption) ?_;rotate_left 1
 ·(intro w hSw;(try dsimp only at hSw);go_simp<;>(with_reducible rfl))
 try simp only[Act.put,qA,qB,qC,qD,qE,qF]
 refine wpAnyH_ready (rs:=[33]) (by kernel_rfl) (by simp) ?_;refine AllReadyH.cons rfl (fun K hK=>?_) AllReadyH.nil
 go_simp
 refine(held (W:=U15) hB.out ((pk_o (n:=2) (l:=[50]) (by decide) (by decide) (by decide +kernel) _)) (by assumption)).mono ?_;rintro e x2 ⟨rfl,hb,hw⟩
 (try go_wp2_with fail)
 refine hK.out _ _ hw (fun hH2=>?_);clear hK hH1 hb hw
 try simp only[Act.put,qA,qB,qC,qD,qE,qF]
 refine wpAnyH_take (i:=34) (v:=?_) rfl (by kernel_rfl) (by kernel_rfl) (by kernel_rfl) (fun _ _ _ h=>h) (Or.inl ⟨by rfl,?_⟩) (by assumption) ?_;rotate_left 1
 ·(intro w hSw;(try dsimp only at hSw);go_simp<;>(with_reducible rfl))
 try simp only[Act.put,qA,qB,qC,qD,qE,qF]
 refine wpAnyH_take (i:=35) (v:=?_) rfl (by kernel_rfl) (by kernel_rfl) (by kernel_rfl) (fun _ _ _ h=>h) (Or.inl ⟨by rfl,?_⟩) (by assumption) ?_;rotate_left 1
 ·(intro w hSw;(try dsimp only at hSw);go_simp<;>(with_reducible rfl))
 try simp only[Act.put,qA,qB,qC,qD,qE,qF]
 refine wpAnyH_take (i:=36) (v:=?_) rfl (by kernel_rfl) (by kernel_rfl) (by kernel_rfl) (fun _ _ _ h=>h) (Or.inl ⟨by rfl,?_⟩) (by assumption) ?_;rotate_left 1
 ·(intro w hSw;(try dsimp only at hSw);go_simp<;>(with_reducible rfl))
 try simp only[Act.put,qA,qB,qC,qD,qE,qF]
 refine wpAnyH_take (i:=37) (v:=?_) rfl (by kernel_rfl) (by kernel_rfl) (by kernel_rfl) (fun _ _ _ h=>h) (Or.inl ⟨by rfl,?_⟩) (by assumption) ?_;rotate_left 1
 ·(intro w hSw;(try dsimp only at hSw);go_simp<;>(with_reducible rfl))
 try simp only[Act.put,qA,qB,qC,qD,qE,qF]
 refine wpAnyH_ready (rs:=[38]) (by kernel_rfl) (by simp) ?_;refine AllReadyH.cons rfl (fun K hK=>?_) AllReadyH.nil
 go_simp
 refine(held (W:=U15) hB.out (cf_k1 HB.out hca (La.out.below (by assumption)) (HB.out.below HG.out (by assumption))) (by assumption)).mono ?_;rintro e x3 ⟨rfl,hb,hw⟩
 (try go_wp2_with fail)
 refine hK.out _ _ hw (fun hH3=>?_);clear hK hH2 hb hw
 try simp only[Act.put,qA,qB,qC,qD,qE,qF]
 refine wpAnyH_take (i:=39) (v:=?_) rfl (by kernel_rfl) (by kernel_rfl) (by kernel_rfl) (fun _ _ _ h=>h) (Or.inl ⟨by rfl,?_⟩) (by assumption) ?_;rotate_left 1
 ·(intro w hSw;(try dsimp only at hSw);go_simp<;>(with_reducible rfl))
 try simp only[Act.put,qA,qB,qC,qD,qE,qF]
 refine wpAnyH_take (i:=40) (v:=?_) rfl (by kernel_rfl) (by kernel_rfl) (by kernel_rfl) (fun _ _ _ h=>h) (Or.inl ⟨by rfl,?_⟩) (by assumption) ?_;rotate_left 1
 ·(intro w hSw;(try dsimp only at hSw);go_simp<;>(with_reducible rfl))
 try simp only[Act.put,qA,qB,qC,qD,qE,qF]
 refine wpAnyH_take (i:=41) (v:=?_) rfl (by kernel_rfl) (by kernel_rfl) (by kernel_rfl) (fun _ _ _ h=>h) (Or.inl ⟨by rfl,?_⟩) (by assumption) ?_;rotate_left 1
 ·(intro w hSw;(try dsimp only at hSw);go_simp<;>(with_reducible rfl))
 try simp only[Act.put,qA,qB,qC,qD,qE,qF]
 refine wpAnyH_ready (rs:=[42]) (by kernel_rfl) (by simp) ?_;refine AllReadyH.cons rfl (fun K hK=>?_) AllReadyH.nil
 go_simp
 refine(held (W:=U15) hB.out (cf_k2 HB.out hca (La.out.below (by assumption)) (HB.out.below HG.out (by assumption))) (by assumption)).mono ?_;rintro e x4 ⟨rfl,hb,hw⟩
 (try go_wp2_with fail)
 refine hK.out _ _ hw (fun hH4=>?_);clear hK hH3 hb hw
 try simp only[Act.put,qA,qB,qC,qD,qE,qF]
 refine wpAnyH_take (i:=43) (v:=?_) rfl (by kernel_rfl) (by kernel_rfl) (by kernel_rfl) (fun _ _ _ h=>h) (Or.inl ⟨by rfl,?_⟩) (by assumption) ?_;rotate_left 1
 ·(intro w hSw;(try dsimp only at hSw);go_simp<;>(with_reducible rfl))
 try simp only[Act.put,qA,qB,qC,qD,qE,qF]
 refine wpAnyH_take (i:=44) (v:=?_) rfl (by kernel_rfl) (by kernel_rfl) (by kernel_rfl) (fun _ _ _ h=>h) (Or.inl ⟨by rfl,?_⟩) (by assumption) ?_;rotate_left 1
 ·(intro w hSw;(try dsimp only at hSw);go_simp<;>(with_reducible rfl))
 try simp only[Act.put,qA,qB,qC,qD,qE,qF]
 refine wpAnyH_take (i:=45) (v:=?_) rfl (by kernel_rfl) (by kernel_rfl) (by kernel_rfl) (fun _ _ _ h=>h) (Or.inl ⟨by rfl,?_⟩) (by assumption) ?_;rotate_left 1
 ·(intro w hSw;(try dsimp only at hSw);go_simp<;>(with_reducible rfl))
 try simp only[Act.put,qA,qB,qC,qD,qE,qF]
 refine wpAnyH_take (i:=46) (v:=?_) rfl (by kernel_rfl) (by kernel_rfl) (by kernel_rfl) (fun _ _ _ h=>h) (Or.inl ⟨by rfl,?_⟩) (by assumption) ?_;rotate_left 1
 ·(intro w hSw;(try dsimp only at hSw);go_simp<;>(with_reducible rfl))
 try simp only[Act.put,qA,qB,qC,qD,qE,qF]
 refine wpAnyH_ready (rs:=[47]) (by kernel_rfl) (by simp) ?_;refine AllReadyH.cons rfl (fun K hK=>?_) AllReadyH.nil
 go_simp
 refine(held (W:=U15) hB.out (cf_k3 HB.out hcm (Lm.out.below (by assumption)) (HB.out.below HG.out (by assumption))) (by assumption)).mono ?_;rintro e x5 ⟨rfl,hb,hw⟩
 (try go_wp2_with fail)
 refine hK.out _ _ hw (fun hH5=>?_);clear hK hH4 hb hw
 try simp only[Act.put,qA,qB,qC,qD,qE,qF]
 refine wpAnyH_take (i:=48) (v:=?_) rfl (by kernel_rfl) (by kernel_rfl) (by kernel_rfl) (fun _ _ _ h=>h) (Or.inl ⟨by rfl,?_⟩) (by assumption) ?_;rotate_left 1
 ·(intro w hSw;(try dsimp only at hSw);go_simp<;>(with_reducible rfl))
 try simp only[Act.put,qA,qB,qC,qD,qE,qF]
 refine wpAnyH_take (i:=49) (v:=?_) rfl (by kernel_rfl) (by kernel_rfl) (by kernel_rfl) (fun _ _ _ h=>h) (Or.inl ⟨by rfl,?_⟩) (by assumption) ?_;rotate_left 1
 ·(intro w hSw;(try dsimp only at hSw);go_simp<;>(with_reducible rfl))
 try simp only[Act.put,qA,qB,qC,qD,qE,qF]
 refine wpAnyH_take (i:=50) (v:=?_) rfl (by kernel_rfl) (by kernel_rfl) (by kernel_rfl) (fun _ _ _ h=>h) (Or.inl ⟨by rfl,?_⟩) (by assumption) ?_;rotate_left 1
 ·(intro w hSw;(try dsimp only at hSw);go_simp<;>(with_reducible rfl))
 try simp only[Act.put,qA,qB,qC,qD,qE,qF]
 refine wpAnyH_take (i:=51) (v:=?_) rfl (by kernel_rfl) (by kernel_rfl) (by kernel_rfl) (fun _ _ _ h=>h) (Or.inl ⟨by rfl,?_⟩) (by assumption) ?_;rotate_left 1
 ·(intro w hSw;(try dsimp only at hSw);go_simp<;>(with_reducible rfl))
 try simp only[Act.put,qA,qB,qC,qD,qE,qF]
 refine wpAnyH_ready (rs:=[52]) (by kernel_rfl) (by simp) ?_;refine AllReadyH.cons rfl (fun K hK=>?_) AllReadyH.nil
 go_simp
 refine(held (W:=U15) hB.out (cf_m1 HB.out hca (La.out.below (by assumption)) (HB.out.below HG.out (by assumption))) (by assumption)).mono ?_;rintro e x6 ⟨rfl,hb,hw⟩
 (try go_wp2_with fail)
 refine hK.out _ _ hw (fun hH6=>?_);clear hK hH5 hb hw
 try simp only[Act.put,qA,qB,qC,qD,qE,qF]
 refine wpAnyH_take (i:=53) (v:=?_) rfl (by kernel_rfl) (by kernel_rfl) (by kernel_rfl) (fun _ _ _ h=>h) (Or.inl ⟨by rfl,?_⟩) (by assumption) ?_;rotate_left 1
 ·(intro w hSw;(try dsimp only at hSw);go_simp<;>(with_reducible rfl))
 try simp only[Act.put,qA,qB,qC,qD,qE,qF]
 refine wpAnyH_take (i:=54) (v:=?_) rfl (by kernel_rfl) (by kernel_rfl) (by kernel_rfl) (fun _ _ _ h=>h) (Or.inl ⟨by rfl,?_⟩) (by assumption) ?_;rotate_left 1
 ·(intro w hSw;(try dsimp only at hSw);go_simp<;>(with_reducible rfl))
 try simp only[Act.put,qA,qB,qC,qD,qE,qF]
 refine wpAnyH_take (i:=55) (v:=?_) rfl (by kernel_rfl) (by kernel_rfl) (by kernel_rfl) (fun _ _ _ h=>h) (Or.inl ⟨by rfl,?_⟩) (by assumption) ?_;rotate_left 1
 ·(intro w hSw;(try dsimp only at hSw);go_simp<;>(with_reducible rfl))
 try simp only[Act.put,qA,qB,qC,qD,qE,qF]
 refine wpAnyH_ready (rs:=[56]) (by kernel_rfl) (by simp) ?_;refine AllReadyH.cons rfl (fun K hK=>?_) AllReadyH.nil
 go_simp
 refine(held (W:=U15) hB.out (cf_m0 HB.out (HB.out.below HG.out (by assumption))) (by assumption)).mono ?_;rintro e x7 ⟨rfl,hb,hw⟩
 (try go_wp2_with fail)
 refine hK.out _ _ hw (fun hH7=>?_);clear hK hH6 hb hw
 try simp only[Act.put,qA,qB,qC,qD,qE,qF]
 refine wpAnyH_take (i:=57) (v:=?_) rfl (by kernel_rfl) (by kernel_rfl) (by kernel_rfl) (fun _ _ _ h=>h) (Or.inl ⟨by rfl,?_⟩) (by assumption) ?_;rotate_left 1
 ·(intro w hSw;(try dsimp only at hSw);go_simp<;>(with_reducible rfl))
 try simp only[Act.put,qA,qB,qC,qD,qE,qF]
 refine wpAnyH_take (i:=58) (v:=?_) rfl (by kernel_rfl) (by kernel_rfl) (by kernel_rfl) (fun _ _ _ h=>h) (Or.inl ⟨by rfl,?_⟩) (by assumption) ?_;rotate_left 1
 ·(intro w hSw;(try dsimp only at hSw);go_simp<;>(with_reducible rfl))
 try simp only[Act.put,qA,qB,qC,qD,qE,qF]
 refine wpAnyH_take (i:=59) (v:=?_) rfl (by kernel_rfl) (by kernel_rfl) (by kernel_rfl) (fun _ _ _ h=>h) (Or.inl ⟨by rfl,?_⟩) (by assumption) ?_;rotate_left 1
 ·(intro w hSw;(try dsimp only at hSw);go_simp<;>(with_reducible rfl))
 try simp only[Act.put,qA,qB,qC,qD,qE,qF]
 refine wpAnyH_done (by kernel_rfl) ?_ _;refine NoPanic.normal ?_;have b16:=hH7;clear hH7;clear hB;go_wp2_with fail;go_ret;exact⟨ret_bool (by first|rfl|simp),Below.more BW b16⟩
end Go.Proofs.YthgopcnagecbaaaGreatDoor
