/- Own work. -/
import Derived.Test.YtcebkcilkhebeaaGreatDoorAllRefA5
set_option linter.unusedSimpArgs false
set_option linter.unusedVariables false
set_option maxHeartbeats 8000000
set_option maxRecDepth 100000
namespace Go.Proofs.YtcebkcilkhebeaaGreatDoor
open Go.RowKit
open Ac (parseA noneA printA mayA Actn oB rB cB assetB dayA kindA)
theorem tells15_any(a:Actn)(s:ByteArray)(w:World)(hza:a.nm.length+a.ast.length+a.oth.length≤4611686018427387904)(hg:GoodA w):Calls Tryz.prog 3 #[.agg #[.string ⟨a.nm.toArray⟩,.int .i64 a.kind,.string ⟨a.ast.toArray⟩,.string ⟨a.oth.toArray⟩,.string ⟨a.ratio.1.toArray⟩,.string ⟨a.ratio.2.toArray⟩,.string ⟨a.cash.1.toArray⟩,.string ⟨a.cash.2.toArray⟩,.int .i64 a.ex,.int .i64 a.rc,.int .i64 a.pay],.string s] w (GiveB w true):=by
 have FX:=zh fixed15_any;have HG:=zh hg;clear hg;have CL:=zh (fun V=>aclight_y a.nm a.ast a.oth a.ratio.1 a.ratio.2 a.cash.1 a.cash.2 a.kind a.ex a.rc a.pay V hza);have hsz:lightA ⟨a.nm,a.kind,a.ast,a.oth,(a.ratio.1,a.ratio.2),(a.cash.1,a.cash.2),a.ex,a.rc,a.pay⟩=true→SzA a:=fun h=>by
  unfold lightA at h;simp only[Bool.and_eq_true,decide_eq_true_eq]at h;exact⟨⟨by omega,by omega,by omega⟩,⟨by omega,by omega⟩,by omega,by omega⟩
 have HSZ:=zh hsz;clear hza hsz;generalize lightA _=la at CL HSZ;have CM:=zh (fun V g=>amay_any a V g);have CP:=zh (fun V g=>aprint_any a V g);go_enter Tryz.func3,Tryz.ntmps3
 go_upto_region 1 with fail
 obtain⟨W,hW,BW,_,kk⟩:=layN (Below.refl w.heap.size w) #[.string ⟨a.nm.toArray⟩,.int .i64 a.kind,.string ⟨a.ast.toArray⟩,.string ⟨a.oth.toArray⟩,.string ⟨a.ratio.1.toArray⟩,.string ⟨a.ratio.2.toArray⟩,.string ⟨a.cash.1.toArray⟩,.string ⟨a.cash.2.toArray⟩,.int .i64 a.ex,.int .i64 a.rc,.int .i64 a.pay] 25;rw[hW];clear hW;have b0:=Below.refl W.heap.size W;replace HG:=zh (HG.out.below BW);have p0:=kk 0 _ rfl;have p1:=kk 1 _ rfl;have p2:=kk 2 _ rfl;have p3:=kk 3 _ rfl;have p4:=kk 4 _ rfl;have p5:=kk 5 _ rfl;have p6:=kk 6 _ rfl;have p7:=kk 7 _ rfl;have p8:=kk 8 _ rfl;have p9:=kk 9 _ rfl;have p10:=kk 10 _ rfl
 have KK:=zh kk;clear kk;go_wp2_with fail;refine(CL.out _).mono ?_;rintro e1 w1 ⟨rfl,b⟩;have b1:=Below.more b0 b;clear b;have out:∀V,Below W.heap.size W V→GoodA V:=fun V hV=>HG.out.below hV;have OUT:=zh out;clear out
 cases la with
 | false =>
  go_wp2_with fail;refine(FX.out _ (OUT.out _ b1)).mono ?_;rintro e2 w2 ⟨rfl,b⟩;go_wp2_with fail;go_ret;exact⟨rfl,Below.more BW (Below.more b1 b)⟩
 | true =>
 by_cases hs:1000<s.size
 case pos =>
  have hi:(1000:Int)<(s.size:Int):=by omega
  go_wp2_with fail;refine(FX.out _ (OUT.out _ b1)).mono ?_;rintro e2 w2 ⟨rfl,b⟩;go_wp2_with fail;go_ret;exact⟨rfl,Below.more BW (Below.more b1 b)⟩
 case neg =>
 have hi:¬(1000:Int)<(s.size:Int):=by omega
 have CS:=zh (fun V g=>aparse_any s V (by omega) g);have DS:=zh (fun V=>acparse_any s V (by omega));have DM:=zh (fun V=>acmay_any a V (HSZ.out rfl));have DP:=zh (fun V=>acprint_any a V (HSZ.out rfl));generalize parseA s.data.toList=y at *;obtain⟨x,e⟩:=y;generalize mayA a=m at *;generalize printA a=t at *;clear hs HSZ CL;go_wp2_with fail;refine(CS.out _ (OUT.out _ b1)).mono ?_;rintro e2 w2 ⟨rfl,b⟩;have b2:=Below.more b1 b;clear b b1;go_wp2_with fail;obtain⟨V1,hW,b3,s1,kk1⟩:=layN b2 #[.string ⟨x.nm.toArray⟩,.int .i64 x.kind,.string ⟨x.ast.toArray⟩,.string ⟨x.oth.toArray⟩,.string ⟨x.ratio.1.toArray⟩,.string ⟨x.ratio.2.toArray⟩,.string ⟨x.cash.1.toArray⟩,.string ⟨x.cash.2.toArray⟩,.int .i64 x.ex,.int .i64 x.rc,.int .i64 x.pay] 25;rw[hW];clear hW;refine(DS.out _).mono ?_;rintro e3 w3 ⟨rfl,b⟩;have c3:Below V1.heap.size V1 w3:=b;have b4:=Below.more b3 b;clear b;go_wp2_with fail;obtain⟨U,hW,bU,s2,kk2⟩:=layN (Below.refl w3.heap.size w3) #[.string ⟨x.nm.toArray⟩,.int .i64 x.kind,.string ⟨x.ast.toArray⟩,.string ⟨x.oth.toArray⟩,.string ⟨x.ratio.1.toArray⟩,.string ⟨x.ratio.2.toArray⟩,.string ⟨x.cash.1.toArray⟩,.string ⟨x.cash.2.toArray⟩,.int .i64 x.ex,.int .i64 x.rc,.int .i64 x.pay] 25;rw[hW];clear hW;have b5:=Below.more b4 bU;have c5:=Below.more c3 bU;replace HG:=zh (OUT.out U b5);have BW2:=zh (Below.more BW b5);clear p0 p1 p2 p3 p4 p5 p6 p7 p8 p9 p10;have p0:∀v,Below U.heap.size U v→_:=fun v hv=>KK.out 0 _ rfl v (Below.more b5 hv);have p1:∀v,Below U.heap.size U v→_:=fun v hv=>KK.out 1 _ rfl v (Below.more b5 hv);have p2:∀v,Below U.heap.size U v→_:=fun v hv=>KK.out 2 _ rfl v (Below.more b5 hv);have p3:∀v,Below U.heap.size U v→_:=fun v hv=>KK.out 3 _ rfl v (Below.more b5 hv);have p4:∀v,Below U.heap.size U v→_:=fun v hv=>KK.out 4 _ rfl v (Below.more b5 hv);have p5:∀v,Below U.heap.size U v→_:=fun v hv=>KK.out 5 _ rfl v (Below.more b5 hv);have p6:∀v,Below U.heap.size U v→_:=fun v hv=>KK.out 6 _ rfl v (Below.more b5 hv);have p7:∀v,Below U.heap.size U v→_:=fun v hv=>KK.out 7 _ rfl v (Below.more b5 hv);have p8:∀v,Below U.heap.size U v→_:=fun v hv=>KK.out 8 _ rfl v (Below.more b5 hv);have p9:∀v,Below U.heap.size U v→_:=fun v hv=>KK.out 9 _ rfl v (Below.more b5 hv);have p10:∀v,Below U.heap.size U v→_:=fun v hv=>KK.out 10 _ rfl v (Below.more b5 hv)
 have q0:∀v,Below U.heap.size U v→_:=fun v hv=>kk1 0 _ rfl v (Below.more c5 hv);have q1:∀v,Below U.heap.size U v→_:=fun v hv=>kk1 1 _ rfl v (Below.more c5 hv);have q2:∀v,Below U.heap.size U v→_:=fun v hv=>kk1 2 _ rfl v (Below.more c5 hv);have q3:∀v,Below U.heap.size U v→_:=fun v hv=>kk1 3 _ rfl v (Below.more c5 hv);have q4:∀v,Below U.heap.size U v→_:=fun v hv=>kk1 4 _ rfl v (Below.more c5 hv);have q5:∀v,Below U.heap.size U v→_:=fun v hv=>kk1 5 _ rfl v (Below.more c5 hv);have q6:∀v,Below U.heap.size U v→_:=fun v hv=>kk1 6 _ rfl v (Below.more c5 hv);have q7:∀v,Below U.heap.size U v→_:=fun v hv=>kk1 7 _ rfl v (Below.more c5 hv);have q8:∀v,Below U.heap.size U v→_:=fun v hv=>kk1 8 _ rfl v (Below.more c5 hv);have q9:∀v,Below U.heap.size U v→_:=fun v hv=>kk1 9 _ rfl v (Below.more c5 hv);have q10:∀v,Below U.heap.size U v→_:=fun v hv=>kk1 10 _ rfl v (Below.more c5 hv)
 have r0:=kk2 0 _ rfl;have r1:=kk2 1 _ rfl;have r2:=kk2 2 _ rfl;have r3:=kk2 3 _ rfl;have r4:=kk2 4 _ rfl;have r5:=kk2 5 _ rfl;have r6:=kk2 6 _ rfl;have r7:=kk2 7 _ rfl;have r8:=kk2 8 _ rfl;have r9:=kk2 9 _ rfl;have r10:=kk2 10 _ rfl
 clear kk1 kk2 s1 s2 KK OUT bU b2 b3 b4 c3 c5 b5 BW b0 CS DS;have b0:=Below.refl U.heap.size U;have hB:=zh (Nat.le_refl U.heap.size);refine wp_region_noPanic ?_;refine wp_region_held_drew (S:=fun w'=>Below U.heap.size U w') (by kernel_rfl) (b0.drew) (fun hH0=>?_);refine wpAnyH_ready (rs:=[0]) (by kernel_rfl) (by simp) ?_;refine AllReadyH.cons rfl (fun K hK=>?_) AllReadyH.nil
 go_simp
 refine(held (W:=U) hB.out (FX.out _ (HG.out.below (by assumption))) (by assumption)).mono ?_;rintro e x1 ⟨rfl,hb,hw⟩
 (try go_wp2_with fail)
 refine hK.out _ _ hw (fun hH1=>?_);clear hK hH0 hb hw
 try simp only[Act.put,qA,qB,qC,qD,qE,qF]
 refine wpAnyH_take (i:=1) (v:=?_) rfl (by kernel_rfl) (by kernel_rfl) (by kernel_rfl) (fun _ _ _ h=>h) (Or.inl ⟨by rfl,?_⟩) (by assumption) ?_;rotate_left 1
 ·(intro w hSw;(try dsimp only at hSw);go_simp<;>(with_reducible rfl))
 try simp only[Act.put,qA,qB,qC,qD,qE,qF]
 refine wpAnyH_take (i:=2) (v:=?_) rfl (by kernel_rfl) (by kernel_rfl) (by kernel_rfl) (fun _ _ _ h=>h) (Or.inl ⟨by rfl,?_⟩) (by assumption) ?_;rotate_left 1
 ·(intro w hSw;(try dsimp only at hSw);go_simp<;>(with_reducible rfl))
 try simp only[Act.put,qA,qB,qC,qD,qE,qF]
 refine wpAnyH_take (i:=4) (v:=?_) rfl (by kernel_rfl) (by kernel_rfl) (by kernel_rfl) (fun _ _ _ h=>h) (Or.inl ⟨by rfl,?_⟩) (by assumption) ?_;rotate_left 1
 ·(intro w hSw;(try dsimp only at hSw);go_simp<;>(with_reducible rfl))
 try simp only[Act.put,qA,qB,qC,qD,qE,qF]
 refine wpAnyH_ready (rs:=[3]) (by kernel_rfl) (by simp) ?_;refine AllReadyH.cons rfl (fun K hK=>?_) AllReadyH.nil
 go_simp
 refine(held (W:=U) hB.out (CM.out _ (HG.out.below (by assumption))) (by assumption)).mono ?_;rintro e x2 ⟨rfl,hb,hw⟩
 (try go_wp2_with fail)
 refine hK.out _ _ hw (fun hH2=>?_);clear hK hH1 hb hw
 try simp only[Act.put,qA,qB,qC,qD,qE,qF]
 refine wpAnyH_ready (rs:=[5]) (by kernel_rfl) (by simp) ?_;refine AllReadyH.cons rfl (fun K hK=>?_) AllReadyH.nil
 go_simp
 refine(held (W:=U) hB.out (DM.out _) (by assumption)).mono ?_;rintro e x3 ⟨rfl,hb,hw⟩
 (try go_wp2_with fail)
 refine hK.out _ _ hw (fun hH3=>?_);clear hK hH2 hb hw
 try simp only[Act.put,qA,qB,qC,qD,qE,qF]
 refine wpAnyH_take (i:=6) (v:=?_) rfl (by kernel_rfl) (by kernel_rfl) (by kernel_rfl) (fun _ _ _ h=>h) (Or.inl ⟨by rfl,?_⟩) (by assumption) ?_;rotate_left 1
 ·(intro w hSw;(try dsimp only at hSw);go_simp<;>(with_reducible rfl))
 try simp only[Act.put,qA,qB,qC,qD,qE,qF]
 refine wpAnyH_take (i:=7) (v:=?_) rfl (by kernel_rfl) (by kernel_rfl) (by kernel_rfl) (fun _ _ _ h=>h) (Or.inl ⟨by rfl,?_⟩) (by assumption) ?_;rotate_left 1
 ·(intro w hSw;(try dsimp only at hSw);go_simp<;>(with_reducible rfl))
 try simp only[Act.put,qA,qB,qC,qD,qE,qF]
 refine wpAnyH_take (i:=8) (v:=?_) rfl (by kernel_rfl) (by kernel_rfl) (by kernel_rfl) (fun _ _ _ h=>h) (Or.inl ⟨by rfl,?_⟩) (by assumption) ?_;rotate_left 1
 ·(intro w hSw;(try dsimp only at hSw);go_simp<;>(with_reducible rfl))
 try simp only[Act.put,qA,qB,qC,qD,qE,qF]
 refine wpAnyH_take (i:=9) (v:=?_) rfl (by kernel_rfl) (by kernel_rfl) (by kernel_rfl) (fun _ _ _ h=>h) (Or.inl ⟨by rfl,?_⟩) (by assumption) ?_;rotate_left 1
 ·(intro w hSw;(try dsimp only at hSw);go_simp<;>(with_reducible rfl))
 try simp only[Act.put,qA,qB,qC,qD,qE,qF]
 refine wpAnyH_take (i:=11) (v:=?_) rfl (by kernel_rfl) (by kernel_rfl) (by kernel_rfl) (fun _ _ _ h=>h) (Or.inl ⟨by rfl,?_⟩) (by assumption) ?_;rotate_left 1
 ·(intro w hSw;(try dsimp only at hSw);go_simp<;>(with_reducible rfl))
 try simp only[Act.put,qA,qB,qC,qD,qE,qF]
 refine wpAnyH_ready (rs:=[10]) (by kernel_rfl) (by simp) ?_;refine AllReadyH.cons rfl (fun K hK=>?_) AllReadyH.nil
 go_simp
 refine(held (W:=U) hB.out (CP.out _ (HG.out.below (by assumption))) (by assumption)).mono ?_;rintro e x4 ⟨rfl,hb,hw⟩
 (try go_wp2_with fail)
 refine hK.out _ _ hw (fun hH4=>?_);clear hK hH3 hb hw
 try simp only[Act.put,qA,qB,qC,qD,qE,qF]
 refine wpAnyH_ready (rs:=[12]) (by kernel_rfl) (by simp) ?_;refine AllReadyH.cons rfl (fun K hK=>?_) AllReadyH.nil
 go_simp
 refine(held (W:=U) hB.out (DP.out _) (by assumption)).mono ?_;rintro e x5 ⟨rfl,hb,hw⟩
 (try go_wp2_with fail)
 refine hK.out _ _ hw (fun hH5=>?_);clear hK hH4 hb hw
 try simp only[Act.put,qA,qB,qC,qD,qE,qF]
 refine wpAnyH_take (i:=13) (v:=?_) rfl (by kernel_rfl) (by kernel_rfl) (by kernel_rfl) (fun _ _ _ h=>h) (Or.inl ⟨by rfl,?_⟩) (by assumption) ?_;rotate_left 1
 ·(intro w hSw;(try dsimp only at hSw);go_simp<;>(with_reducible rfl))
 try simp only[Act.put,qA,qB,qC,qD,qE,qF]
 refine wpAnyH_take (i:=14) (v:=?_) rfl (by kernel_rfl) (by kernel_rfl) (by kernel_rfl) (fun _ _ _ h=>h) (Or.inl ⟨by rfl,?_⟩) (by assumption) ?_;rotate_left 1
 ·(intro w hSw;(try dsimp only at hSw);go_simp<;>(with_reducible rfl))
 try simp only[Act.put,qA,qB,qC,qD,qE,qF]
 refine wpAnyH_take (i:=15) (v:=?_) rfl (by kernel_rfl) (by kernel_rfl) (by kernel_rfl) (fun _ _ _ h=>h) (Or.inl ⟨by rfl,?_⟩) (by assumption) ?_;rotate_left 1
 ·(intro w hSw;(try dsimp only at hSw);go_simp<;>(with_reducible rfl))
 try simp only[Act.put,qA,qB,qC,qD,qE,qF]
 refine wpAnyH_take (i:=16) (v:=?_) rfl (by kernel_rfl) (by kernel_rfl) (by kernel_rfl) (fun _ _ _ h=>h) (Or.inl ⟨by rfl,?_⟩) (by assumption) ?_;rotate_left 1
 ·(intro w hSw;(try dsimp only at hSw);go_simp<;>(with_reducible rfl))
 try simp only[Act.put,qA,qB,qC,qD,qE,qF]
 refine wpAnyH_take (i:=17) (v:=?_) rfl (by kernel_rfl) (by kernel_rfl) (by kernel_rfl) (fun _ _ _ h=>h) (Or.inl ⟨by rfl,?_⟩) (by assumption) ?_;rotate_left 1
 ·(intro w hSw;(try dsimp only at hSw);go_simp<;>(with_reducible rfl))
 try simp only[Act.put,qA,qB,qC,qD,qE,qF]
 refine wpAnyH_take (i:=18) (v:=?_) rfl (by kernel_rfl) (by kernel_rfl) (by kernel_rfl) (fun _ _ _ h=>h) (Or.inl ⟨by rfl,?_⟩) (by assumption) ?_;rotate_left 1
 ·(intro w hSw;(try dsimp only at hSw);go_simp<;>(with_reducible rfl))
 try simp only[Act.put,qA,qB,qC,qD,qE,qF]
 refine wpAnyH_take (i:=19) (v:=?_) rfl (by kernel_rfl) (by kernel_rfl) (by kernel_rfl) (fun _ _ _ h=>h) (Or.inl ⟨by rfl,?_⟩) (by assumption) ?_;rotate_left 1
 ·(intro w hSw;(try dsimp only at hSw);go_simp<;>(with_reducible rfl))
 try simp only[Act.put,qA,qB,qC,qD,qE,qF]
 refine wpAnyH_take (i:=20) (v:=?_) rfl (by kernel_rfl) (by kernel_rfl) (by kernel_rfl) (fun _ _ _ h=>h) (Or.inl ⟨by rfl,?_⟩) (by assumption) ?_;rotate_left 1
 ·(intro w hSw;(try dsimp only at hSw);go_simp<;>(with_reducible rfl))
 try simp only[Act.put,qA,qB,qC,qD,qE,qF]
 refine wpAnyH_take (i:=21) (v:=?_) rfl (by kernel_rfl) (by kernel_rfl) (by kernel_rfl) (fun _ _ _ h=>h) (Or.inl ⟨by rfl,?_⟩) (by assumption) ?_;rotate_left 1
 ·(intro w hSw;(try dsimp only at hSw);go_simp<;>(with_reducible rfl))
 try simp only[Act.put,qA,qB,qC,qD,qE,qF]
 refine wpAnyH_take (i:=22) (v:=?_) rfl (by kernel_rfl) (by kernel_rfl) (by kernel_rfl) (fun _ _ _ h=>h) (Or.inl ⟨by rfl,?_⟩) (by assumption) ?_;rotate_left 1
 ·(intro w hSw;(try dsimp only at hSw);go_simp<;>(with_reducible rfl))
 try simp only[Act.put,qA,qB,qC,qD,qE,qF]
 refine wpAnyH_take (i:=23) (v:=?_) rfl (by kernel_rfl) (by kernel_rfl) (by kernel_rfl) (fun _ _ _ h=>h) (Or.inl ⟨by rfl,?_⟩) (by assumption) ?_;rotate_left 1
 ·(intro w hSw;(try dsimp only at hSw);go_simp<;>(with_reducible rfl))
 try simp only[Act.put,qA,qB,qC,qD,qE,qF]
 refine wpAnyH_take (i:=24) (v:=?_) rfl (by kernel_rfl) (by kernel_rfl) (by kernel_rfl) (fun _ _ _ h=>h) (Or.inl ⟨by rfl,?_⟩) (by assumption) ?_;rotate_left 1
 ·(intro w hSw;(try dsimp only at hSw);go_simp<;>(with_reducible rfl))
 try simp only[Act.put,qA,qB,qC,qD,qE,qF]
 refine wpAnyH_take (i:=25) (v:=?_) rfl (by kernel_rfl) (by kernel_rfl) (by kernel_rfl) (fun _ _ _ h=>h) (Or.inl ⟨by rfl,?_⟩) (by assumption) ?_;rotate_left 1
 ·(intro w hSw;(try dsimp only at hSw);go_simp<;>(with_reducible rfl))
 try simp only[Act.put,qA,qB,qC,qD,qE,qF]
 refine wpAnyH_done (by kernel_rfl) ?_ _;refine NoPanic.normal ?_;have b9:=hH5;clear hH5;go_wp2_with fail;go_ret;exact⟨ret_bool (by first|rfl|simp),Below.more BW2.out b9⟩
end Go.Proofs.YtcebkcilkhebeaaGreatDoor
