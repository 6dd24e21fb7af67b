/- Own work. -/
import Derived.Test.YtcebkcilkhebeaaGreatDoorAllAc5
import Derived.Test.YtcebkcilkhebeaaGreatDoorAllAc4
set_option linter.unusedSimpArgs false
set_option linter.unusedVariables false
set_option maxHeartbeats 8000000
set_option maxRecDepth 100000
namespace Go.Proofs.YtcebkcilkhebeaaGreatDoor
open Go.RowKit
open Ac (parseA noneA printA mayA Actn oB rB cB assetB)
def GiveC(w:World)(v:Value)(e:Ending)(w':World):Prop:=e=.returned v∧Below w.heap.size w w'
theorem fc_1(w:World)(hg:GoodA w):Calls Tryz.prog 9 #[.string ⟨#[109,101,114,103,101,114,32,109,49,32,120,32,53,32,54,32,57,32,121,32,48,46,53,32,50]⟩] w (GiveC w (.tuple #[.agg #[.string ⟨#[109,49]⟩,.int .i64 4,.string ⟨#[120]⟩,.string ⟨#[121]⟩,.string ⟨#[49]⟩,.string ⟨#[50]⟩,.string ⟨#[50]⟩,.string ⟨#[49]⟩,.int .i64 5,.int .i64 6,.int .i64 9],.int .i64 0])):=by
 have h:=aparse_any ⟨#[109,101,114,103,101,114,32,109,49,32,120,32,53,32,54,32,57,32,121,32,48,46,53,32,50]⟩ w (by decide) hg;rw[show parseA (⟨#[109,101,114,103,101,114,32,109,49,32,120,32,53,32,54,32,57,32,121,32,48,46,53,32,50]⟩:ByteArray).data.toList=(⟨[109,49],4,[120],[121],([49],[50]),([50],[49]),5,6,9⟩,0) by decide +kernel]at h;exact h
theorem fc_2(w:World)(hg:GoodA w):Calls Tryz.prog 9 #[.string ⟨#[115,112,108,105,116,32,115,49,32,120,32,49,32,49,32,49,32,51,47,50]⟩] w (GiveC w (.tuple #[.agg #[.string ⟨#[115,49]⟩,.int .i64 0,.string ⟨#[120]⟩,.string ⟨#[]⟩,.string ⟨#[51]⟩,.string ⟨#[50]⟩,.string ⟨#[48]⟩,.string ⟨#[49]⟩,.int .i64 1,.int .i64 1,.int .i64 1],.int .i64 0])):=by
 have h:=aparse_any ⟨#[115,112,108,105,116,32,115,49,32,120,32,49,32,49,32,49,32,51,47,50]⟩ w (by decide) hg;rw[show parseA (⟨#[115,112,108,105,116,32,115,49,32,120,32,49,32,49,32,49,32,51,47,50]⟩:ByteArray).data.toList=(⟨[115,49],0,[120],[],([51],[50]),([48],[49]),1,1,1⟩,0) by decide +kernel]at h;exact h
theorem fc_3(w:World)(hg:GoodA w):Calls Tryz.prog 9 #[.string ⟨#[115,112,108,105,116,32,115,49,32,120,32,50,32,49,32,49,32,51]⟩] w (GiveC w (.tuple #[.agg #[.string ⟨#[]⟩,.int .i64 0,.string ⟨#[]⟩,.string ⟨#[]⟩,.string ⟨#[]⟩,.string ⟨#[]⟩,.string ⟨#[]⟩,.string ⟨#[]⟩,.int .i64 0,.int .i64 0,.int .i64 0],.int .i64 150])):=by
 have h:=aparse_any ⟨#[115,112,108,105,116,32,115,49,32,120,32,50,32,49,32,49,32,51]⟩ w (by decide) hg;rw[show parseA (⟨#[115,112,108,105,116,32,115,49,32,120,32,50,32,49,32,49,32,51]⟩:ByteArray).data.toList=(⟨[],0,[],[],([],[]),([],[]),0,0,0⟩,150) by decide +kernel]at h;exact h
theorem fc_4(w:World)(hg:GoodA w):Calls Tryz.prog 9 #[.string ⟨#[99,97,115,104,32,100,49,32,120,32,49,32,49,32,49,32,48]⟩] w (GiveC w (.tuple #[.agg #[.string ⟨#[]⟩,.int .i64 0,.string ⟨#[]⟩,.string ⟨#[]⟩,.string ⟨#[]⟩,.string ⟨#[]⟩,.string ⟨#[]⟩,.string ⟨#[]⟩,.int .i64 0,.int .i64 0,.int .i64 0],.int .i64 150])):=by
 have h:=aparse_any ⟨#[99,97,115,104,32,100,49,32,120,32,49,32,49,32,49,32,48]⟩ w (by decide) hg;rw[show parseA (⟨#[99,97,115,104,32,100,49,32,120,32,49,32,49,32,49,32,48]⟩:ByteArray).data.toList=(⟨[],0,[],[],([],[]),([],[]),0,0,0⟩,150) by decide +kernel]at h;exact h
theorem fc_5(w:World)(hg:GoodA w):Calls Tryz.prog 9 #[.string ⟨#[115,112,105,110,32,112,49,32,120,32,49,32,49,32,49,32,120,32,49]⟩] w (GiveC w (.tuple #[.agg #[.string ⟨#[]⟩,.int .i64 0,.string ⟨#[]⟩,.string ⟨#[]⟩,.string ⟨#[]⟩,.string ⟨#[]⟩,.string ⟨#[]⟩,.string ⟨#[]⟩,.int .i64 0,.int .i64 0,.int .i64 0],.int .i64 150])):=by
 have h:=aparse_any ⟨#[115,112,105,110,32,112,49,32,120,32,49,32,49,32,49,32,120,32,49]⟩ w (by decide) hg;rw[show parseA (⟨#[115,112,105,110,32,112,49,32,120,32,49,32,49,32,49,32,120,32,49]⟩:ByteArray).data.toList=(⟨[],0,[],[],([],[]),([],[]),0,0,0⟩,150) by decide +kernel]at h;exact h
theorem fc_p(w:World)(hg:GoodA w):Calls Tryz.prog 13 #[.agg #[.string ⟨#[115,49]⟩,.int .i64 0,.string ⟨#[120]⟩,.string ⟨#[]⟩,.string ⟨#[51]⟩,.string ⟨#[50]⟩,.string ⟨#[48]⟩,.string ⟨#[49]⟩,.int .i64 1,.int .i64 1,.int .i64 1]] w (GiveS w [115,112,108,105,116,32,115,49,32,120,32,49,32,49,32,49,32,49,46,53]):=by
 have h:=aprint_any ⟨[115,49],0,[120],[],([51],[50]),([48],[49]),1,1,1⟩ w hg;rw[show printA ⟨[115,49],0,[120],[],([51],[50]),([48],[49]),1,1,1⟩=[115,112,108,105,116,32,115,49,32,120,32,49,32,49,32,49,32,49,46,53] by decide +kernel]at h;exact h
theorem fc_m(w:World)(hg:GoodA w):Calls Tryz.prog 11 #[.agg #[.string ⟨#[109,49]⟩,.int .i64 4,.string ⟨#[120]⟩,.string ⟨#[121]⟩,.string ⟨#[49]⟩,.string ⟨#[50]⟩,.string ⟨#[50]⟩,.string ⟨#[49]⟩,.int .i64 5,.int .i64 6,.int .i64 9]] w (GiveB w true):=by
 have h:=amay_any ⟨[109,49],4,[120],[121],([49],[50]),([50],[49]),5,6,9⟩ w hg;rw[show mayA ⟨[109,49],4,[120],[121],([49],[50]),([50],[49]),5,6,9⟩=true by decide +kernel]at h;exact h
theorem fc_z(w:World)(hg:GoodA w):Calls Tryz.prog 11 #[.agg #[.string ⟨#[]⟩,.int .i64 0,.string ⟨#[]⟩,.string ⟨#[]⟩,.string ⟨#[]⟩,.string ⟨#[]⟩,.string ⟨#[]⟩,.string ⟨#[]⟩,.int .i64 0,.int .i64 0,.int .i64 0]] w (GiveB w false):=by
 have h:=amay_any ⟨[],0,[],[],([],[]),([],[]),0,0,0⟩ w hg;rw[show mayA ⟨[],0,[],[],([],[]),([],[]),0,0,0⟩=false by decide +kernel]at h;exact h
theorem fc_12(w:World):Calls Tryz.prog 16 #[.int .i64 1,.int .i64 2] w (GiveR w ([49],[50])):=by
 have h:=rqone_any 1 2 w (by decide) (by decide) (by decide) (by decide);rw[one_c (q:=([49],[50])) (by decide +kernel)]at h;exact h
theorem fc_o{n:Int}{l:List UInt8}(h0:-9223372036854775808≤n)(h1:n≤9223372036854775807)(hl:wd n=l)(w:World):Calls Tryz.prog 15 #[.int .i64 n] w (GiveR w (l,[49])):=by
 have h:=rqof_any n w h0 h1;rw[hl]at h;exact h
theorem fixed15_any(w:World)(hg:GoodA w):Calls Tryz.prog 8 #[] w (GiveB w true):=by
 have HG:=zh hg;clear hg;have BW:=Below.refl w.heap.size w;go_enter Tryz.func8,Tryz.ntmps8;go_wp2_with fail;refine(fc_1 _ HG.out).mono ?_;rintro e w1 ⟨rfl,b⟩;go_wp2_with fail;obtain⟨U1,hW,bU,_,kk⟩:=layN b #[.string ⟨#[109,49]⟩,.int .i64 4,.string ⟨#[120]⟩,.string ⟨#[121]⟩,.string ⟨#[49]⟩,.string ⟨#[50]⟩,.string ⟨#[50]⟩,.string ⟨#[49]⟩,.int .i64 5,.int .i64 6,.int .i64 9] 25;rw[hW];clear hW b;replace HG:=zh (HG.out.below bU);replace BW:=Below.more BW bU;have R1:=zh kk;clear kk bU;go_wp2_with fail;refine(fc_2 _ HG.out).mono ?_;rintro e w2 ⟨rfl,b⟩;go_wp2_with fail;obtain⟨U2,hW,bU,_,kk⟩:=layN b #[.string ⟨#[115,49]⟩,.int .i64 0,.string ⟨#[120]⟩,.string ⟨#[]⟩,.string ⟨#[51]⟩,.string ⟨#[50]⟩,.string ⟨#[48]⟩,.string ⟨#[49]⟩,.int .i64 1,.int .i64 1,.int .i64 1] 25;rw[hW];clear hW b;replace HG:=zh (HG.out.below bU);replace BW:=Below.more BW bU;replace R1:=zh (fun j u e v hv=>R1.out j u e v (Below.more bU hv));have R2:=zh kk;clear kk bU;go_wp2_with fail;refine(fc_3 _ HG.out).mono ?_;rintro e w3 ⟨rfl,b⟩;go_wp2_with fail;obtain⟨U3,hW,bU,_,kk⟩:=layN b #[.string ⟨#[]⟩,.int .i64 0,.string ⟨#[]⟩,.string ⟨#[]⟩,.string ⟨#[]⟩,.string ⟨#[]⟩,.string ⟨#[]⟩,.string ⟨#[]⟩,.int .i64 0,.int .i64 0,.int .i64 0] 25;rw[hW];clear hW b;replace HG:=zh (HG.out.below bU);replace BW:=Below.more BW bU;replace R1:=zh (fun j u e v hv=>R1.out j u e v (Below.more bU hv));replace R2:=zh (fun j u e v hv=>R2.out j u e v (Below.more bU hv));clear kk bU;go_wp2_with fail;refine(fc_4 _ HG.out).mono ?_;rintro e w4 ⟨rfl,b⟩;go_wp2_with fail
 obtain⟨U4,hW,bU,_,kk⟩:=layN b #[.string ⟨#[]⟩,.int .i64 0,.string ⟨#[]⟩,.string ⟨#[]⟩,.string ⟨#[]⟩,.string ⟨#[]⟩,.string ⟨#[]⟩,.string ⟨#[]⟩,.int .i64 0,.int .i64 0,.int .i64 0] 25;rw[hW];clear hW b;replace HG:=zh (HG.out.below bU);replace BW:=Below.more BW bU;replace R1:=zh (fun j u e v hv=>R1.out j u e v (Below.more bU hv));replace R2:=zh (fun j u e v hv=>R2.out j u e v (Below.more bU hv));clear kk bU;go_wp2_with fail;refine(fc_5 _ HG.out).mono ?_;rintro e w5 ⟨rfl,b⟩;go_wp2_with fail;obtain⟨U5,hW,bU,_,kk⟩:=layN b #[.string ⟨#[]⟩,.int .i64 0,.string ⟨#[]⟩,.string ⟨#[]⟩,.string ⟨#[]⟩,.string ⟨#[]⟩,.string ⟨#[]⟩,.string ⟨#[]⟩,.int .i64 0,.int .i64 0,.int .i64 0] 25;rw[hW];clear hW b;replace HG:=zh (HG.out.below bU);replace BW:=Below.more BW bU;replace R1:=zh (fun j u e v hv=>R1.out j u e v (Below.more bU hv));replace R2:=zh (fun j u e v hv=>R2.out j u e v (Below.more bU hv));clear kk bU;have p0:=R1.out 0 _ rfl;have p1:=R1.out 1 _ rfl;have p2:=R1.out 2 _ rfl;have p3:=R1.out 3 _ rfl;have p4:=R1.out 4 _ rfl;have p5:=R1.out 5 _ rfl;have p6:=R1.out 6 _ rfl;have p7:=R1.out 7 _ rfl;have p8:=R1.out 8 _ rfl;have p9:=R1.out 9 _ rfl;have p10:=R1.out 10 _ rfl
 have q0:=R2.out 0 _ rfl;have q1:=R2.out 1 _ rfl;have q2:=R2.out 2 _ rfl;have q3:=R2.out 3 _ rfl;have q4:=R2.out 4 _ rfl;have q5:=R2.out 5 _ rfl;have q6:=R2.out 6 _ rfl;have q7:=R2.out 7 _ rfl;have q8:=R2.out 8 _ rfl;have q9:=R2.out 9 _ rfl;have q10:=R2.out 10 _ rfl
 clear R1 R2;have b0:=Below.refl U5.heap.size U5;have hB:=zh (Nat.le_refl U5.heap.size);go_wp2_with fail;refine wp_region_noPanic ?_;refine wp_region_held_drew (S:=fun w'=>Below U5.heap.size U5 w') (by kernel_rfl) (b0.drew) (fun hH0=>?_);refine wpAnyH_take (i:=0) (v:=?_) rfl (by kernel_rfl) (by kernel_rfl) (by kernel_rfl) (fun _ _ _ h=>h) (Or.inl ⟨by rfl,?_⟩) (by assumption) ?_;rotate_left 1
 ·(intro w hSw;(try dsimp only at hSw);go_simp<;>(with_reducible rfl))
 try simp only[Act.put,qA,qB,qC,qD,qE,qF]
 refine wpAnyH_take (i:=1) (v:=?_) rfl (by kernel_rfl) (by kernel_rfl) (by kernel_rfl) (fun _ _ _ h=>h) (Or.inl ⟨by rfl,?_⟩) (by assumption) ?_;rotate_left 1
 ·(intro w hSw;(try dsimp only at hSw);go_simp<;>(with_reducible rfl))
 try simp only[Act.put,qA,qB,qC,qD,qE,qF]
 refine wpAnyH_take (i:=2) (v:=?_) rfl (by kernel_rfl) (by kernel_rfl) (by kernel_rfl) (fun _ _ _ h=>h) (Or.inl ⟨by rfl,?_⟩) (by assumption) ?_;rotate_left 1
 ·(intro w hSw;(try dsimp only at hSw);go_simp<;>(with_reducible rfl))
 try simp only[Act.put,qA,qB,qC,qD,qE,qF]
 refine wpAnyH_take (i:=3) (v:=?_) rfl (by kernel_rfl) (by kernel_rfl) (by kernel_rfl) (fun _ _ _ h=>h) (Or.inl ⟨by rfl,?_⟩) (by assumption) ?_;rotate_left 1
 ·(intro w hSw;(try dsimp only at hSw);go_simp<;>(with_reducible rfl))
 try simp only[Act.put,qA,qB,qC,qD,qE,qF]
 refine wpAnyH_ready (rs:=[4]) (by kernel_rfl) (by simp) ?_;refine AllReadyH.cons rfl (fun K hK=>?_) AllReadyH.nil
 go_simp
 refine(held (W:=U5) hB.out (fc_12 _) (by assumption)).mono ?_;rintro e x1 ⟨rfl,hb,hw⟩
 (try go_wp2_with fail)
 refine hK.out _ _ hw (fun hH1=>?_);clear hK hH0 hb hw
 try simp only[Act.put,qA,qB,qC,qD,qE,qF]
 refine wpAnyH_ready (rs:=[5]) (by kernel_rfl) (by simp) ?_;refine AllReadyH.cons rfl (fun K hK=>?_) AllReadyH.nil
 go_simp
 refine(held (W:=U5) hB.out (fc_o (l:=[50]) (by decide) (by decide) (by decide +kernel) _) (by assumption)).mono ?_;rintro e x2 ⟨rfl,hb,hw⟩
 (try go_wp2_with fail)
 refine hK.out _ _ hw (fun hH2=>?_);clear hK hH1 hb hw
 try simp only[Act.put,qA,qB,qC,qD,qE,qF]
 refine wpAnyH_take (i:=6) (v:=?_) rfl (by kernel_rfl) (by kernel_rfl) (by kernel_rfl) (fun _ _ _ h=>h) (Or.inl ⟨by rfl,?_⟩) (by assumption) ?_;rotate_left 1
 ·(intro w hSw;(try dsimp only at hSw);go_simp<;>(with_reducible rfl))
 try simp only[Act.put,qA,qB,qC,qD,qE,qF]
 refine wpAnyH_take (i:=7) (v:=?_) rfl (by kernel_rfl) (by kernel_rfl) (by kernel_rfl) (fun _ _ _ h=>h) (Or.inl ⟨by rfl,?_⟩) (by assumption) ?_;rotate_left 1
 ·(intro w hSw;(try dsimp only at hSw);go_simp<;>(with_reducible rfl))
 try simp only[Act.put,qA,qB,qC,qD,qE,qF]
 refine wpAnyH_take (i:=8) (v:=?_) rfl (by kernel_rfl) (by kernel_rfl) (by kernel_rfl) (fun _ _ _ h=>h) (Or.inl ⟨by rfl,?_⟩) (by assumption) ?_;rotate_left 1
 ·(intro w hSw;(try dsimp only at hSw);go_simp<;>(with_reducible rfl))
 try simp only[Act.put,qA,qB,qC,qD,qE,qF]
 refine wpAnyH_take (i:=9) (v:=?_) rfl (by kernel_rfl) (by kernel_rfl) (by kernel_rfl) (fun _ _ _ h=>h) (Or.inl ⟨by rfl,?_⟩) (by assumption) ?_;rotate_left 1
 ·(intro w hSw;(try dsimp only at hSw);go_simp<;>(with_reducible rfl))
 try simp only[Act.put,qA,qB,qC,qD,qE,qF]
 refine wpAnyH_take (i:=10) (v:=?_) rfl (by kernel_rfl) (by kernel_rfl) (by kernel_rfl) (fun _ _ _ h=>h) (Or.inl ⟨by rfl,?_⟩) (by assumption) ?_;rotate_left 1
 ·(intro w hSw;(try dsimp only at hSw);go_simp<;>(with_reducible rfl))
 try simp only[Act.put,qA,qB,qC,qD,qE,qF]
 refine wpAnyH_take (i:=11) (v:=?_) rfl (by kernel_rfl) (by kernel_rfl) (by kernel_rfl) (fun _ _ _ h=>h) (Or.inl ⟨by rfl,?_⟩) (by assumption) ?_;rotate_left 1
 ·(intro w hSw;(try dsimp only at hSw);go_simp<;>(with_reducible rfl))
 try simp only[Act.put,qA,qB,qC,qD,qE,qF]
 refine wpAnyH_take (i:=12) (v:=?_) rfl (by kernel_rfl) (by kernel_rfl) (by kernel_rfl) (fun _ _ _ h=>h) (Or.inl ⟨by rfl,?_⟩) (by assumption) ?_;rotate_left 1
 ·(intro w hSw;(try dsimp only at hSw);go_simp<;>(with_reducible rfl))
 try simp only[Act.put,qA,qB,qC,qD,qE,qF]
 refine wpAnyH_take (i:=13) (v:=?_) rfl (by kernel_rfl) (by kernel_rfl) (by kernel_rfl) (fun _ _ _ h=>h) (Or.inl ⟨by rfl,?_⟩) (by assumption) ?_;rotate_left 1
 ·(intro w hSw;(try dsimp only at hSw);go_simp<;>(with_reducible rfl))
 try simp only[Act.put,qA,qB,qC,qD,qE,qF]
 refine wpAnyH_take (i:=14) (v:=?_) rfl (by kernel_rfl) (by kernel_rfl) (by kernel_rfl) (fun _ _ _ h=>h) (Or.inl ⟨by rfl,?_⟩) (by assumption) ?_;rotate_left 1
 ·(intro w hSw;(try dsimp only at hSw);go_simp<;>(with_reducible rfl))
 try simp only[Act.put,qA,qB,qC,qD,qE,qF]
 refine wpAnyH_ready (rs:=[15]) (by kernel_rfl) (by simp) ?_;refine AllReadyH.cons rfl (fun K hK=>?_) AllReadyH.nil
 go_simp
 refine(held (W:=U5) hB.out (fc_p _ (HG.out.below (by assumption))) (by assumption)).mono ?_;rintro e x3 ⟨rfl,hb,hw⟩
 (try go_wp2_with fail)
 refine hK.out _ _ hw (fun hH3=>?_);clear hK hH2 hb hw
 try simp only[Act.put,qA,qB,qC,qD,qE,qF]
 refine wpAnyH_take (i:=16) (v:=?_) rfl (by kernel_rfl) (by kernel_rfl) (by kernel_rfl) (fun _ _ _ h=>h) (Or.inl ⟨by rfl,?_⟩) (by assumption) ?_;rotate_left 1
 ·(intro w hSw;(try dsimp only at hSw);go_simp<;>(with_reducible rfl))
 try simp only[Act.put,qA,qB,qC,qD,qE,qF]
 refine wpAnyH_take (i:=17) (v:=?_) rfl (by kernel_rfl) (by kernel_rfl) (by kernel_rfl) (fun _ _ _ h=>h) (Or.inl ⟨by rfl,?_⟩) (by assumption) ?_;rotate_left 1
 ·(intro w hSw;(try dsimp only at hSw);go_simp<;>(with_reducible rfl))
 try simp only[Act.put,qA,qB,qC,qD,qE,qF]
 refine wpAnyH_take (i:=18) (v:=?_) rfl (by kernel_rfl) (by kernel_rfl) (by kernel_rfl) (fun _ _ _ h=>h) (Or.inl ⟨by rfl,?_⟩) (by assumption) ?_;rotate_left 1
 ·(intro w hSw;(try dsimp only at hSw);go_simp<;>(with_reducible rfl))
 try simp only[Act.put,qA,qB,qC,qD,qE,qF]
 refine wpAnyH_take (i:=19) (v:=?_) rfl (by kernel_rfl) (by kernel_rfl) (by kernel_rfl) (fun _ _ _ h=>h) (Or.inl ⟨by rfl,?_⟩) (by assumption) ?_;rotate_left 1
 ·(intro w hSw;(try dsimp only at hSw);go_simp<;>(with_reducible rfl))
 try simp only[Act.put,qA,qB,qC,qD,qE,qF]
 refine wpAnyH_take (i:=20) (v:=?_) rfl (by kernel_rfl) (by kernel_rfl) (by kernel_rfl) (fun _ _ _ h=>h) (Or.inl ⟨by rfl,?_⟩) (by assumption) ?_;rotate_left 1
 ·(intro w hSw;(try dsimp only at hSw);go_simp<;>(with_reducible rfl))
 try simp only[Act.put,qA,qB,qC,qD,qE,qF]
 refine wpAnyH_take (i:=21) (v:=?_) rfl (by kernel_rfl) (by kernel_rfl) (by kernel_rfl) (fun _ _ _ h=>h) (Or.inl ⟨by rfl,?_⟩) (by assumption) ?_;rotate_left 1
 ·(intro w hSw;(try dsimp only at hSw);go_simp<;>(with_reducible rfl))
 try simp only[Act.put,qA,qB,qC,qD,qE,qF]
 refine wpAnyH_take (i:=22) (v:=?_) rfl (by kernel_rfl) (by kernel_rfl) (by kernel_rfl) (fun _ _ _ h=>h) (Or.inl ⟨by rfl,?_⟩) (by assumption) ?_;rotate_left 1
 ·(intro w hSw;(try dsimp only at hSw);go_simp<;>(with_reducible rfl))
 try simp only[Act.put,qA,qB,qC,qD,qE,qF]
 refine wpAnyH_take (i:=23) (v:=?_) rfl (by kernel_rfl) (by kernel_rfl) (by kernel_rfl) (fun _ _ _ h=>h) (Or.inl ⟨by rfl,?_⟩) (by assumption) ?_;rotate_left 1
 ·(intro w hSw;(try dsimp only at hSw);go_simp<;>(with_reducible rfl))
 try simp only[Act.put,qA,qB,qC,qD,qE,qF]
 refine wpAnyH_take (i:=24) (v:=?_) rfl (by kernel_rfl) (by kernel_rfl) (by kernel_rfl) (fun _ _ _ h=>h) (Or.inl ⟨by rfl,?_⟩) (by assumption) ?_;rotate_left 1
 ·(intro w hSw;(try dsimp only at hSw);go_simp<;>(with_reducible rfl))
 try simp only[Act.put,qA,qB,qC,qD,qE,qF]
 refine wpAnyH_take (i:=25) (v:=?_) rfl (by kernel_rfl) (by kernel_rfl) (by kernel_rfl) (fun _ _ _ h=>h) (Or.inl ⟨by rfl,?_⟩) (by assumption) ?_;rotate_left 1
 ·(intro w hSw;(try dsimp only at hSw);go_simp<;>(with_reducible rfl))
 try simp only[Act.put,qA,qB,qC,qD,qE,qF]
 refine wpAnyH_take (i:=26) (v:=?_) rfl (by kernel_rfl) (by kernel_rfl) (by kernel_rfl) (fun _ _ _ h=>h) (Or.inl ⟨by rfl,?_⟩) (by assumption) ?_;rotate_left 1
 ·(intro w hSw;(try dsimp only at hSw);go_simp<;>(with_reducible rfl))
 try simp only[Act.put,qA,qB,qC,qD,qE,qF]
 refine wpAnyH_take (i:=27) (v:=?_) rfl (by kernel_rfl) (by kernel_rfl) (by kernel_rfl) (fun _ _ _ h=>h) (Or.inl ⟨by rfl,?_⟩) (by assumption) ?_;rotate_left 1
 ·(intro w hSw;(try dsimp only at hSw);go_simp<;>(with_reducible rfl))
 try simp only[Act.put,qA,qB,qC,qD,qE,qF]
 refine wpAnyH_take (i:=28) (v:=?_) rfl (by kernel_rfl) (by kernel_rfl) (by kernel_rfl) (fun _ _ _ h=>h) (Or.inl ⟨by rfl,?_⟩) (by assumption) ?_;rotate_left 1
 ·(intro w hSw;(try dsimp only at hSw);go_simp<;>(with_reducible rfl))
 try simp only[Act.put,qA,qB,qC,qD,qE,qF]
 refine wpAnyH_take (i:=29) (v:=?_) rfl (by kernel_rfl) (by kernel_rfl) (by kernel_rfl) (fun _ _ _ h=>h) (Or.inl ⟨by rfl,?_⟩) (by assumption) ?_;rotate_left 1
 ·(intro w hSw;(try dsimp only at hSw);go_simp<;>(with_reducible rfl))
 try simp only[Act.put,qA,qB,qC,qD,qE,qF]
 refine wpAnyH_take (i:=30) (v:=?_) rfl (by kernel_rfl) (by kernel_rfl) (by kernel_rfl) (fun _ _ _ h=>h) (Or.inl ⟨by rfl,?_⟩) (by assumption) ?_;rotate_left 1
 ·(intro w hSw;(try dsimp only at hSw);go_simp<;>(with_reducible rfl))
 try simp only[Act.put,qA,qB,qC,qD,qE,qF]
 refine wpAnyH_take (i:=31) (v:=?_) rfl (by kernel_rfl) (by kernel_rfl) (by kernel_rfl) (fun _ _ _ h=>h) (Or.inl ⟨by rfl,?_⟩) (by assumption) ?_;rotate_left 1
 ·(intro w hSw;(try dsimp only at hSw);go_simp<;>(with_reducible rfl))
 try simp only[Act.put,qA,qB,qC,qD,qE,qF]
 refine wpAnyH_ready (rs:=[32]) (by kernel_rfl) (by simp) ?_;refine AllReadyH.cons rfl (fun K hK=>?_) AllReadyH.nil
 go_simp
 refine(held (W:=U5) hB.out (fc_m _ (HG.out.below (by assumption))) (by assumption)).mono ?_;rintro e x4 ⟨rfl,hb,hw⟩
 (try go_wp2_with fail)
 refine hK.out _ _ hw (fun hH4=>?_);clear hK hH3 hb hw
 try simp only[Act.put,qA,qB,qC,qD,qE,qF]
 refine wpAnyH_take (i:=33) (v:=?_) rfl (by kernel_rfl) (by kernel_rfl) (by kernel_rfl) (fun _ _ _ h=>h) (Or.inl ⟨by rfl,?_⟩) (by assumption) ?_;rotate_left 1
 ·(intro w hSw;(try dsimp only at hSw);go_simp<;>(with_reducible rfl))
 try simp only[Act.put,qA,qB,qC,qD,qE,qF]
 refine wpAnyH_take (i:=34) (v:=?_) rfl (by kernel_rfl) (by kernel_rfl) (by kernel_rfl) (fun _ _ _ h=>h) (Or.inl ⟨by rfl,?_⟩) (by assumption) ?_;rotate_left 1
 ·(intro w hSw;(try dsimp only at hSw);go_simp<;>(with_reducible rfl))
 try simp only[Act.put,qA,qB,qC,qD,qE,qF]
 refine wpAnyH_take (i:=35) (v:=?_) rfl (by kernel_rfl) (by kernel_rfl) (by kernel_rfl) (fun _ _ _ h=>h) (Or.inl ⟨by rfl,?_⟩) (by assumption) ?_;rotate_left 1
 ·(intro w hSw;(try dsimp only at hSw);go_simp<;>(with_reducible rfl))
 try simp only[Act.put,qA,qB,qC,qD,qE,qF]
 refine wpAnyH_ready (rs:=[36]) (by kernel_rfl) (by simp) ?_;refine AllReadyH.cons rfl (fun K hK=>?_) AllReadyH.nil
 go_simp
 refine(held (W:=U5) hB.out (fc_z _ (HG.out.below (by assumption))) (by assumption)).mono ?_;rintro e x5 ⟨rfl,hb,hw⟩
 (try go_wp2_with fail)
 refine hK.out _ _ hw (fun hH5=>?_);clear hK hH4 hb hw
 try simp only[Act.put,qA,qB,qC,qD,qE,qF]
 refine wpAnyH_take (i:=37) (v:=?_) rfl (by kernel_rfl) (by kernel_rfl) (by kernel_rfl) (fun _ _ _ h=>h) (Or.inl ⟨by rfl,?_⟩) (by assumption) ?_;rotate_left 1
 ·(intro w hSw;(try dsimp only at hSw);go_simp<;>(with_reducible rfl))
 try simp only[Act.put,qA,qB,qC,qD,qE,qF]
 refine wpAnyH_take (i:=38) (v:=?_) rfl (by kernel_rfl) (by kernel_rfl) (by kernel_rfl) (fun _ _ _ h=>h) (Or.inl ⟨by rfl,?_⟩) (by assumption) ?_;rotate_left 1
 ·(intro w hSw;(try dsimp only at hSw);go_simp<;>(with_reducible rfl))
 try simp only[Act.put,qA,qB,qC,qD,qE,qF]
 refine wpAnyH_take (i:=39) (v:=?_) rfl (by kernel_rfl) (by kernel_rfl) (by kernel_rfl) (fun _ _ _ h=>h) (Or.inl ⟨by rfl,?_⟩) (by assumption) ?_;rotate_left 1
 ·(intro w hSw;(try dsimp only at hSw);go_simp<;>(with_reducible rfl))
 try simp only[Act.put,qA,qB,qC,qD,qE,qF]
 refine wpAnyH_done (by kernel_rfl) ?_ _;refine NoPanic.normal ?_;have b9:=hH5;clear hH5;go_wp2_with fail;go_ret;exact⟨rfl,Below.more BW b9⟩
end Go.Proofs.YtcebkcilkhebeaaGreatDoor
