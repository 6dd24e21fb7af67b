/- Own work. -/
import Derived.Test.YtghioekjghmdaaaGreatDoorEvPla
set_option linter.unusedSimpArgs false
set_option linter.unusedVariables false
set_option maxHeartbeats 4000000
set_option maxRecDepth 100000
namespace Go.Proofs.YtghioekjghmdaaaGreatDoor
open Go.RowKit
open Tm (Nd Tr treeOf checkT plainN avN)
variable {G : World → Prop}
open Tm (joinT)
open Ev (Pla pla_one pla_ones)
theorem numbers13_any(H:EvalC G)(n:Int)(w:World)(hn0:-9223372036854775808≤n)(hn1:n≤9223372036854775807)(hg:G w) :
  Calls Tryz.prog 7 #[.int .i64 n] w (GiveB w true):=by
 have HB:=zh H;have HG:=zh hg;clear H hg
 go_enter Tryz.func7,Tryz.ntmps7;have BW:=Below.refl w.heap.size w;have b0:=Below.refl w.heap.size w;go_wp2_with fail;refine(fixed13_any HB.out _ HG.out).mono ?_;rintro e w1 ⟨rfl,b⟩;have b1:=Below.more b0 b;clear b;by_cases g1:n<1
 ·skip
  go_wp2_with fail;refine(fixed13_any HB.out _ (HB.out.below HG.out b1)).mono ?_;rintro e w9 ⟨rfl,b⟩;have b9:=Below.more b1 b;go_wp2_with fail;go_ret;exact⟨ret_bool rfl,Below.more BW b9⟩
 by_cases g2:60<n
 ·skip
  go_wp2_with fail;refine(fixed13_any HB.out _ (HB.out.below HG.out b1)).mono ?_;rintro e w9 ⟨rfl,b⟩;have b9:=Below.more b1 b;go_wp2_with fail;go_ret;exact⟨ret_bool rfl,Below.more BW b9⟩
 obtain⟨N,hn⟩:∃N:Nat,n=(N:Int)+1:=⟨(n-1).toNat,by omega⟩;have hN:N≤59:=by omega
 have HN:=zh hn;clear hn;go_wp2_with fail;refine(kt_f 1 [49] (by decide +kernel) (by decide) (by decide) _).mono ?_;rintro e w2 ⟨rfl,b⟩;have b2:=Below.more b1 b;clear b;go_wp2_with fail;have hrow:=rowsLit (enc:=encD) (k:=6) (fun _=>rfl) w2 [Ev.oneN] #[.int .i64 0,.string ⟨#[49]⟩,.string ⟨#[49]⟩,.string ⟨#[]⟩,.int .i64 0,.int .i64 0] 55 rfl;have bn:Below w2.heap.size w2 (w2.alloc (.cells #[.int .i64 0,.string ⟨#[49]⟩,.string ⟨#[49]⟩,.string ⟨#[]⟩,.int .i64 0,.int .i64 0] 55)):=Below.alloc (Below.refl _ _) (Nat.le_refl _) _;obtain⟨U3,hU⟩:∃U,w2.alloc (.cells #[.int .i64 0,.string ⟨#[49]⟩,.string ⟨#[49]⟩,.string ⟨#[]⟩,.int .i64 0,.int .i64 0] 55)=U:=⟨_,rfl⟩;rw[hU]at hrow bn ⊢;have bU:=Below.more b2 bn;clear bn;replace BW:=Below.more BW bU;replace HG:=zh (HB.out.below HG.out bU);have Lo:=zh hrow;clear hrow hU;generalize hpo:(some ⟨w2.heap.size,0,none⟩:Option Addr)=po at *;clear hpo;clear bU;have b3:=Below.refl U3.heap.size U3;go_wp2_with fail;have HW0:=zh BW;clear BW
 go_loopw [3,4] (fun tv iv wv=>∃ (k:Nat) (p:Option Addr) (c:Nat),k≤N∧iv=.int .i64 ((k:Int)+1)∧tv=.slice p (2*k+1) c∧Hid (2*k+1≤c∧Nds wv p (Ev.onesT k).flat∧Below U3.heap.size U3 wv)) (fun _ iv _=>N+1-(intOf iv).toNat)
 case atStart=>exact⟨0,_,1,Nat.zero_le _,rfl,rfl,zh ⟨Nat.le_refl _,Lo.out,b3⟩⟩
 case round =>
  obtain⟨k,p,c,hk,rfl,rfl,HI⟩:=hrel;have hw:=HI.out.2.2;by_cases hlt:k<N
  ·have hki:(k:Int)+1<n:=by have:=HN.out;omega
   go_wp2_with fail;refine(kt_f 1 [49] (by decide +kernel) (by decide) (by decide) _).mono ?_;rintro e w1 ⟨rfl,b⟩;go_wp2_with fail;have hn:=ndsLit w1 [Ev.oneN] #[.int .i64 0,.string ⟨#[49]⟩,.string ⟨#[49]⟩,.string ⟨#[]⟩,.int .i64 0,.int .i64 0] rfl;have bn:Below w1.heap.size w1 (w1.alloc (.cells #[.int .i64 0,.string ⟨#[49]⟩,.string ⟨#[49]⟩,.string ⟨#[]⟩,.int .i64 0,.int .i64 0] 55)):=Below.alloc (Below.refl _ _) (Nat.le_refl _) _;have hsz:(w1.alloc (.cells #[.int .i64 0,.string ⟨#[49]⟩,.string ⟨#[49]⟩,.string ⟨#[]⟩,.int .i64 0,.int .i64 0] 55)).heap.size=w1.heap.size+1:=by simp
   obtain⟨wq,hq⟩:∃U,w1.alloc (.cells #[.int .i64 0,.string ⟨#[49]⟩,.string ⟨#[49]⟩,.string ⟨#[]⟩,.int .i64 0,.int .i64 0] 55)=U:=⟨_,rfl⟩;rw[hq]at hn bn hsz ⊢;have hrow:=trms2 wq p (some ⟨w1.heap.size,0,none⟩) (2*k+1) 1 c 1 (Ev.onesT k).flat [Ev.oneN] (pla_ones k).len.symm rfl (by rw[(pla_ones k).len];exact HI.out.1) (Nat.le_refl _) ((HI.out.2.1.below b).below bn) hn;have bq:Below wq.heap.size wq (wq.alloc (.cells #[.slice p (2*k+1) c,.slice (some ⟨w1.heap.size,0,none⟩) 1 1] 23)):=Below.alloc (Below.refl _ _) (Nat.le_refl _) _;rw[hsz]at hrow;obtain⟨wr2,hU⟩:∃U,wq.alloc (.cells #[.slice p (2*k+1) c,.slice (some ⟨w1.heap.size,0,none⟩) 1 1] 23)=U:=⟨_,rfl⟩;rw[hU]at hrow bq ⊢;refine(join_pla (op:=6) (pla_ones k) pla_one (by omega) hrow).mono ?_;rintro e w3 ⟨⟨p3,c3,rfl,hc3,l3⟩,b3⟩;have HJ:Hid (2*(k+1)+1≤c3∧Nds w3 p3 (Ev.onesT (k+1)).flat∧Below U3.heap.size U3 w3):=zh ⟨by omega,l3,Below.more hw (Below.more b (Below.more bn (Below.more bq b3)))⟩;rw[show 2*k+1+1+1=2*(k+1)+1 by omega];clear hn bn hsz hq hrow bq hU l3 b3 b hw hc3;go_wp2_with fail;go_roundw
   case rel=>exact⟨k+1,p3,c3,hlt,by go_num,rfl,HJ⟩
   case measure=>simp[intOf];omega
  ·obtain rfl:k=N:=by omega
   have BW:=HW0.out;obtain⟨hc,hT,_⟩:=HI.out;have Lt:=zh hT;obtain⟨v1,v2,v3⟩:=Ev.ones_eval k hN;rw[show ((k+1:Nat):Int)=n by have:=HN.out;omega]at v1;have hge:(k:Int)+1=n:=by have:=HN.out;omega
   rw[hge];clear hge;have V1:=zh v1;have V2:=zh v2;have V3:=zh v3
   have P1:=zh (pla_ones k);have P2:=zh ((pla_ones k).two (op:=7) (by decide) (pla_ones k))
   have P3:=zh (P1.out.two (op:=9) (by decide) P2.out);clear hT HI HW0 v1 v2 v3;replace Lo:=zh (Lo.out.below hw);replace BW:=Below.more BW hw;replace HG:=zh (HB.out.below HG.out hw);clear hw Lo;have b60:=Below.refl wr.heap.size wr;go_wp2_with fail;refine(eval_pla HB.out P1.out (by omega) (by omega) (by omega) (by omega) V1.out hc (Lt.out.below b60) (HB.out.below HG.out b60)).mono ?_;rintro e w61 ⟨rfl,b⟩;have b61:=Below.more b60 b;clear b;have ba:=fun x=>Below.alloc b61 (Below.size b61) x;go_wp2_with fail;obtain⟨U62,hU,bU,s62,rx0,rx1⟩:=lay b61 (.string ⟨(wd n).toArray⟩) (.string ⟨#[49]⟩) 28;rw[hU];clear hU ba;replace Lt:=zh (Lt.out.below bU);replace BW:=Below.more BW bU;replace HG:=zh (HB.out.below HG.out bU);clear bU;have b62:=Below.refl U62.heap.size U62;rw[s62];clear s62;have hrow:=trms2 U62 p p (2*k+1) (2*k+1) c c (Ev.onesT k).flat (Ev.onesT k).flat P1.out.len.symm P1.out.len.symm (by rw[P1.out.len];exact hc) (by rw[P1.out.len];exact hc) (Lt.out.below b62) (Lt.out.below b62);have bn:Below U62.heap.size U62 (U62.alloc (.cells #[.slice p (2*k+1) c,.slice p (2*k+1) c] 23)):=Below.alloc (Below.refl _ _) (Nat.le_refl _) _;obtain⟨U63,hU⟩:∃U,U62.alloc (.cells #[.slice p (2*k+1) c,.slice p (2*k+1) c] 23)=U:=⟨_,rfl⟩;rw[hU]at hrow bn ⊢;have bU:=Below.more b62 bn;clear bn;replace rx0:=fun v (h:Below U63.heap.size U63 v)=>rx0 v (Below.more bU h);replace rx1:=fun v (h:Below U63.heap.size U63 v)=>rx1 v (Below.more bU h);replace Lt:=zh (Lt.out.below bU);replace BW:=Below.more BW bU;replace HG:=zh (HB.out.below HG.out bU)
   have Lu:=zh hrow;clear hrow hU;clear bU;have b63:=Below.refl U63.heap.size U63;refine(join_pla (op:=7) P1.out P1.out (by omega) Lu.out).mono ?_;rintro e0 U64 ⟨⟨pz,cz,rfl,hcz,hlz⟩,b⟩;have bU:=Below.more b63 b;clear b;replace rx0:=fun v (h:Below U64.heap.size U64 v)=>rx0 v (Below.more bU h);replace rx1:=fun v (h:Below U64.heap.size U64 v)=>rx1 v (Below.more bU h);replace Lt:=zh (Lt.out.below bU);replace Lu:=zh (Lu.out.below bU);replace BW:=Below.more BW bU;replace HG:=zh (HB.out.below HG.out bU);have Lz:=zh hlz;clear hlz;clear bU;have b64:=Below.refl U64.heap.size U64;go_wp2_with fail;refine(eval_pla HB.out P2.out (by omega) (by omega) (by omega) (by omega) V2.out hcz (Lz.out.below b64) (HB.out.below HG.out b64)).mono ?_;rintro e w65 ⟨rfl,b⟩;have b65:=Below.more b64 b;clear b;have ba:=fun x=>Below.alloc b65 (Below.size b65) x;go_wp2_with fail;obtain⟨U66,hU,bU,s66,ry0,ry1⟩:=lay b65 (.string ⟨(wd 0).toArray⟩) (.string ⟨#[49]⟩) 28;rw[hU];clear hU ba;replace rx0:=fun v (h:Below U66.heap.size U66 v)=>rx0 v (Below.more bU h);replace rx1:=fun v (h:Below U66.heap.size U66 v)=>rx1 v (Below.more bU h);replace Lt:=zh (Lt.out.below bU);replace Lu:=zh (Lu.out.below bU);replace Lz:=zh (Lz.out.below bU);replace BW:=Below.more BW bU;replace HG:=zh (HB.out.below HG.out bU);clear bU;have b66:=Below.refl U66.heap.size U66;rw[s66];clear s66;have hrow:=trms2 U66 p pz (2*k+1) (2*k+1+(2*k+1)+1) c cz (Ev.onesT k).flat (Tr.t2 (plainN 7) (Ev.onesT k) (Ev.onesT k)).flat P1.out.len.symm P2.out.len.symm (by rw[P1.out.len];exact hc) (by rw[P2.out.len];exact hcz) (Lt.out.below b66) (Lz.out.below b66)
   have bn:Below U66.heap.size U66 (U66.alloc (.cells #[.slice p (2*k+1) c,.slice pz (2*k+1+(2*k+1)+1) cz] 23)):=Below.alloc (Below.refl _ _) (Nat.le_refl _) _;obtain⟨U67,hU⟩:∃U,U66.alloc (.cells #[.slice p (2*k+1) c,.slice pz (2*k+1+(2*k+1)+1) cz] 23)=U:=⟨_,rfl⟩;rw[hU]at hrow bn ⊢;have bU:=Below.more b66 bn;clear bn;replace rx0:=fun v (h:Below U67.heap.size U67 v)=>rx0 v (Below.more bU h);replace rx1:=fun v (h:Below U67.heap.size U67 v)=>rx1 v (Below.more bU h);replace ry0:=fun v (h:Below U67.heap.size U67 v)=>ry0 v (Below.more bU h);replace ry1:=fun v (h:Below U67.heap.size U67 v)=>ry1 v (Below.more bU h);replace Lt:=zh (Lt.out.below bU);replace Lu:=zh (Lu.out.below bU);replace Lz:=zh (Lz.out.below bU);replace BW:=Below.more BW bU;replace HG:=zh (HB.out.below HG.out bU);have Lv:=zh hrow;clear hrow hU;clear bU;have b67:=Below.refl U67.heap.size U67;refine(join_pla (op:=9) P1.out P2.out (by omega) Lv.out).mono ?_;rintro e0 U68 ⟨⟨pd,cd,rfl,hcd,hld⟩,b⟩;have bU:=Below.more b67 b;clear b;replace rx0:=fun v (h:Below U68.heap.size U68 v)=>rx0 v (Below.more bU h);replace rx1:=fun v (h:Below U68.heap.size U68 v)=>rx1 v (Below.more bU h);replace ry0:=fun v (h:Below U68.heap.size U68 v)=>ry0 v (Below.more bU h);replace ry1:=fun v (h:Below U68.heap.size U68 v)=>ry1 v (Below.more bU h);replace Lt:=zh (Lt.out.below bU);replace Lu:=zh (Lu.out.below bU);replace Lz:=zh (Lz.out.below bU);replace Lv:=zh (Lv.out.below bU);replace BW:=Below.more BW bU;replace HG:=zh (HB.out.below HG.out bU);have Ld:=zh hld
   clear hld;clear bU;have b68:=Below.refl U68.heap.size U68;go_wp2_with fail;refine(eval_pla HB.out P3.out (by omega) (by omega) (by omega) (by omega) V3.out hcd (Ld.out.below b68) (HB.out.below HG.out b68)).mono ?_;rintro e w69 ⟨rfl,b⟩;have b69:=Below.more b68 b;clear b;have ba:=fun x=>Below.alloc b69 (Below.size b69) x;go_wp2_with fail;obtain⟨U70,hU,bU,s70,rq0,rq1⟩:=lay b69 (.string ⟨#[]⟩) (.string ⟨#[]⟩) 28;rw[hU];clear hU ba s70;replace rx0:=fun v (h:Below U70.heap.size U70 v)=>rx0 v (Below.more bU h);replace rx1:=fun v (h:Below U70.heap.size U70 v)=>rx1 v (Below.more bU h);replace ry0:=fun v (h:Below U70.heap.size U70 v)=>ry0 v (Below.more bU h);replace ry1:=fun v (h:Below U70.heap.size U70 v)=>ry1 v (Below.more bU h);replace Lt:=zh (Lt.out.below bU);replace Lu:=zh (Lu.out.below bU);replace Lz:=zh (Lz.out.below bU);replace Lv:=zh (Lv.out.below bU);replace Ld:=zh (Ld.out.below bU);replace BW:=Below.more BW bU;replace HG:=zh (HB.out.below HG.out bU);clear bU;have b70:=Below.refl U70.heap.size U70;have hB:=zh (Nat.le_refl U70.heap.size);refine wp_region_noPanic ?_;refine wp_region_held_drew (S:=fun w'=>Below U70.heap.size U70 w') (by kernel_rfl) (b70.drew) (fun hH0=>?_);refine wpAnyH_take (i:=0) (v:=?_) rfl (by kernel_rfl) (by kernel_rfl) (by kernel_rfl) (fun _ _ _ h=>h) (Or.inl ⟨by rfl,?_⟩) (by assumption) ?_;rotate_left 1
   ·(intro w hSw;(try dsimp only at hSw);go_simp<;>(with_reducible rfl))
   try simp only[Act.put,qA,qB,qC,qD,qE,qF]
   refine wpAnyH_take (i:=1) (v:=?_) rfl (by kernel_rfl) (by kernel_rfl) (by kernel_rfl) (fun _ _ _ h=>h) (Or.inl ⟨by rfl,?_⟩) (by assumption) ?_;rotate_left 1
   ·(intro w hSw;(try dsimp only at hSw);go_simp<;>(with_reducible rfl))
   try simp only[Act.put,qA,qB,qC,qD,qE,qF]
   refine wpAnyH_take (i:=2) (v:=?_) rfl (by kernel_rfl) (by kernel_rfl) (by kernel_rfl) (fun _ _ _ h=>h) (Or.inl ⟨by rfl,?_⟩) (by assumption) ?_;rotate_left 1
   ·(intro w hSw;(try dsimp only at hSw);go_simp<;>(with_reducible rfl))
   try simp only[Act.put,qA,qB,qC,qD,qE,qF]
   refine wpAnyH_take (i:=3) (v:=?_) rfl (by kernel_rfl) (by kernel_rfl) (by kernel_rfl) (fun _ _ _ h=>h) (Or.inl ⟨by rfl,?_⟩) (by assumption) ?_;rotate_left 1
   ·(intro w hSw;(try dsimp only at hSw);go_simp<;>(with_reducible rfl))
   try simp only[Act.put,qA,qB,qC,qD,qE,qF]
   refine wpAnyH_take (i:=4) (v:=?_) rfl (by kernel_rfl) (by kernel_rfl) (by kernel_rfl) (fun _ _ _ h=>h) (Or.inl ⟨by rfl,?_⟩) (by assumption) ?_;rotate_left 1
   ·(intro w hSw;(try dsimp only at hSw);go_simp<;>(with_reducible rfl))
   try simp only[Act.put,qA,qB,qC,qD,qE,qF]
   refine wpAnyH_ready (rs:=[5]) (by kernel_rfl) (by simp) ?_;refine AllReadyH.cons rfl (fun K hK=>?_) AllReadyH.nil
   go_simp
   refine(held (W:=U70) hB.out (rqof_any n _ hn0 hn1) (by assumption)).mono ?_;rintro e x1 ⟨rfl,hb,hw⟩
   (try go_wp2_with fail)
   refine hK.out _ _ hw (fun hH1=>?_);clear hK hH0 hb hw
   try simp only[Act.put,qA,qB,qC,qD,qE,qF]
   refine wpAnyH_take (i:=6) (v:=?_) rfl (by kernel_rfl) (by kernel_rfl) (by kernel_rfl) (fun _ _ _ h=>h) (Or.inl ⟨by rfl,?_⟩) (by assumption) ?_;rotate_left 1
   ·(intro w hSw;(try dsimp only at hSw);go_simp<;>(with_reducible rfl))
   try simp only[Act.put,qA,qB,qC,qD,qE,qF]
   refine wpAnyH_take (i:=7) (v:=?_) rfl (by kernel_rfl) (by kernel_rfl) (by kernel_rfl) (fun _ _ _ h=>h) (Or.inl ⟨by rfl,?_⟩) (by assumption) ?_;rotate_left 1
   ·(intro w hSw;(try dsimp only at hSw);go_simp<;>(with_reducible rfl))
   try simp only[Act.put,qA,qB,qC,qD,qE,qF]
   refine wpAnyH_take (i:=8) (v:=?_) rfl (by kernel_rfl) (by kernel_rfl) (by kernel_rfl) (fun _ _ _ h=>h) (Or.inl ⟨by rfl,?_⟩) (by assumption) ?_;rotate_left 1
   ·(intro w hSw;(try dsimp only at hSw);go_simp<;>(with_reducible rfl))
   try simp only[Act.put,qA,qB,qC,qD,qE,qF]
   refine wpAnyH_take (i:=9) (v:=?_) rfl (by kernel_rfl) (by kernel_rfl) (by kernel_rfl) (fun _ _ _ h=>h) (Or.inl ⟨by rfl,?_⟩) (by assumption) ?_;rotate_left 1
   ·(intro w hSw;(try dsimp only at hSw);go_simp<;>(with_reducible rfl))
   try simp only[Act.put,qA,qB,qC,qD,qE,qF]
   refine wpAnyH_take (i:=10) (v:=?_) rfl (by kernel_rfl) (by kernel_rfl) (by kernel_rfl) (fun _ _ _ h=>h) (Or.inl ⟨by rfl,?_⟩) (by assumption) ?_;rotate_left 1
   ·(intro w hSw;(try dsimp only at hSw);go_simp<;>(with_reducible rfl))
   try simp only[Act.put,qA,qB,qC,qD,qE,qF]
   refine wpAnyH_take (i:=11) (v:=?_) rfl (by kernel_rfl) (by kernel_rfl) (by kernel_rfl) (fun _ _ _ h=>h) (Or.inl ⟨by rfl,?_⟩) (by assumption) ?_;rotate_left 1
   ·(intro w hSw;(try dsimp only at hSw);go_simp<;>(with_reducible rfl))
   try simp only[Act.put,qA,qB,qC,qD,qE,qF]
   refine wpAnyH_take (i:=12) (v:=?_) rfl (by kernel_rfl) (by kernel_rfl) (by kernel_rfl) (fun _ _ _ h=>h) (Or.inl ⟨by rfl,?_⟩) (by assumption) ?_;rotate_left 1
   ·(intro w hSw;(try dsimp only at hSw);go_simp<;>(with_reducible rfl))
   try simp only[Act.put,qA,qB,qC,qD,qE,qF]
   refine wpAnyH_take (i:=13) (v:=?_) rfl (by kernel_rfl) (by kernel_rfl) (by kernel_rfl) (fun _ _ _ h=>h) (Or.inl ⟨by rfl,?_⟩) (by assumption) ?_;rotate_left 1
   ·(intro w hSw;(try dsimp only at hSw);go_simp<;>(with_reducible rfl))
   try simp only[Act.put,qA,qB,qC,qD,qE,qF]
   refine wpAnyH_ready (rs:=[14]) (by kernel_rfl) (by simp) ?_;refine AllReadyH.cons rfl (fun K hK=>?_) AllReadyH.nil
   go_simp
   refine(held (W:=U70) hB.out (rqof_any 0 _ (by decide) (by decide)) (by assumption)).mono ?_;rintro e x2 ⟨rfl,hb,hw⟩
   (try go_wp2_with fail)
   refine hK.out _ _ hw (fun hH2=>?_);clear hK hH1 hb hw
   try simp only[Act.put,qA,qB,qC,qD,qE,qF]
   refine wpAnyH_take (i:=15) (v:=?_) rfl (by kernel_rfl) (by kernel_rfl) (by kernel_rfl) (fun _ _ _ h=>h) (Or.inl ⟨by rfl,?_⟩) (by assumption) ?_;rotate_left 1
   ·(intro w hSw;(try dsimp only at hSw);go_simp<;>(with_reducible rfl))
   try simp only[Act.put,qA,qB,qC,qD,qE,qF]
   refine wpAnyH_take (i:=16) (v:=?_) rfl (by kernel_rfl) (by kernel_rfl) (by kernel_rfl) (fun _ _ _ h=>h) (Or.inl ⟨by rfl,?_⟩) (by assumption) ?_;rotate_left 1
   ·(intro w hSw;(try dsimp only at hSw);go_simp<;>(with_reducible rfl))
   try simp only[Act.put,qA,qB,qC,qD,qE,qF]
   refine wpAnyH_take (i:=17) (v:=?_) rfl (by kernel_rfl) (by kernel_rfl) (by kernel_rfl) (fun _ _ _ h=>h) (Or.inl ⟨by rfl,?_⟩) (by assumption) ?_;rotate_left 1
   ·(intro w hSw;(try dsimp only at hSw);go_simp<;>(with_reducible rfl))
   try simp only[Act.put,qA,qB,qC,qD,qE,qF]
   refine wpAnyH_take (i:=18) (v:=?_) rfl (by kernel_rfl) (by kernel_rfl) (by kernel_rfl) (fun _ _ _ h=>h) (Or.inl ⟨by rfl,?_⟩) (by assumption) ?_;rotate_left 1
   ·(intro w hSw;(try dsimp only at hSw);go_simp<;>(with_reducible rfl))
   try simp only[Act.put,qA,qB,qC,qD,qE,qF]
   refine wpAnyH_take (i:=19) (v:=?_) rfl (by kernel_rfl) (by kernel_rfl) (by kernel_rfl) (fun _ _ _ h=>h) (Or.inl ⟨by rfl,?_⟩) (by assumption) ?_;rotate_left 1
   ·(intro w hSw;(try dsimp only at hSw);go_simp<;>(with_reducible rfl))
   try simp only[Act.put,qA,qB,qC,qD,qE,qF]
   refine wpAnyH_take (i:=20) (v:=?_) rfl (by kernel_rfl) (by kernel_rfl) (by kernel_rfl) (fun _ _ _ h=>h) (Or.inl ⟨by rfl,?_⟩) (by assumption) ?_;rotate_left 1
   ·(intro w hSw;(try dsimp only at hSw);go_simp<;>(with_reducible rfl))
   try simp only[Act.put,qA,qB,qC,qD,qE,qF]
   refine wpAnyH_take (i:=21) (v:=?_) rfl (by kernel_rfl) (by kernel_rfl) (by kernel_rfl) (fun _ _ _ h=>h) (Or.inl ⟨by rfl,?_⟩) (by assumption) ?_;rotate_left 1
   ·(intro w hSw;(try dsimp only at hSw);go_simp<;>(with_reducible rfl))
   try simp only[Act.put,qA,qB,qC,qD,qE,qF]
   refine wpAnyH_done (by kernel_rfl) ?_ _;refine NoPanic.normal ?_;have bZ:=hH2;clear hH2;go_wp2_with fail;go_ret;exact⟨ret_bool (by simp),Below.more BW bZ⟩
end Go.Proofs.YtghioekjghmdaaaGreatDoor
