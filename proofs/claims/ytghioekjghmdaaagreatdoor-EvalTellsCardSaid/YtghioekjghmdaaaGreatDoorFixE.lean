/- Own work. -/
import Derived.Test.YtghioekjghmdaaaGreatDoorTk
import Derived.Test.YtghioekjghmdaaaGreatDoorEvLiM
set_option linter.unusedSimpArgs false
set_option linter.unusedVariables false
set_option maxHeartbeats 4000000
set_option maxRecDepth 100000
namespace Go.Proofs.YtghioekjghmdaaaGreatDoor
open Go.RowKit
open Tm (Nd Tr treeOf checkT plainN avN)
variable {G : World → Prop}
theorem some13_any(w:World):Calls Tryz.prog 29 #[] w (fun e w'=>(∃p c,e=.returned (.slice p 3 c)∧3≤c∧(∃b,p=some ⟨b,0,none⟩)∧Fxs w' p someF)∧Below w.heap.size w w'):=by
 have b0:=Below.refl w.heap.size w;go_enter Tryz.func29,Tryz.ntmps29;go_wp2_with fail;refine(kt_f 1 [49] (by decide +kernel) (by decide) (by decide) _).mono ?_;rintro e w1 ⟨rfl,b⟩;have b1:=Below.more b0 b;clear b;go_wp2_with fail;refine(kt_f 2 [50] (by decide +kernel) (by decide) (by decide) _).mono ?_;rintro e w2 ⟨rfl,b⟩;have b2:=Below.more b1 b;clear b;go_wp2_with fail;refine(kt_f 6 [54] (by decide +kernel) (by decide) (by decide) _).mono ?_;rintro e w3 ⟨rfl,b⟩;have b3:=Below.more b2 b;clear b;go_wp2_with fail;go_ret;exact⟨⟨_,_,rfl,Nat.le_refl _,⟨_,rfl⟩,rowsLit (enc:=encFx) (k:=4) (fun _=>rfl) w3 someF #[.string ⟨#[120]⟩,.int .i64 1,.string ⟨#[49]⟩,.string ⟨#[49]⟩,.string ⟨#[120]⟩,.int .i64 2,.string ⟨#[50]⟩,.string ⟨#[49]⟩,.string ⟨#[120]⟩,.int .i64 3,.string ⟨#[54]⟩,.string ⟨#[49]⟩] 39 rfl⟩,Below.more b3 (Below.alloc (Below.refl _ _) (Nat.le_refl _) _)⟩
theorem fixed13_any(H:EvalC G)(w:World)(hg:G w):Calls Tryz.prog 10 #[] w (GiveB w true):=by
 have HB:=zh H;have HG:=zh hg;clear H hg
 go_enter Tryz.func10,Tryz.ntmps10;have BW:=Below.refl w.heap.size w;have b0:=Below.refl w.heap.size w;go_wp2_with fail;have hrow:=rowsLit (enc:=encD) (k:=6) (fun _=>rfl) w [avN] #[.int .i64 2,.string ⟨#[]⟩,.string ⟨#[]⟩,.string ⟨#[120]⟩,.int .i64 1,.int .i64 3] 55 rfl;have bn:Below w.heap.size w (w.alloc (.cells #[.int .i64 2,.string ⟨#[]⟩,.string ⟨#[]⟩,.string ⟨#[120]⟩,.int .i64 1,.int .i64 3] 55)):=Below.alloc (Below.refl _ _) (Nat.le_refl _) _;obtain⟨U1,hU⟩:∃U,w.alloc (.cells #[.int .i64 2,.string ⟨#[]⟩,.string ⟨#[]⟩,.string ⟨#[120]⟩,.int .i64 1,.int .i64 3] 55)=U:=⟨_,rfl⟩;rw[hU]at hrow bn ⊢;have bU:=Below.more b0 bn;clear bn;replace BW:=Below.more BW bU;replace HG:=zh (HB.out.below HG.out bU);have La:=zh hrow;clear hrow hU;generalize hpa:(some ⟨w.heap.size,0,none⟩:Option Addr)=pa at *;clear hpa;clear bU;have b1:=Below.refl U1.heap.size U1;refine(some13_any _).mono ?_;rintro e0 U2 ⟨⟨pf,cf,rfl,hcf,⟨qf,rfl⟩,hlf⟩,b⟩;have bU:=Below.more b1 b;clear b;replace La:=zh (La.out.below bU);replace BW:=Below.more BW bU;replace HG:=zh (HB.out.below HG.out bU);have Lf:=zh hlf;clear hlf;clear bU;have b2:=Below.refl U2.heap.size U2;go_wp2_with fail;refine(ke1 HB.out hcf La.out Lf.out HG.out).mono ?_;rintro e w3 ⟨rfl,b⟩;have b3:=Below.more b2 b;clear b;have ba:=fun x=>Below.alloc b3 (Below.size b3) x;go_wp2_with fail;obtain⟨U4,hU,bU,s4,rx0,rx1⟩:=lay b3 (.string ⟨#[51]⟩) (.string ⟨#[49]⟩) 28;rw[hU];clear hU ba s4;replace La:=zh (La.out.below bU);replace Lf:=zh (Lf.out.below bU);replace BW:=Below.more BW bU
 replace HG:=zh (HB.out.below HG.out bU);clear bU;have b4:=Below.refl U4.heap.size U4;go_wp2_with fail;refine(some13_any _).mono ?_;rintro e0 U5 ⟨⟨pg,cg,rfl,hcg,⟨qg,rfl⟩,hlg⟩,b⟩;have bU:=Below.more b4 b;clear b;replace rx0:=fun v (h:Below U5.heap.size U5 v)=>rx0 v (Below.more bU h);replace rx1:=fun v (h:Below U5.heap.size U5 v)=>rx1 v (Below.more bU h);replace La:=zh (La.out.below bU);replace Lf:=zh (Lf.out.below bU);replace BW:=Below.more BW bU;replace HG:=zh (HB.out.below HG.out bU);have Lg:=zh hlg;clear hlg;clear bU;have b5:=Below.refl U5.heap.size U5;have Lg2:=zh (Lg.out.part 1 2);go_wp2_with fail;refine(ke2 HB.out (d:=cg-1) (by omega) La.out Lg2.out HG.out).mono ?_;rintro e w6 ⟨rfl,b⟩;have b6:=Below.more b5 b;clear b;have ba:=fun x=>Below.alloc b6 (Below.size b6) x;generalize hva:Value.slice pa 1 1=va;go_wp2_with (at_builtin;refine haltG ?_);obtain⟨U7,hU,bU,s7,ry0,ry1⟩:=lay b6 (.string ⟨#[]⟩) (.string ⟨#[]⟩) 28;rw[hU];clear hU ba;replace rx0:=fun v (h:Below U7.heap.size U7 v)=>rx0 v (Below.more bU h);replace rx1:=fun v (h:Below U7.heap.size U7 v)=>rx1 v (Below.more bU h);replace La:=zh (La.out.below bU);replace Lf:=zh (Lf.out.below bU);replace Lg:=zh (Lg.out.below bU);replace Lg2:=zh (Lg2.out.below bU);replace BW:=Below.more BW bU;replace HG:=zh (HB.out.below HG.out bU);clear bU;have b7:=Below.refl U7.heap.size U7;rw[s7];clear s7;have own0:OwnD U7.heap.size (U7.alloc (.cells #[] 55)) (.slice (some ⟨U7.heap.size,0,none⟩) 0 0) []:=ownG_empty U7 (Nat.le_refl _);show wpList _ _ _ _ _ _
 refine wpList_append_M rfl _ _ 23 55 rfl Tryz.underlying23 ndInfo rfl (by decide) (by decide) (fun _=>rfl) encD_one U7.heap.size (.slice (some ⟨U7.heap.size,0,none⟩) 0 0) [] rfl (own0) pa [avN] 1 (by rw[←hva];rfl) (La.out.below (Below.alloc b7 (Below.size b7) (.cells #[] 55))) (by decide) (show 1≤3000000 by decide) (Below.size (Below.alloc b7 (Below.size b7) (.cells #[] 55))) ?_;intro vz Wz ho hg hloc;have bdz:Below U7.heap.size U7 Wz:=Below.grown (Below.alloc b7 (Below.size b7) (.cells #[] 55)) hg (Below.size (Below.alloc b7 (Below.size b7) (.cells #[] 55))) fun j hj=>(World.ownsRow.lt own0 j hj).1;clear hg hloc own0
 go_frame
 go_wp2_with fail;refine(kt_f 0 [48] (by decide +kernel) (by decide) (by decide) _).mono ?_;rintro e Xz ⟨rfl,b⟩;have bez:=Below.more bdz b;have own1:=ownG_below ho b;clear b ho;go_wp2_with (at_builtin;refine haltG ?_);have own2:OwnD U7.heap.size (Xz.alloc (.cells #[.int .i64 0,.string ⟨#[48]⟩,.string ⟨#[49]⟩,.string ⟨#[]⟩,.int .i64 0,.int .i64 0,.int .i64 9,.string ⟨#[]⟩,.string ⟨#[]⟩,.string ⟨#[]⟩,.int .i64 0,.int .i64 0] 55)) vz [avN]:=World.ownsRow.alloc own1 _;show wpList _ _ _ _ _ _;refine wpList_append_M rfl _ _ 23 55 rfl Tryz.underlying23 ndInfo rfl (by decide) (by decide) (fun _=>rfl) encD_one U7.heap.size vz [avN] rfl (own2) (some ⟨Xz.heap.size,0,none⟩) [Nd.mk 0 ([48],[49]) [] 0 0,plainN 9] 2 rfl (ndsLit Xz [Nd.mk 0 ([48],[49]) [] 0 0,plainN 9] #[.int .i64 0,.string ⟨#[48]⟩,.string ⟨#[49]⟩,.string ⟨#[]⟩,.int .i64 0,.int .i64 0,.int .i64 9,.string ⟨#[]⟩,.string ⟨#[]⟩,.string ⟨#[]⟩,.int .i64 0,.int .i64 0] rfl) (by decide) (show 2≤3000000 by decide) (Below.size (Below.alloc bez (Below.size bez) (.cells #[.int .i64 0,.string ⟨#[48]⟩,.string ⟨#[49]⟩,.string ⟨#[]⟩,.int .i64 0,.int .i64 0,.int .i64 9,.string ⟨#[]⟩,.string ⟨#[]⟩,.string ⟨#[]⟩,.int .i64 0,.int .i64 0] 55))) ?_;intro uz Yz ho hg hloc;have bU:Below U7.heap.size U7 Yz:=Below.grown (Below.alloc bez (Below.size bez) (.cells #[.int .i64 0,.string ⟨#[48]⟩,.string ⟨#[49]⟩,.string ⟨#[]⟩,.int .i64 0,.int .i64 0,.int .i64 9,.string ⟨#[]⟩,.string ⟨#[]⟩,.string ⟨#[]⟩,.int .i64 0,.int .i64 0] 55)) hg (Below.size (Below.alloc bez (Below.size bez) (.cells #[.int .i64 0,.string ⟨#[48]⟩,.string ⟨#[49]⟩,.string ⟨#[]⟩,.int .i64 0,.int .i64 0,.int .i64 9,.string ⟨#[]⟩,.string ⟨#[]⟩,.string ⟨#[]⟩,.int .i64 0,.int .i64 0] 55))) fun j hj=>(World.ownsRow.lt own2 j hj).1
 clear hg hloc own1 own2 bez bdz;obtain⟨pz,cz,rfl,hcz,hlz,_⟩:=ownG_rows (enc:=encD) (k:=6) (fun _=>rfl) ho;clear ho
 go_frame
 replace rx0:=fun v (h:Below Yz.heap.size Yz v)=>rx0 v (Below.more bU h);replace rx1:=fun v (h:Below Yz.heap.size Yz v)=>rx1 v (Below.more bU h);replace ry0:=fun v (h:Below Yz.heap.size Yz v)=>ry0 v (Below.more bU h);replace ry1:=fun v (h:Below Yz.heap.size Yz v)=>ry1 v (Below.more bU h);replace La:=zh (La.out.below bU);replace Lf:=zh (Lf.out.below bU);replace Lg:=zh (Lg.out.below bU);replace Lg2:=zh (Lg2.out.below bU);replace BW:=Below.more BW bU;replace HG:=zh (HB.out.below HG.out bU);have Lz:Hid (Nds Yz pz zeroT):=zh hlz;clear hlz;replace hcz:3≤cz:=hcz;clear bU;have b8:=Below.refl Yz.heap.size Yz;go_wp2_with fail;refine(some13_any _).mono ?_;rintro e0 U9 ⟨⟨ph,ch,rfl,hch,⟨qh,rfl⟩,hlh⟩,b⟩;have bU:=Below.more b8 b;clear b;replace rx0:=fun v (h:Below U9.heap.size U9 v)=>rx0 v (Below.more bU h);replace rx1:=fun v (h:Below U9.heap.size U9 v)=>rx1 v (Below.more bU h);replace ry0:=fun v (h:Below U9.heap.size U9 v)=>ry0 v (Below.more bU h);replace ry1:=fun v (h:Below U9.heap.size U9 v)=>ry1 v (Below.more bU h);replace La:=zh (La.out.below bU);replace Lf:=zh (Lf.out.below bU);replace Lg:=zh (Lg.out.below bU);replace Lg2:=zh (Lg2.out.below bU);replace Lz:=zh (Lz.out.below bU);replace BW:=Below.more BW bU;replace HG:=zh (HB.out.below HG.out bU);have Lh:=zh hlh;clear hlh;clear bU;have b9:=Below.refl U9.heap.size U9;go_wp2_with fail;refine(ke3 HB.out hcz hch Lz.out Lh.out HG.out).mono ?_;rintro e w10 ⟨rfl,b⟩;have b10:=Below.more b9 b;clear b;have ba:=fun x=>Below.alloc b10 (Below.size b10) x
 go_wp2_with fail;obtain⟨U11,hU,bU,s11,rz0,rz1⟩:=lay b10 (.string ⟨#[]⟩) (.string ⟨#[]⟩) 28;rw[hU];clear hU ba s11;replace rx0:=fun v (h:Below U11.heap.size U11 v)=>rx0 v (Below.more bU h);replace rx1:=fun v (h:Below U11.heap.size U11 v)=>rx1 v (Below.more bU h);replace ry0:=fun v (h:Below U11.heap.size U11 v)=>ry0 v (Below.more bU h);replace ry1:=fun v (h:Below U11.heap.size U11 v)=>ry1 v (Below.more bU h);replace La:=zh (La.out.below bU);replace Lf:=zh (Lf.out.below bU);replace Lg:=zh (Lg.out.below bU);replace Lg2:=zh (Lg2.out.below bU);replace Lz:=zh (Lz.out.below bU);replace Lh:=zh (Lh.out.below bU);replace BW:=Below.more BW bU;replace HG:=zh (HB.out.below HG.out bU);clear bU;have b11:=Below.refl U11.heap.size U11;go_wp2_with fail;refine(some13_any _).mono ?_;rintro e0 U12 ⟨⟨pi,ci,rfl,hci,⟨qi,rfl⟩,hli⟩,b⟩;have bU:=Below.more b11 b;clear b;replace rx0:=fun v (h:Below U12.heap.size U12 v)=>rx0 v (Below.more bU h);replace rx1:=fun v (h:Below U12.heap.size U12 v)=>rx1 v (Below.more bU h);replace ry0:=fun v (h:Below U12.heap.size U12 v)=>ry0 v (Below.more bU h);replace ry1:=fun v (h:Below U12.heap.size U12 v)=>ry1 v (Below.more bU h);replace rz0:=fun v (h:Below U12.heap.size U12 v)=>rz0 v (Below.more bU h);replace rz1:=fun v (h:Below U12.heap.size U12 v)=>rz1 v (Below.more bU h);replace La:=zh (La.out.below bU);replace Lf:=zh (Lf.out.below bU);replace Lg:=zh (Lg.out.below bU);replace Lg2:=zh (Lg2.out.below bU);replace Lz:=zh (Lz.out.below bU);replace Lh:=zh (Lh.out.below bU);replace BW:=Below.more BW bU
 replace HG:=zh (HB.out.below HG.out bU);have Li:=zh hli;clear hli;clear bU;have b12:=Below.refl U12.heap.size U12;go_wp2_with fail;refine(ke4 HB.out hci Li.out HG.out).mono ?_;rintro e w13 ⟨rfl,b⟩;have b13:=Below.more b12 b;clear b;have ba:=fun x=>Below.alloc b13 (Below.size b13) x;go_wp2_with (at_builtin;refine haltG ?_);obtain⟨U14,hU,bU,s14,rn0,rn1⟩:=lay b13 (.string ⟨#[]⟩) (.string ⟨#[]⟩) 28;rw[hU];clear hU ba;replace rx0:=fun v (h:Below U14.heap.size U14 v)=>rx0 v (Below.more bU h);replace rx1:=fun v (h:Below U14.heap.size U14 v)=>rx1 v (Below.more bU h);replace ry0:=fun v (h:Below U14.heap.size U14 v)=>ry0 v (Below.more bU h);replace ry1:=fun v (h:Below U14.heap.size U14 v)=>ry1 v (Below.more bU h);replace rz0:=fun v (h:Below U14.heap.size U14 v)=>rz0 v (Below.more bU h);replace rz1:=fun v (h:Below U14.heap.size U14 v)=>rz1 v (Below.more bU h);replace La:=zh (La.out.below bU);replace Lf:=zh (Lf.out.below bU);replace Lg:=zh (Lg.out.below bU);replace Lg2:=zh (Lg2.out.below bU);replace Lz:=zh (Lz.out.below bU);replace Lh:=zh (Lh.out.below bU);replace Li:=zh (Li.out.below bU);replace BW:=Below.more BW bU;replace HG:=zh (HB.out.below HG.out bU);clear bU;have b14:=Below.refl U14.heap.size U14;rw[s14];clear s14;have own0:OwnD U14.heap.size (U14.alloc (.cells #[] 55)) (.slice (some ⟨U14.heap.size,0,none⟩) 0 0) []:=ownG_empty U14 (Nat.le_refl _);show wpList _ _ _ _ _ _;refine wpList_append_M rfl _ _ 23 55 rfl Tryz.underlying23 ndInfo rfl (by decide) (by decide) (fun _=>rfl) encD_one U14.heap.size (.slice (some ⟨U14.heap.size,0,none⟩) 0 0) [] rfl (own0) pa [avN] 1 (by rw[←hva];rfl) (La.out.below (Below.alloc b14 (Below.size b14) (.cells #[] 55))) (by decide) (show 1≤3000000 by decide) (Below.size (Below.alloc b14 (Below.size b14) (.cells #[] 55))) ?_
 intro vk Wk ho hg hloc;have bdk:Below U14.heap.size U14 Wk:=Below.grown (Below.alloc b14 (Below.size b14) (.cells #[] 55)) hg (Below.size (Below.alloc b14 (Below.size b14) (.cells #[] 55))) fun j hj=>(World.ownsRow.lt own0 j hj).1;clear hg hloc own0
 go_frame
 go_wp2_with fail;refine(kt_f 9 [57] (by decide +kernel) (by decide) (by decide) _).mono ?_;rintro e Xk ⟨rfl,b⟩;have bek:=Below.more bdk b;have own1:=ownG_below ho b;clear b ho;go_wp2_with (at_builtin;refine haltG ?_);have own2:OwnD U14.heap.size (Xk.alloc (.cells #[.int .i64 3,.string ⟨#[]⟩,.string ⟨#[]⟩,.string ⟨#[120]⟩,.int .i64 1,.int .i64 2,.int .i64 0,.string ⟨#[57]⟩,.string ⟨#[49]⟩,.string ⟨#[]⟩,.int .i64 0,.int .i64 0,.int .i64 12,.string ⟨#[]⟩,.string ⟨#[]⟩,.string ⟨#[]⟩,.int .i64 0,.int .i64 0] 55)) vk [avN]:=World.ownsRow.alloc own1 _;show wpList _ _ _ _ _ _;refine wpList_append_M rfl _ _ 23 55 rfl Tryz.underlying23 ndInfo rfl (by decide) (by decide) (fun _=>rfl) encD_one U14.heap.size vk [avN] rfl (own2) (some ⟨Xk.heap.size,0,none⟩) [Nd.mk 3 ([],[]) [120] 1 2,Nd.mk 0 ([57],[49]) [] 0 0,plainN 12] 3 rfl (ndsLit Xk [Nd.mk 3 ([],[]) [120] 1 2,Nd.mk 0 ([57],[49]) [] 0 0,plainN 12] #[.int .i64 3,.string ⟨#[]⟩,.string ⟨#[]⟩,.string ⟨#[120]⟩,.int .i64 1,.int .i64 2,.int .i64 0,.string ⟨#[57]⟩,.string ⟨#[49]⟩,.string ⟨#[]⟩,.int .i64 0,.int .i64 0,.int .i64 12,.string ⟨#[]⟩,.string ⟨#[]⟩,.string ⟨#[]⟩,.int .i64 0,.int .i64 0] rfl) (by decide) (show 3≤3000000 by decide) (Below.size (Below.alloc bek (Below.size bek) (.cells #[.int .i64 3,.string ⟨#[]⟩,.string ⟨#[]⟩,.string ⟨#[120]⟩,.int .i64 1,.int .i64 2,.int .i64 0,.string ⟨#[57]⟩,.string ⟨#[49]⟩,.string ⟨#[]⟩,.int .i64 0,.int .i64 0,.int .i64 12,.string ⟨#[]⟩,.string ⟨#[]⟩,.string ⟨#[]⟩,.int .i64 0,.int .i64 0] 55))) ?_;intro uk Yk ho hg hloc
 have bU:Below U14.heap.size U14 Yk:=Below.grown (Below.alloc bek (Below.size bek) (.cells #[.int .i64 3,.string ⟨#[]⟩,.string ⟨#[]⟩,.string ⟨#[120]⟩,.int .i64 1,.int .i64 2,.int .i64 0,.string ⟨#[57]⟩,.string ⟨#[49]⟩,.string ⟨#[]⟩,.int .i64 0,.int .i64 0,.int .i64 12,.string ⟨#[]⟩,.string ⟨#[]⟩,.string ⟨#[]⟩,.int .i64 0,.int .i64 0] 55)) hg (Below.size (Below.alloc bek (Below.size bek) (.cells #[.int .i64 3,.string ⟨#[]⟩,.string ⟨#[]⟩,.string ⟨#[120]⟩,.int .i64 1,.int .i64 2,.int .i64 0,.string ⟨#[57]⟩,.string ⟨#[49]⟩,.string ⟨#[]⟩,.int .i64 0,.int .i64 0,.int .i64 12,.string ⟨#[]⟩,.string ⟨#[]⟩,.string ⟨#[]⟩,.int .i64 0,.int .i64 0] 55))) fun j hj=>(World.ownsRow.lt own2 j hj).1;clear hg hloc own1 own2 bek bdk;obtain⟨pk,ck,rfl,hck,hlk,_⟩:=ownG_rows (enc:=encD) (k:=6) (fun _=>rfl) ho;clear ho
 go_frame
 replace rx0:=fun v (h:Below Yk.heap.size Yk v)=>rx0 v (Below.more bU h);replace rx1:=fun v (h:Below Yk.heap.size Yk v)=>rx1 v (Below.more bU h);replace ry0:=fun v (h:Below Yk.heap.size Yk v)=>ry0 v (Below.more bU h);replace ry1:=fun v (h:Below Yk.heap.size Yk v)=>ry1 v (Below.more bU h);replace rz0:=fun v (h:Below Yk.heap.size Yk v)=>rz0 v (Below.more bU h);replace rz1:=fun v (h:Below Yk.heap.size Yk v)=>rz1 v (Below.more bU h);replace rn0:=fun v (h:Below Yk.heap.size Yk v)=>rn0 v (Below.more bU h);replace rn1:=fun v (h:Below Yk.heap.size Yk v)=>rn1 v (Below.more bU h);replace La:=zh (La.out.below bU);replace Lf:=zh (Lf.out.below bU);replace Lg:=zh (Lg.out.below bU);replace Lg2:=zh (Lg2.out.below bU);replace Lz:=zh (Lz.out.below bU);replace Lh:=zh (Lh.out.below bU);replace Li:=zh (Li.out.below bU);replace BW:=Below.more BW bU;replace HG:=zh (HB.out.below HG.out bU);have Lk:Hid (Nds Yk pk pickT):=zh hlk;clear hlk;replace hck:4≤ck:=hck;clear bU;have b15:=Below.refl Yk.heap.size Yk;go_wp2_with fail;refine(some13_any _).mono ?_;rintro e0 U16 ⟨⟨pj,cj,rfl,hcj,⟨qj,rfl⟩,hlj⟩,b⟩;have bU:=Below.more b15 b;clear b;replace rx0:=fun v (h:Below U16.heap.size U16 v)=>rx0 v (Below.more bU h);replace rx1:=fun v (h:Below U16.heap.size U16 v)=>rx1 v (Below.more bU h);replace ry0:=fun v (h:Below U16.heap.size U16 v)=>ry0 v (Below.more bU h);replace ry1:=fun v (h:Below U16.heap.size U16 v)=>ry1 v (Below.more bU h);replace rz0:=fun v (h:Below U16.heap.size U16 v)=>rz0 v (Below.more bU h);replace rz1:=fun v (h:Below U16.heap.size U16 v)=>rz1 v (Below.more bU h)
 replace rn0:=fun v (h:Below U16.heap.size U16 v)=>rn0 v (Below.more bU h);replace rn1:=fun v (h:Below U16.heap.size U16 v)=>rn1 v (Below.more bU h);replace La:=zh (La.out.below bU);replace Lf:=zh (Lf.out.below bU);replace Lg:=zh (Lg.out.below bU);replace Lg2:=zh (Lg2.out.below bU);replace Lz:=zh (Lz.out.below bU);replace Lh:=zh (Lh.out.below bU);replace Li:=zh (Li.out.below bU);replace Lk:=zh (Lk.out.below bU);replace BW:=Below.more BW bU;replace HG:=zh (HB.out.below HG.out bU);have Lj:=zh hlj;clear hlj;clear bU;have b16:=Below.refl U16.heap.size U16;go_wp2_with fail;refine(ke5 HB.out hck hcj Lk.out Lj.out HG.out).mono ?_;rintro e w17 ⟨rfl,b⟩;have b17:=Below.more b16 b;clear b;have ba:=fun x=>Below.alloc b17 (Below.size b17) x;subst hva;go_wp2_with fail;obtain⟨U18,hU,bU,s18,rp0,rp1⟩:=lay b17 (.string ⟨#[50]⟩) (.string ⟨#[49]⟩) 28;rw[hU];clear hU ba;replace rx0:=fun v (h:Below U18.heap.size U18 v)=>rx0 v (Below.more bU h);replace rx1:=fun v (h:Below U18.heap.size U18 v)=>rx1 v (Below.more bU h);replace ry0:=fun v (h:Below U18.heap.size U18 v)=>ry0 v (Below.more bU h);replace ry1:=fun v (h:Below U18.heap.size U18 v)=>ry1 v (Below.more bU h);replace rz0:=fun v (h:Below U18.heap.size U18 v)=>rz0 v (Below.more bU h);replace rz1:=fun v (h:Below U18.heap.size U18 v)=>rz1 v (Below.more bU h);replace rn0:=fun v (h:Below U18.heap.size U18 v)=>rn0 v (Below.more bU h);replace rn1:=fun v (h:Below U18.heap.size U18 v)=>rn1 v (Below.more bU h);replace La:=zh (La.out.below bU);replace Lf:=zh (Lf.out.below bU)
 replace Lg:=zh (Lg.out.below bU);replace Lg2:=zh (Lg2.out.below bU);replace Lz:=zh (Lz.out.below bU);replace Lh:=zh (Lh.out.below bU);replace Li:=zh (Li.out.below bU);replace Lk:=zh (Lk.out.below bU);replace Lj:=zh (Lj.out.below bU);replace BW:=Below.more BW bU;replace HG:=zh (HB.out.below HG.out bU);clear bU;have b18:=Below.refl U18.heap.size U18;rw[s18];clear s18;have hrow:=rowsLit (enc:=encFx) (k:=4) (fun _=>rfl) U18 [(([],0),([],[]))] #[.string ⟨#[]⟩,.int .i64 0,.string ⟨#[]⟩,.string ⟨#[]⟩] 39 rfl;have bn:Below U18.heap.size U18 (U18.alloc (.cells #[.string ⟨#[]⟩,.int .i64 0,.string ⟨#[]⟩,.string ⟨#[]⟩] 39)):=Below.alloc (Below.refl _ _) (Nat.le_refl _) _;obtain⟨U19,hU⟩:∃U,U18.alloc (.cells #[.string ⟨#[]⟩,.int .i64 0,.string ⟨#[]⟩,.string ⟨#[]⟩] 39)=U:=⟨_,rfl⟩;rw[hU]at hrow bn ⊢;have bU:=Below.more b18 bn;clear bn;replace rx0:=fun v (h:Below U19.heap.size U19 v)=>rx0 v (Below.more bU h);replace rx1:=fun v (h:Below U19.heap.size U19 v)=>rx1 v (Below.more bU h);replace ry0:=fun v (h:Below U19.heap.size U19 v)=>ry0 v (Below.more bU h);replace ry1:=fun v (h:Below U19.heap.size U19 v)=>ry1 v (Below.more bU h);replace rz0:=fun v (h:Below U19.heap.size U19 v)=>rz0 v (Below.more bU h);replace rz1:=fun v (h:Below U19.heap.size U19 v)=>rz1 v (Below.more bU h);replace rn0:=fun v (h:Below U19.heap.size U19 v)=>rn0 v (Below.more bU h);replace rn1:=fun v (h:Below U19.heap.size U19 v)=>rn1 v (Below.more bU h);replace rp0:=fun v (h:Below U19.heap.size U19 v)=>rp0 v (Below.more bU h);replace rp1:=fun v (h:Below U19.heap.size U19 v)=>rp1 v (Below.more bU h)
 replace La:=zh (La.out.below bU);replace Lf:=zh (Lf.out.below bU);replace Lg:=zh (Lg.out.below bU);replace Lg2:=zh (Lg2.out.below bU);replace Lz:=zh (Lz.out.below bU);replace Lh:=zh (Lh.out.below bU);replace Li:=zh (Li.out.below bU);replace Lk:=zh (Lk.out.below bU);replace Lj:=zh (Lj.out.below bU);replace BW:=Below.more BW bU;replace HG:=zh (HB.out.below HG.out bU);have Lm:=zh hrow;clear hrow hU;generalize hpm:(some ⟨U18.heap.size,0,none⟩:Option Addr)=pm at *;clear hpm;clear bU;have b19:=Below.refl U19.heap.size U19;refine(ke6 HB.out La.out Lm.out HG.out).mono ?_;rintro e w20 ⟨rfl,b⟩;have b20:=Below.more b19 b;clear b;have ba:=fun x=>Below.alloc b20 (Below.size b20) x;go_wp2_with fail;obtain⟨U21,hU,bU,s21,rq0,rq1⟩:=lay b20 (.string ⟨#[]⟩) (.string ⟨#[]⟩) 28;rw[hU];clear hU ba s21;replace rx0:=fun v (h:Below U21.heap.size U21 v)=>rx0 v (Below.more bU h);replace rx1:=fun v (h:Below U21.heap.size U21 v)=>rx1 v (Below.more bU h);replace ry0:=fun v (h:Below U21.heap.size U21 v)=>ry0 v (Below.more bU h);replace ry1:=fun v (h:Below U21.heap.size U21 v)=>ry1 v (Below.more bU h);replace rz0:=fun v (h:Below U21.heap.size U21 v)=>rz0 v (Below.more bU h);replace rz1:=fun v (h:Below U21.heap.size U21 v)=>rz1 v (Below.more bU h);replace rn0:=fun v (h:Below U21.heap.size U21 v)=>rn0 v (Below.more bU h);replace rn1:=fun v (h:Below U21.heap.size U21 v)=>rn1 v (Below.more bU h);replace rp0:=fun v (h:Below U21.heap.size U21 v)=>rp0 v (Below.more bU h);replace rp1:=fun v (h:Below U21.heap.size U21 v)=>rp1 v (Below.more bU h)
 replace La:=zh (La.out.below bU);replace Lf:=zh (Lf.out.below bU);replace Lg:=zh (Lg.out.below bU);replace Lg2:=zh (Lg2.out.below bU);replace Lz:=zh (Lz.out.below bU);replace Lh:=zh (Lh.out.below bU);replace Li:=zh (Li.out.below bU);replace Lk:=zh (Lk.out.below bU);replace Lj:=zh (Lj.out.below bU);replace Lm:=zh (Lm.out.below bU);replace BW:=Below.more BW bU;replace HG:=zh (HB.out.below HG.out bU);clear bU;have b21:=Below.refl U21.heap.size U21;have hB:=zh (Nat.le_refl U21.heap.size);have CG:=zh (fun V (h:Below U21.heap.size U21 V)=>HB.out.below HG.out h);have CK:=zh (fun V (h:Below U21.heap.size U21 V)=>Lk.out.below h);go_wp2_with fail;refine tkG (S:=fun w'=>Below U21.heap.size U21 w') (b21.drew) (fun hH0=>?_);refine tkY 0 ?_
 try simp only[Act.put,qA,qB,qC,qD,qE,qF]
 refine tkR 1 (fun K hK=>?_)
 go_simp
 refine(held (W:=U21) hB.out (kt_f 3 [51] (by decide +kernel) (by decide) (by decide) _) (by assumption)).mono ?_;rintro e x1 ⟨rfl,hb,hw⟩
 (try go_wp2_with fail)
 refine hK.out _ _ hw (fun hH1=>?_);clear hK hH0 hb hw
 try simp only[Act.put,qA,qB,qC,qD,qE,qF]
 refine tkY 2 ?_
 try simp only[Act.put,qA,qB,qC,qD,qE,qF]
 refine tkY 3 ?_
 try simp only[Act.put,qA,qB,qC,qD,qE,qF]
 refine tkY 4 ?_
 try simp only[Act.put,qA,qB,qC,qD,qE,qF]
 refine tkY 5 ?_
 try simp only[Act.put,qA,qB,qC,qD,qE,qF]
 refine tkY 6 ?_
 try simp only[Act.put,qA,qB,qC,qD,qE,qF]
 refine tkY 7 ?_
 try simp only[Act.put,qA,qB,qC,qD,qE,qF]
 refine tkY 8 ?_
 try simp only[Act.put,qA,qB,qC,qD,qE,qF]
 refine tkY 9 ?_
 try simp only[Act.put,qA,qB,qC,qD,qE,qF]
 refine tkY 10 ?_
 try simp only[Act.put,qA,qB,qC,qD,qE,qF]
 refine tkY 11 ?_
 try simp only[Act.put,qA,qB,qC,qD,qE,qF]
 refine tkY 12 ?_
 try simp only[Act.put,qA,qB,qC,qD,qE,qF]
 refine tkY 13 ?_
 try simp only[Act.put,qA,qB,qC,qD,qE,qF]
 refine tkY 14 ?_
 try simp only[Act.put,qA,qB,qC,qD,qE,qF]
 refine tkY 15 ?_
 try simp only[Act.put,qA,qB,qC,qD,qE,qF]
 refine tkY 16 ?_
 try simp only[Act.put,qA,qB,qC,qD,qE,qF]
 refine tkY 17 ?_
 try simp only[Act.put,qA,qB,qC,qD,qE,qF]
 refine tkY 18 ?_
 try simp only[Act.put,qA,qB,qC,qD,qE,qF]
 refine tkY 19 ?_
 try simp only[Act.put,qA,qB,qC,qD,qE,qF]
 refine tkY 20 ?_
 try simp only[Act.put,qA,qB,qC,qD,qE,qF]
 refine tkR 21 (fun K hK=>?_)
 go_simp
 refine(held (W:=U21) hB.out (kt_f 2 [50] (by decide +kernel) (by decide) (by decide) _) (by assumption)).mono ?_;rintro e x2 ⟨rfl,hb,hw⟩
 (try go_wp2_with fail)
 refine hK.out _ _ hw (fun hH2=>?_);clear hK hH1 hb hw
 try simp only[Act.put,qA,qB,qC,qD,qE,qF]
 refine tkY 22 ?_
 try simp only[Act.put,qA,qB,qC,qD,qE,qF]
 refine tkY 23 ?_
 try simp only[Act.put,qA,qB,qC,qD,qE,qF]
 refine tkY 24 ?_
 try simp only[Act.put,qA,qB,qC,qD,qE,qF]
 refine tkY 25 ?_
 try simp only[Act.put,qA,qB,qC,qD,qE,qF]
 refine tkY 26 ?_
 try simp only[Act.put,qA,qB,qC,qD,qE,qF]
 refine tkY 27 ?_
 try simp only[Act.put,qA,qB,qC,qD,qE,qF]
 refine tkY 28 ?_
 try simp only[Act.put,qA,qB,qC,qD,qE,qF]
 refine tkY 29 ?_
 try simp only[Act.put,qA,qB,qC,qD,qE,qF]
 refine tkY 30 ?_
 try simp only[Act.put,qA,qB,qC,qD,qE,qF]
 refine tkY 31 ?_
 try simp only[Act.put,qA,qB,qC,qD,qE,qF]
 refine tkY 32 ?_
 try simp only[Act.put,qA,qB,qC,qD,qE,qF]
 refine tkY 33 ?_
 try simp only[Act.put,qA,qB,qC,qD,qE,qF]
 refine tkR 34 (fun K hK=>?_)
 go_simp
 refine(heldT (W:=U21) hB.out (ke7 HB.out hck (CK.out _ (by assumption)) (CG.out _ (by assumption))) (by assumption)).mono ?_;rintro e x3 ⟨⟨pw,cw,rfl,hcw,_⟩,hb,hw⟩
 (try go_wp2_with fail)
 refine hK.out _ _ hw (fun hH3=>?_);clear hK hH2 hb hw
 try simp only[Act.put,qA,qB,qC,qD,qE,qF]
 refine tkY 35 ?_
 try simp only[Act.put,qA,qB,qC,qD,qE,qF]
 refine tkY 36 ?_
 try simp only[Act.put,qA,qB,qC,qD,qE,qF]
 refine tkY 37 ?_
 try simp only[Act.put,qA,qB,qC,qD,qE,qF]
 refine tkY 38 ?_
 try simp only[Act.put,qA,qB,qC,qD,qE,qF]
 refine tkD ?_;have bZ:=hH3;clear hH3;go_wp2_with fail;go_ret;exact⟨ret_bool (by first|rfl|simp),Below.more BW bZ⟩
end Go.Proofs.YtghioekjghmdaaaGreatDoor
