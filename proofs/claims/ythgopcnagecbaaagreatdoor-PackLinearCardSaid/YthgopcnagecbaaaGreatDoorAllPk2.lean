/- Own work. -/
import Derived.Test.YthgopcnagecbaaaGreatDoorAllPkS
set_option linter.unusedSimpArgs false
set_option linter.unusedVariables false
set_option maxHeartbeats 4000000
set_option maxRecDepth 100000
namespace Go.Proofs.YthgopcnagecbaaaGreatDoor
open Go.RowKit
open Pk (Part Pack mayP valueP keepsP ofP)
open Pk (lessT sort_two)
theorem ownG_lit{α:Type}{enc:α→List Value}{k B:Nat}(hk:∀x,(enc x).length=k)(w:World)(l:List α)(cs:Array Value)(e:TypeId)(hc:cs.toList=l.flatMap enc)(hl:l.length≤1000)(h:B≤w.heap.size):OwnG enc k e B (w.alloc (.cells cs e)) (.slice (some ⟨w.heap.size,0,none⟩) l.length l.length) l:=by
 have hf:=flat_len hk l;have hs:cs.size=l.length*k:=by rw[←Array.length_toList,hc,hf]
 refine⟨hf,.inr ⟨w.heap.size,l.length,cs,rfl,h,heap_alloc_new w _,Nat.le_refl _,by unfold maxLen;omega,hs,?_⟩⟩;rw[hc];exact List.take_of_length_le (by rw[hf];exact Nat.le_refl _)
theorem pts_put{w:World}{p:Option Addr}{l:List Part}{X:Nat}(h:Pts w p l)(hp:∀a,p=some a→a.block≠X)(x y z:Value):Pts (((w.setCell ⟨X,0,none⟩ x).setCell ⟨X,1,none⟩ y).setCell ⟨X,2,none⟩ z) p l:=by
 have g:=((WrB.of_set w X 0 x (List.mem_singleton.2 rfl)).trans (WrB.of_set _ X 1 y (List.mem_singleton.2 rfl))).trans (WrB.of_set _ X 2 z (List.mem_singleton.2 rfl));exact RowsG.wr h g fun a e c=>hp a e (List.mem_singleton.1 c)
theorem lay_any{B:Nat}(n d:List UInt8)(v:Value)(ls:List Part)(w:World)(hB:B≤w.heap.size)(h:OwnG encPt 3 45 B w v ls)(hl:ls.length≤1000) :
  Calls Tryz.prog 36 #[.agg #[.string ⟨n.toArray⟩,.string ⟨d.toArray⟩],v] w (fun e w'=>(∃p c m,e=.returned (.agg #[.slice p m.length c,.string ⟨n.toArray⟩,.string ⟨d.toArray⟩])∧m.length≤c∧m.Perm ls∧m.Pairwise (fun x y=>lessT y x=false)∧Pts w' p m∧∀a,p=some a→B≤a.block∧a.block<w.heap.size)∧Below B w w'):=by
 have HLT:=zh (own_lt h);go_enter Tryz.func36,Tryz.ntmps36;go_wp2_with fail;have hK:=blk_new w #[.string ⟨n.toArray⟩,.string ⟨d.toArray⟩] 23;obtain⟨W,hW,BW,sW,kk⟩:=layN (Below.refl w.heap.size w) #[.string ⟨n.toArray⟩,.string ⟨d.toArray⟩] 23;rw[hW]at hK ⊢;clear hW kk;have hX:=blk_new W #[.slice none 0 0,.string ⟨#[]⟩,.string ⟨#[]⟩] 28;have bX:Below W.heap.size W (W.alloc (.cells #[.slice none 0 0,.string ⟨#[]⟩,.string ⟨#[]⟩] 28)):=Below.alloc (Below.refl _ _) (Nat.le_refl _) _;obtain⟨U,hU⟩:∃U,W.alloc (.cells #[.slice none 0 0,.string ⟨#[]⟩,.string ⟨#[]⟩] 28)=U:=⟨_,rfl⟩;rw[hU]at hX bX ⊢;clear hU;replace hK:=hK.below bX;have hO:=zh (ownG_below (ownG_below h BW) bX);have bU:=(Below.more BW bX).mono hB;rw[←sW]at hX;have hlX:B≤w.heap.size+1:=by omega
 have hXw:w.heap.size<w.heap.size+1:=by omega
 clear h bX BW sW;go_wp2_with fail;refine(psortT_any v ls U hO.out (by omega)).mono ?_;rintro e w1 ⟨rfl,⟨p,c,m,rfl,hc,hp,hs,hL⟩,hg⟩;replace hK:=hK.grown hg (fun e=>Nat.lt_irrefl _ (HLT.out _ e).2);replace hX:=hX.grown hg (fun e=>Nat.lt_irrefl _ (Nat.lt_trans (HLT.out _ e).2 hXw));have b1:=Below.grown bU hg (Nat.le_trans hB bU.size) (fun j hj=>(HLT.out _ hj).1);have HP:Hid (∀a,p=some a→B≤a.block∧a.block<w.heap.size):=zh (fun a e=>by cases e;exact HLT.out _ rfl);have HL:=zh hL;have HC:=zh hc;have HQ:=zh hp;have HS:=zh hs
 have k0:=hK.c 0 _ rfl;have k1:=hK.c 1 _ rfl
 have y0:=hX.c 0 _ rfl;have y1:=hX.c 1 _ rfl;have y2:=hX.c 2 _ rfl
 have z0:=hX.f 0 (by simp);have z1:=hX.f 1 (by simp);have z2:=hX.f 2 (by simp)
 clear hK hX hg hO hL hc hp hs bU;go_wp2_with fail;refine bodyPost_ret (v:=.agg #[.slice p m.length c,.string ⟨n.toArray⟩,.string ⟨d.toArray⟩]) (by simp[results,Tryz.results36,go_sem, *]) rfl ⟨⟨p,c,m,rfl,HC.out,HQ.out,HS.out,pts_put HL.out (fun a e=>Nat.ne_of_lt (Nat.lt_trans (HP.out a e).2 hXw)) _ _ _,HP.out⟩,?_⟩;exact Below.setCell (Below.setCell (Below.setCell (b1) (hlX) _) (hlX) _) (hlX) _
theorem of_no(k:Int)(nm ast oth rn rd cn cd:List UInt8)(ex rc pay:Int)(w:World)(hg:GoodA w)(hm:Ac.mayA ⟨nm,k,ast,oth,(rn,rd),(cn,cd),ex,rc,pay⟩=false):Calls Tryz.prog 15 #[.agg #[.string ⟨nm.toArray⟩,.int .i64 k,.string ⟨ast.toArray⟩,.string ⟨oth.toArray⟩,.string ⟨rn.toArray⟩,.string ⟨rd.toArray⟩,.string ⟨cn.toArray⟩,.string ⟨cd.toArray⟩,.int .i64 ex,.int .i64 rc,.int .i64 pay]] w (GivePk w (ofP ⟨nm,k,ast,oth,(rn,rd),(cn,cd),ex,rc,pay⟩)):=by
 have HE:Hid (ofP ⟨nm,k,ast,oth,(rn,rd),(cn,cd),ex,rc,pay⟩=⟨[],([],[])⟩):=zh (by unfold ofP;rw[hm];rfl);have CM:=zh (fun V (hV:Below w.heap.size w V)=>amay_any ⟨nm,k,ast,oth,(rn,rd),(cn,cd),ex,rc,pay⟩ V (hg.below hV));rw[hm]at CM;clear hm;go_enter Tryz.func15,Tryz.ntmps15;go_wp2_with fail;obtain⟨W,hW,BW,sW,kk⟩:=layN (Below.refl w.heap.size w) #[.string ⟨nm.toArray⟩,.int .i64 k,.string ⟨ast.toArray⟩,.string ⟨oth.toArray⟩,.string ⟨rn.toArray⟩,.string ⟨rd.toArray⟩,.string ⟨cn.toArray⟩,.string ⟨cd.toArray⟩,.int .i64 ex,.int .i64 rc,.int .i64 pay] 25;rw[hW];clear hW;have hX:=blk_new W #[.slice none 0 0,.string ⟨#[]⟩,.string ⟨#[]⟩] 28;have bX:Below W.heap.size W (W.alloc (.cells #[.slice none 0 0,.string ⟨#[]⟩,.string ⟨#[]⟩] 28)):=Below.alloc (Below.refl _ _) (Nat.le_refl _) _;have hXU:W.heap.size<(W.alloc (.cells #[.slice none 0 0,.string ⟨#[]⟩,.string ⟨#[]⟩] 28)).heap.size:=by simp
 obtain⟨U,hU⟩:∃U,W.alloc (.cells #[.slice none 0 0,.string ⟨#[]⟩,.string ⟨#[]⟩] 28)=U:=⟨_,rfl⟩;rw[hU]at hX bX hXU ⊢;clear hU;rw[←sW]at hX;have HXU:Hid (w.heap.size+1<U.heap.size):=zh (by omega);have hle2:w.heap.size≤w.heap.size+1:=by omega
 have hle3:W.heap.size≤w.heap.size+1:=by omega
 have p0:∀v,Below W.heap.size U v→_:=fun v hv=>kk 0 _ rfl v (bX.trans hv);have p1:∀v,Below W.heap.size U v→_:=fun v hv=>kk 1 _ rfl v (bX.trans hv);have p2:∀v,Below W.heap.size U v→_:=fun v hv=>kk 2 _ rfl v (bX.trans hv);have p3:∀v,Below W.heap.size U v→_:=fun v hv=>kk 3 _ rfl v (bX.trans hv);have p4:∀v,Below W.heap.size U v→_:=fun v hv=>kk 4 _ rfl v (bX.trans hv);have p5:∀v,Below W.heap.size U v→_:=fun v hv=>kk 5 _ rfl v (bX.trans hv);have p6:∀v,Below W.heap.size U v→_:=fun v hv=>kk 6 _ rfl v (bX.trans hv);have p7:∀v,Below W.heap.size U v→_:=fun v hv=>kk 7 _ rfl v (bX.trans hv);have p8:∀v,Below W.heap.size U v→_:=fun v hv=>kk 8 _ rfl v (bX.trans hv);have p9:∀v,Below W.heap.size U v→_:=fun v hv=>kk 9 _ rfl v (bX.trans hv);have p10:∀v,Below W.heap.size U v→_:=fun v hv=>kk 10 _ rfl v (bX.trans hv)
 clear kk hXU sW;have q0:=p0 U (Below.refl _ _);have q1:=p1 U (Below.refl _ _);have q2:=p2 U (Below.refl _ _);have q3:=p3 U (Below.refl _ _);have q4:=p4 U (Below.refl _ _);have q5:=p5 U (Below.refl _ _);have q6:=p6 U (Below.refl _ _);have q7:=p7 U (Below.refl _ _);have q8:=p8 U (Below.refl _ _);have q9:=p9 U (Below.refl _ _);have q10:=p10 U (Below.refl _ _)
 go_wp2_with fail;refine(CM.out _ (Below.more BW bX)).mono ?_;rintro e1 u1 ⟨rfl,b⟩;have hX1:=hX.below b;have c1:Below W.heap.size U u1:=b.mono bX.size;have hB:=zh bX.size;have HGB:Hid (∀V,Below W.heap.size U V→Below w.heap.size w V):=zh (fun V hV=>Below.more BW (bX.trans hV));clear q0 q1 q2 q3 q4 q5 q6 q7 q8 q9 q10 hX b CM bX BW;have y0:=hX1.c 0 _ rfl;have y1:=hX1.c 1 _ rfl;have y2:=hX1.c 2 _ rfl
 have z0:=hX1.f 0 (by simp);have z1:=hX1.f 1 (by simp);have z2:=hX1.f 2 (by simp)
 clear hX1 p0 p1 p2 p3 p4 p5 p6 p7 p8 p9 p10;go_wp2_with fail;refine bodyPost_ret (v:=.agg #[.slice none 0 0,.string ⟨#[]⟩,.string ⟨#[]⟩]) (by simp[results,Tryz.results15,go_sem, *]) rfl ⟨⟨none,0,by rw[HE.out];rfl,by rw[HE.out];exact Nat.le_refl _,by rw[HE.out];exact RowsG.nil _ _⟩,?_⟩;exact Below.setCell (Below.setCell (Below.setCell (HGB.out _ c1) (hle2) _) (hle2) _) (hle2) _
theorem of_0(nm ast oth rn rd cn cd:List UInt8)(ex rc pay:Int)(w:World)(hg:GoodA w)(hm:Ac.mayA ⟨nm,0,ast,oth,(rn,rd),(cn,cd),ex,rc,pay⟩=true):Calls Tryz.prog 15 #[.agg #[.string ⟨nm.toArray⟩,.int .i64 0,.string ⟨ast.toArray⟩,.string ⟨oth.toArray⟩,.string ⟨rn.toArray⟩,.string ⟨rd.toArray⟩,.string ⟨cn.toArray⟩,.string ⟨cd.toArray⟩,.int .i64 ex,.int .i64 rc,.int .i64 pay]] w (GivePk w (ofP ⟨nm,0,ast,oth,(rn,rd),(cn,cd),ex,rc,pay⟩)):=by
 have CP:=zh (fun a n e V=>part_any a n e V);have HE:Hid (ofP ⟨nm,0,ast,oth,(rn,rd),(cn,cd),ex,rc,pay⟩=⟨[(ast,(rn,rd))],(cn,cd)⟩):=zh (by unfold ofP;rw[if_pos hm];rfl);have CM:=zh (fun V (hV:Below w.heap.size w V)=>amay_any ⟨nm,0,ast,oth,(rn,rd),(cn,cd),ex,rc,pay⟩ V (hg.below hV));rw[hm]at CM;clear hm;go_enter Tryz.func15,Tryz.ntmps15;go_wp2_with fail;obtain⟨W,hW,BW,sW,kk⟩:=layN (Below.refl w.heap.size w) #[.string ⟨nm.toArray⟩,.int .i64 0,.string ⟨ast.toArray⟩,.string ⟨oth.toArray⟩,.string ⟨rn.toArray⟩,.string ⟨rd.toArray⟩,.string ⟨cn.toArray⟩,.string ⟨cd.toArray⟩,.int .i64 ex,.int .i64 rc,.int .i64 pay] 25;rw[hW];clear hW;have hX:=blk_new W #[.slice none 0 0,.string ⟨#[]⟩,.string ⟨#[]⟩] 28;have bX:Below W.heap.size W (W.alloc (.cells #[.slice none 0 0,.string ⟨#[]⟩,.string ⟨#[]⟩] 28)):=Below.alloc (Below.refl _ _) (Nat.le_refl _) _;have hXU:W.heap.size<(W.alloc (.cells #[.slice none 0 0,.string ⟨#[]⟩,.string ⟨#[]⟩] 28)).heap.size:=by simp
 obtain⟨U,hU⟩:∃U,W.alloc (.cells #[.slice none 0 0,.string ⟨#[]⟩,.string ⟨#[]⟩] 28)=U:=⟨_,rfl⟩;rw[hU]at hX bX hXU ⊢;clear hU;rw[←sW]at hX;have HXU:Hid (w.heap.size+1<U.heap.size):=zh (by omega);have hle2:w.heap.size≤w.heap.size+1:=by omega
 have hle3:W.heap.size≤w.heap.size+1:=by omega
 have p0:∀v,Below W.heap.size U v→_:=fun v hv=>kk 0 _ rfl v (bX.trans hv);have p1:∀v,Below W.heap.size U v→_:=fun v hv=>kk 1 _ rfl v (bX.trans hv);have p2:∀v,Below W.heap.size U v→_:=fun v hv=>kk 2 _ rfl v (bX.trans hv);have p3:∀v,Below W.heap.size U v→_:=fun v hv=>kk 3 _ rfl v (bX.trans hv);have p4:∀v,Below W.heap.size U v→_:=fun v hv=>kk 4 _ rfl v (bX.trans hv);have p5:∀v,Below W.heap.size U v→_:=fun v hv=>kk 5 _ rfl v (bX.trans hv);have p6:∀v,Below W.heap.size U v→_:=fun v hv=>kk 6 _ rfl v (bX.trans hv);have p7:∀v,Below W.heap.size U v→_:=fun v hv=>kk 7 _ rfl v (bX.trans hv);have p8:∀v,Below W.heap.size U v→_:=fun v hv=>kk 8 _ rfl v (bX.trans hv);have p9:∀v,Below W.heap.size U v→_:=fun v hv=>kk 9 _ rfl v (bX.trans hv);have p10:∀v,Below W.heap.size U v→_:=fun v hv=>kk 10 _ rfl v (bX.trans hv)
 clear kk hXU sW;have q0:=p0 U (Below.refl _ _);have q1:=p1 U (Below.refl _ _);have q2:=p2 U (Below.refl _ _);have q3:=p3 U (Below.refl _ _);have q4:=p4 U (Below.refl _ _);have q5:=p5 U (Below.refl _ _);have q6:=p6 U (Below.refl _ _);have q7:=p7 U (Below.refl _ _);have q8:=p8 U (Below.refl _ _);have q9:=p9 U (Below.refl _ _);have q10:=p10 U (Below.refl _ _)
 go_wp2_with fail;refine(CM.out _ (Below.more BW bX)).mono ?_;rintro e1 u1 ⟨rfl,b⟩;have hX1:=hX.below b;have c1:Below W.heap.size U u1:=b.mono bX.size;have hB:=zh bX.size;have HGB:Hid (∀V,Below W.heap.size U V→Below w.heap.size w V):=zh (fun V hV=>Below.more BW (bX.trans hV));clear q0 q1 q2 q3 q4 q5 q6 q7 q8 q9 q10 hX b CM bX BW;go_wp2_with fail;refine wp_region_noPanic ?_;refine wp_region_held_drew (S:=fun w'=>Below W.heap.size U w') (by kernel_rfl) (c1.drew) (fun hH0=>?_);have hX0:=hX1.drew;refine wpAnyH_take (i:=0) (v:=?_) rfl (by kernel_rfl) (by kernel_rfl) (by kernel_rfl) (fun _ _ _ h=>h) (Or.inl ⟨by rfl,?_⟩) (by assumption) ?_;rotate_left 1
 ·(intro w hSw;(try dsimp only at hSw);go_simp<;>(with_reducible rfl))
 try simp only[Act.put,qA,qB,qC,qD,qE,qF]
 refine wpAnyH_take (i:=1) (v:=?_) rfl (by kernel_rfl) (by kernel_rfl) (by kernel_rfl) (fun _ _ _ h=>h) (Or.inl ⟨by rfl,?_⟩) (by assumption) ?_;rotate_left 1
 ·(intro w hSw;(try dsimp only at hSw);go_simp<;>(with_reducible rfl))
 try simp only[Act.put,qA,qB,qC,qD,qE,qF]
 refine wpAnyH_take (i:=2) (v:=?_) rfl (by kernel_rfl) (by kernel_rfl) (by kernel_rfl) (fun _ _ _ h=>h) (Or.inl ⟨by rfl,?_⟩) (by assumption) ?_;rotate_left 1
 ·(intro w hSw;(try dsimp only at hSw);go_simp<;>(with_reducible rfl))
 try simp only[Act.put,qA,qB,qC,qD,qE,qF]
 refine wpAnyH_take (i:=3) (v:=?_) rfl (by kernel_rfl) (by kernel_rfl) (by kernel_rfl) (fun _ _ _ h=>h) (Or.inl ⟨by rfl,?_⟩) (by assumption) ?_;rotate_left 1
 ·(intro w hSw;(try dsimp only at hSw);go_simp<;>(with_reducible rfl))
 try simp only[Act.put,qA,qB,qC,qD,qE,qF]
 refine wpAnyH_take (i:=4) (v:=?_) rfl (by kernel_rfl) (by kernel_rfl) (by kernel_rfl) (fun _ _ _ h=>h) (Or.inl ⟨by rfl,?_⟩) (by assumption) ?_;rotate_left 1
 ·(intro w hSw;(try dsimp only at hSw);go_simp<;>(with_reducible rfl))
 try simp only[Act.put,qA,qB,qC,qD,qE,qF]
 refine wpAnyH_take (i:=5) (v:=?_) rfl (by kernel_rfl) (by kernel_rfl) (by kernel_rfl) (fun _ _ _ h=>h) (Or.inl ⟨by rfl,?_⟩) (by assumption) ?_;rotate_left 1
 ·(intro w hSw;(try dsimp only at hSw);go_simp<;>(with_reducible rfl))
 try simp only[Act.put,qA,qB,qC,qD,qE,qF]
 refine wpAnyH_ready (rs:=[6]) (by kernel_rfl) (by simp) ?_;refine AllReadyH.cons rfl (fun K hK=>?_) AllReadyH.nil
 go_simp
 refine(held (W:=U) hB.out (CP.out ast rn rd _) (by assumption)).mono ?_;rintro e x1 ⟨rfl,hb,hw⟩;have hX1:=hX0.below hb
 (try go_wp2_with fail)
 refine hK.out _ _ hw (fun hH1=>?_);clear hK hH0 hX0 hb hw
 try simp only[Act.put,qA,qB,qC,qD,qE,qF]
 refine wpAnyH_ready (rs:=[7]) (by kernel_rfl) (by simp) ?_;refine AllReadyH.cons rfl (fun K hK=>?_) AllReadyH.nil
 go_simp
 have hO:=ownG_lit (enc:=encPt) (k:=3) (fun _=>rfl) x1 [(ast,(rn,rd))] #[.string ⟨ast.toArray⟩,.string ⟨rn.toArray⟩,.string ⟨rd.toArray⟩] 45 rfl (by simp) (Nat.le_refl _);have bb:Below x1.heap.size x1 (x1.alloc (.cells #[.string ⟨ast.toArray⟩,.string ⟨rn.toArray⟩,.string ⟨rd.toArray⟩] 45)):=Below.alloc (Below.refl _ _) (Nat.le_refl _) _;obtain⟨x2,hU⟩:∃V,x1.alloc (.cells #[.string ⟨ast.toArray⟩,.string ⟨rn.toArray⟩,.string ⟨rd.toArray⟩] 45)=V:=⟨_,rfl⟩;rw[hU]at hO bb ⊢;clear hU;have hle:=hH1.size;have hw:Below W.heap.size U x2:=hH1.trans (bb.mono (Nat.le_trans hB.out hle));have hX2:=hX1.below bb;refine hK.out _ _ hw (fun hH2=>?_);clear hK hw
 try simp only[Act.put,qA,qB,qC,qD,qE,qF]
 refine wpAnyH_ready (rs:=[8]) (by kernel_rfl) (by simp) ?_;refine AllReadyH.cons rfl (fun K hK=>?_) AllReadyH.nil
 go_simp
 refine(lay_any cn cd _ _ _ bb.size hO (by simp)).mono ?_;rintro e x3 ⟨⟨p,c,m,rfl,hc,hp,hs,hL,hpb⟩,hb⟩;have HP:Hid (∀a,p=some a→a.block≠w.heap.size+1):=zh (fun a e=>Nat.ne_of_gt (Nat.lt_of_lt_of_le HXU.out (Nat.le_trans hle (hpb a e).1)));have hX3:=hX1.below (bb.trans hb);have hw:Below W.heap.size U x3:=hH1.trans ((bb.trans hb).mono (Nat.le_trans hB.out hle))
 (try go_wp2_with fail)
 refine hK.out _ _ hw (fun hH3=>?_);clear hK hH2 hH1 hX2 hX1 hb hw hO bb hle hpb
 try simp only[Act.put,qA,qB,qC,qD,qE,qF]
 have HE2:Hid (ofP ⟨nm,0,ast,oth,(rn,rd),(cn,cd),ex,rc,pay⟩=⟨m,(cn,cd)⟩):=zh (by rw[HE.out,List.perm_singleton.1 hp]);clear hp hs;have y0:=hX3.c 0 _ rfl;have y1:=hX3.c 1 _ rfl;have y2:=hX3.c 2 _ rfl
 have z0:=hX3.f 0 (by simp);have z1:=hX3.f 1 (by simp);have z2:=hX3.f 2 (by simp)
 refine wpAnyH_ready (rs:=[9]) (by kernel_rfl) (by simp) ?_;refine AllReadyH.cons rfl (fun K hK=>?_) AllReadyH.nil
 go_simp
 refine hK.out _ _ (Below.setCell (Below.setCell (Below.setCell (hH3) (hle3) _) (hle3) _) (hle3) _) (fun hH4=>?_);clear hK hH4
 try simp only[Act.put,qA,qB,qC,qD,qE,qF]
 refine wpAnyH_done (by kernel_rfl) ?_ _;refine NoPanic.normal ?_;go_wp2_with fail;have HL:=zh hL;have HC:=zh hc
 clear hL hc;refine bodyPost_ret (v:=.agg #[.slice p m.length c,.string ⟨cn.toArray⟩,.string ⟨cd.toArray⟩]) (by simp[results,Tryz.results15,go_sem, *]) rfl ⟨⟨p,c,by rw[HE2.out],by rw[HE2.out];exact HC.out,by rw[HE2.out];exact pts_put HL.out HP.out _ _ _⟩,?_⟩;exact Below.setCell (Below.setCell (Below.setCell (HGB.out _ hH3) (hle2) _) (hle2) _) (hle2) _
theorem of_1(nm ast oth rn rd cn cd:List UInt8)(ex rc pay:Int)(w:World)(hg:GoodA w)(hm:Ac.mayA ⟨nm,1,ast,oth,(rn,rd),(cn,cd),ex,rc,pay⟩=true):Calls Tryz.prog 15 #[.agg #[.string ⟨nm.toArray⟩,.int .i64 1,.string ⟨ast.toArray⟩,.string ⟨oth.toArray⟩,.string ⟨rn.toArray⟩,.string ⟨rd.toArray⟩,.string ⟨cn.toArray⟩,.string ⟨cd.toArray⟩,.int .i64 ex,.int .i64 rc,.int .i64 pay]] w (GivePk w (ofP ⟨nm,1,ast,oth,(rn,rd),(cn,cd),ex,rc,pay⟩)):=by
 obtain⟨an,ad,had⟩:∃an ad,addR ([49],[49]) (rn,rd)=(an,ad):=⟨_,_,rfl⟩;have CP:=zh (fun a n e V=>part_any a n e V);have HE:Hid (ofP ⟨nm,1,ast,oth,(rn,rd),(cn,cd),ex,rc,pay⟩=⟨[(ast,(an,ad))],(cn,cd)⟩):=zh (by unfold ofP;rw[if_pos hm,← had];rfl);have CO:Hid (∀V,Below w.heap.size w V→Calls Tryz.prog 39 #[.int .i64 1] V (GiveV V (.agg #[.string ⟨#[49]⟩,.string ⟨#[49]⟩]))):=zh (fun V hV=>by
  have h:=qof_any 1 V (by decide) (by decide) (hg.tab.below hV);rw[show wd 1=[49] by decide +kernel]at h;exact h)
 have CA:Hid (∀V,Calls Tryz.prog 38 #[.agg #[.string ⟨#[49]⟩,.string ⟨#[49]⟩],.agg #[.string ⟨rn.toArray⟩,.string ⟨rd.toArray⟩]] V (GiveV V (.agg #[.string ⟨an.toArray⟩,.string ⟨ad.toArray⟩]))):=zh (fun V=>by
  obtain⟨_,h1,h2⟩:=numB_len (Pk.may_parts hm).2.2.2.2.1 rfl;dsimp only at h1 h2;have h:=qadd_any ⟨#[49]⟩ ⟨#[49]⟩ ⟨rn.toArray⟩ ⟨rd.toArray⟩ V (by decide) (by decide) (by rw[size_of];omega) (by rw[size_of];omega);rw[show addR ((⟨#[49]⟩:ByteArray).data.toList,(⟨#[49]⟩:ByteArray).data.toList) ((⟨rn.toArray⟩:ByteArray).data.toList,(⟨rd.toArray⟩:ByteArray).data.toList)=(an,ad) from had]at h;exact h)
 clear had;have CM:=zh (fun V (hV:Below w.heap.size w V)=>amay_any ⟨nm,1,ast,oth,(rn,rd),(cn,cd),ex,rc,pay⟩ V (hg.below hV));rw[hm]at CM;clear hm;go_enter Tryz.func15,Tryz.ntmps15;go_wp2_with fail;obtain⟨W,hW,BW,sW,kk⟩:=layN (Below.refl w.heap.size w) #[.string ⟨nm.toArray⟩,.int .i64 1,.string ⟨ast.toArray⟩,.string ⟨oth.toArray⟩,.string ⟨rn.toArray⟩,.string ⟨rd.toArray⟩,.string ⟨cn.toArray⟩,.string ⟨cd.toArray⟩,.int .i64 ex,.int .i64 rc,.int .i64 pay] 25;rw[hW];clear hW;have hX:=blk_new W #[.slice none 0 0,.string ⟨#[]⟩,.string ⟨#[]⟩] 28;have bX:Below W.heap.size W (W.alloc (.cells #[.slice none 0 0,.string ⟨#[]⟩,.string ⟨#[]⟩] 28)):=Below.alloc (Below.refl _ _) (Nat.le_refl _) _;have hXU:W.heap.size<(W.alloc (.cells #[.slice none 0 0,.string ⟨#[]⟩,.string ⟨#[]⟩] 28)).heap.size:=by simp
 obtain⟨U,hU⟩:∃U,W.alloc (.cells #[.slice none 0 0,.string ⟨#[]⟩,.string ⟨#[]⟩] 28)=U:=⟨_,rfl⟩;rw[hU]at hX bX hXU ⊢;clear hU;rw[←sW]at hX;have HXU:Hid (w.heap.size+1<U.heap.size):=zh (by omega);have hle2:w.heap.size≤w.heap.size+1:=by omega
 have hle3:W.heap.size≤w.heap.size+1:=by omega
 have p0:∀v,Below W.heap.size U v→_:=fun v hv=>kk 0 _ rfl v (bX.trans hv);have p1:∀v,Below W.heap.size U v→_:=fun v hv=>kk 1 _ rfl v (bX.trans hv);have p2:∀v,Below W.heap.size U v→_:=fun v hv=>kk 2 _ rfl v (bX.trans hv);have p3:∀v,Below W.heap.size U v→_:=fun v hv=>kk 3 _ rfl v (bX.trans hv);have p4:∀v,Below W.heap.size U v→_:=fun v hv=>kk 4 _ rfl v (bX.trans hv);have p5:∀v,Below W.heap.size U v→_:=fun v hv=>kk 5 _ rfl v (bX.trans hv);have p6:∀v,Below W.heap.size U v→_:=fun v hv=>kk 6 _ rfl v (bX.trans hv);have p7:∀v,Below W.heap.size U v→_:=fun v hv=>kk 7 _ rfl v (bX.trans hv);have p8:∀v,Below W.heap.size U v→_:=fun v hv=>kk 8 _ rfl v (bX.trans hv);have p9:∀v,Below W.heap.size U v→_:=fun v hv=>kk 9 _ rfl v (bX.trans hv);have p10:∀v,Below W.heap.size U v→_:=fun v hv=>kk 10 _ rfl v (bX.trans hv)
 clear kk hXU sW;have q0:=p0 U (Below.refl _ _);have q1:=p1 U (Below.refl _ _);have q2:=p2 U (Below.refl _ _);have q3:=p3 U (Below.refl _ _);have q4:=p4 U (Below.refl _ _);have q5:=p5 U (Below.refl _ _);have q6:=p6 U (Below.refl _ _);have q7:=p7 U (Below.refl _ _);have q8:=p8 U (Below.refl _ _);have q9:=p9 U (Below.refl _ _);have q10:=p10 U (Below.refl _ _)
 go_wp2_with fail;refine(CM.out _ (Below.more BW bX)).mono ?_;rintro e1 u1 ⟨rfl,b⟩;have hX1:=hX.below b;have c1:Below W.heap.size U u1:=b.mono bX.size;have hB:=zh bX.size;have HGB:Hid (∀V,Below W.heap.size U V→Below w.heap.size w V):=zh (fun V hV=>Below.more BW (bX.trans hV));clear q0 q1 q2 q3 q4 q5 q6 q7 q8 q9 q10 hX b CM bX BW;go_wp2_with fail;refine wp_region_noPanic ?_;refine wp_region_held_drew (S:=fun w'=>Below W.heap.size U w') (by kernel_rfl) (c1.drew) (fun hH0=>?_);have hX0:=hX1.drew;refine wpAnyH_take (i:=0) (v:=?_) rfl (by kernel_rfl) (by kernel_rfl) (by kernel_rfl) (fun _ _ _ h=>h) (Or.inl ⟨by rfl,?_⟩) (by assumption) ?_;rotate_left 1
 ·(intro w hSw;(try dsimp only at hSw);go_simp<;>(with_reducible rfl))
 try simp only[Act.put,qA,qB,qC,qD,qE,qF]
 refine wpAnyH_take (i:=1) (v:=?_) rfl (by kernel_rfl) (by kernel_rfl) (by kernel_rfl) (fun _ _ _ h=>h) (Or.inl ⟨by rfl,?_⟩) (by assumption) ?_;rotate_left 1
 ·(intro w hSw;(try dsimp only at hSw);go_simp<;>(with_reducible rfl))
 try simp only[Act.put,qA,qB,qC,qD,qE,qF]
 refine wpAnyH_take (i:=2) (v:=?_) rfl (by kernel_rfl) (by kernel_rfl) (by kernel_rfl) (fun _ _ _ h=>h) (Or.inl ⟨by rfl,?_⟩) (by assumption) ?_;rotate_left 1
 ·(intro w hSw;(try dsimp only at hSw);go_simp<;>(with_reducible rfl))
 try simp only[Act.put,qA,qB,qC,qD,qE,qF]
 refine wpAnyH_take (i:=3) (v:=?_) rfl (by kernel_rfl) (by kernel_rfl) (by kernel_rfl) (fun _ _ _ h=>h) (Or.inl ⟨by rfl,?_⟩) (by assumption) ?_;rotate_left 1
 ·(intro w hSw;(try dsimp only at hSw);go_simp<;>(with_reducible rfl))
 try simp only[Act.put,qA,qB,qC,qD,qE,qF]
 refine wpAnyH_take (i:=5) (v:=?_) rfl (by kernel_rfl) (by kernel_rfl) (by kernel_rfl) (fun _ _ _ h=>h) (Or.inl ⟨by rfl,?_⟩) (by assumption) ?_;rotate_left 1
 ·(intro w hSw;(try dsimp only at hSw);go_simp<;>(with_reducible rfl))
 try simp only[Act.put,qA,qB,qC,qD,qE,qF]
 refine wpAnyH_take (i:=6) (v:=?_) rfl (by kernel_rfl) (by kernel_rfl) (by kernel_rfl) (fun _ _ _ h=>h) (Or.inl ⟨by rfl,?_⟩) (by assumption) ?_;rotate_left 1
 ·(intro w hSw;(try dsimp only at hSw);go_simp<;>(with_reducible rfl))
 try simp only[Act.put,qA,qB,qC,qD,qE,qF]
 refine wpAnyH_ready (rs:=[4]) (by kernel_rfl) (by simp) ?_;refine AllReadyH.cons rfl (fun K hK=>?_) AllReadyH.nil
 go_simp
 refine(held (W:=U) hB.out (CO.out _ (HGB.out _ (by assumption))) (by assumption)).mono ?_;rintro e x1 ⟨rfl,hb,hw⟩;have hX1:=hX0.below hb
 (try go_wp2_with fail)
 refine hK.out _ _ hw (fun hH1=>?_);clear hK hH0 hX0 hb hw
 try simp only[Act.put,qA,qB,qC,qD,qE,qF]
 refine wpAnyH_ready (rs:=[7]) (by kernel_rfl) (by simp) ?_;refine AllReadyH.cons rfl (fun K hK=>?_) AllReadyH.nil
 go_simp
 refine(held (W:=U) hB.out (CA.out _) (by assumption)).mono ?_;rintro e x2 ⟨rfl,hb,hw⟩;have hX2:=hX1.below hb
 (try go_wp2_with fail)
 refine hK.out _ _ hw (fun hH2=>?_);clear hK hH1 hX1 hb hw
 try simp only[Act.put,qA,qB,qC,qD,qE,qF]
 refine wpAnyH_ready (rs:=[8]) (by kernel_rfl) (by simp) ?_;refine AllReadyH.cons rfl (fun K hK=>?_) AllReadyH.nil
 go_simp
 refine(held (W:=U) hB.out (CP.out ast an ad _) (by assumption)).mono ?_;rintro e x3 ⟨rfl,hb,hw⟩;have hX3:=hX2.below hb
 (try go_wp2_with fail)
 refine hK.out _ _ hw (fun hH3=>?_);clear hK hH2 hX2 hb hw
 try simp only[Act.put,qA,qB,qC,qD,qE,qF]
 refine wpAnyH_ready (rs:=[9]) (by kernel_rfl) (by simp) ?_;refine AllReadyH.cons rfl (fun K hK=>?_) AllReadyH.nil
 go_simp
 have hO:=ownG_lit (enc:=encPt) (k:=3) (fun _=>rfl) x3 [(ast,(an,ad))] #[.string ⟨ast.toArray⟩,.string ⟨an.toArray⟩,.string ⟨ad.toArray⟩] 45 rfl (by simp) (Nat.le_refl _);have bb:Below x3.heap.size x3 (x3.alloc (.cells #[.string ⟨ast.toArray⟩,.string ⟨an.toArray⟩,.string ⟨ad.toArray⟩] 45)):=Below.alloc (Below.refl _ _) (Nat.le_refl _) _;obtain⟨x4,hU⟩:∃V,x3.alloc (.cells #[.string ⟨ast.toArray⟩,.string ⟨an.toArray⟩,.string ⟨ad.toArray⟩] 45)=V:=⟨_,rfl⟩;rw[hU]at hO bb ⊢;clear hU;have hle:=hH3.size;have hw:Below W.heap.size U x4:=hH3.trans (bb.mono (Nat.le_trans hB.out hle));have hX4:=hX3.below bb;refine hK.out _ _ hw (fun hH4=>?_);clear hK hw
 try simp only[Act.put,qA,qB,qC,qD,qE,qF]
 refine wpAnyH_ready (rs:=[10]) (by kernel_rfl) (by simp) ?_;refine AllReadyH.cons rfl (fun K hK=>?_) AllReadyH.nil
 go_simp
 refine(lay_any cn cd _ _ _ bb.size hO (by simp)).mono ?_;rintro e x5 ⟨⟨p,c,m,rfl,hc,hp,hs,hL,hpb⟩,hb⟩;have HP:Hid (∀a,p=some a→a.block≠w.heap.size+1):=zh (fun a e=>Nat.ne_of_gt (Nat.lt_of_lt_of_le HXU.out (Nat.le_trans hle (hpb a e).1)));have hX5:=hX3.below (bb.trans hb);have hw:Below W.heap.size U x5:=hH3.trans ((bb.trans hb).mono (Nat.le_trans hB.out hle))
 (try go_wp2_with fail)
 refine hK.out _ _ hw (fun hH5=>?_);clear hK hH4 hH3 hX4 hX3 hb hw hO bb hle hpb
 try simp only[Act.put,qA,qB,qC,qD,qE,qF]
 have HE2:Hid (ofP ⟨nm,1,ast,oth,(rn,rd),(cn,cd),ex,rc,pay⟩=⟨m,(cn,cd)⟩):=zh (by rw[HE.out,List.perm_singleton.1 hp]);clear hp hs;have y0:=hX5.c 0 _ rfl;have y1:=hX5.c 1 _ rfl;have y2:=hX5.c 2 _ rfl
 have z0:=hX5.f 0 (by simp);have z1:=hX5.f 1 (by simp);have z2:=hX5.f 2 (by simp)
 refine wpAnyH_ready (rs:=[11]) (by kernel_rfl) (by simp) ?_;refine AllReadyH.cons rfl (fun K hK=>?_) AllReadyH.nil
 go_simp
 refine hK.out _ _ (Below.setCell (Below.setCell (Below.setCell (hH5) (hle3) _) (hle3) _) (hle3) _) (fun hH6=>?_);clear hK hH6
 try simp only[Act.put,qA,qB,qC,qD,qE,qF]
 refine wpAnyH_done (by kernel_rfl) ?_ _;refine NoPanic.normal ?_;go_wp2_with fail;have HL:=zh hL;have HC:=zh hc
 clear hL hc;refine bodyPost_ret (v:=.agg #[.slice p m.length c,.string ⟨cn.toArray⟩,.string ⟨cd.toArray⟩]) (by simp[results,Tryz.results15,go_sem, *]) rfl ⟨⟨p,c,by rw[HE2.out],by rw[HE2.out];exact HC.out,by rw[HE2.out];exact pts_put HL.out HP.out _ _ _⟩,?_⟩;exact Below.setCell (Below.setCell (Below.setCell (HGB.out _ hH5) (hle2) _) (hle2) _) (hle2) _
theorem of_2(nm ast oth rn rd cn cd:List UInt8)(ex rc pay:Int)(w:World)(hg:GoodA w)(hm:Ac.mayA ⟨nm,2,ast,oth,(rn,rd),(cn,cd),ex,rc,pay⟩=true):Calls Tryz.prog 15 #[.agg #[.string ⟨nm.toArray⟩,.int .i64 2,.string ⟨ast.toArray⟩,.string ⟨oth.toArray⟩,.string ⟨rn.toArray⟩,.string ⟨rd.toArray⟩,.string ⟨cn.toArray⟩,.string ⟨cd.toArray⟩,.int .i64 ex,.int .i64 rc,.int .i64 pay]] w (GivePk w (ofP ⟨nm,2,ast,oth,(rn,rd),(cn,cd),ex,rc,pay⟩)):=by
 have CK:=zh (fun V (hV:Below w.heap.size w V)=>kept_any ast V (hg.tab.below hV));have HE:Hid (ofP ⟨nm,2,ast,oth,(rn,rd),(cn,cd),ex,rc,pay⟩=⟨[(ast,([49],[49]))],(cn,cd)⟩):=zh (by unfold ofP;rw[if_pos hm];rfl);have CM:=zh (fun V (hV:Below w.heap.size w V)=>amay_any ⟨nm,2,ast,oth,(rn,rd),(cn,cd),ex,rc,pay⟩ V (hg.below hV));rw[hm]at CM;clear hm;go_enter Tryz.func15,Tryz.ntmps15;go_wp2_with fail;obtain⟨W,hW,BW,sW,kk⟩:=layN (Below.refl w.heap.size w) #[.string ⟨nm.toArray⟩,.int .i64 2,.string ⟨ast.toArray⟩,.string ⟨oth.toArray⟩,.string ⟨rn.toArray⟩,.string ⟨rd.toArray⟩,.string ⟨cn.toArray⟩,.string ⟨cd.toArray⟩,.int .i64 ex,.int .i64 rc,.int .i64 pay] 25;rw[hW];clear hW;have hX:=blk_new W #[.slice none 0 0,.string ⟨#[]⟩,.string ⟨#[]⟩] 28;have bX:Below W.heap.size W (W.alloc (.cells #[.slice none 0 0,.string ⟨#[]⟩,.string ⟨#[]⟩] 28)):=Below.alloc (Below.refl _ _) (Nat.le_refl _) _;have hXU:W.heap.size<(W.alloc (.cells #[.slice none 0 0,.string ⟨#[]⟩,.string ⟨#[]⟩] 28)).heap.size:=by simp
 obtain⟨U,hU⟩:∃U,W.alloc (.cells #[.slice none 0 0,.string ⟨#[]⟩,.string ⟨#[]⟩] 28)=U:=⟨_,rfl⟩;rw[hU]at hX bX hXU ⊢;clear hU;rw[←sW]at hX;have HXU:Hid (w.heap.size+1<U.heap.size):=zh (by omega);have hle2:w.heap.size≤w.heap.size+1:=by omega
 have hle3:W.heap.size≤w.heap.size+1:=by omega
 have p0:∀v,Below W.heap.size U v→_:=fun v hv=>kk 0 _ rfl v (bX.trans hv);have p1:∀v,Below W.heap.size U v→_:=fun v hv=>kk 1 _ rfl v (bX.trans hv);have p2:∀v,Below W.heap.size U v→_:=fun v hv=>kk 2 _ rfl v (bX.trans hv);have p3:∀v,Below W.heap.size U v→_:=fun v hv=>kk 3 _ rfl v (bX.trans hv);have p4:∀v,Below W.heap.size U v→_:=fun v hv=>kk 4 _ rfl v (bX.trans hv);have p5:∀v,Below W.heap.size U v→_:=fun v hv=>kk 5 _ rfl v (bX.trans hv);have p6:∀v,Below W.heap.size U v→_:=fun v hv=>kk 6 _ rfl v (bX.trans hv);have p7:∀v,Below W.heap.size U v→_:=fun v hv=>kk 7 _ rfl v (bX.trans hv);have p8:∀v,Below W.heap.size U v→_:=fun v hv=>kk 8 _ rfl v (bX.trans hv);have p9:∀v,Below W.heap.size U v→_:=fun v hv=>kk 9 _ rfl v (bX.trans hv);have p10:∀v,Below W.heap.size U v→_:=fun v hv=>kk 10 _ rfl v (bX.trans hv)
 clear kk hXU sW;have q0:=p0 U (Below.refl _ _);have q1:=p1 U (Below.refl _ _);have q2:=p2 U (Below.refl _ _);have q3:=p3 U (Below.refl _ _);have q4:=p4 U (Below.refl _ _);have q5:=p5 U (Below.refl _ _);have q6:=p6 U (Below.refl _ _);have q7:=p7 U (Below.refl _ _);have q8:=p8 U (Below.refl _ _);have q9:=p9 U (Below.refl _ _);have q10:=p10 U (Below.refl _ _)
 go_wp2_with fail;refine(CM.out _ (Below.more BW bX)).mono ?_;rintro e1 u1 ⟨rfl,b⟩;have hX1:=hX.below b;have c1:Below W.heap.size U u1:=b.mono bX.size;have hB:=zh bX.size;have HGB:Hid (∀V,Below W.heap.size U V→Below w.heap.size w V):=zh (fun V hV=>Below.more BW (bX.trans hV));clear q0 q1 q2 q3 q4 q5 q6 q7 q8 q9 q10 hX b CM bX BW;go_wp2_with fail;refine wp_region_noPanic ?_;refine wp_region_held_drew (S:=fun w'=>Below W.heap.size U w') (by kernel_rfl) (c1.drew) (fun hH0=>?_);have hX0:=hX1.drew;refine wpAnyH_take (i:=0) (v:=?_) rfl (by kernel_rfl) (by kernel_rfl) (by kernel_rfl) (fun _ _ _ h=>h) (Or.inl ⟨by rfl,?_⟩) (by assumption) ?_;rotate_left 1
 ·(intro w hSw;(try dsimp only at hSw);go_simp<;>(with_reducible rfl))
 try simp only[Act.put,qA,qB,qC,qD,qE,qF]
 refine wpAnyH_take (i:=1) (v:=?_) rfl (by kernel_rfl) (by kernel_rfl) (by kernel_rfl) (fun _ _ _ h=>h) (Or.inl ⟨by rfl,?_⟩) (by assumption) ?_;rotate_left 1
 ·(intro w hSw;(try dsimp only at hSw);go_simp<;>(with_reducible rfl))
 try simp only[Act.put,qA,qB,qC,qD,qE,qF]
 refine wpAnyH_take (i:=2) (v:=?_) rfl (by kernel_rfl) (by kernel_rfl) (by kernel_rfl) (fun _ _ _ h=>h) (Or.inl ⟨by rfl,?_⟩) (by assumption) ?_;rotate_left 1
 ·(intro w hSw;(try dsimp only at hSw);go_simp<;>(with_reducible rfl))
 try simp only[Act.put,qA,qB,qC,qD,qE,qF]
 refine wpAnyH_take (i:=3) (v:=?_) rfl (by kernel_rfl) (by kernel_rfl) (by kernel_rfl) (fun _ _ _ h=>h) (Or.inl ⟨by rfl,?_⟩) (by assumption) ?_;rotate_left 1
 ·(intro w hSw;(try dsimp only at hSw);go_simp<;>(with_reducible rfl))
 try simp only[Act.put,qA,qB,qC,qD,qE,qF]
 refine wpAnyH_ready (rs:=[4]) (by kernel_rfl) (by simp) ?_;refine AllReadyH.cons rfl (fun K hK=>?_) AllReadyH.nil
 go_simp
 refine(held (W:=U) hB.out (CK.out _ (HGB.out _ (by assumption))) (by assumption)).mono ?_;rintro e x1 ⟨rfl,hb,hw⟩;have hX1:=hX0.below hb
 (try go_wp2_with fail)
 refine hK.out _ _ hw (fun hH1=>?_);clear hK hH0 hX0 hb hw
 try simp only[Act.put,qA,qB,qC,qD,qE,qF]
 refine wpAnyH_ready (rs:=[5]) (by kernel_rfl) (by simp) ?_;refine AllReadyH.cons rfl (fun K hK=>?_) AllReadyH.nil
 go_simp
 have hO:=ownG_lit (enc:=encPt) (k:=3) (fun _=>rfl) x1 [(ast,([49],[49]))] #[.string ⟨ast.toArray⟩,.string ⟨[49].toArray⟩,.string ⟨[49].toArray⟩] 45 rfl (by simp) (Nat.le_refl _);have bb:Below x1.heap.size x1 (x1.alloc (.cells #[.string ⟨ast.toArray⟩,.string ⟨[49].toArray⟩,.string ⟨[49].toArray⟩] 45)):=Below.alloc (Below.refl _ _) (Nat.le_refl _) _;obtain⟨x2,hU⟩:∃V,x1.alloc (.cells #[.string ⟨ast.toArray⟩,.string ⟨[49].toArray⟩,.string ⟨[49].toArray⟩] 45)=V:=⟨_,rfl⟩;rw[hU]at hO bb ⊢;clear hU;have hle:=hH1.size;have hw:Below W.heap.size U x2:=hH1.trans (bb.mono (Nat.le_trans hB.out hle));have hX2:=hX1.below bb;refine hK.out _ _ hw (fun hH2=>?_);clear hK hw
 try simp only[Act.put,qA,qB,qC,qD,qE,qF]
 refine wpAnyH_ready (rs:=[6]) (by kernel_rfl) (by simp) ?_;refine AllReadyH.cons rfl (fun K hK=>?_) AllReadyH.nil
 go_simp
 refine(lay_any cn cd _ _ _ bb.size hO (by simp)).mono ?_;rintro e x3 ⟨⟨p,c,m,rfl,hc,hp,hs,hL,hpb⟩,hb⟩;have HP:Hid (∀a,p=some a→a.block≠w.heap.size+1):=zh (fun a e=>Nat.ne_of_gt (Nat.lt_of_lt_of_le HXU.out (Nat.le_trans hle (hpb a e).1)));have hX3:=hX1.below (bb.trans hb);have hw:Below W.heap.size U x3:=hH1.trans ((bb.trans hb).mono (Nat.le_trans hB.out hle))
 (try go_wp2_with fail)
 refine hK.out _ _ hw (fun hH3=>?_);clear hK hH2 hH1 hX2 hX1 hb hw hO bb hle hpb
 try simp only[Act.put,qA,qB,qC,qD,qE,qF]
 have HE2:Hid (ofP ⟨nm,2,ast,oth,(rn,rd),(cn,cd),ex,rc,pay⟩=⟨m,(cn,cd)⟩):=zh (by rw[HE.out,List.perm_singleton.1 hp]);clear hp hs;have y0:=hX3.c 0 _ rfl;have y1:=hX3.c 1 _ rfl;have y2:=hX3.c 2 _ rfl
 have z0:=hX3.f 0 (by simp);have z1:=hX3.f 1 (by simp);have z2:=hX3.f 2 (by simp)
 refine wpAnyH_ready (rs:=[7]) (by kernel_rfl) (by simp) ?_;refine AllReadyH.cons rfl (fun K hK=>?_) AllReadyH.nil
 go_simp
 refine hK.out _ _ (Below.setCell (Below.setCell (Below.setCell (hH3) (hle3) _) (hle3) _) (hle3) _) (fun hH4=>?_);clear hK hH4
 try simp only[Act.put,qA,qB,qC,qD,qE,qF]
 refine wpAnyH_done (by kernel_rfl) ?_ _;refine NoPanic.normal ?_;go_wp2_with fail;have HL:=zh hL;have HC:=zh hc
 clear hL hc;refine bodyPost_ret (v:=.agg #[.slice p m.length c,.string ⟨cn.toArray⟩,.string ⟨cd.toArray⟩]) (by simp[results,Tryz.results15,go_sem, *]) rfl ⟨⟨p,c,by rw[HE2.out],by rw[HE2.out];exact HC.out,by rw[HE2.out];exact pts_put HL.out HP.out _ _ _⟩,?_⟩;exact Below.setCell (Below.setCell (Below.setCell (HGB.out _ hH3) (hle2) _) (hle2) _) (hle2) _
theorem of_3(nm ast oth rn rd cn cd:List UInt8)(ex rc pay:Int)(w:World)(hg:GoodA w)(hm:Ac.mayA ⟨nm,3,ast,oth,(rn,rd),(cn,cd),ex,rc,pay⟩=true):Calls Tryz.prog 15 #[.agg #[.string ⟨nm.toArray⟩,.int .i64 3,.string ⟨ast.toArray⟩,.string ⟨oth.toArray⟩,.string ⟨rn.toArray⟩,.string ⟨rd.toArray⟩,.string ⟨cn.toArray⟩,.string ⟨cd.toArray⟩,.int .i64 ex,.int .i64 rc,.int .i64 pay]] w (GivePk w (ofP ⟨nm,3,ast,oth,(rn,rd),(cn,cd),ex,rc,pay⟩)):=by
 have CP:=zh (fun a n e V=>part_any a n e V);have CK:=zh (fun V (hV:Below w.heap.size w V)=>kept_any ast V (hg.tab.below hV));have HE:Hid (ofP ⟨nm,3,ast,oth,(rn,rd),(cn,cd),ex,rc,pay⟩=⟨if Op.bytesLess ast oth then [(ast,([49],[49])),(oth,(rn,rd))] else [(oth,(rn,rd)),(ast,([49],[49]))],(cn,cd)⟩):=zh (by
  unfold ofP;rw[if_pos hm];show (if Op.bytesLess ast oth=true then (⟨[(ast,([49],[49])),(oth,(rn,rd))],(cn,cd)⟩:Pack) else ⟨[(oth,(rn,rd)),(ast,([49],[49]))],(cn,cd)⟩)=_;split<;>rfl)
 have HM:Hid (∀m:List Part,m.Perm [(ast,([49],[49])),(oth,(rn,rd))]→m.Pairwise (fun x y=>lessT y x=false)→m=(if Op.bytesLess ast oth then [(ast,([49],[49])),(oth,(rn,rd))] else [(oth,(rn,rd)),(ast,([49],[49]))])):=zh (fun m hp hs=>by
  have ho:=(Pk.may_parts hm).2.2.2.1;rw[if_pos (show Ac.oB (3:Int)=true from rfl)]at ho;simp only[Bool.and_eq_true,Bool.not_eq_true',beq_eq_false_iff_ne]at ho;rcases less_cases ast oth with h|h|h
  ·rw[if_pos h];exact sort_two hp hs h
  ·exact absurd h.symm ho.2
  ·have h2:¬Op.bytesLess ast oth=true:=fun e=>by have:=less_trans e h;rw[less_irrefl]at this;cases this
   rw[if_neg h2];exact sort_two (hp.trans (List.Perm.swap _ _ _)) hs h)
 have CM:=zh (fun V (hV:Below w.heap.size w V)=>amay_any ⟨nm,3,ast,oth,(rn,rd),(cn,cd),ex,rc,pay⟩ V (hg.below hV));rw[hm]at CM;clear hm;go_enter Tryz.func15,Tryz.ntmps15;go_wp2_with fail;obtain⟨W,hW,BW,sW,kk⟩:=layN (Below.refl w.heap.size w) #[.string ⟨nm.toArray⟩,.int .i64 3,.string ⟨ast.toArray⟩,.string ⟨oth.toArray⟩,.string ⟨rn.toArray⟩,.string ⟨rd.toArray⟩,.string ⟨cn.toArray⟩,.string ⟨cd.toArray⟩,.int .i64 ex,.int .i64 rc,.int .i64 pay] 25;rw[hW];clear hW;have hX:=blk_new W #[.slice none 0 0,.string ⟨#[]⟩,.string ⟨#[]⟩] 28;have bX:Below W.heap.size W (W.alloc (.cells #[.slice none 0 0,.string ⟨#[]⟩,.string ⟨#[]⟩] 28)):=Below.alloc (Below.refl _ _) (Nat.le_refl _) _;have hXU:W.heap.size<(W.alloc (.cells #[.slice none 0 0,.string ⟨#[]⟩,.string ⟨#[]⟩] 28)).heap.size:=by simp
 obtain⟨U,hU⟩:∃U,W.alloc (.cells #[.slice none 0 0,.string ⟨#[]⟩,.string ⟨#[]⟩] 28)=U:=⟨_,rfl⟩;rw[hU]at hX bX hXU ⊢;clear hU;rw[←sW]at hX;have HXU:Hid (w.heap.size+1<U.heap.size):=zh (by omega);have hle2:w.heap.size≤w.heap.size+1:=by omega
 have hle3:W.heap.size≤w.heap.size+1:=by omega
 have p0:∀v,Below W.heap.size U v→_:=fun v hv=>kk 0 _ rfl v (bX.trans hv);have p1:∀v,Below W.heap.size U v→_:=fun v hv=>kk 1 _ rfl v (bX.trans hv);have p2:∀v,Below W.heap.size U v→_:=fun v hv=>kk 2 _ rfl v (bX.trans hv);have p3:∀v,Below W.heap.size U v→_:=fun v hv=>kk 3 _ rfl v (bX.trans hv);have p4:∀v,Below W.heap.size U v→_:=fun v hv=>kk 4 _ rfl v (bX.trans hv);have p5:∀v,Below W.heap.size U v→_:=fun v hv=>kk 5 _ rfl v (bX.trans hv);have p6:∀v,Below W.heap.size U v→_:=fun v hv=>kk 6 _ rfl v (bX.trans hv);have p7:∀v,Below W.heap.size U v→_:=fun v hv=>kk 7 _ rfl v (bX.trans hv);have p8:∀v,Below W.heap.size U v→_:=fun v hv=>kk 8 _ rfl v (bX.trans hv);have p9:∀v,Below W.heap.size U v→_:=fun v hv=>kk 9 _ rfl v (bX.trans hv);have p10:∀v,Below W.heap.size U v→_:=fun v hv=>kk 10 _ rfl v (bX.trans hv)
 clear kk hXU sW;have q0:=p0 U (Below.refl _ _);have q1:=p1 U (Below.refl _ _);have q2:=p2 U (Below.refl _ _);have q3:=p3 U (Below.refl _ _);have q4:=p4 U (Below.refl _ _);have q5:=p5 U (Below.refl _ _);have q6:=p6 U (Below.refl _ _);have q7:=p7 U (Below.refl _ _);have q8:=p8 U (Below.refl _ _);have q9:=p9 U (Below.refl _ _);have q10:=p10 U (Below.refl _ _)
 go_wp2_with fail;refine(CM.out _ (Below.more BW bX)).mono ?_;rintro e1 u1 ⟨rfl,b⟩;have hX1:=hX.below b;have c1:Below W.heap.size U u1:=b.mono bX.size;have hB:=zh bX.size;have HGB:Hid (∀V,Below W.heap.size U V→Below w.heap.size w V):=zh (fun V hV=>Below.more BW (bX.trans hV));clear q0 q1 q2 q3 q4 q5 q6 q7 q8 q9 q10 hX b CM bX BW;go_wp2_with fail;refine wp_region_noPanic ?_;refine wp_region_held_drew (S:=fun w'=>Below W.heap.size U w') (by kernel_rfl) (c1.drew) (fun hH0=>?_);have hX0:=hX1.drew;refine wpAnyH_take (i:=0) (v:=?_) rfl (by kernel_rfl) (by kernel_rfl) (by kernel_rfl) (fun _ _ _ h=>h) (Or.inl ⟨by rfl,?_⟩) (by assumption) ?_;rotate_left 1
 ·(intro w hSw;(try dsimp only at hSw);go_simp<;>(with_reducible rfl))
 try simp only[Act.put,qA,qB,qC,qD,qE,qF]
 refine wpAnyH_take (i:=1) (v:=?_) rfl (by kernel_rfl) (by kernel_rfl) (by kernel_rfl) (fun _ _ _ h=>h) (Or.inl ⟨by rfl,?_⟩) (by assumption) ?_;rotate_left 1
 ·(intro w hSw;(try dsimp only at hSw);go_simp<;>(with_reducible rfl))
 try simp only[Act.put,qA,qB,qC,qD,qE,qF]
 refine wpAnyH_take (i:=2) (v:=?_) rfl (by kernel_rfl) (by kernel_rfl) (by kernel_rfl) (fun _ _ _ h=>h) (Or.inl ⟨by rfl,?_⟩) (by assumption) ?_;rotate_left 1
 ·(intro w hSw;(try dsimp only at hSw);go_simp<;>(with_reducible rfl))
 try simp only[Act.put,qA,qB,qC,qD,qE,qF]
 refine wpAnyH_take (i:=3) (v:=?_) rfl (by kernel_rfl) (by kernel_rfl) (by kernel_rfl) (fun _ _ _ h=>h) (Or.inl ⟨by rfl,?_⟩) (by assumption) ?_;rotate_left 1
 ·(intro w hSw;(try dsimp only at hSw);go_simp<;>(with_reducible rfl))
 try simp only[Act.put,qA,qB,qC,qD,qE,qF]
 refine wpAnyH_take (i:=5) (v:=?_) rfl (by kernel_rfl) (by kernel_rfl) (by kernel_rfl) (fun _ _ _ h=>h) (Or.inl ⟨by rfl,?_⟩) (by assumption) ?_;rotate_left 1
 ·(intro w hSw;(try dsimp only at hSw);go_simp<;>(with_reducible rfl))
 try simp only[Act.put,qA,qB,qC,qD,qE,qF]
 refine wpAnyH_take (i:=6) (v:=?_) rfl (by kernel_rfl) (by kernel_rfl) (by kernel_rfl) (fun _ _ _ h=>h) (Or.inl ⟨by rfl,?_⟩) (by assumption) ?_;rotate_left 1
 ·(intro w hSw;(try dsimp only at hSw);go_simp<;>(with_reducible rfl))
 try simp only[Act.put,qA,qB,qC,qD,qE,qF]
 refine wpAnyH_take (i:=7) (v:=?_) rfl (by kernel_rfl) (by kernel_rfl) (by kernel_rfl) (fun _ _ _ h=>h) (Or.inl ⟨by rfl,?_⟩) (by assumption) ?_;rotate_left 1
 ·(intro w hSw;(try dsimp only at hSw);go_simp<;>(with_reducible rfl))
 try simp only[Act.put,qA,qB,qC,qD,qE,qF]
 refine wpAnyH_take (i:=8) (v:=?_) rfl (by kernel_rfl) (by kernel_rfl) (by kernel_rfl) (fun _ _ _ h=>h) (Or.inl ⟨by rfl,?_⟩) (by assumption) ?_;rotate_left 1
 ·(intro w hSw;(try dsimp only at hSw);go_simp<;>(with_reducible rfl))
 try simp only[Act.put,qA,qB,qC,qD,qE,qF]
 refine wpAnyH_ready (rs:=[4]) (by kernel_rfl) (by simp) ?_;refine AllReadyH.cons rfl (fun K hK=>?_) AllReadyH.nil
 go_simp
 refine(held (W:=U) hB.out (CK.out _ (HGB.out _ (by assumption))) (by assumption)).mono ?_;rintro e x1 ⟨rfl,hb,hw⟩;have hX1:=hX0.below hb
 (try go_wp2_with fail)
 refine hK.out _ _ hw (fun hH1=>?_);clear hK hH0 hX0 hb hw
 try simp only[Act.put,qA,qB,qC,qD,qE,qF]
 refine wpAnyH_ready (rs:=[9]) (by kernel_rfl) (by simp) ?_;refine AllReadyH.cons rfl (fun K hK=>?_) AllReadyH.nil
 go_simp
 refine(held (W:=U) hB.out (CP.out oth rn rd _) (by assumption)).mono ?_;rintro e x2 ⟨rfl,hb,hw⟩;have hX2:=hX1.below hb
 (try go_wp2_with fail)
 refine hK.out _ _ hw (fun hH2=>?_);clear hK hH1 hX1 hb hw
 try simp only[Act.put,qA,qB,qC,qD,qE,qF]
 refine wpAnyH_ready (rs:=[10]) (by kernel_rfl) (by simp) ?_;refine AllReadyH.cons rfl (fun K hK=>?_) AllReadyH.nil
 go_simp
 have hO:=ownG_lit (enc:=encPt) (k:=3) (fun _=>rfl) x2 [(ast,([49],[49])),(oth,(rn,rd))] #[.string ⟨ast.toArray⟩,.string ⟨[49].toArray⟩,.string ⟨[49].toArray⟩,.string ⟨oth.toArray⟩,.string ⟨rn.toArray⟩,.string ⟨rd.toArray⟩] 45 rfl (by simp) (Nat.le_refl _);have bb:Below x2.heap.size x2 (x2.alloc (.cells #[.string ⟨ast.toArray⟩,.string ⟨[49].toArray⟩,.string ⟨[49].toArray⟩,.string ⟨oth.toArray⟩,.string ⟨rn.toArray⟩,.string ⟨rd.toArray⟩] 45)):=Below.alloc (Below.refl _ _) (Nat.le_refl _) _;obtain⟨x3,hU⟩:∃V,x2.alloc (.cells #[.string ⟨ast.toArray⟩,.string ⟨[49].toArray⟩,.string ⟨[49].toArray⟩,.string ⟨oth.toArray⟩,.string ⟨rn.toArray⟩,.string ⟨rd.toArray⟩] 45)=V:=⟨_,rfl⟩;rw[hU]at hO bb ⊢;clear hU;have hle:=hH2.size;have hw:Below W.heap.size U x3:=hH2.trans (bb.mono (Nat.le_trans hB.out hle));have hX3:=hX2.below bb;refine hK.out _ _ hw (fun hH3=>?_);clear hK hw
 try simp only[Act.put,qA,qB,qC,qD,qE,qF]
 refine wpAnyH_ready (rs:=[11]) (by kernel_rfl) (by simp) ?_;refine AllReadyH.cons rfl (fun K hK=>?_) AllReadyH.nil
 go_simp
 refine(lay_any cn cd _ _ _ bb.size hO (by simp)).mono ?_;rintro e x4 ⟨⟨p,c,m,rfl,hc,hp,hs,hL,hpb⟩,hb⟩;have HP:Hid (∀a,p=some a→a.block≠w.heap.size+1):=zh (fun a e=>Nat.ne_of_gt (Nat.lt_of_lt_of_le HXU.out (Nat.le_trans hle (hpb a e).1)));have hX4:=hX2.below (bb.trans hb);have hw:Below W.heap.size U x4:=hH2.trans ((bb.trans hb).mono (Nat.le_trans hB.out hle))
 (try go_wp2_with fail)
 refine hK.out _ _ hw (fun hH4=>?_);clear hK hH3 hH2 hX3 hX2 hb hw hO bb hle hpb
 try simp only[Act.put,qA,qB,qC,qD,qE,qF]
 have HE2:Hid (ofP ⟨nm,3,ast,oth,(rn,rd),(cn,cd),ex,rc,pay⟩=⟨m,(cn,cd)⟩):=zh (by rw[HE.out,HM.out m hp hs]);clear hp hs;have y0:=hX4.c 0 _ rfl;have y1:=hX4.c 1 _ rfl;have y2:=hX4.c 2 _ rfl
 have z0:=hX4.f 0 (by simp);have z1:=hX4.f 1 (by simp);have z2:=hX4.f 2 (by simp)
 refine wpAnyH_ready (rs:=[12]) (by kernel_rfl) (by simp) ?_;refine AllReadyH.cons rfl (fun K hK=>?_) AllReadyH.nil
 go_simp
 refine hK.out _ _ (Below.setCell (Below.setCell (Below.setCell (hH4) (hle3) _) (hle3) _) (hle3) _) (fun hH5=>?_);clear hK hH5
 try simp only[Act.put,qA,qB,qC,qD,qE,qF]
 refine wpAnyH_done (by kernel_rfl) ?_ _;refine NoPanic.normal ?_;go_wp2_with fail;have HL:=zh hL;have HC:=zh hc
 clear hL hc;refine bodyPost_ret (v:=.agg #[.slice p m.length c,.string ⟨cn.toArray⟩,.string ⟨cd.toArray⟩]) (by simp[results,Tryz.results15,go_sem, *]) rfl ⟨⟨p,c,by rw[HE2.out],by rw[HE2.out];exact HC.out,by rw[HE2.out];exact pts_put HL.out HP.out _ _ _⟩,?_⟩;exact Below.setCell (Below.setCell (Below.setCell (HGB.out _ hH4) (hle2) _) (hle2) _) (hle2) _
theorem of_4(nm ast oth rn rd cn cd:List UInt8)(ex rc pay:Int)(w:World)(hg:GoodA w)(hm:Ac.mayA ⟨nm,4,ast,oth,(rn,rd),(cn,cd),ex,rc,pay⟩=true):Calls Tryz.prog 15 #[.agg #[.string ⟨nm.toArray⟩,.int .i64 4,.string ⟨ast.toArray⟩,.string ⟨oth.toArray⟩,.string ⟨rn.toArray⟩,.string ⟨rd.toArray⟩,.string ⟨cn.toArray⟩,.string ⟨cd.toArray⟩,.int .i64 ex,.int .i64 rc,.int .i64 pay]] w (GivePk w (ofP ⟨nm,4,ast,oth,(rn,rd),(cn,cd),ex,rc,pay⟩)):=by
 have CP:=zh (fun a n e V=>part_any a n e V);have HE:Hid (ofP ⟨nm,4,ast,oth,(rn,rd),(cn,cd),ex,rc,pay⟩=⟨[(oth,(rn,rd))],(cn,cd)⟩):=zh (by unfold ofP;rw[if_pos hm];rfl);have CM:=zh (fun V (hV:Below w.heap.size w V)=>amay_any ⟨nm,4,ast,oth,(rn,rd),(cn,cd),ex,rc,pay⟩ V (hg.below hV));rw[hm]at CM;clear hm;go_enter Tryz.func15,Tryz.ntmps15;go_wp2_with fail;obtain⟨W,hW,BW,sW,kk⟩:=layN (Below.refl w.heap.size w) #[.string ⟨nm.toArray⟩,.int .i64 4,.string ⟨ast.toArray⟩,.string ⟨oth.toArray⟩,.string ⟨rn.toArray⟩,.string ⟨rd.toArray⟩,.string ⟨cn.toArray⟩,.string ⟨cd.toArray⟩,.int .i64 ex,.int .i64 rc,.int .i64 pay] 25;rw[hW];clear hW;have hX:=blk_new W #[.slice none 0 0,.string ⟨#[]⟩,.string ⟨#[]⟩] 28;have bX:Below W.heap.size W (W.alloc (.cells #[.slice none 0 0,.string ⟨#[]⟩,.string ⟨#[]⟩] 28)):=Below.alloc (Below.refl _ _) (Nat.le_refl _) _;have hXU:W.heap.size<(W.alloc (.cells #[.slice none 0 0,.string ⟨#[]⟩,.string ⟨#[]⟩] 28)).heap.size:=by simp
 obtain⟨U,hU⟩:∃U,W.alloc (.cells #[.slice none 0 0,.string ⟨#[]⟩,.string ⟨#[]⟩] 28)=U:=⟨_,rfl⟩;rw[hU]at hX bX hXU ⊢;clear hU;rw[←sW]at hX;have HXU:Hid (w.heap.size+1<U.heap.size):=zh (by omega);have hle2:w.heap.size≤w.heap.size+1:=by omega
 have hle3:W.heap.size≤w.heap.size+1:=by omega
 have p0:∀v,Below W.heap.size U v→_:=fun v hv=>kk 0 _ rfl v (bX.trans hv);have p1:∀v,Below W.heap.size U v→_:=fun v hv=>kk 1 _ rfl v (bX.trans hv);have p2:∀v,Below W.heap.size U v→_:=fun v hv=>kk 2 _ rfl v (bX.trans hv);have p3:∀v,Below W.heap.size U v→_:=fun v hv=>kk 3 _ rfl v (bX.trans hv);have p4:∀v,Below W.heap.size U v→_:=fun v hv=>kk 4 _ rfl v (bX.trans hv);have p5:∀v,Below W.heap.size U v→_:=fun v hv=>kk 5 _ rfl v (bX.trans hv);have p6:∀v,Below W.heap.size U v→_:=fun v hv=>kk 6 _ rfl v (bX.trans hv);have p7:∀v,Below W.heap.size U v→_:=fun v hv=>kk 7 _ rfl v (bX.trans hv);have p8:∀v,Below W.heap.size U v→_:=fun v hv=>kk 8 _ rfl v (bX.trans hv);have p9:∀v,Below W.heap.size U v→_:=fun v hv=>kk 9 _ rfl v (bX.trans hv);have p10:∀v,Below W.heap.size U v→_:=fun v hv=>kk 10 _ rfl v (bX.trans hv)
 clear kk hXU sW;have q0:=p0 U (Below.refl _ _);have q1:=p1 U (Below.refl _ _);have q2:=p2 U (Below.refl _ _);have q3:=p3 U (Below.refl _ _);have q4:=p4 U (Below.refl _ _);have q5:=p5 U (Below.refl _ _);have q6:=p6 U (Below.refl _ _);have q7:=p7 U (Below.refl _ _);have q8:=p8 U (Below.refl _ _);have q9:=p9 U (Below.refl _ _);have q10:=p10 U (Below.refl _ _)
 go_wp2_with fail;refine(CM.out _ (Below.more BW bX)).mono ?_;rintro e1 u1 ⟨rfl,b⟩;have hX1:=hX.below b;have c1:Below W.heap.size U u1:=b.mono bX.size;have hB:=zh bX.size;have HGB:Hid (∀V,Below W.heap.size U V→Below w.heap.size w V):=zh (fun V hV=>Below.more BW (bX.trans hV));clear q0 q1 q2 q3 q4 q5 q6 q7 q8 q9 q10 hX b CM bX BW;go_wp2_with fail;refine wp_region_noPanic ?_;refine wp_region_held_drew (S:=fun w'=>Below W.heap.size U w') (by kernel_rfl) (c1.drew) (fun hH0=>?_);have hX0:=hX1.drew;refine wpAnyH_take (i:=0) (v:=?_) rfl (by kernel_rfl) (by kernel_rfl) (by kernel_rfl) (fun _ _ _ h=>h) (Or.inl ⟨by rfl,?_⟩) (by assumption) ?_;rotate_left 1
 ·(intro w hSw;(try dsimp only at hSw);go_simp<;>(with_reducible rfl))
 try simp only[Act.put,qA,qB,qC,qD,qE,qF]
 refine wpAnyH_take (i:=1) (v:=?_) rfl (by kernel_rfl) (by kernel_rfl) (by kernel_rfl) (fun _ _ _ h=>h) (Or.inl ⟨by rfl,?_⟩) (by assumption) ?_;rotate_left 1
 ·(intro w hSw;(try dsimp only at hSw);go_simp<;>(with_reducible rfl))
 try simp only[Act.put,qA,qB,qC,qD,qE,qF]
 refine wpAnyH_take (i:=2) (v:=?_) rfl (by kernel_rfl) (by kernel_rfl) (by kernel_rfl) (fun _ _ _ h=>h) (Or.inl ⟨by rfl,?_⟩) (by assumption) ?_;rotate_left 1
 ·(intro w hSw;(try dsimp only at hSw);go_simp<;>(with_reducible rfl))
 try simp only[Act.put,qA,qB,qC,qD,qE,qF]
 refine wpAnyH_take (i:=3) (v:=?_) rfl (by kernel_rfl) (by kernel_rfl) (by kernel_rfl) (fun _ _ _ h=>h) (Or.inl ⟨by rfl,?_⟩) (by assumption) ?_;rotate_left 1
 ·(intro w hSw;(try dsimp only at hSw);go_simp<;>(with_reducible rfl))
 try simp only[Act.put,qA,qB,qC,qD,qE,qF]
 refine wpAnyH_take (i:=4) (v:=?_) rfl (by kernel_rfl) (by kernel_rfl) (by kernel_rfl) (fun _ _ _ h=>h) (Or.inl ⟨by rfl,?_⟩) (by assumption) ?_;rotate_left 1
 ·(intro w hSw;(try dsimp only at hSw);go_simp<;>(with_reducible rfl))
 try simp only[Act.put,qA,qB,qC,qD,qE,qF]
 refine wpAnyH_take (i:=5) (v:=?_) rfl (by kernel_rfl) (by kernel_rfl) (by kernel_rfl) (fun _ _ _ h=>h) (Or.inl ⟨by rfl,?_⟩) (by assumption) ?_;rotate_left 1
 ·(intro w hSw;(try dsimp only at hSw);go_simp<;>(with_reducible rfl))
 try simp only[Act.put,qA,qB,qC,qD,qE,qF]
 refine wpAnyH_ready (rs:=[6]) (by kernel_rfl) (by simp) ?_;refine AllReadyH.cons rfl (fun K hK=>?_) AllReadyH.nil
 go_simp
 refine(held (W:=U) hB.out (CP.out oth rn rd _) (by assumption)).mono ?_;rintro e x1 ⟨rfl,hb,hw⟩;have hX1:=hX0.below hb
 (try go_wp2_with fail)
 refine hK.out _ _ hw (fun hH1=>?_);clear hK hH0 hX0 hb hw
 try simp only[Act.put,qA,qB,qC,qD,qE,qF]
 refine wpAnyH_ready (rs:=[7]) (by kernel_rfl) (by simp) ?_;refine AllReadyH.cons rfl (fun K hK=>?_) AllReadyH.nil
 go_simp
 have hO:=ownG_lit (enc:=encPt) (k:=3) (fun _=>rfl) x1 [(oth,(rn,rd))] #[.string ⟨oth.toArray⟩,.string ⟨rn.toArray⟩,.string ⟨rd.toArray⟩] 45 rfl (by simp) (Nat.le_refl _);have bb:Below x1.heap.size x1 (x1.alloc (.cells #[.string ⟨oth.toArray⟩,.string ⟨rn.toArray⟩,.string ⟨rd.toArray⟩] 45)):=Below.alloc (Below.refl _ _) (Nat.le_refl _) _;obtain⟨x2,hU⟩:∃V,x1.alloc (.cells #[.string ⟨oth.toArray⟩,.string ⟨rn.toArray⟩,.string ⟨rd.toArray⟩] 45)=V:=⟨_,rfl⟩;rw[hU]at hO bb ⊢;clear hU;have hle:=hH1.size;have hw:Below W.heap.size U x2:=hH1.trans (bb.mono (Nat.le_trans hB.out hle));have hX2:=hX1.below bb;refine hK.out _ _ hw (fun hH2=>?_);clear hK hw
 try simp only[Act.put,qA,qB,qC,qD,qE,qF]
 refine wpAnyH_ready (rs:=[8]) (by kernel_rfl) (by simp) ?_;refine AllReadyH.cons rfl (fun K hK=>?_) AllReadyH.nil
 go_simp
 refine(lay_any cn cd _ _ _ bb.size hO (by simp)).mono ?_;rintro e x3 ⟨⟨p,c,m,rfl,hc,hp,hs,hL,hpb⟩,hb⟩;have HP:Hid (∀a,p=some a→a.block≠w.heap.size+1):=zh (fun a e=>Nat.ne_of_gt (Nat.lt_of_lt_of_le HXU.out (Nat.le_trans hle (hpb a e).1)));have hX3:=hX1.below (bb.trans hb);have hw:Below W.heap.size U x3:=hH1.trans ((bb.trans hb).mono (Nat.le_trans hB.out hle))
 (try go_wp2_with fail)
 refine hK.out _ _ hw (fun hH3=>?_);clear hK hH2 hH1 hX2 hX1 hb hw hO bb hle hpb
 try simp only[Act.put,qA,qB,qC,qD,qE,qF]
 have HE2:Hid (ofP ⟨nm,4,ast,oth,(rn,rd),(cn,cd),ex,rc,pay⟩=⟨m,(cn,cd)⟩):=zh (by rw[HE.out,List.perm_singleton.1 hp]);clear hp hs;have y0:=hX3.c 0 _ rfl;have y1:=hX3.c 1 _ rfl;have y2:=hX3.c 2 _ rfl
 have z0:=hX3.f 0 (by simp);have z1:=hX3.f 1 (by simp);have z2:=hX3.f 2 (by simp)
 refine wpAnyH_ready (rs:=[9]) (by kernel_rfl) (by simp) ?_;refine AllReadyH.cons rfl (fun K hK=>?_) AllReadyH.nil
 go_simp
 refine hK.out _ _ (Below.setCell (Below.setCell (Below.setCell (hH3) (hle3) _) (hle3) _) (hle3) _) (fun hH4=>?_);clear hK hH4
 try simp only[Act.put,qA,qB,qC,qD,qE,qF]
 refine wpAnyH_done (by kernel_rfl) ?_ _;refine NoPanic.normal ?_;go_wp2_with fail;have HL:=zh hL;have HC:=zh hc
 clear hL hc;refine bodyPost_ret (v:=.agg #[.slice p m.length c,.string ⟨cn.toArray⟩,.string ⟨cd.toArray⟩]) (by simp[results,Tryz.results15,go_sem, *]) rfl ⟨⟨p,c,by rw[HE2.out],by rw[HE2.out];exact HC.out,by rw[HE2.out];exact pts_put HL.out HP.out _ _ _⟩,?_⟩;exact Below.setCell (Below.setCell (Below.setCell (HGB.out _ hH3) (hle2) _) (hle2) _) (hle2) _
theorem pof_any(a:Ac.Actn)(w:World)(hg:GoodA w):Calls Tryz.prog 15 #[.agg #[.string ⟨a.nm.toArray⟩,.int .i64 a.kind,.string ⟨a.ast.toArray⟩,.string ⟨a.oth.toArray⟩,.string ⟨a.ratio.1.toArray⟩,.string ⟨a.ratio.2.toArray⟩,.string ⟨a.cash.1.toArray⟩,.string ⟨a.cash.2.toArray⟩,.int .i64 a.ex,.int .i64 a.rc,.int .i64 a.pay]] w (GivePk w (ofP a)):=by
 obtain⟨nm,k,ast,oth,⟨rn,rd⟩,⟨cn,cd⟩,ex,rc,pay⟩:=a
 cases hm:Ac.mayA ⟨nm,k,ast,oth,(rn,rd),(cn,cd),ex,rc,pay⟩ with
 | false=>exact of_no k nm ast oth rn rd cn cd ex rc pay w hg hm
 | true =>
  have hk:=(Pk.may_parts hm).2.2.1;dsimp only at hk;rcases(show k=0∨k=1∨k=2∨k=3∨k=4 by omega) with rfl|rfl|rfl|rfl|rfl
  ·exact of_0 nm ast oth rn rd cn cd ex rc pay w hg hm
  ·exact of_1 nm ast oth rn rd cn cd ex rc pay w hg hm
  ·exact of_2 nm ast oth rn rd cn cd ex rc pay w hg hm
  ·exact of_3 nm ast oth rn rd cn cd ex rc pay w hg hm
  ·exact of_4 nm ast oth rn rd cn cd ex rc pay w hg hm
end Go.Proofs.YthgopcnagecbaaaGreatDoor
