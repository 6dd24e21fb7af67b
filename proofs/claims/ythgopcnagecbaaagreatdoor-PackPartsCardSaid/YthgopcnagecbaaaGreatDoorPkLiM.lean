/- Own work. -/
import Derived.Test.YthgopcnagecbaaaGreatDoorGrwTM
set_option linter.unusedSimpArgs false
set_option linter.unusedVariables false
set_option maxHeartbeats 4000000
set_option maxRecDepth 100000
namespace Go.Proofs.YthgopcnagecbaaaGreatDoor
open Go.RowKit
open Pk (Part Pack keepsP)
theorem ac_one(V:World):Calls Tryz.prog 23 #[.int .i64 1] V (GiveR V ([49],[49])):=by
 have h:=rqof_any 1 V (by decide) (by decide);rw[show wd 1=[49] by decide +kernel]at h;exact h
def keepB(s:List UInt8)(x:Part):Bool:=x.1==s&&x.2==([49],[49])
theorem keeps_yes{l:List Part}{q:Key}{s:List UInt8}{k:Nat}{x:Part}(hx:l[k]?=some x)(h:keepB s x=true):keepsP ⟨l,q⟩ s=true:=List.any_eq_true.2 ⟨x,List.mem_of_getElem? hx,h⟩
theorem keeps_no{l:List Part}{q:Key}{s:List UInt8}(h:∀ (j:Nat) (x:Part),j<l.length→l[j]?=some x→keepB s x=false):keepsP ⟨l,q⟩ s=false:=by
 refine List.any_eq_false.2 fun x hx=>?_;obtain⟨j,hj⟩:=List.getElem?_of_mem hx;have:=h j x (List.getElem?_eq_some_iff.1 hj).1 hj;rw[Bool.not_eq_true];exact this
theorem pkkeeps_any(p:Option Addr)(c:Nat)(l:List Part)(cn cd s:List UInt8)(w:World)(hl:l.length≤4611686018427387904)(h:Pts w p l):Calls Tryz.prog 20 #[.agg #[.slice p l.length c,.string ⟨cn.toArray⟩,.string ⟨cd.toArray⟩],.string ⟨s.toArray⟩] w (GiveB w (keepsP ⟨l,(cn,cd)⟩ s)):=by
 have HS:=zh h;clear h;go_enter Tryz.func20,Tryz.ntmps20;go_wp2_with fail;obtain⟨W,hW,BW,_,kk⟩:=layN (Below.refl w.heap.size w) #[.slice p l.length c,.string ⟨cn.toArray⟩,.string ⟨cd.toArray⟩] 28
 (try (rw[hW]));clear hW
 replace HS:=zh (HS.out.below BW);have b0:=Below.refl W.heap.size W;have k0:=kk 0 _ rfl;clear kk
 (try go_wp2_with fail)
 go_loopw [5] (fun i wr=>∃k:Nat,k≤l.length∧i=.int .i64 k∧Hid (∀ (j:Nat) (x:Part),j<k→l[j]?=some x→keepB s x=false)∧Below W.heap.size W wr) (fun i _=>l.length-(intOf i).toNat)
 case atStart=>exact⟨0,Nat.zero_le _,rfl,fun j x h=>absurd h (Nat.not_lt_zero j),b0⟩
 case round =>
  obtain⟨k,hk,rfl,HJ,hw⟩:=hrel;by_cases hlt:k<l.length
  ·obtain⟨⟨a,⟨n,e⟩⟩,hx⟩:∃x,l[k]?=some x:=⟨_,List.getElem?_eq_getElem hlt⟩;obtain⟨b,o,rfl,i0,i1,i2⟩:=pt_rule (HS.out.below hw) hx;have HW:=zh hw;replace k0:=fun v hv=>k0 v (Below.more hw hv);have c0:=Below.refl wr.heap.size wr;have hB:=zh (Nat.le_refl wr.heap.size);have HX:=zh hx;clear hx hw b0
   cases q0:(a==s) with
   | false =>
    have HO:Hid (keepB s (a,(n,e))=false):=zh (by unfold keepB;dsimp only;rw[q0];rfl);go_wp2_with fail;refine wp_region_noPanic ?_;refine wp_region_held_drew (S:=fun w'=>Below wr.heap.size wr w') (by kernel_rfl) (c0.drew) (fun hH0=>?_);refine sch_in [0,1,2,3,4,5,6,7,8] ?_
    iterate 9 (refine sch_yes (v:=?_) rfl (by kernel_rfl) (by rfl) ?_ (by assumption) ?_;rotate_left 1;(· (intro w hSw;(try dsimp only at hSw);go_simp<;>(with_reducible rfl)));try simp only[Act.put,qA,qB,qC,qD,qE,qF])
    refine sch_out ?_;refine sch_in [9,10,11,12,13,14,15,16,17] ?_
    iterate 9 (first|(refine sch_no rfl (by kernel_rfl) (by rfl) (by assumption) ?_;try simp only[Act.put,qA,qB,qC,qD,qE,qF])|(refine sch_yes (v:=?_) rfl (by kernel_rfl) (by rfl) ?_ (by assumption) ?_;rotate_left 1;(· (intro w hSw;(try dsimp only at hSw);go_simp<;>(with_reducible rfl)));try simp only[Act.put,qA,qB,qC,qD,qE,qF]))
    refine sch_out ?_;refine wpAnyH_done (by kernel_rfl) ?_ _;refine NoPanic.normal ?_;have c1:=hH0;clear hH0;go_wp2_with fail;go_roundw
    case rel=>exact⟨k+1,hlt,by go_num,morePt (P:=fun _ y=>keepB s y=false) HJ.out HX.out HO.out,Below.more HW.out c1⟩
    case measure=>simp[intOf];omega
   | true =>
    rcases Classical.propComplete (n=[49]) with q1|q1
    ·rcases Classical.propComplete (e=[49]) with q2|q2
     ·have HO:Hid (keepsP ⟨l,(cn,cd)⟩ s=true):=zh (keeps_yes HX.out (by unfold keepB;dsimp only;rw[q0,of_eq_true q1,of_eq_true q2];rfl));go_wp2_with fail;refine wp_region_noPanic ?_;refine wp_region_held_drew (S:=fun w'=>Below wr.heap.size wr w') (by kernel_rfl) (c0.drew) (fun hH0=>?_);refine sch_in [0,1,2,3,4,5,6,7,8,9,10,11,12,13,14] ?_
      iterate 15 (refine sch_yes (v:=?_) rfl (by kernel_rfl) (by rfl) ?_ (by assumption) ?_;rotate_left 1;(· (intro w hSw;(try dsimp only at hSw);go_simp<;>(with_reducible rfl)));try simp only[Act.put,qA,qB,qC,qD,qE,qF])
      refine sch_out ?_;refine wpAnyH_ready (rs:=[15]) (by kernel_rfl) (by simp) ?_;refine AllReadyH.cons rfl (fun K hK=>?_) AllReadyH.nil
      go_simp
      refine(held (W:=wr) hB.out (ac_one _) hH0).mono ?_;rintro e x2 ⟨rfl,hb,hw⟩
      (try go_wp2_with fail)
      refine hK.out _ _ hw (fun hH1=>?_);clear hK hH0 hb hw
      try simp only[Act.put,qA,qB,qC,qD,qE,qF]
      refine sch_in [16,17] ?_
      iterate 2 (refine sch_yes (v:=?_) rfl (by kernel_rfl) (by rfl) ?_ (by assumption) ?_;rotate_left 1;(· (intro w hSw;(try dsimp only at hSw);go_simp<;>(try simp only[q1,q2,if_true,if_false])<;>(with_reducible rfl)));try simp only[Act.put,qA,qB,qC,qD,qE,qF])
      refine sch_out ?_;refine wpAnyH_done (by kernel_rfl) ?_ _;refine NoPanic.normal ?_;have c1:=hH1;clear hH1;go_wp2_with fail;go_ret;exact⟨ret_bool (by rw[HO.out]),Below.more BW (Below.more HW.out c1)⟩
     ·have HO:Hid (keepB s (a,(n,e))=false):=zh (by unfold keepB;dsimp only;have:=of_eq_false q2;simp[this]);go_wp2_with fail;refine wp_region_noPanic ?_;refine wp_region_held_drew (S:=fun w'=>Below wr.heap.size wr w') (by kernel_rfl) (c0.drew) (fun hH0=>?_);refine sch_in [0,1,2,3,4,5,6,7,8,9,10,11,12,13,14] ?_
      iterate 15 (refine sch_yes (v:=?_) rfl (by kernel_rfl) (by rfl) ?_ (by assumption) ?_;rotate_left 1;(· (intro w hSw;(try dsimp only at hSw);go_simp<;>(with_reducible rfl)));try simp only[Act.put,qA,qB,qC,qD,qE,qF])
      refine sch_out ?_;refine wpAnyH_ready (rs:=[15]) (by kernel_rfl) (by simp) ?_;refine AllReadyH.cons rfl (fun K hK=>?_) AllReadyH.nil
      go_simp
      refine(held (W:=wr) hB.out (ac_one _) hH0).mono ?_;rintro e x2 ⟨rfl,hb,hw⟩
      (try go_wp2_with fail)
      refine hK.out _ _ hw (fun hH1=>?_);clear hK hH0 hb hw
      try simp only[Act.put,qA,qB,qC,qD,qE,qF]
      refine sch_in [16,17] ?_
      iterate 2 (refine sch_yes (v:=?_) rfl (by kernel_rfl) (by rfl) ?_ (by assumption) ?_;rotate_left 1;(· (intro w hSw;(try dsimp only at hSw);go_simp<;>(try simp only[q1,q2,if_true,if_false])<;>(with_reducible rfl)));try simp only[Act.put,qA,qB,qC,qD,qE,qF])
      refine sch_out ?_;refine wpAnyH_done (by kernel_rfl) ?_ _;refine NoPanic.normal ?_;have c1:=hH1;clear hH1;go_wp2_with fail;go_roundw
      case rel=>exact⟨k+1,hlt,by go_num,morePt (P:=fun _ y=>keepB s y=false) HJ.out HX.out HO.out,Below.more HW.out c1⟩
      case measure=>simp[intOf];omega
    ·have HO:Hid (keepB s (a,(n,e))=false):=zh (by unfold keepB;dsimp only;have:=of_eq_false q1;simp[this]);have q2:True:=trivial;go_wp2_with fail;refine wp_region_noPanic ?_;refine wp_region_held_drew (S:=fun w'=>Below wr.heap.size wr w') (by kernel_rfl) (c0.drew) (fun hH0=>?_);refine sch_in [0,1,2,3,4,5,6,7,8,9,10,11,12,13,14] ?_
     iterate 15 (refine sch_yes (v:=?_) rfl (by kernel_rfl) (by rfl) ?_ (by assumption) ?_;rotate_left 1;(· (intro w hSw;(try dsimp only at hSw);go_simp<;>(with_reducible rfl)));try simp only[Act.put,qA,qB,qC,qD,qE,qF])
     refine sch_out ?_;refine wpAnyH_ready (rs:=[15]) (by kernel_rfl) (by simp) ?_;refine AllReadyH.cons rfl (fun K hK=>?_) AllReadyH.nil
     go_simp
     refine(held (W:=wr) hB.out (ac_one _) hH0).mono ?_;rintro e x2 ⟨rfl,hb,hw⟩
     (try go_wp2_with fail)
     refine hK.out _ _ hw (fun hH1=>?_);clear hK hH0 hb hw
     try simp only[Act.put,qA,qB,qC,qD,qE,qF]
     refine sch_in [16,17] ?_
     iterate 2 (refine sch_yes (v:=?_) rfl (by kernel_rfl) (by rfl) ?_ (by assumption) ?_;rotate_left 1;(· (intro w hSw;(try dsimp only at hSw);go_simp<;>(try simp only[q1,q2,if_true,if_false])<;>(with_reducible rfl)));try simp only[Act.put,qA,qB,qC,qD,qE,qF])
     refine sch_out ?_;refine wpAnyH_done (by kernel_rfl) ?_ _;refine NoPanic.normal ?_;have c1:=hH1;clear hH1;go_wp2_with fail;go_roundw
     case rel=>exact⟨k+1,hlt,by go_num,morePt (P:=fun _ y=>keepB s y=false) HJ.out HX.out HO.out,Below.more HW.out c1⟩
     case measure=>simp[intOf];omega
  ·obtain rfl:k=l.length:=by omega
   have HO:Hid (keepsP ⟨l,(cn,cd)⟩ s=false):=zh (keeps_no HJ.out);go_wp2_with fail;go_ret;exact⟨ret_bool (by rw[HO.out]),Below.more BW hw⟩
end Go.Proofs.YthgopcnagecbaaaGreatDoor
set_option maxHeartbeats 8000000
set_option maxRecDepth 100000
namespace Go.Proofs.YthgopcnagecbaaaGreatDoor
open Go.RowKit
open Pk (Part Pack mayP valueP keepsP ofP)
theorem rowsLitK{α:Type}{enc:α→List Value}{k:Nat}(hk:∀x,(enc x).length=k)(w:World)(l:List α)(c:Array Value)(t:TypeId)(hc:c.toList=l.flatMap enc):RowsG enc k (w.alloc (.cells c t)) (some ⟨w.heap.size,0,none⟩) l:=fun j x hx=>by
 refine⟨w.heap.size,0,rfl,by simp,fun i v hv=>?_⟩;rw[Nat.zero_add];exact(cell_new w _ _ _ rfl _).trans (by rw[←Array.getElem?_toList,hc];exact flat_get hk hx hv)
def GiveW(w:World)(v:Value)(e:Ending)(w':World):Prop:=e=.returned v∧Below w.heap.size w w'
def spinA:Ac.Actn:=⟨[112,49],3,[120],[121],([49],[50]),([48],[49]),0,0,0⟩
def mergA:Ac.Actn:=⟨[112,49],4,[120],[121],([49],[50]),([50],[49]),0,0,0⟩
def spinP:Pack:=⟨[([120],([49],[49])),([121],([49],[50]))],([48],[49])⟩
def mergP:Pack:=⟨[([121],([49],[50]))],([50],[49])⟩
def oneF:List Fx.Fix:=[(([120],3),([56],[49]))]
def twoF:List Fx.Fix:=[(([120],3),([56],[49])),(([121],3),([52],[49]))]
theorem of_spin:ofP spinA=spinP:=by decide +kernel
theorem of_merg:ofP mergA=mergP:=by decide +kernel
theorem val_two:valueP spinP twoF 3=some ([49,48],[49]):=by decide +kernel
theorem val_one:valueP spinP oneF 3=none:=by decide +kernel
theorem keep_1:keepsP spinP [120]=true:=by decide +kernel
theorem keep_2:keepsP spinP [121]=false:=by decide +kernel
theorem keep_3:keepsP mergP [120]=false:=by decide +kernel
theorem may_1:mayP spinP=true:=by decide +kernel
theorem may_0:mayP ⟨[],([],[])⟩=false:=by decide +kernel
theorem pk_o{n:Int}{l:List UInt8}(h0:-9223372036854775808≤n)(h1:n≤9223372036854775807)(hl:wd n=l)(w:World):Calls Tryz.prog 23 #[.int .i64 n] w (GiveW w (.agg #[.string ⟨l.toArray⟩,.string ⟨#[49]⟩])):=by
 have h:=rqof_any n w h0 h1;rw[hl]at h;exact h
theorem pk_12(w:World):Calls Tryz.prog 62 #[.int .i64 1,.int .i64 2] w (GiveW w (.agg #[.string ⟨#[49]⟩,.string ⟨#[50]⟩])):=by
 have h:=rqone_any 1 2 w (by decide) (by decide) (by decide) (by decide);rw[one_c (q:=([49],[50])) (by decide +kernel)]at h;exact h
theorem spin_any(w:World):Calls Tryz.prog 28 #[] w (GiveW w (.agg #[.string ⟨#[112,49]⟩,.int .i64 3,.string ⟨#[120]⟩,.string ⟨#[121]⟩,.string ⟨#[49]⟩,.string ⟨#[50]⟩,.string ⟨#[48]⟩,.string ⟨#[49]⟩,.int .i64 0,.int .i64 0,.int .i64 0])):=by
 have C0:=zh (fun V=>pk_o (n:=0) (l:=[48]) (by decide) (by decide) (by decide +kernel) V);go_enter Tryz.func28,Tryz.ntmps28;go_wp2_with fail;have hX:=blk_new w #[.string ⟨#[]⟩,.int .i64 0,.string ⟨#[]⟩,.string ⟨#[]⟩,.string ⟨#[]⟩,.string ⟨#[]⟩,.string ⟨#[]⟩,.string ⟨#[]⟩,.int .i64 0,.int .i64 0,.int .i64 0] 25;have bX:Below w.heap.size w (w.alloc (.cells #[.string ⟨#[]⟩,.int .i64 0,.string ⟨#[]⟩,.string ⟨#[]⟩,.string ⟨#[]⟩,.string ⟨#[]⟩,.string ⟨#[]⟩,.string ⟨#[]⟩,.int .i64 0,.int .i64 0,.int .i64 0] 25)):=Below.alloc (Below.refl _ _) (Nat.le_refl _) _;refine(pk_12 _).mono ?_;rintro e1 w1 ⟨rfl,b⟩;replace hX:=hX.below b;have b1:=Below.more bX b;clear b bX;go_wp2_with fail;refine(C0.out _).mono ?_;rintro e2 w2 ⟨rfl,b⟩;replace hX:=hX.below b;have b2:=Below.more b1 b;clear b b1 C0;have y0:=hX.c 0 _ rfl;have y1:=hX.c 1 _ rfl;have y2:=hX.c 2 _ rfl;have y3:=hX.c 3 _ rfl;have y4:=hX.c 4 _ rfl;have y5:=hX.c 5 _ rfl;have y6:=hX.c 6 _ rfl;have y7:=hX.c 7 _ rfl;have y8:=hX.c 8 _ rfl;have y9:=hX.c 9 _ rfl;have y10:=hX.c 10 _ rfl
 have z0:=hX.f 0 (by simp);have z1:=hX.f 1 (by simp);have z2:=hX.f 2 (by simp);have z3:=hX.f 3 (by simp);have z4:=hX.f 4 (by simp);have z5:=hX.f 5 (by simp);have z6:=hX.f 6 (by simp);have z7:=hX.f 7 (by simp);have z8:=hX.f 8 (by simp);have z9:=hX.f 9 (by simp);have z10:=hX.f 10 (by simp)
 clear hX;go_wp2_with fail;refine bodyPost_ret (v:=.agg #[.string ⟨#[112,49]⟩,.int .i64 3,.string ⟨#[120]⟩,.string ⟨#[121]⟩,.string ⟨#[49]⟩,.string ⟨#[50]⟩,.string ⟨#[48]⟩,.string ⟨#[49]⟩,.int .i64 0,.int .i64 0,.int .i64 0]) (by simp[results,Tryz.results28,go_sem, *]) rfl ⟨rfl,?_⟩;exact Below.setCell (Below.setCell (Below.setCell (Below.setCell (Below.setCell (Below.setCell (Below.setCell (Below.setCell (Below.setCell (Below.setCell (Below.setCell (b2) (Nat.le_refl _) _) (Nat.le_refl _) _) (Nat.le_refl _) _) (Nat.le_refl _) _) (Nat.le_refl _) _) (Nat.le_refl _) _) (Nat.le_refl _) _) (Nat.le_refl _) _) (Nat.le_refl _) _) (Nat.le_refl _) _) (Nat.le_refl _) _
end Go.Proofs.YthgopcnagecbaaaGreatDoor
