/- Own work. -/
import Derived.Test.YthgopcnagecbaaaGreatDoorOpenPkM
import Derived.Test.YthgopcnagecbaaaGreatDoorNums
set_option linter.unusedSimpArgs false
set_option linter.unusedVariables false
set_option maxHeartbeats 4000000
set_option maxRecDepth 100000
namespace Go.Proofs.YthgopcnagecbaaaGreatDoor
open Go.RowKit
open Pk (Part Pack)
def sameP(l m:List Part)(x y:Key):Bool:=decide (l=m)&&(x.1==y.1&&x.2==y.2)
theorem pksame_any(p q:Option Addr)(c c':Nat)(l m:List Part)(cn cd cn' cd':List UInt8)(w:World)(hl:l.length≤4611686018427387904)(hl':m.length≤4611686018427387904)(h:Pts w p l)(h':Pts w q m):Calls Tryz.prog 14 #[.agg #[.slice p l.length c,.string ⟨cn.toArray⟩,.string ⟨cd.toArray⟩],.agg #[.slice q m.length c',.string ⟨cn'.toArray⟩,.string ⟨cd'.toArray⟩]] w (GiveB w (sameP l m (cn,cd) (cn',cd'))):=by
 have HS:=zh h;have HT:=zh h';clear h h'
 by_cases hne:l.length=m.length
 ·obtain⟨N,hN,hN'⟩:∃N,l.length=N∧m.length=N:=⟨_,rfl,hne.symm⟩;rw[hN,hN'];rw[hN]at hl;clear hl';have HN:=zh hN;have HN':=zh hN';have Hne:=zh hne
  clear hN hN' hne
  cases e1:(cn==cn') with
  | false =>
   have HO:Hid (sameP l m (cn,cd) (cn',cd')=false):=zh (by unfold sameP;dsimp only;rw[e1];simp);go_enter Tryz.func14,Tryz.ntmps14;go_wp2_with fail;obtain⟨W1,hW,BW1,s1,kk⟩:=layN (Below.refl w.heap.size w) #[.slice p N c,.string ⟨cn.toArray⟩,.string ⟨cd.toArray⟩] 28;rw[hW];clear hW;obtain⟨W,hW,BW2,s2,jj⟩:=layN (Below.refl W1.heap.size W1) #[.slice q N c',.string ⟨cn'.toArray⟩,.string ⟨cd'.toArray⟩] 28;rw[hW];clear hW;rw[←s1]at jj;have BW:=Below.more BW1 BW2;replace HS:=zh (HS.out.below BW);replace HT:=zh (HT.out.below BW);have b0:=Below.refl W.heap.size W;have k0:∀v,Below W.heap.size W v→_:=fun v hv=>kk 0 _ rfl v (Below.more BW2 hv);have k1:∀v,Below W.heap.size W v→_:=fun v hv=>kk 1 _ rfl v (Below.more BW2 hv);have k2:∀v,Below W.heap.size W v→_:=fun v hv=>kk 2 _ rfl v (Below.more BW2 hv);have j0:=jj 0 _ rfl;have j1:=jj 1 _ rfl;have j2:=jj 2 _ rfl
   clear kk jj s1 s2;go_ret;exact⟨ret_bool (by rw[HO.out]),Below.more BW b0⟩
  | true =>
  cases e2:(cd==cd') with
  | false =>
   have HO:Hid (sameP l m (cn,cd) (cn',cd')=false):=zh (by unfold sameP;dsimp only;rw[e2];simp);go_enter Tryz.func14,Tryz.ntmps14;go_wp2_with fail;obtain⟨W1,hW,BW1,s1,kk⟩:=layN (Below.refl w.heap.size w) #[.slice p N c,.string ⟨cn.toArray⟩,.string ⟨cd.toArray⟩] 28;rw[hW];clear hW;obtain⟨W,hW,BW2,s2,jj⟩:=layN (Below.refl W1.heap.size W1) #[.slice q N c',.string ⟨cn'.toArray⟩,.string ⟨cd'.toArray⟩] 28;rw[hW];clear hW;rw[←s1]at jj;have BW:=Below.more BW1 BW2;replace HS:=zh (HS.out.below BW);replace HT:=zh (HT.out.below BW);have b0:=Below.refl W.heap.size W;have k0:∀v,Below W.heap.size W v→_:=fun v hv=>kk 0 _ rfl v (Below.more BW2 hv);have k1:∀v,Below W.heap.size W v→_:=fun v hv=>kk 1 _ rfl v (Below.more BW2 hv);have k2:∀v,Below W.heap.size W v→_:=fun v hv=>kk 2 _ rfl v (Below.more BW2 hv);have j0:=jj 0 _ rfl;have j1:=jj 1 _ rfl;have j2:=jj 2 _ rfl
   clear kk jj s1 s2;go_ret;exact⟨ret_bool (by rw[HO.out]),Below.more BW b0⟩
  | true =>
  have HE:Hid (sameP l m (cn,cd) (cn',cd')=decide (l=m)):=zh (by unfold sameP;dsimp only;rw[e1,e2];simp);go_enter Tryz.func14,Tryz.ntmps14;go_wp2_with fail;obtain⟨W1,hW,BW1,s1,kk⟩:=layN (Below.refl w.heap.size w) #[.slice p N c,.string ⟨cn.toArray⟩,.string ⟨cd.toArray⟩] 28;rw[hW];clear hW;obtain⟨W,hW,BW2,s2,jj⟩:=layN (Below.refl W1.heap.size W1) #[.slice q N c',.string ⟨cn'.toArray⟩,.string ⟨cd'.toArray⟩] 28;rw[hW];clear hW;rw[←s1]at jj;have BW:=Below.more BW1 BW2;replace HS:=zh (HS.out.below BW);replace HT:=zh (HT.out.below BW);have b0:=Below.refl W.heap.size W;have k0:∀v,Below W.heap.size W v→_:=fun v hv=>kk 0 _ rfl v (Below.more BW2 hv);have k1:∀v,Below W.heap.size W v→_:=fun v hv=>kk 1 _ rfl v (Below.more BW2 hv);have k2:∀v,Below W.heap.size W v→_:=fun v hv=>kk 2 _ rfl v (Below.more BW2 hv);have j0:=jj 0 _ rfl;have j1:=jj 1 _ rfl;have j2:=jj 2 _ rfl
  clear kk jj s1 s2
  go_loopw [5] (fun i wr=>∃k:Nat,k≤N∧i=.int .i64 k∧Hid (∀ (j:Nat) (x:Part),j<k→l[j]?=some x→m[j]?=some x)∧Below W.heap.size W wr) (fun i _=>N-(intOf i).toNat)
  case atStart=>exact⟨0,Nat.zero_le _,rfl,fun j x h=>absurd h (Nat.not_lt_zero j),b0⟩
  case round =>
   obtain⟨k,hk,rfl,HJ,hw⟩:=hrel;by_cases hlt:k<N
   ·obtain⟨⟨a,⟨n,e⟩⟩,hx⟩:∃x,l[k]?=some x:=⟨_,List.getElem?_eq_getElem (HN.out.symm▸hlt)⟩;obtain⟨⟨a',⟨n',e'⟩⟩,hy⟩:∃x,m[k]?=some x:=⟨_,List.getElem?_eq_getElem (HN'.out.symm▸hlt)⟩;obtain⟨b,o,rfl,i0,i1,i2⟩:=pt_rule (HS.out.below hw) hx;obtain⟨b',o',rfl,g0,g1,g2⟩:=pt_rule (HT.out.below hw) hy;have HW:=zh hw;replace k0:=fun v hv=>k0 v (Below.more hw hv);replace k1:=fun v hv=>k1 v (Below.more hw hv);replace k2:=fun v hv=>k2 v (Below.more hw hv);replace j0:=fun v hv=>j0 v (Below.more hw hv);replace j1:=fun v hv=>j1 v (Below.more hw hv);replace j2:=fun v hv=>j2 v (Below.more hw hv);have c0:=Below.refl wr.heap.size wr;have HX:=zh hx;have HY:=zh hy
    clear hx hy hw b0
    cases q0:(a==a') with
    | false =>
     have HO:Hid (sameP l m (cn,cd) (cn',cd')=false):=zh (by rw[HE.out];exact rows_stop HX.out HY.out (fun e=>by cases e;simp at q0));go_wp2_with fail;refine wp_region_noPanic ?_;refine wp_region_held_drew (S:=fun w'=>Below wr.heap.size wr w') (by kernel_rfl) (c0.drew) (fun hH0=>?_);refine sch_in [0,1,2,3,4,5,6,7,8,9,10] ?_
     iterate 11 (refine sch_yes (v:=?_) rfl (by kernel_rfl) (by rfl) ?_ (by assumption) ?_;rotate_left 1;(· (intro w hSw;(try dsimp only at hSw);go_simp<;>(with_reducible rfl)));try simp only[Act.put,qA,qB,qC,qD,qE,qF])
     refine sch_out ?_;refine wpAnyH_done (by kernel_rfl) ?_ _;refine NoPanic.normal ?_;have c1:=hH0;clear hH0;go_wp2_with fail;go_ret;exact⟨ret_bool (by rw[HO.out]),Below.more BW (Below.more HW.out c1)⟩
    | true =>
    cases q1:(n==n') with
    | false =>
     have HO:Hid (sameP l m (cn,cd) (cn',cd')=false):=zh (by rw[HE.out];exact rows_stop HX.out HY.out (fun e=>by cases e;simp at q1));go_wp2_with fail;refine wp_region_noPanic ?_;refine wp_region_held_drew (S:=fun w'=>Below wr.heap.size wr w') (by kernel_rfl) (c0.drew) (fun hH0=>?_);refine sch_in [0,1,2,3,4,5,6,7,8,9,10] ?_
     iterate 11 (refine sch_yes (v:=?_) rfl (by kernel_rfl) (by rfl) ?_ (by assumption) ?_;rotate_left 1;(· (intro w hSw;(try dsimp only at hSw);go_simp<;>(with_reducible rfl)));try simp only[Act.put,qA,qB,qC,qD,qE,qF])
     refine sch_out ?_;refine wpAnyH_done (by kernel_rfl) ?_ _;refine NoPanic.normal ?_;have c1:=hH0;clear hH0;go_wp2_with fail;go_ret;exact⟨ret_bool (by rw[HO.out]),Below.more BW (Below.more HW.out c1)⟩
    | true =>
    cases q2:(e==e') with
    | false =>
     have HO:Hid (sameP l m (cn,cd) (cn',cd')=false):=zh (by rw[HE.out];exact rows_stop HX.out HY.out (fun e=>by cases e;simp at q2));go_wp2_with fail;refine wp_region_noPanic ?_;refine wp_region_held_drew (S:=fun w'=>Below wr.heap.size wr w') (by kernel_rfl) (c0.drew) (fun hH0=>?_);refine sch_in [0,1,2,3,4,5,6,7,8,9,10] ?_
     iterate 11 (refine sch_yes (v:=?_) rfl (by kernel_rfl) (by rfl) ?_ (by assumption) ?_;rotate_left 1;(· (intro w hSw;(try dsimp only at hSw);go_simp<;>(with_reducible rfl)));try simp only[Act.put,qA,qB,qC,qD,qE,qF])
     refine sch_out ?_;refine wpAnyH_done (by kernel_rfl) ?_ _;refine NoPanic.normal ?_;have c1:=hH0;clear hH0;go_wp2_with fail;go_ret;exact⟨ret_bool (by rw[HO.out]),Below.more BW (Below.more HW.out c1)⟩
    | true =>
     have HO:Hid (m[k]?=some (a,(n,e))):=zh (by rw[HY.out];rw[beq_iff_eq]at q0 q1 q2;rw[q0,q1,q2]);go_wp2_with fail;refine wp_region_noPanic ?_;refine wp_region_held_drew (S:=fun w'=>Below wr.heap.size wr w') (by kernel_rfl) (c0.drew) (fun hH0=>?_);refine sch_in [0,1,2,3,4,5,6,7,8,9,10] ?_
     iterate 11 (refine sch_yes (v:=?_) rfl (by kernel_rfl) (by rfl) ?_ (by assumption) ?_;rotate_left 1;(· (intro w hSw;(try dsimp only at hSw);go_simp<;>(with_reducible rfl)));try simp only[Act.put,qA,qB,qC,qD,qE,qF])
     refine sch_out ?_;refine wpAnyH_done (by kernel_rfl) ?_ _;refine NoPanic.normal ?_;have c1:=hH0;clear hH0;go_wp2_with fail;go_roundw
     case rel=>exact⟨k+1,hlt,by go_num,rows_more (P:=fun j x=>m[j]?=some x) HJ.out HX.out HO.out,Below.more HW.out c1⟩
     case measure=>simp[intOf];omega
   ·obtain rfl:k=N:=by omega
    have HO:Hid (sameP l m (cn,cd) (cn',cd')=true):=zh (by rw[HE.out];exact rows_end Hne.out (fun j x hj hx=>HJ.out j x (HN.out▸hj) hx));go_wp2_with fail;go_ret;exact⟨ret_bool (by rw[HO.out]),Below.more BW hw⟩
 ·have HO:Hid (sameP l m (cn,cd) (cn',cd')=false):=zh (by unfold sameP;rw[decide_eq_false (fun e=>hne (congrArg List.length e))];rfl);have hne':((l.length:Int)=(m.length:Int))=False:=eq_false (by omega);go_enter Tryz.func14,Tryz.ntmps14;go_wp2_with fail;obtain⟨W1,hW,BW1,s1,kk⟩:=layN (Below.refl w.heap.size w) #[.slice p l.length c,.string ⟨cn.toArray⟩,.string ⟨cd.toArray⟩] 28;rw[hW];clear hW;obtain⟨W,hW,BW2,s2,jj⟩:=layN (Below.refl W1.heap.size W1) #[.slice q m.length c',.string ⟨cn'.toArray⟩,.string ⟨cd'.toArray⟩] 28;rw[hW];clear hW;rw[←s1]at jj;have BW:=Below.more BW1 BW2;replace HS:=zh (HS.out.below BW);replace HT:=zh (HT.out.below BW);have b0:=Below.refl W.heap.size W;have k0:∀v,Below W.heap.size W v→_:=fun v hv=>kk 0 _ rfl v (Below.more BW2 hv);have k1:∀v,Below W.heap.size W v→_:=fun v hv=>kk 1 _ rfl v (Below.more BW2 hv);have k2:∀v,Below W.heap.size W v→_:=fun v hv=>kk 2 _ rfl v (Below.more BW2 hv);have j0:=jj 0 _ rfl;have j1:=jj 1 _ rfl;have j2:=jj 2 _ rfl
  clear kk jj s1 s2;go_ret;exact⟨ret_bool (by rw[HO.out]),Below.more BW b0⟩
end Go.Proofs.YthgopcnagecbaaaGreatDoor
