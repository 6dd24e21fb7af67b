/- Own work. -/
import Derived.Test.YthgopcnagecbaaaGreatDoorAllRefA4M
set_option linter.unusedSimpArgs false
set_option linter.unusedVariables false
set_option maxHeartbeats 4000000
set_option maxRecDepth 100000
namespace Go.Proofs.YthgopcnagecbaaaGreatDoor
open Go.RowKit
open Pk (Part Pack mayP atB partB)
def SzPt(x:Part):Prop:=x.1.length≤4611686018427387904∧x.2.1.length≤10000∧x.2.2.length≤10000
theorem mayP_stop{l:List Part}{q:Key}{k:Nat}(hk:k<l.length)(h:atB l k=false):mayP ⟨l,q⟩=false:=by
 unfold mayP;rw[Bool.and_eq_false_iff];refine .inl ?_;rw[←Bool.not_eq_true];intro e;have:=List.all_eq_true.1 e k (List.mem_range.2 hk);rw[h]at this;cases this
theorem mayP_end{l:List Part}{q:Key}(h:∀j,j<l.length→atB l j=true):mayP ⟨l,q⟩=isR q:=by
 unfold mayP;rw[List.all_eq_true.2 (fun j hj=>h j (List.mem_range.1 hj)),Bool.true_and]
theorem atB_at{l:List Part}{k:Nat}{x:Part}(hx:l[k]?=some x):atB l k=(partB x&&(decide (k=0)||(match l[k-1]? with|some y=>Op.bytesLess y.1 x.1|none=>false))):=by
 unfold atB;rw[hx];rfl
theorem pkmay_any(p:Option Addr)(c:Nat)(l:List Part)(cn cd:List UInt8)(w:World)(hl:l.length≤4611686018427387904)(hz:∀x∈l,SzPt x)(z1:cn.length≤10000)(z2:cd.length≤10000)(h:Pts w p l):Calls Tryz.prog 18 #[.agg #[.slice p l.length c,.string ⟨cn.toArray⟩,.string ⟨cd.toArray⟩]] w (GiveB w (mayP ⟨l,(cn,cd)⟩)):=by
 have HS:=zh h;have HZ:=zh hz;clear h hz
 have CM:Hid (∀V,Calls Tryz.prog 21 #[.agg #[.string ⟨cn.toArray⟩,.string ⟨cd.toArray⟩]] V (GiveB V (isR (cn,cd)))):=zh (fun V=>rqmay_any ⟨cn.toArray⟩ ⟨cd.toArray⟩ V (by rw[size_of];omega) (by rw[size_of];omega));go_enter Tryz.func18,Tryz.ntmps18;go_wp2_with fail;obtain⟨W,hW,BW,_,kk⟩:=layN (Below.refl w.heap.size w) #[.slice p l.length c,.string ⟨cn.toArray⟩,.string ⟨cd.toArray⟩] 28
 (try (rw[hW]));clear hW
 replace HS:=zh (HS.out.below BW);have b0:=Below.refl W.heap.size W;have k0:=kk 0 _ rfl;have k1:=kk 1 _ rfl;have k2:=kk 2 _ rfl
 clear kk
 (try go_wp2_with fail)
 go_loopw [3] (fun i wr=>∃k:Nat,k≤l.length∧i=.int .i64 k∧Hid (∀j,j<k→atB l j=true)∧Below W.heap.size W wr) (fun i _=>l.length-(intOf i).toNat)
 case atStart=>exact⟨0,Nat.zero_le _,rfl,fun j h=>absurd h (Nat.not_lt_zero j),b0⟩
 case round =>
  obtain⟨k,hk,rfl,HJ,hw⟩:=hrel;by_cases hlt:k<l.length
  ·obtain⟨⟨a,⟨n,e⟩⟩,hx⟩:∃x,l[k]?=some x:=⟨_,List.getElem?_eq_getElem hlt⟩;obtain⟨b,o,rfl,i0,i1,i2⟩:=pt_rule (HS.out.below hw) hx;obtain⟨y1,y2,y3⟩:=HZ.out _ (List.mem_of_getElem? hx);dsimp only at y1 y2 y3;have CN:Hid (∀V,Calls Tryz.prog 45 #[.string ⟨a.toArray⟩] V (GiveB V (isName a))):=zh (fun V=>calm (rbname_any ⟨a.toArray⟩ V (by rw[size_of];exact y1)));have CS:Hid (∀V,Calls Tryz.prog 25 #[.agg #[.string ⟨n.toArray⟩,.string ⟨e.toArray⟩]] V (GiveI V (sgnR (n,e)))):=zh (fun V=>rqsign_any ⟨n.toArray⟩ ⟨e.toArray⟩ V (by rw[size_of];omega) (by rw[size_of];omega));have HA:=zh (atB_at hx);have HP:=zh (show partB (a,(n,e))=(isName a&&decide (0<sgnR (n,e))) from rfl);have HW:=zh hw;replace k0:=fun v hv=>k0 v (Below.more hw hv);have c0:=Below.refl wr.heap.size wr;have hB:=zh (Nat.le_refl wr.heap.size);have HLT:=zh hlt;clear b0 y1 y2 y3
   cases q0:isName a with
   | false =>
    have HO:Hid (mayP ⟨l,(cn,cd)⟩=false):=zh (mayP_stop HLT.out (by rw[HA.out,HP.out,q0];rfl));rw[q0]at CN;clear hx hw q0;go_wp2_with fail;refine wp_region_noPanic ?_;refine wp_region_held_drew (S:=fun w'=>Below wr.heap.size wr w') (by kernel_rfl) (c0.drew) (fun hH0=>?_);refine sch_in [0,1,2,3,4,5] ?_
    iterate 6 (refine sch_yes (v:=?_) rfl (by kernel_rfl) (by rfl) ?_ (by assumption) ?_;rotate_left 1;(· (intro w hSw;(try dsimp only at hSw);go_simp<;>(try simp only[qd])<;>(try simp only[qe])<;>(try simp only[qz])<;>(try simp only[Bool.not_true,Bool.not_false])<;>(with_reducible rfl)));try simp only[Act.put,qA,qB,qC,qD,qE,qF])
    refine sch_out ?_;refine wpAnyH_ready (rs:=[6]) (by kernel_rfl) (by simp) ?_;refine AllReadyH.cons rfl (fun K hK=>?_) AllReadyH.nil
    go_simp
    refine(held (W:=wr) hB.out (CN.out _) hH0).mono ?_;rintro e' x1 ⟨rfl,hb,hw⟩
    (try go_wp2_with fail)
    refine hK.out _ _ hw (fun hH1=>?_);clear hK hH0 hb hw
    try simp only[Act.put,qA,qB,qC,qD,qE,qF]
    refine sch_in [7,8,9,10,11,12,13,14,15,16,17,18,19,20,21,22,23,24,25,26,27,28,29,30,31,32,33,34,35,36,37] ?_
    iterate 31 (first|(refine sch_no rfl (by kernel_rfl) (by rfl) (by assumption) ?_;try simp only[Act.put,qA,qB,qC,qD,qE,qF])|(refine sch_yes (v:=?_) rfl (by kernel_rfl) (by rfl) ?_ (by assumption) ?_;rotate_left 1;(· (intro w hSw;(try dsimp only at hSw);go_simp<;>(try simp only[qd])<;>(try simp only[qe])<;>(try simp only[qz])<;>(try simp only[Bool.not_true,Bool.not_false])<;>(with_reducible rfl)));try simp only[Act.put,qA,qB,qC,qD,qE,qF]))
    refine sch_out ?_;refine wpAnyH_done (by kernel_rfl) ?_ _;refine NoPanic.normal ?_;have c1:=hH1;clear hH1;go_wp2_with fail;go_ret;exact⟨ret_bool (by rw[HO.out]),Below.more BW (Below.more HW.out c1)⟩
   | true =>
    rw[q0]at CN;generalize hsg:sgnR (n,e)=sv at CS;by_cases q1:sv≤0
    ·have HO:Hid (mayP ⟨l,(cn,cd)⟩=false):=zh (mayP_stop HLT.out (by rw[HA.out,HP.out,q0,hsg,decide_eq_false (show ¬0<sv by omega)];rfl));have qd:decide (sv≤0)=true:=decide_eq_true q1;clear hx hw q0 hsg;go_wp2_with fail;refine wp_region_noPanic ?_;refine wp_region_held_drew (S:=fun w'=>Below wr.heap.size wr w') (by kernel_rfl) (c0.drew) (fun hH0=>?_);refine sch_in [0,1,2,3,4,5] ?_
     iterate 6 (refine sch_yes (v:=?_) rfl (by kernel_rfl) (by rfl) ?_ (by assumption) ?_;rotate_left 1;(· (intro w hSw;(try dsimp only at hSw);go_simp<;>(try simp only[qd])<;>(try simp only[qe])<;>(try simp only[qz])<;>(try simp only[Bool.not_true,Bool.not_false])<;>(with_reducible rfl)));try simp only[Act.put,qA,qB,qC,qD,qE,qF])
     refine sch_out ?_;refine wpAnyH_ready (rs:=[6]) (by kernel_rfl) (by simp) ?_;refine AllReadyH.cons rfl (fun K hK=>?_) AllReadyH.nil
     go_simp
     refine(held (W:=wr) hB.out (CN.out _) hH0).mono ?_;rintro e' x1 ⟨rfl,hb,hw⟩
     (try go_wp2_with fail)
     refine hK.out _ _ hw (fun hH1=>?_);clear hK hH0 hb hw
     try simp only[Act.put,qA,qB,qC,qD,qE,qF]
     refine sch_in [7,8,9,10,11,12,13,14] ?_
     iterate 8 (refine sch_yes (v:=?_) rfl (by kernel_rfl) (by rfl) ?_ (by assumption) ?_;rotate_left 1;(· (intro w hSw;(try dsimp only at hSw);go_simp<;>(try simp only[qd])<;>(try simp only[qe])<;>(try simp only[qz])<;>(try simp only[Bool.not_true,Bool.not_false])<;>(with_reducible rfl)));try simp only[Act.put,qA,qB,qC,qD,qE,qF])
     refine sch_out ?_;refine wpAnyH_ready (rs:=[15]) (by kernel_rfl) (by simp) ?_;refine AllReadyH.cons rfl (fun K hK=>?_) AllReadyH.nil
     go_simp
     refine(held (W:=wr) hB.out (CS.out _) hH1).mono ?_;rintro e' x2 ⟨rfl,hb,hw⟩
     (try go_wp2_with fail)
     refine hK.out _ _ hw (fun hH2=>?_);clear hK hH1 hb hw
     try simp only[Act.put,qA,qB,qC,qD,qE,qF]
     refine sch_in [16,17,18,19,20,21,22,23,24,25,26,27,28,29,30,31,32,33,34,35,36,37] ?_
     iterate 22 (first|(refine sch_no rfl (by kernel_rfl) (by rfl) (by assumption) ?_;try simp only[Act.put,qA,qB,qC,qD,qE,qF])|(refine sch_yes (v:=?_) rfl (by kernel_rfl) (by rfl) ?_ (by assumption) ?_;rotate_left 1;(· (intro w hSw;(try dsimp only at hSw);go_simp<;>(try simp only[qd])<;>(try simp only[qe])<;>(try simp only[qz])<;>(try simp only[Bool.not_true,Bool.not_false])<;>(with_reducible rfl)));try simp only[Act.put,qA,qB,qC,qD,qE,qF]))
     refine sch_out ?_;refine wpAnyH_done (by kernel_rfl) ?_ _;refine NoPanic.normal ?_;have c1:=hH2;clear hH2;go_wp2_with fail;go_ret;exact⟨ret_bool (by rw[HO.out]),Below.more BW (Below.more HW.out c1)⟩
    ·have HQ:Hid (partB (a,(n,e))=true):=zh (by rw[HP.out,q0,hsg,decide_eq_true (show 0<sv by omega)];rfl);have qd:decide (sv≤0)=false:=decide_eq_false q1;clear q0 hsg
     cases k with
     | zero =>
      have HO:Hid (atB l 0=true):=zh (by rw[HA.out,HQ.out];rfl);clear hx hw;simp only[Nat.zero_mul,Nat.add_zero]at i0 i1 i2;go_wp2_with fail;refine wp_region_noPanic ?_;refine wp_region_held_drew (S:=fun w'=>Below wr.heap.size wr w') (by kernel_rfl) (c0.drew) (fun hH0=>?_);refine sch_in [0,1,2,3,4,5] ?_
      iterate 6 (refine sch_yes (v:=?_) rfl (by kernel_rfl) (by rfl) ?_ (by assumption) ?_;rotate_left 1;(· (intro w hSw;(try dsimp only at hSw);go_simp<;>(try simp only[qd])<;>(try simp only[qe])<;>(try simp only[qz])<;>(try simp only[Bool.not_true,Bool.not_false])<;>(with_reducible rfl)));try simp only[Act.put,qA,qB,qC,qD,qE,qF])
      refine sch_out ?_;refine wpAnyH_ready (rs:=[6]) (by kernel_rfl) (by simp) ?_;refine AllReadyH.cons rfl (fun K hK=>?_) AllReadyH.nil
      go_simp
      refine(held (W:=wr) hB.out (CN.out _) hH0).mono ?_;rintro e' x1 ⟨rfl,hb,hw⟩
      (try go_wp2_with fail)
      refine hK.out _ _ hw (fun hH1=>?_);clear hK hH0 hb hw
      try simp only[Act.put,qA,qB,qC,qD,qE,qF]
      refine sch_in [7,8,9,10,11,12,13,14] ?_
      iterate 8 (refine sch_yes (v:=?_) rfl (by kernel_rfl) (by rfl) ?_ (by assumption) ?_;rotate_left 1;(· (intro w hSw;(try dsimp only at hSw);go_simp<;>(try simp only[qd])<;>(try simp only[qe])<;>(try simp only[qz])<;>(try simp only[Bool.not_true,Bool.not_false])<;>(with_reducible rfl)));try simp only[Act.put,qA,qB,qC,qD,qE,qF])
      refine sch_out ?_;refine wpAnyH_ready (rs:=[15]) (by kernel_rfl) (by simp) ?_;refine AllReadyH.cons rfl (fun K hK=>?_) AllReadyH.nil
      go_simp
      refine(held (W:=wr) hB.out (CS.out _) hH1).mono ?_;rintro e' x2 ⟨rfl,hb,hw⟩
      (try go_wp2_with fail)
      refine hK.out _ _ hw (fun hH2=>?_);clear hK hH1 hb hw
      try simp only[Act.put,qA,qB,qC,qD,qE,qF]
      refine sch_in [16,17,18,19,20,21,22,23,24,25,26,27,28,29,30,31,32,33,34,35,36,37] ?_
      iterate 22 (first|(refine sch_no rfl (by kernel_rfl) (by rfl) (by assumption) ?_;try simp only[Act.put,qA,qB,qC,qD,qE,qF])|(refine sch_yes (v:=?_) rfl (by kernel_rfl) (by rfl) ?_ (by assumption) ?_;rotate_left 1;(· (intro w hSw;(try dsimp only at hSw);go_simp<;>(try simp only[qd])<;>(try simp only[qe])<;>(try simp only[qz])<;>(try simp only[Bool.not_true,Bool.not_false])<;>(with_reducible rfl)));try simp only[Act.put,qA,qB,qC,qD,qE,qF]))
      refine sch_out ?_;refine wpAnyH_done (by kernel_rfl) ?_ _;refine NoPanic.normal ?_;have c1:=hH2;clear hH2;go_wp2_with fail;go_roundw
      case rel=>exact⟨0+1,hlt,by go_num,fun j hj=>(by rcases Nat.lt_succ_iff_lt_or_eq.1 hj with h|h;exact HJ.out j h;rw[h];exact HO.out),Below.more HW.out c1⟩
      case measure=>simp[intOf];omega
     | succ m =>
      obtain⟨⟨a',⟨n',e''⟩⟩,hy⟩:∃x,l[m]?=some x:=⟨_,List.getElem?_eq_getElem (by omega)⟩;obtain⟨b',o',hp',g0,g1,g2⟩:=pt_rule (HS.out.below hw) hy;obtain⟨rfl,rfl⟩:b=b'∧o=o':=by
       have:=Option.some.inj hp';exact⟨congrArg Addr.block this,congrArg Addr.off this⟩
      have HA2:Hid (atB l (m+1)=Op.bytesLess a' a):=zh (by rw[HA.out,HQ.out,show m+1-1=m from rfl,hy];rfl);have hwr:IntKind.i64.wrap (m:Int)=(m:Int):=IntWalk.i64_in _ (by omega);have hlm:(m:Int)<(l.length:Int):=by omega
      have hpos:(0:Int)<(m:Int)+1:=by omega
      have hge:(0:Int)≤(m:Int)+1:=by omega
      have qz:decide ((0:Int)<(m:Int)+1)=true:=decide_eq_true hpos;clear hx hy hw hp'
      cases q2:Op.bytesLess a' a with
      | false =>
       have HO:Hid (mayP ⟨l,(cn,cd)⟩=false):=zh (mayP_stop HLT.out (by rw[HA2.out,q2]));have qe:=q2;go_wp2_with fail;refine wp_region_noPanic ?_;refine wp_region_held_drew (S:=fun w'=>Below wr.heap.size wr w') (by kernel_rfl) (c0.drew) (fun hH0=>?_);refine sch_in [0,1,2,3,4,5] ?_
       iterate 6 (refine sch_yes (v:=?_) rfl (by kernel_rfl) (by rfl) ?_ (by assumption) ?_;rotate_left 1;(· (intro w hSw;(try dsimp only at hSw);go_simp<;>(try simp only[qd])<;>(try simp only[qe])<;>(try simp only[qz])<;>(try simp only[Bool.not_true,Bool.not_false])<;>(with_reducible rfl)));try simp only[Act.put,qA,qB,qC,qD,qE,qF])
       refine sch_out ?_;refine wpAnyH_ready (rs:=[6]) (by kernel_rfl) (by simp) ?_;refine AllReadyH.cons rfl (fun K hK=>?_) AllReadyH.nil
       go_simp
       refine(held (W:=wr) hB.out (CN.out _) hH0).mono ?_;rintro e' x1 ⟨rfl,hb,hw⟩
       (try go_wp2_with fail)
       refine hK.out _ _ hw (fun hH1=>?_);clear hK hH0 hb hw
       try simp only[Act.put,qA,qB,qC,qD,qE,qF]
       refine sch_in [7,8,9,10,11,12,13,14] ?_
       iterate 8 (refine sch_yes (v:=?_) rfl (by kernel_rfl) (by rfl) ?_ (by assumption) ?_;rotate_left 1;(· (intro w hSw;(try dsimp only at hSw);go_simp<;>(try simp only[qd])<;>(try simp only[qe])<;>(try simp only[qz])<;>(try simp only[Bool.not_true,Bool.not_false])<;>(with_reducible rfl)));try simp only[Act.put,qA,qB,qC,qD,qE,qF])
       refine sch_out ?_;refine wpAnyH_ready (rs:=[15]) (by kernel_rfl) (by simp) ?_;refine AllReadyH.cons rfl (fun K hK=>?_) AllReadyH.nil
       go_simp
       refine(held (W:=wr) hB.out (CS.out _) hH1).mono ?_;rintro e' x2 ⟨rfl,hb,hw⟩
       (try go_wp2_with fail)
       refine hK.out _ _ hw (fun hH2=>?_);clear hK hH1 hb hw
       try simp only[Act.put,qA,qB,qC,qD,qE,qF]
       refine sch_in [16,17,18,19,20,21,22,23,24,25,26,27,28,29,30,31,32,33,34,35,36,37] ?_
       iterate 22 (refine sch_yes (v:=?_) rfl (by kernel_rfl) (by rfl) ?_ (by assumption) ?_;rotate_left 1;(· (intro w hSw;(try dsimp only at hSw);go_simp<;>(try simp only[qd])<;>(try simp only[qe])<;>(try simp only[qz])<;>(try simp only[Bool.not_true,Bool.not_false])<;>(with_reducible rfl)));try simp only[Act.put,qA,qB,qC,qD,qE,qF])
       refine sch_out ?_;refine wpAnyH_done (by kernel_rfl) ?_ _;refine NoPanic.normal ?_;have c1:=hH2;clear hH2;go_wp2_with fail;go_ret;exact⟨ret_bool (by rw[HO.out]),Below.more BW (Below.more HW.out c1)⟩
      | true =>
       have HO:Hid (atB l (m+1)=true):=zh (by rw[HA2.out,q2]);have qe:=q2;go_wp2_with fail;refine wp_region_noPanic ?_;refine wp_region_held_drew (S:=fun w'=>Below wr.heap.size wr w') (by kernel_rfl) (c0.drew) (fun hH0=>?_);refine sch_in [0,1,2,3,4,5] ?_
       iterate 6 (refine sch_yes (v:=?_) rfl (by kernel_rfl) (by rfl) ?_ (by assumption) ?_;rotate_left 1;(· (intro w hSw;(try dsimp only at hSw);go_simp<;>(try simp only[qd])<;>(try simp only[qe])<;>(try simp only[qz])<;>(try simp only[Bool.not_true,Bool.not_false])<;>(with_reducible rfl)));try simp only[Act.put,qA,qB,qC,qD,qE,qF])
       refine sch_out ?_;refine wpAnyH_ready (rs:=[6]) (by kernel_rfl) (by simp) ?_;refine AllReadyH.cons rfl (fun K hK=>?_) AllReadyH.nil
       go_simp
       refine(held (W:=wr) hB.out (CN.out _) hH0).mono ?_;rintro e' x1 ⟨rfl,hb,hw⟩
       (try go_wp2_with fail)
       refine hK.out _ _ hw (fun hH1=>?_);clear hK hH0 hb hw
       try simp only[Act.put,qA,qB,qC,qD,qE,qF]
       refine sch_in [7,8,9,10,11,12,13,14] ?_
       iterate 8 (refine sch_yes (v:=?_) rfl (by kernel_rfl) (by rfl) ?_ (by assumption) ?_;rotate_left 1;(· (intro w hSw;(try dsimp only at hSw);go_simp<;>(try simp only[qd])<;>(try simp only[qe])<;>(try simp only[qz])<;>(try simp only[Bool.not_true,Bool.not_false])<;>(with_reducible rfl)));try simp only[Act.put,qA,qB,qC,qD,qE,qF])
       refine sch_out ?_;refine wpAnyH_ready (rs:=[15]) (by kernel_rfl) (by simp) ?_;refine AllReadyH.cons rfl (fun K hK=>?_) AllReadyH.nil
       go_simp
       refine(held (W:=wr) hB.out (CS.out _) hH1).mono ?_;rintro e' x2 ⟨rfl,hb,hw⟩
       (try go_wp2_with fail)
       refine hK.out _ _ hw (fun hH2=>?_);clear hK hH1 hb hw
       try simp only[Act.put,qA,qB,qC,qD,qE,qF]
       refine sch_in [16,17,18,19,20,21,22,23,24,25,26,27,28,29,30,31,32,33,34,35,36,37] ?_
       iterate 22 (refine sch_yes (v:=?_) rfl (by kernel_rfl) (by rfl) ?_ (by assumption) ?_;rotate_left 1;(· (intro w hSw;(try dsimp only at hSw);go_simp<;>(try simp only[qd])<;>(try simp only[qe])<;>(try simp only[qz])<;>(try simp only[Bool.not_true,Bool.not_false])<;>(with_reducible rfl)));try simp only[Act.put,qA,qB,qC,qD,qE,qF])
       refine sch_out ?_;refine wpAnyH_done (by kernel_rfl) ?_ _;refine NoPanic.normal ?_;have c1:=hH2;clear hH2;go_wp2_with fail;go_roundw
       case rel=>exact⟨(m+1)+1,hlt,by go_num,fun j hj=>(by rcases Nat.lt_succ_iff_lt_or_eq.1 hj with h|h;exact HJ.out j h;rw[h];exact HO.out),Below.more HW.out c1⟩
       case measure=>simp[intOf];omega
  ·obtain rfl:k=l.length:=by omega
   have HO:Hid (mayP ⟨l,(cn,cd)⟩=isR (cn,cd)):=zh (mayP_end HJ.out);go_wp2_with fail;refine(CM.out _).mono ?_;rintro e1 w1 ⟨rfl,b⟩;have b1:=Below.more hw b;clear b;go_wp2_with fail;go_ret;exact⟨ret_bool (by rw[HO.out]),Below.more BW b1⟩
end Go.Proofs.YthgopcnagecbaaaGreatDoor
