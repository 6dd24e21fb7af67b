/- Own work. -/
import Derived.Test.YthgopcnagecbaaaGreatDoorAllPk1
import Derived.Test.YthgopcnagecbaaaGreatDoorAllRefK4
set_option linter.unusedSimpArgs false
set_option linter.unusedVariables false
set_option maxHeartbeats 4000000
set_option maxRecDepth 100000
namespace Go.Proofs.YthgopcnagecbaaaGreatDoor
open Go.RowKit
open Pk (Part Pack mayP valueP keepsP ofP)
open Pk (atB partB)
theorem cmp_geqP(a b:List UInt8):decide (0≤Lib.compareBytes a b)=!Op.bytesLess a b:=by
 rcases less_cases a b with h|h|h
 ·rw[cmp_lt h,h];rfl
 ·rw[h,cmp_self,less_irrefl];rfl
 ·rw[cmp_gt h];have:Op.bytesLess a b=false:=by
   cases e:Op.bytesLess a b with
   | false=>rfl
   | true=>have:=less_trans e h;rw[less_irrefl]at this;cases this
  rw[this];rfl
theorem pmay_x(p:Option Addr)(c:Nat)(l:List Part)(cn cd:List UInt8)(w:World)(hc:l.length≤c)(hl:l.length≤1000000)(hz:∀y∈l,y.2.1.length≤20000∧y.2.2.length≤20000)(z1:cn.length≤20000)(z2:cd.length≤20000)(h:Pts w p l) :
  Calls Tryz.prog 17 #[.agg #[.slice p l.length c,.string ⟨cn.toArray⟩,.string ⟨cd.toArray⟩]] w (GiveB w (mayP ⟨l,(cn,cd)⟩)):=by
 have HS:=zh h;have HZ:=zh hz;clear h hz
 have CM:Hid (∀V,Calls Tryz.prog 44 #[.agg #[.string ⟨cn.toArray⟩,.string ⟨cd.toArray⟩]] V (GiveB V (isR (cn,cd)))):=zh (fun V=>qmay_any ⟨cn.toArray⟩ ⟨cd.toArray⟩ V (by rw[size_of];omega) (by rw[size_of];omega));go_enter Tryz.func17,Tryz.ntmps17;go_wp2_with fail;obtain⟨W,hW,BW,_,kk⟩:=layN (Below.refl w.heap.size w) #[.slice p l.length c,.string ⟨cn.toArray⟩,.string ⟨cd.toArray⟩] 28
 (try (rw[hW]));clear hW
 replace HS:=zh (HS.out.below BW);have k0:=kk 0 _ rfl;have k1:=kk 1 _ rfl;have k2:=kk 2 _ rfl
 clear kk
 (try go_wp2_with fail)
 go_loopw [8] (fun i wr=>∃k:Nat,k≤l.length∧i=.int .i64 k∧Hid (∀j,j<k→atB l j=true)∧Below W.heap.size W wr) (fun i _=>l.length-(intOf i).toNat)
 case atStart=>exact⟨0,Nat.zero_le _,rfl,fun j h=>absurd h (Nat.not_lt_zero j),Below.refl _ _⟩
 case round =>
  obtain⟨k,hk,rfl,HJ,hw⟩:=hrel;by_cases hlt:k<l.length
  ·obtain⟨⟨a,⟨n,e⟩⟩,hx⟩:∃x,l[k]?=some x:=⟨_,List.getElem?_eq_getElem hlt⟩;obtain⟨b,o,rfl,i0,i1,i2⟩:=pt_rule (HS.out.below hw) hx;obtain⟨y2,y3⟩:=HZ.out _ (List.mem_of_getElem? hx);dsimp only at y2 y3;have CN:Hid (∀V,Calls Tryz.prog 41 #[.string ⟨a.toArray⟩] V (GiveB V (isName a))):=zh (fun V=>bname_any ⟨a.toArray⟩ V);have CS:Hid (∀V,Calls Tryz.prog 42 #[.agg #[.string ⟨n.toArray⟩,.string ⟨e.toArray⟩]] V (GiveI V (sgnR (n,e)))):=zh (fun V=>qsign_any ⟨n.toArray⟩ ⟨e.toArray⟩ V (by rw[size_of];omega) (by rw[size_of];omega));have HA:=zh (atB_at hx);have HP:=zh (show partB (a,(n,e))=(isName a&&decide (0<sgnR (n,e))) from rfl);clear y2 y3
   cases q0:isName a with
   | false =>
    have HO:Hid (mayP ⟨l,(cn,cd)⟩=false):=zh (mayP_stop hlt (by rw[HA.out,HP.out,q0];rfl));rw[q0]at CN;clear hx q0;have bw:=Below.refl wr.heap.size wr
    go_upto_region 4 with fail
    obtain⟨U,hU,bU,s1,rr⟩:=layN (Below.refl wr.heap.size wr) #[.string ⟨a.toArray⟩,.string ⟨n.toArray⟩,.string ⟨e.toArray⟩] 45;rw[hU];clear hU s1;have r0:=rr 0 _ rfl;have r1:=rr 1 _ rfl;have r2:=rr 2 _ rfl
    clear rr;replace k0:=fun v (h:Below U.heap.size U v)=>k0 v (Below.more hw (Below.more bU h));replace i0:=fun v (h:Below U.heap.size U v)=>i0 v (Below.more bU h);replace i1:=fun v (h:Below U.heap.size U v)=>i1 v (Below.more bU h);replace i2:=fun v (h:Below U.heap.size U v)=>i2 v (Below.more bU h);have HW:=zh (Below.more hw bU);have b0:=Below.refl U.heap.size U;have hB:=zh (Nat.le_refl U.heap.size);clear hw bU bw;go_wp2_with fail;refine(CN.out _).mono ?_;rintro e0 w1 ⟨rfl,b⟩;have b1:=Below.more b0 b;clear b;go_wp2_with fail;go_ret;exact⟨ret_bool (by rw[HO.out]),Below.more BW (Below.more HW.out b1)⟩
   | true =>
    rw[q0]at CN;generalize hsg:sgnR (n,e)=sv at CS;by_cases q1:sv≤0
    ·have HO:Hid (mayP ⟨l,(cn,cd)⟩=false):=zh (mayP_stop hlt (by rw[HA.out,HP.out,q0,hsg,decide_eq_false (show ¬0<sv by omega)];rfl));clear hx q0 hsg;have bw:=Below.refl wr.heap.size wr
     go_upto_region 4 with fail
     obtain⟨U,hU,bU,s1,rr⟩:=layN (Below.refl wr.heap.size wr) #[.string ⟨a.toArray⟩,.string ⟨n.toArray⟩,.string ⟨e.toArray⟩] 45;rw[hU];clear hU s1;have r0:=rr 0 _ rfl;have r1:=rr 1 _ rfl;have r2:=rr 2 _ rfl
     clear rr;replace k0:=fun v (h:Below U.heap.size U v)=>k0 v (Below.more hw (Below.more bU h));replace i0:=fun v (h:Below U.heap.size U v)=>i0 v (Below.more bU h);replace i1:=fun v (h:Below U.heap.size U v)=>i1 v (Below.more bU h);replace i2:=fun v (h:Below U.heap.size U v)=>i2 v (Below.more bU h);have HW:=zh (Below.more hw bU);have b0:=Below.refl U.heap.size U;have hB:=zh (Nat.le_refl U.heap.size);clear hw bU bw;go_wp2_with fail;refine(CN.out _).mono ?_;rintro e0 w1 ⟨rfl,b⟩;have b1:=Below.more b0 b;clear b;go_wp2_with fail;refine(CS.out _).mono ?_;rintro e0 w2 ⟨rfl,b⟩;have b2:=Below.more b1 b;clear b;go_wp2_with fail;go_ret;exact⟨ret_bool (by rw[HO.out]),Below.more BW (Below.more HW.out b2)⟩
    ·have HQ:Hid (partB (a,(n,e))=true):=zh (by rw[HP.out,q0,hsg,decide_eq_true (show 0<sv by omega)];rfl);clear q0 hsg
     cases k with
     | zero =>
      have HO:Hid (atB l 0=true):=zh (by rw[HA.out,HQ.out];rfl);clear hx;simp only[Nat.zero_mul,Nat.add_zero]at i0 i1 i2;have bw:=Below.refl wr.heap.size wr
      go_upto_region 4 with fail
      obtain⟨U,hU,bU,s1,rr⟩:=layN (Below.refl wr.heap.size wr) #[.string ⟨a.toArray⟩,.string ⟨n.toArray⟩,.string ⟨e.toArray⟩] 45;rw[hU];clear hU s1;have r0:=rr 0 _ rfl;have r1:=rr 1 _ rfl;have r2:=rr 2 _ rfl
      clear rr;replace k0:=fun v (h:Below U.heap.size U v)=>k0 v (Below.more hw (Below.more bU h));replace i0:=fun v (h:Below U.heap.size U v)=>i0 v (Below.more bU h);replace i1:=fun v (h:Below U.heap.size U v)=>i1 v (Below.more bU h);replace i2:=fun v (h:Below U.heap.size U v)=>i2 v (Below.more bU h);have HW:=zh (Below.more hw bU);have b0:=Below.refl U.heap.size U;have hB:=zh (Nat.le_refl U.heap.size);clear hw bU bw;go_wp2_with fail;refine(CN.out _).mono ?_;rintro e0 w1 ⟨rfl,b⟩;have b1:=Below.more b0 b;clear b;go_wp2_with fail;refine(CS.out _).mono ?_;rintro e0 w2 ⟨rfl,b⟩;have b2:=Below.more b1 b;clear b;go_wp2_with fail;refine wp_region_noPanic ?_;refine wp_region_held_drew (S:=fun w'=>Below U.heap.size U w') (by kernel_rfl) (b2.drew) (fun hH0=>?_);refine wpAnyH_take (i:=0) (v:=?_) rfl (by kernel_rfl) (by kernel_rfl) (by kernel_rfl) (fun _ _ _ h=>h) (Or.inl ⟨by rfl,?_⟩) (by assumption) ?_;rotate_left 1
      ·(intro w hSw;(try dsimp only at hSw);go_simp<;>(with_reducible rfl))
      try simp only[Act.put,qA,qB,qC,qD,qE,qF]
      refine wpAnyH_take (i:=1) (v:=?_) rfl (by kernel_rfl) (by kernel_rfl) (by kernel_rfl) (fun _ _ _ h=>h) (Or.inl ⟨by rfl,?_⟩) (by assumption) ?_;rotate_left 1
      ·(intro w hSw;(try dsimp only at hSw);go_simp<;>(with_reducible rfl))
      try simp only[Act.put,qA,qB,qC,qD,qE,qF]
      refine wpAnyH_take (i:=2) (v:=?_) rfl (by kernel_rfl) (by kernel_rfl) (by kernel_rfl) (fun _ _ _ h=>h) (Or.inl ⟨by rfl,?_⟩) (by assumption) ?_;rotate_left 1
      ·(intro w hSw;(try dsimp only at hSw);go_simp<;>(with_reducible rfl))
      try simp only[Act.put,qA,qB,qC,qD,qE,qF]
      refine wpAnyH_take (i:=3) (v:=undef) rfl (by kernel_rfl) (by kernel_rfl) (by kernel_rfl) (fun _ _ _ h=>h) (Or.inr ⟨by rfl,rfl⟩) (by assumption) ?_
      try simp only[Act.put,qA,qB,qC,qD,qE,qF]
      refine wpAnyH_take (i:=4) (v:=undef) rfl (by kernel_rfl) (by kernel_rfl) (by kernel_rfl) (fun _ _ _ h=>h) (Or.inr ⟨by rfl,rfl⟩) (by assumption) ?_
      try simp only[Act.put,qA,qB,qC,qD,qE,qF]
      refine wpAnyH_take (i:=5) (v:=undef) rfl (by kernel_rfl) (by kernel_rfl) (by kernel_rfl) (fun _ _ _ h=>h) (Or.inr ⟨by rfl,rfl⟩) (by assumption) ?_
      try simp only[Act.put,qA,qB,qC,qD,qE,qF]
      refine wpAnyH_take (i:=6) (v:=undef) rfl (by kernel_rfl) (by kernel_rfl) (by kernel_rfl) (fun _ _ _ h=>h) (Or.inr ⟨by rfl,rfl⟩) (by assumption) ?_
      try simp only[Act.put,qA,qB,qC,qD,qE,qF]
      refine wpAnyH_take (i:=7) (v:=undef) rfl (by kernel_rfl) (by kernel_rfl) (by kernel_rfl) (fun _ _ _ h=>h) (Or.inr ⟨by rfl,rfl⟩) (by assumption) ?_
      try simp only[Act.put,qA,qB,qC,qD,qE,qF]
      refine wpAnyH_take (i:=8) (v:=undef) rfl (by kernel_rfl) (by kernel_rfl) (by kernel_rfl) (fun _ _ _ h=>h) (Or.inr ⟨by rfl,rfl⟩) (by assumption) ?_
      try simp only[Act.put,qA,qB,qC,qD,qE,qF]
      refine wpAnyH_take (i:=9) (v:=undef) rfl (by kernel_rfl) (by kernel_rfl) (by kernel_rfl) (fun _ _ _ h=>h) (Or.inr ⟨by rfl,rfl⟩) (by assumption) ?_
      try simp only[Act.put,qA,qB,qC,qD,qE,qF]
      refine wpAnyH_take (i:=10) (v:=undef) rfl (by kernel_rfl) (by kernel_rfl) (by kernel_rfl) (fun _ _ _ h=>h) (Or.inr ⟨by rfl,rfl⟩) (by assumption) ?_
      try simp only[Act.put,qA,qB,qC,qD,qE,qF]
      refine wpAnyH_take (i:=11) (v:=undef) rfl (by kernel_rfl) (by kernel_rfl) (by kernel_rfl) (fun _ _ _ h=>h) (Or.inr ⟨by rfl,rfl⟩) (by assumption) ?_
      try simp only[Act.put,qA,qB,qC,qD,qE,qF]
      refine wpAnyH_take (i:=12) (v:=?_) rfl (by kernel_rfl) (by kernel_rfl) (by kernel_rfl) (fun _ _ _ h=>h) (Or.inl ⟨by rfl,?_⟩) (by assumption) ?_;rotate_left 1
      ·(intro w hSw;(try dsimp only at hSw);go_simp<;>(with_reducible rfl))
      try simp only[Act.put,qA,qB,qC,qD,qE,qF]
      refine wpAnyH_done (by kernel_rfl) ?_ _;refine NoPanic.normal ?_;have b3:=hH0;clear hH0;go_wp2_with fail;go_roundw
      case rel=>exact⟨0+1,hlt,by go_num,fun j hj=>(by rcases Nat.lt_succ_iff_lt_or_eq.1 hj with h|h;exact HJ.out j h;rw[h];exact HO.out),Below.more HW.out b3⟩
      case measure=>simp[intOf];omega
     | succ m =>
      obtain⟨⟨a',⟨n',e''⟩⟩,hy⟩:∃x,l[m]?=some x:=⟨_,List.getElem?_eq_getElem (by omega)⟩;obtain⟨b',o',hp',g0,g1,g2⟩:=pt_rule (HS.out.below hw) hy;obtain⟨rfl,rfl⟩:b=b'∧o=o':=by
       have:=Option.some.inj hp';exact⟨congrArg Addr.block this,congrArg Addr.off this⟩
      have HA2:Hid (atB l (m+1)=Op.bytesLess a' a):=zh (by rw[HA.out,HQ.out,show m+1-1=m from rfl,hy];rfl);have CO:=zh (fun V=>order_any a' n' e'' a n e V);have hord:=cmp_geqP a' a;generalize hsq:Lib.compareBytes a' a=sq at CO hord;clear hsq;have hm1:((m+1:Nat):Int)-1=(m:Int):=by omega
      have hm0:(0:Int)<((m+1:Nat):Int):=by omega
      have hwm:IntKind.i64.wrap (m:Int)=(m:Int):=IntWalk.i64_in _ (by omega);have hml:(m:Int)<(l.length:Int):=by omega
      clear hx hy hp'
      cases q2:Op.bytesLess a' a with
      | false =>
       have HO:Hid (mayP ⟨l,(cn,cd)⟩=false):=zh (mayP_stop hlt (by rw[HA2.out,q2]));have hq:0≤sq:=by rw[q2]at hord;simpa using hord
       clear hord q2;have bw:=Below.refl wr.heap.size wr
       go_upto_region 4 with fail
       obtain⟨U,hU,bU,s1,rr⟩:=layN (Below.refl wr.heap.size wr) #[.string ⟨a.toArray⟩,.string ⟨n.toArray⟩,.string ⟨e.toArray⟩] 45;rw[hU];clear hU s1;have r0:=rr 0 _ rfl;have r1:=rr 1 _ rfl;have r2:=rr 2 _ rfl
       clear rr;replace k0:=fun v (h:Below U.heap.size U v)=>k0 v (Below.more hw (Below.more bU h));replace i0:=fun v (h:Below U.heap.size U v)=>i0 v (Below.more bU h);replace i1:=fun v (h:Below U.heap.size U v)=>i1 v (Below.more bU h);replace i2:=fun v (h:Below U.heap.size U v)=>i2 v (Below.more bU h);replace g0:=fun v (h:Below U.heap.size U v)=>g0 v (Below.more bU h);replace g1:=fun v (h:Below U.heap.size U v)=>g1 v (Below.more bU h);replace g2:=fun v (h:Below U.heap.size U v)=>g2 v (Below.more bU h);have HW:=zh (Below.more hw bU);have b0:=Below.refl U.heap.size U;have hB:=zh (Nat.le_refl U.heap.size);clear hw bU bw;go_wp2_with fail;refine(CN.out _).mono ?_;rintro e0 w1 ⟨rfl,b⟩;have b1:=Below.more b0 b;clear b;go_wp2_with fail;refine(CS.out _).mono ?_;rintro e0 w2 ⟨rfl,b⟩;have b2:=Below.more b1 b;clear b;go_wp2_with fail;refine wp_region_noPanic ?_;refine wp_region_held_drew (S:=fun w'=>Below U.heap.size U w') (by kernel_rfl) (b2.drew) (fun hH0=>?_);refine wpAnyH_take (i:=0) (v:=?_) rfl (by kernel_rfl) (by kernel_rfl) (by kernel_rfl) (fun _ _ _ h=>h) (Or.inl ⟨by rfl,?_⟩) (by assumption) ?_;rotate_left 1
       ·(intro w hSw;(try dsimp only at hSw);go_simp<;>(with_reducible rfl))
       try simp only[Act.put,qA,qB,qC,qD,qE,qF]
       refine wpAnyH_take (i:=1) (v:=?_) rfl (by kernel_rfl) (by kernel_rfl) (by kernel_rfl) (fun _ _ _ h=>h) (Or.inl ⟨by rfl,?_⟩) (by assumption) ?_;rotate_left 1
       ·(intro w hSw;(try dsimp only at hSw);go_simp<;>(with_reducible rfl))
       try simp only[Act.put,qA,qB,qC,qD,qE,qF]
       refine wpAnyH_take (i:=2) (v:=?_) rfl (by kernel_rfl) (by kernel_rfl) (by kernel_rfl) (fun _ _ _ h=>h) (Or.inl ⟨by rfl,?_⟩) (by assumption) ?_;rotate_left 1
       ·(intro w hSw;(try dsimp only at hSw);go_simp<;>(with_reducible rfl))
       try simp only[Act.put,qA,qB,qC,qD,qE,qF]
       refine wpAnyH_take (i:=3) (v:=?_) rfl (by kernel_rfl) (by kernel_rfl) (by kernel_rfl) (fun _ _ _ h=>h) (Or.inl ⟨by rfl,?_⟩) (by assumption) ?_;rotate_left 1
       ·(intro w hSw;(try dsimp only at hSw);go_simp<;>(with_reducible rfl))
       try simp only[Act.put,qA,qB,qC,qD,qE,qF]
       refine wpAnyH_take (i:=4) (v:=?_) rfl (by kernel_rfl) (by kernel_rfl) (by kernel_rfl) (fun _ _ _ h=>h) (Or.inl ⟨by rfl,?_⟩) (by assumption) ?_;rotate_left 1
       ·(intro w hSw;(try dsimp only at hSw);go_simp<;>(with_reducible rfl))
       try simp only[Act.put,qA,qB,qC,qD,qE,qF]
       refine wpAnyH_take (i:=5) (v:=?_) rfl (by kernel_rfl) (by kernel_rfl) (by kernel_rfl) (fun _ _ _ h=>h) (Or.inl ⟨by rfl,?_⟩) (by assumption) ?_;rotate_left 1
       ·(intro w hSw;(try dsimp only at hSw);go_simp<;>(with_reducible rfl))
       try simp only[Act.put,qA,qB,qC,qD,qE,qF]
       refine wpAnyH_take (i:=6) (v:=?_) rfl (by kernel_rfl) (by kernel_rfl) (by kernel_rfl) (fun _ _ _ h=>h) (Or.inl ⟨by rfl,?_⟩) (by assumption) ?_;rotate_left 1
       ·(intro w hSw;(try dsimp only at hSw);go_simp<;>(with_reducible rfl))
       try simp only[Act.put,qA,qB,qC,qD,qE,qF]
       refine wpAnyH_take (i:=7) (v:=?_) rfl (by kernel_rfl) (by kernel_rfl) (by kernel_rfl) (fun _ _ _ h=>h) (Or.inl ⟨by rfl,?_⟩) (by assumption) ?_;rotate_left 1
       ·(intro w hSw;(try dsimp only at hSw);go_simp<;>(with_reducible rfl))
       try simp only[Act.put,qA,qB,qC,qD,qE,qF]
       refine wpAnyH_take (i:=8) (v:=?_) rfl (by kernel_rfl) (by kernel_rfl) (by kernel_rfl) (fun _ _ _ h=>h) (Or.inl ⟨by rfl,?_⟩) (by assumption) ?_;rotate_left 1
       ·(intro w hSw;(try dsimp only at hSw);go_simp<;>(with_reducible rfl))
       try simp only[Act.put,qA,qB,qC,qD,qE,qF]
       refine wpAnyH_take (i:=9) (v:=?_) rfl (by kernel_rfl) (by kernel_rfl) (by kernel_rfl) (fun _ _ _ h=>h) (Or.inl ⟨by rfl,?_⟩) (by assumption) ?_;rotate_left 1
       ·(intro w hSw;(try dsimp only at hSw);go_simp<;>(with_reducible rfl))
       try simp only[Act.put,qA,qB,qC,qD,qE,qF]
       refine wpAnyH_ready (rs:=[10]) (by kernel_rfl) (by simp) ?_;refine AllReadyH.cons rfl (fun K hK=>?_) AllReadyH.nil
       go_simp
       refine(held (W:=U) hB.out (CO.out _) (by assumption)).mono ?_;rintro e w'' ⟨rfl,hb,hw⟩
       (try go_wp2_with fail)
       refine hK.out _ _ hw (fun hH1=>?_);clear hK hH0 hb
       try simp only[Act.put,qA,qB,qC,qD,qE,qF]
       refine wpAnyH_take (i:=11) (v:=?_) rfl (by kernel_rfl) (by kernel_rfl) (by kernel_rfl) (fun _ _ _ h=>h) (Or.inl ⟨by rfl,?_⟩) (by assumption) ?_;rotate_left 1
       ·(intro w hSw;(try dsimp only at hSw);go_simp<;>(with_reducible rfl))
       try simp only[Act.put,qA,qB,qC,qD,qE,qF]
       refine wpAnyH_take (i:=12) (v:=?_) rfl (by kernel_rfl) (by kernel_rfl) (by kernel_rfl) (fun _ _ _ h=>h) (Or.inl ⟨by rfl,?_⟩) (by assumption) ?_;rotate_left 1
       ·(intro w hSw;(try dsimp only at hSw);go_simp<;>(with_reducible rfl))
       try simp only[Act.put,qA,qB,qC,qD,qE,qF]
       refine wpAnyH_done (by kernel_rfl) ?_ _;refine NoPanic.normal ?_;have b3:=hw;clear hw;go_wp2_with fail;go_ret;exact⟨ret_bool (by rw[HO.out]),Below.more BW (Below.more HW.out b3)⟩
      | true =>
       have HO:Hid (atB l (m+1)=true):=zh (by rw[HA2.out,q2]);have hq:¬0≤sq:=by rw[q2]at hord;simpa using hord
       clear hord q2;have bw:=Below.refl wr.heap.size wr
       go_upto_region 4 with fail
       obtain⟨U,hU,bU,s1,rr⟩:=layN (Below.refl wr.heap.size wr) #[.string ⟨a.toArray⟩,.string ⟨n.toArray⟩,.string ⟨e.toArray⟩] 45;rw[hU];clear hU s1;have r0:=rr 0 _ rfl;have r1:=rr 1 _ rfl;have r2:=rr 2 _ rfl
       clear rr;replace k0:=fun v (h:Below U.heap.size U v)=>k0 v (Below.more hw (Below.more bU h));replace i0:=fun v (h:Below U.heap.size U v)=>i0 v (Below.more bU h);replace i1:=fun v (h:Below U.heap.size U v)=>i1 v (Below.more bU h);replace i2:=fun v (h:Below U.heap.size U v)=>i2 v (Below.more bU h);replace g0:=fun v (h:Below U.heap.size U v)=>g0 v (Below.more bU h);replace g1:=fun v (h:Below U.heap.size U v)=>g1 v (Below.more bU h);replace g2:=fun v (h:Below U.heap.size U v)=>g2 v (Below.more bU h);have HW:=zh (Below.more hw bU);have b0:=Below.refl U.heap.size U;have hB:=zh (Nat.le_refl U.heap.size);clear hw bU bw;go_wp2_with fail;refine(CN.out _).mono ?_;rintro e0 w1 ⟨rfl,b⟩;have b1:=Below.more b0 b;clear b;go_wp2_with fail;refine(CS.out _).mono ?_;rintro e0 w2 ⟨rfl,b⟩;have b2:=Below.more b1 b;clear b;go_wp2_with fail;refine wp_region_noPanic ?_;refine wp_region_held_drew (S:=fun w'=>Below U.heap.size U w') (by kernel_rfl) (b2.drew) (fun hH0=>?_);refine wpAnyH_take (i:=0) (v:=?_) rfl (by kernel_rfl) (by kernel_rfl) (by kernel_rfl) (fun _ _ _ h=>h) (Or.inl ⟨by rfl,?_⟩) (by assumption) ?_;rotate_left 1
       ·(intro w hSw;(try dsimp only at hSw);go_simp<;>(with_reducible rfl))
       try simp only[Act.put,qA,qB,qC,qD,qE,qF]
       refine wpAnyH_take (i:=1) (v:=?_) rfl (by kernel_rfl) (by kernel_rfl) (by kernel_rfl) (fun _ _ _ h=>h) (Or.inl ⟨by rfl,?_⟩) (by assumption) ?_;rotate_left 1
       ·(intro w hSw;(try dsimp only at hSw);go_simp<;>(with_reducible rfl))
       try simp only[Act.put,qA,qB,qC,qD,qE,qF]
       refine wpAnyH_take (i:=2) (v:=?_) rfl (by kernel_rfl) (by kernel_rfl) (by kernel_rfl) (fun _ _ _ h=>h) (Or.inl ⟨by rfl,?_⟩) (by assumption) ?_;rotate_left 1
       ·(intro w hSw;(try dsimp only at hSw);go_simp<;>(with_reducible rfl))
       try simp only[Act.put,qA,qB,qC,qD,qE,qF]
       refine wpAnyH_take (i:=3) (v:=?_) rfl (by kernel_rfl) (by kernel_rfl) (by kernel_rfl) (fun _ _ _ h=>h) (Or.inl ⟨by rfl,?_⟩) (by assumption) ?_;rotate_left 1
       ·(intro w hSw;(try dsimp only at hSw);go_simp<;>(with_reducible rfl))
       try simp only[Act.put,qA,qB,qC,qD,qE,qF]
       refine wpAnyH_take (i:=4) (v:=?_) rfl (by kernel_rfl) (by kernel_rfl) (by kernel_rfl) (fun _ _ _ h=>h) (Or.inl ⟨by rfl,?_⟩) (by assumption) ?_;rotate_left 1
       ·(intro w hSw;(try dsimp only at hSw);go_simp<;>(with_reducible rfl))
       try simp only[Act.put,qA,qB,qC,qD,qE,qF]
       refine wpAnyH_take (i:=5) (v:=?_) rfl (by kernel_rfl) (by kernel_rfl) (by kernel_rfl) (fun _ _ _ h=>h) (Or.inl ⟨by rfl,?_⟩) (by assumption) ?_;rotate_left 1
       ·(intro w hSw;(try dsimp only at hSw);go_simp<;>(with_reducible rfl))
       try simp only[Act.put,qA,qB,qC,qD,qE,qF]
       refine wpAnyH_take (i:=6) (v:=?_) rfl (by kernel_rfl) (by kernel_rfl) (by kernel_rfl) (fun _ _ _ h=>h) (Or.inl ⟨by rfl,?_⟩) (by assumption) ?_;rotate_left 1
       ·(intro w hSw;(try dsimp only at hSw);go_simp<;>(with_reducible rfl))
       try simp only[Act.put,qA,qB,qC,qD,qE,qF]
       refine wpAnyH_take (i:=7) (v:=?_) rfl (by kernel_rfl) (by kernel_rfl) (by kernel_rfl) (fun _ _ _ h=>h) (Or.inl ⟨by rfl,?_⟩) (by assumption) ?_;rotate_left 1
       ·(intro w hSw;(try dsimp only at hSw);go_simp<;>(with_reducible rfl))
       try simp only[Act.put,qA,qB,qC,qD,qE,qF]
       refine wpAnyH_take (i:=8) (v:=?_) rfl (by kernel_rfl) (by kernel_rfl) (by kernel_rfl) (fun _ _ _ h=>h) (Or.inl ⟨by rfl,?_⟩) (by assumption) ?_;rotate_left 1
       ·(intro w hSw;(try dsimp only at hSw);go_simp<;>(with_reducible rfl))
       try simp only[Act.put,qA,qB,qC,qD,qE,qF]
       refine wpAnyH_take (i:=9) (v:=?_) rfl (by kernel_rfl) (by kernel_rfl) (by kernel_rfl) (fun _ _ _ h=>h) (Or.inl ⟨by rfl,?_⟩) (by assumption) ?_;rotate_left 1
       ·(intro w hSw;(try dsimp only at hSw);go_simp<;>(with_reducible rfl))
       try simp only[Act.put,qA,qB,qC,qD,qE,qF]
       refine wpAnyH_ready (rs:=[10]) (by kernel_rfl) (by simp) ?_;refine AllReadyH.cons rfl (fun K hK=>?_) AllReadyH.nil
       go_simp
       refine(held (W:=U) hB.out (CO.out _) (by assumption)).mono ?_;rintro e w'' ⟨rfl,hb,hw⟩
       (try go_wp2_with fail)
       refine hK.out _ _ hw (fun hH1=>?_);clear hK hH0 hb
       try simp only[Act.put,qA,qB,qC,qD,qE,qF]
       refine wpAnyH_take (i:=11) (v:=?_) rfl (by kernel_rfl) (by kernel_rfl) (by kernel_rfl) (fun _ _ _ h=>h) (Or.inl ⟨by rfl,?_⟩) (by assumption) ?_;rotate_left 1
       ·(intro w hSw;(try dsimp only at hSw);go_simp<;>(with_reducible rfl))
       try simp only[Act.put,qA,qB,qC,qD,qE,qF]
       refine wpAnyH_take (i:=12) (v:=?_) rfl (by kernel_rfl) (by kernel_rfl) (by kernel_rfl) (fun _ _ _ h=>h) (Or.inl ⟨by rfl,?_⟩) (by assumption) ?_;rotate_left 1
       ·(intro w hSw;(try dsimp only at hSw);go_simp<;>(with_reducible rfl))
       try simp only[Act.put,qA,qB,qC,qD,qE,qF]
       refine wpAnyH_done (by kernel_rfl) ?_ _;refine NoPanic.normal ?_;have b3:=hw;clear hw;go_wp2_with fail;go_roundw
       case rel=>exact⟨(m+1)+1,hlt,by go_num,fun j hj=>(by rcases Nat.lt_succ_iff_lt_or_eq.1 hj with h|h;exact HJ.out j h;rw[h];exact HO.out),Below.more HW.out b3⟩
       case measure=>simp[intOf];omega
  ·obtain rfl:k=l.length:=by omega
   have HO:Hid (mayP ⟨l,(cn,cd)⟩=isR (cn,cd)):=zh (mayP_end HJ.out);replace k1:=fun v hv=>k1 v (Below.more hw hv);replace k2:=fun v hv=>k2 v (Below.more hw hv);have j1:=k1 wr (Below.refl _ _);have j2:=k2 wr (Below.refl _ _)
   go_wp2_with fail;refine(CM.out _).mono ?_;rintro e1 w1 ⟨rfl,b⟩;have b1:=Below.more hw b;clear b;go_wp2_with fail;go_ret;exact⟨ret_bool (by rw[HO.out]),Below.more BW b1⟩
theorem pmay_any(p:Option Addr)(c:Nat)(x:Pack)(w:World)(hc:x.parts.length≤c)(hl:x.parts.length≤1000)(hz:SzPk 20000 x)(h:Pts w p x.parts):Calls Tryz.prog 17 #[.agg #[.slice p x.parts.length c,.string ⟨x.cash.1.toArray⟩,.string ⟨x.cash.2.toArray⟩]] w (GiveB w (mayP x)) :=
 pmay_x p c x.parts x.cash.1 x.cash.2 w hc (by omega) hz.1 hz.2.1 hz.2.2 h
end Go.Proofs.YthgopcnagecbaaaGreatDoor
