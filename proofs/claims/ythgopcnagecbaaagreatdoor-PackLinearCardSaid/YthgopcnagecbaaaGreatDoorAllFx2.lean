/- Own work. -/
import Derived.Test.YthgopcnagecbaaaGreatDoorAllFx1
set_option linter.unusedSimpArgs false
set_option linter.unusedVariables false
set_option maxHeartbeats 4000000
set_option maxRecDepth 100000
namespace Go.Proofs.YthgopcnagecbaaaGreatDoor
open Go.RowKit
theorem bool_t{b:Bool}(h:true=!b):b=false:=by cases b<;>simp at h ⊢
theorem bool_f{b:Bool}(h:false=!b):b=true:=by cases b<;>simp at h ⊢
theorem ffmay_any(p:Option Addr)(c:Nat)(l:List Fx.Fix)(w:World)(hc:l.length≤c)(hl:l.length≤1000000)(hz:∀x∈l,SzX x)(h:Fxs w p l) :
  Calls Tryz.prog 29 #[.slice p l.length c] w (GiveB w (Fx.mayF l)):=by
 have HS:=zh h;have HZ:=zh hz;clear h hz
 go_enter Tryz.func29,Tryz.ntmps29
 go_wp2
 go_loopw [7] (fun i wr=>∃k:Nat,k≤l.length∧i=.int .i64 k∧Hid (∀j,j<k→Fx.okAtF l j=true)∧Below w.heap.size w wr) (fun i _=>l.length-(intOf i).toNat)
 case atStart=>exact⟨0,Nat.zero_le _,rfl,fun j h=>absurd h (Nat.not_lt_zero j),Below.refl _ _⟩
 case round =>
  obtain⟨k,hk,rfl,HJ,hw⟩:=hrel;by_cases hlt:k<l.length
  ·obtain⟨⟨⟨a,d⟩,⟨n,e⟩⟩,hx⟩:∃x,l[k]?=some x:=⟨_,List.getElem?_eq_getElem hlt⟩;obtain⟨b,o,rfl,k0,k1,k2,k3⟩:=fx_rule (HS.out.below hw) hx;have cl:=fun w=>fmay1_any a d n e w (HZ.out _ (List.mem_of_getElem? hx));have bw:=Below.refl wr.heap.size wr
   cases h1:Fx.okF ((a,d),(n,e)) with
   | false =>
    have HO:Hid (Fx.mayF l=false):=zh (Fx.mayF_stop hlt (Fx.okF_no hx h1));rw[h1]at cl;clear hx h1;have CL:=zh cl;clear cl
    go_upto_region 4 with fail
    obtain⟨U,hU,bU,s1,r0,r1,r2,r3⟩:=lay4 (Below.refl wr.heap.size wr) (.string ⟨a.toArray⟩) (.int .i64 d) (.string ⟨n.toArray⟩) (.string ⟨e.toArray⟩) 47;rw[hU];clear hU s1;replace k0:=fun v (h:Below U.heap.size U v)=>k0 v (Below.more bU h);replace k1:=fun v (h:Below U.heap.size U v)=>k1 v (Below.more bU h);replace k2:=fun v (h:Below U.heap.size U v)=>k2 v (Below.more bU h);replace k3:=fun v (h:Below U.heap.size U v)=>k3 v (Below.more bU h);have HW:=zh (Below.more hw bU);have b0:=Below.refl U.heap.size U;have hB:=zh (Nat.le_refl U.heap.size);clear hw bU bw;go_wp2_with fail;refine(CL.out _).mono ?_;rintro e0 w1 ⟨rfl,b⟩;have b1:=Below.more b0 b;clear b;go_wp2_with fail;go_ret;exact⟨ret_bool (by rw[HO.out]),Below.more HW.out b1⟩
   | true =>
    rw[h1]at cl;have CL:=zh cl;clear cl
    cases k with
    | zero =>
     simp only[Nat.zero_mul,Nat.add_zero]at k0 k1 k2 k3;have HO:Hid (Fx.okAtF l 0=true):=zh (Fx.okF_0 hx h1);clear hx h1
     go_upto_region 4 with fail
     obtain⟨U,hU,bU,s1,r0,r1,r2,r3⟩:=lay4 (Below.refl wr.heap.size wr) (.string ⟨a.toArray⟩) (.int .i64 d) (.string ⟨n.toArray⟩) (.string ⟨e.toArray⟩) 47;rw[hU];clear hU s1;replace k0:=fun v (h:Below U.heap.size U v)=>k0 v (Below.more bU h);replace k1:=fun v (h:Below U.heap.size U v)=>k1 v (Below.more bU h);replace k2:=fun v (h:Below U.heap.size U v)=>k2 v (Below.more bU h);replace k3:=fun v (h:Below U.heap.size U v)=>k3 v (Below.more bU h);have HW:=zh (Below.more hw bU);have b0:=Below.refl U.heap.size U;have hB:=zh (Nat.le_refl U.heap.size);clear hw bU bw;go_wp2_with fail;refine(CL.out _).mono ?_;rintro e0 w1 ⟨rfl,b⟩;have b1:=Below.more b0 b;clear b;go_wp2_with fail;refine wp_region_noPanic ?_;refine wp_region_held_drew (S:=fun w'=>Below U.heap.size U w') (by kernel_rfl) (b1.drew) (fun hH0=>?_);refine wpAnyH_take (i:=0) (v:=?_) rfl (by kernel_rfl) (by kernel_rfl) (by kernel_rfl) (fun _ _ _ h=>h) (Or.inl ⟨by rfl,?_⟩) (by assumption) ?_;rotate_left 1
     ·(intro w hSw;(try dsimp only at hSw);go_simp<;>(with_reducible rfl))
     try simp only[Act.put,qA,qB,qC,qD,qE,qF]
     refine wpAnyH_take (i:=1) (v:=?_) rfl (by kernel_rfl) (by kernel_rfl) (by kernel_rfl) (fun _ _ _ h=>h) (Or.inl ⟨by rfl,?_⟩) (by assumption) ?_;rotate_left 1
     ·(intro w hSw;(try dsimp only at hSw);go_simp<;>(with_reducible rfl))
     try simp only[Act.put,qA,qB,qC,qD,qE,qF]
     refine wpAnyH_take (i:=2) (v:=?_) rfl (by kernel_rfl) (by kernel_rfl) (by kernel_rfl) (fun _ _ _ h=>h) (Or.inl ⟨by rfl,?_⟩) (by assumption) ?_;rotate_left 1
     ·(intro w hSw;(try dsimp only at hSw);go_simp<;>(with_reducible rfl))
     try simp only[Act.put,qA,qB,qC,qD,qE,qF]
     refine wpAnyH_take (i:=3) (v:=undef) rfl (by kernel_rfl) (by kernel_rfl) (by kernel_rfl) (fun _ _ _ h=>h) (Or.inr ⟨by rfl,rfl⟩) (by assumption) ?_
     try simp only[Act.put,qA,qB,qC,qD,qE,qF]
     refine wpAnyH_take (i:=4) (v:=undef) rfl (by kernel_rfl) (by kernel_rfl) (by kernel_rfl) (fun _ _ _ h=>h) (Or.inr ⟨by rfl,rfl⟩) (by assumption) ?_
     try simp only[Act.put,qA,qB,qC,qD,qE,qF]
     refine wpAnyH_take (i:=5) (v:=undef) rfl (by kernel_rfl) (by kernel_rfl) (by kernel_rfl) (fun _ _ _ h=>h) (Or.inr ⟨by rfl,rfl⟩) (by assumption) ?_
     try simp only[Act.put,qA,qB,qC,qD,qE,qF]
     refine wpAnyH_take (i:=6) (v:=undef) rfl (by kernel_rfl) (by kernel_rfl) (by kernel_rfl) (fun _ _ _ h=>h) (Or.inr ⟨by rfl,rfl⟩) (by assumption) ?_
     try simp only[Act.put,qA,qB,qC,qD,qE,qF]
     refine wpAnyH_take (i:=7) (v:=undef) rfl (by kernel_rfl) (by kernel_rfl) (by kernel_rfl) (fun _ _ _ h=>h) (Or.inr ⟨by rfl,rfl⟩) (by assumption) ?_
     try simp only[Act.put,qA,qB,qC,qD,qE,qF]
     refine wpAnyH_take (i:=8) (v:=undef) rfl (by kernel_rfl) (by kernel_rfl) (by kernel_rfl) (fun _ _ _ h=>h) (Or.inr ⟨by rfl,rfl⟩) (by assumption) ?_
     try simp only[Act.put,qA,qB,qC,qD,qE,qF]
     refine wpAnyH_take (i:=9) (v:=undef) rfl (by kernel_rfl) (by kernel_rfl) (by kernel_rfl) (fun _ _ _ h=>h) (Or.inr ⟨by rfl,rfl⟩) (by assumption) ?_
     try simp only[Act.put,qA,qB,qC,qD,qE,qF]
     refine wpAnyH_take (i:=10) (v:=undef) rfl (by kernel_rfl) (by kernel_rfl) (by kernel_rfl) (fun _ _ _ h=>h) (Or.inr ⟨by rfl,rfl⟩) (by assumption) ?_
     try simp only[Act.put,qA,qB,qC,qD,qE,qF]
     refine wpAnyH_take (i:=11) (v:=?_) rfl (by kernel_rfl) (by kernel_rfl) (by kernel_rfl) (fun _ _ _ h=>h) (Or.inl ⟨by rfl,?_⟩) (by assumption) ?_;rotate_left 1
     ·(intro w hSw;(try dsimp only at hSw);go_simp<;>(with_reducible rfl))
     try simp only[Act.put,qA,qB,qC,qD,qE,qF]
     refine wpAnyH_done (by kernel_rfl) ?_ _;refine NoPanic.normal ?_;have b3:=hH0;clear hH0;go_wp2_with fail;go_roundw
     case rel=>exact⟨0+1,hlt,by go_num,less_more HJ.out HO.out,Below.more HW.out b3⟩
     case measure=>simp[intOf];omega
    | succ m =>
     obtain⟨⟨⟨a',d'⟩,⟨n',e'⟩⟩,hy⟩:∃x,l[m]?=some x:=⟨_,List.getElem?_eq_getElem (by omega)⟩;obtain⟨b',o',hp,p0,p1,p2,p3⟩:=fx_rule (HS.out.below hw) hy
     cases hp
     have co:=fun w=>forder_any a' d' n' e' a d n e w;have hord:=Fx.ordF_geq (a',d') (a,d);have hok:Fx.okAtF l (m+1)=Fx.lessF (a',d') (a,d):=Fx.okF_s hx hy h1;generalize Fx.ordF (a',d') (a,d)=q at *;have hm1:((m+1:Nat):Int)-1=(m:Int):=by omega
     have hm0:(0:Int)<((m+1:Nat):Int):=by omega
     have hwm:IntKind.i64.wrap (m:Int)=(m:Int):=IntWalk.i64_in _ (by omega);have hml:(m:Int)<(l.length:Int):=by omega
     have CO:=zh co;clear co hx hy h1;by_cases hq:0≤q
     ·have HO:Hid (Fx.mayF l=false):=zh (Fx.mayF_stop hlt (by rw[hok];rw[decide_eq_true hq]at hord;exact bool_t hord));clear hok hord
      go_upto_region 4 with fail
      obtain⟨U,hU,bU,s1,r0,r1,r2,r3⟩:=lay4 (Below.refl wr.heap.size wr) (.string ⟨a.toArray⟩) (.int .i64 d) (.string ⟨n.toArray⟩) (.string ⟨e.toArray⟩) 47;rw[hU];clear hU s1;replace k0:=fun v (h:Below U.heap.size U v)=>k0 v (Below.more bU h);replace k1:=fun v (h:Below U.heap.size U v)=>k1 v (Below.more bU h);replace k2:=fun v (h:Below U.heap.size U v)=>k2 v (Below.more bU h);replace k3:=fun v (h:Below U.heap.size U v)=>k3 v (Below.more bU h);replace p0:=fun v (h:Below U.heap.size U v)=>p0 v (Below.more bU h);replace p1:=fun v (h:Below U.heap.size U v)=>p1 v (Below.more bU h);replace p2:=fun v (h:Below U.heap.size U v)=>p2 v (Below.more bU h);replace p3:=fun v (h:Below U.heap.size U v)=>p3 v (Below.more bU h);have HW:=zh (Below.more hw bU);have b0:=Below.refl U.heap.size U;have hB:=zh (Nat.le_refl U.heap.size);clear hw bU bw;go_wp2_with fail;refine(CL.out _).mono ?_;rintro e0 w1 ⟨rfl,b⟩;have b1:=Below.more b0 b;clear b;go_wp2_with fail;refine wp_region_noPanic ?_;refine wp_region_held_drew (S:=fun w'=>Below U.heap.size U w') (by kernel_rfl) (b1.drew) (fun hH0=>?_);refine wpAnyH_take (i:=0) (v:=?_) rfl (by kernel_rfl) (by kernel_rfl) (by kernel_rfl) (fun _ _ _ h=>h) (Or.inl ⟨by rfl,?_⟩) (by assumption) ?_;rotate_left 1
      ·(intro w hSw;(try dsimp only at hSw);go_simp<;>(with_reducible rfl))
      try simp only[Act.put,qA,qB,qC,qD,qE,qF]
      refine wpAnyH_take (i:=1) (v:=?_) rfl (by kernel_rfl) (by kernel_rfl) (by kernel_rfl) (fun _ _ _ h=>h) (Or.inl ⟨by rfl,?_⟩) (by assumption) ?_;rotate_left 1
      ·(intro w hSw;(try dsimp only at hSw);go_simp<;>(with_reducible rfl))
      try simp only[Act.put,qA,qB,qC,qD,qE,qF]
      refine wpAnyH_take (i:=2) (v:=?_) rfl (by kernel_rfl) (by kernel_rfl) (by kernel_rfl) (fun _ _ _ h=>h) (Or.inl ⟨by rfl,?_⟩) (by assumption) ?_;rotate_left 1
      ·(intro w hSw;(try dsimp only at hSw);go_simp<;>(with_reducible rfl))
      try simp only[Act.put,qA,qB,qC,qD,qE,qF]
      refine wpAnyH_take (i:=3) (v:=?_) rfl (by kernel_rfl) (by kernel_rfl) (by kernel_rfl) (fun _ _ _ h=>h) (Or.inl ⟨by rfl,?_⟩) (by assumption) ?_;rotate_left 1
      ·(intro w hSw;(try dsimp only at hSw);go_simp<;>(with_reducible rfl))
      try simp only[Act.put,qA,qB,qC,qD,qE,qF]
      refine wpAnyH_take (i:=4) (v:=?_) rfl (by kernel_rfl) (by kernel_rfl) (by kernel_rfl) (fun _ _ _ h=>h) (Or.inl ⟨by rfl,?_⟩) (by assumption) ?_;rotate_left 1
      ·(intro w hSw;(try dsimp only at hSw);go_simp<;>(with_reducible rfl))
      try simp only[Act.put,qA,qB,qC,qD,qE,qF]
      refine wpAnyH_take (i:=5) (v:=?_) rfl (by kernel_rfl) (by kernel_rfl) (by kernel_rfl) (fun _ _ _ h=>h) (Or.inl ⟨by rfl,?_⟩) (by assumption) ?_;rotate_left 1
      ·(intro w hSw;(try dsimp only at hSw);go_simp<;>(with_reducible rfl))
      try simp only[Act.put,qA,qB,qC,qD,qE,qF]
      refine wpAnyH_take (i:=6) (v:=?_) rfl (by kernel_rfl) (by kernel_rfl) (by kernel_rfl) (fun _ _ _ h=>h) (Or.inl ⟨by rfl,?_⟩) (by assumption) ?_;rotate_left 1
      ·(intro w hSw;(try dsimp only at hSw);go_simp<;>(with_reducible rfl))
      try simp only[Act.put,qA,qB,qC,qD,qE,qF]
      refine wpAnyH_take (i:=7) (v:=?_) rfl (by kernel_rfl) (by kernel_rfl) (by kernel_rfl) (fun _ _ _ h=>h) (Or.inl ⟨by rfl,?_⟩) (by assumption) ?_;rotate_left 1
      ·(intro w hSw;(try dsimp only at hSw);go_simp<;>(with_reducible rfl))
      try simp only[Act.put,qA,qB,qC,qD,qE,qF]
      refine wpAnyH_take (i:=8) (v:=?_) rfl (by kernel_rfl) (by kernel_rfl) (by kernel_rfl) (fun _ _ _ h=>h) (Or.inl ⟨by rfl,?_⟩) (by assumption) ?_;rotate_left 1
      ·(intro w hSw;(try dsimp only at hSw);go_simp<;>(with_reducible rfl))
      try simp only[Act.put,qA,qB,qC,qD,qE,qF]
      refine wpAnyH_ready (rs:=[9]) (by kernel_rfl) (by simp) ?_;refine AllReadyH.cons rfl (fun K hK=>?_) AllReadyH.nil
      go_simp
      refine(held (W:=U) hB.out (CO.out _) (by assumption)).mono ?_;rintro e w'' ⟨rfl,hb,hw⟩
      (try go_wp2_with fail)
      refine hK.out _ _ hw (fun hH1=>?_);clear hK hH0 hb
      try simp only[Act.put,qA,qB,qC,qD,qE,qF]
      refine wpAnyH_take (i:=10) (v:=?_) rfl (by kernel_rfl) (by kernel_rfl) (by kernel_rfl) (fun _ _ _ h=>h) (Or.inl ⟨by rfl,?_⟩) (by assumption) ?_;rotate_left 1
      ·(intro w hSw;(try dsimp only at hSw);go_simp<;>(with_reducible rfl))
      try simp only[Act.put,qA,qB,qC,qD,qE,qF]
      refine wpAnyH_take (i:=11) (v:=?_) rfl (by kernel_rfl) (by kernel_rfl) (by kernel_rfl) (fun _ _ _ h=>h) (Or.inl ⟨by rfl,?_⟩) (by assumption) ?_;rotate_left 1
      ·(intro w hSw;(try dsimp only at hSw);go_simp<;>(with_reducible rfl))
      try simp only[Act.put,qA,qB,qC,qD,qE,qF]
      refine wpAnyH_done (by kernel_rfl) ?_ _;refine NoPanic.normal ?_;have b3:=hw;clear hw;go_wp2_with fail;go_ret;exact⟨ret_bool (by rw[HO.out]),Below.more HW.out b3⟩
     ·have HO:Hid (Fx.okAtF l (m+1)=true):=zh (by rw[hok];rw[decide_eq_false hq]at hord;exact bool_f hord);clear hok hord
      go_upto_region 4 with fail
      obtain⟨U,hU,bU,s1,r0,r1,r2,r3⟩:=lay4 (Below.refl wr.heap.size wr) (.string ⟨a.toArray⟩) (.int .i64 d) (.string ⟨n.toArray⟩) (.string ⟨e.toArray⟩) 47;rw[hU];clear hU s1;replace k0:=fun v (h:Below U.heap.size U v)=>k0 v (Below.more bU h);replace k1:=fun v (h:Below U.heap.size U v)=>k1 v (Below.more bU h);replace k2:=fun v (h:Below U.heap.size U v)=>k2 v (Below.more bU h);replace k3:=fun v (h:Below U.heap.size U v)=>k3 v (Below.more bU h);replace p0:=fun v (h:Below U.heap.size U v)=>p0 v (Below.more bU h);replace p1:=fun v (h:Below U.heap.size U v)=>p1 v (Below.more bU h);replace p2:=fun v (h:Below U.heap.size U v)=>p2 v (Below.more bU h);replace p3:=fun v (h:Below U.heap.size U v)=>p3 v (Below.more bU h);have HW:=zh (Below.more hw bU);have b0:=Below.refl U.heap.size U;have hB:=zh (Nat.le_refl U.heap.size);clear hw bU bw;go_wp2_with fail;refine(CL.out _).mono ?_;rintro e0 w1 ⟨rfl,b⟩;have b1:=Below.more b0 b;clear b;go_wp2_with fail;refine wp_region_noPanic ?_;refine wp_region_held_drew (S:=fun w'=>Below U.heap.size U w') (by kernel_rfl) (b1.drew) (fun hH0=>?_);refine wpAnyH_take (i:=0) (v:=?_) rfl (by kernel_rfl) (by kernel_rfl) (by kernel_rfl) (fun _ _ _ h=>h) (Or.inl ⟨by rfl,?_⟩) (by assumption) ?_;rotate_left 1
      ·(intro w hSw;(try dsimp only at hSw);go_simp<;>(with_reducible rfl))
      try simp only[Act.put,qA,qB,qC,qD,qE,qF]
      refine wpAnyH_take (i:=1) (v:=?_) rfl (by kernel_rfl) (by kernel_rfl) (by kernel_rfl) (fun _ _ _ h=>h) (Or.inl ⟨by rfl,?_⟩) (by assumption) ?_;rotate_left 1
      ·(intro w hSw;(try dsimp only at hSw);go_simp<;>(with_reducible rfl))
      try simp only[Act.put,qA,qB,qC,qD,qE,qF]
      refine wpAnyH_take (i:=2) (v:=?_) rfl (by kernel_rfl) (by kernel_rfl) (by kernel_rfl) (fun _ _ _ h=>h) (Or.inl ⟨by rfl,?_⟩) (by assumption) ?_;rotate_left 1
      ·(intro w hSw;(try dsimp only at hSw);go_simp<;>(with_reducible rfl))
      try simp only[Act.put,qA,qB,qC,qD,qE,qF]
      refine wpAnyH_take (i:=3) (v:=?_) rfl (by kernel_rfl) (by kernel_rfl) (by kernel_rfl) (fun _ _ _ h=>h) (Or.inl ⟨by rfl,?_⟩) (by assumption) ?_;rotate_left 1
      ·(intro w hSw;(try dsimp only at hSw);go_simp<;>(with_reducible rfl))
      try simp only[Act.put,qA,qB,qC,qD,qE,qF]
      refine wpAnyH_take (i:=4) (v:=?_) rfl (by kernel_rfl) (by kernel_rfl) (by kernel_rfl) (fun _ _ _ h=>h) (Or.inl ⟨by rfl,?_⟩) (by assumption) ?_;rotate_left 1
      ·(intro w hSw;(try dsimp only at hSw);go_simp<;>(with_reducible rfl))
      try simp only[Act.put,qA,qB,qC,qD,qE,qF]
      refine wpAnyH_take (i:=5) (v:=?_) rfl (by kernel_rfl) (by kernel_rfl) (by kernel_rfl) (fun _ _ _ h=>h) (Or.inl ⟨by rfl,?_⟩) (by assumption) ?_;rotate_left 1
      ·(intro w hSw;(try dsimp only at hSw);go_simp<;>(with_reducible rfl))
      try simp only[Act.put,qA,qB,qC,qD,qE,qF]
      refine wpAnyH_take (i:=6) (v:=?_) rfl (by kernel_rfl) (by kernel_rfl) (by kernel_rfl) (fun _ _ _ h=>h) (Or.inl ⟨by rfl,?_⟩) (by assumption) ?_;rotate_left 1
      ·(intro w hSw;(try dsimp only at hSw);go_simp<;>(with_reducible rfl))
      try simp only[Act.put,qA,qB,qC,qD,qE,qF]
      refine wpAnyH_take (i:=7) (v:=?_) rfl (by kernel_rfl) (by kernel_rfl) (by kernel_rfl) (fun _ _ _ h=>h) (Or.inl ⟨by rfl,?_⟩) (by assumption) ?_;rotate_left 1
      ·(intro w hSw;(try dsimp only at hSw);go_simp<;>(with_reducible rfl))
      try simp only[Act.put,qA,qB,qC,qD,qE,qF]
      refine wpAnyH_take (i:=8) (v:=?_) rfl (by kernel_rfl) (by kernel_rfl) (by kernel_rfl) (fun _ _ _ h=>h) (Or.inl ⟨by rfl,?_⟩) (by assumption) ?_;rotate_left 1
      ·(intro w hSw;(try dsimp only at hSw);go_simp<;>(with_reducible rfl))
      try simp only[Act.put,qA,qB,qC,qD,qE,qF]
      refine wpAnyH_ready (rs:=[9]) (by kernel_rfl) (by simp) ?_;refine AllReadyH.cons rfl (fun K hK=>?_) AllReadyH.nil
      go_simp
      refine(held (W:=U) hB.out (CO.out _) (by assumption)).mono ?_;rintro e w'' ⟨rfl,hb,hw⟩
      (try go_wp2_with fail)
      refine hK.out _ _ hw (fun hH1=>?_);clear hK hH0 hb
      try simp only[Act.put,qA,qB,qC,qD,qE,qF]
      refine wpAnyH_take (i:=10) (v:=?_) rfl (by kernel_rfl) (by kernel_rfl) (by kernel_rfl) (fun _ _ _ h=>h) (Or.inl ⟨by rfl,?_⟩) (by assumption) ?_;rotate_left 1
      ·(intro w hSw;(try dsimp only at hSw);go_simp<;>(with_reducible rfl))
      try simp only[Act.put,qA,qB,qC,qD,qE,qF]
      refine wpAnyH_take (i:=11) (v:=?_) rfl (by kernel_rfl) (by kernel_rfl) (by kernel_rfl) (fun _ _ _ h=>h) (Or.inl ⟨by rfl,?_⟩) (by assumption) ?_;rotate_left 1
      ·(intro w hSw;(try dsimp only at hSw);go_simp<;>(with_reducible rfl))
      try simp only[Act.put,qA,qB,qC,qD,qE,qF]
      refine wpAnyH_done (by kernel_rfl) ?_ _;refine NoPanic.normal ?_;have b3:=hw;clear hw;go_wp2_with fail;go_roundw
      case rel=>exact⟨(m+1)+1,hlt,by go_num,less_more HJ.out HO.out,Below.more HW.out b3⟩
      case measure=>simp[intOf];omega
  ·obtain rfl:k=l.length:=by omega
   have HR:=zh (Fx.mayF_end HJ.out);have HW:=zh hw;clear hw
   go_wp2_with fail;go_ret;exact⟨ret_bool (by rw[HR.out]),HW.out⟩
section
variable {l : List Fx.Fix} {u : List UInt8} {t : Int} {i : Nat}
theorem gt_not(h:l.Pairwise (fun x y=>Fx.lessF x.1 y.1=true)→i=Fx.rankF l (u,t)∧false=Fx.thereF l (u,t)):Fx.getF l (u,t)=none:=by
 unfold Fx.getF
 cases hm:Fx.mayF l with
 | false=>rfl
 | true =>
  have g:=(Fx.good_iffF.1 hm).2;rw[if_pos rfl];exact Fx.raw_no (Fx.there_not g (h g).2.symm)
theorem gt_may(hm:Fx.mayF l=false):Fx.getF l (u,t)=none:=by unfold Fx.getF;rw[hm];rfl
theorem at_there(hm:Fx.mayF l=true){x:Fx.Fix}(hx:l[i]?=some x)(h:l.Pairwise (fun x y=>Fx.lessF x.1 y.1=true)→i=Fx.rankF l (u,t)∧true=Fx.thereF l (u,t)):x.1=(u,t):=by
 have g:=(Fx.good_iffF.1 hm).2;obtain⟨e,k⟩:=h g;obtain⟨y,hy,ey⟩:=Fx.there_some k.symm;rw[←e,hx]at hy;rw[Option.some.inj hy];exact ey
theorem gt_yes(hm:Fx.mayF l=true){x:Fx.Fix}(hx:l[i]?=some x)(h:l.Pairwise (fun x y=>Fx.lessF x.1 y.1=true)→i=Fx.rankF l (u,t)∧true=Fx.thereF l (u,t)):Fx.getF l (u,t)=some x.2:=by
 rw[←at_there hm hx h];exact Fx.get_in (Fx.good_iffF.1 hm) (List.mem_of_getElem? hx)
end
theorem ffget_any(p:Option Addr)(c:Nat)(l:List Fx.Fix)(u:List UInt8)(t:Int)(w:World)(hc:l.length≤c)(hl:l.length≤1000000)(hz:∀x∈l,SzX x)(h:Fxs w p l) :
  Calls Tryz.prog 30 #[.slice p l.length c,.string ⟨u.toArray⟩,.int .i64 t] w (GiveG w (Fx.getF l (u,t))):=by
 have CF:=zh fun V (hV:Below w.heap.size w V)=>ffind_any p c l u t [] [] V hc hl (h.below hV);have CM:=zh fun V (hV:Below w.heap.size w V)=>ffmay_any p c l V hc hl hz (h.below hV);have HS:=zh h;clear h hz;go_enter Tryz.func30,Tryz.ntmps30;go_wp2_with fail;obtain⟨W,hW,BW,sW,r0,r1,r2,r3⟩:=box0z w (.string ⟨#[]⟩) (.string ⟨#[]⟩) 23;rw[hW];clear hW;have b0:=Below.refl W.heap.size W;refine(CF.out _ BW).mono ?_;rintro e0 w1 ⟨⟨i,z,rfl,g1,g2,g3⟩,b⟩;have b1:=Below.more b0 b;have H3:=zh g3;clear b g3 CF
 cases z with
 | false =>
  clear g2;have HE:Hid (Fx.getF l (u,t)=none):=zh (gt_not H3.out);go_wp2_with fail;refine bodyPost_ret (v:=.tuple #[.agg #[.string ⟨#[]⟩,.string ⟨#[]⟩],.bool false]) (by simp[results,Tryz.results30,go_sem, *]) rfl ⟨by rw[HE.out];first|done|rfl,?_⟩;exact put2 (Below.more BW b1) (Nat.le_refl _) _ _
 | true =>
  have hi:=g2 rfl;have hi2:(i:Int)<(l.length:Int):=by omega
  clear g2;obtain⟨⟨⟨a,d⟩,⟨n,e⟩⟩,hx⟩:∃x,l[i]?=some x:=⟨_,List.getElem?_eq_getElem (by omega)⟩;obtain⟨b,o,rfl,k0,k1,k2,k3⟩:=fx_rule HS.out hx;replace k0:=fun v (h:Below W.heap.size W v)=>k0 v (Below.more BW h);replace k1:=fun v (h:Below W.heap.size W v)=>k1 v (Below.more BW h);replace k2:=fun v (h:Below W.heap.size W v)=>k2 v (Below.more BW h);replace k3:=fun v (h:Below W.heap.size W v)=>k3 v (Below.more BW h);have HX:=zh hx;clear hx
  cases hm:Fx.mayF l with
  | false =>
   have HE:Hid (Fx.getF l (u,t)=none):=zh (gt_may hm);have cm:=fun V (hV:Below w.heap.size w V)=>CM.out V hV;rw[hm]at cm;have C1:=zh cm;clear cm hm CM;go_wp2_with fail;refine(C1.out _ (Below.more BW b1)).mono ?_;rintro e0 w2 ⟨rfl,b⟩;have b2:=Below.more b1 b;clear b;go_wp2_with fail;refine bodyPost_ret (v:=.tuple #[.agg #[.string ⟨#[]⟩,.string ⟨#[]⟩],.bool false]) (by simp[results,Tryz.results30,go_sem, *]) rfl ⟨by rw[HE.out];first|done|rfl,?_⟩;exact put2 (Below.more BW b2) (Nat.le_refl _) _ _
  | true =>
   have HE:Hid (Fx.getF l (u,t)=some (n,e)):=zh (gt_yes hm HX.out H3.out);have cm:=fun V (hV:Below w.heap.size w V)=>CM.out V hV;rw[hm]at cm;have C1:=zh cm;clear cm hm CM;go_wp2_with fail;refine(C1.out _ (Below.more BW b1)).mono ?_;rintro e0 w2 ⟨rfl,b⟩;have b2:=Below.more b1 b;clear b;go_wp2_with fail;refine bodyPost_ret (v:=.tuple #[.agg #[.string ⟨n.toArray⟩,.string ⟨e.toArray⟩],.bool true]) (by simp[results,Tryz.results30,go_sem, *]) rfl ⟨by rw[HE.out];first|done|rfl,?_⟩;exact put2 (Below.more BW b2) (Nat.le_refl _) _ _
end Go.Proofs.YthgopcnagecbaaaGreatDoor
