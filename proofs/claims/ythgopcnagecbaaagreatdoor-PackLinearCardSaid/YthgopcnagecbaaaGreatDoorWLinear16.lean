/- Own work. -/
import Derived.Test.YthgopcnagecbaaaGreatDoorPkLinM
set_option linter.unusedSimpArgs false
set_option linter.unusedVariables false
set_option maxHeartbeats 8000000
set_option maxRecDepth 100000
namespace Go.Proofs.YthgopcnagecbaaaGreatDoor
open Go.RowKit
open Pk (Part Pack mayP valueP keepsP ofP)
variable {G : World → Prop}
theorem Rws.lower{B B':Nat}{w:World}{L:List (Value×List Fx.Fix)}(h:Rws B w L)(hB:B'≤B):Rws B' w L:=⟨fun i x e=>by
 have k:=h.own i x e;refine⟨k.1,?_⟩;rcases k.2 with k2|⟨g,cap,cur,hv,k2,k3⟩
 ·exact .inl k2
 ·exact .inr ⟨g,cap,cur,hv,Nat.le_trans hB k2,k3⟩,h.ap⟩
theorem tab_cut(ps:List Part)(qs:List Key):(Pk.tabP ps qs).take ps.length=Pk.tabP ps (qs.take ps.length):=by
 unfold Pk.tabP;rw[List.take_zipWith,List.take_length]
theorem linear16_x(p q1 q2:Option Addr)(c c1 c2:Nat)(ps:List Part)(un ud:List UInt8)(la lb:List Key)(H:PackC G)(w:World)(hc:ps.length≤c)(hpl:ps.length≤4611686018427387904)(h1c:la.length≤c1)(h1l:la.length≤4611686018427387904)(h2c:lb.length≤c2)(h2l:lb.length≤4611686018427387904)(hp:Pts w p ps)(h1:Kys w q1 la)(h2:Kys w q2 lb)(hwa:∀x∈la,x.1.length≤140737488355328∧x.2.length≤140737488355328)(hwb:∀x∈lb,x.1.length≤140737488355328∧x.2.length≤140737488355328)(hg:G w) :
  Calls Tryz.prog 4 #[.agg #[.slice p ps.length c,.string ⟨un.toArray⟩,.string ⟨ud.toArray⟩],.slice q1 la.length c1,.slice q2 lb.length c2] w (GiveB w true):=by
 have HB:=zh H;have HG:=zh hg;have HP0:=zh hp;have HA0:=zh h1;have HB0:=zh h2;have HWA:=zh hwa;have HWB:=zh hwb
 have FX:=zh (fun V g=>fixed16_any H V g);have CLP:=zh (fun V (h:Pts V p ps)=>pklight_y p c ps un ud V hc hpl h);have HZP:Hid (lightP ⟨ps,(un,ud)⟩=true→_):=zh (fun h=>light_sz h);have HPL:=zh hpl;clear H hg hp h1 h2 hwa hwb hpl;generalize lightP _=lp at CLP HZP;go_enter Tryz.func4,Tryz.ntmps4;have BW:=Below.refl w.heap.size w;have b0:=Below.refl w.heap.size w;go_wp2_with fail;obtain⟨U1,hU,bU,s1,kk⟩:=layN b0 #[.slice p ps.length c,.string ⟨un.toArray⟩,.string ⟨ud.toArray⟩] 28;rw[hU];clear hU;have rp0:=kk 0 _ rfl;have rp1:=kk 1 _ rfl;have rp2:=kk 2 _ rfl
 clear kk;replace BW:=Below.more BW bU;replace HG:=zh (HB.out.below HG.out bU);clear bU;have b1:=Below.refl U1.heap.size U1;clear s1;have LP:=zh (HP0.out.below BW);have LA:=zh (HA0.out.below BW);have LB:=zh (HB0.out.below BW)
 clear HP0 HA0 HB0;refine(FX.out _ (HB.out.below HG.out b1)).mono ?_;rintro e w2 ⟨rfl,b⟩;have b2:=Below.more b1 b;clear b;go_wp2_with fail;refine(CLP.out _ (LP.out.below b2)).mono ?_;rintro e w3 ⟨rfl,b⟩;have b3:=Below.more b2 b;clear b
 cases lp with
 | false =>
  go_wp2_with fail;refine(FX.out _ (HB.out.below HG.out b3)).mono ?_;rintro e w4 ⟨rfl,b⟩;have b4:=Below.more b3 b;clear b;go_wp2_with fail;go_ret;exact⟨ret_bool (by first|rfl|simp),Below.more BW b4⟩
 | true =>
 have hzp:=HZP.out (by simp);have HZ4:=zh hzp;have CM:=zh (fun V (h:Pts V p ps)=>pkmay_any p c ps un ud V HPL.out (fun y hy=>⟨hzp.1.1 y hy,Nat.le_trans (hzp.1.2.1 y hy).1 (by decide),Nat.le_trans (hzp.1.2.1 y hy).2 (by decide)⟩) (Nat.le_trans hzp.1.2.2.1 (by decide)) (Nat.le_trans hzp.1.2.2.2 (by decide)) h);clear hzp HZP CLP
 cases hm:mayP ⟨ps,(un,ud)⟩ with
 | false =>
  rw[hm]at CM;clear hm;go_wp2_with fail;refine(CM.out _ (LP.out.below b3)).mono ?_;rintro e w4 ⟨rfl,b⟩;have b4:=Below.more b3 b;clear b;go_wp2_with fail;refine(FX.out _ (HB.out.below HG.out b4)).mono ?_;rintro e w5 ⟨rfl,b⟩;have b5:=Below.more b4 b;clear b;go_wp2_with fail;go_ret;exact⟨ret_bool (by first|rfl|simp),Below.more BW b5⟩
 | true =>
 rw[hm]at CM;have HM:=zh hm;clear hm;go_wp2_with fail;refine(CM.out _ (LP.out.below b3)).mono ?_;rintro e w4 ⟨rfl,b⟩;have b4:=Below.more b3 b;clear b;by_cases ha:la.length<ps.length
 case pos =>
  have hai:(la.length:Int)<(ps.length:Int):=by omega
  go_wp2_with fail;refine(FX.out _ (HB.out.below HG.out b4)).mono ?_;rintro e w5 ⟨rfl,b⟩;have b5:=Below.more b4 b;clear b;go_wp2_with fail;go_ret;exact⟨ret_bool (by first|rfl|simp),Below.more BW b5⟩
 case neg =>
 have hai:¬(la.length:Int)<(ps.length:Int):=by omega
 by_cases hb:lb.length<ps.length
 case pos =>
  have hbi:(lb.length:Int)<(ps.length:Int):=by omega
  go_wp2_with fail;refine(FX.out _ (HB.out.below HG.out b4)).mono ?_;rintro e w5 ⟨rfl,b⟩;have b5:=Below.more b4 b;clear b;go_wp2_with fail;go_ret;exact⟨ret_bool (by first|rfl|simp),Below.more BW b5⟩
 case neg =>
 have hbi:¬(lb.length:Int)<(ps.length:Int):=by omega
 have ba:=fun x=>Below.alloc b4 (Below.size b4) x;go_wp2_with fail;clear ba;clear hai hbi CM FX;obtain⟨V0,hV0,bV0,hR0⟩:=rws_start w4 47 rfl;rw[hV0];clear hV0;have HR0:Hid (Rws U1.heap.size V0 _):=zh (hR0.lower b4.size);have HV0:=zh (Below.more b4 bV0);clear hR0 bV0
 go_loopw [7,8,9,10,11] (fun u1 u2 u3 u4 i wr=>∃ (k:Nat) (v1 v2 v3 v4:Value),v1=u1∧v2=u2∧v3=u3∧v4=u4∧k≤ps.length∧i=.int .i64 k∧Hid (∀ (j:Nat) (x y:Key),j<k→la[j]?=some x→lb[j]?=some y→(isR x=true∧x.1.length≤40∧x.2.length≤40)∧isR y=true∧y.1.length≤40∧y.2.length≤40)∧Hid (Rws U1.heap.size wr [(v1,(Pk.tabP ps la).take k),(v2,(Pk.tabP ps lb).take k),(v3,(Pk.tabP ps (List.zipWith addR la lb)).take k),(v4,(Pk.tabP ps (List.replicate ps.length (([48],[49]):Key))).take k)])∧Below U1.heap.size U1 wr) (fun _ _ _ _ i _=>ps.length-(intOf i).toNat)
 case atStart=>exact⟨0,_,_,_,_,rfl,rfl,rfl,rfl,Nat.zero_le _,rfl,fun j x y h=>absurd h (Nat.not_lt_zero j),HR0.out,HV0.out⟩
 case round =>
  clear HR0 HV0 b4;obtain⟨k,v1,v2,v3,v4,hv1,hv2,hv3,hv4,hk,rfl,HJ,HR,hw⟩:=hrel;subst hv1;subst hv2;subst hv3;subst hv4;by_cases hlt:k<ps.length
  ·obtain⟨⟨a,⟨n,e⟩⟩,hx⟩:∃x,ps[k]?=some x:=⟨_,List.getElem?_eq_getElem hlt⟩;obtain⟨⟨an,ad⟩,hxa⟩:∃x,la[k]?=some x:=⟨_,List.getElem?_eq_getElem (by omega)⟩;obtain⟨⟨bn,bd⟩,hxb⟩:∃x,lb[k]?=some x:=⟨_,List.getElem?_eq_getElem (by omega)⟩;obtain⟨b0,o0,hp0,i0,_,_⟩:=pt_rule LP.out hx;obtain⟨b1,o1,hp1,j0,j1⟩:=ky_rule LA.out hxa;obtain⟨b2,o2,hp2,m0,m1⟩:=ky_rule LB.out hxb;subst hp0;subst hp1;subst hp2;have hwa:=HWA.out _ (List.mem_of_getElem? hxa);have hwb:=HWB.out _ (List.mem_of_getElem? hxb);dsimp only at hwa hwb;have T1:=zh (tab_one hx hxa);have T2:=zh (tab_one hx hxb)
   have T3:=zh (tab_one (qs:=List.zipWith addR la lb) (q:=addR (an,ad) (bn,bd)) hx (by rw[List.getElem?_zipWith,hxa,hxb]));have T4:=zh (tab_one (qs:=List.replicate ps.length (([48],[49]):Key)) (q:=(([48],[49]):Key)) hx (by rw[List.getElem?_replicate,if_pos hlt]));have HXA:=zh hxa;have HXB:=zh hxb
   have hka:(k:Int)<(la.length:Int):=by omega
   have hkb:(k:Int)<(lb.length:Int):=by omega
   have hka2:k<la.length:=by omega
   have hkb2:k<lb.length:=by omega
   clear hx hxa hxb;have w1:IntKind.i64.wrap ((an.length:Int)+(ad.length:Int))=(an.length:Int)+(ad.length:Int):=IntWalk.i64_in _ (by omega);have w2:IntKind.i64.wrap ((an.length:Int)+(ad.length:Int)+(bn.length:Int))=(an.length:Int)+(ad.length:Int)+(bn.length:Int):=IntWalk.i64_in _ (by omega);have w3:IntKind.i64.wrap ((an.length:Int)+(ad.length:Int)+(bn.length:Int)+(bd.length:Int))=(an.length:Int)+(ad.length:Int)+(bn.length:Int)+(bd.length:Int):=IntWalk.i64_in _ (by omega);have HWAB:=zh (And.intro hwa hwb);clear hwa hwb;have bz:=Below.refl wr.heap.size wr;have HB2:=zh hw;have f0:=fun v (h:Below wr.heap.size wr v)=>rp0 v (Below.more hw h);have f1:=fun v (h:Below wr.heap.size wr v)=>rp1 v (Below.more hw h);have f2:=fun v (h:Below wr.heap.size wr v)=>rp2 v (Below.more hw h)
   have gi0:=fun v (h:Below wr.heap.size wr v)=>i0 v (Below.more hw h);have gj0:=fun v (h:Below wr.heap.size wr v)=>j0 v (Below.more hw h);have gj1:=fun v (h:Below wr.heap.size wr v)=>j1 v (Below.more hw h)
   have gm0:=fun v (h:Below wr.heap.size wr v)=>m0 v (Below.more hw h);have gm1:=fun v (h:Below wr.heap.size wr v)=>m1 v (Below.more hw h)
   clear hw
   go_upto_region 7 with fail
   by_cases hs:(40:Int)<(an.length:Int)+(ad.length:Int)+(bn.length:Int)+(bd.length:Int)
   ·have hB:=zh (Nat.le_refl wr.heap.size);refine wp_region_noPanic ?_;refine wp_region_held_drew (S:=fun w'=>Below wr.heap.size wr w') (by kernel_rfl) (bz.drew) (fun hH0=>?_);refine wpAnyH_take (i:=0) (v:=?_) rfl (by kernel_rfl) (by kernel_rfl) (by kernel_rfl) (fun _ _ _ h=>h) (Or.inl ⟨by rfl,?_⟩) (by assumption) ?_;rotate_left 1
    ·(intro w hSw;(try dsimp only at hSw);go_simp<;>(with_reducible rfl))
    try simp only[Act.put,qA,qB,qC,qD,qE,qF]
    refine wpAnyH_take (i:=1) (v:=?_) rfl (by kernel_rfl) (by kernel_rfl) (by kernel_rfl) (fun _ _ _ h=>h) (Or.inl ⟨by rfl,?_⟩) (by assumption) ?_;rotate_left 1
    ·(intro w hSw;(try dsimp only at hSw);go_simp<;>(with_reducible rfl))
    try simp only[Act.put,qA,qB,qC,qD,qE,qF]
    refine wpAnyH_take (i:=2) (v:=?_) rfl (by kernel_rfl) (by kernel_rfl) (by kernel_rfl) (fun _ _ _ h=>h) (Or.inl ⟨by rfl,?_⟩) (by assumption) ?_;rotate_left 1
    ·(intro w hSw;(try dsimp only at hSw);go_simp<;>(with_reducible rfl))
    try simp only[Act.put,qA,qB,qC,qD,qE,qF]
    refine wpAnyH_take (i:=3) (v:=?_) rfl (by kernel_rfl) (by kernel_rfl) (by kernel_rfl) (fun _ _ _ h=>h) (Or.inl ⟨by rfl,?_⟩) (by assumption) ?_;rotate_left 1
    ·(intro w hSw;(try dsimp only at hSw);go_simp<;>(with_reducible rfl))
    try simp only[Act.put,qA,qB,qC,qD,qE,qF]
    refine wpAnyH_take (i:=4) (v:=?_) rfl (by kernel_rfl) (by kernel_rfl) (by kernel_rfl) (fun _ _ _ h=>h) (Or.inl ⟨by rfl,?_⟩) (by assumption) ?_;rotate_left 1
    ·(intro w hSw;(try dsimp only at hSw);go_simp<;>(with_reducible rfl))
    try simp only[Act.put,qA,qB,qC,qD,qE,qF]
    refine wpAnyH_take (i:=5) (v:=?_) rfl (by kernel_rfl) (by kernel_rfl) (by kernel_rfl) (fun _ _ _ h=>h) (Or.inl ⟨by rfl,?_⟩) (by assumption) ?_;rotate_left 1
    ·(intro w hSw;(try dsimp only at hSw);go_simp<;>(with_reducible rfl))
    try simp only[Act.put,qA,qB,qC,qD,qE,qF]
    refine wpAnyH_take (i:=6) (v:=?_) rfl (by kernel_rfl) (by kernel_rfl) (by kernel_rfl) (fun _ _ _ h=>h) (Or.inl ⟨by rfl,?_⟩) (by assumption) ?_;rotate_left 1
    ·(intro w hSw;(try dsimp only at hSw);go_simp<;>(with_reducible rfl))
    try simp only[Act.put,qA,qB,qC,qD,qE,qF]
    refine wpAnyH_take (i:=7) (v:=?_) rfl (by kernel_rfl) (by kernel_rfl) (by kernel_rfl) (fun _ _ _ h=>h) (Or.inl ⟨by rfl,?_⟩) (by assumption) ?_;rotate_left 1
    ·(intro w hSw;(try dsimp only at hSw);go_simp<;>(with_reducible rfl))
    try simp only[Act.put,qA,qB,qC,qD,qE,qF]
    refine wpAnyH_take (i:=8) (v:=?_) rfl (by kernel_rfl) (by kernel_rfl) (by kernel_rfl) (fun _ _ _ h=>h) (Or.inl ⟨by rfl,?_⟩) (by assumption) ?_;rotate_left 1
    ·(intro w hSw;(try dsimp only at hSw);go_simp<;>(with_reducible rfl))
    try simp only[Act.put,qA,qB,qC,qD,qE,qF]
    refine wpAnyH_take (i:=9) (v:=?_) rfl (by kernel_rfl) (by kernel_rfl) (by kernel_rfl) (fun _ _ _ h=>h) (Or.inl ⟨by rfl,?_⟩) (by assumption) ?_;rotate_left 1
    ·(intro w hSw;(try dsimp only at hSw);go_simp<;>(with_reducible rfl))
    try simp only[Act.put,qA,qB,qC,qD,qE,qF]
    refine wpAnyH_take (i:=10) (v:=?_) rfl (by kernel_rfl) (by kernel_rfl) (by kernel_rfl) (fun _ _ _ h=>h) (Or.inl ⟨by rfl,?_⟩) (by assumption) ?_;rotate_left 1
    ·(intro w hSw;(try dsimp only at hSw);go_simp<;>(with_reducible rfl))
    try simp only[Act.put,qA,qB,qC,qD,qE,qF]
    refine wpAnyH_take (i:=11) (v:=?_) rfl (by kernel_rfl) (by kernel_rfl) (by kernel_rfl) (fun _ _ _ h=>h) (Or.inl ⟨by rfl,?_⟩) (by assumption) ?_;rotate_left 1
    ·(intro w hSw;(try dsimp only at hSw);go_simp<;>(with_reducible rfl))
    try simp only[Act.put,qA,qB,qC,qD,qE,qF]
    refine wpAnyH_take (i:=12) (v:=?_) rfl (by kernel_rfl) (by kernel_rfl) (by kernel_rfl) (fun _ _ _ h=>h) (Or.inl ⟨by rfl,?_⟩) (by assumption) ?_;rotate_left 1
    ·(intro w hSw;(try dsimp only at hSw);go_simp<;>(with_reducible rfl))
    try simp only[Act.put,qA,qB,qC,qD,qE,qF]
    refine wpAnyH_take (i:=13) (v:=?_) rfl (by kernel_rfl) (by kernel_rfl) (by kernel_rfl) (fun _ _ _ h=>h) (Or.inl ⟨by rfl,?_⟩) (by assumption) ?_;rotate_left 1
    ·(intro w hSw;(try dsimp only at hSw);go_simp<;>(with_reducible rfl))
    try simp only[Act.put,qA,qB,qC,qD,qE,qF]
    refine wpAnyH_take (i:=14) (v:=?_) rfl (by kernel_rfl) (by kernel_rfl) (by kernel_rfl) (fun _ _ _ h=>h) (Or.inl ⟨by rfl,?_⟩) (by assumption) ?_;rotate_left 1
    ·(intro w hSw;(try dsimp only at hSw);go_simp<;>(with_reducible rfl))
    try simp only[Act.put,qA,qB,qC,qD,qE,qF]
    refine wpAnyH_take (i:=15) (v:=?_) rfl (by kernel_rfl) (by kernel_rfl) (by kernel_rfl) (fun _ _ _ h=>h) (Or.inl ⟨by rfl,?_⟩) (by assumption) ?_;rotate_left 1
    ·(intro w hSw;(try dsimp only at hSw);go_simp<;>(with_reducible rfl))
    try simp only[Act.put,qA,qB,qC,qD,qE,qF]
    refine wpAnyH_take (i:=16) (v:=?_) rfl (by kernel_rfl) (by kernel_rfl) (by kernel_rfl) (fun _ _ _ h=>h) (Or.inl ⟨by rfl,?_⟩) (by assumption) ?_;rotate_left 1
    ·(intro w hSw;(try dsimp only at hSw);go_simp<;>(with_reducible rfl))
    try simp only[Act.put,qA,qB,qC,qD,qE,qF]
    refine wpAnyH_take (i:=17) (v:=?_) rfl (by kernel_rfl) (by kernel_rfl) (by kernel_rfl) (fun _ _ _ h=>h) (Or.inl ⟨by rfl,?_⟩) (by assumption) ?_;rotate_left 1
    ·(intro w hSw;(try dsimp only at hSw);go_simp<;>(with_reducible rfl))
    try simp only[Act.put,qA,qB,qC,qD,qE,qF]
    refine wpAnyH_take (i:=18) (v:=?_) rfl (by kernel_rfl) (by kernel_rfl) (by kernel_rfl) (fun _ _ _ h=>h) (Or.inl ⟨by rfl,?_⟩) (by assumption) ?_;rotate_left 1
    ·(intro w hSw;(try dsimp only at hSw);go_simp<;>(with_reducible rfl))
    try simp only[Act.put,qA,qB,qC,qD,qE,qF]
    refine wpAnyH_take (i:=19) (v:=?_) rfl (by kernel_rfl) (by kernel_rfl) (by kernel_rfl) (fun _ _ _ h=>h) (Or.inl ⟨by rfl,?_⟩) (by assumption) ?_;rotate_left 1
    ·(intro w hSw;(try dsimp only at hSw);go_simp<;>(with_reducible rfl))
    try simp only[Act.put,qA,qB,qC,qD,qE,qF]
    refine wpAnyH_take (i:=20) (v:=?_) rfl (by kernel_rfl) (by kernel_rfl) (by kernel_rfl) (fun _ _ _ h=>h) (Or.inl ⟨by rfl,?_⟩) (by assumption) ?_;rotate_left 1
    ·(intro w hSw;(try dsimp only at hSw);go_simp<;>(with_reducible rfl))
    try simp only[Act.put,qA,qB,qC,qD,qE,qF]
    refine wpAnyH_take (i:=21) (v:=?_) rfl (by kernel_rfl) (by kernel_rfl) (by kernel_rfl) (fun _ _ _ h=>h) (Or.inl ⟨by rfl,?_⟩) (by assumption) ?_;rotate_left 1
    ·(intro w hSw;(try dsimp only at hSw);go_simp<;>(with_reducible rfl))
    try simp only[Act.put,qA,qB,qC,qD,qE,qF]
    refine wpAnyH_take (i:=22) (v:=?_) rfl (by kernel_rfl) (by kernel_rfl) (by kernel_rfl) (fun _ _ _ h=>h) (Or.inl ⟨by rfl,?_⟩) (by assumption) ?_;rotate_left 1
    ·(intro w hSw;(try dsimp only at hSw);go_simp<;>(with_reducible rfl))
    try simp only[Act.put,qA,qB,qC,qD,qE,qF]
    refine wpAnyH_take (i:=23) (v:=?_) rfl (by kernel_rfl) (by kernel_rfl) (by kernel_rfl) (fun _ _ _ h=>h) (Or.inl ⟨by rfl,?_⟩) (by assumption) ?_;rotate_left 1
    ·(intro w hSw;(try dsimp only at hSw);go_simp<;>(with_reducible rfl))
    try simp only[Act.put,qA,qB,qC,qD,qE,qF]
    refine wpAnyH_take (i:=24) (v:=?_) rfl (by kernel_rfl) (by kernel_rfl) (by kernel_rfl) (fun _ _ _ h=>h) (Or.inl ⟨by rfl,?_⟩) (by assumption) ?_;rotate_left 1
    ·(intro w hSw;(try dsimp only at hSw);go_simp<;>(with_reducible rfl))
    try simp only[Act.put,qA,qB,qC,qD,qE,qF]
    refine wpAnyH_take (i:=25) (v:=?_) rfl (by kernel_rfl) (by kernel_rfl) (by kernel_rfl) (fun _ _ _ h=>h) (Or.inl ⟨by rfl,?_⟩) (by assumption) ?_;rotate_left 1
    ·(intro w hSw;(try dsimp only at hSw);go_simp<;>(with_reducible rfl))
    try simp only[Act.put,qA,qB,qC,qD,qE,qF]
    refine wpAnyH_take (i:=26) (v:=?_) rfl (by kernel_rfl) (by kernel_rfl) (by kernel_rfl) (fun _ _ _ h=>h) (Or.inl ⟨by rfl,?_⟩) (by assumption) ?_;rotate_left 1
    ·(intro w hSw;(try dsimp only at hSw);go_simp<;>(with_reducible rfl))
    try simp only[Act.put,qA,qB,qC,qD,qE,qF]
    refine wpAnyH_take (i:=27) (v:=?_) rfl (by kernel_rfl) (by kernel_rfl) (by kernel_rfl) (fun _ _ _ h=>h) (Or.inl ⟨by rfl,?_⟩) (by assumption) ?_;rotate_left 1
    ·(intro w hSw;(try dsimp only at hSw);go_simp<;>(with_reducible rfl))
    try simp only[Act.put,qA,qB,qC,qD,qE,qF]
    refine wpAnyH_take (i:=28) (v:=?_) rfl (by kernel_rfl) (by kernel_rfl) (by kernel_rfl) (fun _ _ _ h=>h) (Or.inl ⟨by rfl,?_⟩) (by assumption) ?_;rotate_left 1
    ·(intro w hSw;(try dsimp only at hSw);go_simp<;>(with_reducible rfl))
    try simp only[Act.put,qA,qB,qC,qD,qE,qF]
    refine wpAnyH_take (i:=29) (v:=undef) rfl (by kernel_rfl) (by kernel_rfl) (by kernel_rfl) (fun _ _ _ h=>h) (Or.inr ⟨by rfl,rfl⟩) (by assumption) ?_
    try simp only[Act.put,qA,qB,qC,qD,qE,qF]
    refine wpAnyH_take (i:=30) (v:=undef) rfl (by kernel_rfl) (by kernel_rfl) (by kernel_rfl) (fun _ _ _ h=>h) (Or.inr ⟨by rfl,rfl⟩) (by assumption) ?_
    try simp only[Act.put,qA,qB,qC,qD,qE,qF]
    refine wpAnyH_take (i:=31) (v:=undef) rfl (by kernel_rfl) (by kernel_rfl) (by kernel_rfl) (fun _ _ _ h=>h) (Or.inr ⟨by rfl,rfl⟩) (by assumption) ?_
    try simp only[Act.put,qA,qB,qC,qD,qE,qF]
    refine wpAnyH_take (i:=32) (v:=undef) rfl (by kernel_rfl) (by kernel_rfl) (by kernel_rfl) (fun _ _ _ h=>h) (Or.inr ⟨by rfl,rfl⟩) (by assumption) ?_
    try simp only[Act.put,qA,qB,qC,qD,qE,qF]
    refine wpAnyH_take (i:=33) (v:=undef) rfl (by kernel_rfl) (by kernel_rfl) (by kernel_rfl) (fun _ _ _ h=>h) (Or.inr ⟨by rfl,rfl⟩) (by assumption) ?_
    try simp only[Act.put,qA,qB,qC,qD,qE,qF]
    refine wpAnyH_take (i:=34) (v:=undef) rfl (by kernel_rfl) (by kernel_rfl) (by kernel_rfl) (fun _ _ _ h=>h) (Or.inr ⟨by rfl,rfl⟩) (by assumption) ?_
    try simp only[Act.put,qA,qB,qC,qD,qE,qF]
    refine wpAnyH_take (i:=35) (v:=?_) rfl (by kernel_rfl) (by kernel_rfl) (by kernel_rfl) (fun _ _ _ h=>h) (Or.inl ⟨by rfl,?_⟩) (by assumption) ?_;rotate_left 1
    ·(intro w hSw;(try dsimp only at hSw);go_simp<;>(with_reducible rfl))
    try simp only[Act.put,qA,qB,qC,qD,qE,qF]
    refine wpAnyH_take (i:=36) (v:=?_) rfl (by kernel_rfl) (by kernel_rfl) (by kernel_rfl) (fun _ _ _ h=>h) (Or.inl ⟨by rfl,?_⟩) (by assumption) ?_;rotate_left 1
    ·(intro w hSw;(try dsimp only at hSw);go_simp<;>(with_reducible rfl))
    try simp only[Act.put,qA,qB,qC,qD,qE,qF]
    refine wpAnyH_take (i:=37) (v:=undef) rfl (by kernel_rfl) (by kernel_rfl) (by kernel_rfl) (fun _ _ _ h=>h) (Or.inr ⟨by rfl,rfl⟩) (by assumption) ?_
    try simp only[Act.put,qA,qB,qC,qD,qE,qF]
    refine wpAnyH_take (i:=38) (v:=undef) rfl (by kernel_rfl) (by kernel_rfl) (by kernel_rfl) (fun _ _ _ h=>h) (Or.inr ⟨by rfl,rfl⟩) (by assumption) ?_
    try simp only[Act.put,qA,qB,qC,qD,qE,qF]
    refine wpAnyH_take (i:=39) (v:=undef) rfl (by kernel_rfl) (by kernel_rfl) (by kernel_rfl) (fun _ _ _ h=>h) (Or.inr ⟨by rfl,rfl⟩) (by assumption) ?_
    try simp only[Act.put,qA,qB,qC,qD,qE,qF]
    refine wpAnyH_take (i:=40) (v:=undef) rfl (by kernel_rfl) (by kernel_rfl) (by kernel_rfl) (fun _ _ _ h=>h) (Or.inr ⟨by rfl,rfl⟩) (by assumption) ?_
    try simp only[Act.put,qA,qB,qC,qD,qE,qF]
    refine wpAnyH_take (i:=41) (v:=undef) rfl (by kernel_rfl) (by kernel_rfl) (by kernel_rfl) (fun _ _ _ h=>h) (Or.inr ⟨by rfl,rfl⟩) (by assumption) ?_
    try simp only[Act.put,qA,qB,qC,qD,qE,qF]
    refine wpAnyH_take (i:=42) (v:=undef) rfl (by kernel_rfl) (by kernel_rfl) (by kernel_rfl) (fun _ _ _ h=>h) (Or.inr ⟨by rfl,rfl⟩) (by assumption) ?_
    try simp only[Act.put,qA,qB,qC,qD,qE,qF]
    refine wpAnyH_take (i:=43) (v:=?_) rfl (by kernel_rfl) (by kernel_rfl) (by kernel_rfl) (fun _ _ _ h=>h) (Or.inl ⟨by rfl,?_⟩) (by assumption) ?_;rotate_left 1
    ·(intro w hSw;(try dsimp only at hSw);go_simp<;>(with_reducible rfl))
    try simp only[Act.put,qA,qB,qC,qD,qE,qF]
    refine wpAnyH_done (by kernel_rfl) ?_ _;refine NoPanic.normal ?_;have b51:=hH0;clear hH0;clear hB;go_wp2_with fail;go_ret;exact⟨ret_bool (by first|rfl|simp),Below.more BW (Below.more HB2.out b51)⟩
   ·have hz4:an.length≤40∧ad.length≤40∧bn.length≤40∧bd.length≤40:=by omega
    have CA1:Hid (∀V,Calls Tryz.prog 21 #[.agg #[.string ⟨an.toArray⟩,.string ⟨ad.toArray⟩]] V (GiveB V (isR (an,ad)))):=zh (fun V=>rqmay_any ⟨an.toArray⟩ ⟨ad.toArray⟩ V (by rw[size_of];omega) (by rw[size_of];omega));have CB1:Hid (∀V,Calls Tryz.prog 21 #[.agg #[.string ⟨bn.toArray⟩,.string ⟨bd.toArray⟩]] V (GiveB V (isR (bn,bd)))):=zh (fun V=>rqmay_any ⟨bn.toArray⟩ ⟨bd.toArray⟩ V (by rw[size_of];omega) (by rw[size_of];omega));have HZ5:=zh hz4;clear hz4
    cases hra:isR (an,ad) with
    | false =>
     rw[hra]at CA1;clear hra;have hB:=zh (Nat.le_refl wr.heap.size);refine wp_region_noPanic ?_;refine wp_region_held_drew (S:=fun w'=>Below wr.heap.size wr w') (by kernel_rfl) (bz.drew) (fun hH0=>?_);refine wpAnyH_take (i:=0) (v:=?_) rfl (by kernel_rfl) (by kernel_rfl) (by kernel_rfl) (fun _ _ _ h=>h) (Or.inl ⟨by rfl,?_⟩) (by assumption) ?_;rotate_left 1
     ·(intro w hSw;(try dsimp only at hSw);go_simp<;>(with_reducible rfl))
     try simp only[Act.put,qA,qB,qC,qD,qE,qF]
     refine wpAnyH_take (i:=1) (v:=?_) rfl (by kernel_rfl) (by kernel_rfl) (by kernel_rfl) (fun _ _ _ h=>h) (Or.inl ⟨by rfl,?_⟩) (by assumption) ?_;rotate_left 1
     ·(intro w hSw;(try dsimp only at hSw);go_simp<;>(with_reducible rfl))
     try simp only[Act.put,qA,qB,qC,qD,qE,qF]
     refine wpAnyH_take (i:=2) (v:=?_) rfl (by kernel_rfl) (by kernel_rfl) (by kernel_rfl) (fun _ _ _ h=>h) (Or.inl ⟨by rfl,?_⟩) (by assumption) ?_;rotate_left 1
     ·(intro w hSw;(try dsimp only at hSw);go_simp<;>(with_reducible rfl))
     try simp only[Act.put,qA,qB,qC,qD,qE,qF]
     refine wpAnyH_take (i:=3) (v:=?_) rfl (by kernel_rfl) (by kernel_rfl) (by kernel_rfl) (fun _ _ _ h=>h) (Or.inl ⟨by rfl,?_⟩) (by assumption) ?_;rotate_left 1
     ·(intro w hSw;(try dsimp only at hSw);go_simp<;>(with_reducible rfl))
     try simp only[Act.put,qA,qB,qC,qD,qE,qF]
     refine wpAnyH_take (i:=4) (v:=?_) rfl (by kernel_rfl) (by kernel_rfl) (by kernel_rfl) (fun _ _ _ h=>h) (Or.inl ⟨by rfl,?_⟩) (by assumption) ?_;rotate_left 1
     ·(intro w hSw;(try dsimp only at hSw);go_simp<;>(with_reducible rfl))
     try simp only[Act.put,qA,qB,qC,qD,qE,qF]
     refine wpAnyH_take (i:=5) (v:=?_) rfl (by kernel_rfl) (by kernel_rfl) (by kernel_rfl) (fun _ _ _ h=>h) (Or.inl ⟨by rfl,?_⟩) (by assumption) ?_;rotate_left 1
     ·(intro w hSw;(try dsimp only at hSw);go_simp<;>(with_reducible rfl))
     try simp only[Act.put,qA,qB,qC,qD,qE,qF]
     refine wpAnyH_take (i:=6) (v:=?_) rfl (by kernel_rfl) (by kernel_rfl) (by kernel_rfl) (fun _ _ _ h=>h) (Or.inl ⟨by rfl,?_⟩) (by assumption) ?_;rotate_left 1
     ·(intro w hSw;(try dsimp only at hSw);go_simp<;>(with_reducible rfl))
     try simp only[Act.put,qA,qB,qC,qD,qE,qF]
     refine wpAnyH_take (i:=7) (v:=?_) rfl (by kernel_rfl) (by kernel_rfl) (by kernel_rfl) (fun _ _ _ h=>h) (Or.inl ⟨by rfl,?_⟩) (by assumption) ?_;rotate_left 1
     ·(intro w hSw;(try dsimp only at hSw);go_simp<;>(with_reducible rfl))
     try simp only[Act.put,qA,qB,qC,qD,qE,qF]
     refine wpAnyH_take (i:=8) (v:=?_) rfl (by kernel_rfl) (by kernel_rfl) (by kernel_rfl) (fun _ _ _ h=>h) (Or.inl ⟨by rfl,?_⟩) (by assumption) ?_;rotate_left 1
     ·(intro w hSw;(try dsimp only at hSw);go_simp<;>(with_reducible rfl))
     try simp only[Act.put,qA,qB,qC,qD,qE,qF]
     refine wpAnyH_take (i:=9) (v:=?_) rfl (by kernel_rfl) (by kernel_rfl) (by kernel_rfl) (fun _ _ _ h=>h) (Or.inl ⟨by rfl,?_⟩) (by assumption) ?_;rotate_left 1
     ·(intro w hSw;(try dsimp only at hSw);go_simp<;>(with_reducible rfl))
     try simp only[Act.put,qA,qB,qC,qD,qE,qF]
     refine wpAnyH_take (i:=10) (v:=?_) rfl (by kernel_rfl) (by kernel_rfl) (by kernel_rfl) (fun _ _ _ h=>h) (Or.inl ⟨by rfl,?_⟩) (by assumption) ?_;rotate_left 1
     ·(intro w hSw;(try dsimp only at hSw);go_simp<;>(with_reducible rfl))
     try simp only[Act.put,qA,qB,qC,qD,qE,qF]
     refine wpAnyH_take (i:=11) (v:=?_) rfl (by kernel_rfl) (by kernel_rfl) (by kernel_rfl) (fun _ _ _ h=>h) (Or.inl ⟨by rfl,?_⟩) (by assumption) ?_;rotate_left 1
     ·(intro w hSw;(try dsimp only at hSw);go_simp<;>(with_reducible rfl))
     try simp only[Act.put,qA,qB,qC,qD,qE,qF]
     refine wpAnyH_take (i:=12) (v:=?_) rfl (by kernel_rfl) (by kernel_rfl) (by kernel_rfl) (fun _ _ _ h=>h) (Or.inl ⟨by rfl,?_⟩) (by assumption) ?_;rotate_left 1
     ·(intro w hSw;(try dsimp only at hSw);go_simp<;>(with_reducible rfl))
     try simp only[Act.put,qA,qB,qC,qD,qE,qF]
     refine wpAnyH_take (i:=13) (v:=?_) rfl (by kernel_rfl) (by kernel_rfl) (by kernel_rfl) (fun _ _ _ h=>h) (Or.inl ⟨by rfl,?_⟩) (by assumption) ?_;rotate_left 1
     ·(intro w hSw;(try dsimp only at hSw);go_simp<;>(with_reducible rfl))
     try simp only[Act.put,qA,qB,qC,qD,qE,qF]
     refine wpAnyH_take (i:=14) (v:=?_) rfl (by kernel_rfl) (by kernel_rfl) (by kernel_rfl) (fun _ _ _ h=>h) (Or.inl ⟨by rfl,?_⟩) (by assumption) ?_;rotate_left 1
     ·(intro w hSw;(try dsimp only at hSw);go_simp<;>(with_reducible rfl))
     try simp only[Act.put,qA,qB,qC,qD,qE,qF]
     refine wpAnyH_take (i:=15) (v:=?_) rfl (by kernel_rfl) (by kernel_rfl) (by kernel_rfl) (fun _ _ _ h=>h) (Or.inl ⟨by rfl,?_⟩) (by assumption) ?_;rotate_left 1
     ·(intro w hSw;(try dsimp only at hSw);go_simp<;>(with_reducible rfl))
     try simp only[Act.put,qA,qB,qC,qD,qE,qF]
     refine wpAnyH_take (i:=16) (v:=?_) rfl (by kernel_rfl) (by kernel_rfl) (by kernel_rfl) (fun _ _ _ h=>h) (Or.inl ⟨by rfl,?_⟩) (by assumption) ?_;rotate_left 1
     ·(intro w hSw;(try dsimp only at hSw);go_simp<;>(with_reducible rfl))
     try simp only[Act.put,qA,qB,qC,qD,qE,qF]
     refine wpAnyH_take (i:=17) (v:=?_) rfl (by kernel_rfl) (by kernel_rfl) (by kernel_rfl) (fun _ _ _ h=>h) (Or.inl ⟨by rfl,?_⟩) (by assumption) ?_;rotate_left 1
     ·(intro w hSw;(try dsimp only at hSw);go_simp<;>(with_reducible rfl))
     try simp only[Act.put,qA,qB,qC,qD,qE,qF]
     refine wpAnyH_take (i:=18) (v:=?_) rfl (by kernel_rfl) (by kernel_rfl) (by kernel_rfl) (fun _ _ _ h=>h) (Or.inl ⟨by rfl,?_⟩) (by assumption) ?_;rotate_left 1
     ·(intro w hSw;(try dsimp only at hSw);go_simp<;>(with_reducible rfl))
     try simp only[Act.put,qA,qB,qC,qD,qE,qF]
     refine wpAnyH_take (i:=19) (v:=?_) rfl (by kernel_rfl) (by kernel_rfl) (by kernel_rfl) (fun _ _ _ h=>h) (Or.inl ⟨by rfl,?_⟩) (by assumption) ?_;rotate_left 1
     ·(intro w hSw;(try dsimp only at hSw);go_simp<;>(with_reducible rfl))
     try simp only[Act.put,qA,qB,qC,qD,qE,qF]
     refine wpAnyH_take (i:=20) (v:=?_) rfl (by kernel_rfl) (by kernel_rfl) (by kernel_rfl) (fun _ _ _ h=>h) (Or.inl ⟨by rfl,?_⟩) (by assumption) ?_;rotate_left 1
     ·(intro w hSw;(try dsimp only at hSw);go_simp<;>(with_reducible rfl))
     try simp only[Act.put,qA,qB,qC,qD,qE,qF]
     refine wpAnyH_take (i:=21) (v:=?_) rfl (by kernel_rfl) (by kernel_rfl) (by kernel_rfl) (fun _ _ _ h=>h) (Or.inl ⟨by rfl,?_⟩) (by assumption) ?_;rotate_left 1
     ·(intro w hSw;(try dsimp only at hSw);go_simp<;>(with_reducible rfl))
     try simp only[Act.put,qA,qB,qC,qD,qE,qF]
     refine wpAnyH_take (i:=22) (v:=?_) rfl (by kernel_rfl) (by kernel_rfl) (by kernel_rfl) (fun _ _ _ h=>h) (Or.inl ⟨by rfl,?_⟩) (by assumption) ?_;rotate_left 1
     ·(intro w hSw;(try dsimp only at hSw);go_simp<;>(with_reducible rfl))
     try simp only[Act.put,qA,qB,qC,qD,qE,qF]
     refine wpAnyH_take (i:=23) (v:=?_) rfl (by kernel_rfl) (by kernel_rfl) (by kernel_rfl) (fun _ _ _ h=>h) (Or.inl ⟨by rfl,?_⟩) (by assumption) ?_;rotate_left 1
     ·(intro w hSw;(try dsimp only at hSw);go_simp<;>(with_reducible rfl))
     try simp only[Act.put,qA,qB,qC,qD,qE,qF]
     refine wpAnyH_take (i:=24) (v:=?_) rfl (by kernel_rfl) (by kernel_rfl) (by kernel_rfl) (fun _ _ _ h=>h) (Or.inl ⟨by rfl,?_⟩) (by assumption) ?_;rotate_left 1
     ·(intro w hSw;(try dsimp only at hSw);go_simp<;>(with_reducible rfl))
     try simp only[Act.put,qA,qB,qC,qD,qE,qF]
     refine wpAnyH_take (i:=25) (v:=?_) rfl (by kernel_rfl) (by kernel_rfl) (by kernel_rfl) (fun _ _ _ h=>h) (Or.inl ⟨by rfl,?_⟩) (by assumption) ?_;rotate_left 1
     ·(intro w hSw;(try dsimp only at hSw);go_simp<;>(with_reducible rfl))
     try simp only[Act.put,qA,qB,qC,qD,qE,qF]
     refine wpAnyH_take (i:=26) (v:=?_) rfl (by kernel_rfl) (by kernel_rfl) (by kernel_rfl) (fun _ _ _ h=>h) (Or.inl ⟨by rfl,?_⟩) (by assumption) ?_;rotate_left 1
     ·(intro w hSw;(try dsimp only at hSw);go_simp<;>(with_reducible rfl))
     try simp only[Act.put,qA,qB,qC,qD,qE,qF]
     refine wpAnyH_take (i:=27) (v:=?_) rfl (by kernel_rfl) (by kernel_rfl) (by kernel_rfl) (fun _ _ _ h=>h) (Or.inl ⟨by rfl,?_⟩) (by assumption) ?_;rotate_left 1
     ·(intro w hSw;(try dsimp only at hSw);go_simp<;>(with_reducible rfl))
     try simp only[Act.put,qA,qB,qC,qD,qE,qF]
     refine wpAnyH_take (i:=28) (v:=?_) rfl (by kernel_rfl) (by kernel_rfl) (by kernel_rfl) (fun _ _ _ h=>h) (Or.inl ⟨by rfl,?_⟩) (by assumption) ?_;rotate_left 1
     ·(intro w hSw;(try dsimp only at hSw);go_simp<;>(with_reducible rfl))
     try simp only[Act.put,qA,qB,qC,qD,qE,qF]
     refine wpAnyH_take (i:=29) (v:=?_) rfl (by kernel_rfl) (by kernel_rfl) (by kernel_rfl) (fun _ _ _ h=>h) (Or.inl ⟨by rfl,?_⟩) (by assumption) ?_;rotate_left 1
     ·(intro w hSw;(try dsimp only at hSw);go_simp<;>(with_reducible rfl))
     try simp only[Act.put,qA,qB,qC,qD,qE,qF]
     refine wpAnyH_take (i:=30) (v:=?_) rfl (by kernel_rfl) (by kernel_rfl) (by kernel_rfl) (fun _ _ _ h=>h) (Or.inl ⟨by rfl,?_⟩) (by assumption) ?_;rotate_left 1
     ·(intro w hSw;(try dsimp only at hSw);go_simp<;>(with_reducible rfl))
     try simp only[Act.put,qA,qB,qC,qD,qE,qF]
     refine wpAnyH_take (i:=31) (v:=?_) rfl (by kernel_rfl) (by kernel_rfl) (by kernel_rfl) (fun _ _ _ h=>h) (Or.inl ⟨by rfl,?_⟩) (by assumption) ?_;rotate_left 1
     ·(intro w hSw;(try dsimp only at hSw);go_simp<;>(with_reducible rfl))
     try simp only[Act.put,qA,qB,qC,qD,qE,qF]
     refine wpAnyH_take (i:=32) (v:=?_) rfl (by kernel_rfl) (by kernel_rfl) (by kernel_rfl) (fun _ _ _ h=>h) (Or.inl ⟨by rfl,?_⟩) (by assumption) ?_;rotate_left 1
     ·(intro w hSw;(try dsimp only at hSw);go_simp<;>(with_reducible rfl))
     try simp only[Act.put,qA,qB,qC,qD,qE,qF]
     refine wpAnyH_ready (rs:=[33]) (by kernel_rfl) (by simp) ?_;refine AllReadyH.cons rfl (fun K hK=>?_) AllReadyH.nil
     go_simp
     refine(held (W:=wr) hB.out (CA1.out _) (by assumption)).mono ?_;rintro e x1 ⟨rfl,hb,hw⟩
     (try go_wp2_with fail)
     refine hK.out _ _ hw (fun hH1=>?_);clear hK hH0 hb hw
     try simp only[Act.put,qA,qB,qC,qD,qE,qF]
     refine wpAnyH_take (i:=34) (v:=?_) rfl (by kernel_rfl) (by kernel_rfl) (by kernel_rfl) (fun _ _ _ h=>h) (Or.inl ⟨by rfl,?_⟩) (by assumption) ?_;rotate_left 1
     ·(intro w hSw;(try dsimp only at hSw);go_simp<;>(with_reducible rfl))
     try simp only[Act.put,qA,qB,qC,qD,qE,qF]
     refine wpAnyH_take (i:=35) (v:=?_) rfl (by kernel_rfl) (by kernel_rfl) (by kernel_rfl) (fun _ _ _ h=>h) (Or.inl ⟨by rfl,?_⟩) (by assumption) ?_;rotate_left 1
     ·(intro w hSw;(try dsimp only at hSw);go_simp<;>(with_reducible rfl))
     try simp only[Act.put,qA,qB,qC,qD,qE,qF]
     refine wpAnyH_take (i:=36) (v:=?_) rfl (by kernel_rfl) (by kernel_rfl) (by kernel_rfl) (fun _ _ _ h=>h) (Or.inl ⟨by rfl,?_⟩) (by assumption) ?_;rotate_left 1
     ·(intro w hSw;(try dsimp only at hSw);go_simp<;>(with_reducible rfl))
     try simp only[Act.put,qA,qB,qC,qD,qE,qF]
     refine wpAnyH_take (i:=37) (v:=undef) rfl (by kernel_rfl) (by kernel_rfl) (by kernel_rfl) (fun _ _ _ h=>h) (Or.inr ⟨by rfl,rfl⟩) (by assumption) ?_
     try simp only[Act.put,qA,qB,qC,qD,qE,qF]
     refine wpAnyH_take (i:=38) (v:=undef) rfl (by kernel_rfl) (by kernel_rfl) (by kernel_rfl) (fun _ _ _ h=>h) (Or.inr ⟨by rfl,rfl⟩) (by assumption) ?_
     try simp only[Act.put,qA,qB,qC,qD,qE,qF]
     refine wpAnyH_take (i:=39) (v:=undef) rfl (by kernel_rfl) (by kernel_rfl) (by kernel_rfl) (fun _ _ _ h=>h) (Or.inr ⟨by rfl,rfl⟩) (by assumption) ?_
     try simp only[Act.put,qA,qB,qC,qD,qE,qF]
     refine wpAnyH_take (i:=40) (v:=undef) rfl (by kernel_rfl) (by kernel_rfl) (by kernel_rfl) (fun _ _ _ h=>h) (Or.inr ⟨by rfl,rfl⟩) (by assumption) ?_
     try simp only[Act.put,qA,qB,qC,qD,qE,qF]
     refine wpAnyH_take (i:=41) (v:=undef) rfl (by kernel_rfl) (by kernel_rfl) (by kernel_rfl) (fun _ _ _ h=>h) (Or.inr ⟨by rfl,rfl⟩) (by assumption) ?_
     try simp only[Act.put,qA,qB,qC,qD,qE,qF]
     refine wpAnyH_take (i:=42) (v:=undef) rfl (by kernel_rfl) (by kernel_rfl) (by kernel_rfl) (fun _ _ _ h=>h) (Or.inr ⟨by rfl,rfl⟩) (by assumption) ?_
     try simp only[Act.put,qA,qB,qC,qD,qE,qF]
     refine wpAnyH_take (i:=43) (v:=?_) rfl (by kernel_rfl) (by kernel_rfl) (by kernel_rfl) (fun _ _ _ h=>h) (Or.inl ⟨by rfl,?_⟩) (by assumption) ?_;rotate_left 1
     ·(intro w hSw;(try dsimp only at hSw);go_simp<;>(with_reducible rfl))
     try simp only[Act.put,qA,qB,qC,qD,qE,qF]
     refine wpAnyH_done (by kernel_rfl) ?_ _;refine NoPanic.normal ?_;have b51:=hH1;clear hH1;clear hB;go_wp2_with fail;go_ret;exact⟨ret_bool (by first|rfl|simp),Below.more BW (Below.more HB2.out b51)⟩
    | true =>
    rw[hra]at CA1
    cases hrb:isR (bn,bd) with
    | false =>
     rw[hrb]at CB1;clear hrb;have hB:=zh (Nat.le_refl wr.heap.size);refine wp_region_noPanic ?_;refine wp_region_held_drew (S:=fun w'=>Below wr.heap.size wr w') (by kernel_rfl) (bz.drew) (fun hH0=>?_);refine wpAnyH_take (i:=0) (v:=?_) rfl (by kernel_rfl) (by kernel_rfl) (by kernel_rfl) (fun _ _ _ h=>h) (Or.inl ⟨by rfl,?_⟩) (by assumption) ?_;rotate_left 1
     ·(intro w hSw;(try dsimp only at hSw);go_simp<;>(with_reducible rfl))
     try simp only[Act.put,qA,qB,qC,qD,qE,qF]
     refine wpAnyH_take (i:=1) (v:=?_) rfl (by kernel_rfl) (by kernel_rfl) (by kernel_rfl) (fun _ _ _ h=>h) (Or.inl ⟨by rfl,?_⟩) (by assumption) ?_;rotate_left 1
     ·(intro w hSw;(try dsimp only at hSw);go_simp<;>(with_reducible rfl))
     try simp only[Act.put,qA,qB,qC,qD,qE,qF]
     refine wpAnyH_take (i:=2) (v:=?_) rfl (by kernel_rfl) (by kernel_rfl) (by kernel_rfl) (fun _ _ _ h=>h) (Or.inl ⟨by rfl,?_⟩) (by assumption) ?_;rotate_left 1
     ·(intro w hSw;(try dsimp only at hSw);go_simp<;>(with_reducible rfl))
     try simp only[Act.put,qA,qB,qC,qD,qE,qF]
     refine wpAnyH_take (i:=3) (v:=?_) rfl (by kernel_rfl) (by kernel_rfl) (by kernel_rfl) (fun _ _ _ h=>h) (Or.inl ⟨by rfl,?_⟩) (by assumption) ?_;rotate_left 1
     ·(intro w hSw;(try dsimp only at hSw);go_simp<;>(with_reducible rfl))
     try simp only[Act.put,qA,qB,qC,qD,qE,qF]
     refine wpAnyH_take (i:=4) (v:=?_) rfl (by kernel_rfl) (by kernel_rfl) (by kernel_rfl) (fun _ _ _ h=>h) (Or.inl ⟨by rfl,?_⟩) (by assumption) ?_;rotate_left 1
     ·(intro w hSw;(try dsimp only at hSw);go_simp<;>(with_reducible rfl))
     try simp only[Act.put,qA,qB,qC,qD,qE,qF]
     refine wpAnyH_take (i:=5) (v:=?_) rfl (by kernel_rfl) (by kernel_rfl) (by kernel_rfl) (fun _ _ _ h=>h) (Or.inl ⟨by rfl,?_⟩) (by assumption) ?_;rotate_left 1
     ·(intro w hSw;(try dsimp only at hSw);go_simp<;>(with_reducible rfl))
     try simp only[Act.put,qA,qB,qC,qD,qE,qF]
     refine wpAnyH_take (i:=6) (v:=?_) rfl (by kernel_rfl) (by kernel_rfl) (by kernel_rfl) (fun _ _ _ h=>h) (Or.inl ⟨by rfl,?_⟩) (by assumption) ?_;rotate_left 1
     ·(intro w hSw;(try dsimp only at hSw);go_simp<;>(with_reducible rfl))
     try simp only[Act.put,qA,qB,qC,qD,qE,qF]
     refine wpAnyH_take (i:=7) (v:=?_) rfl (by kernel_rfl) (by kernel_rfl) (by kernel_rfl) (fun _ _ _ h=>h) (Or.inl ⟨by rfl,?_⟩) (by assumption) ?_;rotate_left 1
     ·(intro w hSw;(try dsimp only at hSw);go_simp<;>(with_reducible rfl))
     try simp only[Act.put,qA,qB,qC,qD,qE,qF]
     refine wpAnyH_take (i:=8) (v:=?_) rfl (by kernel_rfl) (by kernel_rfl) (by kernel_rfl) (fun _ _ _ h=>h) (Or.inl ⟨by rfl,?_⟩) (by assumption) ?_;rotate_left 1
     ·(intro w hSw;(try dsimp only at hSw);go_simp<;>(with_reducible rfl))
     try simp only[Act.put,qA,qB,qC,qD,qE,qF]
     refine wpAnyH_take (i:=9) (v:=?_) rfl (by kernel_rfl) (by kernel_rfl) (by kernel_rfl) (fun _ _ _ h=>h) (Or.inl ⟨by rfl,?_⟩) (by assumption) ?_;rotate_left 1
     ·(intro w hSw;(try dsimp only at hSw);go_simp<;>(with_reducible rfl))
     try simp only[Act.put,qA,qB,qC,qD,qE,qF]
     refine wpAnyH_take (i:=10) (v:=?_) rfl (by kernel_rfl) (by kernel_rfl) (by kernel_rfl) (fun _ _ _ h=>h) (Or.inl ⟨by rfl,?_⟩) (by assumption) ?_;rotate_left 1
     ·(intro w hSw;(try dsimp only at hSw);go_simp<;>(with_reducible rfl))
     try simp only[Act.put,qA,qB,qC,qD,qE,qF]
     refine wpAnyH_take (i:=11) (v:=?_) rfl (by kernel_rfl) (by kernel_rfl) (by kernel_rfl) (fun _ _ _ h=>h) (Or.inl ⟨by rfl,?_⟩) (by assumption) ?_;rotate_left 1
     ·(intro w hSw;(try dsimp only at hSw);go_simp<;>(with_reducible rfl))
     try simp only[Act.put,qA,qB,qC,qD,qE,qF]
     refine wpAnyH_take (i:=12) (v:=?_) rfl (by kernel_rfl) (by kernel_rfl) (by kernel_rfl) (fun _ _ _ h=>h) (Or.inl ⟨by rfl,?_⟩) (by assumption) ?_;rotate_left 1
     ·(intro w hSw;(try dsimp only at hSw);go_simp<;>(with_reducible rfl))
     try simp only[Act.put,qA,qB,qC,qD,qE,qF]
     refine wpAnyH_take (i:=13) (v:=?_) rfl (by kernel_rfl) (by kernel_rfl) (by kernel_rfl) (fun _ _ _ h=>h) (Or.inl ⟨by rfl,?_⟩) (by assumption) ?_;rotate_left 1
     ·(intro w hSw;(try dsimp only at hSw);go_simp<;>(with_reducible rfl))
     try simp only[Act.put,qA,qB,qC,qD,qE,qF]
     refine wpAnyH_take (i:=14) (v:=?_) rfl (by kernel_rfl) (by kernel_rfl) (by kernel_rfl) (fun _ _ _ h=>h) (Or.inl ⟨by rfl,?_⟩) (by assumption) ?_;rotate_left 1
     ·(intro w hSw;(try dsimp only at hSw);go_simp<;>(with_reducible rfl))
     try simp only[Act.put,qA,qB,qC,qD,qE,qF]
     refine wpAnyH_take (i:=15) (v:=?_) rfl (by kernel_rfl) (by kernel_rfl) (by kernel_rfl) (fun _ _ _ h=>h) (Or.inl ⟨by rfl,?_⟩) (by assumption) ?_;rotate_left 1
     ·(intro w hSw;(try dsimp only at hSw);go_simp<;>(with_reducible rfl))
     try simp only[Act.put,qA,qB,qC,qD,qE,qF]
     refine wpAnyH_take (i:=16) (v:=?_) rfl (by kernel_rfl) (by kernel_rfl) (by kernel_rfl) (fun _ _ _ h=>h) (Or.inl ⟨by rfl,?_⟩) (by assumption) ?_;rotate_left 1
     ·(intro w hSw;(try dsimp only at hSw);go_simp<;>(with_reducible rfl))
     try simp only[Act.put,qA,qB,qC,qD,qE,qF]
     refine wpAnyH_take (i:=17) (v:=?_) rfl (by kernel_rfl) (by kernel_rfl) (by kernel_rfl) (fun _ _ _ h=>h) (Or.inl ⟨by rfl,?_⟩) (by assumption) ?_;rotate_left 1
     ·(intro w hSw;(try dsimp only at hSw);go_simp<;>(with_reducible rfl))
     try simp only[Act.put,qA,qB,qC,qD,qE,qF]
     refine wpAnyH_take (i:=18) (v:=?_) rfl (by kernel_rfl) (by kernel_rfl) (by kernel_rfl) (fun _ _ _ h=>h) (Or.inl ⟨by rfl,?_⟩) (by assumption) ?_;rotate_left 1
     ·(intro w hSw;(try dsimp only at hSw);go_simp<;>(with_reducible rfl))
     try simp only[Act.put,qA,qB,qC,qD,qE,qF]
     refine wpAnyH_take (i:=19) (v:=?_) rfl (by kernel_rfl) (by kernel_rfl) (by kernel_rfl) (fun _ _ _ h=>h) (Or.inl ⟨by rfl,?_⟩) (by assumption) ?_;rotate_left 1
     ·(intro w hSw;(try dsimp only at hSw);go_simp<;>(with_reducible rfl))
     try simp only[Act.put,qA,qB,qC,qD,qE,qF]
     refine wpAnyH_take (i:=20) (v:=?_) rfl (by kernel_rfl) (by kernel_rfl) (by kernel_rfl) (fun _ _ _ h=>h) (Or.inl ⟨by rfl,?_⟩) (by assumption) ?_;rotate_left 1
     ·(intro w hSw;(try dsimp only at hSw);go_simp<;>(with_reducible rfl))
     try simp only[Act.put,qA,qB,qC,qD,qE,qF]
     refine wpAnyH_take (i:=21) (v:=?_) rfl (by kernel_rfl) (by kernel_rfl) (by kernel_rfl) (fun _ _ _ h=>h) (Or.inl ⟨by rfl,?_⟩) (by assumption) ?_;rotate_left 1
     ·(intro w hSw;(try dsimp only at hSw);go_simp<;>(with_reducible rfl))
     try simp only[Act.put,qA,qB,qC,qD,qE,qF]
     refine wpAnyH_take (i:=22) (v:=?_) rfl (by kernel_rfl) (by kernel_rfl) (by kernel_rfl) (fun _ _ _ h=>h) (Or.inl ⟨by rfl,?_⟩) (by assumption) ?_;rotate_left 1
     ·(intro w hSw;(try dsimp only at hSw);go_simp<;>(with_reducible rfl))
     try simp only[Act.put,qA,qB,qC,qD,qE,qF]
     refine wpAnyH_take (i:=23) (v:=?_) rfl (by kernel_rfl) (by kernel_rfl) (by kernel_rfl) (fun _ _ _ h=>h) (Or.inl ⟨by rfl,?_⟩) (by assumption) ?_;rotate_left 1
     ·(intro w hSw;(try dsimp only at hSw);go_simp<;>(with_reducible rfl))
     try simp only[Act.put,qA,qB,qC,qD,qE,qF]
     refine wpAnyH_take (i:=24) (v:=?_) rfl (by kernel_rfl) (by kernel_rfl) (by kernel_rfl) (fun _ _ _ h=>h) (Or.inl ⟨by rfl,?_⟩) (by assumption) ?_;rotate_left 1
     ·(intro w hSw;(try dsimp only at hSw);go_simp<;>(with_reducible rfl))
     try simp only[Act.put,qA,qB,qC,qD,qE,qF]
     refine wpAnyH_take (i:=25) (v:=?_) rfl (by kernel_rfl) (by kernel_rfl) (by kernel_rfl) (fun _ _ _ h=>h) (Or.inl ⟨by rfl,?_⟩) (by assumption) ?_;rotate_left 1
     ·(intro w hSw;(try dsimp only at hSw);go_simp<;>(with_reducible rfl))
     try simp only[Act.put,qA,qB,qC,qD,qE,qF]
     refine wpAnyH_take (i:=26) (v:=?_) rfl (by kernel_rfl) (by kernel_rfl) (by kernel_rfl) (fun _ _ _ h=>h) (Or.inl ⟨by rfl,?_⟩) (by assumption) ?_;rotate_left 1
     ·(intro w hSw;(try dsimp only at hSw);go_simp<;>(with_reducible rfl))
     try simp only[Act.put,qA,qB,qC,qD,qE,qF]
     refine wpAnyH_take (i:=27) (v:=?_) rfl (by kernel_rfl) (by kernel_rfl) (by kernel_rfl) (fun _ _ _ h=>h) (Or.inl ⟨by rfl,?_⟩) (by assumption) ?_;rotate_left 1
     ·(intro w hSw;(try dsimp only at hSw);go_simp<;>(with_reducible rfl))
     try simp only[Act.put,qA,qB,qC,qD,qE,qF]
     refine wpAnyH_take (i:=28) (v:=?_) rfl (by kernel_rfl) (by kernel_rfl) (by kernel_rfl) (fun _ _ _ h=>h) (Or.inl ⟨by rfl,?_⟩) (by assumption) ?_;rotate_left 1
     ·(intro w hSw;(try dsimp only at hSw);go_simp<;>(with_reducible rfl))
     try simp only[Act.put,qA,qB,qC,qD,qE,qF]
     refine wpAnyH_take (i:=29) (v:=?_) rfl (by kernel_rfl) (by kernel_rfl) (by kernel_rfl) (fun _ _ _ h=>h) (Or.inl ⟨by rfl,?_⟩) (by assumption) ?_;rotate_left 1
     ·(intro w hSw;(try dsimp only at hSw);go_simp<;>(with_reducible rfl))
     try simp only[Act.put,qA,qB,qC,qD,qE,qF]
     refine wpAnyH_take (i:=30) (v:=?_) rfl (by kernel_rfl) (by kernel_rfl) (by kernel_rfl) (fun _ _ _ h=>h) (Or.inl ⟨by rfl,?_⟩) (by assumption) ?_;rotate_left 1
     ·(intro w hSw;(try dsimp only at hSw);go_simp<;>(with_reducible rfl))
     try simp only[Act.put,qA,qB,qC,qD,qE,qF]
     refine wpAnyH_take (i:=31) (v:=?_) rfl (by kernel_rfl) (by kernel_rfl) (by kernel_rfl) (fun _ _ _ h=>h) (Or.inl ⟨by rfl,?_⟩) (by assumption) ?_;rotate_left 1
     ·(intro w hSw;(try dsimp only at hSw);go_simp<;>(with_reducible rfl))
     try simp only[Act.put,qA,qB,qC,qD,qE,qF]
     refine wpAnyH_take (i:=32) (v:=?_) rfl (by kernel_rfl) (by kernel_rfl) (by kernel_rfl) (fun _ _ _ h=>h) (Or.inl ⟨by rfl,?_⟩) (by assumption) ?_;rotate_left 1
     ·(intro w hSw;(try dsimp only at hSw);go_simp<;>(with_reducible rfl))
     try simp only[Act.put,qA,qB,qC,qD,qE,qF]
     refine wpAnyH_ready (rs:=[33]) (by kernel_rfl) (by simp) ?_;refine AllReadyH.cons rfl (fun K hK=>?_) AllReadyH.nil
     go_simp
     refine(held (W:=wr) hB.out (CA1.out _) (by assumption)).mono ?_;rintro e x1 ⟨rfl,hb,hw⟩
     (try go_wp2_with fail)
     refine hK.out _ _ hw (fun hH1=>?_);clear hK hH0 hb hw
     try simp only[Act.put,qA,qB,qC,qD,qE,qF]
     refine wpAnyH_take (i:=34) (v:=?_) rfl (by kernel_rfl) (by kernel_rfl) (by kernel_rfl) (fun _ _ _ h=>h) (Or.inl ⟨by rfl,?_⟩) (by assumption) ?_;rotate_left 1
     ·(intro w hSw;(try dsimp only at hSw);go_simp<;>(with_reducible rfl))
     try simp only[Act.put,qA,qB,qC,qD,qE,qF]
     refine wpAnyH_take (i:=35) (v:=?_) rfl (by kernel_rfl) (by kernel_rfl) (by kernel_rfl) (fun _ _ _ h=>h) (Or.inl ⟨by rfl,?_⟩) (by assumption) ?_;rotate_left 1
     ·(intro w hSw;(try dsimp only at hSw);go_simp<;>(with_reducible rfl))
     try simp only[Act.put,qA,qB,qC,qD,qE,qF]
     refine wpAnyH_take (i:=36) (v:=?_) rfl (by kernel_rfl) (by kernel_rfl) (by kernel_rfl) (fun _ _ _ h=>h) (Or.inl ⟨by rfl,?_⟩) (by assumption) ?_;rotate_left 1
     ·(intro w hSw;(try dsimp only at hSw);go_simp<;>(with_reducible rfl))
     try simp only[Act.put,qA,qB,qC,qD,qE,qF]
     refine wpAnyH_take (i:=37) (v:=?_) rfl (by kernel_rfl) (by kernel_rfl) (by kernel_rfl) (fun _ _ _ h=>h) (Or.inl ⟨by rfl,?_⟩) (by assumption) ?_;rotate_left 1
     ·(intro w hSw;(try dsimp only at hSw);go_simp<;>(with_reducible rfl))
     try simp only[Act.put,qA,qB,qC,qD,qE,qF]
     refine wpAnyH_take (i:=38) (v:=?_) rfl (by kernel_rfl) (by kernel_rfl) (by kernel_rfl) (fun _ _ _ h=>h) (Or.inl ⟨by rfl,?_⟩) (by assumption) ?_;rotate_left 1
     ·(intro w hSw;(try dsimp only at hSw);go_simp<;>(with_reducible rfl))
     try simp only[Act.put,qA,qB,qC,qD,qE,qF]
     refine wpAnyH_take (i:=39) (v:=?_) rfl (by kernel_rfl) (by kernel_rfl) (by kernel_rfl) (fun _ _ _ h=>h) (Or.inl ⟨by rfl,?_⟩) (by assumption) ?_;rotate_left 1
     ·(intro w hSw;(try dsimp only at hSw);go_simp<;>(with_reducible rfl))
     try simp only[Act.put,qA,qB,qC,qD,qE,qF]
     refine wpAnyH_take (i:=40) (v:=?_) rfl (by kernel_rfl) (by kernel_rfl) (by kernel_rfl) (fun _ _ _ h=>h) (Or.inl ⟨by rfl,?_⟩) (by assumption) ?_;rotate_left 1
     ·(intro w hSw;(try dsimp only at hSw);go_simp<;>(with_reducible rfl))
     try simp only[Act.put,qA,qB,qC,qD,qE,qF]
     refine wpAnyH_ready (rs:=[41]) (by kernel_rfl) (by simp) ?_;refine AllReadyH.cons rfl (fun K hK=>?_) AllReadyH.nil
     go_simp
     refine(held (W:=wr) hB.out (CB1.out _) (by assumption)).mono ?_;rintro e x2 ⟨rfl,hb,hw⟩
     (try go_wp2_with fail)
     refine hK.out _ _ hw (fun hH2=>?_);clear hK hH1 hb hw
     try simp only[Act.put,qA,qB,qC,qD,qE,qF]
     refine wpAnyH_take (i:=42) (v:=?_) rfl (by kernel_rfl) (by kernel_rfl) (by kernel_rfl) (fun _ _ _ h=>h) (Or.inl ⟨by rfl,?_⟩) (by assumption) ?_;rotate_left 1
     ·(intro w hSw;(try dsimp only at hSw);go_simp<;>(with_reducible rfl))
     try simp only[Act.put,qA,qB,qC,qD,qE,qF]
     refine wpAnyH_take (i:=43) (v:=?_) rfl (by kernel_rfl) (by kernel_rfl) (by kernel_rfl) (fun _ _ _ h=>h) (Or.inl ⟨by rfl,?_⟩) (by assumption) ?_;rotate_left 1
     ·(intro w hSw;(try dsimp only at hSw);go_simp<;>(with_reducible rfl))
     try simp only[Act.put,qA,qB,qC,qD,qE,qF]
     refine wpAnyH_done (by kernel_rfl) ?_ _;refine NoPanic.normal ?_;have b51:=hH2;clear hH2;clear hB;go_wp2_with fail;go_ret;exact⟨ret_bool (by first|rfl|simp),Below.more BW (Below.more HB2.out b51)⟩
    | true =>
    rw[hrb]at CB1;have hB:=zh (Nat.le_refl wr.heap.size);refine wp_region_noPanic ?_;refine wp_region_held_drew (S:=fun w'=>Below wr.heap.size wr w') (by kernel_rfl) (bz.drew) (fun hH0=>?_);refine wpAnyH_take (i:=0) (v:=?_) rfl (by kernel_rfl) (by kernel_rfl) (by kernel_rfl) (fun _ _ _ h=>h) (Or.inl ⟨by rfl,?_⟩) (by assumption) ?_;rotate_left 1
    ·(intro w hSw;(try dsimp only at hSw);go_simp<;>(with_reducible rfl))
    try simp only[Act.put,qA,qB,qC,qD,qE,qF]
    refine wpAnyH_take (i:=1) (v:=?_) rfl (by kernel_rfl) (by kernel_rfl) (by kernel_rfl) (fun _ _ _ h=>h) (Or.inl ⟨by rfl,?_⟩) (by assumption) ?_;rotate_left 1
    ·(intro w hSw;(try dsimp only at hSw);go_simp<;>(with_reducible rfl))
    try simp only[Act.put,qA,qB,qC,qD,qE,qF]
    refine wpAnyH_take (i:=2) (v:=?_) rfl (by kernel_rfl) (by kernel_rfl) (by kernel_rfl) (fun _ _ _ h=>h) (Or.inl ⟨by rfl,?_⟩) (by assumption) ?_;rotate_left 1
    ·(intro w hSw;(try dsimp only at hSw);go_simp<;>(with_reducible rfl))
    try simp only[Act.put,qA,qB,qC,qD,qE,qF]
    refine wpAnyH_take (i:=3) (v:=?_) rfl (by kernel_rfl) (by kernel_rfl) (by kernel_rfl) (fun _ _ _ h=>h) (Or.inl ⟨by rfl,?_⟩) (by assumption) ?_;rotate_left 1
    ·(intro w hSw;(try dsimp only at hSw);go_simp<;>(with_reducible rfl))
    try simp only[Act.put,qA,qB,qC,qD,qE,qF]
    refine wpAnyH_take (i:=4) (v:=?_) rfl (by kernel_rfl) (by kernel_rfl) (by kernel_rfl) (fun _ _ _ h=>h) (Or.inl ⟨by rfl,?_⟩) (by assumption) ?_;rotate_left 1
    ·(intro w hSw;(try dsimp only at hSw);go_simp<;>(with_reducible rfl))
    try simp only[Act.put,qA,qB,qC,qD,qE,qF]
    refine wpAnyH_take (i:=5) (v:=?_) rfl (by kernel_rfl) (by kernel_rfl) (by kernel_rfl) (fun _ _ _ h=>h) (Or.inl ⟨by rfl,?_⟩) (by assumption) ?_;rotate_left 1
    ·(intro w hSw;(try dsimp only at hSw);go_simp<;>(with_reducible rfl))
    try simp only[Act.put,qA,qB,qC,qD,qE,qF]
    refine wpAnyH_take (i:=6) (v:=?_) rfl (by kernel_rfl) (by kernel_rfl) (by kernel_rfl) (fun _ _ _ h=>h) (Or.inl ⟨by rfl,?_⟩) (by assumption) ?_;rotate_left 1
    ·(intro w hSw;(try dsimp only at hSw);go_simp<;>(with_reducible rfl))
    try simp only[Act.put,qA,qB,qC,qD,qE,qF]
    refine wpAnyH_take (i:=7) (v:=?_) rfl (by kernel_rfl) (by kernel_rfl) (by kernel_rfl) (fun _ _ _ h=>h) (Or.inl ⟨by rfl,?_⟩) (by assumption) ?_;rotate_left 1
    ·(intro w hSw;(try dsimp only at hSw);go_simp<;>(with_reducible rfl))
    try simp only[Act.put,qA,qB,qC,qD,qE,qF]
    refine wpAnyH_take (i:=8) (v:=?_) rfl (by kernel_rfl) (by kernel_rfl) (by kernel_rfl) (fun _ _ _ h=>h) (Or.inl ⟨by rfl,?_⟩) (by assumption) ?_;rotate_left 1
    ·(intro w hSw;(try dsimp only at hSw);go_simp<;>(with_reducible rfl))
    try simp only[Act.put,qA,qB,qC,qD,qE,qF]
    refine wpAnyH_take (i:=9) (v:=?_) rfl (by kernel_rfl) (by kernel_rfl) (by kernel_rfl) (fun _ _ _ h=>h) (Or.inl ⟨by rfl,?_⟩) (by assumption) ?_;rotate_left 1
    ·(intro w hSw;(try dsimp only at hSw);go_simp<;>(with_reducible rfl))
    try simp only[Act.put,qA,qB,qC,qD,qE,qF]
    refine wpAnyH_take (i:=10) (v:=?_) rfl (by kernel_rfl) (by kernel_rfl) (by kernel_rfl) (fun _ _ _ h=>h) (Or.inl ⟨by rfl,?_⟩) (by assumption) ?_;rotate_left 1
    ·(intro w hSw;(try dsimp only at hSw);go_simp<;>(with_reducible rfl))
    try simp only[Act.put,qA,qB,qC,qD,qE,qF]
    refine wpAnyH_take (i:=11) (v:=?_) rfl (by kernel_rfl) (by kernel_rfl) (by kernel_rfl) (fun _ _ _ h=>h) (Or.inl ⟨by rfl,?_⟩) (by assumption) ?_;rotate_left 1
    ·(intro w hSw;(try dsimp only at hSw);go_simp<;>(with_reducible rfl))
    try simp only[Act.put,qA,qB,qC,qD,qE,qF]
    refine wpAnyH_take (i:=12) (v:=?_) rfl (by kernel_rfl) (by kernel_rfl) (by kernel_rfl) (fun _ _ _ h=>h) (Or.inl ⟨by rfl,?_⟩) (by assumption) ?_;rotate_left 1
    ·(intro w hSw;(try dsimp only at hSw);go_simp<;>(with_reducible rfl))
    try simp only[Act.put,qA,qB,qC,qD,qE,qF]
    refine wpAnyH_take (i:=13) (v:=?_) rfl (by kernel_rfl) (by kernel_rfl) (by kernel_rfl) (fun _ _ _ h=>h) (Or.inl ⟨by rfl,?_⟩) (by assumption) ?_;rotate_left 1
    ·(intro w hSw;(try dsimp only at hSw);go_simp<;>(with_reducible rfl))
    try simp only[Act.put,qA,qB,qC,qD,qE,qF]
    refine wpAnyH_take (i:=14) (v:=?_) rfl (by kernel_rfl) (by kernel_rfl) (by kernel_rfl) (fun _ _ _ h=>h) (Or.inl ⟨by rfl,?_⟩) (by assumption) ?_;rotate_left 1
    ·(intro w hSw;(try dsimp only at hSw);go_simp<;>(with_reducible rfl))
    try simp only[Act.put,qA,qB,qC,qD,qE,qF]
    refine wpAnyH_take (i:=15) (v:=?_) rfl (by kernel_rfl) (by kernel_rfl) (by kernel_rfl) (fun _ _ _ h=>h) (Or.inl ⟨by rfl,?_⟩) (by assumption) ?_;rotate_left 1
    ·(intro w hSw;(try dsimp only at hSw);go_simp<;>(with_reducible rfl))
    try simp only[Act.put,qA,qB,qC,qD,qE,qF]
    refine wpAnyH_take (i:=16) (v:=?_) rfl (by kernel_rfl) (by kernel_rfl) (by kernel_rfl) (fun _ _ _ h=>h) (Or.inl ⟨by rfl,?_⟩) (by assumption) ?_;rotate_left 1
    ·(intro w hSw;(try dsimp only at hSw);go_simp<;>(with_reducible rfl))
    try simp only[Act.put,qA,qB,qC,qD,qE,qF]
    refine wpAnyH_take (i:=17) (v:=?_) rfl (by kernel_rfl) (by kernel_rfl) (by kernel_rfl) (fun _ _ _ h=>h) (Or.inl ⟨by rfl,?_⟩) (by assumption) ?_;rotate_left 1
    ·(intro w hSw;(try dsimp only at hSw);go_simp<;>(with_reducible rfl))
    try simp only[Act.put,qA,qB,qC,qD,qE,qF]
    refine wpAnyH_take (i:=18) (v:=?_) rfl (by kernel_rfl) (by kernel_rfl) (by kernel_rfl) (fun _ _ _ h=>h) (Or.inl ⟨by rfl,?_⟩) (by assumption) ?_;rotate_left 1
    ·(intro w hSw;(try dsimp only at hSw);go_simp<;>(with_reducible rfl))
    try simp only[Act.put,qA,qB,qC,qD,qE,qF]
    refine wpAnyH_take (i:=19) (v:=?_) rfl (by kernel_rfl) (by kernel_rfl) (by kernel_rfl) (fun _ _ _ h=>h) (Or.inl ⟨by rfl,?_⟩) (by assumption) ?_;rotate_left 1
    ·(intro w hSw;(try dsimp only at hSw);go_simp<;>(with_reducible rfl))
    try simp only[Act.put,qA,qB,qC,qD,qE,qF]
    refine wpAnyH_take (i:=20) (v:=?_) rfl (by kernel_rfl) (by kernel_rfl) (by kernel_rfl) (fun _ _ _ h=>h) (Or.inl ⟨by rfl,?_⟩) (by assumption) ?_;rotate_left 1
    ·(intro w hSw;(try dsimp only at hSw);go_simp<;>(with_reducible rfl))
    try simp only[Act.put,qA,qB,qC,qD,qE,qF]
    refine wpAnyH_take (i:=21) (v:=?_) rfl (by kernel_rfl) (by kernel_rfl) (by kernel_rfl) (fun _ _ _ h=>h) (Or.inl ⟨by rfl,?_⟩) (by assumption) ?_;rotate_left 1
    ·(intro w hSw;(try dsimp only at hSw);go_simp<;>(with_reducible rfl))
    try simp only[Act.put,qA,qB,qC,qD,qE,qF]
    refine wpAnyH_take (i:=22) (v:=?_) rfl (by kernel_rfl) (by kernel_rfl) (by kernel_rfl) (fun _ _ _ h=>h) (Or.inl ⟨by rfl,?_⟩) (by assumption) ?_;rotate_left 1
    ·(intro w hSw;(try dsimp only at hSw);go_simp<;>(with_reducible rfl))
    try simp only[Act.put,qA,qB,qC,qD,qE,qF]
    refine wpAnyH_take (i:=23) (v:=?_) rfl (by kernel_rfl) (by kernel_rfl) (by kernel_rfl) (fun _ _ _ h=>h) (Or.inl ⟨by rfl,?_⟩) (by assumption) ?_;rotate_left 1
    ·(intro w hSw;(try dsimp only at hSw);go_simp<;>(with_reducible rfl))
    try simp only[Act.put,qA,qB,qC,qD,qE,qF]
    refine wpAnyH_take (i:=24) (v:=?_) rfl (by kernel_rfl) (by kernel_rfl) (by kernel_rfl) (fun _ _ _ h=>h) (Or.inl ⟨by rfl,?_⟩) (by assumption) ?_;rotate_left 1
    ·(intro w hSw;(try dsimp only at hSw);go_simp<;>(with_reducible rfl))
    try simp only[Act.put,qA,qB,qC,qD,qE,qF]
    refine wpAnyH_take (i:=25) (v:=?_) rfl (by kernel_rfl) (by kernel_rfl) (by kernel_rfl) (fun _ _ _ h=>h) (Or.inl ⟨by rfl,?_⟩) (by assumption) ?_;rotate_left 1
    ·(intro w hSw;(try dsimp only at hSw);go_simp<;>(with_reducible rfl))
    try simp only[Act.put,qA,qB,qC,qD,qE,qF]
    refine wpAnyH_take (i:=26) (v:=?_) rfl (by kernel_rfl) (by kernel_rfl) (by kernel_rfl) (fun _ _ _ h=>h) (Or.inl ⟨by rfl,?_⟩) (by assumption) ?_;rotate_left 1
    ·(intro w hSw;(try dsimp only at hSw);go_simp<;>(with_reducible rfl))
    try simp only[Act.put,qA,qB,qC,qD,qE,qF]
    refine wpAnyH_take (i:=27) (v:=?_) rfl (by kernel_rfl) (by kernel_rfl) (by kernel_rfl) (fun _ _ _ h=>h) (Or.inl ⟨by rfl,?_⟩) (by assumption) ?_;rotate_left 1
    ·(intro w hSw;(try dsimp only at hSw);go_simp<;>(with_reducible rfl))
    try simp only[Act.put,qA,qB,qC,qD,qE,qF]
    refine wpAnyH_take (i:=28) (v:=?_) rfl (by kernel_rfl) (by kernel_rfl) (by kernel_rfl) (fun _ _ _ h=>h) (Or.inl ⟨by rfl,?_⟩) (by assumption) ?_;rotate_left 1
    ·(intro w hSw;(try dsimp only at hSw);go_simp<;>(with_reducible rfl))
    try simp only[Act.put,qA,qB,qC,qD,qE,qF]
    refine wpAnyH_take (i:=29) (v:=?_) rfl (by kernel_rfl) (by kernel_rfl) (by kernel_rfl) (fun _ _ _ h=>h) (Or.inl ⟨by rfl,?_⟩) (by assumption) ?_;rotate_left 1
    ·(intro w hSw;(try dsimp only at hSw);go_simp<;>(with_reducible rfl))
    try simp only[Act.put,qA,qB,qC,qD,qE,qF]
    refine wpAnyH_take (i:=30) (v:=?_) rfl (by kernel_rfl) (by kernel_rfl) (by kernel_rfl) (fun _ _ _ h=>h) (Or.inl ⟨by rfl,?_⟩) (by assumption) ?_;rotate_left 1
    ·(intro w hSw;(try dsimp only at hSw);go_simp<;>(with_reducible rfl))
    try simp only[Act.put,qA,qB,qC,qD,qE,qF]
    refine wpAnyH_take (i:=31) (v:=?_) rfl (by kernel_rfl) (by kernel_rfl) (by kernel_rfl) (fun _ _ _ h=>h) (Or.inl ⟨by rfl,?_⟩) (by assumption) ?_;rotate_left 1
    ·(intro w hSw;(try dsimp only at hSw);go_simp<;>(with_reducible rfl))
    try simp only[Act.put,qA,qB,qC,qD,qE,qF]
    refine wpAnyH_take (i:=32) (v:=?_) rfl (by kernel_rfl) (by kernel_rfl) (by kernel_rfl) (fun _ _ _ h=>h) (Or.inl ⟨by rfl,?_⟩) (by assumption) ?_;rotate_left 1
    ·(intro w hSw;(try dsimp only at hSw);go_simp<;>(with_reducible rfl))
    try simp only[Act.put,qA,qB,qC,qD,qE,qF]
    refine wpAnyH_ready (rs:=[33]) (by kernel_rfl) (by simp) ?_;refine AllReadyH.cons rfl (fun K hK=>?_) AllReadyH.nil
    go_simp
    refine(held (W:=wr) hB.out (CA1.out _) (by assumption)).mono ?_;rintro e x1 ⟨rfl,hb,hw⟩
    (try go_wp2_with fail)
    refine hK.out _ _ hw (fun hH1=>?_);clear hK hH0 hb hw
    try simp only[Act.put,qA,qB,qC,qD,qE,qF]
    refine wpAnyH_take (i:=34) (v:=?_) rfl (by kernel_rfl) (by kernel_rfl) (by kernel_rfl) (fun _ _ _ h=>h) (Or.inl ⟨by rfl,?_⟩) (by assumption) ?_;rotate_left 1
    ·(intro w hSw;(try dsimp only at hSw);go_simp<;>(with_reducible rfl))
    try simp only[Act.put,qA,qB,qC,qD,qE,qF]
    refine wpAnyH_take (i:=35) (v:=?_) rfl (by kernel_rfl) (by kernel_rfl) (by kernel_rfl) (fun _ _ _ h=>h) (Or.inl ⟨by rfl,?_⟩) (by assumption) ?_;rotate_left 1
    ·(intro w hSw;(try dsimp only at hSw);go_simp<;>(with_reducible rfl))
    try simp only[Act.put,qA,qB,qC,qD,qE,qF]
    refine wpAnyH_take (i:=36) (v:=?_) rfl (by kernel_rfl) (by kernel_rfl) (by kernel_rfl) (fun _ _ _ h=>h) (Or.inl ⟨by rfl,?_⟩) (by assumption) ?_;rotate_left 1
    ·(intro w hSw;(try dsimp only at hSw);go_simp<;>(with_reducible rfl))
    try simp only[Act.put,qA,qB,qC,qD,qE,qF]
    refine wpAnyH_take (i:=37) (v:=?_) rfl (by kernel_rfl) (by kernel_rfl) (by kernel_rfl) (fun _ _ _ h=>h) (Or.inl ⟨by rfl,?_⟩) (by assumption) ?_;rotate_left 1
    ·(intro w hSw;(try dsimp only at hSw);go_simp<;>(with_reducible rfl))
    try simp only[Act.put,qA,qB,qC,qD,qE,qF]
    refine wpAnyH_take (i:=38) (v:=?_) rfl (by kernel_rfl) (by kernel_rfl) (by kernel_rfl) (fun _ _ _ h=>h) (Or.inl ⟨by rfl,?_⟩) (by assumption) ?_;rotate_left 1
    ·(intro w hSw;(try dsimp only at hSw);go_simp<;>(with_reducible rfl))
    try simp only[Act.put,qA,qB,qC,qD,qE,qF]
    refine wpAnyH_take (i:=39) (v:=?_) rfl (by kernel_rfl) (by kernel_rfl) (by kernel_rfl) (fun _ _ _ h=>h) (Or.inl ⟨by rfl,?_⟩) (by assumption) ?_;rotate_left 1
    ·(intro w hSw;(try dsimp only at hSw);go_simp<;>(with_reducible rfl))
    try simp only[Act.put,qA,qB,qC,qD,qE,qF]
    refine wpAnyH_take (i:=40) (v:=?_) rfl (by kernel_rfl) (by kernel_rfl) (by kernel_rfl) (fun _ _ _ h=>h) (Or.inl ⟨by rfl,?_⟩) (by assumption) ?_;rotate_left 1
    ·(intro w hSw;(try dsimp only at hSw);go_simp<;>(with_reducible rfl))
    try simp only[Act.put,qA,qB,qC,qD,qE,qF]
    refine wpAnyH_ready (rs:=[41]) (by kernel_rfl) (by simp) ?_;refine AllReadyH.cons rfl (fun K hK=>?_) AllReadyH.nil
    go_simp
    refine(held (W:=wr) hB.out (CB1.out _) (by assumption)).mono ?_;rintro e x2 ⟨rfl,hb,hw⟩
    (try go_wp2_with fail)
    refine hK.out _ _ hw (fun hH2=>?_);clear hK hH1 hb hw
    try simp only[Act.put,qA,qB,qC,qD,qE,qF]
    refine wpAnyH_take (i:=42) (v:=?_) rfl (by kernel_rfl) (by kernel_rfl) (by kernel_rfl) (fun _ _ _ h=>h) (Or.inl ⟨by rfl,?_⟩) (by assumption) ?_;rotate_left 1
    ·(intro w hSw;(try dsimp only at hSw);go_simp<;>(with_reducible rfl))
    try simp only[Act.put,qA,qB,qC,qD,qE,qF]
    refine wpAnyH_take (i:=43) (v:=?_) rfl (by kernel_rfl) (by kernel_rfl) (by kernel_rfl) (fun _ _ _ h=>h) (Or.inl ⟨by rfl,?_⟩) (by assumption) ?_;rotate_left 1
    ·(intro w hSw;(try dsimp only at hSw);go_simp<;>(with_reducible rfl))
    try simp only[Act.put,qA,qB,qC,qD,qE,qF]
    refine wpAnyH_done (by kernel_rfl) ?_ _;refine NoPanic.normal ?_;have b51:=hH2;clear hH2;clear hB;clear CA1 CB1 hs w1 w2 w3 f0 f1 f2 gi0 gj0 gj1 gm0 gm1;have HRA:=zh (And.intro hra hrb);clear hra hrb;replace HR:=zh (HR.out.below b51);have hU2:Below U1.heap.size U1 x2:=Below.more HB2.out b51;clear b51 bz;obtain⟨⟨zn,zd⟩,hzq⟩:∃z,addR (an,ad) (bn,bd)=z:=⟨_,rfl⟩;rw[hzq]at T3;have CAD:Hid (∀V,Calls Tryz.prog 22 #[.agg #[.string ⟨an.toArray⟩,.string ⟨ad.toArray⟩],.agg #[.string ⟨bn.toArray⟩,.string ⟨bd.toArray⟩]] V (GiveW V (.agg #[.string ⟨zn.toArray⟩,.string ⟨zd.toArray⟩]))):=zh (fun V=>by
     obtain⟨h1,h2,h3,h4⟩:=HZ5.out;have k:=rqadd_any ⟨an.toArray⟩ ⟨ad.toArray⟩ ⟨bn.toArray⟩ ⟨bd.toArray⟩ V (by rw[size_of];omega) (by rw[size_of];omega) (by rw[size_of];omega) (by rw[size_of];omega);rw[show addR ((⟨an.toArray⟩:ByteArray).data.toList,(⟨ad.toArray⟩:ByteArray).data.toList) ((⟨bn.toArray⟩:ByteArray).data.toList,(⟨bd.toArray⟩:ByteArray).data.toList)=(zn,zd) from hzq]at k;exact k)
    clear hzq;have HLN:∀g:List Fx.Fix,Hid (g.length≤ps.length→g.length≤3000000):=fun g=>zh (fun h=>by have:=HZ4.out.2;omega);have tl:∀g:List Key,((Pk.tabP ps g).take k).length≤ps.length:=fun g=>by rw[List.length_take];unfold Pk.tabP;rw[List.length_zipWith];omega
    have HTL:=zh tl;clear tl;obtain⟨t1,ht1⟩:∃t,(Pk.tabP ps la).take k=t:=⟨_,rfl⟩;obtain⟨t2,ht2⟩:∃t,(Pk.tabP ps lb).take k=t:=⟨_,rfl⟩;obtain⟨t3,ht3⟩:∃t,(Pk.tabP ps (List.zipWith addR la lb)).take k=t:=⟨_,rfl⟩;obtain⟨t4,ht4⟩:∃t,(Pk.tabP ps (List.replicate ps.length (([48],[49]):Key))).take k=t:=⟨_,rfl⟩;have N1:Hid (t1.length≤3000000):=zh ((HLN _).out (ht1▸HTL.out _));have N2:Hid (t2.length≤3000000):=zh ((HLN _).out (ht2▸HTL.out _));have N3:Hid (t3.length≤3000000):=zh ((HLN _).out (ht3▸HTL.out _));have N4:Hid (t4.length≤3000000):=zh ((HLN _).out (ht4▸HTL.out _));rw[ht1,ht2,ht3,ht4]at HR;rw[ht1]at T1;rw[ht2]at T2;rw[ht3]at T3;rw[ht4]at T4;clear ht1 ht2 ht3 ht4 HTL HLN;have ba:=fun x=>Below.alloc hU2 (Below.size hU2) x;go_wp2_with (at_builtin;refine haltG ?_);clear ba;show wpList _ _ _ _ _ _;have hal:Below x2.heap.size x2 (x2.alloc (.cells #[.string ⟨a.toArray⟩,.int .i64 0,.string ⟨an.toArray⟩,.string ⟨ad.toArray⟩] 47)):=Below.alloc (Below.refl _ _) (Nat.le_refl _) _;have hR:Rws U1.heap.size (x2.alloc (.cells #[.string ⟨a.toArray⟩,.int .i64 0,.string ⟨an.toArray⟩,.string ⟨ad.toArray⟩] 47)) [(v1,t1),(v2,t2),(v3,t3),(v4,t4)]:=HR.out.below hal;have hUA:Below U1.heap.size U1 (x2.alloc (.cells #[.string ⟨a.toArray⟩,.int .i64 0,.string ⟨an.toArray⟩,.string ⟨ad.toArray⟩] 47)):=Below.more hU2 hal;refine wpList_append_G rfl _ _ 29 47 rfl Tryz.underlying29 fxInfo rfl (by decide) (by decide) (fun _=>rfl) encFx_one U1.heap.size v1 t1 rfl (hR.own 0 _ rfl) ⟨x2.heap.size,0,none⟩ ((a,0),(an,ad)) 1 rfl (rowsOne (enc:=encFx) (k:=4) x2 ((a,0),(an,ad)) 47 _ rfl) N1.out hUA.size ?_
    intro v1' w5 ho hg hloc;have hR2:Rws U1.heap.size w5 [(v1',(t1++[((a,0),(an,ad))])),(v2,t2),(v3,t3),(v4,t4)]:=hR.put 0 rfl ho hg hloc;have hUw5:Below U1.heap.size U1 w5:=Below.grown hUA hg hUA.size (fun j hj=>(World.ownsRow.lt (hR.own 0 _ rfl) j hj).1);replace HR:=zh hR2;clear hR hR2 hal hUA ho hg hloc
    go_frame
    clear hU2;have ba:=fun x=>Below.alloc hUw5 (Below.size hUw5) x;go_wp2_with (at_builtin;refine haltG ?_);clear ba;show wpList _ _ _ _ _ _;have hal:Below w5.heap.size w5 (w5.alloc (.cells #[.string ⟨a.toArray⟩,.int .i64 0,.string ⟨bn.toArray⟩,.string ⟨bd.toArray⟩] 47)):=Below.alloc (Below.refl _ _) (Nat.le_refl _) _;have hR:Rws U1.heap.size (w5.alloc (.cells #[.string ⟨a.toArray⟩,.int .i64 0,.string ⟨bn.toArray⟩,.string ⟨bd.toArray⟩] 47)) [(v1',(t1++[((a,0),(an,ad))])),(v2,t2),(v3,t3),(v4,t4)]:=HR.out.below hal;have hUA:Below U1.heap.size U1 (w5.alloc (.cells #[.string ⟨a.toArray⟩,.int .i64 0,.string ⟨bn.toArray⟩,.string ⟨bd.toArray⟩] 47)):=Below.more hUw5 hal;refine wpList_append_G rfl _ _ 29 47 rfl Tryz.underlying29 fxInfo rfl (by decide) (by decide) (fun _=>rfl) encFx_one U1.heap.size v2 t2 rfl (hR.own 1 _ rfl) ⟨w5.heap.size,0,none⟩ ((a,0),(bn,bd)) 1 rfl (rowsOne (enc:=encFx) (k:=4) w5 ((a,0),(bn,bd)) 47 _ rfl) N2.out hUA.size ?_;intro v2' w6 ho hg hloc;have hR2:Rws U1.heap.size w6 [(v1',(t1++[((a,0),(an,ad))])),(v2',(t2++[((a,0),(bn,bd))])),(v3,t3),(v4,t4)]:=hR.put 1 rfl ho hg hloc;have hUw6:Below U1.heap.size U1 w6:=Below.grown hUA hg hUA.size (fun j hj=>(World.ownsRow.lt (hR.own 1 _ rfl) j hj).1);replace HR:=zh hR2;clear hR hR2 hal hUA ho hg hloc
    go_frame
    clear hUw5;go_wp2_with fail;refine wp_region_noPanic ?_;refine wp_region_held_drew (S:=fun w'=>Below U1.heap.size U1 w') (by kernel_rfl) (hUw6.drew) (fun hH0=>?_);refine wpAnyH_take (i:=0) (v:=?_) rfl (by kernel_rfl) (by kernel_rfl) (by kernel_rfl) (fun _ _ _ h=>h) (Or.inl ⟨by rfl,?_⟩) (by assumption) ?_;rotate_left 1
    ·(intro w hSw;(try dsimp only at hSw);go_simp<;>(with_reducible rfl))
    try simp only[Act.put,qA,qB,qC,qD,qE,qF]
    refine wpAnyH_take (i:=1) (v:=?_) rfl (by kernel_rfl) (by kernel_rfl) (by kernel_rfl) (fun _ _ _ h=>h) (Or.inl ⟨by rfl,?_⟩) (by assumption) ?_;rotate_left 1
    ·(intro w hSw;(try dsimp only at hSw);go_simp<;>(with_reducible rfl))
    try simp only[Act.put,qA,qB,qC,qD,qE,qF]
    refine wpAnyH_take (i:=2) (v:=?_) rfl (by kernel_rfl) (by kernel_rfl) (by kernel_rfl) (fun _ _ _ h=>h) (Or.inl ⟨by rfl,?_⟩) (by assumption) ?_;rotate_left 1
    ·(intro w hSw;(try dsimp only at hSw);go_simp<;>(with_reducible rfl))
    try simp only[Act.put,qA,qB,qC,qD,qE,qF]
    refine wpAnyH_take (i:=3) (v:=?_) rfl (by kernel_rfl) (by kernel_rfl) (by kernel_rfl) (fun _ _ _ h=>h) (Or.inl ⟨by rfl,?_⟩) (by assumption) ?_;rotate_left 1
    ·(intro w hSw;(try dsimp only at hSw);go_simp<;>(with_reducible rfl))
    try simp only[Act.put,qA,qB,qC,qD,qE,qF]
    refine wpAnyH_take (i:=4) (v:=?_) rfl (by kernel_rfl) (by kernel_rfl) (by kernel_rfl) (fun _ _ _ h=>h) (Or.inl ⟨by rfl,?_⟩) (by assumption) ?_;rotate_left 1
    ·(intro w hSw;(try dsimp only at hSw);go_simp<;>(with_reducible rfl))
    try simp only[Act.put,qA,qB,qC,qD,qE,qF]
    refine wpAnyH_take (i:=5) (v:=?_) rfl (by kernel_rfl) (by kernel_rfl) (by kernel_rfl) (fun _ _ _ h=>h) (Or.inl ⟨by rfl,?_⟩) (by assumption) ?_;rotate_left 1
    ·(intro w hSw;(try dsimp only at hSw);go_simp<;>(with_reducible rfl))
    try simp only[Act.put,qA,qB,qC,qD,qE,qF]
    refine wpAnyH_take (i:=6) (v:=?_) rfl (by kernel_rfl) (by kernel_rfl) (by kernel_rfl) (fun _ _ _ h=>h) (Or.inl ⟨by rfl,?_⟩) (by assumption) ?_;rotate_left 1
    ·(intro w hSw;(try dsimp only at hSw);go_simp<;>(with_reducible rfl))
    try simp only[Act.put,qA,qB,qC,qD,qE,qF]
    refine wpAnyH_take (i:=7) (v:=?_) rfl (by kernel_rfl) (by kernel_rfl) (by kernel_rfl) (fun _ _ _ h=>h) (Or.inl ⟨by rfl,?_⟩) (by assumption) ?_;rotate_left 1
    ·(intro w hSw;(try dsimp only at hSw);go_simp<;>(with_reducible rfl))
    try simp only[Act.put,qA,qB,qC,qD,qE,qF]
    refine wpAnyH_take (i:=8) (v:=?_) rfl (by kernel_rfl) (by kernel_rfl) (by kernel_rfl) (fun _ _ _ h=>h) (Or.inl ⟨by rfl,?_⟩) (by assumption) ?_;rotate_left 1
    ·(intro w hSw;(try dsimp only at hSw);go_simp<;>(with_reducible rfl))
    try simp only[Act.put,qA,qB,qC,qD,qE,qF]
    refine wpAnyH_take (i:=9) (v:=?_) rfl (by kernel_rfl) (by kernel_rfl) (by kernel_rfl) (fun _ _ _ h=>h) (Or.inl ⟨by rfl,?_⟩) (by assumption) ?_;rotate_left 1
    ·(intro w hSw;(try dsimp only at hSw);go_simp<;>(with_reducible rfl))
    try simp only[Act.put,qA,qB,qC,qD,qE,qF]
    refine wpAnyH_ready (rs:=[10]) (by kernel_rfl) (by simp) ?_;refine AllReadyH.cons rfl (fun K hK=>?_) AllReadyH.nil
    go_simp
    refine(CAD.out _).mono ?_;rintro e x7 ⟨rfl,hb⟩;have hw:Below U1.heap.size U1 x7:=Below.more hH0 hb;replace HR:=zh ((HR.out.below (Below.drew (Below.refl _ _))).below hb)
    (try go_wp2_with fail)
    refine hK.out _ _ hw (fun hH1=>?_);clear hK hH0 hb hw
    try simp only[Act.put,qA,qB,qC,qD,qE,qF]
    refine wpAnyH_take (i:=11) (v:=?_) rfl (by kernel_rfl) (by kernel_rfl) (by kernel_rfl) (fun _ _ _ h=>h) (Or.inl ⟨by rfl,?_⟩) (by assumption) ?_;rotate_left 1
    ·(intro w hSw;(try dsimp only at hSw);go_simp<;>(with_reducible rfl))
    try simp only[Act.put,qA,qB,qC,qD,qE,qF]
    refine wpAnyH_ready (rs:=[12]) (by kernel_rfl) (by simp) ?_;refine AllReadyH.cons rfl (fun K hK=>?_) AllReadyH.nil
    go_simp
    have hal:Below x7.heap.size x7 (x7.alloc (.cells #[.string ⟨a.toArray⟩,.int .i64 0,.string ⟨zn.toArray⟩,.string ⟨zd.toArray⟩] 47)):=Below.alloc (Below.refl _ _) (Nat.le_refl _) _;have hR:Rws U1.heap.size (x7.alloc (.cells #[.string ⟨a.toArray⟩,.int .i64 0,.string ⟨zn.toArray⟩,.string ⟨zd.toArray⟩] 47)) [(v1',(t1++[((a,0),(an,ad))])),(v2',(t2++[((a,0),(bn,bd))])),(v3,t3),(v4,t4)]:=HR.out.below hal;have hUA:Below U1.heap.size U1 (x7.alloc (.cells #[.string ⟨a.toArray⟩,.int .i64 0,.string ⟨zn.toArray⟩,.string ⟨zd.toArray⟩] 47)):=Below.more hH1 hal;refine hK.out _ _ hUA (fun hH2=>?_);clear hK
    try simp only[Act.put,qA,qB,qC,qD,qE,qF]
    refine wpAnyH_ready (rs:=[13]) (by kernel_rfl) (by simp) ?_;refine AllReadyH.cons rfl (fun K hK=>?_) AllReadyH.nil;rw[if_pos (by rfl)];refine wp_append_G _ _ 29 47 rfl Tryz.underlying29 fxInfo rfl (by decide) (by decide) (fun _=>rfl) encFx_one U1.heap.size v3 t3 rfl (hR.own 2 _ rfl) ⟨x7.heap.size,0,none⟩ ((a,0),(zn,zd)) 1 rfl (rowsOne (enc:=encFx) (k:=4) x7 ((a,0),(zn,zd)) 47 _ rfl) N3.out hUA.size ?_;intro v3' w7 ho hg hloc;have hR2:Rws U1.heap.size w7 [(v1',(t1++[((a,0),(an,ad))])),(v2',(t2++[((a,0),(bn,bd))])),(v3',(t3++[((a,0),(zn,zd))])),(v4,t4)]:=hR.put 2 rfl ho hg hloc;have hUw7:Below U1.heap.size U1 w7:=Below.grown hUA hg hUA.size (fun j hj=>(World.ownsRow.lt (hR.own 2 _ rfl) j hj).1);replace HR:=zh hR2;refine hK.out _ _ hUw7 (fun hH3=>?_);clear hK hR hR2 hal hUA ho hg hloc hH1 hH2 hH3
    try simp only[Act.put,qA,qB,qC,qD,qE,qF]
    refine wpAnyH_take (i:=14) (v:=?_) rfl (by kernel_rfl) (by kernel_rfl) (by kernel_rfl) (fun _ _ _ h=>h) (Or.inl ⟨by rfl,?_⟩) (by assumption) ?_;rotate_left 1
    ·(intro w hSw;(try dsimp only at hSw);go_simp<;>(with_reducible rfl))
    try simp only[Act.put,qA,qB,qC,qD,qE,qF]
    refine wpAnyH_done (by kernel_rfl) ?_ _;refine NoPanic.normal ?_;clear hUw6;go_wp2_with fail;refine(pk_o (n:=0) (l:=[48]) (by decide) (by decide) (by decide +kernel) _).mono ?_;rintro e8 w8 ⟨rfl,b8⟩;replace HR:=zh (HR.out.below b8);have hU8:=Below.more hUw7 b8;clear b8 hUw7;go_wp2_with (at_builtin;refine haltG ?_);show wpList _ _ _ _ _ _;have hal:Below w8.heap.size w8 (w8.alloc (.cells #[.string ⟨a.toArray⟩,.int .i64 0,.string ⟨#[48]⟩,.string ⟨#[49]⟩] 47)):=Below.alloc (Below.refl _ _) (Nat.le_refl _) _;have hR:Rws U1.heap.size (w8.alloc (.cells #[.string ⟨a.toArray⟩,.int .i64 0,.string ⟨#[48]⟩,.string ⟨#[49]⟩] 47)) [(v1',(t1++[((a,0),(an,ad))])),(v2',(t2++[((a,0),(bn,bd))])),(v3',(t3++[((a,0),(zn,zd))])),(v4,t4)]:=HR.out.below hal;have hUA:Below U1.heap.size U1 (w8.alloc (.cells #[.string ⟨a.toArray⟩,.int .i64 0,.string ⟨#[48]⟩,.string ⟨#[49]⟩] 47)):=Below.more hU8 hal;refine wpList_append_G rfl _ _ 29 47 rfl Tryz.underlying29 fxInfo rfl (by decide) (by decide) (fun _=>rfl) encFx_one U1.heap.size v4 t4 rfl (hR.own 3 _ rfl) ⟨w8.heap.size,0,none⟩ ((a,0),([48],[49])) 1 rfl (rowsOne (enc:=encFx) (k:=4) w8 ((a,0),([48],[49])) 47 _ rfl) N4.out hUA.size ?_;intro v4' w9 ho hg hloc;have hR2:Rws U1.heap.size w9 [(v1',(t1++[((a,0),(an,ad))])),(v2',(t2++[((a,0),(bn,bd))])),(v3',(t3++[((a,0),(zn,zd))])),(v4',(t4++[((a,0),([48],[49]))]))]:=hR.put 3 rfl ho hg hloc;have hUw9:Below U1.heap.size U1 w9:=Below.grown hUA hg hUA.size (fun j hj=>(World.ownsRow.lt (hR.own 3 _ rfl) j hj).1);replace HR:=zh hR2
    clear hR hR2 hal hUA ho hg hloc
    go_frame
    clear hU8;have HJ2:Hid (∀ (j:Nat) (x y:Key),j<k+1→la[j]?=some x→lb[j]?=some y→(isR x=true∧x.1.length≤40∧x.2.length≤40)∧isR y=true∧y.1.length≤40∧y.2.length≤40):=zh (fun j x y hj h1 h2=>by
     rcases Nat.lt_succ_iff_lt_or_eq.1 hj with h|h
     ·exact HJ.out j x y h h1 h2
     ·rw[h,HXA.out]at h1;rw[h,HXB.out]at h2
      cases h1;cases h2
      exact⟨⟨HRA.out.1,HZ5.out.1,HZ5.out.2.1⟩,HRA.out.2,HZ5.out.2.2.1,HZ5.out.2.2.2⟩)
    have HRN:Hid (Rws U1.heap.size w9 [(v1',(Pk.tabP ps la).take (k+1)),(v2',(Pk.tabP ps lb).take (k+1)),(v3',(Pk.tabP ps (List.zipWith addR la lb)).take (k+1)),(v4',(Pk.tabP ps (List.replicate ps.length (([48],[49]):Key))).take (k+1))]):=zh (by rw[T1.out,T2.out,T3.out,T4.out];exact HR.out);have HUN:=zh hUw9;clear hUw9 HR;go_wp2_with fail;go_roundw
    case rel=>exact⟨k+1,_,_,_,_,rfl,rfl,rfl,rfl,hlt,by go_num,HJ2.out,HRN.out,HUN.out⟩
    case measure=>simp[intOf];omega
  ·obtain rfl:k=ps.length:=by omega
   obtain⟨us,hus⟩:∃us,la.take ps.length=us:=⟨_,rfl⟩;obtain⟨ws,hws⟩:∃ws,lb.take ps.length=ws:=⟨_,rfl⟩;have ul:us.length=ps.length:=by rw[←hus,List.length_take];omega
   have wl:ws.length=ps.length:=by rw[←hws,List.length_take];omega
   have hgood:∀ (j:Nat) (x y:Key),us[j]?=some x→ws[j]?=some y→(isR x=true∧x.1.length≤40∧x.2.length≤40)∧isR y=true∧y.1.length≤40∧y.2.length≤40:=fun j x y h1 h2=>by
    have hj:j<ps.length:=by rw[←ul];exact(List.getElem?_eq_some_iff.1 h1).1
    rw[←hus,List.getElem?_take_of_lt hj]at h1;rw[←hws,List.getElem?_take_of_lt hj]at h2;exact HJ.out j x y hj h1 h2
   have hgu:∀x∈us,isR x=true∧x.1.length≤40∧x.2.length≤40:=fun x hx=>by
    obtain⟨j,hj⟩:=List.getElem?_of_mem hx;have hjl:=(List.getElem?_eq_some_iff.1 hj).1;exact(hgood j x _ hj (List.getElem?_eq_getElem (by omega))).1
   have hgw:∀y∈ws,isR y=true∧y.1.length≤40∧y.2.length≤40:=fun y hy=>by
    obtain⟨j,hj⟩:=List.getElem?_of_mem hy;have hjl:=(List.getElem?_eq_some_iff.1 hj).1;exact(hgood j _ y (List.getElem?_eq_getElem (by omega)) hj).2
   obtain⟨u,v,s,e1,e2,e3,e4,e5,r1,r2,r3⟩:=Pk.linear (p:=⟨ps,(un,ud)⟩) HM.out (fun q hq=>(hgu q hq).1) (fun q hq=>(hgw q hq).1) ul.symm wl.symm;dsimp only at e1 e2 e3 e4 e5;have x1:(Pk.tabP ps la).take ps.length=Pk.tabP ps us:=by rw[←hus];exact tab_cut ps la
   have x2:(Pk.tabP ps lb).take ps.length=Pk.tabP ps ws:=by rw[←hws];exact tab_cut ps lb
   have x3:(Pk.tabP ps (List.zipWith addR la lb)).take ps.length=Pk.tabP ps (List.zipWith addR us ws):=by rw[←hus,← hws,tab_cut,List.take_zipWith]
   have x4:(Pk.tabP ps (List.replicate ps.length (([48],[49]):Key))).take ps.length=Pk.tabP ps (List.replicate ps.length (([48],[49]):Key)):=by rw[tab_cut,List.take_replicate,Nat.min_self]
   rw[x1,x2,x3,x4]at HR;have hps:ps.length≤4:=HZ4.out.2;have hK:(ps.length+1)*(2*90+3)≤10000:=Nat.le_trans (Nat.mul_le_mul_right _ (by omega:ps.length+1≤5)) (by decide);have hsp:SzPk 90 ⟨ps,(un,ud)⟩:=HZ4.out.1.2.mono (by decide);have hz:∀qs:List Key,(∀q∈qs,q.1.length≤90∧q.2.length≤90)→SzFx 90 (Pk.tabP ps qs)∧(Pk.tabP ps qs).length≤1000:=fun qs hq=>⟨fun y hy=>by
    obtain⟨j,hj⟩:=List.getElem?_of_mem hy;obtain⟨x,q,h1,h2,rfl⟩:=Pk.tab_get hj;exact⟨HZ4.out.1.1 x (List.mem_of_getElem? h1),hq q (List.mem_of_getElem? h2)⟩,by unfold Pk.tabP;rw[List.length_zipWith];omega⟩
   have z1:=hz us (fun q hq=>by have:=hgu q hq;omega);have z2:=hz ws (fun q hq=>by have:=hgw q hq;omega);have z3:=hz (List.zipWith addR us ws) (fun q hq=>by
    obtain⟨j,hj⟩:=List.getElem?_of_mem hq;rw[List.getElem?_zipWith]at hj
    cases ha1:us[j]? with
    | none=>rw[ha1]at hj;cases hj
    | some x =>
     cases hb1:ws[j]? with
     | none=>rw[ha1,hb1]at hj;cases hj
     | some y =>
      rw[ha1,hb1]at hj;obtain rfl:=Option.some.inj hj;obtain⟨⟨g1,g2,g3⟩,g4,g5,g6⟩:=hgood j x y ha1 hb1;exact add_sz g1 g4 g2 g3 g5 g6)
   have z4:=hz (List.replicate ps.length (([48],[49]):Key)) (fun q hq=>by rw[(List.mem_replicate.1 hq).2];exact⟨by decide,by decide⟩);have y1:=val_len hK hsp z1.1 e1;have y2:=val_len hK hsp z2.1 e2;have y3:=val_len hK hsp z3.1 e3;obtain⟨uu,ue⟩:=u;obtain⟨vv,ve⟩:=v;obtain⟨ss,se⟩:=s;dsimp only at y1 y2 y3;obtain⟨⟨zn,zd⟩,hzq⟩:∃q,addR (uu,ue) (vv,ve)=q:=⟨_,rfl⟩;rw[hzq]at e5;have CE1:Hid (∀V,Calls Tryz.prog 22 #[.agg #[.string ⟨ss.toArray⟩,.string ⟨se.toArray⟩],.agg #[.string ⟨un.toArray⟩,.string ⟨ud.toArray⟩]] V (GiveW V (.agg #[.string ⟨zn.toArray⟩,.string ⟨zd.toArray⟩]))):=zh (fun V=>by
    have c1:un.length≤20:=HZ4.out.1.2.2.1;have c2:ud.length≤20:=HZ4.out.1.2.2.2;have k:=rqadd_any ⟨ss.toArray⟩ ⟨se.toArray⟩ ⟨un.toArray⟩ ⟨ud.toArray⟩ V (by rw[size_of];omega) (by rw[size_of];omega) (by rw[size_of];omega) (by rw[size_of];omega);rw[show addR ((⟨ss.toArray⟩:ByteArray).data.toList,(⟨se.toArray⟩:ByteArray).data.toList) ((⟨un.toArray⟩:ByteArray).data.toList,(⟨ud.toArray⟩:ByteArray).data.toList)=(zn,zd) from e5]at k;exact k)
   have CE2:Hid (∀V,Calls Tryz.prog 22 #[.agg #[.string ⟨uu.toArray⟩,.string ⟨ue.toArray⟩],.agg #[.string ⟨vv.toArray⟩,.string ⟨ve.toArray⟩]] V (GiveW V (.agg #[.string ⟨zn.toArray⟩,.string ⟨zd.toArray⟩]))):=zh (fun V=>by
    have k:=rqadd_any ⟨uu.toArray⟩ ⟨ue.toArray⟩ ⟨vv.toArray⟩ ⟨ve.toArray⟩ V (by rw[size_of];omega) (by rw[size_of];omega) (by rw[size_of];omega) (by rw[size_of];omega);rw[show addR ((⟨uu.toArray⟩:ByteArray).data.toList,(⟨ue.toArray⟩:ByteArray).data.toList) ((⟨vv.toArray⟩:ByteArray).data.toList,(⟨ve.toArray⟩:ByteArray).data.toList)=(zn,zd) from hzq]at k;exact k)
   clear hzq e5 y1 y2 y3 r1 r2 r3 hgood hgu hgw x1 x2 x3 x4 hz;generalize List.zipWith addR us ws=gs at *;generalize List.replicate ps.length (([48],[49]):Key)=g4 at *;obtain⟨T1,hT1⟩:∃T,Pk.tabP ps us=T:=⟨_,rfl⟩;rw[hT1]at HR e1 z1;clear hT1;have CV1:Hid (∀ (q':Option Addr) (d':Nat) V,T1.length≤d'→Pts V p ps→Fxs V q' T1→G V→Calls Tryz.prog 12 #[.agg #[.slice p ps.length c,.string ⟨un.toArray⟩,.string ⟨ud.toArray⟩],.slice q' T1.length d',.int .i64 0] V (GiveW V (.tuple #[.agg #[.string ⟨uu.toArray⟩,.string ⟨ue.toArray⟩],.bool true]))):=zh (fun q' d' V h0 h1 h2 g=>by
    have k:=HB.out.value p q' c d' ⟨ps,(un,ud)⟩ T1 0 90 V hc h0 z1.2 hK hsp z1.1 h1 h2 g;rw[e1]at k;exact k)
   obtain⟨T2,hT2⟩:∃T,Pk.tabP ps ws=T:=⟨_,rfl⟩;rw[hT2]at HR e2 z2;clear hT2;have CV2:Hid (∀ (q':Option Addr) (d':Nat) V,T2.length≤d'→Pts V p ps→Fxs V q' T2→G V→Calls Tryz.prog 12 #[.agg #[.slice p ps.length c,.string ⟨un.toArray⟩,.string ⟨ud.toArray⟩],.slice q' T2.length d',.int .i64 0] V (GiveW V (.tuple #[.agg #[.string ⟨vv.toArray⟩,.string ⟨ve.toArray⟩],.bool true]))):=zh (fun q' d' V h0 h1 h2 g=>by
    have k:=HB.out.value p q' c d' ⟨ps,(un,ud)⟩ T2 0 90 V hc h0 z2.2 hK hsp z2.1 h1 h2 g;rw[e2]at k;exact k)
   obtain⟨T3,hT3⟩:∃T,Pk.tabP ps gs=T:=⟨_,rfl⟩;rw[hT3]at HR e3 z3;clear hT3;have CV3:Hid (∀ (q':Option Addr) (d':Nat) V,T3.length≤d'→Pts V p ps→Fxs V q' T3→G V→Calls Tryz.prog 12 #[.agg #[.slice p ps.length c,.string ⟨un.toArray⟩,.string ⟨ud.toArray⟩],.slice q' T3.length d',.int .i64 0] V (GiveW V (.tuple #[.agg #[.string ⟨ss.toArray⟩,.string ⟨se.toArray⟩],.bool true]))):=zh (fun q' d' V h0 h1 h2 g=>by
    have k:=HB.out.value p q' c d' ⟨ps,(un,ud)⟩ T3 0 90 V hc h0 z3.2 hK hsp z3.1 h1 h2 g;rw[e3]at k;exact k)
   obtain⟨T4,hT4⟩:∃T,Pk.tabP ps g4=T:=⟨_,rfl⟩;rw[hT4]at HR e4 z4;clear hT4;have CV4:Hid (∀ (q':Option Addr) (d':Nat) V,T4.length≤d'→Pts V p ps→Fxs V q' T4→G V→Calls Tryz.prog 12 #[.agg #[.slice p ps.length c,.string ⟨un.toArray⟩,.string ⟨ud.toArray⟩],.slice q' T4.length d',.int .i64 0] V (GiveW V (.tuple #[.agg #[.string ⟨un.toArray⟩,.string ⟨ud.toArray⟩],.bool true]))):=zh (fun q' d' V h0 h1 h2 g=>by
    have k:=HB.out.value p q' c d' ⟨ps,(un,ud)⟩ T4 0 90 V hc h0 z4.2 hK hsp z4.1 h1 h2 g;rw[e4]at k;exact k)
   clear z1 z2 z3 z4 e1 e2 e3 e4 hK hsp ul wl hus hws HJ;obtain⟨q1',d1',hv1,hd1,hL1,_⟩:=ownG_rows (enc:=encFx) (k:=4) (fun _=>rfl) (HR.out.own 0 _ rfl);obtain⟨q2',d2',hv2,hd2,hL2,_⟩:=ownG_rows (enc:=encFx) (k:=4) (fun _=>rfl) (HR.out.own 1 _ rfl);obtain⟨q3',d3',hv3,hd3,hL3,_⟩:=ownG_rows (enc:=encFx) (k:=4) (fun _=>rfl) (HR.out.own 2 _ rfl);obtain⟨q4',d4',hv4,hd4,hL4,_⟩:=ownG_rows (enc:=encFx) (k:=4) (fun _=>rfl) (HR.out.own 3 _ rfl);dsimp only at hv1 hv2 hv3 hv4 hd1 hd2 hd3 hd4 hL1 hL2 hL3 hL4;subst hv1;subst hv2;subst hv3;subst hv4;have L1:=zh hL1;have L2:=zh hL2;have L3:=zh hL3;have L4:=zh hL4
   clear hL1 hL2 hL3 hL4 HR;replace rp0:=fun v (h:Below wr.heap.size wr v)=>rp0 v (Below.more hw h);replace rp1:=fun v (h:Below wr.heap.size wr v)=>rp1 v (Below.more hw h);replace rp2:=fun v (h:Below wr.heap.size wr v)=>rp2 v (Below.more hw h);replace LP:=zh (LP.out.below hw);replace LA:=zh (LA.out.below hw);replace LB:=zh (LB.out.below hw);replace BW:=Below.more BW hw;replace HG:=zh (HB.out.below HG.out hw);clear hw;have b70:=Below.refl wr.heap.size wr;go_wp2_with fail;refine(CV1.out _ _ _ hd1 (LP.out.below b70) (L1.out.below b70) (HB.out.below HG.out b70)).mono ?_;rintro e w71 ⟨rfl,b⟩;have b71:=Below.more b70 b;clear b;have ba:=fun x=>Below.alloc b71 (Below.size b71) x;go_wp2_with fail;clear ba;obtain⟨U72,hU,bU,s72,kk⟩:=layN b71 #[.string ⟨uu.toArray⟩,.string ⟨ue.toArray⟩] 23;rw[hU];clear hU;have ru0:=kk 0 _ rfl;have ru1:=kk 1 _ rfl
   clear kk s72;replace rp0:=fun v (h:Below U72.heap.size U72 v)=>rp0 v (Below.more bU h);replace rp1:=fun v (h:Below U72.heap.size U72 v)=>rp1 v (Below.more bU h);replace rp2:=fun v (h:Below U72.heap.size U72 v)=>rp2 v (Below.more bU h);replace LP:=zh (LP.out.below bU);replace LA:=zh (LA.out.below bU);replace LB:=zh (LB.out.below bU);replace L1:=zh (L1.out.below bU);replace L2:=zh (L2.out.below bU);replace L3:=zh (L3.out.below bU);replace L4:=zh (L4.out.below bU);replace BW:=Below.more BW bU;replace HG:=zh (HB.out.below HG.out bU);clear bU;have b72:=Below.refl U72.heap.size U72;go_wp2_with fail;refine(CV2.out _ _ _ hd2 (LP.out.below b72) (L2.out.below b72) (HB.out.below HG.out b72)).mono ?_;rintro e w73 ⟨rfl,b⟩;have b73:=Below.more b72 b;clear b;have ba:=fun x=>Below.alloc b73 (Below.size b73) x;go_wp2_with fail;clear ba;obtain⟨U74,hU,bU,s74,kk⟩:=layN b73 #[.string ⟨vv.toArray⟩,.string ⟨ve.toArray⟩] 23;rw[hU];clear hU;have rv0:=kk 0 _ rfl;have rv1:=kk 1 _ rfl
   clear kk s74;replace rp0:=fun v (h:Below U74.heap.size U74 v)=>rp0 v (Below.more bU h);replace rp1:=fun v (h:Below U74.heap.size U74 v)=>rp1 v (Below.more bU h);replace rp2:=fun v (h:Below U74.heap.size U74 v)=>rp2 v (Below.more bU h);replace ru0:=fun v (h:Below U74.heap.size U74 v)=>ru0 v (Below.more bU h);replace ru1:=fun v (h:Below U74.heap.size U74 v)=>ru1 v (Below.more bU h);replace LP:=zh (LP.out.below bU);replace LA:=zh (LA.out.below bU);replace LB:=zh (LB.out.below bU);replace L1:=zh (L1.out.below bU);replace L2:=zh (L2.out.below bU);replace L3:=zh (L3.out.below bU);replace L4:=zh (L4.out.below bU);replace BW:=Below.more BW bU;replace HG:=zh (HB.out.below HG.out bU);clear bU;have b74:=Below.refl U74.heap.size U74;go_wp2_with fail;refine(CV3.out _ _ _ hd3 (LP.out.below b74) (L3.out.below b74) (HB.out.below HG.out b74)).mono ?_;rintro e w75 ⟨rfl,b⟩;have b75:=Below.more b74 b;clear b;have ba:=fun x=>Below.alloc b75 (Below.size b75) x;go_wp2_with fail;clear ba;obtain⟨U76,hU,bU,s76,kk⟩:=layN b75 #[.string ⟨ss.toArray⟩,.string ⟨se.toArray⟩] 23;rw[hU];clear hU;have rs0:=kk 0 _ rfl;have rs1:=kk 1 _ rfl
   clear kk s76;replace rp0:=fun v (h:Below U76.heap.size U76 v)=>rp0 v (Below.more bU h);replace rp1:=fun v (h:Below U76.heap.size U76 v)=>rp1 v (Below.more bU h);replace rp2:=fun v (h:Below U76.heap.size U76 v)=>rp2 v (Below.more bU h);replace ru0:=fun v (h:Below U76.heap.size U76 v)=>ru0 v (Below.more bU h);replace ru1:=fun v (h:Below U76.heap.size U76 v)=>ru1 v (Below.more bU h);replace rv0:=fun v (h:Below U76.heap.size U76 v)=>rv0 v (Below.more bU h);replace rv1:=fun v (h:Below U76.heap.size U76 v)=>rv1 v (Below.more bU h);replace LP:=zh (LP.out.below bU);replace LA:=zh (LA.out.below bU);replace LB:=zh (LB.out.below bU);replace L1:=zh (L1.out.below bU);replace L2:=zh (L2.out.below bU);replace L3:=zh (L3.out.below bU);replace L4:=zh (L4.out.below bU);replace BW:=Below.more BW bU;replace HG:=zh (HB.out.below HG.out bU);clear bU;have b76:=Below.refl U76.heap.size U76;go_wp2_with fail;refine(CV4.out _ _ _ hd4 (LP.out.below b76) (L4.out.below b76) (HB.out.below HG.out b76)).mono ?_;rintro e w77 ⟨rfl,b⟩;have b77:=Below.more b76 b;clear b;have ba:=fun x=>Below.alloc b77 (Below.size b77) x;go_wp2_with fail;clear ba;obtain⟨U78,hU,bU,s78,kk⟩:=layN b77 #[.string ⟨un.toArray⟩,.string ⟨ud.toArray⟩] 23;rw[hU];clear hU;have rt0:=kk 0 _ rfl;have rt1:=kk 1 _ rfl
   clear kk s78;replace rp0:=fun v (h:Below U78.heap.size U78 v)=>rp0 v (Below.more bU h);replace rp1:=fun v (h:Below U78.heap.size U78 v)=>rp1 v (Below.more bU h);replace rp2:=fun v (h:Below U78.heap.size U78 v)=>rp2 v (Below.more bU h);replace ru0:=fun v (h:Below U78.heap.size U78 v)=>ru0 v (Below.more bU h);replace ru1:=fun v (h:Below U78.heap.size U78 v)=>ru1 v (Below.more bU h);replace rv0:=fun v (h:Below U78.heap.size U78 v)=>rv0 v (Below.more bU h);replace rv1:=fun v (h:Below U78.heap.size U78 v)=>rv1 v (Below.more bU h);replace rs0:=fun v (h:Below U78.heap.size U78 v)=>rs0 v (Below.more bU h);replace rs1:=fun v (h:Below U78.heap.size U78 v)=>rs1 v (Below.more bU h);replace LP:=zh (LP.out.below bU);replace LA:=zh (LA.out.below bU);replace LB:=zh (LB.out.below bU);replace L1:=zh (L1.out.below bU);replace L2:=zh (L2.out.below bU);replace L3:=zh (L3.out.below bU);replace L4:=zh (L4.out.below bU);replace BW:=Below.more BW bU;replace HG:=zh (HB.out.below HG.out bU);clear bU;have b78:=Below.refl U78.heap.size U78;have hB:=zh (Nat.le_refl U78.heap.size);refine wp_region_noPanic ?_;refine wp_region_held_drew (S:=fun w'=>Below U78.heap.size U78 w') (by kernel_rfl) (b78.drew) (fun hH0=>?_);refine wpAnyH_take (i:=0) (v:=?_) rfl (by kernel_rfl) (by kernel_rfl) (by kernel_rfl) (fun _ _ _ h=>h) (Or.inl ⟨by rfl,?_⟩) (by assumption) ?_;rotate_left 1
   ·(intro w hSw;(try dsimp only at hSw);go_simp<;>(with_reducible rfl))
   try simp only[Act.put,qA,qB,qC,qD,qE,qF]
   refine wpAnyH_take (i:=1) (v:=?_) rfl (by kernel_rfl) (by kernel_rfl) (by kernel_rfl) (fun _ _ _ h=>h) (Or.inl ⟨by rfl,?_⟩) (by assumption) ?_;rotate_left 1
   ·(intro w hSw;(try dsimp only at hSw);go_simp<;>(with_reducible rfl))
   try simp only[Act.put,qA,qB,qC,qD,qE,qF]
   refine wpAnyH_take (i:=2) (v:=?_) rfl (by kernel_rfl) (by kernel_rfl) (by kernel_rfl) (fun _ _ _ h=>h) (Or.inl ⟨by rfl,?_⟩) (by assumption) ?_;rotate_left 1
   ·(intro w hSw;(try dsimp only at hSw);go_simp<;>(with_reducible rfl))
   try simp only[Act.put,qA,qB,qC,qD,qE,qF]
   refine wpAnyH_take (i:=3) (v:=?_) rfl (by kernel_rfl) (by kernel_rfl) (by kernel_rfl) (fun _ _ _ h=>h) (Or.inl ⟨by rfl,?_⟩) (by assumption) ?_;rotate_left 1
   ·(intro w hSw;(try dsimp only at hSw);go_simp<;>(with_reducible rfl))
   try simp only[Act.put,qA,qB,qC,qD,qE,qF]
   refine wpAnyH_take (i:=4) (v:=?_) rfl (by kernel_rfl) (by kernel_rfl) (by kernel_rfl) (fun _ _ _ h=>h) (Or.inl ⟨by rfl,?_⟩) (by assumption) ?_;rotate_left 1
   ·(intro w hSw;(try dsimp only at hSw);go_simp<;>(with_reducible rfl))
   try simp only[Act.put,qA,qB,qC,qD,qE,qF]
   refine wpAnyH_take (i:=5) (v:=?_) rfl (by kernel_rfl) (by kernel_rfl) (by kernel_rfl) (fun _ _ _ h=>h) (Or.inl ⟨by rfl,?_⟩) (by assumption) ?_;rotate_left 1
   ·(intro w hSw;(try dsimp only at hSw);go_simp<;>(with_reducible rfl))
   try simp only[Act.put,qA,qB,qC,qD,qE,qF]
   refine wpAnyH_take (i:=6) (v:=?_) rfl (by kernel_rfl) (by kernel_rfl) (by kernel_rfl) (fun _ _ _ h=>h) (Or.inl ⟨by rfl,?_⟩) (by assumption) ?_;rotate_left 1
   ·(intro w hSw;(try dsimp only at hSw);go_simp<;>(with_reducible rfl))
   try simp only[Act.put,qA,qB,qC,qD,qE,qF]
   refine wpAnyH_take (i:=7) (v:=?_) rfl (by kernel_rfl) (by kernel_rfl) (by kernel_rfl) (fun _ _ _ h=>h) (Or.inl ⟨by rfl,?_⟩) (by assumption) ?_;rotate_left 1
   ·(intro w hSw;(try dsimp only at hSw);go_simp<;>(with_reducible rfl))
   try simp only[Act.put,qA,qB,qC,qD,qE,qF]
   refine wpAnyH_take (i:=8) (v:=?_) rfl (by kernel_rfl) (by kernel_rfl) (by kernel_rfl) (fun _ _ _ h=>h) (Or.inl ⟨by rfl,?_⟩) (by assumption) ?_;rotate_left 1
   ·(intro w hSw;(try dsimp only at hSw);go_simp<;>(with_reducible rfl))
   try simp only[Act.put,qA,qB,qC,qD,qE,qF]
   refine wpAnyH_take (i:=9) (v:=?_) rfl (by kernel_rfl) (by kernel_rfl) (by kernel_rfl) (fun _ _ _ h=>h) (Or.inl ⟨by rfl,?_⟩) (by assumption) ?_;rotate_left 1
   ·(intro w hSw;(try dsimp only at hSw);go_simp<;>(with_reducible rfl))
   try simp only[Act.put,qA,qB,qC,qD,qE,qF]
   refine wpAnyH_take (i:=10) (v:=?_) rfl (by kernel_rfl) (by kernel_rfl) (by kernel_rfl) (fun _ _ _ h=>h) (Or.inl ⟨by rfl,?_⟩) (by assumption) ?_;rotate_left 1
   ·(intro w hSw;(try dsimp only at hSw);go_simp<;>(with_reducible rfl))
   try simp only[Act.put,qA,qB,qC,qD,qE,qF]
   refine wpAnyH_take (i:=11) (v:=?_) rfl (by kernel_rfl) (by kernel_rfl) (by kernel_rfl) (fun _ _ _ h=>h) (Or.inl ⟨by rfl,?_⟩) (by assumption) ?_;rotate_left 1
   ·(intro w hSw;(try dsimp only at hSw);go_simp<;>(with_reducible rfl))
   try simp only[Act.put,qA,qB,qC,qD,qE,qF]
   refine wpAnyH_take (i:=12) (v:=?_) rfl (by kernel_rfl) (by kernel_rfl) (by kernel_rfl) (fun _ _ _ h=>h) (Or.inl ⟨by rfl,?_⟩) (by assumption) ?_;rotate_left 1
   ·(intro w hSw;(try dsimp only at hSw);go_simp<;>(with_reducible rfl))
   try simp only[Act.put,qA,qB,qC,qD,qE,qF]
   refine wpAnyH_take (i:=13) (v:=?_) rfl (by kernel_rfl) (by kernel_rfl) (by kernel_rfl) (fun _ _ _ h=>h) (Or.inl ⟨by rfl,?_⟩) (by assumption) ?_;rotate_left 1
   ·(intro w hSw;(try dsimp only at hSw);go_simp<;>(with_reducible rfl))
   try simp only[Act.put,qA,qB,qC,qD,qE,qF]
   refine wpAnyH_take (i:=15) (v:=?_) rfl (by kernel_rfl) (by kernel_rfl) (by kernel_rfl) (fun _ _ _ h=>h) (Or.inl ⟨by rfl,?_⟩) (by assumption) ?_;rotate_left 1
   ·(intro w hSw;(try dsimp only at hSw);go_simp<;>(with_reducible rfl))
   try simp only[Act.put,qA,qB,qC,qD,qE,qF]
   refine wpAnyH_take (i:=16) (v:=?_) rfl (by kernel_rfl) (by kernel_rfl) (by kernel_rfl) (fun _ _ _ h=>h) (Or.inl ⟨by rfl,?_⟩) (by assumption) ?_;rotate_left 1
   ·(intro w hSw;(try dsimp only at hSw);go_simp<;>(with_reducible rfl))
   try simp only[Act.put,qA,qB,qC,qD,qE,qF]
   refine wpAnyH_ready (rs:=[14]) (by kernel_rfl) (by simp) ?_;refine AllReadyH.cons rfl (fun K hK=>?_) AllReadyH.nil
   go_simp
   refine(held (W:=U78) hB.out (CE1.out _) (by assumption)).mono ?_;rintro e x1 ⟨rfl,hb,hw⟩
   (try go_wp2_with fail)
   refine hK.out _ _ hw (fun hH1=>?_);clear hK hH0 hb hw
   try simp only[Act.put,qA,qB,qC,qD,qE,qF]
   refine wpAnyH_ready (rs:=[17]) (by kernel_rfl) (by simp) ?_;refine AllReadyH.cons rfl (fun K hK=>?_) AllReadyH.nil
   go_simp
   refine(held (W:=U78) hB.out (CE2.out _) (by assumption)).mono ?_;rintro e x2 ⟨rfl,hb,hw⟩
   (try go_wp2_with fail)
   refine hK.out _ _ hw (fun hH2=>?_);clear hK hH1 hb hw
   try simp only[Act.put,qA,qB,qC,qD,qE,qF]
   refine wpAnyH_take (i:=18) (v:=?_) rfl (by kernel_rfl) (by kernel_rfl) (by kernel_rfl) (fun _ _ _ h=>h) (Or.inl ⟨by rfl,?_⟩) (by assumption) ?_;rotate_left 1
   ·(intro w hSw;(try dsimp only at hSw);go_simp<;>(with_reducible rfl))
   try simp only[Act.put,qA,qB,qC,qD,qE,qF]
   refine wpAnyH_take (i:=19) (v:=?_) rfl (by kernel_rfl) (by kernel_rfl) (by kernel_rfl) (fun _ _ _ h=>h) (Or.inl ⟨by rfl,?_⟩) (by assumption) ?_;rotate_left 1
   ·(intro w hSw;(try dsimp only at hSw);go_simp<;>(with_reducible rfl))
   try simp only[Act.put,qA,qB,qC,qD,qE,qF]
   refine wpAnyH_take (i:=20) (v:=?_) rfl (by kernel_rfl) (by kernel_rfl) (by kernel_rfl) (fun _ _ _ h=>h) (Or.inl ⟨by rfl,?_⟩) (by assumption) ?_;rotate_left 1
   ·(intro w hSw;(try dsimp only at hSw);go_simp<;>(with_reducible rfl))
   try simp only[Act.put,qA,qB,qC,qD,qE,qF]
   refine wpAnyH_take (i:=21) (v:=?_) rfl (by kernel_rfl) (by kernel_rfl) (by kernel_rfl) (fun _ _ _ h=>h) (Or.inl ⟨by rfl,?_⟩) (by assumption) ?_;rotate_left 1
   ·(intro w hSw;(try dsimp only at hSw);go_simp<;>(with_reducible rfl))
   try simp only[Act.put,qA,qB,qC,qD,qE,qF]
   refine wpAnyH_take (i:=22) (v:=?_) rfl (by kernel_rfl) (by kernel_rfl) (by kernel_rfl) (fun _ _ _ h=>h) (Or.inl ⟨by rfl,?_⟩) (by assumption) ?_;rotate_left 1
   ·(intro w hSw;(try dsimp only at hSw);go_simp<;>(with_reducible rfl))
   try simp only[Act.put,qA,qB,qC,qD,qE,qF]
   refine wpAnyH_take (i:=23) (v:=?_) rfl (by kernel_rfl) (by kernel_rfl) (by kernel_rfl) (fun _ _ _ h=>h) (Or.inl ⟨by rfl,?_⟩) (by assumption) ?_;rotate_left 1
   ·(intro w hSw;(try dsimp only at hSw);go_simp<;>(with_reducible rfl))
   try simp only[Act.put,qA,qB,qC,qD,qE,qF]
   refine wpAnyH_take (i:=24) (v:=?_) rfl (by kernel_rfl) (by kernel_rfl) (by kernel_rfl) (fun _ _ _ h=>h) (Or.inl ⟨by rfl,?_⟩) (by assumption) ?_;rotate_left 1
   ·(intro w hSw;(try dsimp only at hSw);go_simp<;>(with_reducible rfl))
   try simp only[Act.put,qA,qB,qC,qD,qE,qF]
   refine wpAnyH_take (i:=25) (v:=?_) rfl (by kernel_rfl) (by kernel_rfl) (by kernel_rfl) (fun _ _ _ h=>h) (Or.inl ⟨by rfl,?_⟩) (by assumption) ?_;rotate_left 1
   ·(intro w hSw;(try dsimp only at hSw);go_simp<;>(with_reducible rfl))
   try simp only[Act.put,qA,qB,qC,qD,qE,qF]
   refine wpAnyH_take (i:=26) (v:=?_) rfl (by kernel_rfl) (by kernel_rfl) (by kernel_rfl) (fun _ _ _ h=>h) (Or.inl ⟨by rfl,?_⟩) (by assumption) ?_;rotate_left 1
   ·(intro w hSw;(try dsimp only at hSw);go_simp<;>(with_reducible rfl))
   try simp only[Act.put,qA,qB,qC,qD,qE,qF]
   refine wpAnyH_done (by kernel_rfl) ?_ _;refine NoPanic.normal ?_;have b79:=hH2;clear hH2;clear hB;go_wp2_with fail;go_ret;exact⟨ret_bool (by first|rfl|simp),Below.more BW b79⟩
end Go.Proofs.YthgopcnagecbaaaGreatDoor
