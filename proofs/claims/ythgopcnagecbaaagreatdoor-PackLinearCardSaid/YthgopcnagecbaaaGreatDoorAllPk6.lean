/- Own work. -/
import Derived.Test.YthgopcnagecbaaaGreatDoorAllPk2
import Derived.Test.YthgopcnagecbaaaGreatDoorAllPk3
import Derived.Test.YthgopcnagecbaaaGreatDoorAllPk5
set_option linter.unusedSimpArgs false
set_option linter.unusedVariables false
set_option maxHeartbeats 4000000
set_option maxRecDepth 100000
namespace Go.Proofs.YthgopcnagecbaaaGreatDoor
open Go.RowKit
open Pk (Part Pack mayP valueP keepsP ofP)
open Pk (sumV GoodN wthP sumP_all sumP_none wth_good partB mayP)
theorem take_snoc{ps:List Part}{k:Nat}{x:Part}(h:ps[k]?=some x)(f:Part→Key):(ps.take (k+1)).map f=(ps.take k).map f++[f x]:=by
 rw[List.take_add_one,h,List.map_append];rfl
theorem pvalue_x(p q:Option Addr)(c d:Nat)(ps:List Part)(cn cd:List UInt8)(l:List Fx.Fix)(day:Int)(K:Nat)(w:World)(hc:ps.length≤c)(hd:l.length≤d)(hl:l.length≤1000)(hK:(ps.length+1)*(2*K+3)≤10000)(hz:SzPk K ⟨ps,(cn,cd)⟩)(hf:SzFx K l)(h:Pts w p ps)(h':Fxs w q l) :
  Calls Tryz.prog 12 #[.agg #[.slice p ps.length c,.string ⟨cn.toArray⟩,.string ⟨cd.toArray⟩],.slice q l.length d,.int .i64 day] w (GiveG w (valueP ⟨ps,(cn,cd)⟩ l day)):=by
 have hk1:ps.length+1≤10000:=Nat.le_trans (Nat.le_mul_of_pos_right _ (by omega)) hK;have hk2:2*K+3≤10000:=Nat.le_trans (Nat.le_mul_of_pos_left _ (Nat.succ_pos _)) hK;have CP:Hid (∀V,Below w.heap.size w V→Calls Tryz.prog 17 #[.agg #[.slice p ps.length c,.string ⟨cn.toArray⟩,.string ⟨cd.toArray⟩]] V (GiveB V (mayP ⟨ps,(cn,cd)⟩))):=zh (fun V hV=>pmay_x p c ps cn cd V hc (by omega) (fun y hy=>⟨Nat.le_trans (hz.1 y hy).1 (by omega),Nat.le_trans (hz.1 y hy).2 (by omega)⟩) (Nat.le_trans hz.2.1 (by omega)) (Nat.le_trans hz.2.2 (by omega)) (h.below hV));have CX:Hid (∀V,Below w.heap.size w V→Calls Tryz.prog 29 #[.slice q l.length d] V (GiveB V (Fx.mayF l))):=zh (fun V hV=>ffmay_any q d l V hd (by omega) (hf.szX (by omega)) (h'.below hV));have HS:=zh h;have HT:=zh h';have HZ:=zh hz;have HF:=zh hf
 clear h h' hz hf;go_enter Tryz.func12,Tryz.ntmps12;go_wp2_with fail;obtain⟨W,hW,BW,sW,kk⟩:=layN (Below.refl w.heap.size w) #[.slice p ps.length c,.string ⟨cn.toArray⟩,.string ⟨cd.toArray⟩] 28;rw[hW];clear hW;have hX:=blk_new W #[.string ⟨#[]⟩,.string ⟨#[]⟩] 23;have bX:Below W.heap.size W (W.alloc (.cells #[.string ⟨#[]⟩,.string ⟨#[]⟩] 23)):=Below.alloc (Below.refl _ _) (Nat.le_refl _) _;have hXU:W.heap.size<(W.alloc (.cells #[.string ⟨#[]⟩,.string ⟨#[]⟩] 23)).heap.size:=by simp
 obtain⟨U,hU⟩:∃U,W.alloc (.cells #[.string ⟨#[]⟩,.string ⟨#[]⟩] 23)=U:=⟨_,rfl⟩;rw[hU]at hX bX hXU ⊢;clear hU;rw[←sW]at hX;have hle2:w.heap.size≤w.heap.size+1:=by omega
 have k0:∀v,Below U.heap.size U v→_:=fun v hv=>kk 0 _ rfl v (Below.more bX hv);have k1:∀v,Below U.heap.size U v→_:=fun v hv=>kk 1 _ rfl v (Below.more bX hv);have k2:∀v,Below U.heap.size U v→_:=fun v hv=>kk 2 _ rfl v (Below.more bX hv)
 have BU:=Below.more BW bX;have HU:Hid (w.heap.size+1<U.heap.size):=zh (by omega);clear kk bX BW hXU sW;have b0:=Below.refl U.heap.size U;refine(CP.out _ BU).mono ?_;rintro e1 w1 ⟨rfl,b⟩;have b1:=Below.more b0 b;replace hX:=hX.below b;clear b b0
 cases hm:mayP ⟨ps,(cn,cd)⟩ with
 | false =>
  have HE:Hid (valueP ⟨ps,(cn,cd)⟩ l day=none):=zh (by unfold valueP;rw[hm];rfl);clear hm;have y0:=hX.c 0 _ rfl;have y1:=hX.c 1 _ rfl;have z0:=hX.f 0 (by simp);have z1:=hX.f 1 (by simp)
  go_wp2_with fail;refine bodyPost_ret (v:=.tuple #[.agg #[.string ⟨#[]⟩,.string ⟨#[]⟩],.bool false]) (by simp[results,Tryz.results12,go_sem, *]) rfl ⟨by rw[HE.out];first|done|rfl,?_⟩;exact Below.setCell (Below.setCell (Below.more BU b1) (hle2) _) (hle2) _
 | true =>
 go_wp2_with fail;refine(CX.out _ (Below.more BU b1)).mono ?_;rintro e2 w2 ⟨rfl,b⟩;have b2:=Below.more b1 b;replace hX:=hX.below b;clear b b1
 cases hx:Fx.mayF l with
 | false =>
  have HE:Hid (valueP ⟨ps,(cn,cd)⟩ l day=none):=zh (by unfold valueP;rw[hm,hx];rfl);clear hm hx;have y0:=hX.c 0 _ rfl;have y1:=hX.c 1 _ rfl;have z0:=hX.f 0 (by simp);have z1:=hX.f 1 (by simp)
  go_wp2_with fail;refine bodyPost_ret (v:=.tuple #[.agg #[.string ⟨#[]⟩,.string ⟨#[]⟩],.bool false]) (by simp[results,Tryz.results12,go_sem, *]) rfl ⟨by rw[HE.out];first|done|rfl,?_⟩;exact Below.setCell (Below.setCell (Below.more BU b2) (hle2) _) (hle2) _
 | true =>
 have HM:=zh hm;have HMX:=zh hx
 have HV:Hid (valueP ⟨ps,(cn,cd)⟩ l day=Pk.sumP (fun a=>Fx.getF l (a,day)) (cn,cd) ps):=zh (by unfold valueP;rw[hm,hx];rfl);clear hm hx CP CX;have hO:=ownG_lit (B:=U.heap.size) (enc:=encKy) (k:=2) (fun _=>rfl) w2 [((cn,cd):Key)] #[.string ⟨cn.toArray⟩,.string ⟨cd.toArray⟩] 23 rfl (by simp) b2.size;have b3:Below U.heap.size U (w2.alloc (.cells #[.string ⟨cn.toArray⟩,.string ⟨cd.toArray⟩] 23)):=Below.alloc b2 b2.size _;have hX3:=hX.below (Below.alloc (Below.refl w2.heap.size w2) (Nat.le_refl _) (.cells #[.string ⟨cn.toArray⟩,.string ⟨cd.toArray⟩] 23));have HO:=zh hO;have HB:=zh b3;have HX:=zh hX3
 have j0:=k0 w2 b2;have j1:=k1 w2 b2;have j2:=k2 w2 b2
 clear hX hX3 hO b3;have ba:=fun x=>Below.alloc b2 b2.size x;go_wp2_with fail;clear ba
 go_loopw [8,28] (fun v i wr=>∃k:Nat,k≤ps.length∧i=.int .i64 k∧Hid (∀j x,j<k→ps[j]?=some x→∃y,Fx.getF l (x.1,day)=some y)∧Hid (OwnG encKy 2 23 U.heap.size wr v ((cn,cd)::(ps.take k).map (wthP (fun a=>Fx.getF l (a,day)))))∧Hid (Blk (w.heap.size+1) [.string ⟨#[]⟩,.string ⟨#[]⟩] wr)∧Below U.heap.size U wr) (fun _ i _=>ps.length-(intOf i).toNat)
 case atStart=>exact⟨0,Nat.zero_le _,rfl,fun j x h=>absurd h (Nat.not_lt_zero j),HO.out,HX.out,HB.out⟩
 case round =>
  clear HO HX HB j0 j1 j2 b2;obtain⟨k,hk,rfl,HJ,HO,HX,hw⟩:=hrel;by_cases hlt:k<ps.length
  ·obtain⟨⟨a,⟨n,e⟩⟩,hx⟩:∃x,ps[k]?=some x:=⟨_,List.getElem?_eq_getElem hlt⟩;obtain⟨b,o,rfl,i0,i1,i2⟩:=pt_rule (HS.out.below (Below.more BU hw)) hx;have bw:=Below.refl wr.heap.size wr
   go_upto_region 7 with fail
   obtain⟨V,hV,bV,s1,rr⟩:=layN (Below.refl wr.heap.size wr) #[.string ⟨a.toArray⟩,.string ⟨n.toArray⟩,.string ⟨e.toArray⟩] 45;rw[hV];clear hV s1;have r0:=rr 0 _ rfl;have r1:=rr 1 _ rfl;have r2:=rr 2 _ rfl
   clear rr i0 i1 i2 bw;have HWV:=zh (Below.more hw bV);replace HO:=zh (ownG_below HO.out bV);replace HX:=zh (HX.out.below bV);clear hw bV;have hpx:partB (a,(n,e))=true:=(Pk.may_iffP.1 HM.out).1.1 _ (List.mem_of_getElem? hx);have hnr:isR (n,e)=true:=(Pk.part_rat hpx).1;have HXK:=zh hx;have hsz:=HZ.out.1 _ (List.mem_of_getElem? hx);dsimp only at hsz;have HNR:=zh hnr;have HSZ:=zh hsz
   clear hpx hx hnr hsz;obtain⟨⟨gn,gd⟩,hgq⟩:∃y,optR (Fx.getF l (a,day))=y:=⟨_,rfl⟩;obtain⟨gb,hgb⟩:∃y,(Fx.getF l (a,day)).isSome=y:=⟨_,rfl⟩;have CF:Hid (∀V',Below V.heap.size V V'→Calls Tryz.prog 31 #[.slice q l.length d,.string ⟨a.toArray⟩] V' (GiveOwn V' l a)):=zh (fun V' hV'=>own_any q d l a V' hd (by omega) HMX.out (HT.out.below (Below.more BU (Below.more HWV.out hV'))));have CG0:Hid (∀q' c' (m:List Fx.Fix),m.length≤c'→m.length≤l.length→(∀x∈m,x∈l)→(∀t,Fx.getF m (a,t)=Fx.getF l (a,t))→∀V',Fxs V' q' m→Calls Tryz.prog 30 #[.slice q' m.length c',.string ⟨a.toArray⟩,.int .i64 day] V' (GiveV V' (.tuple #[.agg #[.string ⟨gn.toArray⟩,.string ⟨gd.toArray⟩],.bool gb]))):=zh (fun q' c' m h1 h2 h3 h4 V' h5=>by
    have k:=ffget_any q' c' m a day V' h1 (by omega) (fun x hx=>HF.out.szX (by omega) x (h3 x hx)) h5;rw[h4 day]at k;unfold GiveG at k;rw[hgq,hgb]at k;exact k)
   have HGQ:=zh hgq;have HGB:=zh hgb
   clear hgq hgb;have b0:=Below.refl V.heap.size V;have hB:=zh (Nat.le_refl V.heap.size)
   go_cut [11,12] from 33 to 42 (fun y t V'=>∃Y,y=.pointer (some ⟨Y,0,none⟩)∧t=.bool gb∧V.heap.size≤Y∧Blk Y [.string ⟨gn.toArray⟩,.string ⟨gd.toArray⟩] V'∧Below V.heap.size V V')
   case first =>
    refine wp_region_noPanic ?_;refine wp_region_held_drew (S:=fun w'=>Below V.heap.size V w') (by kernel_rfl) (b0.drew) (fun hH0=>?_);refine wpAnyH_take (i:=0) (v:=?_) rfl (by kernel_rfl) (by kernel_rfl) (by kernel_rfl) (fun _ _ _ h=>h) (Or.inl ⟨by rfl,?_⟩) (by assumption) ?_;rotate_left 1
    ·(intro w hSw;(try dsimp only at hSw);go_simp<;>(with_reducible rfl))
    try simp only[Act.put,qA,qB,qC,qD,qE,qF]
    refine wpAnyH_take (i:=1) (v:=?_) rfl (by kernel_rfl) (by kernel_rfl) (by kernel_rfl) (fun _ _ _ h=>h) (Or.inl ⟨by rfl,?_⟩) (by assumption) ?_;rotate_left 1
    ·(intro w hSw;(try dsimp only at hSw);go_simp<;>(with_reducible rfl))
    try simp only[Act.put,qA,qB,qC,qD,qE,qF]
    refine wpAnyH_take (i:=2) (v:=?_) rfl (by kernel_rfl) (by kernel_rfl) (by kernel_rfl) (fun _ _ _ h=>h) (Or.inl ⟨by rfl,?_⟩) (by assumption) ?_;rotate_left 1
    ·(intro w hSw;(try dsimp only at hSw);go_simp<;>(with_reducible rfl))
    try simp only[Act.put,qA,qB,qC,qD,qE,qF]
    refine wpAnyH_take (i:=4) (v:=?_) rfl (by kernel_rfl) (by kernel_rfl) (by kernel_rfl) (fun _ _ _ h=>h) (Or.inl ⟨by rfl,?_⟩) (by assumption) ?_;rotate_left 1
    ·(intro w hSw;(try dsimp only at hSw);go_simp<;>(with_reducible rfl))
    try simp only[Act.put,qA,qB,qC,qD,qE,qF]
    refine wpAnyH_take (i:=5) (v:=?_) rfl (by kernel_rfl) (by kernel_rfl) (by kernel_rfl) (fun _ _ _ h=>h) (Or.inl ⟨by rfl,?_⟩) (by assumption) ?_;rotate_left 1
    ·(intro w hSw;(try dsimp only at hSw);go_simp<;>(with_reducible rfl))
    try simp only[Act.put,qA,qB,qC,qD,qE,qF]
    refine wpAnyH_take (i:=6) (v:=?_) rfl (by kernel_rfl) (by kernel_rfl) (by kernel_rfl) (fun _ _ _ h=>h) (Or.inl ⟨by rfl,?_⟩) (by assumption) ?_;rotate_left 1
    ·(intro w hSw;(try dsimp only at hSw);go_simp<;>(with_reducible rfl))
    try simp only[Act.put,qA,qB,qC,qD,qE,qF]
    refine wpAnyH_ready (rs:=[3,11]) (by kernel_rfl) (by simp) ?_;refine AllReadyH.cons rfl (fun K hK=>?_) (AllReadyH.cons rfl (fun K hK=>?_) AllReadyH.nil)
    ·go_simp
     refine(CF.out _ (by assumption)).mono ?_;rintro e x1 ⟨⟨q',c',m,rfl,hc',hm',hin,hL,hg⟩,hb⟩;have hw:Below V.heap.size V x1:=Below.more hH0 hb;have CG:=zh (CG0.out q' c' m hc' hm' hin hg);have HL:=zh hL;clear hc' hm' hin hL hg
     (try go_wp2_with fail)
     refine hK.out _ _ hw (fun hH1=>?_);clear hK hH0 hb hw
     try simp only[Act.put,qA,qB,qC,qD,qE,qF]
     refine wpAnyH_ready (rs:=[7,11]) (by kernel_rfl) (by simp) ?_;refine AllReadyH.cons rfl (fun K hK=>?_) (AllReadyH.cons rfl (fun K hK=>?_) AllReadyH.nil)
     ·go_simp
      refine(CG.out _ HL.out).mono ?_;rintro e x2 ⟨rfl,hb⟩;have hw:Below V.heap.size V x2:=Below.more hH1 hb
      (try go_wp2_with fail)
      refine hK.out _ _ hw (fun hH2=>?_);clear hK hH1 hb hw CG HL
      try simp only[Act.put,qA,qB,qC,qD,qE,qF]
      refine wpAnyH_take (i:=8) (v:=?_) rfl (by kernel_rfl) (by kernel_rfl) (by kernel_rfl) (fun _ _ _ h=>h) (Or.inl ⟨by rfl,?_⟩) (by assumption) ?_;rotate_left 1
      ·(intro w hSw;(try dsimp only at hSw);go_simp<;>(with_reducible rfl))
      try simp only[Act.put,qA,qB,qC,qD,qE,qF]
      refine wpAnyH_take (i:=9) (v:=?_) rfl (by kernel_rfl) (by kernel_rfl) (by kernel_rfl) (fun _ _ _ h=>h) (Or.inl ⟨by rfl,?_⟩) (by assumption) ?_;rotate_left 1
      ·(intro w hSw;(try dsimp only at hSw);go_simp<;>(with_reducible rfl))
      try simp only[Act.put,qA,qB,qC,qD,qE,qF]
      refine wpAnyH_take (i:=10) (v:=?_) rfl (by kernel_rfl) (by kernel_rfl) (by kernel_rfl) (fun _ _ _ h=>h) (Or.inl ⟨by rfl,?_⟩) (by assumption) ?_;rotate_left 1
      ·(intro w hSw;(try dsimp only at hSw);go_simp<;>(with_reducible rfl))
      try simp only[Act.put,qA,qB,qC,qD,qE,qF]
      refine wpAnyH_ready (rs:=[11]) (by kernel_rfl) (by simp) ?_;refine AllReadyH.cons rfl (fun K hK=>?_) AllReadyH.nil
      go_simp
      have hY:=blk_new x2 #[.string ⟨#[]⟩,.string ⟨#[]⟩] 23;have bb:Below x2.heap.size x2 (x2.alloc (.cells #[.string ⟨#[]⟩,.string ⟨#[]⟩] 23)):=Below.alloc (Below.refl _ _) (Nat.le_refl _) _;have hge:=hH2.size;obtain⟨Y,hYe⟩:∃Y,x2.heap.size=Y:=⟨_,rfl⟩;obtain⟨x3,hU⟩:∃Z9,x2.alloc (.cells #[.string ⟨#[]⟩,.string ⟨#[]⟩] 23)=Z9:=⟨_,rfl⟩;rw[hU]at hY bb ⊢;have hw:Below V.heap.size V x3:=Below.more hH2 bb;rw[hYe]at hY hge ⊢;clear hU hYe bb;refine hK.out _ _ hw (fun hH3=>?_);clear hK hH2 hw
      try simp only[Act.put,qA,qB,qC,qD,qE,qF]
      have y0:=hY.c 0 _ rfl;have y1:=hY.c 1 _ rfl;have z0:=hY.f 0 (by simp);have z1:=hY.f 1 (by simp)
      refine wpAnyH_ready (rs:=[12]) (by kernel_rfl) (by simp) ?_;refine AllReadyH.cons rfl (fun K hK=>?_) AllReadyH.nil
      go_simp
      have hY2:=(hY.set 0 (by simp) (.string ⟨gn.toArray⟩)).set 1 (by simp) (.string ⟨gd.toArray⟩);refine hK.out _ _ (Below.setCell (Below.setCell (hH3) (hge) _) (hge) _) (fun hH4=>?_);clear hK hY y0 y1 z0 z1
      try simp only[Act.put,qA,qB,qC,qD,qE,qF]
      refine wpAnyH_take (i:=13) (v:=?_) rfl (by kernel_rfl) (by kernel_rfl) (by kernel_rfl) (fun _ _ _ h=>h) (Or.inl ⟨by rfl,?_⟩) (by assumption) ?_;rotate_left 1
      ·(intro w hSw;(try dsimp only at hSw);go_simp<;>(with_reducible rfl))
      try simp only[Act.put,qA,qB,qC,qD,qE,qF]
      refine wpAnyH_done (by kernel_rfl) ?_ _;refine NoPanic.normal ?_;go_wp2_with fail
      go_meet
      exact⟨Y,rfl,rfl,hge,hY2,hH4⟩
     ·go_simp
      have hY:=blk_new x1 #[.string ⟨#[]⟩,.string ⟨#[]⟩] 23;have bb:Below x1.heap.size x1 (x1.alloc (.cells #[.string ⟨#[]⟩,.string ⟨#[]⟩] 23)):=Below.alloc (Below.refl _ _) (Nat.le_refl _) _;have hge:=hH1.size;obtain⟨Y,hYe⟩:∃Y,x1.heap.size=Y:=⟨_,rfl⟩;obtain⟨x2,hU⟩:∃Z9,x1.alloc (.cells #[.string ⟨#[]⟩,.string ⟨#[]⟩] 23)=Z9:=⟨_,rfl⟩;rw[hU]at hY bb ⊢;have hw:Below V.heap.size V x2:=Below.more hH1 bb;replace HL:=zh (HL.out.below bb);rw[hYe]at hY hge ⊢;clear hU hYe bb;refine hK.out _ _ hw (fun hH2=>?_);clear hK hH1 hw
      try simp only[Act.put,qA,qB,qC,qD,qE,qF]
      refine wpAnyH_ready (rs:=[7]) (by kernel_rfl) (by simp) ?_;refine AllReadyH.cons rfl (fun K hK=>?_) AllReadyH.nil
      go_simp
      refine(CG.out _ HL.out).mono ?_;rintro e x3 ⟨rfl,hb⟩;have hw:Below V.heap.size V x3:=Below.more hH2 hb;replace hY:=hY.below hb
      (try go_wp2_with fail)
      refine hK.out _ _ hw (fun hH3=>?_);clear hK hH2 hb hw CG HL
      try simp only[Act.put,qA,qB,qC,qD,qE,qF]
      refine wpAnyH_take (i:=8) (v:=?_) rfl (by kernel_rfl) (by kernel_rfl) (by kernel_rfl) (fun _ _ _ h=>h) (Or.inl ⟨by rfl,?_⟩) (by assumption) ?_;rotate_left 1
      ·(intro w hSw;(try dsimp only at hSw);go_simp<;>(with_reducible rfl))
      try simp only[Act.put,qA,qB,qC,qD,qE,qF]
      refine wpAnyH_take (i:=9) (v:=?_) rfl (by kernel_rfl) (by kernel_rfl) (by kernel_rfl) (fun _ _ _ h=>h) (Or.inl ⟨by rfl,?_⟩) (by assumption) ?_;rotate_left 1
      ·(intro w hSw;(try dsimp only at hSw);go_simp<;>(with_reducible rfl))
      try simp only[Act.put,qA,qB,qC,qD,qE,qF]
      refine wpAnyH_take (i:=10) (v:=?_) rfl (by kernel_rfl) (by kernel_rfl) (by kernel_rfl) (fun _ _ _ h=>h) (Or.inl ⟨by rfl,?_⟩) (by assumption) ?_;rotate_left 1
      ·(intro w hSw;(try dsimp only at hSw);go_simp<;>(with_reducible rfl))
      try simp only[Act.put,qA,qB,qC,qD,qE,qF]
      have y0:=hY.c 0 _ rfl;have y1:=hY.c 1 _ rfl;have z0:=hY.f 0 (by simp);have z1:=hY.f 1 (by simp)
      refine wpAnyH_ready (rs:=[12]) (by kernel_rfl) (by simp) ?_;refine AllReadyH.cons rfl (fun K hK=>?_) AllReadyH.nil
      go_simp
      have hY2:=(hY.set 0 (by simp) (.string ⟨gn.toArray⟩)).set 1 (by simp) (.string ⟨gd.toArray⟩);refine hK.out _ _ (Below.setCell (Below.setCell (hH3) (hge) _) (hge) _) (fun hH4=>?_);clear hK hY y0 y1 z0 z1
      try simp only[Act.put,qA,qB,qC,qD,qE,qF]
      refine wpAnyH_take (i:=13) (v:=?_) rfl (by kernel_rfl) (by kernel_rfl) (by kernel_rfl) (fun _ _ _ h=>h) (Or.inl ⟨by rfl,?_⟩) (by assumption) ?_;rotate_left 1
      ·(intro w hSw;(try dsimp only at hSw);go_simp<;>(with_reducible rfl))
      try simp only[Act.put,qA,qB,qC,qD,qE,qF]
      refine wpAnyH_done (by kernel_rfl) ?_ _;refine NoPanic.normal ?_;go_wp2_with fail
      go_meet
      exact⟨Y,rfl,rfl,hge,hY2,hH4⟩
    ·go_simp
     have hY:=(blk_new V #[.string ⟨#[]⟩,.string ⟨#[]⟩] 23).drew;have bb:Below V.heap.size V ((V.alloc (.cells #[.string ⟨#[]⟩,.string ⟨#[]⟩] 23)).drew):=(Below.alloc (Below.refl _ _) (Nat.le_refl _) _).drew;obtain⟨Y,hYe⟩:∃Y,V.heap.size=Y:=⟨_,rfl⟩;obtain⟨x1,hU⟩:∃Z9,(V.alloc (.cells #[.string ⟨#[]⟩,.string ⟨#[]⟩] 23)).drew=Z9:=⟨_,rfl⟩;rw[hU]at hY bb ⊢;have hw:Below V.heap.size V x1:=bb;have hge:V.heap.size≤Y:=Nat.le_of_eq hYe;rw[hYe]at hY ⊢;clear hU hYe bb;refine hK.out _ _ hw (fun hH1=>?_);clear hK hH0 hw
     try simp only[Act.put,qA,qB,qC,qD,qE,qF]
     refine wpAnyH_ready (rs:=[3]) (by kernel_rfl) (by simp) ?_;refine AllReadyH.cons rfl (fun K hK=>?_) AllReadyH.nil
     go_simp
     refine(CF.out _ (by assumption)).mono ?_;rintro e x2 ⟨⟨q',c',m,rfl,hc',hm',hin,hL,hg⟩,hb⟩;have hw:Below V.heap.size V x2:=Below.more hH1 hb;replace hY:=hY.below hb;have CG:=zh (CG0.out q' c' m hc' hm' hin hg);have HL:=zh hL;clear hc' hm' hin hL hg
     (try go_wp2_with fail)
     refine hK.out _ _ hw (fun hH2=>?_);clear hK hH1 hb hw
     try simp only[Act.put,qA,qB,qC,qD,qE,qF]
     refine wpAnyH_ready (rs:=[7]) (by kernel_rfl) (by simp) ?_;refine AllReadyH.cons rfl (fun K hK=>?_) AllReadyH.nil
     go_simp
     refine(CG.out _ HL.out).mono ?_;rintro e x3 ⟨rfl,hb⟩;have hw:Below V.heap.size V x3:=Below.more hH2 hb;replace hY:=hY.below hb
     (try go_wp2_with fail)
     refine hK.out _ _ hw (fun hH3=>?_);clear hK hH2 hb hw CG HL
     try simp only[Act.put,qA,qB,qC,qD,qE,qF]
     refine wpAnyH_take (i:=8) (v:=?_) rfl (by kernel_rfl) (by kernel_rfl) (by kernel_rfl) (fun _ _ _ h=>h) (Or.inl ⟨by rfl,?_⟩) (by assumption) ?_;rotate_left 1
     ·(intro w hSw;(try dsimp only at hSw);go_simp<;>(with_reducible rfl))
     try simp only[Act.put,qA,qB,qC,qD,qE,qF]
     refine wpAnyH_take (i:=9) (v:=?_) rfl (by kernel_rfl) (by kernel_rfl) (by kernel_rfl) (fun _ _ _ h=>h) (Or.inl ⟨by rfl,?_⟩) (by assumption) ?_;rotate_left 1
     ·(intro w hSw;(try dsimp only at hSw);go_simp<;>(with_reducible rfl))
     try simp only[Act.put,qA,qB,qC,qD,qE,qF]
     refine wpAnyH_take (i:=10) (v:=?_) rfl (by kernel_rfl) (by kernel_rfl) (by kernel_rfl) (fun _ _ _ h=>h) (Or.inl ⟨by rfl,?_⟩) (by assumption) ?_;rotate_left 1
     ·(intro w hSw;(try dsimp only at hSw);go_simp<;>(with_reducible rfl))
     try simp only[Act.put,qA,qB,qC,qD,qE,qF]
     have y0:=hY.c 0 _ rfl;have y1:=hY.c 1 _ rfl;have z0:=hY.f 0 (by simp);have z1:=hY.f 1 (by simp)
     refine wpAnyH_ready (rs:=[12]) (by kernel_rfl) (by simp) ?_;refine AllReadyH.cons rfl (fun K hK=>?_) AllReadyH.nil
     go_simp
     have hY2:=(hY.set 0 (by simp) (.string ⟨gn.toArray⟩)).set 1 (by simp) (.string ⟨gd.toArray⟩);refine hK.out _ _ (Below.setCell (Below.setCell (hH3) (hge) _) (hge) _) (fun hH4=>?_);clear hK hY y0 y1 z0 z1
     try simp only[Act.put,qA,qB,qC,qD,qE,qF]
     refine wpAnyH_take (i:=13) (v:=?_) rfl (by kernel_rfl) (by kernel_rfl) (by kernel_rfl) (fun _ _ _ h=>h) (Or.inl ⟨by rfl,?_⟩) (by assumption) ?_;rotate_left 1
     ·(intro w hSw;(try dsimp only at hSw);go_simp<;>(with_reducible rfl))
     try simp only[Act.put,qA,qB,qC,qD,qE,qF]
     refine wpAnyH_done (by kernel_rfl) ?_ _;refine NoPanic.normal ?_;go_wp2_with fail
     go_meet
     exact⟨Y,rfl,rfl,hge,hY2,hH4⟩
   case rest =>
   obtain⟨Y,rfl,rfl,hYV,hY,hV⟩:=hcut;clear CF CG0;replace HX:=zh (HX.out.below hV);replace HO:=zh (ownG_below HO.out hV);replace HWV:=zh (Below.more HWV.out hV);have v0:=r0 _ hV;have v1:=r1 _ hV;have v2:=r2 _ hV
   cases gb with
   | false =>
    have HE:Hid (valueP ⟨ps,(cn,cd)⟩ l day=none):=zh (by rw[HV.out];exact sumP_none _ _ ⟨_,List.mem_of_getElem? HXK.out,by have k:=HGB.out;revert k;cases Fx.getF l (a,day)<;>simp⟩);have hX:=HX.out;have y0:=hX.c 0 _ rfl;have y1:=hX.c 1 _ rfl;have z0:=hX.f 0 (by simp);have z1:=hX.f 1 (by simp)
    clear hX;go_wp2_with fail;refine bodyPost_ret (v:=.tuple #[.agg #[.string ⟨#[]⟩,.string ⟨#[]⟩],.bool false]) (by simp[results,Tryz.results12,go_sem, *]) rfl ⟨by rw[HE.out];first|done|rfl,?_⟩;exact Below.setCell (Below.setCell (Below.more BU HWV.out) (hle2) _) (hle2) _
   | true =>
    have HG:Hid (Fx.getF l (a,day)=some (gn,gd)):=zh (by
     have k:=HGB.out;have k2:=HGQ.out
     revert k k2
     cases Fx.getF l (a,day) with
     | none=>intro k;cases k
     | some y=>intro _ k2;exact congrArg some k2)
    have hgr:isR (gn,gd)=true:=Pk.get_rat HG.out;have hgz:gn.length≤K∧gd.length≤K:=by
     have hg:=HG.out;unfold Fx.getF at hg;rw[if_pos HMX.out]at hg;exact⟨(HF.out _ (Fx.raw_some hg)).2.1,(HF.out _ (Fx.raw_some hg)).2.2⟩
    have hsz:=HSZ.out;have hnr:=HNR.out
    obtain⟨⟨mn,md⟩,hmq⟩:∃y,mulR (n,e) (gn,gd)=y:=⟨_,rfl⟩;have CQ:Hid (∀V',Calls Tryz.prog 32 #[.agg #[.string ⟨n.toArray⟩,.string ⟨e.toArray⟩],.agg #[.string ⟨gn.toArray⟩,.string ⟨gd.toArray⟩]] V' (GiveV V' (.agg #[.string ⟨mn.toArray⟩,.string ⟨md.toArray⟩]))):=zh (fun V'=>by
     have k:=qmul_any ⟨n.toArray⟩ ⟨e.toArray⟩ ⟨gn.toArray⟩ ⟨gd.toArray⟩ V' (by rw[size_of];omega) (by rw[size_of];omega) (by rw[size_of];omega) (by rw[size_of];omega);rw[show mulR ((⟨n.toArray⟩:ByteArray).data.toList,(⟨e.toArray⟩:ByteArray).data.toList) ((⟨gn.toArray⟩:ByteArray).data.toList,(⟨gd.toArray⟩:ByteArray).data.toList)=(mn,md) from hmq]at k;exact k)
    have HWT:Hid (((cn,cd)::(ps.take (k+1)).map (wthP (fun a=>Fx.getF l (a,day))))=((cn,cd)::(ps.take k).map (wthP (fun a=>Fx.getF l (a,day))))++[(mn,md)]):=zh (by
     rw[take_snoc HXK.out,show wthP (fun a=>Fx.getF l (a,day)) (a,(n,e))=(mn,md) by unfold wthP;dsimp only;rw[HG.out];exact hmq];rfl)
    have HJ2:Hid (∀j x,j<k+1→ps[j]?=some x→∃y,Fx.getF l (x.1,day)=some y):=zh (fun j x hj hx=>by
     rcases Nat.lt_succ_iff_lt_or_eq.1 hj with h|h
     ·exact HJ.out j x h hx
     ·rw[h,HXK.out]at hx;cases hx;exact⟨_,HG.out⟩)
    have g0:=hY.c 0 _ rfl;have g1:=hY.c 1 _ rfl
    have HLN:Hid (((cn,cd)::(ps.take k).map (wthP (fun a=>Fx.getF l (a,day)))).length≤3000000):=zh (by simp;omega);clear hgr hgz hsz hnr hmq;generalize ((cn,cd)::(ps.take k).map (wthP (fun a=>Fx.getF l (a,day))))=L at *;go_wp2_with fail;refine(CQ.out _).mono ?_;rintro e4 w4 ⟨rfl,b⟩;replace HX:=zh (HX.out.below b);replace HO:=zh (ownG_below HO.out b);have hW4:=Below.more HWV.out b;clear b;have HY:=zh (HX.out.below (Below.alloc (Below.refl w4.heap.size w4) (Nat.le_refl _) (.cells #[.string ⟨mn.toArray⟩,.string ⟨md.toArray⟩] 23)));have HW4:=zh hW4;clear hW4;go_wp2_with (at_builtin;refine haltG ?_);show wpList _ _ _ _ _ _;refine wpList_append_G rfl _ _ 42 23 rfl Tryz.underlying42 kyInfo rfl (by decide) (by decide) (fun _=>rfl) encKy_one U.heap.size _ L rfl (World.ownsRow.alloc HO.out _) ⟨w4.heap.size,0,none⟩ (mn,md) 1 rfl (rowsOne (enc:=encKy) (k:=2) w4 (mn,md) 23 _ rfl) HLN.out (Below.size (Below.alloc HW4.out (Below.size HW4.out) _)) ?_;intro v' w5 ho hg hloc;have hb5:Below U.heap.size U w5:=Below.grown (Below.alloc HW4.out (Below.size HW4.out) _) hg (Below.size (Below.alloc HW4.out (Below.size HW4.out) _)) (fun j hj=>(World.ownsRow.lt HO.out _ hj).1);have hx5:Blk (w.heap.size+1) [.string ⟨#[]⟩,.string ⟨#[]⟩] w5:=HY.out.grown hg (fun c=>Nat.lt_irrefl _ (Nat.lt_of_lt_of_le HU.out (World.ownsRow.lt HO.out _ c).1));have Z:Hid (OwnG encKy 2 23 U.heap.size w5 v' ((cn,cd)::(ps.take (k+1)).map (wthP (fun a=>Fx.getF l (a,day))))∧Blk (w.heap.size+1) [.string ⟨#[]⟩,.string ⟨#[]⟩] w5∧Below U.heap.size U w5):=zh ⟨by rw[HWT.out];exact ho,hx5,hb5⟩
    clear ho hg hloc hb5 hx5
    go_frame
    go_wp2_with fail;go_roundw
    case rel=>exact⟨k+1,hlt,by go_num,HJ2.out,Z.out.1,Z.out.2.1,Z.out.2.2⟩
    case measure=>simp[intOf];omega
  ·obtain rfl:k=ps.length:=by omega
   have hall:∀x∈ps,isR x.2=true∧∃y,Fx.getF l (x.1,day)=some y∧isR y=true∧y.1.length≤K∧y.2.length≤K:=fun x hx=>by
    obtain⟨j,hj,e⟩:=List.getElem_of_mem hx;obtain⟨y,hy⟩:=HJ.out j x hj (by rw[List.getElem?_eq_getElem hj,e]);refine⟨(Pk.part_rat ((Pk.may_iffP.1 HM.out).1.1 x hx)).1,y,hy,Pk.get_rat hy,?_⟩;unfold Fx.getF at hy;rw[if_pos HMX.out]at hy;exact⟨(HF.out _ (Fx.raw_some hy)).2.1,(HF.out _ (Fx.raw_some hy)).2.2⟩
   obtain⟨L,hL⟩:∃L,((cn,cd)::ps.map (wthP (fun a=>Fx.getF l (a,day))))=L:=⟨_,rfl⟩;have hcr:isR (cn,cd)=true:=(Pk.may_iffP.1 HM.out).2;have HE:Hid (valueP ⟨ps,(cn,cd)⟩ l day=some (rd (sumV L))):=zh (by
    rw[HV.out,sumP_all ps (cn,cd) hcr (fun x hx=>⟨(hall x hx).1,by obtain⟨_,y,h1,h2,_⟩:=hall x hx;exact⟨y,h1,h2⟩⟩),hL])
   have hgn:GoodN (2*K+2) L:=fun x hx=>by
    rw[←hL]at hx;rcases List.mem_cons.1 hx with rfl|hx
    ·exact⟨hcr,Nat.le_trans HZ.out.2.1 (by omega),Nat.le_trans HZ.out.2.2 (by omega)⟩
    ·obtain⟨y,hy,rfl⟩:=List.mem_map.1 hx;obtain⟨h1,z,h2,h3,h4,h5⟩:=hall y hy;have e:wthP (fun a=>Fx.getF l (a,day)) y=mulR y.2 z:=by unfold wthP;dsimp only;rw[h2];rfl
     rw[e];exact wth_good h1 h3 (HZ.out.1 y hy).1 (HZ.out.1 y hy).2 h4 h5 (by omega)
   have hll:L.length=ps.length+1:=by rw[←hL];simp
   have hne:L≠[]:=fun e=>by rw[e]at hll;simp at hll
   have ho:=HO.out;rw[List.take_length,hL]at ho;obtain⟨pv,cv,rfl,hcv,hLv,_⟩:=ownG_rows (enc:=encKy) (k:=2) (fun _=>rfl) ho;have CS:Hid (∀V',Below wr.heap.size wr V'→Calls Tryz.prog 33 #[.slice pv L.length cv] V' (GiveR V' (rdN (sumV L),rdD (sumV L)))):=zh (fun V' hV'=>psum_any (2*K+2) L.length pv cv L V' (Nat.le_refl _) hne hcv hgn (by rw[hll];exact hK) (hLv.below hV'));clear hall hgn hcr hL hll hne ho hLv HO;go_wp2_with fail;refine(CS.out _ (Below.refl _ _)).mono ?_;rintro e4 w4 ⟨rfl,b⟩;have hX:=HX.out.below b;have b4:=Below.more hw b;have y0:=hX.c 0 _ rfl;have y1:=hX.c 1 _ rfl;have z0:=hX.f 0 (by simp);have z1:=hX.f 1 (by simp)
   clear hX b;go_wp2_with fail;refine bodyPost_ret (v:=.tuple #[.agg #[.string ⟨(rdN (sumV L)).toArray⟩,.string ⟨(rdD (sumV L)).toArray⟩],.bool true]) (by simp[results,Tryz.results12,go_sem, *]) rfl ⟨by rw[HE.out];first|done|rfl,?_⟩;exact Below.setCell (Below.setCell (Below.more BU b4) (hle2) _) (hle2) _
theorem pvalue_any(p q:Option Addr)(c d:Nat)(x:Pack)(l:List Fx.Fix)(day:Int)(K:Nat)(w:World)(hc:x.parts.length≤c)(hd:l.length≤d)(hl:l.length≤1000)(hK:(x.parts.length+1)*(2*K+3)≤10000)(hz:SzPk K x)(hf:SzFx K l)(h:Pts w p x.parts)(h':Fxs w q l) :
  Calls Tryz.prog 12 #[.agg #[.slice p x.parts.length c,.string ⟨x.cash.1.toArray⟩,.string ⟨x.cash.2.toArray⟩],.slice q l.length d,.int .i64 day] w (GiveG w (valueP x l day)) :=
 pvalue_x p q c d x.parts x.cash.1 x.cash.2 l day K w hc hd hl hK hz hf h h'
theorem packC:PackC GoodA where
 below:=fun h hb=>h.below hb
 of:=pof_any
 may:=fun p c x w hc hl hz h _=>pmay_any p c x w hc hl hz h
 value:=fun p q c d x l day K w hc hd hl hK hz hf h h' _=>pvalue_any p q c d x l day K w hc hd hl hK hz hf h h'
 keeps:=fun p c x s w hc hl h hg=>keeps_any p c x s w hc hl h hg.tab
end Go.Proofs.YthgopcnagecbaaaGreatDoor
