/- Own work. -/
import Derived.Test.YtmllklfjngapiaaGreatDoorAllPaFM
import Derived.Test.YtmllklfjngapiaaGreatDoorAllPaB
set_option linter.unusedSimpArgs false
set_option linter.unusedVariables false
set_option maxHeartbeats 4000000
set_option maxRecDepth 100000
namespace Go.Proofs.YtmllklfjngapiaaGreatDoor
open Go.RowKit
open Wd (Tk okT ktT)
open Tm (Nd plainN arI arN)
open Pz (Wt tgt settleF)
open Pz (Ms takeF sgF sg)
theorem rsK_inj{l:List Tk}{i j:Nat}(h:rsK l i=rsK l j)(hi:i≤l.length)(hj:j≤l.length):i=j:=by
 have k:=congrArg List.length h;rw[rsK_len,rsK_len]at k;omega
theorem rsK_lt{l:List Tk}{k:Nat}{x:Pz.K}{r:List Pz.K}(h:rsK l k=x::r):k<l.length∧r=rsK l (k+1):=by
 have hk:k<l.length:=by
  have e:=congrArg List.length h;rw[rsK_len,List.length_cons]at e;omega
 obtain⟨t,ht⟩:∃t,l[k]?=some t:=⟨_,List.getElem?_eq_getElem hk⟩;rw[rsK_at ht]at h;exact⟨hk,(List.cons.inj h).2.symm⟩
def noI:Unit→World→Prop:=fun _ _=>True
theorem noTg(Ts:List Nat):TgI noI Ts:=fun _ _ _ _ _ _ _=>trivial
theorem enters_sign:EntersF 72:=enters Tryz.func72 (by kernel_rfl) rfl
theorem sign_is{σ:Type}{I:σ→World→Prop}{Ts:List Nat}(hI:TgI I Ts)(b:UInt8)(w:World):IsM I Ts (sgF b) (.func (.func 72) #[] #[.pointer (some ⟨w.heap.size,0,none⟩)]) w.heap.size (w.alloc (.cells #[.string ⟨#[b]⟩] 9)) :=
 ⟨_,_,rfl,enters_sign,fun V s t h1 h2 _ hs _ _=>by
  have hc:V.cell? ⟨w.heap.size,0,none⟩=some (.string ⟨[b].toArray⟩):=by
   rw[World.cell?_of_block (w:=w.alloc (.cells #[.string ⟨#[b]⟩] 9)) (a:=⟨w.heap.size,0,none⟩) (h1 w.heap.size (Nat.le_refl _) (by simp))];exact(cell_new w _ _ _ rfl 0).trans rfl
  refine(msign_any [b] t w.heap.size V hc).mono ?_;rintro r w' ⟨rfl,bb⟩;exact⟨rfl,hI s V w' [] hs (WrB.of_below bb _) (fun _ _ c=>by cases c),WrB.of_below bb _⟩⟩
variable {R : Nat} {Z : List Nat} {p : Option Addr} {c : Nat} {mv wv ov : Value} {l : List Tk} {k d : Nat} {K : List Wt} {t : List Nd} {w : World}
structure PEn(R:Nat)(p:Option Addr)(l:List Tk)(w:World):Prop where
 tk:Toks w p l
 ok:TokOk l
 low:∀a,p=some a→a.block<R
 good:GoodP w
 gr:∀V,Below R w V→GoodP V
theorem PEn.below{w':World}(h:PEn R p l w)(hb:Below R w w'):PEn R p l w' :=
 ⟨fun j x hx=>by
  obtain⟨b,o,e,hl,cc⟩:=h.tk j x hx;have hlow:=h.low _ e;exact⟨b,o,e,Nat.lt_of_lt_of_le hl hb.size,fun i v hv=>(hb.cell (p:=⟨b,o+j*4+i,none⟩) hlow).trans (cc i v hv)⟩,h.ok,h.low,h.gr _ hb,fun V hV=>h.gr _ (hb.trans hV)⟩
theorem RdS.cell1(h:RdS R Z p c mv l k d K t wv ov w){k':Nat}{w':World}(hb:Blk R (rdC p l.length c (k':Int) mv wv (d:Int) ov) w')(hw:WrB [R] w w'):RdS R Z p c mv l k' d K t wv ov w' :=
 ⟨hb,h.own1.wr hw fun g e c=>by have:=(own_lt h.own1 g e).1;have:=List.mem_singleton.1 c;omega,h.own2.wr hw fun g e c=>by have:=(own_lt h.own2 g e).1;have:=List.mem_singleton.1 c;omega,h.sep,h.sep2,fun z e=>Nat.lt_of_lt_of_le (h.zlt z e) hw.size,h.rz⟩
theorem Kept.one{w':World}(hw:WrB [R] w w')(hz:∀z∈Z,z<w.heap.size)(hR:R≤w.heap.size)(hn:R∉Z):Kept R Z w w' :=
 Kept.wr hw (fun x c=>by have:=List.mem_singleton.1 c;subst this;exact⟨Nat.le_refl _,hn⟩) hz hR
theorem ptake_sign(h:RdS R Z p c mv l k d K t wv ov w)(E:PEn R p l w)(hk:k≤l.length)(b:UInt8)(hb:Wd.isSgn b=true) :
  Calls Tryz.prog 37 #[.pointer (some ⟨R,0,none⟩),.func (.func 72) #[] #[.pointer (some ⟨w.heap.size,0,none⟩)]] (w.alloc (.cells #[.string ⟨#[b]⟩] 9)) (fun r w'=>r=.returned (.bool (sg [b] (rsK l k)).isSome)∧RdS R Z p c mv l (if (sg [b] (rsK l k)).isSome then k+1 else k) d K t wv ov w'∧Kept R Z w w'∧(if (sg [b] (rsK l k)).isSome then k+1 else k)≤l.length):=by
 have ba:Below w.heap.size w (w.alloc (.cells #[.string ⟨#[b]⟩] 9)):=Below.alloc (Below.refl _ _) (Nat.le_refl _) _;have hRw:R≤w.heap.size:=Nat.le_of_lt h.blk.lt;have E2:=E.below (ba.mono hRw);have h2:=h.below ba;refine(ptake_m (sign_is (noTg []) b w) (noTg []) () k l _ (fun _ _ _=>rfl) (Nat.le_refl _) E2.good trivial E2.tk (fun _ _ c=>by cases c) (fun c=>by cases c) h2.blk E.ok hk).mono ?_;rintro r w' ⟨bb,s',k',hF,rfl,hk',_,hbk,hw⟩;have e:=Pz.sg_take (σ:=Unit) b hb () (rsK l k) (rsK_ok (fun t ht=>(E.ok.2 t ht).1) k);rw[hF]at e;have hkept:Kept R Z w w':=Kept.trans (Kept.of_below ba h.zlt hRw) (Kept.one hw h2.zlt (Nat.le_of_lt h2.blk.lt) h.rz)
 cases hs:sg [b] (rsK l k) with
 | none =>
  rw[hs]at e;have e:=e;obtain⟨rfl,e2⟩:=Prod.mk.inj e;have e3:=rsK_inj (Prod.mk.inj e2).2 hk' hk;subst e3;exact⟨rfl,h2.cell1 hbk hw,hkept,hk⟩
 | some r1 =>
  rw[hs]at e;obtain⟨rfl,e2⟩:=Prod.mk.inj e;have hlt:k<l.length∧r1=rsK l (k+1):=by
   cases hr:rsK l k with
   | nil=>rw[hr]at hs;cases hs
   | cons x r =>
    rw[hr,Pz.sg_cons]at hs;split at hs
    ·cases hs;exact rsK_lt hr
    ·cases hs
  have e3:=rsK_inj ((Prod.mk.inj e2).2.trans hlt.2) hk' hlt.1;subst e3;exact⟨rfl,h2.cell1 hbk hw,hkept,hlt.1⟩
theorem pnext_sign(h:RdS R Z p c mv l k d K t wv ov w)(E:PEn R p l w)(b:UInt8)(hb:Wd.isSgn b=true) :
  Calls Tryz.prog 71 #[.pointer (some ⟨R,0,none⟩),.func (.func 72) #[] #[.pointer (some ⟨w.heap.size,0,none⟩)]] (w.alloc (.cells #[.string ⟨#[b]⟩] 9)) (fun r w'=>r=.returned (.bool (sg [b] (rsK l k)).isSome)∧Below w.heap.size w w'):=by
 have ba:Below w.heap.size w (w.alloc (.cells #[.string ⟨#[b]⟩] 9)):=Below.alloc (Below.refl _ _) (Nat.le_refl _) _;have hRw:R≤w.heap.size:=Nat.le_of_lt h.blk.lt;have E2:=E.below (ba.mono hRw);have h2:=h.below ba
 cases hx:l[k]? with
 | none =>
  refine(pnext_end _ k l _ h2.blk hx).mono ?_;rintro r w' ⟨rfl,b'⟩;rw[rsK_end hx];exact⟨rfl,Below.more ba b'⟩
 | some t0 =>
  obtain⟨g,caps,e,en,kk⟩:=sign_is (noTg []) b w;injection e with e1 e2 e3
  injection e1 with e1
  subst e1 e3;have bd:Below (w.alloc (.cells #[.string ⟨#[b]⟩] 9)).heap.size (w.alloc (.cells #[.string ⟨#[b]⟩] 9)) (w.alloc (.cells #[.string ⟨#[b]⟩] 9)).drew:=Below.drew (Below.refl _ _);have hm:=E.ok.2 t0 (List.mem_of_getElem? hx);have hc:=kk (w.alloc (.cells #[.string ⟨#[b]⟩] 9)).drew () t0 (fun _ _ _=>rfl) (Nat.le_refl _) (E2.good.below bd) trivial hm.1 hm.2;refine(pnext_at (Q:=fun b' w'=>b'=(sgF b () (ktT t0)).1∧WrB [] (w.alloc (.cells #[.string ⟨#[b]⟩] 9)) w') _ en _ k l t0 _ E2.tk h2.blk hx E.ok.1 (hc.mono ?_) ?_).mono ?_
  ·rintro r w' ⟨rfl,_,b'⟩;exact⟨_,rfl,rfl,(WrB.of_below bd _).trans b'⟩
  ·rintro b' w' ⟨_,b'⟩;exact⟨h2.blk.wr b' (fun c=>by cases c),E2.tk.wr b' (fun _ _ c=>by cases c)⟩
  ·rintro r w' ⟨b',rfl,e,hw⟩;refine⟨?_,Below.more ba hw.toBelow⟩;rw[e,rsK_at hx,Pz.sg_cons];have hk:=Pz.ok_sign hm.1 hb;by_cases c:(ktT t0).2=[b]
   ·rw[if_pos (hk.1 c)];show Ending.returned (.bool (decide ((ktT t0).2=[b])))=_;rw[decide_eq_true c];rfl
   ·rw[if_neg (fun c'=>c (hk.2 c'))];show Ending.returned (.bool (decide ((ktT t0).2=[b])))=_;rw[decide_eq_false c];rfl
theorem RdS.opens(h:RdS R Z p c mv l k d K t wv ov w)(d':Nat):RdS R Z p c mv l k d' K t wv ov (w.setCell ⟨R,4,none⟩ (.int .i64 (d':Int)))∧Kept R Z w (w.setCell ⟨R,4,none⟩ (.int .i64 (d':Int))):=by
 have r2:WrB [R] w (w.setCell ⟨R,4,none⟩ (.int .i64 (d':Int))):=WrB.of_set w R 4 _ List.mem_cons_self;have k4:=h.blk.set 4 (by simp) (.int .i64 (d':Int));exact⟨⟨k4,h.own1.wr r2 fun g e c=>by have:=(own_lt h.own1 g e).1;have:=List.mem_singleton.1 c;omega,h.own2.wr r2 fun g e c=>by have:=(own_lt h.own2 g e).1;have:=List.mem_singleton.1 c;omega,h.sep,h.sep2,fun z e=>by rw[size_setCell];exact h.zlt z e,h.rz⟩,
  Kept.one r2 h.zlt (Nat.le_of_lt h.blk.lt) h.rz⟩
theorem pbegin_no(op:Int)(h:RdS R Z p c mv l k d K t wv ov w)(E:PEn R p l w)(hk:k≤l.length)(hs:sg [40] (rsK l k)=none) :
  Calls Tryz.prog 45 #[.pointer (some ⟨R,0,none⟩),.int .i64 op] w (RdG R Z p c mv l k d K t w (.int .i64 110)):=by
 have c4:=h.blk.c 4 _ rfl;by_cases hd:d=200
 ·subst hd;have CN:=zh (pnext_sign h E 40 rfl);rw[hs]at CN;have CT:=zh (fun w' (hb:Below w.heap.size w w')=>ptake_sign (h.below hb) (E.below (hb.mono (Nat.le_of_lt h.blk.lt))) hk 40 rfl);rw[hs]at CT;have HB0:=zh (fun w' (hb:Below w.heap.size w w')=>Kept.of_below (Z:=Z) hb h.zlt (Nat.le_of_lt h.blk.lt));clear h E hs;go_enter Tryz.func45,Tryz.ntmps45;go_wp2_with fail;refine(ksign_any ⟨#[40]⟩ _).mono ?_;rintro r w1 ⟨rfl,rfl⟩;go_wp2_with fail;refine CN.out.mono ?_;rintro r w2 ⟨rfl,b2⟩;have CT2:=zh (CT.out w2 b2);have HB2:=zh (HB0.out w2 b2);clear CN CT HB0 b2 c4;go_wp2_with fail;refine(ksign_any ⟨#[40]⟩ _).mono ?_;rintro r w1 ⟨rfl,rfl⟩;go_wp2_with fail;refine CT2.out.mono ?_;rintro r w3 ⟨rfl,h3,k3,_⟩;have HR:=zh h3;have HKp:=zh (HB2.out.trans k3);clear h3 k3 CT2 HB2;go_wp2_with fail;go_ret;exact⟨_,_,rfl,HR.out,HKp.out⟩
 ·have hd2:((d:Int)==200)=false:=beq_false_of_ne (by omega);have hd3:(d==200)=false:=beq_false_of_ne hd;have CT2:=zh (ptake_sign h E hk 40 rfl);rw[hs]at CT2;clear h E hs;go_enter Tryz.func45,Tryz.ntmps45;go_wp2_with fail;refine(ksign_any ⟨#[40]⟩ _).mono ?_;rintro r w1 ⟨rfl,rfl⟩;go_wp2_with fail;refine CT2.out.mono ?_;rintro r w3 ⟨rfl,h3,k3,_⟩;have HR:=zh h3;have HKp:=zh k3;clear h3 k3 CT2;go_wp2_with fail;go_ret;exact⟨_,_,rfl,HR.out,HKp.out⟩
theorem pbegin_deep(op:Int)(h:RdS R Z p c mv l k 200 K t wv ov w)(E:PEn R p l w)(hs:(sg [40] (rsK l k)).isSome=true) :
  Calls Tryz.prog 45 #[.pointer (some ⟨R,0,none⟩),.int .i64 op] w (RdG R Z p c mv l k 200 K t w (.int .i64 111)):=by
 have c4:=h.blk.c 4 _ rfl;have CN:=zh (pnext_sign h E 40 rfl);rw[hs]at CN;have HB0:=zh (fun w' (hb:Below w.heap.size w w')=>Kept.of_below (Z:=Z) hb h.zlt (Nat.le_of_lt h.blk.lt));have HH:=zh h;clear h E hs;go_enter Tryz.func45,Tryz.ntmps45;go_wp2_with fail;refine(ksign_any ⟨#[40]⟩ _).mono ?_;rintro r w1 ⟨rfl,rfl⟩;go_wp2_with fail;refine CN.out.mono ?_;rintro r w2 ⟨rfl,b2⟩;have HR:=zh (HH.out.below b2);have HKp:=zh (HB0.out w2 b2);clear CN HB0 b2 c4 HH;go_wp2_with fail;go_ret;exact⟨_,_,rfl,HR.out,HKp.out⟩
theorem pbegin_yes(op:Int)(a:Nat)(h:RdS R Z p c mv l k d K t wv ov w)(E:PEn R p l w)(hk:k≤l.length)(hs:(sg [40] (rsK l k)).isSome=true)(hd:d<200)(hKl:K.length≤1000000)(ha:arI op-1=(a:Int)∨(a=0∧arI op-1≤0))(ha3:-1≤arI op∧arI op≤100) :
  Calls Tryz.prog 45 #[.pointer (some ⟨R,0,none⟩),.int .i64 op] w (RdG R Z p c mv l (k+1) (d+1) ((op,a)::K) t w (.int .i64 0)):=by
 have c4:=h.blk.c 4 _ rfl;have hd2:((d:Int)==200)=false:=beq_false_of_ne (by omega);have hd3:(d==200)=false:=beq_false_of_ne (by omega);have CT2:=zh (ptake_sign h E hk 40 rfl);rw[hs]at CT2;have HE:=zh E;have HKl:=zh hKl;have HRl:=zh (Nat.le_of_lt h.blk.lt);clear h E hs hKl;go_enter Tryz.func45,Tryz.ntmps45;go_wp2_with fail;refine(ksign_any ⟨#[40]⟩ _).mono ?_;rintro r w1 ⟨rfl,rfl⟩;go_wp2_with fail;refine CT2.out.mono ?_;rintro r w3 ⟨rfl,h3,k3,_⟩;have h3:RdS R Z p c mv l (k+1) d K t wv ov w3:=h3;have c4:=h3.blk.c 4 _ rfl;have f4:=h3.blk.f 4 (by simp);have hwr:wrap64 ((d:Int)+1)=(d:Int)+1:=IntWalk.wrap64_in _ ⟨by omega,by omega⟩;have hO:=h3.opens (d+1);rw[show ((d+1:Nat):Int)=(d:Int)+1 by omega]at hO;have HX:=zh hO.1;have HKp:=zh (k3.trans hO.2);clear h3 k3 CT2 hO;go_wp2_with fail;generalize w3.setCell ⟨R,4,none⟩ (.int .i64 ((d:Int)+1))=V at HX HKp ⊢;clear c4 f4 hwr;have hbA:Below V.heap.size V V.drew:=Below.drew (Below.refl _ _);have CA:=zh (tarity_any op V.drew ((HE.out.gr V HKp.out.b).x.below hbA));have hN0:Blk R (rdC p l.length c ((k+1:Nat):Int) mv wv ((d+1:Nat):Int) ov) V.drew:=HX.out.blk.below hbA;have hwr2:IntKind.i64.wrap (arI op-1)=arI op-1:=IntWalk.i64_in _ (by omega);have hmx:max 0 (arI op-1)=(a:Int):=by omega
 generalize arI op=A at *;refine wp_region_noPanic ?_;refine wp_region_held_drew (S:=fun w'=>∃o,Blk R (rdC p l.length c ((k+1:Nat):Int) mv o ((d+1:Nat):Int) ov) w') (by kernel_rfl) ⟨wv,hN0⟩ (fun hH0=>?_);refine sch_in [0,1,2,3,5,6] ?_
 iterate 6 (refine sch_yes (v:=?_) rfl (by kernel_rfl) (by rfl) ?_ (by assumption) ?_;rotate_left 1;(· (intro w hSw;(try dsimp only at hSw);go_simp<;>(with_reducible rfl)));try simp only[Act.put,qA,qB,qC,qD,qE,qF])
 refine sch_out ?_;refine wpAnyH_ready (rs:=[4,7]) (by kernel_rfl) (by simp) ?_;refine AllReadyH.cons rfl (fun K' hK'=>?_) (AllReadyH.cons rfl (fun K' hK'=>?_) (AllReadyH.nil))
 ·have c5:V.drew.cell? ⟨R,3,none⟩=some wv:=hN0.c 3 _ rfl
  go_simp
  refine hK'.out _ _ ⟨wv,hN0⟩ (fun hHa=>?_);clear c5;clear hK'
  try simp only[Act.put,qA,qB,qC,qD,qE,qF]
  refine wpAnyH_ready (rs:=[7]) (by kernel_rfl) (by simp) ?_;refine AllReadyH.cons rfl (fun K' hK'=>?_) (AllReadyH.nil)
  go_simp
  refine CA.out.mono ?_;rintro e w7 ⟨rfl,b7⟩
  (try go_wp2_with fail)
  have hN7:=hN0.below b7;have hbB:Below w7.heap.size w7 (w7.alloc (.cells #[.int .i64 op,.int .i64 (a:Int)] 108)):=Below.alloc (Below.refl _ _) (Nat.le_refl _) _;have hN1:=hN7.below hbB;refine hK'.out _ _ ⟨wv,hN7⟩ (fun hHe=>?_);clear hK'
  try simp only[Act.put,qA,qB,qC,qD,qE,qF]
  refine sch_in [8,9,10] ?_
  iterate 3 (refine sch_yes (v:=?_) rfl (by kernel_rfl) (by rfl) ?_ (by assumption) ?_;rotate_left 1;(· (intro w hSw;(try dsimp only at hSw);go_simp<;>(with_reducible rfl)));try simp only[Act.put,qA,qB,qC,qD,qE,qF])
  refine sch_out ?_;refine wpAnyH_ready (rs:=[11]) (by kernel_rfl) (by simp) ?_;refine AllReadyH.cons rfl (fun K' hK'=>?_) (AllReadyH.nil)
  go_simp
  refine hK'.out _ _ ⟨wv,hN1⟩ (fun hHb=>?_);clear hK'
  try simp only[Act.put,qA,qB,qC,qD,qE,qF]
  refine wpAnyH_ready (rs:=[12]) (by kernel_rfl) (by simp) ?_;refine AllReadyH.cons rfl (fun K' hK'=>?_) (AllReadyH.nil);rw[if_pos (by rfl)];refine wp_append_G _ _ 47 108 rfl Tryz.underlying47 wtInfo rfl (by decide) (by decide) (fun _=>rfl) encW_one (R+1) wv K.reverse rfl (HX.out.own1.wr (WrB.of_below (Below.more (Below.more hbA b7) hbB) []) (fun _ _ c=>by cases c)) ⟨w7.heap.size,0,none⟩ ((op,a):Wt) 1 rfl (rowsOne (enc:=encW) (k:=2) w7 ((op,a):Wt) 108 _ rfl) (by rw[List.length_reverse];have:=HKl.out;omega) (by have:=HX.out.blk.lt;have:=b7.size;simp at this ⊢;omega) ?_;intro v' w4 ho4 hg4 hl4;obtain⟨qa4,cq4,e4,z1,z2,z3⟩:=ownG_rows (enc:=encW) (k:=2) (fun _=>rfl) ho4;clear z1 z2 z3;obtain⟨n4,hn4⟩:∃n4,n4=(K.reverse++[((op,a):Wt)]).length:=⟨_,rfl⟩;rw[←hn4]at e4;subst e4;clear hn4;have hN4:=hN1.wr (wr_row (v:=wv) hg4) (fun e=>by have:=(own_lt HX.out.own1 _ (mem_row e)).1;omega);refine hK'.out _ _ ⟨wv,hN4⟩ (fun hHc=>?_);clear hK'
  try simp only[Act.put,qA,qB,qC,qD,qE,qF]
  refine sch_in [13,14] ?_
  iterate 2 (refine sch_yes (v:=?_) rfl (by kernel_rfl) (by rfl) ?_ (by assumption) ?_;rotate_left 1;(· (intro w hSw;(try dsimp only at hSw);go_simp<;>(with_reducible rfl)));try simp only[Act.put,qA,qB,qC,qD,qE,qF])
  refine sch_out ?_;refine wpAnyH_ready (rs:=[15]) (by kernel_rfl) (by simp) ?_;refine AllReadyH.cons rfl (fun K' hK'=>?_) (AllReadyH.nil);have c5:=hN4.c 3 _ rfl;have f5:=hN4.f 3 (by simp);have hfin:=wait_fin (K':=(op,a)::K) (v':=.slice qa4 n4 cq4) HX.out (Below.more (Below.more hbA b7) hbB) (by rw[List.reverse_cons];exact ho4) hg4 hl4
  go_simp
  refine hK'.out _ _ ⟨.slice qa4 n4 cq4,hN4.set 3 (by simp) (.slice qa4 n4 cq4)⟩ (fun hHd=>?_);clear hK'
  try simp only[Act.put,qA,qB,qC,qD,qE,qF]
  refine wpAnyH_done (by kernel_rfl) ?_ _;refine NoPanic.normal ?_;have HF:=zh hfin;clear hH0 hHa hHb hHc hHd hHe hfin hg4 hl4 hN4 ho4 hN0 hN1 hN7 c5 f5;go_wp2_with fail;go_ret;exact⟨_,_,rfl,HF.out.1,Kept.trans HKp.out HF.out.2⟩
 ·go_simp
  refine CA.out.mono ?_;rintro e w7 ⟨rfl,b7⟩
  (try go_wp2_with fail)
  have hN7:=hN0.below b7;have hbB:Below w7.heap.size w7 (w7.alloc (.cells #[.int .i64 op,.int .i64 (a:Int)] 108)):=Below.alloc (Below.refl _ _) (Nat.le_refl _) _;have hN1:=hN7.below hbB;refine hK'.out _ _ ⟨wv,hN7⟩ (fun hHe=>?_);clear hK'
  try simp only[Act.put,qA,qB,qC,qD,qE,qF]
  refine sch_in [8,9,10] ?_
  iterate 3 (refine sch_yes (v:=?_) rfl (by kernel_rfl) (by rfl) ?_ (by assumption) ?_;rotate_left 1;(· (intro w hSw;(try dsimp only at hSw);go_simp<;>(with_reducible rfl)));try simp only[Act.put,qA,qB,qC,qD,qE,qF])
  refine sch_out ?_;refine wpAnyH_ready (rs:=[4,11]) (by kernel_rfl) (by simp) ?_;refine AllReadyH.cons rfl (fun K' hK'=>?_) (AllReadyH.cons rfl (fun K' hK'=>?_) (AllReadyH.nil))
  ·have c5:w7.cell? ⟨R,3,none⟩=some wv:=hN7.c 3 _ rfl
   go_simp
   refine hK'.out _ _ ⟨wv,hN7⟩ (fun hHa=>?_);clear c5;clear hK'
   try simp only[Act.put,qA,qB,qC,qD,qE,qF]
   refine wpAnyH_ready (rs:=[11]) (by kernel_rfl) (by simp) ?_;refine AllReadyH.cons rfl (fun K' hK'=>?_) (AllReadyH.nil)
   go_simp
   refine hK'.out _ _ ⟨wv,hN1⟩ (fun hHb=>?_);clear hK'
   try simp only[Act.put,qA,qB,qC,qD,qE,qF]
   refine wpAnyH_ready (rs:=[12]) (by kernel_rfl) (by simp) ?_;refine AllReadyH.cons rfl (fun K' hK'=>?_) (AllReadyH.nil);rw[if_pos (by rfl)];refine wp_append_G _ _ 47 108 rfl Tryz.underlying47 wtInfo rfl (by decide) (by decide) (fun _=>rfl) encW_one (R+1) wv K.reverse rfl (HX.out.own1.wr (WrB.of_below (Below.more (Below.more hbA b7) hbB) []) (fun _ _ c=>by cases c)) ⟨w7.heap.size,0,none⟩ ((op,a):Wt) 1 rfl (rowsOne (enc:=encW) (k:=2) w7 ((op,a):Wt) 108 _ rfl) (by rw[List.length_reverse];have:=HKl.out;omega) (by have:=HX.out.blk.lt;have:=b7.size;simp at this ⊢;omega) ?_;intro v' w4 ho4 hg4 hl4;obtain⟨qa4,cq4,e4,z1,z2,z3⟩:=ownG_rows (enc:=encW) (k:=2) (fun _=>rfl) ho4;clear z1 z2 z3;obtain⟨n4,hn4⟩:∃n4,n4=(K.reverse++[((op,a):Wt)]).length:=⟨_,rfl⟩;rw[←hn4]at e4;subst e4;clear hn4;have hN4:=hN1.wr (wr_row (v:=wv) hg4) (fun e=>by have:=(own_lt HX.out.own1 _ (mem_row e)).1;omega);refine hK'.out _ _ ⟨wv,hN4⟩ (fun hHc=>?_);clear hK'
   try simp only[Act.put,qA,qB,qC,qD,qE,qF]
   refine sch_in [13,14] ?_
   iterate 2 (refine sch_yes (v:=?_) rfl (by kernel_rfl) (by rfl) ?_ (by assumption) ?_;rotate_left 1;(· (intro w hSw;(try dsimp only at hSw);go_simp<;>(with_reducible rfl)));try simp only[Act.put,qA,qB,qC,qD,qE,qF])
   refine sch_out ?_;refine wpAnyH_ready (rs:=[15]) (by kernel_rfl) (by simp) ?_;refine AllReadyH.cons rfl (fun K' hK'=>?_) (AllReadyH.nil);have c5:=hN4.c 3 _ rfl;have f5:=hN4.f 3 (by simp);have hfin:=wait_fin (K':=(op,a)::K) (v':=.slice qa4 n4 cq4) HX.out (Below.more (Below.more hbA b7) hbB) (by rw[List.reverse_cons];exact ho4) hg4 hl4
   go_simp
   refine hK'.out _ _ ⟨.slice qa4 n4 cq4,hN4.set 3 (by simp) (.slice qa4 n4 cq4)⟩ (fun hHd=>?_);clear hK'
   try simp only[Act.put,qA,qB,qC,qD,qE,qF]
   refine wpAnyH_done (by kernel_rfl) ?_ _;refine NoPanic.normal ?_;have HF:=zh hfin;clear hH0 hHa hHb hHc hHd hHe hfin hg4 hl4 hN4 ho4 hN0 hN1 hN7 c5 f5;go_wp2_with fail;go_ret;exact⟨_,_,rfl,HF.out.1,Kept.trans HKp.out HF.out.2⟩
  ·go_simp
   refine hK'.out _ _ ⟨wv,hN1⟩ (fun hHb=>?_);clear hK'
   try simp only[Act.put,qA,qB,qC,qD,qE,qF]
   refine wpAnyH_ready (rs:=[4]) (by kernel_rfl) (by simp) ?_;refine AllReadyH.cons rfl (fun K' hK'=>?_) (AllReadyH.nil);have c5:(w7.alloc (.cells #[.int .i64 op,.int .i64 (a:Int)] 108)).cell? ⟨R,3,none⟩=some wv:=hN1.c 3 _ rfl
   go_simp
   refine hK'.out _ _ ⟨wv,hN1⟩ (fun hHa=>?_);clear c5;clear hK'
   try simp only[Act.put,qA,qB,qC,qD,qE,qF]
   refine wpAnyH_ready (rs:=[12]) (by kernel_rfl) (by simp) ?_;refine AllReadyH.cons rfl (fun K' hK'=>?_) (AllReadyH.nil);rw[if_pos (by rfl)];refine wp_append_G _ _ 47 108 rfl Tryz.underlying47 wtInfo rfl (by decide) (by decide) (fun _=>rfl) encW_one (R+1) wv K.reverse rfl (HX.out.own1.wr (WrB.of_below (Below.more (Below.more hbA b7) hbB) []) (fun _ _ c=>by cases c)) ⟨w7.heap.size,0,none⟩ ((op,a):Wt) 1 rfl (rowsOne (enc:=encW) (k:=2) w7 ((op,a):Wt) 108 _ rfl) (by rw[List.length_reverse];have:=HKl.out;omega) (by have:=HX.out.blk.lt;have:=b7.size;simp at this ⊢;omega) ?_;intro v' w4 ho4 hg4 hl4;obtain⟨qa4,cq4,e4,z1,z2,z3⟩:=ownG_rows (enc:=encW) (k:=2) (fun _=>rfl) ho4;clear z1 z2 z3;obtain⟨n4,hn4⟩:∃n4,n4=(K.reverse++[((op,a):Wt)]).length:=⟨_,rfl⟩;rw[←hn4]at e4;subst e4;clear hn4;have hN4:=hN1.wr (wr_row (v:=wv) hg4) (fun e=>by have:=(own_lt HX.out.own1 _ (mem_row e)).1;omega);refine hK'.out _ _ ⟨wv,hN4⟩ (fun hHc=>?_);clear hK'
   try simp only[Act.put,qA,qB,qC,qD,qE,qF]
   refine sch_in [13,14] ?_
   iterate 2 (refine sch_yes (v:=?_) rfl (by kernel_rfl) (by rfl) ?_ (by assumption) ?_;rotate_left 1;(· (intro w hSw;(try dsimp only at hSw);go_simp<;>(with_reducible rfl)));try simp only[Act.put,qA,qB,qC,qD,qE,qF])
   refine sch_out ?_;refine wpAnyH_ready (rs:=[15]) (by kernel_rfl) (by simp) ?_;refine AllReadyH.cons rfl (fun K' hK'=>?_) (AllReadyH.nil);have c5:=hN4.c 3 _ rfl;have f5:=hN4.f 3 (by simp);have hfin:=wait_fin (K':=(op,a)::K) (v':=.slice qa4 n4 cq4) HX.out (Below.more (Below.more hbA b7) hbB) (by rw[List.reverse_cons];exact ho4) hg4 hl4
   go_simp
   refine hK'.out _ _ ⟨.slice qa4 n4 cq4,hN4.set 3 (by simp) (.slice qa4 n4 cq4)⟩ (fun hHd=>?_);clear hK'
   try simp only[Act.put,qA,qB,qC,qD,qE,qF]
   refine wpAnyH_done (by kernel_rfl) ?_ _;refine NoPanic.normal ?_;have HF:=zh hfin;clear hH0 hHa hHb hHc hHd hHe hfin hg4 hl4 hN4 ho4 hN0 hN1 hN7 c5 f5;go_wp2_with fail;go_ret;exact⟨_,_,rfl,HF.out.1,Kept.trans HKp.out HF.out.2⟩
end Go.Proofs.YtmllklfjngapiaaGreatDoor
