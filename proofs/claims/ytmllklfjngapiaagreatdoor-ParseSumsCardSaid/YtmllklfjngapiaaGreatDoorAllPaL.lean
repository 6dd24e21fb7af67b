/- Own work. -/
import Derived.Test.YtmllklfjngapiaaGreatDoorAllPaKM
set_option linter.unusedSimpArgs false
set_option linter.unusedVariables false
set_option maxHeartbeats 4000000
set_option maxRecDepth 100000
namespace Go.Proofs.YtmllklfjngapiaaGreatDoor
open Go.RowKit
open Wd (Tk okT ktT)
open Tm (Nd plainN arI arN)
open Pz (Wt tgt settleF)
open Pz (Ms Px Nm nmF dyF frF naF abF sgF rowF takeF pxL priceR pxO Rs)
variable {R : Nat} {Z : List Nat} {p : Option Addr} {c : Nat} {mv wv ov : Value} {l : List Tk} {k d : Nat} {K : List Wt} {t : List Nd} {w : World}
abbrev Fv:=FuncId×Array Value
def fvV(x:Fv):Value:=.func (.func x.1) #[] x.2
def encG(x:Fv):List Value:=[fvV x]
theorem encG_one(x:Fv):∀v∈encG x,v.oneCell'=true:=fun v hv=>by
 obtain rfl:=List.mem_singleton.1 hv
 rfl
theorem own_n(q:Option Addr)(n n' cc:Nat):(Value.slice q n cc).ownBlock=(Value.slice q n' cc).ownBlock:=by cases q<;>rfl
theorem fvInfo:(Tryz.prog.info? 79).map (fun i=>(i.zero,i.size,i.bytes))=some (some .nilFunc,1,8):=by kernel_rfl
theorem rows_map{q:Option Addr}{fv:List Fv}(h:RowsG encG 1 w q fv):RowsG encF 1 w q (fv.map fvV):=fun j x hx=>by
 rw[List.getElem?_map]at hx
 cases hy:fv[j]? with
 | none=>rw[hy]at hx;cases hx
 | some y =>
  rw[hy]at hx;obtain rfl:=Option.some.inj hx;exact h j y hy
theorem ownLit{α:Type}{enc:α→List Value}{kk:Nat}{e:TypeId}{B:Nat}(hk:∀x,(enc x).length=kk)(w:World)(h:B≤w.heap.size)(l:List α)(cs:Array Value)(hc:cs.toList=l.flatMap enc)(hm:l.length≤1000):OwnG enc kk e B (w.alloc (.cells cs e)) (.slice (some ⟨w.heap.size,0,none⟩) l.length l.length) l:=by
 have hl:=flat_len hk l;have hs:cs.size=l.length*kk:=by rw[←Array.length_toList,hc,hl]
 exact⟨hl,.inr ⟨w.heap.size,l.length,cs,rfl,h,heap_alloc_new w _,Nat.le_refl _,by unfold maxLen;omega,hs,by rw[hc,← hl,List.take_length]⟩⟩
theorem RdS.cellT{k':Nat}{w':World}{Ts:List Nat}(h:RdS R Z p c mv l k d K t wv ov w)(hb:Blk R (rdC p l.length c (k':Int) mv wv (d:Int) ov) w')(hw:WrB (R::Ts) w w')(hT:∀x∈Ts,x∈Z):RdS R Z p c mv l k' d K t wv ov w' :=
 ⟨hb,h.own1.wr hw fun g e c=>by
  rcases List.mem_cons.1 c with c|c
  ·have:=(own_lt h.own1 g e).1;omega
  ·exact(h.sep g e).2 (hT g c),h.own2.wr hw fun g e c=>by
  rcases List.mem_cons.1 c with c|c
  ·have:=(own_lt h.own2 g e).1;omega
  ·exact h.sep2 g e (hT g c),h.sep,h.sep2,fun z e=>Nat.lt_of_lt_of_le (h.zlt z e) hw.size,h.rz⟩
def LeafG(R:Nat)(Z:List Nat)(p:Option Addr)(c:Nat)(mv:Value)(l:List Tk)(d:Nat)(K:List Wt)(t:List Nd)(w:World)(x:Rs)(r:Ending)(w':World):Prop :=
 (∃k' t' wv ov,x=.ok (rsK l k') t'∧k'≤l.length∧r=.returned (.bool true)∧RdS R Z p c mv l k' d K t' wv ov w'∧Kept R Z w w') ∨
 (∃k' wv ov,x=.bad 110 (rsK l k').length∧k'≤l.length∧r=.returned (.bool false)∧RdS R Z p c mv l k' d K t wv ov w'∧Kept R Z w w')
theorem pleaf_px(h:RdS R Z p c mv l k d K t wv ov w)(E:PEn R p l w)(hk:k≤l.length)(ht:t.length≤2000000)(op:Int)(hop:op=1) :
  Calls Tryz.prog 44 #[.pointer (some ⟨R,0,none⟩),.int .i64 op] w (LeafG R Z p c mv l d K t w (priceR op (rsK l k) t)):=by
 obtain⟨U,hU0,bU,sU,kU⟩:=ndbox (Nd.mk op ([],[]) [] 0 0) w;have HH:=zh (h.alloc (.cells #[.int .i64 op,.string ⟨#[]⟩,.string ⟨#[]⟩,.string ⟨#[]⟩,.int .i64 0,.int .i64 0] 40));have hU:w.alloc (.cells #[.int .i64 op,.string ⟨#[]⟩,.string ⟨#[]⟩,.string ⟨#[]⟩,.int .i64 0,.int .i64 0] 40)=U:=hU0;rw[hU]at HH;have HU:=zh bU;have HsU:=zh sU;have HT:=zh (show Blk w.heap.size (pxC op ([],0,0)) U from kU);have HE:=zh E;have HZ:=zh h.zlt;have HRw:=zh h.blk.lt;have HK:=zh hk;have HTl:=zh ht;have h0:(op==0)=false:=beq_false_of_ne (by omega);have h1:(op==1)=true:=by rw[hop];rfl
 have HOP:=zh hop;have HhU:=zh hU;clear h E bU sU kU hop hU hU0 hk ht;go_enter Tryz.func44,Tryz.ntmps44;go_wp2_with fail;rw[HhU.out];refine(ksign_any ⟨#[40]⟩ _).mono ?_;rintro r w1 ⟨rfl,hw⟩;have I1:=zh (sign_is (pxTg op w.heap.size) 40 U);rw[←hw]at I1;have bb:Below U.heap.size U w1:=by rw[hw];exact Below.alloc (Below.refl _ _) (Nat.le_refl _) _
 have Bw1:=zh bb;clear hw bb;go_wp2_with fail;refine(kname_any _ _).mono ?_;rintro r w2 ⟨rfl,hw⟩;have I2:=zh (name_is op w.heap.size w1 (by have:=HsU.out;have:=Bw1.out.size;omega));rw[←hw]at I2;have bb:Below w1.heap.size w1 w2:=by rw[hw];exact Below.alloc (Below.refl _ _) (Nat.le_refl _) _
 have Bw2:=zh bb;clear hw bb;go_wp2_with fail;refine(ksign_any ⟨#[44]⟩ _).mono ?_;rintro r w3 ⟨rfl,hw⟩;have I3:=zh (sign_is (pxTg op w.heap.size) 44 w2);rw[←hw]at I3;have bb:Below w2.heap.size w2 w3:=by rw[hw];exact Below.alloc (Below.refl _ _) (Nat.le_refl _) _
 have Bw3:=zh bb;clear hw bb;go_wp2_with fail;refine(kday_any _ _).mono ?_;rintro r w4 ⟨rfl,hw⟩;have I4:=zh (day_is op w.heap.size w3 (by have:=HsU.out;have:=Bw1.out.size;have:=Bw2.out.size;have:=Bw3.out.size;omega));rw[←hw]at I4;have bb:Below w3.heap.size w3 w4:=by rw[hw];exact Below.alloc (Below.refl _ _) (Nat.le_refl _) _
 have Bw4:=zh bb;clear hw bb;obtain⟨L1,hL1⟩:∃L1:List Fv,L1=[(72,#[.pointer (some ⟨U.heap.size,0,none⟩)]),(113,#[.pointer (some ⟨w1.heap.size,0,none⟩)]),(72,#[.pointer (some ⟨w2.heap.size,0,none⟩)]),(114,#[.pointer (some ⟨w3.heap.size,0,none⟩)])]:=⟨_,rfl⟩;obtain⟨V,hV⟩:∃V,w4.alloc (.cells #[fvV (72,#[.pointer (some ⟨U.heap.size,0,none⟩)]),fvV (113,#[.pointer (some ⟨w1.heap.size,0,none⟩)]),fvV (72,#[.pointer (some ⟨w2.heap.size,0,none⟩)]),fvV (114,#[.pointer (some ⟨w3.heap.size,0,none⟩)])] 79)=V:=⟨_,rfl⟩;have hV':=hV;simp only[fvV]at hV;have bb:Below w4.heap.size w4 V:=by rw[←hV'];exact Below.alloc (Below.refl _ _) (Nat.le_refl _) _
 have BV:=zh bb;have O1:=zh (ownLit (enc:=encG) (kk:=1) (e:=79) (B:=U.heap.size) (fun _=>rfl) w4 (by have:=Bw1.out.size;have:=Bw2.out.size;have:=Bw3.out.size;have:=Bw4.out.size;omega) L1 #[fvV (72,#[.pointer (some ⟨U.heap.size,0,none⟩)]),fvV (113,#[.pointer (some ⟨w1.heap.size,0,none⟩)]),fvV (72,#[.pointer (some ⟨w2.heap.size,0,none⟩)]),fvV (114,#[.pointer (some ⟨w3.heap.size,0,none⟩)])] (by rw[hL1];rfl) (by rw[hL1];exact(by decide:4≤1000)));rw[hV']at O1;have s1:L1.length=4:=by rw[hL1];rfl
 have s1':w4.heap.size<V.heap.size:=by rw[←hV'];simp
 have S1:=zh s1';rw[s1]at O1;have HL1:=zh hL1;have HS1:=zh s1;clear hV' bb s1 hL1 s1';go_wp2_with fail;refine(ksign_any ⟨#[41]⟩ _).mono ?_;rintro r w5 ⟨rfl,hw⟩;have I5:=zh (sign_is (pxTg op w.heap.size) 41 V);rw[←hw]at I5;have bb:Below V.heap.size V w5:=by rw[hw];exact Below.alloc (Below.refl _ _) (Nat.le_refl _) _
 have Bw5:=zh bb;clear hw bb;obtain⟨W,hW⟩:∃W,w5.alloc (.cells #[fvV (72,#[.pointer (some ⟨V.heap.size,0,none⟩)])] 79)=W:=⟨_,rfl⟩;have hR:=rowsLit (enc:=encG) (k:=1) (fun _=>rfl) w5 [(72,#[.pointer (some ⟨V.heap.size,0,none⟩)])] #[fvV (72,#[.pointer (some ⟨V.heap.size,0,none⟩)])] 79 rfl;rw[hW]at hR;have HRow:=zh hR;have bb:Below w5.heap.size w5 W:=by rw[←hW];exact Below.alloc (Below.refl _ _) (Nat.le_refl _) _
 have BW:=zh bb;have hs:w5.heap.size<W.heap.size:=by rw[←hW];simp
 have SW:=zh hs;simp only[fvV]at hW;clear hR bb hs;go_wp2_with (at_builtin;refine haltG ?_);show wpList _ _ _ _ _ _;refine wpList_append_M rfl _ _ 114 79 rfl Tryz.underlying114 fvInfo rfl (by decide) (by decide) (fun _=>rfl) encG_one U.heap.size (.slice (some ⟨w4.heap.size,0,none⟩) 4 4) L1 rfl (O1.out.wr (WrB.of_below (Below.more Bw5.out BW.out) []) (fun _ _ c=>by cases c)) (some ⟨w5.heap.size,0,none⟩) [(72,#[.pointer (some ⟨V.heap.size,0,none⟩)])] 1 rfl HRow.out (by have:=HS1.out;omega) (show 1≤3000000 by decide) (by have:=Bw1.out.size;have:=Bw2.out.size;have:=Bw3.out.size;have:=Bw4.out.size;have:=BV.out.size;have:=Bw5.out.size;have:=SW.out;omega) ?_;intro v2 wr ho hg hl;have O2:=zh ho;have Gwr:=zh hg;have OL2:=zh hl;clear ho hg hl;have BR:=zh (show Below U.heap.size U wr from ((Below.more (Below.more (Below.more (Below.more (Below.more (Below.more Bw1.out Bw2.out) Bw3.out) Bw4.out) BV.out) Bw5.out) BW.out)).trans ((WrB.of_grown (Xs:=[w4.heap.size]) Gwr.out (fun k e=>by obtain rfl:=Option.some.inj e;exact List.mem_cons_self)).below (fun x c=>by have:=List.mem_singleton.1 c;have:=Bw1.out.size;have:=Bw2.out.size;have:=Bw3.out.size;have:=Bw4.out.size;omega) (by have:=Bw1.out.size;have:=Bw2.out.size;have:=Bw3.out.size;have:=Bw4.out.size;have:=BV.out.size;have:=Bw5.out.size;have:=BW.out.size;omega)));have J1:=zh (I1.out.stay (lo':=U.heap.size) (by have:=Bw1.out.size;have:=Bw2.out.size;have:=Bw3.out.size;have:=Bw4.out.size;have:=BV.out.size;have:=Bw5.out.size;have:=BW.out.size;omega) ((WrB.of_below (Below.more (Below.more (Below.more (Below.more (Below.more Bw2.out Bw3.out) Bw4.out) BV.out) Bw5.out) BW.out) _).trans (WrB.of_grown (Xs:=[w4.heap.size]) Gwr.out (fun k e=>by obtain rfl:=Option.some.inj e;exact List.mem_cons_self))) (fun x c=>by have:=List.mem_singleton.1 c;have:=S1.out;have:=Bw1.out.size;have:=Bw2.out.size;have:=Bw3.out.size;have:=Bw4.out.size;have:=BV.out.size;have:=Bw5.out.size;have:=BW.out.size;omega))
 have J2:=zh (I2.out.stay (lo':=U.heap.size) (by have:=Bw1.out.size;have:=Bw2.out.size;have:=Bw3.out.size;have:=Bw4.out.size;have:=BV.out.size;have:=Bw5.out.size;have:=BW.out.size;omega) ((WrB.of_below (Below.more (Below.more (Below.more (Below.more Bw3.out Bw4.out) BV.out) Bw5.out) BW.out) _).trans (WrB.of_grown (Xs:=[w4.heap.size]) Gwr.out (fun k e=>by obtain rfl:=Option.some.inj e;exact List.mem_cons_self))) (fun x c=>by have:=List.mem_singleton.1 c;have:=S1.out;have:=Bw1.out.size;have:=Bw2.out.size;have:=Bw3.out.size;have:=Bw4.out.size;have:=BV.out.size;have:=Bw5.out.size;have:=BW.out.size;omega));have J3:=zh (I3.out.stay (lo':=U.heap.size) (by have:=Bw1.out.size;have:=Bw2.out.size;have:=Bw3.out.size;have:=Bw4.out.size;have:=BV.out.size;have:=Bw5.out.size;have:=BW.out.size;omega) ((WrB.of_below (Below.more (Below.more (Below.more Bw4.out BV.out) Bw5.out) BW.out) _).trans (WrB.of_grown (Xs:=[w4.heap.size]) Gwr.out (fun k e=>by obtain rfl:=Option.some.inj e;exact List.mem_cons_self))) (fun x c=>by have:=List.mem_singleton.1 c;have:=S1.out;have:=Bw1.out.size;have:=Bw2.out.size;have:=Bw3.out.size;have:=Bw4.out.size;have:=BV.out.size;have:=Bw5.out.size;have:=BW.out.size;omega));have J4:=zh (I4.out.stay (lo':=U.heap.size) (by have:=Bw1.out.size;have:=Bw2.out.size;have:=Bw3.out.size;have:=Bw4.out.size;have:=BV.out.size;have:=Bw5.out.size;have:=BW.out.size;omega) ((WrB.of_below (Below.more (Below.more BV.out Bw5.out) BW.out) _).trans (WrB.of_grown (Xs:=[w4.heap.size]) Gwr.out (fun k e=>by obtain rfl:=Option.some.inj e;exact List.mem_cons_self))) (fun x c=>by have:=List.mem_singleton.1 c;have:=S1.out;have:=Bw1.out.size;have:=Bw2.out.size;have:=Bw3.out.size;have:=Bw4.out.size;have:=BV.out.size;have:=Bw5.out.size;have:=BW.out.size;omega))
 have J5:=zh (I5.out.stay (lo':=U.heap.size) (by have:=Bw1.out.size;have:=Bw2.out.size;have:=Bw3.out.size;have:=Bw4.out.size;have:=BV.out.size;have:=Bw5.out.size;have:=BW.out.size;omega) ((WrB.of_below BW.out _).trans (WrB.of_grown (Xs:=[w4.heap.size]) Gwr.out (fun k e=>by obtain rfl:=Option.some.inj e;exact List.mem_cons_self))) (fun x c=>by have:=List.mem_singleton.1 c;have:=S1.out;have:=Bw1.out.size;have:=Bw2.out.size;have:=Bw3.out.size;have:=Bw4.out.size;have:=BV.out.size;have:=Bw5.out.size;have:=BW.out.size;omega));obtain⟨q3,cq3,rfl,hc3,hr3,hb3⟩:=ownG_rows (enc:=encG) (k:=1) (fun _=>rfl) O2.out;obtain⟨Lf,hLf⟩:∃Lf:List Fv,Lf=L1++[(72,#[.pointer (some ⟨V.heap.size,0,none⟩)])]:=⟨_,rfl⟩;rw[←hLf]at hr3 ⊢;have hlf:Lf.length=5:=by rw[hLf,List.length_append,HS1.out];rfl
 have hM:∀ (i:Nat) (M:Value) (f:Ms Px),(Lf.map fvV)[i]?=some M→(pxL op)[i]?=some f→IsM (pxI op w.heap.size) [w.heap.size] f M U.heap.size wr:=by
  intro i M f hM hf;rw[hLf]at hM;rw[HL1.out]at hM;rw[show pxL op=[sgF 40,nmF,sgF 44,dyF,sgF 41] from if_pos (by have:=HOP.out;omega)]at hf
  match i,hM,hf with
  | 0,hM,hf =>
   obtain rfl:=Option.some.inj hM;obtain rfl:=Option.some.inj hf;exact J1.out
  | 1,hM,hf =>
   obtain rfl:=Option.some.inj hM;obtain rfl:=Option.some.inj hf;exact J2.out
  | 2,hM,hf =>
   obtain rfl:=Option.some.inj hM;obtain rfl:=Option.some.inj hf;exact J3.out
  | 3,hM,hf =>
   obtain rfl:=Option.some.inj hM;obtain rfl:=Option.some.inj hf;exact J4.out
  | 4,hM,hf =>
   obtain rfl:=Option.some.inj hM;obtain rfl:=Option.some.inj hf;exact J5.out
  | n+5,hM,_=>exact absurd hM (by simp)
 have hTR:R≠w.heap.size:=Nat.ne_of_lt HRw.out;have hRX:=HH.out.below BR.out;have hEX:=HE.out.below ((HU.out.mono (Nat.le_of_lt HRw.out)).trans (BR.out.mono (by have:=HsU.out;have:=HRw.out;omega)));have CR:=zh (prow_any (pxL op) (Lf.map fvV) wr (pxTg op w.heap.size) (by rw[List.length_map,hlf];exact(congrArg List.length (show pxL op=_ from if_pos (by have:=HOP.out;omega))).symm) hM q3 cq3 (rows_map hr3) hb3 (fun T c=>by have:=List.mem_singleton.1 c;have:=HsU.out;omega) (by have:=HsU.out;have:=HRw.out;omega) (by rw[List.length_map,hlf];decide) ([],0,0) k l hEX.good (fun V hV=>hEX.gr V (hV.below (fun x c=>by
   rcases List.mem_cons.1 c with c|c
   ·omega
   ·have:=List.mem_singleton.1 c;have:=HRw.out;omega) (Nat.le_of_lt hRX.blk.lt))) ⟨HT.out.below BR.out,Int.le_refl _,by decide⟩ hEX.tk (fun a e c=>by
   have:=hEX.low a e;rcases List.mem_cons.1 c with c|c
   ·omega
   ·have:=List.mem_singleton.1 c;have:=HRw.out;omega) (fun c=>hTR (List.mem_singleton.1 c)) hRX.blk hEX.ok HK.out)
 rw[List.length_map]at CR;have HRX:=zh hRX;clear hr3 hc3 hb3 hM hRX hEX hLf hlf;go_wp2_with fail;refine CR.out.mono ?_;rintro r wz ⟨b,s',k',hF,rfl,hk',hI',hbk,hwz⟩;have h9:=HRX.out.cellT hbk hwz (fun x c=>by have:=List.mem_singleton.1 c;subst this;exact List.mem_cons_self);have hkp:Kept R Z w wz:=by
  have q1:Kept R Z w wr:=Kept.of_below (Below.more HU.out BR.out) HZ.out (Nat.le_of_lt HRw.out);exact q1.trans (Kept.wr hwz (fun x c=>by
   rcases List.mem_cons.1 c with c|c
   ·subst c;exact⟨Nat.le_refl _,fun hz=>HRX.out.rz (List.mem_cons_of_mem _ hz)⟩
   ·have e:=List.mem_singleton.1 c;exact⟨by have:=HRw.out;omega,fun hz=>by have:=HZ.out x hz;omega⟩) (fun z hz=>Nat.lt_of_lt_of_le (HZ.out z hz) (Nat.le_trans HU.out.size BR.out.size)) (Nat.le_of_lt HRX.out.blk.lt))
 have hpr:priceR op (rsK l k) t=pxO op t (b,s',rsK l k'):=by rw[Pz.price_row op _ t (rsK_ok (fun t ht=>(HE.out.ok.2 t ht).1) k),hF]
 have H9:=zh h9;have HKp:=zh hkp;have HPR:=zh hpr;have HK9:=zh hk'
 have HBT:=zh hI'.1;clear h9 hkp hpr hF hbk hwz CR HRX hk'
 cases b with
 | false =>
  clear hI';go_wp2_with fail;go_ret;exact .inr ⟨k',wv,ov,HPR.out,HK9.out,rfl,H9.out.less (fun z hz=>List.mem_cons_of_mem _ hz),HKp.out⟩
 | true =>
  have c0:=HBT.out.c 0 _ rfl;have c1:=HBT.out.c 1 _ rfl;have c2:=HBT.out.c 2 _ rfl;have c3:=HBT.out.c 3 _ rfl;have c4:=HBT.out.c 4 _ rfl;have c5:=HBT.out.c 5 _ rfl;have CL:=zh (play_any (Nd.mk op ([],[]) s'.1 s'.2.1 s'.2.2) H9.out HTl.out);clear hI';go_wp2_with fail;refine CL.out.mono ?_;rintro r wf ⟨ov',rfl,hf1,hf2⟩;have HF1:=zh hf1;have HF2:=zh hf2
  clear hf1 hf2 CL c0 c1 c2 c3 c4 c5;go_wp2_with fail;go_ret;exact .inl ⟨k',_,wv,ov',HPR.out,HK9.out,rfl,HF1.out.less (fun z hz=>List.mem_cons_of_mem _ hz),HKp.out.trans ⟨HF2.out.b,fun z hz=>HF2.out.z z (List.mem_cons_of_mem _ hz)⟩⟩
theorem pleaf_av(h:RdS R Z p c mv l k d K t wv ov w)(E:PEn R p l w)(hk:k≤l.length)(ht:t.length≤2000000)(op:Int)(hop:2≤op) :
  Calls Tryz.prog 44 #[.pointer (some ⟨R,0,none⟩),.int .i64 op] w (LeafG R Z p c mv l d K t w (priceR op (rsK l k) t)):=by
 obtain⟨U,hU0,bU,sU,kU⟩:=ndbox (Nd.mk op ([],[]) [] 0 0) w;have HH:=zh (h.alloc (.cells #[.int .i64 op,.string ⟨#[]⟩,.string ⟨#[]⟩,.string ⟨#[]⟩,.int .i64 0,.int .i64 0] 40));have hU:w.alloc (.cells #[.int .i64 op,.string ⟨#[]⟩,.string ⟨#[]⟩,.string ⟨#[]⟩,.int .i64 0,.int .i64 0] 40)=U:=hU0;rw[hU]at HH;have HU:=zh bU;have HsU:=zh sU;have HT:=zh (show Blk w.heap.size (pxC op ([],0,0)) U from kU);have HE:=zh E;have HZ:=zh h.zlt;have HRw:=zh h.blk.lt;have HK:=zh hk;have HTl:=zh ht;have h0:(op==0)=false:=beq_false_of_ne (by omega);have h1:(op==1)=false:=beq_false_of_ne (by omega);have HOP:=zh hop;have HhU:=zh hU;clear h E bU sU kU hop hU hU0 hk ht;go_enter Tryz.func44,Tryz.ntmps44;go_wp2_with fail;rw[HhU.out];refine(ksign_any ⟨#[40]⟩ _).mono ?_;rintro r w1 ⟨rfl,hw⟩;have I1:=zh (sign_is (pxTg op w.heap.size) 40 U);rw[←hw]at I1;have bb:Below U.heap.size U w1:=by rw[hw];exact Below.alloc (Below.refl _ _) (Nat.le_refl _) _
 have Bw1:=zh bb;clear hw bb;go_wp2_with fail;refine(kname_any _ _).mono ?_;rintro r w2 ⟨rfl,hw⟩;have I2:=zh (name_is op w.heap.size w1 (by have:=HsU.out;have:=Bw1.out.size;omega));rw[←hw]at I2;have bb:Below w1.heap.size w1 w2:=by rw[hw];exact Below.alloc (Below.refl _ _) (Nat.le_refl _) _
 have Bw2:=zh bb;clear hw bb;go_wp2_with fail;refine(ksign_any ⟨#[44]⟩ _).mono ?_;rintro r w3 ⟨rfl,hw⟩;have I3:=zh (sign_is (pxTg op w.heap.size) 44 w2);rw[←hw]at I3;have bb:Below w2.heap.size w2 w3:=by rw[hw];exact Below.alloc (Below.refl _ _) (Nat.le_refl _) _
 have Bw3:=zh bb;clear hw bb;go_wp2_with fail;refine(kday_any _ _).mono ?_;rintro r w4 ⟨rfl,hw⟩;have I4:=zh (day_is op w.heap.size w3 (by have:=HsU.out;have:=Bw1.out.size;have:=Bw2.out.size;have:=Bw3.out.size;omega));rw[←hw]at I4;have bb:Below w3.heap.size w3 w4:=by rw[hw];exact Below.alloc (Below.refl _ _) (Nat.le_refl _) _
 have Bw4:=zh bb;clear hw bb;obtain⟨L1,hL1⟩:∃L1:List Fv,L1=[(72,#[.pointer (some ⟨U.heap.size,0,none⟩)]),(113,#[.pointer (some ⟨w1.heap.size,0,none⟩)]),(72,#[.pointer (some ⟨w2.heap.size,0,none⟩)]),(114,#[.pointer (some ⟨w3.heap.size,0,none⟩)])]:=⟨_,rfl⟩;obtain⟨V,hV⟩:∃V,w4.alloc (.cells #[fvV (72,#[.pointer (some ⟨U.heap.size,0,none⟩)]),fvV (113,#[.pointer (some ⟨w1.heap.size,0,none⟩)]),fvV (72,#[.pointer (some ⟨w2.heap.size,0,none⟩)]),fvV (114,#[.pointer (some ⟨w3.heap.size,0,none⟩)])] 79)=V:=⟨_,rfl⟩;have hV':=hV;simp only[fvV]at hV;have bb:Below w4.heap.size w4 V:=by rw[←hV'];exact Below.alloc (Below.refl _ _) (Nat.le_refl _) _
 have BV:=zh bb;have O1:=zh (ownLit (enc:=encG) (kk:=1) (e:=79) (B:=U.heap.size) (fun _=>rfl) w4 (by have:=Bw1.out.size;have:=Bw2.out.size;have:=Bw3.out.size;have:=Bw4.out.size;omega) L1 #[fvV (72,#[.pointer (some ⟨U.heap.size,0,none⟩)]),fvV (113,#[.pointer (some ⟨w1.heap.size,0,none⟩)]),fvV (72,#[.pointer (some ⟨w2.heap.size,0,none⟩)]),fvV (114,#[.pointer (some ⟨w3.heap.size,0,none⟩)])] (by rw[hL1];rfl) (by rw[hL1];exact(by decide:4≤1000)));rw[hV']at O1;have s1:L1.length=4:=by rw[hL1];rfl
 have s1':w4.heap.size<V.heap.size:=by rw[←hV'];simp
 have S1:=zh s1';rw[s1]at O1;have HL1:=zh hL1;have HS1:=zh s1;clear hV' bb s1 hL1 s1';go_wp2_with fail;refine(ksign_any ⟨#[44]⟩ _).mono ?_;rintro r w5 ⟨rfl,hw⟩;have I5:=zh (sign_is (pxTg op w.heap.size) 44 V);rw[←hw]at I5;have bb:Below V.heap.size V w5:=by rw[hw];exact Below.alloc (Below.refl _ _) (Nat.le_refl _) _
 have Bw5:=zh bb;clear hw bb;go_wp2_with fail;refine(kfrom_any _ _ _).mono ?_;rintro r w6 ⟨rfl,bb,s0,c1,c2,c3,c4⟩;have I6:=zh (from_is op w.heap.size (w:=w5) (w':=w6) (by have:=HsU.out;have:=Bw1.out.size;have:=Bw2.out.size;have:=Bw3.out.size;have:=Bw4.out.size;have:=BV.out.size;have:=Bw5.out.size;omega) s0 c1 c2 c3 c4);have Bw6:=zh bb;clear bb s0 c1 c2 c3 c4;obtain⟨V2,hV2⟩:∃V2,w6.alloc (.cells #[fvV (72,#[.pointer (some ⟨V.heap.size,0,none⟩)]),fvV (116,#[.pointer (some ⟨w5.heap.size+1+1+1,0,none⟩),.pointer (some ⟨w5.heap.size,0,none⟩),.pointer (some ⟨w5.heap.size+1,0,none⟩)])] 79)=V2:=⟨_,rfl⟩;have hR:=rowsLit (enc:=encG) (k:=1) (fun _=>rfl) w6 [(72,#[.pointer (some ⟨V.heap.size,0,none⟩)]),(116,#[.pointer (some ⟨w5.heap.size+1+1+1,0,none⟩),.pointer (some ⟨w5.heap.size,0,none⟩),.pointer (some ⟨w5.heap.size+1,0,none⟩)])] #[fvV (72,#[.pointer (some ⟨V.heap.size,0,none⟩)]),fvV (116,#[.pointer (some ⟨w5.heap.size+1+1+1,0,none⟩),.pointer (some ⟨w5.heap.size,0,none⟩),.pointer (some ⟨w5.heap.size+1,0,none⟩)])] 79 rfl;rw[hV2]at hR;have HRow:=zh hR;have bb:Below w6.heap.size w6 V2:=by rw[←hV2];exact Below.alloc (Below.refl _ _) (Nat.le_refl _) _
 have BV2:=zh bb;have hs:w6.heap.size<V2.heap.size:=by rw[←hV2];simp
 have SV2:=zh hs;simp only[fvV]at hV2;clear hR bb hs;go_wp2_with (at_builtin;refine haltG ?_);show wpList _ _ _ _ _ _;refine wpList_append_M rfl _ _ 114 79 rfl Tryz.underlying114 fvInfo rfl (by decide) (by decide) (fun _=>rfl) encG_one U.heap.size (.slice (some ⟨w4.heap.size,0,none⟩) 4 4) L1 rfl (O1.out.wr (WrB.of_below (Below.more (Below.more Bw5.out Bw6.out) BV2.out) []) (fun _ _ c=>by cases c)) (some ⟨w6.heap.size,0,none⟩) [(72,#[.pointer (some ⟨V.heap.size,0,none⟩)]),(116,#[.pointer (some ⟨w5.heap.size+1+1+1,0,none⟩),.pointer (some ⟨w5.heap.size,0,none⟩),.pointer (some ⟨w5.heap.size+1,0,none⟩)])] 2 rfl HRow.out (by have:=HS1.out;omega) (show 2≤3000000 by decide) (by have:=Bw1.out.size;have:=Bw2.out.size;have:=Bw3.out.size;have:=Bw4.out.size;have:=BV.out.size;have:=Bw5.out.size;have:=Bw6.out.size;have:=SV2.out;omega) ?_;intro v2 w7 ho hg hl;have O2:=zh ho;have Gw7:=zh hg;have OL2:=zh hl;clear ho hg hl;obtain⟨q2,cq2,rfl,hc2,_,hb2⟩:=ownG_rows (enc:=encG) (k:=1) (fun _=>rfl) O2.out;obtain⟨L2,hL2⟩:∃L2:List Fv,L2=L1++[(72,#[.pointer (some ⟨V.heap.size,0,none⟩)]),(116,#[.pointer (some ⟨w5.heap.size+1+1+1,0,none⟩),.pointer (some ⟨w5.heap.size,0,none⟩),.pointer (some ⟨w5.heap.size+1,0,none⟩)])]:=⟨_,rfl⟩;rw[←hL2]at O2;have hs2:L2.length=6:=by rw[hL2,List.length_append,HS1.out];rfl
 have HL2:=zh hL2;have HS2:=zh hs2;have BY:=zh (show Below U.heap.size U w7 from (WrB.of_grown (Xs:=[w4.heap.size]) Gw7.out (fun k e=>by obtain rfl:=Option.some.inj e;exact List.mem_cons_self)).below (fun x c=>by have:=List.mem_singleton.1 c;have:=Bw1.out.size;have:=Bw2.out.size;have:=Bw3.out.size;have:=Bw4.out.size;omega) (by have:=Bw1.out.size;have:=Bw2.out.size;have:=Bw3.out.size;have:=Bw4.out.size;have:=BV.out.size;have:=Bw5.out.size;have:=Bw6.out.size;have:=BV2.out.size;omega) |> fun hh=>(Below.more (Below.more (Below.more (Below.more (Below.more (Below.more (Below.more Bw1.out Bw2.out) Bw3.out) Bw4.out) BV.out) Bw5.out) Bw6.out) BV2.out).trans hh);rw[show (L1++[(72,#[.pointer (some ⟨V.heap.size,0,none⟩)]),(116,#[.pointer (some ⟨w5.heap.size+1+1+1,0,none⟩),.pointer (some ⟨w5.heap.size,0,none⟩),.pointer (some ⟨w5.heap.size+1,0,none⟩)])]:List Fv).length=L2.length from (congrArg List.length hL2).symm];clear hc2 hb2 hL2 hs2;go_wp2_with fail;refine(ksign_any ⟨#[41]⟩ _).mono ?_;rintro r w8 ⟨rfl,hw⟩;have I7:=zh (sign_is (pxTg op w.heap.size) 41 w7);rw[←hw]at I7;have bb:Below w7.heap.size w7 w8:=by rw[hw];exact Below.alloc (Below.refl _ _) (Nat.le_refl _) _
 have Bw8:=zh bb;clear hw bb;obtain⟨W,hW⟩:∃W,w8.alloc (.cells #[fvV (72,#[.pointer (some ⟨w7.heap.size,0,none⟩)])] 79)=W:=⟨_,rfl⟩;have hR:=rowsLit (enc:=encG) (k:=1) (fun _=>rfl) w8 [(72,#[.pointer (some ⟨w7.heap.size,0,none⟩)])] #[fvV (72,#[.pointer (some ⟨w7.heap.size,0,none⟩)])] 79 rfl;rw[hW]at hR;have HRow:=zh hR;have bb:Below w8.heap.size w8 W:=by rw[←hW];exact Below.alloc (Below.refl _ _) (Nat.le_refl _) _
 have BW:=zh bb;have hs:w8.heap.size<W.heap.size:=by rw[←hW];simp
 have SW:=zh hs;simp only[fvV]at hW;clear hR bb hs;go_wp2_with (at_builtin;refine haltG ?_);show wpList _ _ _ _ _ _;refine wpList_append_M rfl _ _ 114 79 rfl Tryz.underlying114 fvInfo rfl (by decide) (by decide) (fun _=>rfl) encG_one U.heap.size (.slice q2 L2.length cq2) L2 rfl (O2.out.wr (WrB.of_below (Below.more Bw8.out BW.out) []) (fun _ _ c=>by cases c)) (some ⟨w8.heap.size,0,none⟩) [(72,#[.pointer (some ⟨w7.heap.size,0,none⟩)])] 1 rfl HRow.out (by have:=HS2.out;omega) (show 1≤3000000 by decide) (by have:=BY.out.size;have:=Bw8.out.size;have:=SW.out;omega) ?_;intro v3 wr ho hg hl;have O3:=zh ho;have Gwr:=zh hg;have OL3:=zh hl;clear ho hg hl;have hq2:(Value.slice q2 L2.length cq2).ownBlock=some w4.heap.size∨(Value.slice q2 L2.length cq2).ownBlock=some V2.heap.size:=by rw[own_n q2 L2.length (L1++[(72,#[.pointer (some ⟨V.heap.size,0,none⟩)]),(116,#[.pointer (some ⟨w5.heap.size+1+1+1,0,none⟩),.pointer (some ⟨w5.heap.size,0,none⟩),.pointer (some ⟨w5.heap.size+1,0,none⟩)])]:List Fv).length cq2];exact OL2.out
 have HX2:Hid (∀x∈(Value.slice q2 L2.length cq2).ownBlock.toList,x=w4.heap.size∨x=V2.heap.size):=zh (fun x c=>by
  have e:=mem_row c;rcases hq2 with q|q
  ·rw[q]at e;exact .inl (Option.some.inj e).symm
  ·rw[q]at e;exact .inr (Option.some.inj e).symm)
 clear hq2;have BR:=zh (show Below U.heap.size U wr from (Below.more (Below.more BY.out Bw8.out) BW.out).trans ((WrB.of_grown (Xs:=(Value.slice q2 L2.length cq2).ownBlock.toList) Gwr.out (fun k e=>by rw[e];simp)).below (fun x c=>(own_lt O2.out x (mem_row c)).1) (by have:=BY.out.size;have:=Bw8.out.size;have:=BW.out.size;omega)));have J1:=zh (I1.out.stay (lo':=U.heap.size) (by have:=Bw1.out.size;have:=Bw2.out.size;have:=Bw3.out.size;have:=Bw4.out.size;have:=BV.out.size;have:=Bw5.out.size;have:=Bw6.out.size;have:=BV2.out.size;omega) (((WrB.of_below (Below.more (Below.more (Below.more (Below.more (Below.more (Below.more Bw2.out Bw3.out) Bw4.out) BV.out) Bw5.out) Bw6.out) BV2.out) (w4.heap.size::(Value.slice q2 L2.length cq2).ownBlock.toList)).trans (WrB.of_grown Gw7.out (fun k e=>by obtain rfl:=Option.some.inj e;exact List.mem_cons_self))).trans ((WrB.of_below (Below.more Bw8.out BW.out) _).trans (WrB.of_grown Gwr.out (fun k e=>by rw[e];simp)))) (fun x c=>by
  have hx:x=w4.heap.size∨x=V2.heap.size:=by
   rcases List.mem_cons.1 c with c|c
   ·exact .inl c
   ·exact HX2.out x c
  have:=S1.out;have:=Bw1.out.size;have:=Bw2.out.size;have:=Bw3.out.size;have:=Bw4.out.size;have:=BV.out.size;have:=Bw5.out.size;have:=Bw6.out.size;have:=BV2.out.size;omega))
 have J2:=zh (I2.out.stay (lo':=U.heap.size) (by have:=Bw1.out.size;have:=Bw2.out.size;have:=Bw3.out.size;have:=Bw4.out.size;have:=BV.out.size;have:=Bw5.out.size;have:=Bw6.out.size;have:=BV2.out.size;omega) (((WrB.of_below (Below.more (Below.more (Below.more (Below.more (Below.more Bw3.out Bw4.out) BV.out) Bw5.out) Bw6.out) BV2.out) (w4.heap.size::(Value.slice q2 L2.length cq2).ownBlock.toList)).trans (WrB.of_grown Gw7.out (fun k e=>by obtain rfl:=Option.some.inj e;exact List.mem_cons_self))).trans ((WrB.of_below (Below.more Bw8.out BW.out) _).trans (WrB.of_grown Gwr.out (fun k e=>by rw[e];simp)))) (fun x c=>by
  have hx:x=w4.heap.size∨x=V2.heap.size:=by
   rcases List.mem_cons.1 c with c|c
   ·exact .inl c
   ·exact HX2.out x c
  have:=S1.out;have:=Bw1.out.size;have:=Bw2.out.size;have:=Bw3.out.size;have:=Bw4.out.size;have:=BV.out.size;have:=Bw5.out.size;have:=Bw6.out.size;have:=BV2.out.size;omega))
 have J3:=zh (I3.out.stay (lo':=U.heap.size) (by have:=Bw1.out.size;have:=Bw2.out.size;have:=Bw3.out.size;have:=Bw4.out.size;have:=BV.out.size;have:=Bw5.out.size;have:=Bw6.out.size;have:=BV2.out.size;omega) (((WrB.of_below (Below.more (Below.more (Below.more (Below.more Bw4.out BV.out) Bw5.out) Bw6.out) BV2.out) (w4.heap.size::(Value.slice q2 L2.length cq2).ownBlock.toList)).trans (WrB.of_grown Gw7.out (fun k e=>by obtain rfl:=Option.some.inj e;exact List.mem_cons_self))).trans ((WrB.of_below (Below.more Bw8.out BW.out) _).trans (WrB.of_grown Gwr.out (fun k e=>by rw[e];simp)))) (fun x c=>by
  have hx:x=w4.heap.size∨x=V2.heap.size:=by
   rcases List.mem_cons.1 c with c|c
   ·exact .inl c
   ·exact HX2.out x c
  have:=S1.out;have:=Bw1.out.size;have:=Bw2.out.size;have:=Bw3.out.size;have:=Bw4.out.size;have:=BV.out.size;have:=Bw5.out.size;have:=Bw6.out.size;have:=BV2.out.size;omega))
 have J4:=zh (I4.out.stay (lo':=U.heap.size) (by have:=Bw1.out.size;have:=Bw2.out.size;have:=Bw3.out.size;have:=Bw4.out.size;have:=BV.out.size;have:=Bw5.out.size;have:=Bw6.out.size;have:=BV2.out.size;omega) (((WrB.of_below (Below.more (Below.more (Below.more BV.out Bw5.out) Bw6.out) BV2.out) (w4.heap.size::(Value.slice q2 L2.length cq2).ownBlock.toList)).trans (WrB.of_grown Gw7.out (fun k e=>by obtain rfl:=Option.some.inj e;exact List.mem_cons_self))).trans ((WrB.of_below (Below.more Bw8.out BW.out) _).trans (WrB.of_grown Gwr.out (fun k e=>by rw[e];simp)))) (fun x c=>by
  have hx:x=w4.heap.size∨x=V2.heap.size:=by
   rcases List.mem_cons.1 c with c|c
   ·exact .inl c
   ·exact HX2.out x c
  have:=S1.out;have:=Bw1.out.size;have:=Bw2.out.size;have:=Bw3.out.size;have:=Bw4.out.size;have:=BV.out.size;have:=Bw5.out.size;have:=Bw6.out.size;have:=BV2.out.size;omega))
 have J5:=zh (I5.out.stay (lo':=U.heap.size) (by have:=Bw1.out.size;have:=Bw2.out.size;have:=Bw3.out.size;have:=Bw4.out.size;have:=BV.out.size;have:=Bw5.out.size;have:=Bw6.out.size;have:=BV2.out.size;omega) (((WrB.of_below (Below.more Bw6.out BV2.out) (w4.heap.size::(Value.slice q2 L2.length cq2).ownBlock.toList)).trans (WrB.of_grown Gw7.out (fun k e=>by obtain rfl:=Option.some.inj e;exact List.mem_cons_self))).trans ((WrB.of_below (Below.more Bw8.out BW.out) _).trans (WrB.of_grown Gwr.out (fun k e=>by rw[e];simp)))) (fun x c=>by
  have hx:x=w4.heap.size∨x=V2.heap.size:=by
   rcases List.mem_cons.1 c with c|c
   ·exact .inl c
   ·exact HX2.out x c
  have:=S1.out;have:=Bw1.out.size;have:=Bw2.out.size;have:=Bw3.out.size;have:=Bw4.out.size;have:=BV.out.size;have:=Bw5.out.size;have:=Bw6.out.size;have:=BV2.out.size;omega))
 have J6:=zh (I6.out.stay (lo':=U.heap.size) (by have:=Bw1.out.size;have:=Bw2.out.size;have:=Bw3.out.size;have:=Bw4.out.size;have:=BV.out.size;have:=Bw5.out.size;have:=Bw6.out.size;have:=BV2.out.size;omega) (((WrB.of_below BV2.out (w4.heap.size::(Value.slice q2 L2.length cq2).ownBlock.toList)).trans (WrB.of_grown Gw7.out (fun k e=>by obtain rfl:=Option.some.inj e;exact List.mem_cons_self))).trans ((WrB.of_below (Below.more Bw8.out BW.out) _).trans (WrB.of_grown Gwr.out (fun k e=>by rw[e];simp)))) (fun x c=>by
  have hx:x=w4.heap.size∨x=V2.heap.size:=by
   rcases List.mem_cons.1 c with c|c
   ·exact .inl c
   ·exact HX2.out x c
  have:=S1.out;have:=Bw1.out.size;have:=Bw2.out.size;have:=Bw3.out.size;have:=Bw4.out.size;have:=BV.out.size;have:=Bw5.out.size;have:=Bw6.out.size;have:=BV2.out.size;omega))
 have J7:=zh (I7.out.stay (lo':=U.heap.size) (by have:=BY.out.size;omega) ((WrB.of_below BW.out _).trans (WrB.of_grown (Xs:=(Value.slice q2 L2.length cq2).ownBlock.toList) Gwr.out (fun k e=>by rw[e];simp))) (fun x c=>by have hlt:=(own_lt O2.out x (mem_row c)).2;exact .inl hlt));obtain⟨q3,cq3,rfl,hc3,hr3,hb3⟩:=ownG_rows (enc:=encG) (k:=1) (fun _=>rfl) O3.out;obtain⟨Lf,hLf⟩:∃Lf:List Fv,Lf=L2++[(72,#[.pointer (some ⟨w7.heap.size,0,none⟩)])]:=⟨_,rfl⟩;rw[←hLf]at hr3 ⊢;have hlf:Lf.length=7:=by rw[hLf,List.length_append,HS2.out];rfl
 have hM:∀ (i:Nat) (M:Value) (f:Ms Px),(Lf.map fvV)[i]?=some M→(pxL op)[i]?=some f→IsM (pxI op w.heap.size) [w.heap.size] f M U.heap.size wr:=by
  intro i M f hM hf;rw[hLf]at hM;rw[HL2.out,HL1.out]at hM;rw[show pxL op=[sgF 40,nmF,sgF 44,dyF,sgF 44,frF,sgF 41] from if_neg (by have:=HOP.out;omega)]at hf
  match i,hM,hf with
  | 0,hM,hf =>
   obtain rfl:=Option.some.inj hM;obtain rfl:=Option.some.inj hf;exact J1.out
  | 1,hM,hf =>
   obtain rfl:=Option.some.inj hM;obtain rfl:=Option.some.inj hf;exact J2.out
  | 2,hM,hf =>
   obtain rfl:=Option.some.inj hM;obtain rfl:=Option.some.inj hf;exact J3.out
  | 3,hM,hf =>
   obtain rfl:=Option.some.inj hM;obtain rfl:=Option.some.inj hf;exact J4.out
  | 4,hM,hf =>
   obtain rfl:=Option.some.inj hM;obtain rfl:=Option.some.inj hf;exact J5.out
  | 5,hM,hf =>
   obtain rfl:=Option.some.inj hM;obtain rfl:=Option.some.inj hf;exact J6.out
  | 6,hM,hf =>
   obtain rfl:=Option.some.inj hM;obtain rfl:=Option.some.inj hf;exact J7.out
  | n+7,hM,_=>exact absurd hM (by simp)
 have hTR:R≠w.heap.size:=Nat.ne_of_lt HRw.out;have hRX:=HH.out.below BR.out;have hEX:=HE.out.below ((HU.out.mono (Nat.le_of_lt HRw.out)).trans (BR.out.mono (by have:=HsU.out;have:=HRw.out;omega)));have CR:=zh (prow_any (pxL op) (Lf.map fvV) wr (pxTg op w.heap.size) (by rw[List.length_map,hlf];exact(congrArg List.length (show pxL op=_ from if_neg (by have:=HOP.out;omega))).symm) hM q3 cq3 (rows_map hr3) hb3 (fun T c=>by have:=List.mem_singleton.1 c;have:=HsU.out;omega) (by have:=HsU.out;have:=HRw.out;omega) (by rw[List.length_map,hlf];decide) ([],0,0) k l hEX.good (fun V hV=>hEX.gr V (hV.below (fun x c=>by
   rcases List.mem_cons.1 c with c|c
   ·omega
   ·have:=List.mem_singleton.1 c;have:=HRw.out;omega) (Nat.le_of_lt hRX.blk.lt))) ⟨HT.out.below BR.out,Int.le_refl _,by decide⟩ hEX.tk (fun a e c=>by
   have:=hEX.low a e;rcases List.mem_cons.1 c with c|c
   ·omega
   ·have:=List.mem_singleton.1 c;have:=HRw.out;omega) (fun c=>hTR (List.mem_singleton.1 c)) hRX.blk hEX.ok HK.out)
 rw[List.length_map]at CR;have HRX:=zh hRX;clear hr3 hc3 hb3 hM hRX hEX hLf hlf;go_wp2_with fail;refine CR.out.mono ?_;rintro r wz ⟨b,s',k',hF,rfl,hk',hI',hbk,hwz⟩;have h9:=HRX.out.cellT hbk hwz (fun x c=>by have:=List.mem_singleton.1 c;subst this;exact List.mem_cons_self);have hkp:Kept R Z w wz:=by
  have q1:Kept R Z w wr:=Kept.of_below (Below.more HU.out BR.out) HZ.out (Nat.le_of_lt HRw.out);exact q1.trans (Kept.wr hwz (fun x c=>by
   rcases List.mem_cons.1 c with c|c
   ·subst c;exact⟨Nat.le_refl _,fun hz=>HRX.out.rz (List.mem_cons_of_mem _ hz)⟩
   ·have e:=List.mem_singleton.1 c;exact⟨by have:=HRw.out;omega,fun hz=>by have:=HZ.out x hz;omega⟩) (fun z hz=>Nat.lt_of_lt_of_le (HZ.out z hz) (Nat.le_trans HU.out.size BR.out.size)) (Nat.le_of_lt HRX.out.blk.lt))
 have hpr:priceR op (rsK l k) t=pxO op t (b,s',rsK l k'):=by rw[Pz.price_row op _ t (rsK_ok (fun t ht=>(HE.out.ok.2 t ht).1) k),hF]
 have H9:=zh h9;have HKp:=zh hkp;have HPR:=zh hpr;have HK9:=zh hk'
 have HBT:=zh hI'.1;clear h9 hkp hpr hF hbk hwz CR HRX hk'
 cases b with
 | false =>
  clear hI';go_wp2_with fail;go_ret;exact .inr ⟨k',wv,ov,HPR.out,HK9.out,rfl,H9.out.less (fun z hz=>List.mem_cons_of_mem _ hz),HKp.out⟩
 | true =>
  have c0:=HBT.out.c 0 _ rfl;have c1:=HBT.out.c 1 _ rfl;have c2:=HBT.out.c 2 _ rfl;have c3:=HBT.out.c 3 _ rfl;have c4:=HBT.out.c 4 _ rfl;have c5:=HBT.out.c 5 _ rfl;have CL:=zh (play_any (Nd.mk op ([],[]) s'.1 s'.2.1 s'.2.2) H9.out HTl.out);clear hI';go_wp2_with fail;refine CL.out.mono ?_;rintro r wf ⟨ov',rfl,hf1,hf2⟩;have HF1:=zh hf1;have HF2:=zh hf2
  clear hf1 hf2 CL c0 c1 c2 c3 c4 c5;go_wp2_with fail;go_ret;exact .inl ⟨k',_,wv,ov',HPR.out,HK9.out,rfl,HF1.out.less (fun z hz=>List.mem_cons_of_mem _ hz),HKp.out.trans ⟨HF2.out.b,fun z hz=>HF2.out.z z (List.mem_cons_of_mem _ hz)⟩⟩
end Go.Proofs.YtmllklfjngapiaaGreatDoor
