/- Own work. -/
import Derived.Test.YtmllklfjngapiaaGreatDoorAllPaDM
set_option linter.unusedSimpArgs false
set_option linter.unusedVariables false
set_option maxHeartbeats 4000000
set_option maxRecDepth 100000
namespace Go.Proofs.YtmllklfjngapiaaGreatDoor
open Go.RowKit
open Wd (Tk okT ktT)
open Tm (Nd plainN arI arN)
open Pz (Wt tgt settleF)
def encW(x:Wt):List Value:=[.int .i64 x.1,.int .i64 (x.2:Int)]
theorem encW_one(x:Wt):∀v∈encW x,v.oneCell'=true:=fun v hv=>by
 unfold encW at hv;simp only[List.mem_cons,List.not_mem_nil,or_false]at hv;rcases hv with rfl|rfl<;>rfl
theorem wtInfo:(Tryz.prog.info? 108).map (fun i=>(i.zero,i.size,i.bytes))=some (some (.agg #[.int .i64 0,.int .i64 0]),2,16):=by kernel_rfl
structure RdS(R:Nat)(Z:List Nat)(p:Option Addr)(c:Nat)(mv:Value)(l:List Tk)(k d:Nat)(K:List Wt)(t:List Nd)(wv ov:Value)(w:World):Prop where
 blk:Blk R (rdC p l.length c (k:Int) mv wv (d:Int) ov) w
 own1:OwnG encW 2 108 (R+1) w wv K.reverse
 own2:OwnG encD 6 40 (R+1) w ov t
 sep:∀g,wv.ownBlock=some g→ov.ownBlock≠some g∧g∉Z
 sep2:∀g,ov.ownBlock=some g→g∉Z
 zlt:∀z∈Z,z<w.heap.size
 rz:R∉Z
structure Kept(R:Nat)(Z:List Nat)(w w':World):Prop where
 b:Below R w w'
 z:∀z∈Z,w'.heap[z]?=w.heap[z]?
theorem Kept.refl(R:Nat)(Z:List Nat)(w:World):Kept R Z w w:=⟨Below.refl _ _,fun _ _=>rfl⟩
theorem Kept.trans{R:Nat}{Z:List Nat}{a b c:World}(h:Kept R Z a b)(k:Kept R Z b c):Kept R Z a c:=⟨h.b.trans k.b,fun z hz=>(k.z z hz).trans (h.z z hz)⟩
variable {R : Nat} {Z : List Nat} {p : Option Addr} {c : Nat} {mv wv ov : Value} {l : List Tk} {k d : Nat} {K : List Wt} {t : List Nd} {w w' : World}
theorem Kept.wr{Xs:List Nat}(h:WrB Xs w w')(hx:∀x∈Xs,R≤x∧x∉Z)(hz:∀z∈Z,z<w.heap.size)(hR:R≤w.heap.size):Kept R Z w w' :=
 ⟨h.below (fun x c=>(hx x c).1) hR,fun z c=>h.block z (hz z c) fun e=>(hx z e).2 c⟩
theorem Kept.of_below(h:Below w.heap.size w w')(hz:∀z∈Z,z<w.heap.size)(hR:R≤w.heap.size):Kept R Z w w' :=
 Kept.wr (WrB.of_below h []) (fun _ c=>by cases c) hz hR
theorem RdS.wr{Xs:List Nat}(h:RdS R Z p c mv l k d K t wv ov w)(hw:WrB Xs w w')(hx:∀x∈Xs,x∈Z):RdS R Z p c mv l k d K t wv ov w' :=
 ⟨h.blk.wr hw fun e=>h.rz (hx _ e),h.own1.wr hw fun g e c=>(h.sep g e).2 (hx g c),h.own2.wr hw fun g e c=>h.sep2 g e (hx g c),h.sep,h.sep2,fun z e=>Nat.lt_of_lt_of_le (h.zlt z e) hw.size,h.rz⟩
theorem RdS.below(h:RdS R Z p c mv l k d K t wv ov w)(hb:Below w.heap.size w w'):RdS R Z p c mv l k d K t wv ov w':=h.wr (WrB.of_below hb []) fun _ c=>by cases c
theorem RdS.more(h:RdS R Z p c mv l k d K t wv ov w){z:Nat}(hz:z<w.heap.size)(h1:∀g,wv.ownBlock=some g→g≠z)(h2:∀g,ov.ownBlock=some g→g≠z)(h3:R≠z):RdS R (z::Z) p c mv l k d K t wv ov w :=
 ⟨h.blk,h.own1,h.own2,fun g e=>⟨(h.sep g e).1,fun c=>by rcases List.mem_cons.1 c with c|c;exact h1 g e c;exact(h.sep g e).2 c⟩,fun g e c=>by rcases List.mem_cons.1 c with c|c;exact h2 g e c;exact h.sep2 g e c,
 fun z' e=>by rcases List.mem_cons.1 e with rfl|e;exact hz;exact h.zlt z' e,fun c=>by rcases List.mem_cons.1 c with c|c;exact h3 c;exact h.rz c⟩
theorem RdS.less{Z':List Nat}(h:RdS R Z p c mv l k d K t wv ov w)(hs:∀z∈Z',z∈Z):RdS R Z' p c mv l k d K t wv ov w :=
 ⟨h.blk,h.own1,h.own2,fun g e=>⟨(h.sep g e).1,fun c=>(h.sep g e).2 (hs g c)⟩,fun g e c=>h.sep2 g e (hs g c),fun z e=>h.zlt z (hs z e),fun c=>h.rz (hs R c)⟩
theorem RdS.alloc(h:RdS R Z p c mv l k d K t wv ov w)(o:Obj):RdS R (w.heap.size::Z) p c mv l k d K t wv ov (w.alloc o):=by
 have hb:Below w.heap.size w (w.alloc o):=Below.alloc (Below.refl _ _) (Nat.le_refl _) o;exact(h.below hb).more (by simp) (fun g e c=>by have:=(own_lt h.own1 g e).2;omega) (fun g e c=>by have:=(own_lt h.own2 g e).2;omega) (fun c=>by have:=h.blk.lt;omega)
theorem wr_row{v:Value}{row:Option Nat}(h:w.grownBy w' row):WrB row.toList w w':=WrB.of_grown h fun k e=>by rw[e];simp
theorem mem_row{v:Value}{g:Nat}(h:g∈v.ownBlock.toList):v.ownBlock=some g:=by
 cases e:v.ownBlock with
 | none=>rw[e]at h;simp at h
 | some x=>rw[e]at h;simp at h;rw[h]
theorem lay_fin{w1 w4:World}{v':Value}{t':List Nd}(h:RdS R Z p c mv l k d K t wv ov w)(hb:Below w.heap.size w w1)(ho:OwnG encD 6 40 (R+1) w4 v' t')(hg:w1.grownBy w4 ov.ownBlock)(hl:v'.ownBlock=ov.ownBlock∨v'.ownBlock=some w1.heap.size) :
  RdS R Z p c mv l k d K t' wv v' (w4.setCell ⟨R,5,none⟩ v')∧Kept R Z w (w4.setCell ⟨R,5,none⟩ v'):=by
 have h1:=h.below hb;have r1:WrB ov.ownBlock.toList w1 w4:=wr_row (v:=ov) hg;have r2:WrB [R] w4 (w4.setCell ⟨R,5,none⟩ v'):=WrB.of_set w4 R 5 v' List.mem_cons_self;have bk:=h1.blk.wr r1 fun e=>by have:=(own_lt h1.own2 _ (mem_row e)).1;omega
 have s5:=bk.set 5 (by simp) v';have vR:∀g,v'.ownBlock=some g→g∉[R]:=fun g e c=>by have:=(own_lt ho g e).1;have:=List.mem_singleton.1 c;omega
 have wR:∀g,wv.ownBlock=some g→g∉[R]:=fun g e c=>by have:=(own_lt h.own1 g e).1;have:=List.mem_singleton.1 c;omega
 have vZ:∀g,v'.ownBlock=some g→g∉Z:=fun g e c=>by
  rcases hl with q|q
  ·exact h.sep2 g (by rw[←q,e]) c
  ·have e1:some g=some w1.heap.size:=by rw[←e,q]
   have:=h1.zlt g c;injection e1 with e1
   omega
 refine⟨⟨s5,(h1.own1.wr r1 fun g e c=>(h.sep g e).1 (mem_row c)).wr r2 wR,ho.wr r2 vR,fun g e=>⟨fun c=>?_,(h.sep g e).2⟩,vZ,fun z e=>?_,h.rz⟩,?_⟩
 ·rcases hl with q|q
  ·exact(h.sep g e).1 (by rw[←q,c])
  ·have e1:some g=some w1.heap.size:=by rw[←c,q]
   have:=(own_lt h1.own1 g e).2;injection e1 with e1
   omega
 ·rw[size_setCell];exact Nat.lt_of_lt_of_le (h1.zlt z e) hg.size
 ·exact(Kept.of_below hb h.zlt (Nat.le_of_lt h.blk.lt)).trans (Kept.trans (Kept.wr r1 (fun x c=>⟨by have:=(own_lt h1.own2 _ (mem_row c)).1;omega,h.sep2 x (mem_row c)⟩) h1.zlt (Nat.le_of_lt h1.blk.lt))
   (Kept.wr r2 (fun x c=>by have:=List.mem_singleton.1 c;subst this;exact⟨Nat.le_refl _,h.rz⟩) (fun z e=>Nat.lt_of_lt_of_le (h1.zlt z e) hg.size) (Nat.le_of_lt (Nat.lt_of_lt_of_le h1.blk.lt hg.size))))
theorem wait_fin{w1 w4:World}{v':Value}{K':List Wt}(h:RdS R Z p c mv l k d K t wv ov w)(hb:Below w.heap.size w w1)(ho:OwnG encW 2 108 (R+1) w4 v' K'.reverse)(hg:w1.grownBy w4 wv.ownBlock)(hl:v'.ownBlock=wv.ownBlock∨v'.ownBlock=some w1.heap.size) :
  RdS R Z p c mv l k d K' t v' ov (w4.setCell ⟨R,3,none⟩ v')∧Kept R Z w (w4.setCell ⟨R,3,none⟩ v'):=by
 have h1:=h.below hb;have r1:WrB wv.ownBlock.toList w1 w4:=wr_row (v:=wv) hg;have r2:WrB [R] w4 (w4.setCell ⟨R,3,none⟩ v'):=WrB.of_set w4 R 3 v' List.mem_cons_self;have bk:=h1.blk.wr r1 fun e=>by have:=(own_lt h1.own1 _ (mem_row e)).1;omega
 have s5:=bk.set 3 (by simp) v';have vR:∀g,v'.ownBlock=some g→g∉[R]:=fun g e c=>by have:=(own_lt ho g e).1;have:=List.mem_singleton.1 c;omega
 have wR:∀g,ov.ownBlock=some g→g∉[R]:=fun g e c=>by have:=(own_lt h.own2 g e).1;have:=List.mem_singleton.1 c;omega
 have vZ:∀g,v'.ownBlock=some g→ov.ownBlock≠some g∧g∉Z:=fun g e=>by
  rcases hl with q|q
  ·exact h.sep g (by rw[←q,e])
  ·have e1:some g=some w1.heap.size:=by rw[←e,q]
   injection e1 with e1
   exact⟨fun c=>by have:=(own_lt h1.own2 g c).2;omega,fun c=>by have:=h1.zlt g c;omega⟩
 refine⟨⟨s5,ho.wr r2 vR,(h1.own2.wr r1 fun g e c=>(h.sep g (mem_row c)).1 e).wr r2 wR,vZ,h.sep2,fun z e=>?_,h.rz⟩,?_⟩
 ·rw[size_setCell];exact Nat.lt_of_lt_of_le (h1.zlt z e) hg.size
 ·exact(Kept.of_below hb h.zlt (Nat.le_of_lt h.blk.lt)).trans (Kept.trans (Kept.wr r1 (fun x c=>⟨by have:=(own_lt h1.own1 _ (mem_row c)).1;omega,(h.sep x (mem_row c)).2⟩) h1.zlt (Nat.le_of_lt h1.blk.lt))
   (Kept.wr r2 (fun x c=>by have:=List.mem_singleton.1 c;subst this;exact⟨Nat.le_refl _,h.rz⟩) (fun z e=>Nat.lt_of_lt_of_le (h1.zlt z e) hg.size) (Nat.le_of_lt (Nat.lt_of_lt_of_le h1.blk.lt hg.size))))
theorem cut_fin{K':List Wt}{v':Value}(h:RdS R Z p c mv l k d K t wv ov w)(ho:OwnG encW 2 108 (R+1) w v' K'.reverse)(hl:v'.ownBlock=wv.ownBlock) :
  RdS R Z p c mv l k d K' t v' ov (w.setCell ⟨R,3,none⟩ v')∧Kept R Z w (w.setCell ⟨R,3,none⟩ v'):=by
 have r2:WrB [R] w (w.setCell ⟨R,3,none⟩ v'):=WrB.of_set w R 3 v' List.mem_cons_self;have vR:∀g,v'.ownBlock=some g→g∉[R]:=fun g e c=>by have:=(own_lt ho g e).1;have:=List.mem_singleton.1 c;omega
 have wR:∀g,ov.ownBlock=some g→g∉[R]:=fun g e c=>by have:=(own_lt h.own2 g e).1;have:=List.mem_singleton.1 c;omega
 exact⟨⟨h.blk.set 3 (by simp) v',ho.wr r2 vR,h.own2.wr r2 wR,fun g e=>h.sep g (by rw[←hl,e]),h.sep2,fun z e=>by rw[size_setCell];exact h.zlt z e,h.rz⟩,
  Kept.wr r2 (fun x c=>by have:=List.mem_singleton.1 c;subst this;exact⟨Nat.le_refl _,h.rz⟩) h.zlt (Nat.le_of_lt h.blk.lt)⟩
def RdG(R:Nat)(Z:List Nat)(p:Option Addr)(c:Nat)(mv:Value)(l:List Tk)(k d:Nat)(K:List Wt)(t:List Nd)(w:World)(v:Value)(r:Ending)(w':World):Prop :=
 ∃wv ov,r=.returned v∧RdS R Z p c mv l k d K t wv ov w'∧Kept R Z w w'
theorem pwait_any(op:Int)(h:RdS R Z p c mv l k d K t wv ov w)(hK:K.length≤2000000):Calls Tryz.prog 39 #[.pointer (some ⟨R,0,none⟩),.int .i64 op] w (RdG R Z p c mv l k d ((op,0)::K) t w (.tuple #[])):=by
 have HH:=zh h;have c3:=h.blk.c 3 _ rfl;have HLT:=zh h.blk.lt;have HK:=zh hK;clear h hK;go_enter Tryz.func39,Tryz.ntmps39;go_wp2_with (at_builtin;refine haltG ?_);show wpList _ _ _ _ _ _;have hb:Below w.heap.size w (w.alloc (.cells #[.int .i64 op,.int .i64 0] 108)):=Below.alloc (Below.refl _ _) (Nat.le_refl _) _;refine wpList_append_G rfl _ _ 47 108 rfl Tryz.underlying47 wtInfo rfl (by decide) (by decide) (fun _=>rfl) encW_one (R+1) wv K.reverse rfl (HH.out.own1.wr (WrB.of_below hb []) (fun _ _ c=>by cases c)) ⟨w.heap.size,0,none⟩ ((op,0):Wt) 1 rfl (rowsOne (enc:=encW) (k:=2) w ((op,0):Wt) 108 _ rfl) (by rw[List.length_reverse];have:=HK.out;omega) (by have:=HLT.out;simp;omega) ?_;intro v' w4 ho4 hg4 hl4;obtain⟨qa4,cq4,e4,z1,z2,z3⟩:=ownG_rows (enc:=encW) (k:=2) (fun _=>rfl) ho4;clear z1 z2 z3;obtain⟨n4,hn4⟩:∃n4,n4=(K.reverse++[((op,0):Wt)]).length:=⟨_,rfl⟩;rw[←hn4]at e4;subst e4;clear hn4;have bk:=(HH.out.below hb).blk.wr (wr_row (v:=wv) hg4) (fun e=>by have:=(own_lt (HH.out.below hb).own1 _ (mem_row e)).1;omega);have c4:=bk.c 3 _ rfl;have f4:=bk.f 3 (by simp);have HF:=zh (wait_fin (K':=(op,0)::K) HH.out hb (by rw[List.reverse_cons];exact ho4) hg4 hl4);clear hb ho4 hg4 hl4 bk c3 HH;go_wp2_with fail;refine bodyPost_end (v:=.tuple #[]) (by simp[results,Tryz.results39,go_sem]) rfl ?_;exact⟨_,_,rfl,HF.out.1,HF.out.2⟩
def LayS(R:Nat)(cs:List Value)(b:Nat)(x:Nd)(v:World):Prop:=Blk R cs v∧Blk b (encD x) v∧R≠b
theorem LayS.wr{cs:List Value}{b:Nat}{x:Nd}{v v':World}{Xs:List Nat}(h:LayS R cs b x v)(hw:WrB Xs v v')(h1:R∉Xs)(h2:b∉Xs):LayS R cs b x v':=⟨h.1.wr hw h1,h.2.1.wr hw h2,h.2.2⟩
theorem LayS.below{cs:List Value}{b:Nat}{x:Nd}{v v':World}(h:LayS R cs b x v)(hw:Below v.heap.size v v'):LayS R cs b x v':=⟨h.1.below hw,h.2.1.below hw,h.2.2⟩
theorem LayS.set{p:Option Addr}{n c:Nat}{k d:Int}{mv wv ov:Value}{b:Nat}{x:Nd}{v:World}(h:LayS R (rdC p n c k mv wv d ov) b x v)(v':Value):LayS R (rdC p n c k mv wv d v') b x (v.setCell ⟨R,5,none⟩ v') :=
 ⟨h.1.set 5 (by simp) v',h.2.1.wr (WrB.of_set v R 5 v' List.mem_cons_self) (fun c=>h.2.2 (List.mem_singleton.1 c).symm),h.2.2⟩
theorem ndbox(x:Nd)(w:World):∃U,w.alloc (.cells #[.int .i64 x.op,.string ⟨x.num.1.toArray⟩,.string ⟨x.num.2.toArray⟩,.string ⟨x.ast.toArray⟩,.int .i64 x.a,.int .i64 x.b] 40)=U∧Below w.heap.size w U∧U.heap.size=w.heap.size+1∧Blk w.heap.size (encD x) U :=
 ⟨_,rfl,Below.alloc (Below.refl _ _) (Nat.le_refl _) _,by simp,blk_new w #[.int .i64 x.op,.string ⟨x.num.1.toArray⟩,.string ⟨x.num.2.toArray⟩,.string ⟨x.ast.toArray⟩,.int .i64 x.a,.int .i64 x.b] 40⟩
theorem play_any(x:Nd)(h:RdS R Z p c mv l k d K t wv ov w)(ht:t.length≤2000000):Calls Tryz.prog 41 #[.pointer (some ⟨R,0,none⟩),.agg #[.int .i64 x.op,.string ⟨x.num.1.toArray⟩,.string ⟨x.num.2.toArray⟩,.string ⟨x.ast.toArray⟩,.int .i64 x.a,.int .i64 x.b]] w (fun r w'=>∃ov',r=.returned (.tuple #[])∧RdS R Z p c mv l k d K (t++[x]) wv ov' w'∧Kept R Z w w'):=by
 obtain⟨U,hU,bU,sU,kU⟩:=ndbox x w;have HX:=zh (h.below bU);have HB0:=zh bU;have HZ:=zh h.zlt;have HRl:=zh (Nat.le_of_lt h.blk.lt);have HT:=zh ht;obtain⟨U0,hU0⟩:∃U0,U0=w.heap.size:=⟨_,rfl⟩;have HU0:Hid (∀g,ov.ownBlock=some g→g<U0):=zh (fun g e=>by rw[hU0];exact(own_lt h.own2 g e).2);have hN:LayS R (rdC p l.length c (k:Int) mv wv (d:Int) ov) U0 x U:=⟨HX.out.blk,by rw[hU0];exact kU,by rw[hU0];exact Nat.ne_of_lt h.blk.lt⟩;have hN0:=hN.below (Below.drew (Below.refl _ _));have hbA:Below U.heap.size U U.drew:=Below.drew (Below.refl _ _);have hbB:Below U.drew.heap.size U.drew (U.drew.alloc (.cells #[.int .i64 x.op,.string ⟨x.num.1.toArray⟩,.string ⟨x.num.2.toArray⟩,.string ⟨x.ast.toArray⟩,.int .i64 x.a,.int .i64 x.b] 40)):=Below.alloc (Below.refl _ _) (Nat.le_refl _) _;have hN1:=hN0.below hbB;have q0:=fun v (h:∃o,LayS R (rdC p l.length c (k:Int) mv wv (d:Int) o) U0 x v)=>h.elim fun _ h=>h.2.1.c 0 _ rfl;have q1:=fun v (h:∃o,LayS R (rdC p l.length c (k:Int) mv wv (d:Int) o) U0 x v)=>h.elim fun _ h=>h.2.1.c 1 _ rfl;have q2:=fun v (h:∃o,LayS R (rdC p l.length c (k:Int) mv wv (d:Int) o) U0 x v)=>h.elim fun _ h=>h.2.1.c 2 _ rfl;have q3:=fun v (h:∃o,LayS R (rdC p l.length c (k:Int) mv wv (d:Int) o) U0 x v)=>h.elim fun _ h=>h.2.1.c 3 _ rfl;have q4:=fun v (h:∃o,LayS R (rdC p l.length c (k:Int) mv wv (d:Int) o) U0 x v)=>h.elim fun _ h=>h.2.1.c 4 _ rfl;have q5:=fun v (h:∃o,LayS R (rdC p l.length c (k:Int) mv wv (d:Int) o) U0 x v)=>h.elim fun _ h=>h.2.1.c 5 _ rfl;clear bU kU h ht hN sU;go_enter Tryz.func41,Tryz.ntmps41
 go_wp2_with fail
 (try rw[←hU0])
 clear hU0;refine wp_region_noPanic ?_;refine wp_region_held_drew (S:=fun w'=>∃o,LayS R (rdC p l.length c (k:Int) mv wv (d:Int) o) U0 x w') (by kernel_rfl) ⟨ov,hN0⟩ (fun hH0=>?_);refine sch_in [0,1,2,3,5] ?_
 iterate 5 (refine sch_yes (v:=?_) rfl (by kernel_rfl) (by rfl) ?_ (by assumption) ?_;rotate_left 1;(· (intro w hSw;(try dsimp only at hSw);go_simp<;>(with_reducible rfl)));try simp only[Act.put,qA,qB,qC,qD,qE,qF])
 refine sch_out ?_;refine wpAnyH_ready (rs:=[4,6]) (by kernel_rfl) (by simp) ?_;refine AllReadyH.cons rfl (fun K' hK'=>?_) (AllReadyH.cons rfl (fun K' hK'=>?_) (AllReadyH.nil))
 ·have c5:U.drew.cell? ⟨R,5,none⟩=some ov:=hN0.1.c 5 _ rfl
  go_simp
  refine hK'.out _ _ ⟨ov,hN0⟩ (fun hHa=>?_);clear c5;clear hK'
  try simp only[Act.put,qA,qB,qC,qD,qE,qF]
  refine wpAnyH_ready (rs:=[6]) (by kernel_rfl) (by simp) ?_;refine AllReadyH.cons rfl (fun K' hK'=>?_) (AllReadyH.nil)
  go_simp
  refine hK'.out _ _ ⟨ov,hN1⟩ (fun hHb=>?_);clear hK'
  try simp only[Act.put,qA,qB,qC,qD,qE,qF]
  refine wpAnyH_ready (rs:=[7]) (by kernel_rfl) (by simp) ?_;refine AllReadyH.cons rfl (fun K' hK'=>?_) (AllReadyH.nil);rw[if_pos (by rfl)];refine wp_append_G _ _ 24 40 rfl Tryz.underlying24 ndInfo rfl (by decide) (by decide) (fun _=>rfl) encD_one (R+1) ov t rfl (HX.out.own2.wr (WrB.of_below (Below.more hbA hbB) []) (fun _ _ c=>by cases c)) ⟨U.heap.size,0,none⟩ x 1 rfl (rowsOne (enc:=encD) (k:=6) U.drew x 40 _ rfl) (by have:=HT.out;omega) (by have:=HX.out.blk.lt;simp;omega) ?_;intro v' w4 ho4 hg4 hl4;obtain⟨qa4,cq4,e4,z1,z2,z3⟩:=ownG_rows (enc:=encD) (k:=6) (fun _=>rfl) ho4;clear z1 z2 z3;obtain⟨n4,hn4⟩:∃n4,n4=(t++[x]).length:=⟨_,rfl⟩;rw[←hn4]at e4;subst e4;clear hn4;have hN4:LayS R (rdC p l.length c (k:Int) mv wv (d:Int) ov) U0 x w4:=hN1.wr (wr_row (v:=ov) hg4) (fun e=>by have:=(own_lt HX.out.own2 _ (mem_row e)).1;omega) (fun e=>Nat.lt_irrefl _ (HU0.out _ (mem_row e)));refine hK'.out _ _ ⟨ov,hN4⟩ (fun hHc=>?_);clear hK'
  try simp only[Act.put,qA,qB,qC,qD,qE,qF]
  refine sch_in [8,9] ?_
  iterate 2 (refine sch_yes (v:=?_) rfl (by kernel_rfl) (by rfl) ?_ (by assumption) ?_;rotate_left 1;(· (intro w hSw;(try dsimp only at hSw);go_simp<;>(with_reducible rfl)));try simp only[Act.put,qA,qB,qC,qD,qE,qF])
  refine sch_out ?_;refine wpAnyH_ready (rs:=[10]) (by kernel_rfl) (by simp) ?_;refine AllReadyH.cons rfl (fun K' hK'=>?_) (AllReadyH.nil);have c5:=hN4.1.c 5 _ rfl;have f5:=hN4.1.f 5 (by simp);have hfin:=lay_fin (v':=.slice qa4 n4 cq4) HX.out (Below.more hbA hbB) ho4 hg4 hl4
  go_simp
  refine hK'.out _ _ ⟨.slice qa4 n4 cq4,hN4.set (.slice qa4 n4 cq4)⟩ (fun hHd=>?_);clear hK'
  try simp only[Act.put,qA,qB,qC,qD,qE,qF]
  refine wpAnyH_done (by kernel_rfl) ?_ _;refine NoPanic.normal ?_;have HF:=zh hfin;clear hH0 hHa hHb hHc hHd hfin hg4 hl4 hN4 ho4 hN0 hN1 c5 f5 q0 q1 q2 q3 q4 q5;go_wp2_with fail;refine bodyPost_end (v:=.tuple #[]) (by simp[results,Tryz.results41,go_sem]) rfl ?_;exact⟨_,rfl,HF.out.1,Kept.trans (Kept.of_below HB0.out HZ.out HRl.out) HF.out.2⟩
 ·go_simp
  refine hK'.out _ _ ⟨ov,hN1⟩ (fun hHb=>?_);clear hK'
  try simp only[Act.put,qA,qB,qC,qD,qE,qF]
  refine wpAnyH_ready (rs:=[4]) (by kernel_rfl) (by simp) ?_;refine AllReadyH.cons rfl (fun K' hK'=>?_) (AllReadyH.nil);have c5:(U.alloc (.cells #[.int .i64 x.op,.string ⟨x.num.1.toArray⟩,.string ⟨x.num.2.toArray⟩,.string ⟨x.ast.toArray⟩,.int .i64 x.a,.int .i64 x.b] 40)).cell? ⟨R,5,none⟩=some ov:=hN1.1.c 5 _ rfl
  go_simp
  refine hK'.out _ _ ⟨ov,hN1⟩ (fun hHa=>?_);clear c5;clear hK'
  try simp only[Act.put,qA,qB,qC,qD,qE,qF]
  refine wpAnyH_ready (rs:=[7]) (by kernel_rfl) (by simp) ?_;refine AllReadyH.cons rfl (fun K' hK'=>?_) (AllReadyH.nil);rw[if_pos (by rfl)];refine wp_append_G _ _ 24 40 rfl Tryz.underlying24 ndInfo rfl (by decide) (by decide) (fun _=>rfl) encD_one (R+1) ov t rfl (HX.out.own2.wr (WrB.of_below (Below.more hbA hbB) []) (fun _ _ c=>by cases c)) ⟨U.heap.size,0,none⟩ x 1 rfl (rowsOne (enc:=encD) (k:=6) U.drew x 40 _ rfl) (by have:=HT.out;omega) (by have:=HX.out.blk.lt;simp;omega) ?_;intro v' w4 ho4 hg4 hl4;obtain⟨qa4,cq4,e4,z1,z2,z3⟩:=ownG_rows (enc:=encD) (k:=6) (fun _=>rfl) ho4;clear z1 z2 z3;obtain⟨n4,hn4⟩:∃n4,n4=(t++[x]).length:=⟨_,rfl⟩;rw[←hn4]at e4;subst e4;clear hn4;have hN4:LayS R (rdC p l.length c (k:Int) mv wv (d:Int) ov) U0 x w4:=hN1.wr (wr_row (v:=ov) hg4) (fun e=>by have:=(own_lt HX.out.own2 _ (mem_row e)).1;omega) (fun e=>Nat.lt_irrefl _ (HU0.out _ (mem_row e)));refine hK'.out _ _ ⟨ov,hN4⟩ (fun hHc=>?_);clear hK'
  try simp only[Act.put,qA,qB,qC,qD,qE,qF]
  refine sch_in [8,9] ?_
  iterate 2 (refine sch_yes (v:=?_) rfl (by kernel_rfl) (by rfl) ?_ (by assumption) ?_;rotate_left 1;(· (intro w hSw;(try dsimp only at hSw);go_simp<;>(with_reducible rfl)));try simp only[Act.put,qA,qB,qC,qD,qE,qF])
  refine sch_out ?_;refine wpAnyH_ready (rs:=[10]) (by kernel_rfl) (by simp) ?_;refine AllReadyH.cons rfl (fun K' hK'=>?_) (AllReadyH.nil);have c5:=hN4.1.c 5 _ rfl;have f5:=hN4.1.f 5 (by simp);have hfin:=lay_fin (v':=.slice qa4 n4 cq4) HX.out (Below.more hbA hbB) ho4 hg4 hl4
  go_simp
  refine hK'.out _ _ ⟨.slice qa4 n4 cq4,hN4.set (.slice qa4 n4 cq4)⟩ (fun hHd=>?_);clear hK'
  try simp only[Act.put,qA,qB,qC,qD,qE,qF]
  refine wpAnyH_done (by kernel_rfl) ?_ _;refine NoPanic.normal ?_;have HF:=zh hfin;clear hH0 hHa hHb hHc hHd hfin hg4 hl4 hN4 ho4 hN0 hN1 c5 f5 q0 q1 q2 q3 q4 q5;go_wp2_with fail;refine bodyPost_end (v:=.tuple #[]) (by simp[results,Tryz.results41,go_sem]) rfl ?_;exact⟨_,rfl,HF.out.1,Kept.trans (Kept.of_below HB0.out HZ.out HRl.out) HF.out.2⟩
end Go.Proofs.YtmllklfjngapiaaGreatDoor
