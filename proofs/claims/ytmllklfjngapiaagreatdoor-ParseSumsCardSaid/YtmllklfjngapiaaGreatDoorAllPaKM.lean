/- Own work. -/
import Derived.Test.YtmllklfjngapiaaGreatDoorAllPaIM
import Derived.Laws.EntriesVeiled
set_option linter.unusedSimpArgs false
set_option linter.unusedVariables false
set_option maxHeartbeats 4000000
set_option maxRecDepth 100000
namespace Go.Proofs.YtmllklfjngapiaaGreatDoor
open Go.RowKit
open Wd (Tk okT ktT)
open Tm (Nd plainN arI arN)
open Pz (Wt tgt settleF)
open Pz (Ms Px Nm nmF dyF frF naF abF sgF opName idx4)
structure FrS(b1 b2 b3 b0 bt T i1 i2:Nat)(t:Tk)(a:Int)(v:World):Prop where
 c1:v.cell? ⟨b1,0,none⟩=some (.func (.func 114) #[] #[.pointer (some ⟨b0,0,none⟩)])
 c2:v.cell? ⟨b2,0,none⟩=some (.pointer (some ⟨T,i1,none⟩))
 c3:v.cell? ⟨b3,0,none⟩=some (.pointer (some ⟨T,i2,none⟩))
 t0:v.cell? ⟨bt,0,none⟩=some (.int .i64 (t.kind:Int))
 t1:v.cell? ⟨bt,1,none⟩=some (.string ⟨t.text.toArray⟩)
 t2:v.cell? ⟨bt,2,none⟩=some (.int .i64 (t.line:Int))
 t3:v.cell? ⟨bt,3,none⟩=some (.int .i64 (t.col:Int))
 a1:v.cell? ⟨T,i1,none⟩=some (.int .i64 a)
theorem small_max(l:List UInt8):(smallS l).1≤9223372036854775807:=by
 unfold smallS;split
 ·rename_i h
  simp only[Bool.and_eq_true,decide_eq_true_eq]at h;have:=h.2;dsimp only;omega
 ·decide
theorem mfrom_any(t:Tk)(b1 b2 b3 b0 T i1 i2:Nat)(cs:List Value)(a:Int)(w:World)(he:GoodE w)(hl:t.text.length≤100000)(ha:-1≤a∧a≤9223372036854775807)(hc1:w.cell? ⟨b1,0,none⟩=some (.func (.func 114) #[] #[.pointer (some ⟨b0,0,none⟩)]))(hc2:w.cell? ⟨b2,0,none⟩=some (.pointer (some ⟨T,i1,none⟩)))
  (hc3:w.cell? ⟨b3,0,none⟩=some (.pointer (some ⟨T,i2,none⟩))) (hc0:w.cell? ⟨b0,0,none⟩=some (.pointer (some ⟨T,i2,none⟩))) (hn1:b1≠T) (hn2:b2≠T) (hn3:b3≠T) (hT:Blk T cs w) (hi1:cs[i1]?=some (.int .i64 a)) (hi:i2<cs.length) (hne:i1≠i2) :
  Calls Tryz.prog 116 #[.agg #[.int .i64 (t.kind:Int),.string ⟨t.text.toArray⟩,.int .i64 (t.line:Int),.int .i64 (t.col:Int)],.pointer (some ⟨b1,0,none⟩),.pointer (some ⟨b2,0,none⟩),.pointer (some ⟨b3,0,none⟩)] w (fun r w'=>r=.returned (.bool (((smallS t.text).2&&decide ((smallS t.text).1≤9999))&&(decide (a≤(smallS t.text).1)&&decide ((smallS t.text).1-a<60))))∧Blk T (cs.set i2 (.int .i64 (smallS t.text).1)) w'∧WrB [T] w w'):=by
 have h1:b1<w.heap.size:=World.block_lt_of_cell? w ⟨b1,0,none⟩ hc1;have h2:b2<w.heap.size:=World.block_lt_of_cell? w ⟨b2,0,none⟩ hc2;have h3:b3<w.heap.size:=World.block_lt_of_cell? w ⟨b3,0,none⟩ hc3;have h0:b0<w.heap.size:=World.block_lt_of_cell? w ⟨b0,0,none⟩ hc0;obtain⟨U,hU,bU,sU,kU⟩:=tbox t w;have kT:=hT.below bU;have bD:Below U.heap.size U U.drew:=Below.drew (Below.refl _ _);have hS:FrS b1 b2 b3 b0 w.heap.size T i1 i2 t a U.drew :=
  ⟨(bU.cell (p:=⟨b1,0,none⟩) h1).trans hc1,(bU.cell (p:=⟨b2,0,none⟩) h2).trans hc2,(bU.cell (p:=⟨b3,0,none⟩) h3).trans hc3,kU.c 0 _ rfl,kU.c 1 _ rfl,kU.c 2 _ rfl,kU.c 3 _ rfl,kT.c i1 _ hi1⟩
 have CD:=zh (mday_any t b0 T i2 cs U.drew ((he.below bU).below bD) hl ((bU.cell (p:=⟨b0,0,none⟩) h0).trans hc0) (kT.below bD) hi);have hbt:w.heap.size≠T:=hT.ne (Nat.le_refl _);have HF:=zh (fun (w2:World) (q1:Blk T (cs.set i2 (.int .i64 (smallS t.text).1)) w2) (q2:WrB [T] U.drew w2)=>(show FrS b1 b2 b3 b0 w.heap.size T i1 i2 t a w2 from ⟨WrB.cell q2 hS.c1 hn1,WrB.cell q2 hS.c2 hn2,WrB.cell q2 hS.c3 hn3,WrB.cell q2 hS.t0 hbt,WrB.cell q2 hS.t1 hbt,WrB.cell q2 hS.t2 hbt,WrB.cell q2 hS.t3 hbt,q1.c i1 _ (by rw[List.getElem?_set_ne (fun c=>hne c.symm)];exact hi1)⟩));have HI2:=zh hi;have HW0:=zh ((WrB.of_below bU [T]).trans (WrB.of_below bD [T]));have hs0:0≤(smallS t.text).1:=Pz.small_nn _;have hs9:(smallS t.text).1≤9223372036854775807:=small_max _;clear kT kU bU sU hc1 hc2 hc3 hc0 hT hi1 h1 h2 h3 h0 bD;generalize smallS t.text=S at *;obtain⟨n,f⟩:=S;dsimp only at CD HF hs0 hs9 ⊢;have q1:=fun v (h:FrS b1 b2 b3 b0 w.heap.size T i1 i2 t a v)=>h.c1;have q2:=fun v (h:FrS b1 b2 b3 b0 w.heap.size T i1 i2 t a v)=>h.c2;have q3:=fun v (h:FrS b1 b2 b3 b0 w.heap.size T i1 i2 t a v)=>h.c3;have q4:=fun v (h:FrS b1 b2 b3 b0 w.heap.size T i1 i2 t a v)=>h.t0;have q5:=fun v (h:FrS b1 b2 b3 b0 w.heap.size T i1 i2 t a v)=>h.t1;have q6:=fun v (h:FrS b1 b2 b3 b0 w.heap.size T i1 i2 t a v)=>h.t2;have q7:=fun v (h:FrS b1 b2 b3 b0 w.heap.size T i1 i2 t a v)=>h.t3;have q8:=fun v (h:FrS b1 b2 b3 b0 w.heap.size T i1 i2 t a v)=>h.a1
 cases hb:(f&&decide (n≤9999)) with
 | false =>
  rw[hb]at CD;go_enter Tryz.func116,Tryz.ntmps116;go_wp2_with fail;refine wp_region_noPanic ?_;refine wp_region_held_drew (S:=FrS b1 b2 b3 b0 w.heap.size T i1 i2 t a) (by kernel_rfl) hS (fun hH0=>?_);refine sch_in [0,1] ?_
  iterate 2 (refine sch_yes (v:=?_) rfl (by kernel_rfl) (by rfl) ?_ (by assumption) ?_;rotate_left 1;(· (intro w hSw;(try dsimp only at hSw);go_simp<;>(with_reducible rfl)));try simp only[Act.put,qA,qB,qC,qD,qE,qF])
  refine sch_out ?_;refine wpAnyH_ready (rs:=[2]) (by kernel_rfl) (by simp) ?_;refine AllReadyH.cons rfl (fun K' hK'=>?_) AllReadyH.nil
  go_simp
  refine CD.out.mono ?_;rintro r w2 ⟨rfl,hT2,hW2⟩
  (try go_wp2_with fail)
  have hF2:=HF.out w2 hT2 hW2;have cn:w2.cell? ⟨T,i2,none⟩=some (.int .i64 n):=hT2.c i2 _ (List.getElem?_set_self HI2.out);have HT2:=zh hT2;have HW2:=zh hW2;clear hT2 hW2;refine hK'.out _ _ hF2 (fun hHa=>?_);clear hK'
  try simp only[Act.put,qA,qB,qC,qD,qE,qF]
  refine sch_in [3,4,5,6,7,8,9,10,11,12,13,14,15,16,17,18,19,20,21,22] ?_
  (refine sch_yes (v:=?_) rfl (by kernel_rfl) (by rfl) ?_ (by assumption) ?_;rotate_left 1;(· (intro w hSw;(try dsimp only at hSw);go_simp<;>(with_reducible rfl)));try simp only[Act.put,qA,qB,qC,qD,qE,qF])
  (refine sch_no rfl (by kernel_rfl) (by rfl) (by assumption) ?_;try simp only[Act.put,qA,qB,qC,qD,qE,qF])
  (refine sch_no rfl (by kernel_rfl) (by rfl) (by assumption) ?_;try simp only[Act.put,qA,qB,qC,qD,qE,qF])
  (refine sch_no rfl (by kernel_rfl) (by rfl) (by assumption) ?_;try simp only[Act.put,qA,qB,qC,qD,qE,qF])
  (refine sch_no rfl (by kernel_rfl) (by rfl) (by assumption) ?_;try simp only[Act.put,qA,qB,qC,qD,qE,qF])
  (refine sch_no rfl (by kernel_rfl) (by rfl) (by assumption) ?_;try simp only[Act.put,qA,qB,qC,qD,qE,qF])
  (refine sch_no rfl (by kernel_rfl) (by rfl) (by assumption) ?_;try simp only[Act.put,qA,qB,qC,qD,qE,qF])
  (refine sch_no rfl (by kernel_rfl) (by rfl) (by assumption) ?_;try simp only[Act.put,qA,qB,qC,qD,qE,qF])
  (refine sch_yes (v:=?_) rfl (by kernel_rfl) (by rfl) ?_ (by assumption) ?_;rotate_left 1;(· (intro w hSw;(try dsimp only at hSw);go_simp<;>(with_reducible rfl)));try simp only[Act.put,qA,qB,qC,qD,qE,qF])
  (refine sch_yes (v:=?_) rfl (by kernel_rfl) (by rfl) ?_ (by assumption) ?_;rotate_left 1;(· (intro w hSw;(try dsimp only at hSw);go_simp<;>(with_reducible rfl)));try simp only[Act.put,qA,qB,qC,qD,qE,qF])
  (refine sch_no rfl (by kernel_rfl) (by rfl) (by assumption) ?_;try simp only[Act.put,qA,qB,qC,qD,qE,qF])
  (refine sch_no rfl (by kernel_rfl) (by rfl) (by assumption) ?_;try simp only[Act.put,qA,qB,qC,qD,qE,qF])
  (refine sch_no rfl (by kernel_rfl) (by rfl) (by assumption) ?_;try simp only[Act.put,qA,qB,qC,qD,qE,qF])
  (refine sch_no rfl (by kernel_rfl) (by rfl) (by assumption) ?_;try simp only[Act.put,qA,qB,qC,qD,qE,qF])
  (refine sch_no rfl (by kernel_rfl) (by rfl) (by assumption) ?_;try simp only[Act.put,qA,qB,qC,qD,qE,qF])
  (refine sch_no rfl (by kernel_rfl) (by rfl) (by assumption) ?_;try simp only[Act.put,qA,qB,qC,qD,qE,qF])
  (refine sch_no rfl (by kernel_rfl) (by rfl) (by assumption) ?_;try simp only[Act.put,qA,qB,qC,qD,qE,qF])
  (refine sch_no rfl (by kernel_rfl) (by rfl) (by assumption) ?_;try simp only[Act.put,qA,qB,qC,qD,qE,qF])
  (refine sch_yes (v:=?_) rfl (by kernel_rfl) (by rfl) ?_ (by assumption) ?_;rotate_left 1;(· (intro w hSw;(try dsimp only at hSw);go_simp<;>(with_reducible rfl)));try simp only[Act.put,qA,qB,qC,qD,qE,qF])
  (refine sch_yes (v:=?_) rfl (by kernel_rfl) (by rfl) ?_ (by assumption) ?_;rotate_left 1;(· (intro w hSw;(try dsimp only at hSw);go_simp<;>(with_reducible rfl)));try simp only[Act.put,qA,qB,qC,qD,qE,qF])
  refine sch_out ?_;refine wpAnyH_done (by kernel_rfl) ?_ _;refine NoPanic.normal ?_;go_wp2_with fail;go_ret;exact⟨ret_b (Bool.false_and _).symm,HT2.out,HW0.out.trans HW2.out⟩
 | true =>
  rw[hb]at CD;by_cases h3:a≤n
  ·have h3d:decide (a≤n)=true:=decide_eq_true h3;have hwr:IntKind.i64.wrap (n-a)=n-a:=IntWalk.i64_in _ (by have hn9:n≤9999:=of_decide_eq_true (Bool.and_eq_true_iff.1 hb).2;omega);go_enter Tryz.func116,Tryz.ntmps116;go_wp2_with fail;refine wp_region_noPanic ?_;refine wp_region_held_drew (S:=FrS b1 b2 b3 b0 w.heap.size T i1 i2 t a) (by kernel_rfl) hS (fun hH0=>?_);refine sch_in [0,1] ?_
   iterate 2 (refine sch_yes (v:=?_) rfl (by kernel_rfl) (by rfl) ?_ (by assumption) ?_;rotate_left 1;(· (intro w hSw;(try dsimp only at hSw);go_simp<;>(with_reducible rfl)));try simp only[Act.put,qA,qB,qC,qD,qE,qF])
   refine sch_out ?_;refine wpAnyH_ready (rs:=[2]) (by kernel_rfl) (by simp) ?_;refine AllReadyH.cons rfl (fun K' hK'=>?_) AllReadyH.nil
   go_simp
   refine CD.out.mono ?_;rintro r w2 ⟨rfl,hT2,hW2⟩
   (try go_wp2_with fail)
   have hF2:=HF.out w2 hT2 hW2;have cn:w2.cell? ⟨T,i2,none⟩=some (.int .i64 n):=hT2.c i2 _ (List.getElem?_set_self HI2.out);have HT2:=zh hT2;have HW2:=zh hW2;clear hT2 hW2;refine hK'.out _ _ hF2 (fun hHa=>?_);clear hK'
   try simp only[Act.put,qA,qB,qC,qD,qE,qF]
   refine sch_in [3,4,5,6,7,8] ?_
   (refine sch_yes (v:=?_) rfl (by kernel_rfl) (by rfl) ?_ (by assumption) ?_;rotate_left 1;(· (intro w hSw;(try dsimp only at hSw);go_simp<;>(with_reducible rfl)));try simp only[Act.put,qA,qB,qC,qD,qE,qF])
   (refine sch_yes (v:=?_) rfl (by kernel_rfl) (by rfl) ?_ (by assumption) ?_;rotate_left 1;(· (intro w hSw;(try dsimp only at hSw);go_simp<;>(with_reducible rfl)));try simp only[Act.put,qA,qB,qC,qD,qE,qF])
   (refine sch_yes (v:=?_) rfl (by kernel_rfl) (by rfl) ?_ (by assumption) ?_;rotate_left 1;(· (intro w hSw;(try dsimp only at hSw);go_simp<;>(with_reducible rfl)));try simp only[Act.put,qA,qB,qC,qD,qE,qF])
   (refine sch_yes (v:=?_) rfl (by kernel_rfl) (by rfl) ?_ (by assumption) ?_;rotate_left 1;(· (intro w hSw;(try dsimp only at hSw);go_simp<;>(with_reducible rfl)));try simp only[Act.put,qA,qB,qC,qD,qE,qF])
   (refine sch_yes (v:=?_) rfl (by kernel_rfl) (by rfl) ?_ (by assumption) ?_;rotate_left 1;(· (intro w hSw;(try dsimp only at hSw);go_simp<;>(with_reducible rfl)));try simp only[Act.put,qA,qB,qC,qD,qE,qF])
   (refine sch_yes (v:=?_) rfl (by kernel_rfl) (by rfl) ?_ (by assumption) ?_;rotate_left 1;(· (intro w hSw;(try dsimp only at hSw);go_simp<;>(with_reducible rfl)));try simp only[Act.put,qA,qB,qC,qD,qE,qF])
   refine sch_out ?_;refine wpAnyH_ready (rs:=[9]) (by kernel_rfl) (by simp) ?_;refine AllReadyH.cons rfl (fun K' hK'=>?_) AllReadyH.nil
   go_simp
   refine hK'.out _ _ hF2 (fun hHb9=>?_);clear hK'
   try simp only[Act.put,qA,qB,qC,qD,qE,qF]
   refine sch_in [10,11,12,13,14,16,17,18] ?_
   (refine sch_yes (v:=?_) rfl (by kernel_rfl) (by rfl) ?_ (by assumption) ?_;rotate_left 1;(· (intro w hSw;(try dsimp only at hSw);go_simp<;>(with_reducible rfl)));try simp only[Act.put,qA,qB,qC,qD,qE,qF])
   (refine sch_yes (v:=?_) rfl (by kernel_rfl) (by rfl) ?_ (by assumption) ?_;rotate_left 1;(· (intro w hSw;(try dsimp only at hSw);go_simp<;>(with_reducible rfl)));try simp only[Act.put,qA,qB,qC,qD,qE,qF])
   (refine sch_yes (v:=?_) rfl (by kernel_rfl) (by rfl) ?_ (by assumption) ?_;rotate_left 1;(· (intro w hSw;(try dsimp only at hSw);go_simp<;>(with_reducible rfl)));try simp only[Act.put,qA,qB,qC,qD,qE,qF])
   (refine sch_yes (v:=?_) rfl (by kernel_rfl) (by rfl) ?_ (by assumption) ?_;rotate_left 1;(· (intro w hSw;(try dsimp only at hSw);go_simp<;>(with_reducible rfl)));try simp only[Act.put,qA,qB,qC,qD,qE,qF])
   (refine sch_yes (v:=?_) rfl (by kernel_rfl) (by rfl) ?_ (by assumption) ?_;rotate_left 1;(· (intro w hSw;(try dsimp only at hSw);go_simp<;>(with_reducible rfl)));try simp only[Act.put,qA,qB,qC,qD,qE,qF])
   (refine sch_yes (v:=?_) rfl (by kernel_rfl) (by rfl) ?_ (by assumption) ?_;rotate_left 1;(· (intro w hSw;(try dsimp only at hSw);go_simp<;>(with_reducible rfl)));try simp only[Act.put,qA,qB,qC,qD,qE,qF])
   (refine sch_yes (v:=?_) rfl (by kernel_rfl) (by rfl) ?_ (by assumption) ?_;rotate_left 1;(· (intro w hSw;(try dsimp only at hSw);go_simp<;>(with_reducible rfl)));try simp only[Act.put,qA,qB,qC,qD,qE,qF])
   (refine sch_yes (v:=?_) rfl (by kernel_rfl) (by rfl) ?_ (by assumption) ?_;rotate_left 1;(· (intro w hSw;(try dsimp only at hSw);go_simp<;>(with_reducible rfl)));try simp only[Act.put,qA,qB,qC,qD,qE,qF])
   refine sch_out ?_;refine wpAnyH_ready (rs:=[15]) (by kernel_rfl) (by simp) ?_;refine AllReadyH.cons rfl (fun K' hK'=>?_) AllReadyH.nil
   go_simp
   refine hK'.out _ _ hF2 (fun hHb15=>?_);clear hK'
   try simp only[Act.put,qA,qB,qC,qD,qE,qF]
   refine sch_in [19,20,21,22] ?_
   (refine sch_yes (v:=?_) rfl (by kernel_rfl) (by rfl) ?_ (by assumption) ?_;rotate_left 1;(· (intro w hSw;(try dsimp only at hSw);go_simp<;>(with_reducible rfl)));try simp only[Act.put,qA,qB,qC,qD,qE,qF])
   (refine sch_yes (v:=?_) rfl (by kernel_rfl) (by rfl) ?_ (by assumption) ?_;rotate_left 1;(· (intro w hSw;(try dsimp only at hSw);go_simp<;>(with_reducible rfl)));try simp only[Act.put,qA,qB,qC,qD,qE,qF])
   (refine sch_yes (v:=?_) rfl (by kernel_rfl) (by rfl) ?_ (by assumption) ?_;rotate_left 1;(· (intro w hSw;(try dsimp only at hSw);go_simp<;>(with_reducible rfl)));try simp only[Act.put,qA,qB,qC,qD,qE,qF])
   (refine sch_yes (v:=?_) rfl (by kernel_rfl) (by rfl) ?_ (by assumption) ?_;rotate_left 1;(· (intro w hSw;(try dsimp only at hSw);go_simp<;>(with_reducible rfl)));try simp only[Act.put,qA,qB,qC,qD,qE,qF])
   refine sch_out ?_;refine wpAnyH_done (by kernel_rfl) ?_ _;refine NoPanic.normal ?_;go_wp2_with fail;go_ret;exact⟨ret_b (by rw[decide_eq_true h3];rfl),HT2.out,HW0.out.trans HW2.out⟩
  ·have h3d:decide (a≤n)=false:=decide_eq_false h3;go_enter Tryz.func116,Tryz.ntmps116;go_wp2_with fail;refine wp_region_noPanic ?_;refine wp_region_held_drew (S:=FrS b1 b2 b3 b0 w.heap.size T i1 i2 t a) (by kernel_rfl) hS (fun hH0=>?_);refine sch_in [0,1] ?_
   iterate 2 (refine sch_yes (v:=?_) rfl (by kernel_rfl) (by rfl) ?_ (by assumption) ?_;rotate_left 1;(· (intro w hSw;(try dsimp only at hSw);go_simp<;>(with_reducible rfl)));try simp only[Act.put,qA,qB,qC,qD,qE,qF])
   refine sch_out ?_;refine wpAnyH_ready (rs:=[2]) (by kernel_rfl) (by simp) ?_;refine AllReadyH.cons rfl (fun K' hK'=>?_) AllReadyH.nil
   go_simp
   refine CD.out.mono ?_;rintro r w2 ⟨rfl,hT2,hW2⟩
   (try go_wp2_with fail)
   have hF2:=HF.out w2 hT2 hW2;have cn:w2.cell? ⟨T,i2,none⟩=some (.int .i64 n):=hT2.c i2 _ (List.getElem?_set_self HI2.out);have HT2:=zh hT2;have HW2:=zh hW2;clear hT2 hW2;refine hK'.out _ _ hF2 (fun hHa=>?_);clear hK'
   try simp only[Act.put,qA,qB,qC,qD,qE,qF]
   refine sch_in [3,4,5,6,7,8] ?_
   (refine sch_yes (v:=?_) rfl (by kernel_rfl) (by rfl) ?_ (by assumption) ?_;rotate_left 1;(· (intro w hSw;(try dsimp only at hSw);go_simp<;>(with_reducible rfl)));try simp only[Act.put,qA,qB,qC,qD,qE,qF])
   (refine sch_yes (v:=?_) rfl (by kernel_rfl) (by rfl) ?_ (by assumption) ?_;rotate_left 1;(· (intro w hSw;(try dsimp only at hSw);go_simp<;>(with_reducible rfl)));try simp only[Act.put,qA,qB,qC,qD,qE,qF])
   (refine sch_yes (v:=?_) rfl (by kernel_rfl) (by rfl) ?_ (by assumption) ?_;rotate_left 1;(· (intro w hSw;(try dsimp only at hSw);go_simp<;>(with_reducible rfl)));try simp only[Act.put,qA,qB,qC,qD,qE,qF])
   (refine sch_yes (v:=?_) rfl (by kernel_rfl) (by rfl) ?_ (by assumption) ?_;rotate_left 1;(· (intro w hSw;(try dsimp only at hSw);go_simp<;>(with_reducible rfl)));try simp only[Act.put,qA,qB,qC,qD,qE,qF])
   (refine sch_yes (v:=?_) rfl (by kernel_rfl) (by rfl) ?_ (by assumption) ?_;rotate_left 1;(· (intro w hSw;(try dsimp only at hSw);go_simp<;>(with_reducible rfl)));try simp only[Act.put,qA,qB,qC,qD,qE,qF])
   (refine sch_yes (v:=?_) rfl (by kernel_rfl) (by rfl) ?_ (by assumption) ?_;rotate_left 1;(· (intro w hSw;(try dsimp only at hSw);go_simp<;>(with_reducible rfl)));try simp only[Act.put,qA,qB,qC,qD,qE,qF])
   refine sch_out ?_;refine wpAnyH_ready (rs:=[9]) (by kernel_rfl) (by simp) ?_;refine AllReadyH.cons rfl (fun K' hK'=>?_) AllReadyH.nil
   go_simp
   refine hK'.out _ _ hF2 (fun hHb9=>?_);clear hK'
   try simp only[Act.put,qA,qB,qC,qD,qE,qF]
   refine sch_in [10,11,12,13,14,15,16,17,18,19,20,21,22] ?_
   (refine sch_yes (v:=?_) rfl (by kernel_rfl) (by rfl) ?_ (by assumption) ?_;rotate_left 1;(· (intro w hSw;(try dsimp only at hSw);go_simp<;>(with_reducible rfl)));try simp only[Act.put,qA,qB,qC,qD,qE,qF])
   (refine sch_yes (v:=?_) rfl (by kernel_rfl) (by rfl) ?_ (by assumption) ?_;rotate_left 1;(· (intro w hSw;(try dsimp only at hSw);go_simp<;>(with_reducible rfl)));try simp only[Act.put,qA,qB,qC,qD,qE,qF])
   (refine sch_yes (v:=?_) rfl (by kernel_rfl) (by rfl) ?_ (by assumption) ?_;rotate_left 1;(· (intro w hSw;(try dsimp only at hSw);go_simp<;>(with_reducible rfl)));try simp only[Act.put,qA,qB,qC,qD,qE,qF])
   (refine sch_no rfl (by kernel_rfl) (by rfl) (by assumption) ?_;try simp only[Act.put,qA,qB,qC,qD,qE,qF])
   (refine sch_no rfl (by kernel_rfl) (by rfl) (by assumption) ?_;try simp only[Act.put,qA,qB,qC,qD,qE,qF])
   (refine sch_no rfl (by kernel_rfl) (by rfl) (by assumption) ?_;try simp only[Act.put,qA,qB,qC,qD,qE,qF])
   (refine sch_no rfl (by kernel_rfl) (by rfl) (by assumption) ?_;try simp only[Act.put,qA,qB,qC,qD,qE,qF])
   (refine sch_no rfl (by kernel_rfl) (by rfl) (by assumption) ?_;try simp only[Act.put,qA,qB,qC,qD,qE,qF])
   (refine sch_no rfl (by kernel_rfl) (by rfl) (by assumption) ?_;try simp only[Act.put,qA,qB,qC,qD,qE,qF])
   (refine sch_no rfl (by kernel_rfl) (by rfl) (by assumption) ?_;try simp only[Act.put,qA,qB,qC,qD,qE,qF])
   (refine sch_no rfl (by kernel_rfl) (by rfl) (by assumption) ?_;try simp only[Act.put,qA,qB,qC,qD,qE,qF])
   (refine sch_yes (v:=?_) rfl (by kernel_rfl) (by rfl) ?_ (by assumption) ?_;rotate_left 1;(· (intro w hSw;(try dsimp only at hSw);go_simp<;>(with_reducible rfl)));try simp only[Act.put,qA,qB,qC,qD,qE,qF])
   (refine sch_yes (v:=?_) rfl (by kernel_rfl) (by rfl) ?_ (by assumption) ?_;rotate_left 1;(· (intro w hSw;(try dsimp only at hSw);go_simp<;>(with_reducible rfl)));try simp only[Act.put,qA,qB,qC,qD,qE,qF])
   refine sch_out ?_;refine wpAnyH_done (by kernel_rfl) ?_ _;refine NoPanic.normal ?_;go_wp2_with fail;go_ret;exact⟨ret_b (by rw[decide_eq_false (show ¬a≤n by omega)];rfl),HT2.out,HW0.out.trans HW2.out⟩
end Go.Proofs.YtmllklfjngapiaaGreatDoor
set_option maxHeartbeats 4000000
set_option maxRecDepth 100000
namespace Go.Proofs.YtmllklfjngapiaaGreatDoor
open Go.RowKit
open Wd (Tk okT ktT)
open Tm (Nd plainN arI arN)
open Pz (Wt tgt settleF)
open Pz (Ms Px Nm nmF dyF frF naF abF sgF opName idx4 takeF)
theorem al3(w:World)(x y z:Value)(tx ty tz:TypeId):Below w.heap.size w (((w.alloc (.cells #[x] tx)).alloc (.cells #[y] ty)).alloc (.cells #[z] tz))∧(((w.alloc (.cells #[x] tx)).alloc (.cells #[y] ty)).alloc (.cells #[z] tz)).cell? ⟨w.heap.size,0,none⟩=some x ∧
  (((w.alloc (.cells #[x] tx)).alloc (.cells #[y] ty)).alloc (.cells #[z] tz)).cell? ⟨w.heap.size+1,0,none⟩=some y∧(((w.alloc (.cells #[x] tx)).alloc (.cells #[y] ty)).alloc (.cells #[z] tz)).cell? ⟨w.heap.size+1+1,0,none⟩=some z:=by
 have k1:=blk_new w #[x] tx;have b1:Below w.heap.size w (w.alloc (.cells #[x] tx)):=Below.alloc (Below.refl _ _) (Nat.le_refl _) _;have k2:=blk_new (w.alloc (.cells #[x] tx)) #[y] ty;have b2:Below (w.alloc (.cells #[x] tx)).heap.size (w.alloc (.cells #[x] tx)) ((w.alloc (.cells #[x] tx)).alloc (.cells #[y] ty)):=Below.alloc (Below.refl _ _) (Nat.le_refl _) _;have k3:=blk_new ((w.alloc (.cells #[x] tx)).alloc (.cells #[y] ty)) #[z] tz;have b3:Below ((w.alloc (.cells #[x] tx)).alloc (.cells #[y] ty)).heap.size ((w.alloc (.cells #[x] tx)).alloc (.cells #[y] ty)) (((w.alloc (.cells #[x] tx)).alloc (.cells #[y] ty)).alloc (.cells #[z] tz)):=Below.alloc (Below.refl _ _) (Nat.le_refl _) _;have s1:(w.alloc (.cells #[x] tx)).heap.size=w.heap.size+1:=by simp
 have s2:((w.alloc (.cells #[x] tx)).alloc (.cells #[y] ty)).heap.size=w.heap.size+1+1:=by simp
 refine⟨Below.more (Below.more b1 b2) b3,((k1.below b2).below b3).c 0 _ rfl,?_,?_⟩
 ·have k:=(k2.below b3).c 0 _ rfl;rw[s1]at k;exact k
 ·have k:=k3.c 0 _ rfl;rw[s2]at k;exact k
theorem kabove_any(q:Option Addr)(w:World):Calls Tryz.prog 111 #[.pointer q] w (fun r w'=>r=.returned (.func (.func 147) #[] #[.pointer (some ⟨w.heap.size+1+1,0,none⟩),.pointer (some ⟨w.heap.size,0,none⟩)])∧Below w.heap.size w w'∧w.heap.size+1+1<w'.heap.size ∧
  w'.cell? ⟨w.heap.size+1+1,0,none⟩=some (.func (.func 145) #[] #[.pointer (some ⟨w.heap.size+1,0,none⟩)])∧w'.cell? ⟨w.heap.size,0,none⟩=some (.pointer q)∧w'.cell? ⟨w.heap.size+1,0,none⟩=some (.pointer q)):=by
 have c0:(w.alloc (.cells #[.pointer q] 113)).cell? ⟨w.heap.size,0,none⟩=some (.pointer q):=(blk_new w #[.pointer q] 113).c 0 _ rfl;have HA:=zh (al3 w (.pointer q) (.pointer q) (.func (.func 145) #[] #[.pointer (some ⟨w.heap.size+1,0,none⟩)]) 113 113 79);go_enter Tryz.func111,Tryz.ntmps111;go_wp2_with fail;refine(knatural_any _ _).mono ?_;rintro r w1 ⟨rfl,hw1⟩;have HW:=zh hw1;have HS:Hid (w1.heap.size=w.heap.size+1+1):=zh (by rw[hw1];simp);clear hw1;go_wp2_with fail;go_ret;rw[HS.out,HW.out];exact⟨by simp,HA.out.1,by simp,HA.out.2.2.2,HA.out.2.1,HA.out.2.2.1⟩
theorem kfrom_any(q1 q2:Option Addr)(w:World):Calls Tryz.prog 79 #[.pointer q1,.pointer q2] w (fun r w'=>r=.returned (.func (.func 116) #[] #[.pointer (some ⟨w.heap.size+1+1+1,0,none⟩),.pointer (some ⟨w.heap.size,0,none⟩),.pointer (some ⟨w.heap.size+1,0,none⟩)])∧Below w.heap.size w w'∧w.heap.size+1+1+1<w'.heap.size ∧
  w'.cell? ⟨w.heap.size+1+1+1,0,none⟩=some (.func (.func 114) #[] #[.pointer (some ⟨w.heap.size+1+1,0,none⟩)])∧w'.cell? ⟨w.heap.size,0,none⟩=some (.pointer q1)∧w'.cell? ⟨w.heap.size+1,0,none⟩=some (.pointer q2)∧w'.cell? ⟨w.heap.size+1+1,0,none⟩=some (.pointer q2)):=by
 have c0:((w.alloc (.cells #[.pointer q1] 86)).alloc (.cells #[.pointer q2] 86)).cell? ⟨w.heap.size+1,0,none⟩=some (.pointer q2):=by
  have k:=(blk_new (w.alloc (.cells #[.pointer q1] 86)) #[.pointer q2] 86).c 0 _ rfl;rw[show (w.alloc (.cells #[.pointer q1] 86)).heap.size=w.heap.size+1 by simp]at k;exact k
 have h4:=al3 (w.alloc (.cells #[.pointer q1] 86)) (.pointer q2) (.pointer q2) (.func (.func 114) #[] #[.pointer (some ⟨w.heap.size+1+1,0,none⟩)]) 86 86 79;have H0:=zh (show Below w.heap.size w (w.alloc (.cells #[.pointer q1] 86)) from Below.alloc (Below.refl _ _) (Nat.le_refl _) _);have HK:=zh (blk_new w #[.pointer q1] 86);have hs1:(w.alloc (.cells #[.pointer q1] 86)).heap.size=w.heap.size+1:=by simp
 have HH:=zh hs1;rw[hs1]at h4;have HA:=zh h4;clear h4 hs1;go_enter Tryz.func79,Tryz.ntmps79;go_wp2_with fail;refine(kday_any _ _).mono ?_;rintro r w1 ⟨rfl,hw1⟩;have HW:=zh hw1;have HS:Hid (w1.heap.size=w.heap.size+1+1+1):=zh (by rw[hw1];simp);clear hw1;go_wp2_with fail;go_ret;rw[HS.out,HW.out];exact⟨by simp,H0.out.trans (HA.out.1.mono (Nat.le_succ _)),by simp,HA.out.2.2.2,(HK.out.below (by rw[HH.out];exact HA.out.1)).c 0 _ rfl,HA.out.2.1,HA.out.2.2.1⟩
theorem same_cell{V W:World}{lo b:Nat}{x:Value}(h:∀b,lo≤b→b<W.heap.size→V.heap[b]?=W.heap[b]?)(hc:W.cell? ⟨b,0,none⟩=some x)(hb:lo≤b):V.cell? ⟨b,0,none⟩=some x :=
 (World.cell?_of_block (w:=W) (a:=⟨b,0,none⟩) (h b hb (World.block_lt_of_cell? W ⟨b,0,none⟩ hc))).trans hc
theorem enters_name:EntersF 113:=enters Tryz.func113 (by kernel_rfl) rfl
theorem enters_day:EntersF 114:=enters Tryz.func114 (by kernel_rfl) rfl
theorem enters_natural:EntersF 145:=enters Tryz.func145 (by kernel_rfl) rfl
theorem enters_above0:EntersF 147:=enters Tryz.func147 (by kernel_rfl) rfl
theorem enters_from:EntersF 116:=enters Tryz.func116 (by kernel_rfl) rfl
theorem enters_number:EntersF 73:=enters Tryz.func73 (by kernel_rfl) rfl
theorem enters_infix:EntersF 81:=enters Tryz.func81 (by kernel_rfl) rfl
theorem enters_known:EntersF 75:=enters Tryz.func75 (by kernel_rfl) rfl
def pxC(op:Int)(s:Px):List Value:=[.int .i64 op,.string ⟨#[]⟩,.string ⟨#[]⟩,.string ⟨s.1.toArray⟩,.int .i64 s.2.1,.int .i64 s.2.2]
def pxI(op:Int)(T:Nat)(s:Px)(w:World):Prop:=Blk T (pxC op s) w∧0≤s.2.1∧s.2.1≤9223372036854775807
theorem pxTg(op:Int)(T:Nat):TgI (pxI op T) [T]:=fun s V V' Xs h hw hx=>⟨h.1.wr hw (hx T List.mem_cons_self),h.2⟩
def nuI(T1 T2:Nat)(s:Nm)(w:World):Prop:=Blk T1 [.string ⟨s.1.toArray⟩] w∧Blk T2 [.string ⟨s.2.toArray⟩] w
theorem nuTg(T1 T2:Nat):TgI (nuI T1 T2) [T1,T2]:=fun s V V' Xs h hw hx=>⟨h.1.wr hw (hx T1 (by simp)),h.2.wr hw (hx T2 (by simp))⟩
def xI(T:Nat)(s:Nm)(w:World):Prop:=Blk T [.string ⟨s.1.toArray⟩,.string ⟨s.2.toArray⟩] w
theorem xTg(T:Nat):TgI (xI T) [T]:=fun s V V' Xs h hw hx=>h.wr hw (hx T List.mem_cons_self)
def oI(T:Nat)(s:Int)(w:World):Prop:=Blk T [.int .i64 s] w
theorem oTg(T:Nat):TgI (oI T) [T]:=fun s V V' Xs h hw hx=>h.wr hw (hx T List.mem_cons_self)
def numF:Ms Nm:=fun s k=>(decide ((parS k.2).2=0∧(parS k.2).1.1.length≤60∧(parS k.2).1.2.length≤60),(parS k.2).1)
def infF:Ms Int:=fun s k=>(decide (0≤idx4 k.2),if 0≤idx4 k.2 then 6+idx4 k.2 else s)
def knF:Ms Int:=fun s k=>((opName k.2).isSome,(opName k.2).getD s)
theorem name_is(op:Int)(T:Nat)(w:World)(hT:T<w.heap.size):IsM (pxI op T) [T] nmF (.func (.func 113) #[] #[.pointer (some ⟨w.heap.size,0,none⟩)]) w.heap.size (w.alloc (.cells #[.pointer (some ⟨T,3,none⟩)] 113)) :=
 ⟨_,_,rfl,enters_name,fun V s t h1 h2 _ hs _ _=>(mname_any t w.heap.size T 3 (pxC op s) V (same_cell h1 ((blk_new w #[.pointer (some ⟨T,3,none⟩)] 113).c 0 _ rfl) (Nat.le_refl _)) hs.1 (by show 3<6;decide)).mono fun r w' ⟨a,b,c⟩=>⟨a,⟨b,hs.2⟩,c⟩⟩
theorem day_is(op:Int)(T:Nat)(w:World)(hT:T<w.heap.size):IsM (pxI op T) [T] dyF (.func (.func 114) #[] #[.pointer (some ⟨w.heap.size,0,none⟩)]) w.heap.size (w.alloc (.cells #[.pointer (some ⟨T,4,none⟩)] 86)) :=
 ⟨_,_,rfl,enters_day,fun V s t h1 h2 hg hs _ hl=>(mday_any t w.heap.size T 4 (pxC op s) V hg.er (by omega) (same_cell h1 ((blk_new w #[.pointer (some ⟨T,4,none⟩)] 86).c 0 _ rfl) (Nat.le_refl _)) hs.1 (by show 4<6;decide)).mono fun r w' ⟨a,b,c⟩=>⟨a,⟨b,Pz.small_nn _,small_max _⟩,c⟩⟩
theorem from_is(op:Int)(T:Nat){w w':World}(hT:T<w.heap.size)(h0:w.heap.size+1+1+1<w'.heap.size)
  (k1:w'.cell? ⟨w.heap.size+1+1+1,0,none⟩=some (.func (.func 114) #[] #[.pointer (some ⟨w.heap.size+1+1,0,none⟩)])) (k2:w'.cell? ⟨w.heap.size,0,none⟩=some (.pointer (some ⟨T,4,none⟩))) (k3:w'.cell? ⟨w.heap.size+1,0,none⟩=some (.pointer (some ⟨T,5,none⟩))) (k4:w'.cell? ⟨w.heap.size+1+1,0,none⟩=some (.pointer (some ⟨T,5,none⟩))) :
  IsM (pxI op T) [T] frF (.func (.func 116) #[] #[.pointer (some ⟨w.heap.size+1+1+1,0,none⟩),.pointer (some ⟨w.heap.size,0,none⟩),.pointer (some ⟨w.heap.size+1,0,none⟩)]) w.heap.size w' :=
 ⟨_,_,rfl,enters_from,fun V s t h1 h2 hg hs _ hl=>(mfrom_any t (w.heap.size+1+1+1) w.heap.size (w.heap.size+1) (w.heap.size+1+1) T 4 5 (pxC op s) s.2.1 V hg.er (by omega) ⟨by have:=hs.2.1;omega,hs.2.2⟩ (same_cell h1 k1 (by omega)) (same_cell h1 k2 (by omega)) (same_cell h1 k3 (by omega)) (same_cell h1 k4 (by omega)) (by omega) (by omega) (by omega) hs.1 rfl (by show 5<6;decide) (by decide)).mono fun r w' ⟨a,b,c⟩=>⟨a,⟨b,hs.2⟩,c⟩⟩
theorem natur_is(T1 T2:Nat)(w:World)(hT:T1<w.heap.size)(hne:T2≠T1):IsM (nuI T1 T2) [T1,T2] naF (.func (.func 145) #[] #[.pointer (some ⟨w.heap.size,0,none⟩)]) w.heap.size (w.alloc (.cells #[.pointer (some ⟨T1,0,none⟩)] 113)) :=
 ⟨_,_,rfl,enters_natural,fun V s t h1 h2 hg hs _ hl=>(mnat_any t w.heap.size T1 0 [.string ⟨s.1.toArray⟩] V (by omega) (same_cell h1 ((blk_new w #[.pointer (some ⟨T1,0,none⟩)] 113).c 0 _ rfl) (Nat.le_refl _)) hs.1 (by show 0<1;decide)).mono fun r w' ⟨a,b,c⟩=>⟨a,⟨b,hs.2.wr c (by simpa using hne)⟩,c.mono fun x hx=>by have:=List.mem_singleton.1 hx;subst this;simp⟩⟩
theorem above_is(T1 T2:Nat){w w':World}(hT:T2<w.heap.size)(hne:T1≠T2)(h0:w.heap.size+1+1<w'.heap.size)
  (k1:w'.cell? ⟨w.heap.size+1+1,0,none⟩=some (.func (.func 145) #[] #[.pointer (some ⟨w.heap.size+1,0,none⟩)])) (k2:w'.cell? ⟨w.heap.size,0,none⟩=some (.pointer (some ⟨T2,0,none⟩))) (k3:w'.cell? ⟨w.heap.size+1,0,none⟩=some (.pointer (some ⟨T2,0,none⟩))) :
  IsM (nuI T1 T2) [T1,T2] abF (.func (.func 147) #[] #[.pointer (some ⟨w.heap.size+1+1,0,none⟩),.pointer (some ⟨w.heap.size,0,none⟩)]) w.heap.size w' :=
 ⟨_,_,rfl,enters_above0,fun V s t h1 h2 hg hs _ hl=>(mabove_any t (w.heap.size+1+1) w.heap.size (w.heap.size+1) T2 0 [.string ⟨s.2.toArray⟩] V (by omega) (same_cell h1 k1 (by omega)) (same_cell h1 k2 (by omega)) (same_cell h1 k3 (by omega)) (by omega) hs.2 (by show 0<1;decide)).mono fun r w' ⟨a,b,c⟩=>⟨a,⟨hs.1.wr c (by simpa using hne),b⟩,c.mono fun x hx=>by have:=List.mem_singleton.1 hx;subst this;simp⟩⟩
theorem number_is(T:Nat)(w:World)(hT:T<w.heap.size):IsM (xI T) [T] numF (.func (.func 73) #[] #[.pointer (some ⟨w.heap.size,0,none⟩)]) w.heap.size (w.alloc (.cells #[.pointer (some ⟨T,0,none⟩)] 83)) :=
 ⟨_,_,rfl,enters_number,fun V s t h1 h2 hg hs _ hl=>(mnumber_any t w.heap.size T _ _ V hg.x.dec (by omega) (same_cell h1 ((blk_new w #[.pointer (some ⟨T,0,none⟩)] 83).c 0 _ rfl) (Nat.le_refl _)) hs).mono fun r w' ⟨a,b,c⟩=>⟨a,b,c⟩⟩
theorem idx_le{k:Nat×List UInt8}(h:okT k):idx4 k.2≤3:=by
 rcases Pz.inf_cases h with ⟨_,e⟩|⟨_,e⟩|⟨_,e⟩|⟨_,e⟩|⟨e,_⟩<;>omega
theorem infix_is(T:Nat)(w:World)(hT:T<w.heap.size):IsM (oI T) [T] infF (.func (.func 81) #[] #[.pointer (some ⟨w.heap.size,0,none⟩)]) w.heap.size (w.alloc (.cells #[.pointer (some ⟨T,0,none⟩)] 86)) :=
 ⟨_,_,rfl,enters_infix,fun V s t h1 h2 hg hs ok hl=>(minfix_any t w.heap.size T s V hg.x.dec (by omega) (by have:idx4 t.text≤3:=idx_le ok;omega) (same_cell h1 ((blk_new w #[.pointer (some ⟨T,0,none⟩)] 86).c 0 _ rfl) (Nat.le_refl _)) hs).mono fun r w' ⟨a,b,c⟩=>⟨a,b,c⟩⟩
end Go.Proofs.YtmllklfjngapiaaGreatDoor
