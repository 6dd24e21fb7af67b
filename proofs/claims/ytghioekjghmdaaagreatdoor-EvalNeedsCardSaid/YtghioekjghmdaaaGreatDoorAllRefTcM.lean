/- Own work. -/
import Derived.Test.YtghioekjghmdaaaGreatDoorAllRefTa
set_option linter.unusedSimpArgs false
set_option linter.unusedVariables false
set_option maxHeartbeats 4000000
set_option maxRecDepth 100000
namespace Go.Proofs.YtghioekjghmdaaaGreatDoor
open Go.RowKit
open Tm (Nd aboveP sgnO)
def encX(u:List UInt8):List Value:=[.string ⟨u.toArray⟩]
theorem encX_one(u:List UInt8):∀v∈encX u,v.oneCell'=true:=fun v hv=>by
 obtain rfl:=List.mem_singleton.1 hv;rfl
theorem txInfo:(Tryz.prog.info? 9).map (fun i=>(i.zero,i.size,i.bytes))=some (some (.string ⟨#[]⟩),1,16):=by kernel_rfl
theorem txs_rule{w:World}{p:Option Addr}{l:List (List UInt8)}(h:RowsG encX 1 w p l){k:Nat}{u:List UInt8}(hu:l[k]?=some u):∃b o,p=some ⟨b,o,none⟩∧∀v,Below w.heap.size w v→v.cell? ⟨b,o+k,none⟩=some (.string ⟨u.toArray⟩):=by
 obtain⟨b,o,hp,hl,c⟩:=h k u hu;refine⟨b,o,hp,fun v hb=>?_⟩;have k0:=c 0 _ rfl;rw[Nat.mul_one]at k0;exact(hb.cell (p:=⟨b,_,none⟩) hl).trans k0
theorem neg_text(u:List UInt8):(⟨#[40,45]⟩:ByteArray)++⟨u.toArray⟩++⟨#[41]⟩=⟨(40::45::(u++[41])).toArray⟩ :=
 bytes_eq (by rw[ba_append,ba_append];simp)
theorem sgn_text(u v:List UInt8)(c:UInt8):(⟨#[40]⟩:ByteArray)++⟨u.toArray⟩++⟨#[32]⟩++⟨#[c]⟩++⟨#[32]⟩++⟨v.toArray⟩++⟨#[41]⟩=⟨(40::(u++32::c::32::(v++[41]))).toArray⟩ :=
 bytes_eq (by rw[ba_append,ba_append,ba_append,ba_append,ba_append,ba_append];simp)
theorem above_5{b o c:Nat}{u:List UInt8}(w:World)(hu:u.length≤4611686018427387904)(k0:∀v,Below w.heap.size w v→v.cell? ⟨b,o,none⟩=some (.string ⟨u.toArray⟩)):Calls Tryz.prog 74 #[.int .i64 5,.slice (some ⟨b,o,none⟩) 1 c] w (GiveU w (40::45::(u++[41]))):=by
 have z0:¬9223372036854775807<2+u.length:=by omega
 have z1:¬9223372036854775807<2+u.length+1:=by omega
 have b0:=Below.refl w.heap.size w;go_enter Tryz.func74,Tryz.ntmps74;go_wp2_with fail;go_ret;exact⟨ret_u (neg_text u),b0⟩
theorem above_6{b o c:Nat}{u v:List UInt8}(w:World)(hu:u.length≤4611686018427387904)(hv:v.length≤1000000000)(k0:∀v,Below w.heap.size w v→v.cell? ⟨b,o,none⟩=some (.string ⟨u.toArray⟩))(k1:∀x,Below w.heap.size w x→x.cell? ⟨b,o+1,none⟩=some (.string ⟨v.toArray⟩)):Calls Tryz.prog 74 #[.int .i64 6,.slice (some ⟨b,o,none⟩) 2 c] w (GiveU w (40::(u++32::43::32::(v++[41])))):=by
 have z0:¬9223372036854775807<1+u.length:=by omega
 have z1:¬9223372036854775807<1+u.length+1:=by omega
 have z2:¬9223372036854775807<1+u.length+1+1:=by omega
 have z3:¬9223372036854775807<1+u.length+1+1+1:=by omega
 have z4:¬9223372036854775807<1+u.length+1+1+1+v.length:=by omega
 have z5:¬9223372036854775807<1+u.length+1+1+1+v.length+1:=by omega
 have b0:=Below.refl w.heap.size w;have w6:IntKind.i64.wrap 0=0:=by decide
 have w5:IntKind.i64.wrap 1=1:=by decide
 have hB:=zh (Nat.le_refl w.heap.size);have hx:ByteArray.extract ⟨#[43,45,42,47]⟩ 0 1=⟨#[43]⟩:=by decide
 go_enter Tryz.func74,Tryz.ntmps74;go_wp2_with fail;refine wp_region_noPanic ?_;refine wp_region_held_drew (S:=fun w'=>Below w.heap.size w w') (by kernel_rfl) (b0.drew) (fun hH0=>?_);refine sch_in [0,1,2,3,4,5,6,7,8,9,10,11,12,13,14,15,16,17] ?_
 iterate 18 (refine sch_yes (v:=?_) rfl (by kernel_rfl) (by rfl) ?_ (by assumption) ?_;rotate_left 1;(· (intro w hSw;(try dsimp only at hSw);go_simp<;>(with_reducible rfl)));try simp only[Act.put,qA,qB,qC,qD,qE,qF])
 refine sch_out ?_;refine wpAnyH_done (by kernel_rfl) ?_ _;refine NoPanic.normal ?_;have b9:=hH0;clear hH0;go_wp2_with fail;go_ret;exact⟨ret_u (sgn_text u v 43),b9⟩
theorem above_7{b o c:Nat}{u v:List UInt8}(w:World)(hu:u.length≤4611686018427387904)(hv:v.length≤1000000000)(k0:∀v,Below w.heap.size w v→v.cell? ⟨b,o,none⟩=some (.string ⟨u.toArray⟩))(k1:∀x,Below w.heap.size w x→x.cell? ⟨b,o+1,none⟩=some (.string ⟨v.toArray⟩)):Calls Tryz.prog 74 #[.int .i64 7,.slice (some ⟨b,o,none⟩) 2 c] w (GiveU w (40::(u++32::45::32::(v++[41])))):=by
 have z0:¬9223372036854775807<1+u.length:=by omega
 have z1:¬9223372036854775807<1+u.length+1:=by omega
 have z2:¬9223372036854775807<1+u.length+1+1:=by omega
 have z3:¬9223372036854775807<1+u.length+1+1+1:=by omega
 have z4:¬9223372036854775807<1+u.length+1+1+1+v.length:=by omega
 have z5:¬9223372036854775807<1+u.length+1+1+1+v.length+1:=by omega
 have b0:=Below.refl w.heap.size w;have w6:IntKind.i64.wrap 1=1:=by decide
 have w5:IntKind.i64.wrap 2=2:=by decide
 have hB:=zh (Nat.le_refl w.heap.size);have hx:ByteArray.extract ⟨#[43,45,42,47]⟩ 1 2=⟨#[45]⟩:=by decide
 go_enter Tryz.func74,Tryz.ntmps74;go_wp2_with fail;refine wp_region_noPanic ?_;refine wp_region_held_drew (S:=fun w'=>Below w.heap.size w w') (by kernel_rfl) (b0.drew) (fun hH0=>?_);refine sch_in [0,1,2,3,4,5,6,7,8,9,10,11,12,13,14,15,16,17] ?_
 iterate 18 (refine sch_yes (v:=?_) rfl (by kernel_rfl) (by rfl) ?_ (by assumption) ?_;rotate_left 1;(· (intro w hSw;(try dsimp only at hSw);go_simp<;>(with_reducible rfl)));try simp only[Act.put,qA,qB,qC,qD,qE,qF])
 refine sch_out ?_;refine wpAnyH_done (by kernel_rfl) ?_ _;refine NoPanic.normal ?_;have b9:=hH0;clear hH0;go_wp2_with fail;go_ret;exact⟨ret_u (sgn_text u v 45),b9⟩
theorem above_8{b o c:Nat}{u v:List UInt8}(w:World)(hu:u.length≤4611686018427387904)(hv:v.length≤1000000000)(k0:∀v,Below w.heap.size w v→v.cell? ⟨b,o,none⟩=some (.string ⟨u.toArray⟩))(k1:∀x,Below w.heap.size w x→x.cell? ⟨b,o+1,none⟩=some (.string ⟨v.toArray⟩)):Calls Tryz.prog 74 #[.int .i64 8,.slice (some ⟨b,o,none⟩) 2 c] w (GiveU w (40::(u++32::42::32::(v++[41])))):=by
 have z0:¬9223372036854775807<1+u.length:=by omega
 have z1:¬9223372036854775807<1+u.length+1:=by omega
 have z2:¬9223372036854775807<1+u.length+1+1:=by omega
 have z3:¬9223372036854775807<1+u.length+1+1+1:=by omega
 have z4:¬9223372036854775807<1+u.length+1+1+1+v.length:=by omega
 have z5:¬9223372036854775807<1+u.length+1+1+1+v.length+1:=by omega
 have b0:=Below.refl w.heap.size w;have w6:IntKind.i64.wrap 2=2:=by decide
 have w5:IntKind.i64.wrap 3=3:=by decide
 have hB:=zh (Nat.le_refl w.heap.size);have hx:ByteArray.extract ⟨#[43,45,42,47]⟩ 2 3=⟨#[42]⟩:=by decide
 go_enter Tryz.func74,Tryz.ntmps74;go_wp2_with fail;refine wp_region_noPanic ?_;refine wp_region_held_drew (S:=fun w'=>Below w.heap.size w w') (by kernel_rfl) (b0.drew) (fun hH0=>?_);refine sch_in [0,1,2,3,4,5,6,7,8,9,10,11,12,13,14,15,16,17] ?_
 iterate 18 (refine sch_yes (v:=?_) rfl (by kernel_rfl) (by rfl) ?_ (by assumption) ?_;rotate_left 1;(· (intro w hSw;(try dsimp only at hSw);go_simp<;>(with_reducible rfl)));try simp only[Act.put,qA,qB,qC,qD,qE,qF])
 refine sch_out ?_;refine wpAnyH_done (by kernel_rfl) ?_ _;refine NoPanic.normal ?_;have b9:=hH0;clear hH0;go_wp2_with fail;go_ret;exact⟨ret_u (sgn_text u v 42),b9⟩
theorem above_9{b o c:Nat}{u v:List UInt8}(w:World)(hu:u.length≤4611686018427387904)(hv:v.length≤1000000000)(k0:∀v,Below w.heap.size w v→v.cell? ⟨b,o,none⟩=some (.string ⟨u.toArray⟩))(k1:∀x,Below w.heap.size w x→x.cell? ⟨b,o+1,none⟩=some (.string ⟨v.toArray⟩)):Calls Tryz.prog 74 #[.int .i64 9,.slice (some ⟨b,o,none⟩) 2 c] w (GiveU w (40::(u++32::47::32::(v++[41])))):=by
 have z0:¬9223372036854775807<1+u.length:=by omega
 have z1:¬9223372036854775807<1+u.length+1:=by omega
 have z2:¬9223372036854775807<1+u.length+1+1:=by omega
 have z3:¬9223372036854775807<1+u.length+1+1+1:=by omega
 have z4:¬9223372036854775807<1+u.length+1+1+1+v.length:=by omega
 have z5:¬9223372036854775807<1+u.length+1+1+1+v.length+1:=by omega
 have b0:=Below.refl w.heap.size w;have w6:IntKind.i64.wrap 3=3:=by decide
 have w5:IntKind.i64.wrap 4=4:=by decide
 have hB:=zh (Nat.le_refl w.heap.size);have hx:ByteArray.extract ⟨#[43,45,42,47]⟩ 3 4=⟨#[47]⟩:=by decide
 go_enter Tryz.func74,Tryz.ntmps74;go_wp2_with fail;refine wp_region_noPanic ?_;refine wp_region_held_drew (S:=fun w'=>Below w.heap.size w w') (by kernel_rfl) (b0.drew) (fun hH0=>?_);refine sch_in [0,1,2,3,4,5,6,7,8,9,10,11,12,13,14,15,16,17] ?_
 iterate 18 (refine sch_yes (v:=?_) rfl (by kernel_rfl) (by rfl) ?_ (by assumption) ?_;rotate_left 1;(· (intro w hSw;(try dsimp only at hSw);go_simp<;>(with_reducible rfl)));try simp only[Act.put,qA,qB,qC,qD,qE,qF])
 refine sch_out ?_;refine wpAnyH_done (by kernel_rfl) ?_ _;refine NoPanic.normal ?_;have b9:=hH0;clear hH0;go_wp2_with fail;go_ret;exact⟨ret_u (sgn_text u v 47),b9⟩
end Go.Proofs.YtghioekjghmdaaaGreatDoor
set_option maxHeartbeats 4000000
set_option maxRecDepth 100000
namespace Go.Proofs.YtghioekjghmdaaaGreatDoor
open Go.RowKit
open Tm (Nd aboveP sgnO commas fnH)
theorem commas_snoc:∀ (l:List (List UInt8)) (x:List UInt8),commas (l++[x])=if l=[] then x else commas l++44::32::x
 | [],_=>rfl
 | [_],_=>rfl
 | u::y::r,x=>by
  have k:=commas_snoc (y::r) x;rw[if_neg (by simp)]at k ⊢;show u++44::32::commas (y::(r++[x]))=(u++44::32::commas (y::r))++44::32::x;have k:commas (y::(r++[x]))=commas (y::r)++44::32::x:=k;rw[k];simp
theorem commas_next{us:List (List UInt8)}{k:Nat}{x:List UInt8}(h:us[k]?=some x)(h1:1≤k):commas (us.take (k+1))=commas (us.take k)++44::32::x:=by
 have hk:=(List.getElem?_eq_some_iff.1 h).1;rw[List.take_add_one,h];show commas (us.take k++[x])=_;rw[commas_snoc,if_neg (fun e=>by have:=congrArg List.length e;rw[List.length_take,List.length_nil]at this;omega)]
theorem above_10{b o c:Nat}{us:List (List UInt8)}{u:List UInt8}(w:World)(h0:us[0]?=some u)(hm:1<us.length)(hm3:us.length≤3)(hb:∀x∈us,x.length≤1000000000)(HX:Hid (RowsG encX 1 w (some ⟨b,o,none⟩) us)):Calls Tryz.prog 74 #[.int .i64 10,.slice (some ⟨b,o,none⟩) us.length c] w (GiveU w ([109,97,120,40]++(commas us++[41]))):=by
 have hu:=hb u (List.mem_of_getElem? h0);have z0:¬9223372036854775807<4+u.length:=by omega
 have b0:=Below.refl w.heap.size w;have wz:IntKind.i64.wrap 0=0:=by decide
 have hB:=zh (Nat.le_refl w.heap.size);obtain⟨b',o',hbo,k0⟩:=txs_rule HX.out h0
 cases hbo
 simp only[Nat.add_zero]at k0;have HM:=zh hm3;have HBB:=zh hb
 have hmi:(0:Int)<(us.length:Int):=by omega
 have hm0:0<us.length:=by omega
 have hT1:Hid (us.take 1=[u]):=zh (by rw[List.take_add_one,h0];rfl);clear hm3 hb;go_enter Tryz.func74,Tryz.ntmps74;go_wp2_with fail;refine wp_region_noPanic ?_;refine wp_region_held_drew (S:=fun w'=>Below w.heap.size w w') (by kernel_rfl) (b0.drew) (fun hH0=>?_);refine sch_in [1,2,5,6,7] ?_
 iterate 5 (refine sch_yes (v:=?_) rfl (by kernel_rfl) (by rfl) ?_ (by assumption) ?_;rotate_left 1;(· (intro w hSw;(try dsimp only at hSw);go_simp<;>(with_reducible rfl)));try simp only[Act.put,qA,qB,qC,qD,qE,qF])
 refine sch_out ?_;refine wpAnyH_ready (rs:=[0]) (by kernel_rfl) (by simp) ?_;refine(AllReadyH.cons rfl (fun K hK=>?_) AllReadyH.nil)
 go_simp
 obtain⟨W1,hW1,bW1,sW1,ry0,ry1,ry2⟩:=lay3 b0 (.string ⟨#[109,97,120,40]⟩) (.string ⟨#[109,105,110,40]⟩) (.string ⟨#[105,102,40]⟩) 9;obtain⟨W2,hW2⟩:∃W2,W1.drew=W2:=⟨_,rfl⟩;have bD:Below W1.heap.size W1 W2:=hW2▸(Below.refl _ _).drew;have rz0:=fun v (h:Below W2.heap.size W2 v)=>ry0 v (Below.more bD h);have rz1:=fun v (h:Below W2.heap.size W2 v)=>ry1 v (Below.more bD h);have rz2:=fun v (h:Below W2.heap.size W2 v)=>ry2 v (Below.more bD h);have bW2:=Below.more bW1 bD;refine hK.out _ _ (by rw[hW1,hW2];exact bW2) (fun hH1=>?_);clear hK;rw[hW1,hW2];refine wpAnyH_from bW2 ?_;have hq:=Below.refl W2.heap.size W2;clear ry0 ry1 ry2 bD hW1 hW2
 try simp only[Act.put,qA,qB,qC,qD,qE,qF]
 refine sch_in [3,4,8,9] ?_
 iterate 4 (refine sch_yes (v:=?_) rfl (by kernel_rfl) (by rfl) ?_ (by assumption) ?_;rotate_left 1;(· (intro w hSw;(try dsimp only at hSw);go_simp<;>(with_reducible rfl)));try simp only[Act.put,qA,qB,qC,qD,qE,qF])
 refine sch_out ?_;refine wpAnyH_done (by kernel_rfl) ?_ _;refine NoPanic.normal ?_;have b2:=Below.more bW2 (by with_reducible assumption:Below W2.heap.size W2 _);go_wp2_with fail
 go_loopw [5,6] (fun sv iv wr=>∃ (j:Nat) (S:ByteArray),1≤j∧j≤us.length∧iv=.int .i64 j∧sv=.string S∧S.size≤2000000000*j∧Hid (S.data.toList=[109,97,120,40]++commas (us.take j))∧Below w.heap.size w wr) (fun _ iv _=>us.length-(intOf iv).toNat)
 case atStart=>exact⟨1,_,Nat.le_refl _,by omega,rfl,rfl,by rw[ByteArray.size_append,size_of];show 4+u.length≤_;omega,zh (by rw[ba_append,hT1.out];rfl),b2⟩
 case round =>
  obtain⟨j,S,hj1,hj,rfl,rfl,hsz,HS,hw⟩:=hrel;have HW:=zh hw;clear hw;have hm3:=HM.out;by_cases hlt:j<us.length
  ·have hji:(j:Int)<(us.length:Int):=by omega
   obtain⟨x,hx⟩:∃x,us[j]?=some x:=⟨_,List.getElem?_eq_getElem hlt⟩;have hxl:=HBB.out x (List.mem_of_getElem? hx);obtain⟨b',o',hbo,kx⟩:=txs_rule (HX.out.below HW.out) hx
   cases hbo
   have kx':=kx _ (Below.refl _ _);have HN:Hid ((S++((⟨#[44,32]⟩:ByteArray)++⟨x.toArray⟩)).data.toList=[109,97,120,40]++commas (us.take (j+1))):=zh (by rw[ba_append,ba_append,HS.out,commas_next hx hj1,List.append_assoc];rfl);have z1:¬9223372036854775807<2+x.length:=by omega
   have z2:¬9223372036854775807<S.size+(2+x.length):=by omega
   clear hx kx;go_wp2_with fail;go_roundw
   case rel=>exact⟨j+1,_,by omega,hlt,by go_num,rfl,by rw[ByteArray.size_append,ByteArray.size_append,size_of];show S.size+(2+x.length)≤_;omega,HN,HW.out⟩
   case measure=>simp[intOf];omega
  ·obtain rfl:j=us.length:=by omega
   have z1:¬9223372036854775807<S.size+1:=by omega
   have HE:Hid (S++(⟨#[41]⟩:ByteArray)=⟨([109,97,120,40]++(commas us++[41])).toArray⟩):=zh (bytes_eq (by rw[ba_append,HS.out,List.take_length,List.append_assoc]));clear HS;go_wp2_with fail;go_ret;exact⟨ret_u HE.out,HW.out⟩
theorem above_11{b o c:Nat}{us:List (List UInt8)}{u:List UInt8}(w:World)(h0:us[0]?=some u)(hm:1<us.length)(hm3:us.length≤3)(hb:∀x∈us,x.length≤1000000000)(HX:Hid (RowsG encX 1 w (some ⟨b,o,none⟩) us)):Calls Tryz.prog 74 #[.int .i64 11,.slice (some ⟨b,o,none⟩) us.length c] w (GiveU w ([109,105,110,40]++(commas us++[41]))):=by
 have hu:=hb u (List.mem_of_getElem? h0);have z0:¬9223372036854775807<4+u.length:=by omega
 have b0:=Below.refl w.heap.size w;have wz:IntKind.i64.wrap 1=1:=by decide
 have hB:=zh (Nat.le_refl w.heap.size);obtain⟨b',o',hbo,k0⟩:=txs_rule HX.out h0
 cases hbo
 simp only[Nat.add_zero]at k0;have HM:=zh hm3;have HBB:=zh hb
 have hmi:(0:Int)<(us.length:Int):=by omega
 have hm0:0<us.length:=by omega
 have hT1:Hid (us.take 1=[u]):=zh (by rw[List.take_add_one,h0];rfl);clear hm3 hb;go_enter Tryz.func74,Tryz.ntmps74;go_wp2_with fail;refine wp_region_noPanic ?_;refine wp_region_held_drew (S:=fun w'=>Below w.heap.size w w') (by kernel_rfl) (b0.drew) (fun hH0=>?_);refine sch_in [1,2,5,6,7] ?_
 iterate 5 (refine sch_yes (v:=?_) rfl (by kernel_rfl) (by rfl) ?_ (by assumption) ?_;rotate_left 1;(· (intro w hSw;(try dsimp only at hSw);go_simp<;>(with_reducible rfl)));try simp only[Act.put,qA,qB,qC,qD,qE,qF])
 refine sch_out ?_;refine wpAnyH_ready (rs:=[0]) (by kernel_rfl) (by simp) ?_;refine(AllReadyH.cons rfl (fun K hK=>?_) AllReadyH.nil)
 go_simp
 obtain⟨W1,hW1,bW1,sW1,ry0,ry1,ry2⟩:=lay3 b0 (.string ⟨#[109,97,120,40]⟩) (.string ⟨#[109,105,110,40]⟩) (.string ⟨#[105,102,40]⟩) 9;obtain⟨W2,hW2⟩:∃W2,W1.drew=W2:=⟨_,rfl⟩;have bD:Below W1.heap.size W1 W2:=hW2▸(Below.refl _ _).drew;have rz0:=fun v (h:Below W2.heap.size W2 v)=>ry0 v (Below.more bD h);have rz1:=fun v (h:Below W2.heap.size W2 v)=>ry1 v (Below.more bD h);have rz2:=fun v (h:Below W2.heap.size W2 v)=>ry2 v (Below.more bD h);have bW2:=Below.more bW1 bD;refine hK.out _ _ (by rw[hW1,hW2];exact bW2) (fun hH1=>?_);clear hK;rw[hW1,hW2];refine wpAnyH_from bW2 ?_;have hq:=Below.refl W2.heap.size W2;clear ry0 ry1 ry2 bD hW1 hW2
 try simp only[Act.put,qA,qB,qC,qD,qE,qF]
 refine sch_in [3,4,8,9] ?_
 iterate 4 (refine sch_yes (v:=?_) rfl (by kernel_rfl) (by rfl) ?_ (by assumption) ?_;rotate_left 1;(· (intro w hSw;(try dsimp only at hSw);go_simp<;>(with_reducible rfl)));try simp only[Act.put,qA,qB,qC,qD,qE,qF])
 refine sch_out ?_;refine wpAnyH_done (by kernel_rfl) ?_ _;refine NoPanic.normal ?_;have b2:=Below.more bW2 (by with_reducible assumption:Below W2.heap.size W2 _);go_wp2_with fail
 go_loopw [5,6] (fun sv iv wr=>∃ (j:Nat) (S:ByteArray),1≤j∧j≤us.length∧iv=.int .i64 j∧sv=.string S∧S.size≤2000000000*j∧Hid (S.data.toList=[109,105,110,40]++commas (us.take j))∧Below w.heap.size w wr) (fun _ iv _=>us.length-(intOf iv).toNat)
 case atStart=>exact⟨1,_,Nat.le_refl _,by omega,rfl,rfl,by rw[ByteArray.size_append,size_of];show 4+u.length≤_;omega,zh (by rw[ba_append,hT1.out];rfl),b2⟩
 case round =>
  obtain⟨j,S,hj1,hj,rfl,rfl,hsz,HS,hw⟩:=hrel;have HW:=zh hw;clear hw;have hm3:=HM.out;by_cases hlt:j<us.length
  ·have hji:(j:Int)<(us.length:Int):=by omega
   obtain⟨x,hx⟩:∃x,us[j]?=some x:=⟨_,List.getElem?_eq_getElem hlt⟩;have hxl:=HBB.out x (List.mem_of_getElem? hx);obtain⟨b',o',hbo,kx⟩:=txs_rule (HX.out.below HW.out) hx
   cases hbo
   have kx':=kx _ (Below.refl _ _);have HN:Hid ((S++((⟨#[44,32]⟩:ByteArray)++⟨x.toArray⟩)).data.toList=[109,105,110,40]++commas (us.take (j+1))):=zh (by rw[ba_append,ba_append,HS.out,commas_next hx hj1,List.append_assoc];rfl);have z1:¬9223372036854775807<2+x.length:=by omega
   have z2:¬9223372036854775807<S.size+(2+x.length):=by omega
   clear hx kx;go_wp2_with fail;go_roundw
   case rel=>exact⟨j+1,_,by omega,hlt,by go_num,rfl,by rw[ByteArray.size_append,ByteArray.size_append,size_of];show S.size+(2+x.length)≤_;omega,HN,HW.out⟩
   case measure=>simp[intOf];omega
  ·obtain rfl:j=us.length:=by omega
   have z1:¬9223372036854775807<S.size+1:=by omega
   have HE:Hid (S++(⟨#[41]⟩:ByteArray)=⟨([109,105,110,40]++(commas us++[41])).toArray⟩):=zh (bytes_eq (by rw[ba_append,HS.out,List.take_length,List.append_assoc]));clear HS;go_wp2_with fail;go_ret;exact⟨ret_u HE.out,HW.out⟩
theorem above_12{b o c:Nat}{us:List (List UInt8)}{u:List UInt8}(w:World)(h0:us[0]?=some u)(hm:1<us.length)(hm3:us.length≤3)(hb:∀x∈us,x.length≤1000000000)(HX:Hid (RowsG encX 1 w (some ⟨b,o,none⟩) us)):Calls Tryz.prog 74 #[.int .i64 12,.slice (some ⟨b,o,none⟩) us.length c] w (GiveU w ([105,102,40]++(commas us++[41]))):=by
 have hu:=hb u (List.mem_of_getElem? h0);have z0:¬9223372036854775807<3+u.length:=by omega
 have b0:=Below.refl w.heap.size w;have wz:IntKind.i64.wrap 2=2:=by decide
 have hB:=zh (Nat.le_refl w.heap.size);obtain⟨b',o',hbo,k0⟩:=txs_rule HX.out h0
 cases hbo
 simp only[Nat.add_zero]at k0;have HM:=zh hm3;have HBB:=zh hb
 have hmi:(0:Int)<(us.length:Int):=by omega
 have hm0:0<us.length:=by omega
 have hT1:Hid (us.take 1=[u]):=zh (by rw[List.take_add_one,h0];rfl);clear hm3 hb;go_enter Tryz.func74,Tryz.ntmps74;go_wp2_with fail;refine wp_region_noPanic ?_;refine wp_region_held_drew (S:=fun w'=>Below w.heap.size w w') (by kernel_rfl) (b0.drew) (fun hH0=>?_);refine sch_in [1,2,5,6,7] ?_
 iterate 5 (refine sch_yes (v:=?_) rfl (by kernel_rfl) (by rfl) ?_ (by assumption) ?_;rotate_left 1;(· (intro w hSw;(try dsimp only at hSw);go_simp<;>(with_reducible rfl)));try simp only[Act.put,qA,qB,qC,qD,qE,qF])
 refine sch_out ?_;refine wpAnyH_ready (rs:=[0]) (by kernel_rfl) (by simp) ?_;refine(AllReadyH.cons rfl (fun K hK=>?_) AllReadyH.nil)
 go_simp
 obtain⟨W1,hW1,bW1,sW1,ry0,ry1,ry2⟩:=lay3 b0 (.string ⟨#[109,97,120,40]⟩) (.string ⟨#[109,105,110,40]⟩) (.string ⟨#[105,102,40]⟩) 9;obtain⟨W2,hW2⟩:∃W2,W1.drew=W2:=⟨_,rfl⟩;have bD:Below W1.heap.size W1 W2:=hW2▸(Below.refl _ _).drew;have rz0:=fun v (h:Below W2.heap.size W2 v)=>ry0 v (Below.more bD h);have rz1:=fun v (h:Below W2.heap.size W2 v)=>ry1 v (Below.more bD h);have rz2:=fun v (h:Below W2.heap.size W2 v)=>ry2 v (Below.more bD h);have bW2:=Below.more bW1 bD;refine hK.out _ _ (by rw[hW1,hW2];exact bW2) (fun hH1=>?_);clear hK;rw[hW1,hW2];refine wpAnyH_from bW2 ?_;have hq:=Below.refl W2.heap.size W2;clear ry0 ry1 ry2 bD hW1 hW2
 try simp only[Act.put,qA,qB,qC,qD,qE,qF]
 refine sch_in [3,4,8,9] ?_
 iterate 4 (refine sch_yes (v:=?_) rfl (by kernel_rfl) (by rfl) ?_ (by assumption) ?_;rotate_left 1;(· (intro w hSw;(try dsimp only at hSw);go_simp<;>(with_reducible rfl)));try simp only[Act.put,qA,qB,qC,qD,qE,qF])
 refine sch_out ?_;refine wpAnyH_done (by kernel_rfl) ?_ _;refine NoPanic.normal ?_;have b2:=Below.more bW2 (by with_reducible assumption:Below W2.heap.size W2 _);go_wp2_with fail
 go_loopw [5,6] (fun sv iv wr=>∃ (j:Nat) (S:ByteArray),1≤j∧j≤us.length∧iv=.int .i64 j∧sv=.string S∧S.size≤2000000000*j∧Hid (S.data.toList=[105,102,40]++commas (us.take j))∧Below w.heap.size w wr) (fun _ iv _=>us.length-(intOf iv).toNat)
 case atStart=>exact⟨1,_,Nat.le_refl _,by omega,rfl,rfl,by rw[ByteArray.size_append,size_of];show 3+u.length≤_;omega,zh (by rw[ba_append,hT1.out];rfl),b2⟩
 case round =>
  obtain⟨j,S,hj1,hj,rfl,rfl,hsz,HS,hw⟩:=hrel;have HW:=zh hw;clear hw;have hm3:=HM.out;by_cases hlt:j<us.length
  ·have hji:(j:Int)<(us.length:Int):=by omega
   obtain⟨x,hx⟩:∃x,us[j]?=some x:=⟨_,List.getElem?_eq_getElem hlt⟩;have hxl:=HBB.out x (List.mem_of_getElem? hx);obtain⟨b',o',hbo,kx⟩:=txs_rule (HX.out.below HW.out) hx
   cases hbo
   have kx':=kx _ (Below.refl _ _);have HN:Hid ((S++((⟨#[44,32]⟩:ByteArray)++⟨x.toArray⟩)).data.toList=[105,102,40]++commas (us.take (j+1))):=zh (by rw[ba_append,ba_append,HS.out,commas_next hx hj1,List.append_assoc];rfl);have z1:¬9223372036854775807<2+x.length:=by omega
   have z2:¬9223372036854775807<S.size+(2+x.length):=by omega
   clear hx kx;go_wp2_with fail;go_roundw
   case rel=>exact⟨j+1,_,by omega,hlt,by go_num,rfl,by rw[ByteArray.size_append,ByteArray.size_append,size_of];show S.size+(2+x.length)≤_;omega,HN,HW.out⟩
   case measure=>simp[intOf];omega
  ·obtain rfl:j=us.length:=by omega
   have z1:¬9223372036854775807<S.size+1:=by omega
   have HE:Hid (S++(⟨#[41]⟩:ByteArray)=⟨([105,102,40]++(commas us++[41])).toArray⟩):=zh (bytes_eq (by rw[ba_append,HS.out,List.take_length,List.append_assoc]));clear HS;go_wp2_with fail;go_ret;exact⟨ret_u HE.out,HW.out⟩
theorem rtabove_any(op:Int)(p:Option Addr)(c:Nat)(us:List (List UInt8))(w:World)(ha:Tm.arN op=some us.length)(h1:1≤us.length)(hb:∀x∈us,x.length≤1000000000)(h:RowsG encX 1 w p us) :
  Calls Tryz.prog 74 #[.int .i64 op,.slice p us.length c] w (GiveU w (aboveP op us)):=by
 have h3:=Tm.arN_le ha
 match us,h1,h3 with
 | [u],_,_ =>
  obtain rfl:=Tm.ops1 ha;obtain⟨b,o,rfl,k0⟩:=txs_rule h (k:=0) rfl;exact above_5 w (Nat.le_trans (hb u (by simp)) (by decide)) k0
 | [u,v],_,_ =>
  obtain⟨b,o,rfl,k0⟩:=txs_rule h (k:=0) rfl;obtain⟨b',o',hbo,k1⟩:=txs_rule h (k:=1) rfl
  cases hbo
  have hu:u.length≤4611686018427387904:=Nat.le_trans (hb u (by simp)) (by decide);have hv:v.length≤1000000000:=hb v (by simp);rcases Tm.ops2 ha with rfl|rfl|rfl|rfl|rfl|rfl
  ·exact above_6 w hu hv k0 k1
  ·exact above_7 w hu hv k0 k1
  ·exact above_8 w hu hv k0 k1
  ·exact above_9 w hu hv k0 k1
  ·exact above_10 w rfl (by simp) (by simp) hb (zh h)
  ·exact above_11 w rfl (by simp) (by simp) hb (zh h)
 | [u,v,t],_,_ =>
  obtain⟨b,o,rfl,k0⟩:=txs_rule h (k:=0) rfl;obtain rfl:=Tm.ops3 ha;exact above_12 w rfl (by simp) (by simp) hb (zh h)
 | _::_::_::_::_,_,h3=>simp only[List.length_cons]at h3;omega
end Go.Proofs.YtghioekjghmdaaaGreatDoor
