/- Own work. -/
import Derived.Test.YtghioekjghmdaaaGreatDoorTk
import Derived.Test.YtghioekjghmdaaaGreatDoorAllRefTa
import Derived.Test.YtghioekjghmdaaaGreatDoorTermNum5M
set_option linter.unusedSimpArgs false
set_option linter.unusedVariables false
set_option maxHeartbeats 4000000
set_option maxRecDepth 100000
namespace Go.Proofs.YtghioekjghmdaaaGreatDoor
open Go.RowKit
open Tm (Nd aboveP sgnO)
def encX(u:List UInt8):List Value:=[.string ⟨u.toArray⟩]
theorem encX_one(u:List UInt8):∀v∈encX u,v.oneCell'=true:=fun v hv=>by
 obtain rfl:=List.mem_singleton.1 hv;rfl
theorem txInfo:(Tryz.prog.info? 9).map (fun i=>(i.zero,i.size,i.bytes))=some (some (.string ⟨#[]⟩),1,16):=by kernel_rfl
theorem txs_rule{w:World}{p:Option Addr}{l:List (List UInt8)}(h:RowsG encX 1 w p l){k:Nat}{u:List UInt8}(hu:l[k]?=some u):∃b o,p=some ⟨b,o,none⟩∧∀v,Below w.heap.size w v→v.cell? ⟨b,o+k,none⟩=some (.string ⟨u.toArray⟩):=by
 obtain⟨b,o,hp,hl,c⟩:=h k u hu;refine⟨b,o,hp,fun v hb=>?_⟩;have k0:=c 0 _ rfl;rw[Nat.mul_one]at k0;exact(hb.cell (p:=⟨b,_,none⟩) hl).trans k0
theorem neg_text(u:List UInt8):(⟨#[40,45]⟩:ByteArray)++⟨u.toArray⟩++⟨#[41]⟩=⟨(40::45::(u++[41])).toArray⟩ :=
 bytes_eq (by rw[ba_append,ba_append];simp)
theorem sgn_text(u v:List UInt8)(c:UInt8):(⟨#[40]⟩:ByteArray)++⟨u.toArray⟩++⟨#[32]⟩++⟨#[c]⟩++⟨#[32]⟩++⟨v.toArray⟩++⟨#[41]⟩=⟨(40::(u++32::c::32::(v++[41]))).toArray⟩ :=
 bytes_eq (by rw[ba_append,ba_append,ba_append,ba_append,ba_append,ba_append];simp)
theorem above_5{b o c:Nat}{u:List UInt8}(w:World)(hu:u.length≤4611686018427387904)(k0:∀v,Below w.heap.size w v→v.cell? ⟨b,o,none⟩=some (.string ⟨u.toArray⟩)):Calls Tryz.prog 74 #[.int .i64 5,.slice (some ⟨b,o,none⟩) 1 c] w (GiveU w (40::45::(u++[41]))):=by
 have z0:¬9223372036854775807<2+u.length:=by omega
 have z1:¬9223372036854775807<2+u.length+1:=by omega
 have b0:=Below.refl w.heap.size w;go_enter Tryz.func74,Tryz.ntmps74;go_wp2_with fail;go_ret;exact⟨ret_u (neg_text u),b0⟩
theorem above_6{b o c:Nat}{u v:List UInt8}(w:World)(hu:u.length≤4611686018427387904)(hv:v.length≤1000000000)(k0:∀v,Below w.heap.size w v→v.cell? ⟨b,o,none⟩=some (.string ⟨u.toArray⟩))(k1:∀x,Below w.heap.size w x→x.cell? ⟨b,o+1,none⟩=some (.string ⟨v.toArray⟩)):Calls Tryz.prog 74 #[.int .i64 6,.slice (some ⟨b,o,none⟩) 2 c] w (GiveU w (40::(u++32::43::32::(v++[41])))):=by
 have z0:¬9223372036854775807<1+u.length:=by omega
 have z1:¬9223372036854775807<1+u.length+1:=by omega
 have z2:¬9223372036854775807<1+u.length+1+1:=by omega
 have z3:¬9223372036854775807<1+u.length+1+1+1:=by omega
 have z4:¬9223372036854775807<1+u.length+1+1+1+v.length:=by omega
 have z5:¬9223372036854775807<1+u.length+1+1+1+v.length+1:=by omega
 have b0:=Below.refl w.heap.size w;have w6:IntKind.i64.wrap 0=0:=by decide
 have w5:IntKind.i64.wrap 1=1:=by decide
 have hB:=zh (Nat.le_refl w.heap.size);have hx:ByteArray.extract ⟨#[43,45,42,47]⟩ 0 1=⟨#[43]⟩:=by decide
 go_enter Tryz.func74,Tryz.ntmps74;go_wp2_with fail;refine tkG (S:=fun w'=>Below w.heap.size w w') (b0.drew) (fun hH0=>?_);refine sch_in [0,1,2,3,4,5,6,7,8,9,10,11,12,13,14,15,16,17] ?_
 iterate 18 (refine scY ?_;try simp only[Act.put,qA,qB,qC,qD,qE,qF])
 refine sch_out ?_;refine tkD ?_;have b9:=hH0;clear hH0;go_wp2_with fail;go_ret;exact⟨ret_u (sgn_text u v 43),b9⟩
theorem above_7{b o c:Nat}{u v:List UInt8}(w:World)(hu:u.length≤4611686018427387904)(hv:v.length≤1000000000)(k0:∀v,Below w.heap.size w v→v.cell? ⟨b,o,none⟩=some (.string ⟨u.toArray⟩))(k1:∀x,Below w.heap.size w x→x.cell? ⟨b,o+1,none⟩=some (.string ⟨v.toArray⟩)):Calls Tryz.prog 74 #[.int .i64 7,.slice (some ⟨b,o,none⟩) 2 c] w (GiveU w (40::(u++32::45::32::(v++[41])))):=by
 have z0:¬9223372036854775807<1+u.length:=by omega
 have z1:¬9223372036854775807<1+u.length+1:=by omega
 have z2:¬9223372036854775807<1+u.length+1+1:=by omega
 have z3:¬9223372036854775807<1+u.length+1+1+1:=by omega
 have z4:¬9223372036854775807<1+u.length+1+1+1+v.length:=by omega
 have z5:¬9223372036854775807<1+u.length+1+1+1+v.length+1:=by omega
 have b0:=Below.refl w.heap.size w;have w6:IntKind.i64.wrap 1=1:=by decide
 have w5:IntKind.i64.wrap 2=2:=by decide
 have hB:=zh (Nat.le_refl w.heap.size);have hx:ByteArray.extract ⟨#[43,45,42,47]⟩ 1 2=⟨#[45]⟩:=by decide
 go_enter Tryz.func74,Tryz.ntmps74;go_wp2_with fail;refine tkG (S:=fun w'=>Below w.heap.size w w') (b0.drew) (fun hH0=>?_);refine sch_in [0,1,2,3,4,5,6,7,8,9,10,11,12,13,14,15,16,17] ?_
 iterate 18 (refine scY ?_;try simp only[Act.put,qA,qB,qC,qD,qE,qF])
 refine sch_out ?_;refine tkD ?_;have b9:=hH0;clear hH0;go_wp2_with fail;go_ret;exact⟨ret_u (sgn_text u v 45),b9⟩
theorem above_8{b o c:Nat}{u v:List UInt8}(w:World)(hu:u.length≤4611686018427387904)(hv:v.length≤1000000000)(k0:∀v,Below w.heap.size w v→v.cell? ⟨b,o,none⟩=some (.string ⟨u.toArray⟩))(k1:∀x,Below w.heap.size w x→x.cell? ⟨b,o+1,none⟩=some (.string ⟨v.toArray⟩)):Calls Tryz.prog 74 #[.int .i64 8,.slice (some ⟨b,o,none⟩) 2 c] w (GiveU w (40::(u++32::42::32::(v++[41])))):=by
 have z0:¬9223372036854775807<1+u.length:=by omega
 have z1:¬9223372036854775807<1+u.length+1:=by omega
 have z2:¬9223372036854775807<1+u.length+1+1:=by omega
 have z3:¬9223372036854775807<1+u.length+1+1+1:=by omega
 have z4:¬9223372036854775807<1+u.length+1+1+1+v.length:=by omega
 have z5:¬9223372036854775807<1+u.length+1+1+1+v.length+1:=by omega
 have b0:=Below.refl w.heap.size w;have w6:IntKind.i64.wrap 2=2:=by decide
 have w5:IntKind.i64.wrap 3=3:=by decide
 have hB:=zh (Nat.le_refl w.heap.size);have hx:ByteArray.extract ⟨#[43,45,42,47]⟩ 2 3=⟨#[42]⟩:=by decide
 go_enter Tryz.func74,Tryz.ntmps74;go_wp2_with fail;refine tkG (S:=fun w'=>Below w.heap.size w w') (b0.drew) (fun hH0=>?_);refine sch_in [0,1,2,3,4,5,6,7,8,9,10,11,12,13,14,15,16,17] ?_
 iterate 18 (refine scY ?_;try simp only[Act.put,qA,qB,qC,qD,qE,qF])
 refine sch_out ?_;refine tkD ?_;have b9:=hH0;clear hH0;go_wp2_with fail;go_ret;exact⟨ret_u (sgn_text u v 42),b9⟩
theorem above_9{b o c:Nat}{u v:List UInt8}(w:World)(hu:u.length≤4611686018427387904)(hv:v.length≤1000000000)(k0:∀v,Below w.heap.size w v→v.cell? ⟨b,o,none⟩=some (.string ⟨u.toArray⟩))(k1:∀x,Below w.heap.size w x→x.cell? ⟨b,o+1,none⟩=some (.string ⟨v.toArray⟩)):Calls Tryz.prog 74 #[.int .i64 9,.slice (some ⟨b,o,none⟩) 2 c] w (GiveU w (40::(u++32::47::32::(v++[41])))):=by
 have z0:¬9223372036854775807<1+u.length:=by omega
 have z1:¬9223372036854775807<1+u.length+1:=by omega
 have z2:¬9223372036854775807<1+u.length+1+1:=by omega
 have z3:¬9223372036854775807<1+u.length+1+1+1:=by omega
 have z4:¬9223372036854775807<1+u.length+1+1+1+v.length:=by omega
 have z5:¬9223372036854775807<1+u.length+1+1+1+v.length+1:=by omega
 have b0:=Below.refl w.heap.size w;have w6:IntKind.i64.wrap 3=3:=by decide
 have w5:IntKind.i64.wrap 4=4:=by decide
 have hB:=zh (Nat.le_refl w.heap.size);have hx:ByteArray.extract ⟨#[43,45,42,47]⟩ 3 4=⟨#[47]⟩:=by decide
 go_enter Tryz.func74,Tryz.ntmps74;go_wp2_with fail;refine tkG (S:=fun w'=>Below w.heap.size w w') (b0.drew) (fun hH0=>?_);refine sch_in [0,1,2,3,4,5,6,7,8,9,10,11,12,13,14,15,16,17] ?_
 iterate 18 (refine scY ?_;try simp only[Act.put,qA,qB,qC,qD,qE,qF])
 refine sch_out ?_;refine tkD ?_;have b9:=hH0;clear hH0;go_wp2_with fail;go_ret;exact⟨ret_u (sgn_text u v 47),b9⟩
end Go.Proofs.YtghioekjghmdaaaGreatDoor
set_option maxHeartbeats 4000000
set_option maxRecDepth 100000
namespace Go.Proofs.YtghioekjghmdaaaGreatDoor
open Go.RowKit
open Tm (Nd aboveP sgnO commas fnH)
theorem commas_snoc:∀ (l:List (List UInt8)) (x:List UInt8),commas (l++[x])=if l=[] then x else commas l++44::32::x
 | [],_=>rfl
 | [_],_=>rfl
 | u::y::r,x=>by
  have k:=commas_snoc (y::r) x;rw[if_neg (by simp)]at k ⊢;show u++44::32::commas (y::(r++[x]))=(u++44::32::commas (y::r))++44::32::x;have k:commas (y::(r++[x]))=commas (y::r)++44::32::x:=k;rw[k];simp
theorem commas_next{us:List (List UInt8)}{k:Nat}{x:List UInt8}(h:us[k]?=some x)(h1:1≤k):commas (us.take (k+1))=commas (us.take k)++44::32::x:=by
 have hk:=(List.getElem?_eq_some_iff.1 h).1;rw[List.take_add_one,h];show commas (us.take k++[x])=_;rw[commas_snoc,if_neg (fun e=>by have:=congrArg List.length e;rw[List.length_take,List.length_nil]at this;omega)]
theorem above_10{b o c:Nat}{us:List (List UInt8)}{u:List UInt8}(w:World)(h0:us[0]?=some u)(hm:1<us.length)(hm3:us.length≤3)(hb:∀x∈us,x.length≤1000000000)(HX:Hid (RowsG encX 1 w (some ⟨b,o,none⟩) us)):Calls Tryz.prog 74 #[.int .i64 10,.slice (some ⟨b,o,none⟩) us.length c] w (GiveU w ([109,97,120,40]++(commas us++[41]))):=by
 have hu:=hb u (List.mem_of_getElem? h0);have z0:¬9223372036854775807<4+u.length:=by omega
 have b0:=Below.refl w.heap.size w;have wz:IntKind.i64.wrap 0=0:=by decide
 have hB:=zh (Nat.le_refl w.heap.size);obtain⟨b',o',hbo,k0⟩:=txs_rule HX.out h0
 cases hbo
 simp only[Nat.add_zero]at k0;have HM:=zh hm3;have HBB:=zh hb
 have hmi:(0:Int)<(us.length:Int):=by omega
 have hm0:0<us.length:=by omega
 have hT1:Hid (us.take 1=[u]):=zh (by rw[List.take_add_one,h0];rfl);clear hm3 hb;go_enter Tryz.func74,Tryz.ntmps74;go_wp2_with fail;refine tkG (S:=fun w'=>Below w.heap.size w w') (b0.drew) (fun hH0=>?_);refine sch_in [1,2,5,6,7] ?_
 iterate 5 (refine scY ?_;try simp only[Act.put,qA,qB,qC,qD,qE,qF])
 refine sch_out ?_;refine wpAnyH_ready (rs:=[0]) (by kernel_rfl) (by simp) ?_;refine(AllReadyH.cons rfl (fun K hK=>?_) AllReadyH.nil)
 go_simp
 obtain⟨W1,hW1,bW1,sW1,ry0,ry1,ry2⟩:=lay3 b0 (.string ⟨#[109,97,120,40]⟩) (.string ⟨#[109,105,110,40]⟩) (.string ⟨#[105,102,40]⟩) 9;obtain⟨W2,hW2⟩:∃W2,W1.drew=W2:=⟨_,rfl⟩;have bD:Below W1.heap.size W1 W2:=hW2▸(Below.refl _ _).drew;have rz0:=fun v (h:Below W2.heap.size W2 v)=>ry0 v (Below.more bD h);have rz1:=fun v (h:Below W2.heap.size W2 v)=>ry1 v (Below.more bD h);have rz2:=fun v (h:Below W2.heap.size W2 v)=>ry2 v (Below.more bD h);have bW2:=Below.more bW1 bD;refine hK.out _ _ (by rw[hW1,hW2];exact bW2) (fun hH1=>?_);clear hK;rw[hW1,hW2];refine wpAnyH_from bW2 ?_;have hq:=Below.refl W2.heap.size W2;clear ry0 ry1 ry2 bD hW1 hW2
 try simp only[Act.put,qA,qB,qC,qD,qE,qF]
 refine sch_in [3,4,8,9] ?_
 iterate 4 (refine scY ?_;try simp only[Act.put,qA,qB,qC,qD,qE,qF])
 refine sch_out ?_;refine tkD ?_;have b2:=Below.more bW2 (by with_reducible assumption:Below W2.heap.size W2 _);go_wp2_with fail
 go_loopw [5,6] (fun sv iv wr=>∃ (j:Nat) (S:ByteArray),1≤j∧j≤us.length∧iv=.int .i64 j∧sv=.string S∧S.size≤2000000000*j∧Hid (S.data.toList=[109,97,120,40]++commas (us.take j))∧Below w.heap.size w wr) (fun _ iv _=>us.length-(intOf iv).toNat)
 case atStart=>exact⟨1,_,Nat.le_refl _,by omega,rfl,rfl,by rw[ByteArray.size_append,size_of];show 4+u.length≤_;omega,zh (by rw[ba_append,hT1.out];rfl),b2⟩
 case round =>
  obtain⟨j,S,hj1,hj,rfl,rfl,hsz,HS,hw⟩:=hrel;have HW:=zh hw;clear hw;have hm3:=HM.out;by_cases hlt:j<us.length
  ·have hji:(j:Int)<(us.length:Int):=by omega
   obtain⟨x,hx⟩:∃x,us[j]?=some x:=⟨_,List.getElem?_eq_getElem hlt⟩;have hxl:=HBB.out x (List.mem_of_getElem? hx);obtain⟨b',o',hbo,kx⟩:=txs_rule (HX.out.below HW.out) hx
   cases hbo
   have kx':=kx _ (Below.refl _ _);have HN:Hid ((S++((⟨#[44,32]⟩:ByteArray)++⟨x.toArray⟩)).data.toList=[109,97,120,40]++commas (us.take (j+1))):=zh (by rw[ba_append,ba_append,HS.out,commas_next hx hj1,List.append_assoc];rfl);have z1:¬9223372036854775807<2+x.length:=by omega
   have z2:¬9223372036854775807<S.size+(2+x.length):=by omega
   clear hx kx;go_wp2_with fail;go_roundw
   case rel=>exact⟨j+1,_,by omega,hlt,by go_num,rfl,by rw[ByteArray.size_append,ByteArray.size_append,size_of];show S.size+(2+x.length)≤_;omega,HN,HW.out⟩
   case measure=>simp[intOf];omega
  ·obtain rfl:j=us.length:=by omega
   have z1:¬9223372036854775807<S.size+1:=by omega
   have HE:Hid (S++(⟨#[41]⟩:ByteArray)=⟨([109,97,120,40]++(commas us++[41])).toArray⟩):=zh (bytes_eq (by rw[ba_append,HS.out,List.take_length,List.append_assoc]));clear HS;go_wp2_with fail;go_ret;exact⟨ret_u HE.out,HW.out⟩
theorem above_11{b o c:Nat}{us:List (List UInt8)}{u:List UInt8}(w:World)(h0:us[0]?=some u)(hm:1<us.length)(hm3:us.length≤3)(hb:∀x∈us,x.length≤1000000000)(HX:Hid (RowsG encX 1 w (some ⟨b,o,none⟩) us)):Calls Tryz.prog 74 #[.int .i64 11,.slice (some ⟨b,o,none⟩) us.length c] w (GiveU w ([109,105,110,40]++(commas us++[41]))):=by
 have hu:=hb u (List.mem_of_getElem? h0);have z0:¬9223372036854775807<4+u.length:=by omega
 have b0:=Below.refl w.heap.size w;have wz:IntKind.i64.wrap 1=1:=by decide
 have hB:=zh (Nat.le_refl w.heap.size);obtain⟨b',o',hbo,k0⟩:=txs_rule HX.out h0
 cases hbo
 simp only[Nat.add_zero]at k0;have HM:=zh hm3;have HBB:=zh hb
 have hmi:(0:Int)<(us.length:Int):=by omega
 have hm0:0<us.length:=by omega
 have hT1:Hid (us.take 1=[u]):=zh (by rw[List.take_add_one,h0];rfl);clear hm3 hb;go_enter Tryz.func74,Tryz.ntmps74;go_wp2_with fail;refine tkG (S:=fun w'=>Below w.heap.size w w') (b0.drew) (fun hH0=>?_);refine sch_in [1,2,5,6,7] ?_
 iterate 5 (refine scY ?_;try simp only[Act.put,qA,qB,qC,qD,qE,qF])
 refine sch_out ?_;refine wpAnyH_ready (rs:=[0]) (by kernel_rfl) (by simp) ?_;refine(AllReadyH.cons rfl (fun K hK=>?_) AllReadyH.nil)
 go_simp
 obtain⟨W1,hW1,bW1,sW1,ry0,ry1,ry2⟩:=lay3 b0 (.string ⟨#[109,97,120,40]⟩) (.string ⟨#[109,105,110,40]⟩) (.string ⟨#[105,102,40]⟩) 9;obtain⟨W2,hW2⟩:∃W2,W1.drew=W2:=⟨_,rfl⟩;have bD:Below W1.heap.size W1 W2:=hW2▸(Below.refl _ _).drew;have rz0:=fun v (h:Below W2.heap.size W2 v)=>ry0 v (Below.more bD h);have rz1:=fun v (h:Below W2.heap.size W2 v)=>ry1 v (Below.more bD h);have rz2:=fun v (h:Below W2.heap.size W2 v)=>ry2 v (Below.more bD h);have bW2:=Below.more bW1 bD;refine hK.out _ _ (by rw[hW1,hW2];exact bW2) (fun hH1=>?_);clear hK;rw[hW1,hW2];refine wpAnyH_from bW2 ?_;have hq:=Below.refl W2.heap.size W2;clear ry0 ry1 ry2 bD hW1 hW2
 try simp only[Act.put,qA,qB,qC,qD,qE,qF]
 refine sch_in [3,4,8,9] ?_
 iterate 4 (refine scY ?_;try simp only[Act.put,qA,qB,qC,qD,qE,qF])
 refine sch_out ?_;refine tkD ?_;have b2:=Below.more bW2 (by with_reducible assumption:Below W2.heap.size W2 _);go_wp2_with fail
 go_loopw [5,6] (fun sv iv wr=>∃ (j:Nat) (S:ByteArray),1≤j∧j≤us.length∧iv=.int .i64 j∧sv=.string S∧S.size≤2000000000*j∧Hid (S.data.toList=[109,105,110,40]++commas (us.take j))∧Below w.heap.size w wr) (fun _ iv _=>us.length-(intOf iv).toNat)
 case atStart=>exact⟨1,_,Nat.le_refl _,by omega,rfl,rfl,by rw[ByteArray.size_append,size_of];show 4+u.length≤_;omega,zh (by rw[ba_append,hT1.out];rfl),b2⟩
 case round =>
  obtain⟨j,S,hj1,hj,rfl,rfl,hsz,HS,hw⟩:=hrel;have HW:=zh hw;clear hw;have hm3:=HM.out;by_cases hlt:j<us.length
  ·have hji:(j:Int)<(us.length:Int):=by omega
   obtain⟨x,hx⟩:∃x,us[j]?=some x:=⟨_,List.getElem?_eq_getElem hlt⟩;have hxl:=HBB.out x (List.mem_of_getElem? hx);obtain⟨b',o',hbo,kx⟩:=txs_rule (HX.out.below HW.out) hx
   cases hbo
   have kx':=kx _ (Below.refl _ _);have HN:Hid ((S++((⟨#[44,32]⟩:ByteArray)++⟨x.toArray⟩)).data.toList=[109,105,110,40]++commas (us.take (j+1))):=zh (by rw[ba_append,ba_append,HS.out,commas_next hx hj1,List.append_assoc];rfl);have z1:¬9223372036854775807<2+x.length:=by omega
   have z2:¬9223372036854775807<S.size+(2+x.length):=by omega
   clear hx kx;go_wp2_with fail;go_roundw
   case rel=>exact⟨j+1,_,by omega,hlt,by go_num,rfl,by rw[ByteArray.size_append,ByteArray.size_append,size_of];show S.size+(2+x.length)≤_;omega,HN,HW.out⟩
   case measure=>simp[intOf];omega
  ·obtain rfl:j=us.length:=by omega
   have z1:¬9223372036854775807<S.size+1:=by omega
   have HE:Hid (S++(⟨#[41]⟩:ByteArray)=⟨([109,105,110,40]++(commas us++[41])).toArray⟩):=zh (bytes_eq (by rw[ba_append,HS.out,List.take_length,List.append_assoc]));clear HS;go_wp2_with fail;go_ret;exact⟨ret_u HE.out,HW.out⟩
theorem above_12{b o c:Nat}{us:List (List UInt8)}{u:List UInt8}(w:World)(h0:us[0]?=some u)(hm:1<us.length)(hm3:us.length≤3)(hb:∀x∈us,x.length≤1000000000)(HX:Hid (RowsG encX 1 w (some ⟨b,o,none⟩) us)):Calls Tryz.prog 74 #[.int .i64 12,.slice (some ⟨b,o,none⟩) us.length c] w (GiveU w ([105,102,40]++(commas us++[41]))):=by
 have hu:=hb u (List.mem_of_getElem? h0);have z0:¬9223372036854775807<3+u.length:=by omega
 have b0:=Below.refl w.heap.size w;have wz:IntKind.i64.wrap 2=2:=by decide
 have hB:=zh (Nat.le_refl w.heap.size);obtain⟨b',o',hbo,k0⟩:=txs_rule HX.out h0
 cases hbo
 simp only[Nat.add_zero]at k0;have HM:=zh hm3;have HBB:=zh hb
 have hmi:(0:Int)<(us.length:Int):=by omega
 have hm0:0<us.length:=by omega
 have hT1:Hid (us.take 1=[u]):=zh (by rw[List.take_add_one,h0];rfl);clear hm3 hb;go_enter Tryz.func74,Tryz.ntmps74;go_wp2_with fail;refine tkG (S:=fun w'=>Below w.heap.size w w') (b0.drew) (fun hH0=>?_);refine sch_in [1,2,5,6,7] ?_
 iterate 5 (refine scY ?_;try simp only[Act.put,qA,qB,qC,qD,qE,qF])
 refine sch_out ?_;refine wpAnyH_ready (rs:=[0]) (by kernel_rfl) (by simp) ?_;refine(AllReadyH.cons rfl (fun K hK=>?_) AllReadyH.nil)
 go_simp
 obtain⟨W1,hW1,bW1,sW1,ry0,ry1,ry2⟩:=lay3 b0 (.string ⟨#[109,97,120,40]⟩) (.string ⟨#[109,105,110,40]⟩) (.string ⟨#[105,102,40]⟩) 9;obtain⟨W2,hW2⟩:∃W2,W1.drew=W2:=⟨_,rfl⟩;have bD:Below W1.heap.size W1 W2:=hW2▸(Below.refl _ _).drew;have rz0:=fun v (h:Below W2.heap.size W2 v)=>ry0 v (Below.more bD h);have rz1:=fun v (h:Below W2.heap.size W2 v)=>ry1 v (Below.more bD h);have rz2:=fun v (h:Below W2.heap.size W2 v)=>ry2 v (Below.more bD h);have bW2:=Below.more bW1 bD;refine hK.out _ _ (by rw[hW1,hW2];exact bW2) (fun hH1=>?_);clear hK;rw[hW1,hW2];refine wpAnyH_from bW2 ?_;have hq:=Below.refl W2.heap.size W2;clear ry0 ry1 ry2 bD hW1 hW2
 try simp only[Act.put,qA,qB,qC,qD,qE,qF]
 refine sch_in [3,4,8,9] ?_
 iterate 4 (refine scY ?_;try simp only[Act.put,qA,qB,qC,qD,qE,qF])
 refine sch_out ?_;refine tkD ?_;have b2:=Below.more bW2 (by with_reducible assumption:Below W2.heap.size W2 _);go_wp2_with fail
 go_loopw [5,6] (fun sv iv wr=>∃ (j:Nat) (S:ByteArray),1≤j∧j≤us.length∧iv=.int .i64 j∧sv=.string S∧S.size≤2000000000*j∧Hid (S.data.toList=[105,102,40]++commas (us.take j))∧Below w.heap.size w wr) (fun _ iv _=>us.length-(intOf iv).toNat)
 case atStart=>exact⟨1,_,Nat.le_refl _,by omega,rfl,rfl,by rw[ByteArray.size_append,size_of];show 3+u.length≤_;omega,zh (by rw[ba_append,hT1.out];rfl),b2⟩
 case round =>
  obtain⟨j,S,hj1,hj,rfl,rfl,hsz,HS,hw⟩:=hrel;have HW:=zh hw;clear hw;have hm3:=HM.out;by_cases hlt:j<us.length
  ·have hji:(j:Int)<(us.length:Int):=by omega
   obtain⟨x,hx⟩:∃x,us[j]?=some x:=⟨_,List.getElem?_eq_getElem hlt⟩;have hxl:=HBB.out x (List.mem_of_getElem? hx);obtain⟨b',o',hbo,kx⟩:=txs_rule (HX.out.below HW.out) hx
   cases hbo
   have kx':=kx _ (Below.refl _ _);have HN:Hid ((S++((⟨#[44,32]⟩:ByteArray)++⟨x.toArray⟩)).data.toList=[105,102,40]++commas (us.take (j+1))):=zh (by rw[ba_append,ba_append,HS.out,commas_next hx hj1,List.append_assoc];rfl);have z1:¬9223372036854775807<2+x.length:=by omega
   have z2:¬9223372036854775807<S.size+(2+x.length):=by omega
   clear hx kx;go_wp2_with fail;go_roundw
   case rel=>exact⟨j+1,_,by omega,hlt,by go_num,rfl,by rw[ByteArray.size_append,ByteArray.size_append,size_of];show S.size+(2+x.length)≤_;omega,HN,HW.out⟩
   case measure=>simp[intOf];omega
  ·obtain rfl:j=us.length:=by omega
   have z1:¬9223372036854775807<S.size+1:=by omega
   have HE:Hid (S++(⟨#[41]⟩:ByteArray)=⟨([105,102,40]++(commas us++[41])).toArray⟩):=zh (bytes_eq (by rw[ba_append,HS.out,List.take_length,List.append_assoc]));clear HS;go_wp2_with fail;go_ret;exact⟨ret_u HE.out,HW.out⟩
theorem rtabove_any(op:Int)(p:Option Addr)(c:Nat)(us:List (List UInt8))(w:World)(ha:Tm.arN op=some us.length)(h1:1≤us.length)(hb:∀x∈us,x.length≤1000000000)(h:RowsG encX 1 w p us) :
  Calls Tryz.prog 74 #[.int .i64 op,.slice p us.length c] w (GiveU w (aboveP op us)):=by
 have h3:=Tm.arN_le ha
 match us,h1,h3 with
 | [u],_,_ =>
  obtain rfl:=Tm.ops1 ha;obtain⟨b,o,rfl,k0⟩:=txs_rule h (k:=0) rfl;exact above_5 w (Nat.le_trans (hb u (by simp)) (by decide)) k0
 | [u,v],_,_ =>
  obtain⟨b,o,rfl,k0⟩:=txs_rule h (k:=0) rfl;obtain⟨b',o',hbo,k1⟩:=txs_rule h (k:=1) rfl
  cases hbo
  have hu:u.length≤4611686018427387904:=Nat.le_trans (hb u (by simp)) (by decide);have hv:v.length≤1000000000:=hb v (by simp);rcases Tm.ops2 ha with rfl|rfl|rfl|rfl|rfl|rfl
  ·exact above_6 w hu hv k0 k1
  ·exact above_7 w hu hv k0 k1
  ·exact above_8 w hu hv k0 k1
  ·exact above_9 w hu hv k0 k1
  ·exact above_10 w rfl (by simp) (by simp) hb (zh h)
  ·exact above_11 w rfl (by simp) (by simp) hb (zh h)
 | [u,v,t],_,_ =>
  obtain⟨b,o,rfl,k0⟩:=txs_rule h (k:=0) rfl;obtain rfl:=Tm.ops3 ha;exact above_12 w rfl (by simp) (by simp) hb (zh h)
 | _::_::_::_::_,_,h3=>simp only[List.length_cons]at h3;omega
end Go.Proofs.YtghioekjghmdaaaGreatDoor
set_option maxHeartbeats 4000000
set_option maxRecDepth 100000
namespace Go.Proofs.YtghioekjghmdaaaGreatDoor
open Go.RowKit
open Tm (Nd Tr arN arI formB stk fl ps mkT printT leafP aboveP okN pr checkT depthT)
structure PrI(t:List Nd)(w:World)(k:Nat)(st:List Tr)(b o c:Nat):Prop where
 rows:RowsG encX 1 w (some ⟨b,o,none⟩) (ps st)
 cap:st.length≤c
 stk:stk t k=some st
 ok:∀j x,j<k→t[j]?=some x→okN x=true
theorem PrI.below{t:List Nd}{w w':World}{k:Nat}{st:List Tr}{b o c:Nat}(h:PrI t w k st b o c)(hb:Below w.heap.size w w'):PrI t w' k st b o c:=⟨h.rows.below hb,h.cap,h.stk,h.ok⟩
theorem ok_leaf{x:Nd}(h:okN x=true)(h0:arN x.op=some 0):(0≤x.op∧x.op≤4)∧x.num.1.length≤4000∧x.num.2.length≤4000∧x.ast.length≤4611686018427387904∧(-9223372036854775808≤x.a∧x.a≤9223372036854775807)∧(-9223372036854775808≤x.b∧x.b≤9223372036854775807):=by
 unfold okN at h;rcases Tm.ops0 h0 with e|e|e|e|e
 ·rw[if_pos e]at h;simp only[Bool.and_eq_true,decide_eq_true_eq,beq_iff_eq]at h;obtain⟨⟨h1,h2,h3⟩,h4,h5,h6⟩:=h;have:=Tm.w_len (Tm.isR_w h4).1;rw[h1];exact⟨⟨by omega,by omega⟩,by omega,by omega,Nat.zero_le _,⟨by omega,by omega⟩,⟨by omega,by omega⟩⟩
 ·rw[if_neg (by omega),if_pos e]at h;simp only[Bool.and_eq_true,decide_eq_true_eq,beq_iff_eq,Tm.astB]at h;obtain⟨⟨h1,h2⟩,⟨h3,_⟩,h4,h5⟩:=h;have:=Tm.name_len h3;rw[h1];exact⟨⟨by omega,by omega⟩,Nat.zero_le _,Nat.zero_le _,by omega,⟨by omega,by omega⟩,⟨by omega,by omega⟩⟩
 all_goals
  rw[if_neg (by omega),if_neg (by omega),if_pos (by omega)]at h;simp only[Bool.and_eq_true,decide_eq_true_eq,beq_iff_eq,Tm.astB]at h;obtain⟨h1,⟨h3,_⟩,h4,h5,h6,h7⟩:=h;have:=Tm.name_len h3;rw[h1];exact⟨⟨by omega,by omega⟩,Nat.zero_le _,Nat.zero_le _,by omega,⟨by omega,by omega⟩,⟨by omega,by omega⟩⟩
theorem heldX{P:Program}{f:FuncId}{args:Array Value}{w W:World}{v:Value}{B:Nat}(hB:B≤W.heap.size)(c:∀V,Below B W V→Calls P f args V fun e w'=>e=.returned v∧Below V.heap.size V w')(h:Below B W w) :
  Calls P f args w fun e w'=>e=.returned v∧Below w.heap.size w w'∧Below B W w':=(c w h).mono fun _ _ ⟨he,hb⟩=>⟨he,hb,h.trans (hb.mono (Nat.le_trans hB h.size))⟩
theorem rtprint_any(p:Option Addr)(c:Nat)(t:List Nd)(w:World)(HS:Hid (∀x∈t,x.num.1.length≤100000∧x.num.2.length≤100000∧x.ast.length≤4611686018427387904))(hT:Nds w p t):Calls Tryz.prog 42 #[.slice p t.length c] w (GiveU w (printT t)):=by
 have C:=zh (rtformed_any p c t w hT);have HT:=zh hT;clear hT
 cases hf:formB t with
 | false =>
  have hd:=Tm.print_form hf;rw[hd];rw[hf]at C;clear hf hd;have b0:=Below.refl w.heap.size w;go_enter Tryz.func42,Tryz.ntmps42;go_wp2_with fail;refine C.out.mono ?_;rintro e w1 ⟨rfl,b⟩;have b1:=Below.more b0 b;clear b;go_wp2_with fail;go_ret;exact⟨rfl,b1⟩
 | true =>
  have HF:=zh hf;rw[hf]at C;clear hf;have b0:=Below.refl w.heap.size w;obtain⟨tr,e1,e2,hwf,htr,hl1,hl2⟩:=Tm.form_stk HF.out;have HSK:=zh e1;have HTR:=zh e2;clear e1 e2 hwf htr;go_enter Tryz.func42,Tryz.ntmps42;go_wp2_with fail;refine C.out.mono ?_;rintro e w1 ⟨rfl,b⟩;have b1:=Below.more b0 b;have HT1:=zh (HT.out.below b);clear b C HT;go_wp2_with fail
  go_loopw [3,4,5,6] (fun sv iv nv uv wr=>∃ (k:Nat) (st:List Tr) (b o c:Nat),k≤t.length∧iv=.int .i64 k∧sv=.slice (some ⟨b,o,none⟩) st.length c∧PrI t wr k st b o c∧Below w1.heap.size w1 wr) (fun _ iv _ _ _=>t.length-(intOf iv).toNat)
  case atStart=>exact⟨0,[],w1.heap.size,0,0,Nat.zero_le _,rfl,by simp,⟨RowsG.nil _ _,Nat.le_refl _,rfl,fun j x h=>absurd h (Nat.not_lt_zero j)⟩,Below.step _ (Below.refl _ _)⟩
  case round =>
   obtain⟨k,st,b,o,cs,hk,rfl,rfl,hI,hw⟩:=hrel;have HW:=zh hw;have HI:=zh hI;clear hw hI;have hst:st.length≤t.length:=by
    have e:=Tm.stk_fl HI.out.stk hk;have:=Tm.len_fl st;omega
   by_cases hlt:k<t.length
   ·have hki:(k:Int)<(t.length:Int):=by omega
    obtain⟨x,hx⟩:∃x,t[k]?=some x:=⟨_,List.getElem?_eq_getElem hlt⟩;have HX:=zh hx;obtain⟨bp,op,rfl,k0,k1,k2,k3,k4,k5⟩:=nds_rule (HT1.out.below HW.out) hx;obtain⟨m,ha,hm⟩:=Tm.form_step HF.out hx HI.out.stk;obtain⟨n1,n2,n3⟩:=HS.out x (List.mem_of_getElem? hx);have CN:=zh (fun V=>rtnode_any x V n1 n2 n3);have HLT:=zh hlt;clear hx n1 n2 n3;have b0:=Below.refl wr.heap.size wr;go_wp2_with fail;refine(CN.out _).mono ?_;rintro e wa ⟨rfl,ba⟩
    cases hok:okN x with
    | false =>
     have HP:=zh (Tm.print_bad HX.out hok);have HW2:=zh (Below.more b1 (Below.more HW.out ba));clear hok ba;go_wp2_with fail;go_ret;exact⟨by rw[HP.out];rfl,HW2.out⟩
    | true =>
     have HOK:Hid (∀j y,j<k+1→t[j]?=some y→okN y=true):=zh fun j y hj hy=>by
      rcases Nat.lt_or_eq_of_le (Nat.le_of_lt_succ hj) with g|g
      ·exact HI.out.ok j y g hy
      ·subst g;rw[HX.out]at hy
       cases hy
       exact hok
     have hba:=Below.more b0 ba;clear b0;go_wp2_with fail;refine(rtarity_any x.op wa).mono ?_;rintro e wb ⟨rfl,bb⟩;have HW2:=zh (Below.more (Below.more HW.out ba) bb);have HI2:=zh ((HI.out.below ba).below bb);clear k0 k1 k2 k3 k4 k5;obtain⟨bp',op',hbp,k0,k1,k2,k3,k4,k5⟩:=nds_rule (((HT1.out.below HW.out).below ba).below bb) HX.out;have b2:=Below.refl wb.heap.size wb;clear ba bb hba;have hn:arI x.op=(m:Int):=by unfold arI;rw[ha]
     rw[hn];have S1:=zh (Tm.step_mk HX.out HI.out.stk ha hm);have h3:=Tm.arN_le ha;obtain⟨q,hq⟩:∃q,st.length=q+m:=⟨st.length-m,by omega⟩;have hsub:st.length-m=q:=by omega
     rw[hsub]at S1;obtain⟨R,hR⟩:∃R,R=(ps st).take q:=⟨_,rfl⟩;have HRL:Hid (R.length=q):=zh (by rw[hR,List.length_take,Tm.ps_len];omega);have HR:Hid (RowsG encX 1 wb (some ⟨b,o,none⟩) R):=zh fun j y hj=>HI2.out.rows j y (by
      rw[hR,List.getElem?_take]at hj;split at hj
      ·exact hj
      ·cases hj)
     obtain⟨u,hu⟩:∃u,u=pr (mkT x (st.drop q)):=⟨_,rfl⟩;have HDS:Hid (ps (st.take q++[mkT x (st.drop q)])=R++[u]):=zh (by
      unfold ps at hR ⊢;rw[List.map_append,List.map_take,← hR,List.map_singleton,← hu])
     have hdl:(st.drop q).length=m:=by rw[List.length_drop];omega
     have hpm:=Tm.pr_mk (x:=x) (l:=st.drop q) (by omega);have HQ:Hid (q≤2000):=zh (by omega);have hwr:wrap64 ((st.length:Int)-(m:Int))=(q:Int):=(IntWalk.wrap64_in _ ⟨by omega,by omega⟩).trans (by omega);have hwr2:IntKind.i64.wrap ((st.length:Int)-(m:Int))=(q:Int):=(IntWalk.i64_in _ (by omega)).trans (by omega);have hcap:=HI.out.cap;have hqc:q≤cs:=by omega
     have hqs:q≤st.length:=by omega
     cases hbp
     by_cases hm0:m=0
     ·subst hm0;obtain rfl:q=st.length:=by omega
      clear hq;have hnil:st.drop st.length=[]:=List.length_eq_zero_iff.1 hdl;rw[hpm,if_pos hnil]at hu;obtain⟨⟨g1,g2⟩,g3,g4,g5,g6,g7⟩:=ok_leaf hok ha;have CL:=zh (fun V=>rtleaf_any x V g1 g2 g3 g4 g5 g6 g7);rw[←hu]at CL;clear hn h3 hsub hR hu hpm hdl hnil g1 g2 g3 g4 g5 g6 g7 ha;clear hlt hok;go_wp2_with fail;refine(CL.out _).mono ?_;rintro e wz ⟨rfl,bz⟩;have HRZ:=zh (HR.out.below bz);have HWZ:=zh (Below.more HW2.out bz);clear bz k0 k1 k2 k3 k4 k5 b2;go_wp2_with (at_builtin;refine haltG ?_);show wpList _ _ _ _ _ _;have bN:Below wz.heap.size wz (wz.alloc (.cells #[] 9)):=Below.alloc (Below.refl _ _) (Nat.le_refl _) _;have oN:=ownG_empty (enc:=encX) (k:=1) (e:=9) (B:=wz.heap.size) wz (Nat.le_refl _);refine wpList_append_M rfl _ _ 88 9 rfl Tryz.underlying88 txInfo rfl (by decide) (by decide) (fun _=>rfl) encX_one wz.heap.size _ _ rfl oN (some ⟨b,o,none⟩) R cs (by rw[HRL.out];rfl) (RowsG.below HRZ.out bN) (by simp) (by rw[HRL.out];have:=HQ.out;omega) (Below.size bN) ?_;intro v1 w5 ho hgr hloc;have b5:=zh (Below.grown bN hgr (Below.size bN) fun j hj=>(World.ownsRow.lt oN j hj).1);rw[List.nil_append]at ho;have HO:=zh ho;clear ho hgr hloc oN bN;go_wp2_with (at_builtin;refine haltG ?_);show wpList _ _ _ _ _ _;refine wpList_append_G rfl _ _ 88 9 rfl Tryz.underlying88 txInfo rfl (by decide) (by decide) (fun _=>rfl) encX_one wz.heap.size _ _ rfl (World.ownsRow.alloc HO.out _) ⟨w5.heap.size,0,none⟩ u 1 rfl (rowsOne w5 u 9 _ rfl) (by rw[HRL.out];have:=HQ.out;omega) (by have:=b5.out.size;simp;omega) ?_
      intro v2 w6 ho hgr hloc;have b6:=zh (Below.grown (Below.alloc b5.out (Below.size b5.out) _) hgr (by have:=b5.out.size;simp;omega) fun j hj=>(World.ownsRow.lt HO.out j hj).1);obtain⟨p7,c7,rfl,hc7,l7,_⟩:=ownG_rows (enc:=encX) (k:=1) (fun _=>rfl) ho;obtain⟨b7,o7,rfl,_,_⟩:=l7 R.length u (by simp);have HW6:=zh (Below.more HWZ.out b6.out);have HN:Hid (PrI t w6 (k+1) (st.take st.length++[mkT x (st.drop st.length)]) b7 o7 c7):=zh ⟨by rw[HDS.out];exact l7,by rw[←Tm.ps_len,HDS.out];exact hc7,S1.out,HOK.out⟩;have HL7:Hid (R.length+1=(st.take st.length++[mkT x (st.drop st.length)]).length):=zh (by rw[←Tm.ps_len,HDS.out,List.length_append];rfl);clear ho hgr hloc HO b5 l7 hc7;go_wp2_with fail;go_roundw
      case rel=>exact⟨k+1,st.take st.length++[mkT x (st.drop st.length)],b7,o7,c7,by have:=HLT.out;omega,by go_num,by rw[HL7.out],HN.out,HW6.out⟩
      case measure=>have:=HLT.out;simp[intOf];omega
     ·have hne:¬st.drop q=[]:=fun e=>hm0 (by rw[←hdl,e];rfl);rw[hpm,if_neg hne]at hu;have hcq:¬cs=q:=by omega
      have hlen:Hid (∀y∈ps (st.drop q),y.length≤1000000000):=zh fun y hy=>by
       obtain⟨s,hs,rfl⟩:=List.mem_map.1 hy;have hs:=List.mem_of_mem_drop hs;obtain⟨w1',w2'⟩:=Tm.stk_ok HI.out.stk (HI.out.ok) s hs;have:=Tm.pr_len w1' w2';have:=Tm.one_fl hs;have:=Tm.stk_fl HI.out.stk hk;omega
      have hpl:(ps (st.drop q)).length=m:=by rw[Tm.ps_len];exact hdl
      have hrw:RowsG encX 1 wb (some ⟨b,o+q*1,none⟩) (ps (st.drop q)):=by
       have k:=RowsG.part HI2.out.rows q m;have e:((ps st).drop q).take m=ps (st.drop q):=by
        unfold ps;rw[←List.map_drop,List.take_of_length_le (by rw[List.length_map,hdl];exact Nat.le_refl _)]
       rw[e]at k;exact k
      have CA:Hid (∀V,Below wb.heap.size wb V→Calls Tryz.prog 74 #[.int .i64 x.op,.slice (some ⟨b,o+q,none⟩) m (cs-q)] V (GiveU V u)):=zh fun V hv=>by
       have k:=rtabove_any x.op (some ⟨b,o+q*1,none⟩) (cs-q) (ps (st.drop q)) V (by rw[hpl];exact ha) (by rw[hpl];omega) hlen.out (hrw.below hv);rw[hpl,← hu,Nat.mul_one]at k;exact k
      have hB:=zh (Nat.le_refl wb.heap.size);have hm0i:¬(m:Int)=0:=by omega
      have hm0b:((m:Int)==0)=false:=beq_false_of_ne hm0i;have hql:st.length-q=m:=by omega
      clear hn h3 hsub hR hu hpm hdl hne ha hpl hrw hlen k1 k2 k3 k4 k5;clear hlt hok hq;go_wp2_with fail
      go_region_held3 (fun w'=>Below wb.heap.size wb w')
       (first|(exact b2.drew)|(with_reducible assumption))
       (first|(go_at_call 74;(with_reducible refine(heldX (W:=wb) hB.out CA.out (by assumption)).mono ?_);rintro e w'' ⟨rfl,hb,hw⟩))
      generalize w''=wz at *;have HRZ:=zh (HR.out.below hw);have HWZ:=zh (Below.more HW2.out hw);clear hw hb b2 hB k0;go_wp2_with (at_builtin;refine haltG ?_);show wpList _ _ _ _ _ _;have bN:Below wz.heap.size wz (wz.alloc (.cells #[] 9)):=Below.alloc (Below.refl _ _) (Nat.le_refl _) _;have oN:=ownG_empty (enc:=encX) (k:=1) (e:=9) (B:=wz.heap.size) wz (Nat.le_refl _);refine wpList_append_M rfl _ _ 88 9 rfl Tryz.underlying88 txInfo rfl (by decide) (by decide) (fun _=>rfl) encX_one wz.heap.size _ _ rfl oN (some ⟨b,o,none⟩) R cs (by rw[HRL.out];rfl) (RowsG.below HRZ.out bN) (by simp) (by rw[HRL.out];have:=HQ.out;omega) (Below.size bN) ?_;intro v1 w5 ho hgr hloc;have b5:=zh (Below.grown bN hgr (Below.size bN) fun j hj=>(World.ownsRow.lt oN j hj).1);rw[List.nil_append]at ho;have HO:=zh ho;clear ho hgr hloc oN bN;go_wp2_with (at_builtin;refine haltG ?_);show wpList _ _ _ _ _ _;refine wpList_append_G rfl _ _ 88 9 rfl Tryz.underlying88 txInfo rfl (by decide) (by decide) (fun _=>rfl) encX_one wz.heap.size _ _ rfl (World.ownsRow.alloc HO.out _) ⟨w5.heap.size,0,none⟩ u 1 rfl (rowsOne w5 u 9 _ rfl) (by rw[HRL.out];have:=HQ.out;omega) (by have:=b5.out.size;simp;omega) ?_;intro v2 w6 ho hgr hloc;have b6:=zh (Below.grown (Below.alloc b5.out (Below.size b5.out) _) hgr (by have:=b5.out.size;simp;omega) fun j hj=>(World.ownsRow.lt HO.out j hj).1);obtain⟨p7,c7,rfl,hc7,l7,_⟩:=ownG_rows (enc:=encX) (k:=1) (fun _=>rfl) ho;obtain⟨b7,o7,rfl,_,_⟩:=l7 R.length u (by simp);have HW6:=zh (Below.more HWZ.out b6.out)
      have HN:Hid (PrI t w6 (k+1) (st.take q++[mkT x (st.drop q)]) b7 o7 c7):=zh ⟨by rw[HDS.out];exact l7,by rw[←Tm.ps_len,HDS.out];exact hc7,S1.out,HOK.out⟩;have HL7:Hid (R.length+1=(st.take q++[mkT x (st.drop q)]).length):=zh (by rw[←Tm.ps_len,HDS.out,List.length_append];rfl);clear ho hgr hloc HO b5 l7 hc7;go_wp2_with fail;go_roundw
      case rel=>exact⟨k+1,st.take q++[mkT x (st.drop q)],b7,o7,c7,by have:=HLT.out;omega,by go_num,by rw[HL7.out],HN.out,HW6.out⟩
      case measure=>have:=HLT.out;simp[intOf];omega
   ·obtain rfl:k=t.length:=by omega
    have e:=HI.out.stk.symm.trans HSK.out
    cases e
    obtain⟨b',o',hbo,_,c0⟩:=HI.out.rows 0 _ rfl
    cases hbo
    have c1:wr.cell? ⟨b,o,none⟩=some (.string ⟨(pr tr).toArray⟩):=by
     have:=c0 0 _ rfl
     simpa using this
    have HD:=zh (Tm.print_yes HF.out HTR.out fun x hx=>by
     obtain⟨i,hi⟩:=List.getElem?_of_mem hx;exact HI.out.ok i x ((List.getElem?_eq_some_iff.1 hi).1) hi)
    clear c0;go_wp2_with fail;go_ret;exact⟨by rw[HD.out];rfl,Below.more b1 HW.out⟩
theorem rtcheck_any(p:Option Addr)(c:Nat)(t:List Nd)(w:World)(HS:Hid (∀x∈t,x.num.1.length≤100000∧x.num.2.length≤100000∧x.ast.length≤4611686018427387904))(hT:Nds w p t):Calls Tryz.prog 17 #[.slice p t.length c] w (GiveI w (checkT t)):=by
 have CP:=zh (rtprint_any p c t w HS hT);have CD:=zh (fun V (h:Below w.heap.size w V)=>rtdepth_any p c t V (hT.below h));have hk:checkT t=if printT t=[]∨20000<(printT t).length∨150<depthT t then 100 else 0:=rfl
 rw[hk];clear hk hT;generalize printT t=P at *;generalize depthT t=D at *;have b0:=Below.refl w.heap.size w;by_cases h1:P=[]
 ·rw[if_pos (.inl h1)];subst h1;go_enter Tryz.func17,Tryz.ntmps17;go_wp2_with fail;refine CP.out.mono ?_;rintro e w1 ⟨rfl,b⟩;have b1:=Below.more b0 b;go_wp2_with fail;go_ret;exact⟨rfl,b1⟩
 have h1b:(P == [])=false:=beq_false_of_ne h1;by_cases h2:20000<P.length
 ·rw[if_pos (.inr (.inl h2))];have h2i:(20000:Int)<(P.length:Int):=by omega
  go_enter Tryz.func17,Tryz.ntmps17;go_wp2_with fail;refine CP.out.mono ?_;rintro e w1 ⟨rfl,b⟩;have b1:=Below.more b0 b;go_wp2_with fail;go_ret;exact⟨rfl,b1⟩
 have h2i:¬(20000:Int)<(P.length:Int):=by omega
 by_cases h3:150<D
 ·rw[if_pos (.inr (.inr h3))];have h3i:(150:Int)<(D:Int):=by omega
  go_enter Tryz.func17,Tryz.ntmps17;go_wp2_with fail;refine CP.out.mono ?_;rintro e w1 ⟨rfl,b⟩;have b1:=Below.more b0 b;go_wp2_with fail;refine(CD.out _ b1).mono ?_;rintro e w2 ⟨rfl,b⟩;have b2:=Below.more b1 b;go_wp2_with fail;go_ret;exact⟨rfl,b2⟩
 ·rw[if_neg (by rintro(h|h|h)<;>contradiction)];have h3i:¬(150:Int)<(D:Int):=by omega
  go_enter Tryz.func17,Tryz.ntmps17;go_wp2_with fail;refine CP.out.mono ?_;rintro e w1 ⟨rfl,b⟩;have b1:=Below.more b0 b;go_wp2_with fail;refine(CD.out _ b1).mono ?_;rintro e w2 ⟨rfl,b⟩;have b2:=Below.more b1 b;go_wp2_with fail;go_ret;exact⟨rfl,b2⟩
end Go.Proofs.YtghioekjghmdaaaGreatDoor
