/- Own work. -/
import Derived.Test.YtghioekjghmdaaaGreatDoorTk
import Derived.Test.YtghioekjghmdaaaGreatDoorAllRefT9M
set_option linter.unusedSimpArgs false
set_option linter.unusedVariables false
set_option maxHeartbeats 4000000
set_option maxRecDepth 100000
namespace Go.Proofs.YtghioekjghmdaaaGreatDoor
open Go.RowKit
open Tm (Nd numP leafP leafH)
theorem wpAnyH_from{P:Program}{md:Region.Mode}{os:Array Oper}{Q:Exit→Act→World→Prop}{U:World}:∀ {fuel:Nat} {listed:Array Bool} {a:Act} {w W:World} (hW:Below U.heap.size U W)
  (h:wpAnyH P md os Q (fun v=>Below W.heap.size W v) fuel listed a w),wpAnyH P md os Q (fun v=>Below U.heap.size U v) fuel listed a w
 | 0,_,_,_,_,_,h=>h
 | fuel+1,_,_,_,_,hW,h=>⟨h.1,fun i hi=>wpOp_mono (fun _ _ h'=>⟨Below.more hW h'.1,wpAnyH_from hW h'.2⟩) (h.2 i hi)⟩
theorem lay3{V w:World}(h:Below V.heap.size V w)(xa xb xc:Value)(t:TypeId):∃U,w.alloc (.cells #[xa,xb,xc] t)=U∧Below V.heap.size V U∧w.heap.size+1=U.heap.size ∧
  (∀v,Below U.heap.size U v→v.cell? ⟨w.heap.size,0,none⟩=some xa)∧(∀v,Below U.heap.size U v→v.cell? ⟨w.heap.size,1,none⟩=some xb)∧(∀v,Below U.heap.size U v→v.cell? ⟨w.heap.size,2,none⟩=some xc):=by
 have k:∀j x,(#[xa,xb,xc]:Array Value)[j]?=some x→∀v,Below (w.alloc (.cells #[xa,xb,xc] t)).heap.size (w.alloc (.cells #[xa,xb,xc] t)) v→v.cell? ⟨w.heap.size,j,none⟩=some x:=fun j x e v hv =>
  (hv.cell (p:=⟨w.heap.size,j,none⟩) (by simp)).trans ((cell_new w _ _ _ rfl j).trans e)
 exact⟨_,rfl,h.alloc h.size _,by simp,k 0 xa rfl,k 1 xb rfl,k 2 xc rfl⟩
theorem of_len{n:Int}(h:n≤9223372036854775807):(ofS n).length≤20:=by
 unfold ofS;split
 ·exact Nat.zero_le _
 ·exact Nat.le_trans (dig_length (k:=19) (by decide) (by omega)) (by decide)
theorem px_text(s a:List UInt8):(⟨#[112,120,40]⟩:ByteArray)++⟨s.toArray⟩++⟨#[44,32]⟩++⟨a.toArray⟩++⟨#[41]⟩=⟨([112,120,40]++(s++44::32::(a++[41]))).toArray⟩ :=
 bytes_eq (by rw[ba_append,ba_append,ba_append,ba_append];simp)
theorem avg_text(h s a b:List UInt8):(⟨h.toArray⟩:ByteArray)++⟨s.toArray⟩++⟨#[44,32]⟩++⟨a.toArray⟩++⟨#[44,32]⟩++⟨b.toArray⟩++⟨#[41]⟩=⟨(h++(s++44::32::(a++44::32::(b++[41])))).toArray⟩ :=
 bytes_eq (by rw[ba_append,ba_append,ba_append,ba_append,ba_append,ba_append];simp)
theorem leaf_0{a b:Int}{n d s:List UInt8}(w:World){t:List UInt8}(CN:Hid (∀w,Calls Tryz.prog 111 #[.agg #[.string ⟨n.toArray⟩,.string ⟨d.toArray⟩]] w (GiveU w t))):Calls Tryz.prog 73 #[.agg #[.int .i64 0,.string ⟨n.toArray⟩,.string ⟨d.toArray⟩,.string ⟨s.toArray⟩,.int .i64 a,.int .i64 b]] w (GiveU w t):=by
 go_enter Tryz.func73,Tryz.ntmps73;go_wp2_with fail;have BW:=Below.refl w.heap.size w;have b0:Below w.heap.size w w:=Below.refl _ _;obtain⟨U1,hU,bU,s1,rx0,rx1,rx2,rx3,rx4,rx5⟩:=lay6 b0 (.int .i64 0) (.string ⟨n.toArray⟩) (.string ⟨d.toArray⟩) (.string ⟨s.toArray⟩) (.int .i64 a) (.int .i64 b) 55;rw[hU];clear hU;clear s1;replace BW:=Below.more BW bU;clear bU;have b1:=Below.refl U1.heap.size U1;go_wp2_with fail;refine(CN.out _).mono ?_;rintro e w2 ⟨rfl,b'⟩;have b2:=Below.more b1 b';clear b';go_wp2_with fail;go_ret;exact⟨rfl,Below.more BW b2⟩
theorem leaf_1{a b:Int}{n d s:List UInt8}(w:World)(hs:s.length≤4611686018427387904){la:List UInt8}(CA:Hid (∀w,Calls Tryz.prog 88 #[.int .i64 a] w fun e w'=>e=.returned (.string ⟨la.toArray⟩)∧w=w'))(hl:la.length≤20):Calls Tryz.prog 73 #[.agg #[.int .i64 1,.string ⟨n.toArray⟩,.string ⟨d.toArray⟩,.string ⟨s.toArray⟩,.int .i64 a,.int .i64 b]] w (GiveU w ([112,120,40]++(s++44::32::(la++[41])))):=by
 have z0:¬9223372036854775807<3+s.length:=by omega
 have z1:¬9223372036854775807<3+s.length+2:=by omega
 have z2:¬9223372036854775807<3+s.length+2+la.length:=by omega
 have z3:¬9223372036854775807<3+s.length+2+la.length+1:=by omega
 go_enter Tryz.func73,Tryz.ntmps73;go_wp2_with fail;have BW:=Below.refl w.heap.size w;have b0:Below w.heap.size w w:=Below.refl _ _;obtain⟨U1,hU,bU,s1,rx0,rx1,rx2,rx3,rx4,rx5⟩:=lay6 b0 (.int .i64 1) (.string ⟨n.toArray⟩) (.string ⟨d.toArray⟩) (.string ⟨s.toArray⟩) (.int .i64 a) (.int .i64 b) 55;rw[hU];clear hU;clear s1;replace BW:=Below.more BW bU;clear bU;have b1:=Below.refl U1.heap.size U1;go_wp2_with fail;refine tkG (S:=fun w'=>Below U1.heap.size U1 w') (b1.drew) (fun hH0=>?_);refine sch_in [0,1,2,3,4,5] ?_
 iterate 6 (refine scY ?_;try simp only[Act.put,qA,qB,qC,qD,qE,qF])
 refine sch_out ?_;refine wpAnyH_ready (rs:=[6]) (by kernel_rfl) (by simp) ?_;refine(AllReadyH.cons rfl (fun K hK=>?_) AllReadyH.nil)
 go_simp
 refine(CA.out _).mono ?_;rintro e w' ⟨rfl,rfl⟩
 (try go_wp2_with fail)
 refine hK.out _ _ (by assumption) (fun hH1=>?_);clear hK
 try simp only[Act.put,qA,qB,qC,qD,qE,qF]
 refine sch_in [7,8,9] ?_
 iterate 3 (refine scY ?_;try simp only[Act.put,qA,qB,qC,qD,qE,qF])
 refine sch_out ?_;refine tkD ?_;go_wp2_with fail;go_ret;exact⟨ret_u (px_text s la),Below.more BW (by with_reducible assumption)⟩
theorem leaf_2{a b:Int}{n d s:List UInt8}(w:World)(hs:s.length≤4611686018427387904){la:List UInt8}(CA:Hid (∀w,Calls Tryz.prog 88 #[.int .i64 a] w fun e w'=>e=.returned (.string ⟨la.toArray⟩)∧w=w')){lb:List UInt8}(CB:Hid (∀w,Calls Tryz.prog 88 #[.int .i64 b] w fun e w'=>e=.returned (.string ⟨lb.toArray⟩)∧w=w'))(hl:la.length≤20)(hl':lb.length≤20):Calls Tryz.prog 73 #[.agg #[.int .i64 2,.string ⟨n.toArray⟩,.string ⟨d.toArray⟩,.string ⟨s.toArray⟩,.int .i64 a,.int .i64 b]] w (GiveU w ([97,118,103,40]++(s++44::32::(la++44::32::(lb++[41]))))):=by
 have wz:IntKind.i64.wrap 0=0:=by decide
 have z0:¬9223372036854775807<4+s.length:=by omega
 have z1:¬9223372036854775807<4+s.length+2:=by omega
 have z2:¬9223372036854775807<4+s.length+2+la.length:=by omega
 have z3:¬9223372036854775807<4+s.length+2+la.length+2:=by omega
 have z4:¬9223372036854775807<4+s.length+2+la.length+2+lb.length:=by omega
 have z5:¬9223372036854775807<4+s.length+2+la.length+2+lb.length+1:=by omega
 go_enter Tryz.func73,Tryz.ntmps73;go_wp2_with fail;have BW:=Below.refl w.heap.size w;have b0:Below w.heap.size w w:=Below.refl _ _;obtain⟨U1,hU,bU,s1,rx0,rx1,rx2,rx3,rx4,rx5⟩:=lay6 b0 (.int .i64 2) (.string ⟨n.toArray⟩) (.string ⟨d.toArray⟩) (.string ⟨s.toArray⟩) (.int .i64 a) (.int .i64 b) 55;rw[hU];clear hU;clear s1;replace BW:=Below.more BW bU;clear bU;have b1:=Below.refl U1.heap.size U1;go_wp2_with fail;refine tkG (S:=fun w'=>Below U1.heap.size U1 w') (b1.drew) (fun hH0=>?_);refine sch_in [1,2,3,6,7,10,11,15,16] ?_
 iterate 9 (refine scY ?_;try simp only[Act.put,qA,qB,qC,qD,qE,qF])
 refine sch_out ?_;refine wpAnyH_ready (rs:=[0,12]) (by kernel_rfl) (by simp) ?_;refine(AllReadyH.cons rfl (fun K hK=>?_) (AllReadyH.cons rfl (fun K hK=>?_) AllReadyH.nil))
 ·go_simp
  obtain⟨W1,hW1,bW1,sW1,ry0,ry1,ry2⟩:=lay3 b1 (.string ⟨#[97,118,103,40]⟩) (.string ⟨#[104,105,40]⟩) (.string ⟨#[108,111,40]⟩) 9;obtain⟨W2,hW2⟩:∃W2,W1.drew=W2:=⟨_,rfl⟩;have bD:Below W1.heap.size W1 W2:=hW2▸(Below.refl _ _).drew;have rz0:=fun v (h:Below W2.heap.size W2 v)=>ry0 v (Below.more bD h);have rz1:=fun v (h:Below W2.heap.size W2 v)=>ry1 v (Below.more bD h);have rz2:=fun v (h:Below W2.heap.size W2 v)=>ry2 v (Below.more bD h);have bW2:=Below.more bW1 bD;refine hK.out _ _ (by rw[hW1,hW2];exact bW2) (fun hH1=>?_);clear hK;rw[hW1,hW2];refine wpAnyH_from bW2 ?_;have hq:=Below.refl W2.heap.size W2;clear ry0 ry1 ry2 bD hW1 hW2
  try simp only[Act.put,qA,qB,qC,qD,qE,qF]
  refine sch_in [4,5,8,9] ?_
  iterate 4 (refine scY ?_;try simp only[Act.put,qA,qB,qC,qD,qE,qF])
  refine sch_out ?_;refine wpAnyH_ready (rs:=[12]) (by kernel_rfl) (by simp) ?_;refine(AllReadyH.cons rfl (fun K hK=>?_) AllReadyH.nil)
  go_simp
  refine(CA.out _).mono ?_;rintro e w' ⟨rfl,rfl⟩
  (try go_wp2_with fail)
  refine hK.out _ _ (by assumption) (fun hH2=>?_);clear hK
  try simp only[Act.put,qA,qB,qC,qD,qE,qF]
  refine sch_in [13,14] ?_
  iterate 2 (refine scY ?_;try simp only[Act.put,qA,qB,qC,qD,qE,qF])
  refine sch_out ?_;refine wpAnyH_ready (rs:=[17]) (by kernel_rfl) (by simp) ?_;refine(AllReadyH.cons rfl (fun K hK=>?_) AllReadyH.nil)
  go_simp
  refine(CB.out _).mono ?_;rintro e w' ⟨rfl,rfl⟩
  (try go_wp2_with fail)
  refine hK.out _ _ (by assumption) (fun hH3=>?_);clear hK
  try simp only[Act.put,qA,qB,qC,qD,qE,qF]
  refine sch_in [18,19,20] ?_
  iterate 3 (refine scY ?_;try simp only[Act.put,qA,qB,qC,qD,qE,qF])
  refine sch_out ?_;refine tkD ?_;go_wp2_with fail;go_ret;exact⟨ret_u (avg_text [97,118,103,40] s la lb),Below.more BW (Below.more bW2 (by with_reducible assumption))⟩
 ·go_simp
  refine(CA.out _).mono ?_;rintro e w' ⟨rfl,rfl⟩
  (try go_wp2_with fail)
  refine hK.out _ _ (by assumption) (fun hH4=>?_);clear hK
  try simp only[Act.put,qA,qB,qC,qD,qE,qF]
  refine wpAnyH_ready (rs:=[0,17]) (by kernel_rfl) (by simp) ?_;refine(AllReadyH.cons rfl (fun K hK=>?_) (AllReadyH.cons rfl (fun K hK=>?_) AllReadyH.nil))
  ·go_simp
   obtain⟨W1,hW1,bW1,sW1,ry0,ry1,ry2⟩:=lay3 b1 (.string ⟨#[97,118,103,40]⟩) (.string ⟨#[104,105,40]⟩) (.string ⟨#[108,111,40]⟩) 9;obtain⟨W2,hW2⟩:∃W2,W1.drew=W2:=⟨_,rfl⟩;have bD:Below W1.heap.size W1 W2:=hW2▸(Below.refl _ _).drew;have rz0:=fun v (h:Below W2.heap.size W2 v)=>ry0 v (Below.more bD h);have rz1:=fun v (h:Below W2.heap.size W2 v)=>ry1 v (Below.more bD h);have rz2:=fun v (h:Below W2.heap.size W2 v)=>ry2 v (Below.more bD h);have bW2:=Below.more bW1 bD;refine hK.out _ _ (by rw[hW1,hW2];exact bW2) (fun hH5=>?_);clear hK;rw[hW1,hW2];refine wpAnyH_from bW2 ?_;have hq:=Below.refl W2.heap.size W2;clear ry0 ry1 ry2 bD hW1 hW2
   try simp only[Act.put,qA,qB,qC,qD,qE,qF]
   refine sch_in [4,5,8,9,13,14] ?_
   iterate 6 (refine scY ?_;try simp only[Act.put,qA,qB,qC,qD,qE,qF])
   refine sch_out ?_;refine wpAnyH_ready (rs:=[17]) (by kernel_rfl) (by simp) ?_;refine(AllReadyH.cons rfl (fun K hK=>?_) AllReadyH.nil)
   go_simp
   refine(CB.out _).mono ?_;rintro e w' ⟨rfl,rfl⟩
   (try go_wp2_with fail)
   refine hK.out _ _ (by assumption) (fun hH6=>?_);clear hK
   try simp only[Act.put,qA,qB,qC,qD,qE,qF]
   refine sch_in [18,19,20] ?_
   iterate 3 (refine scY ?_;try simp only[Act.put,qA,qB,qC,qD,qE,qF])
   refine sch_out ?_;refine tkD ?_;go_wp2_with fail;go_ret;exact⟨ret_u (avg_text [97,118,103,40] s la lb),Below.more BW (Below.more bW2 (by with_reducible assumption))⟩
  ·go_simp
   refine(CB.out _).mono ?_;rintro e w' ⟨rfl,rfl⟩
   (try go_wp2_with fail)
   refine hK.out _ _ (by assumption) (fun hH7=>?_);clear hK
   try simp only[Act.put,qA,qB,qC,qD,qE,qF]
   refine wpAnyH_ready (rs:=[0]) (by kernel_rfl) (by simp) ?_;refine(AllReadyH.cons rfl (fun K hK=>?_) AllReadyH.nil)
   go_simp
   obtain⟨W1,hW1,bW1,sW1,ry0,ry1,ry2⟩:=lay3 b1 (.string ⟨#[97,118,103,40]⟩) (.string ⟨#[104,105,40]⟩) (.string ⟨#[108,111,40]⟩) 9;obtain⟨W2,hW2⟩:∃W2,W1.drew=W2:=⟨_,rfl⟩;have bD:Below W1.heap.size W1 W2:=hW2▸(Below.refl _ _).drew;have rz0:=fun v (h:Below W2.heap.size W2 v)=>ry0 v (Below.more bD h);have rz1:=fun v (h:Below W2.heap.size W2 v)=>ry1 v (Below.more bD h);have rz2:=fun v (h:Below W2.heap.size W2 v)=>ry2 v (Below.more bD h);have bW2:=Below.more bW1 bD;refine hK.out _ _ (by rw[hW1,hW2];exact bW2) (fun hH8=>?_);clear hK;rw[hW1,hW2];refine wpAnyH_from bW2 ?_;have hq:=Below.refl W2.heap.size W2;clear ry0 ry1 ry2 bD hW1 hW2
   try simp only[Act.put,qA,qB,qC,qD,qE,qF]
   refine sch_in [4,5,8,9,13,14,18,19,20] ?_
   iterate 9 (refine scY ?_;try simp only[Act.put,qA,qB,qC,qD,qE,qF])
   refine sch_out ?_;refine tkD ?_;go_wp2_with fail;go_ret;exact⟨ret_u (avg_text [97,118,103,40] s la lb),Below.more BW (Below.more bW2 (by with_reducible assumption))⟩
theorem leaf_3{a b:Int}{n d s:List UInt8}(w:World)(hs:s.length≤4611686018427387904){la:List UInt8}(CA:Hid (∀w,Calls Tryz.prog 88 #[.int .i64 a] w fun e w'=>e=.returned (.string ⟨la.toArray⟩)∧w=w')){lb:List UInt8}(CB:Hid (∀w,Calls Tryz.prog 88 #[.int .i64 b] w fun e w'=>e=.returned (.string ⟨lb.toArray⟩)∧w=w'))(hl:la.length≤20)(hl':lb.length≤20):Calls Tryz.prog 73 #[.agg #[.int .i64 3,.string ⟨n.toArray⟩,.string ⟨d.toArray⟩,.string ⟨s.toArray⟩,.int .i64 a,.int .i64 b]] w (GiveU w ([104,105,40]++(s++44::32::(la++44::32::(lb++[41]))))):=by
 have wz:IntKind.i64.wrap 1=1:=by decide
 have z0:¬9223372036854775807<3+s.length:=by omega
 have z1:¬9223372036854775807<3+s.length+2:=by omega
 have z2:¬9223372036854775807<3+s.length+2+la.length:=by omega
 have z3:¬9223372036854775807<3+s.length+2+la.length+2:=by omega
 have z4:¬9223372036854775807<3+s.length+2+la.length+2+lb.length:=by omega
 have z5:¬9223372036854775807<3+s.length+2+la.length+2+lb.length+1:=by omega
 go_enter Tryz.func73,Tryz.ntmps73;go_wp2_with fail;have BW:=Below.refl w.heap.size w;have b0:Below w.heap.size w w:=Below.refl _ _;obtain⟨U1,hU,bU,s1,rx0,rx1,rx2,rx3,rx4,rx5⟩:=lay6 b0 (.int .i64 3) (.string ⟨n.toArray⟩) (.string ⟨d.toArray⟩) (.string ⟨s.toArray⟩) (.int .i64 a) (.int .i64 b) 55;rw[hU];clear hU;clear s1;replace BW:=Below.more BW bU;clear bU;have b1:=Below.refl U1.heap.size U1;go_wp2_with fail;refine tkG (S:=fun w'=>Below U1.heap.size U1 w') (b1.drew) (fun hH0=>?_);refine sch_in [1,2,3,6,7,10,11,15,16] ?_
 iterate 9 (refine scY ?_;try simp only[Act.put,qA,qB,qC,qD,qE,qF])
 refine sch_out ?_;refine wpAnyH_ready (rs:=[0,12]) (by kernel_rfl) (by simp) ?_;refine(AllReadyH.cons rfl (fun K hK=>?_) (AllReadyH.cons rfl (fun K hK=>?_) AllReadyH.nil))
 ·go_simp
  obtain⟨W1,hW1,bW1,sW1,ry0,ry1,ry2⟩:=lay3 b1 (.string ⟨#[97,118,103,40]⟩) (.string ⟨#[104,105,40]⟩) (.string ⟨#[108,111,40]⟩) 9;obtain⟨W2,hW2⟩:∃W2,W1.drew=W2:=⟨_,rfl⟩;have bD:Below W1.heap.size W1 W2:=hW2▸(Below.refl _ _).drew;have rz0:=fun v (h:Below W2.heap.size W2 v)=>ry0 v (Below.more bD h);have rz1:=fun v (h:Below W2.heap.size W2 v)=>ry1 v (Below.more bD h);have rz2:=fun v (h:Below W2.heap.size W2 v)=>ry2 v (Below.more bD h);have bW2:=Below.more bW1 bD;refine hK.out _ _ (by rw[hW1,hW2];exact bW2) (fun hH1=>?_);clear hK;rw[hW1,hW2];refine wpAnyH_from bW2 ?_;have hq:=Below.refl W2.heap.size W2;clear ry0 ry1 ry2 bD hW1 hW2
  try simp only[Act.put,qA,qB,qC,qD,qE,qF]
  refine sch_in [4,5,8,9] ?_
  iterate 4 (refine scY ?_;try simp only[Act.put,qA,qB,qC,qD,qE,qF])
  refine sch_out ?_;refine wpAnyH_ready (rs:=[12]) (by kernel_rfl) (by simp) ?_;refine(AllReadyH.cons rfl (fun K hK=>?_) AllReadyH.nil)
  go_simp
  refine(CA.out _).mono ?_;rintro e w' ⟨rfl,rfl⟩
  (try go_wp2_with fail)
  refine hK.out _ _ (by assumption) (fun hH2=>?_);clear hK
  try simp only[Act.put,qA,qB,qC,qD,qE,qF]
  refine sch_in [13,14] ?_
  iterate 2 (refine scY ?_;try simp only[Act.put,qA,qB,qC,qD,qE,qF])
  refine sch_out ?_;refine wpAnyH_ready (rs:=[17]) (by kernel_rfl) (by simp) ?_;refine(AllReadyH.cons rfl (fun K hK=>?_) AllReadyH.nil)
  go_simp
  refine(CB.out _).mono ?_;rintro e w' ⟨rfl,rfl⟩
  (try go_wp2_with fail)
  refine hK.out _ _ (by assumption) (fun hH3=>?_);clear hK
  try simp only[Act.put,qA,qB,qC,qD,qE,qF]
  refine sch_in [18,19,20] ?_
  iterate 3 (refine scY ?_;try simp only[Act.put,qA,qB,qC,qD,qE,qF])
  refine sch_out ?_;refine tkD ?_;go_wp2_with fail;go_ret;exact⟨ret_u (avg_text [104,105,40] s la lb),Below.more BW (Below.more bW2 (by with_reducible assumption))⟩
 ·go_simp
  refine(CA.out _).mono ?_;rintro e w' ⟨rfl,rfl⟩
  (try go_wp2_with fail)
  refine hK.out _ _ (by assumption) (fun hH4=>?_);clear hK
  try simp only[Act.put,qA,qB,qC,qD,qE,qF]
  refine wpAnyH_ready (rs:=[0,17]) (by kernel_rfl) (by simp) ?_;refine(AllReadyH.cons rfl (fun K hK=>?_) (AllReadyH.cons rfl (fun K hK=>?_) AllReadyH.nil))
  ·go_simp
   obtain⟨W1,hW1,bW1,sW1,ry0,ry1,ry2⟩:=lay3 b1 (.string ⟨#[97,118,103,40]⟩) (.string ⟨#[104,105,40]⟩) (.string ⟨#[108,111,40]⟩) 9;obtain⟨W2,hW2⟩:∃W2,W1.drew=W2:=⟨_,rfl⟩;have bD:Below W1.heap.size W1 W2:=hW2▸(Below.refl _ _).drew;have rz0:=fun v (h:Below W2.heap.size W2 v)=>ry0 v (Below.more bD h);have rz1:=fun v (h:Below W2.heap.size W2 v)=>ry1 v (Below.more bD h);have rz2:=fun v (h:Below W2.heap.size W2 v)=>ry2 v (Below.more bD h);have bW2:=Below.more bW1 bD;refine hK.out _ _ (by rw[hW1,hW2];exact bW2) (fun hH5=>?_);clear hK;rw[hW1,hW2];refine wpAnyH_from bW2 ?_;have hq:=Below.refl W2.heap.size W2;clear ry0 ry1 ry2 bD hW1 hW2
   try simp only[Act.put,qA,qB,qC,qD,qE,qF]
   refine sch_in [4,5,8,9,13,14] ?_
   iterate 6 (refine scY ?_;try simp only[Act.put,qA,qB,qC,qD,qE,qF])
   refine sch_out ?_;refine wpAnyH_ready (rs:=[17]) (by kernel_rfl) (by simp) ?_;refine(AllReadyH.cons rfl (fun K hK=>?_) AllReadyH.nil)
   go_simp
   refine(CB.out _).mono ?_;rintro e w' ⟨rfl,rfl⟩
   (try go_wp2_with fail)
   refine hK.out _ _ (by assumption) (fun hH6=>?_);clear hK
   try simp only[Act.put,qA,qB,qC,qD,qE,qF]
   refine sch_in [18,19,20] ?_
   iterate 3 (refine scY ?_;try simp only[Act.put,qA,qB,qC,qD,qE,qF])
   refine sch_out ?_;refine tkD ?_;go_wp2_with fail;go_ret;exact⟨ret_u (avg_text [104,105,40] s la lb),Below.more BW (Below.more bW2 (by with_reducible assumption))⟩
  ·go_simp
   refine(CB.out _).mono ?_;rintro e w' ⟨rfl,rfl⟩
   (try go_wp2_with fail)
   refine hK.out _ _ (by assumption) (fun hH7=>?_);clear hK
   try simp only[Act.put,qA,qB,qC,qD,qE,qF]
   refine wpAnyH_ready (rs:=[0]) (by kernel_rfl) (by simp) ?_;refine(AllReadyH.cons rfl (fun K hK=>?_) AllReadyH.nil)
   go_simp
   obtain⟨W1,hW1,bW1,sW1,ry0,ry1,ry2⟩:=lay3 b1 (.string ⟨#[97,118,103,40]⟩) (.string ⟨#[104,105,40]⟩) (.string ⟨#[108,111,40]⟩) 9;obtain⟨W2,hW2⟩:∃W2,W1.drew=W2:=⟨_,rfl⟩;have bD:Below W1.heap.size W1 W2:=hW2▸(Below.refl _ _).drew;have rz0:=fun v (h:Below W2.heap.size W2 v)=>ry0 v (Below.more bD h);have rz1:=fun v (h:Below W2.heap.size W2 v)=>ry1 v (Below.more bD h);have rz2:=fun v (h:Below W2.heap.size W2 v)=>ry2 v (Below.more bD h);have bW2:=Below.more bW1 bD;refine hK.out _ _ (by rw[hW1,hW2];exact bW2) (fun hH8=>?_);clear hK;rw[hW1,hW2];refine wpAnyH_from bW2 ?_;have hq:=Below.refl W2.heap.size W2;clear ry0 ry1 ry2 bD hW1 hW2
   try simp only[Act.put,qA,qB,qC,qD,qE,qF]
   refine sch_in [4,5,8,9,13,14,18,19,20] ?_
   iterate 9 (refine scY ?_;try simp only[Act.put,qA,qB,qC,qD,qE,qF])
   refine sch_out ?_;refine tkD ?_;go_wp2_with fail;go_ret;exact⟨ret_u (avg_text [104,105,40] s la lb),Below.more BW (Below.more bW2 (by with_reducible assumption))⟩
theorem leaf_4{a b:Int}{n d s:List UInt8}(w:World)(hs:s.length≤4611686018427387904){la:List UInt8}(CA:Hid (∀w,Calls Tryz.prog 88 #[.int .i64 a] w fun e w'=>e=.returned (.string ⟨la.toArray⟩)∧w=w')){lb:List UInt8}(CB:Hid (∀w,Calls Tryz.prog 88 #[.int .i64 b] w fun e w'=>e=.returned (.string ⟨lb.toArray⟩)∧w=w'))(hl:la.length≤20)(hl':lb.length≤20):Calls Tryz.prog 73 #[.agg #[.int .i64 4,.string ⟨n.toArray⟩,.string ⟨d.toArray⟩,.string ⟨s.toArray⟩,.int .i64 a,.int .i64 b]] w (GiveU w ([108,111,40]++(s++44::32::(la++44::32::(lb++[41]))))):=by
 have wz:IntKind.i64.wrap 2=2:=by decide
 have z0:¬9223372036854775807<3+s.length:=by omega
 have z1:¬9223372036854775807<3+s.length+2:=by omega
 have z2:¬9223372036854775807<3+s.length+2+la.length:=by omega
 have z3:¬9223372036854775807<3+s.length+2+la.length+2:=by omega
 have z4:¬9223372036854775807<3+s.length+2+la.length+2+lb.length:=by omega
 have z5:¬9223372036854775807<3+s.length+2+la.length+2+lb.length+1:=by omega
 go_enter Tryz.func73,Tryz.ntmps73;go_wp2_with fail;have BW:=Below.refl w.heap.size w;have b0:Below w.heap.size w w:=Below.refl _ _;obtain⟨U1,hU,bU,s1,rx0,rx1,rx2,rx3,rx4,rx5⟩:=lay6 b0 (.int .i64 4) (.string ⟨n.toArray⟩) (.string ⟨d.toArray⟩) (.string ⟨s.toArray⟩) (.int .i64 a) (.int .i64 b) 55;rw[hU];clear hU;clear s1;replace BW:=Below.more BW bU;clear bU;have b1:=Below.refl U1.heap.size U1;go_wp2_with fail;refine tkG (S:=fun w'=>Below U1.heap.size U1 w') (b1.drew) (fun hH0=>?_);refine sch_in [1,2,3,6,7,10,11,15,16] ?_
 iterate 9 (refine scY ?_;try simp only[Act.put,qA,qB,qC,qD,qE,qF])
 refine sch_out ?_;refine wpAnyH_ready (rs:=[0,12]) (by kernel_rfl) (by simp) ?_;refine(AllReadyH.cons rfl (fun K hK=>?_) (AllReadyH.cons rfl (fun K hK=>?_) AllReadyH.nil))
 ·go_simp
  obtain⟨W1,hW1,bW1,sW1,ry0,ry1,ry2⟩:=lay3 b1 (.string ⟨#[97,118,103,40]⟩) (.string ⟨#[104,105,40]⟩) (.string ⟨#[108,111,40]⟩) 9;obtain⟨W2,hW2⟩:∃W2,W1.drew=W2:=⟨_,rfl⟩;have bD:Below W1.heap.size W1 W2:=hW2▸(Below.refl _ _).drew;have rz0:=fun v (h:Below W2.heap.size W2 v)=>ry0 v (Below.more bD h);have rz1:=fun v (h:Below W2.heap.size W2 v)=>ry1 v (Below.more bD h);have rz2:=fun v (h:Below W2.heap.size W2 v)=>ry2 v (Below.more bD h);have bW2:=Below.more bW1 bD;refine hK.out _ _ (by rw[hW1,hW2];exact bW2) (fun hH1=>?_);clear hK;rw[hW1,hW2];refine wpAnyH_from bW2 ?_;have hq:=Below.refl W2.heap.size W2;clear ry0 ry1 ry2 bD hW1 hW2
  try simp only[Act.put,qA,qB,qC,qD,qE,qF]
  refine sch_in [4,5,8,9] ?_
  iterate 4 (refine scY ?_;try simp only[Act.put,qA,qB,qC,qD,qE,qF])
  refine sch_out ?_;refine wpAnyH_ready (rs:=[12]) (by kernel_rfl) (by simp) ?_;refine(AllReadyH.cons rfl (fun K hK=>?_) AllReadyH.nil)
  go_simp
  refine(CA.out _).mono ?_;rintro e w' ⟨rfl,rfl⟩
  (try go_wp2_with fail)
  refine hK.out _ _ (by assumption) (fun hH2=>?_);clear hK
  try simp only[Act.put,qA,qB,qC,qD,qE,qF]
  refine sch_in [13,14] ?_
  iterate 2 (refine scY ?_;try simp only[Act.put,qA,qB,qC,qD,qE,qF])
  refine sch_out ?_;refine wpAnyH_ready (rs:=[17]) (by kernel_rfl) (by simp) ?_;refine(AllReadyH.cons rfl (fun K hK=>?_) AllReadyH.nil)
  go_simp
  refine(CB.out _).mono ?_;rintro e w' ⟨rfl,rfl⟩
  (try go_wp2_with fail)
  refine hK.out _ _ (by assumption) (fun hH3=>?_);clear hK
  try simp only[Act.put,qA,qB,qC,qD,qE,qF]
  refine sch_in [18,19,20] ?_
  iterate 3 (refine scY ?_;try simp only[Act.put,qA,qB,qC,qD,qE,qF])
  refine sch_out ?_;refine tkD ?_;go_wp2_with fail;go_ret;exact⟨ret_u (avg_text [108,111,40] s la lb),Below.more BW (Below.more bW2 (by with_reducible assumption))⟩
 ·go_simp
  refine(CA.out _).mono ?_;rintro e w' ⟨rfl,rfl⟩
  (try go_wp2_with fail)
  refine hK.out _ _ (by assumption) (fun hH4=>?_);clear hK
  try simp only[Act.put,qA,qB,qC,qD,qE,qF]
  refine wpAnyH_ready (rs:=[0,17]) (by kernel_rfl) (by simp) ?_;refine(AllReadyH.cons rfl (fun K hK=>?_) (AllReadyH.cons rfl (fun K hK=>?_) AllReadyH.nil))
  ·go_simp
   obtain⟨W1,hW1,bW1,sW1,ry0,ry1,ry2⟩:=lay3 b1 (.string ⟨#[97,118,103,40]⟩) (.string ⟨#[104,105,40]⟩) (.string ⟨#[108,111,40]⟩) 9;obtain⟨W2,hW2⟩:∃W2,W1.drew=W2:=⟨_,rfl⟩;have bD:Below W1.heap.size W1 W2:=hW2▸(Below.refl _ _).drew;have rz0:=fun v (h:Below W2.heap.size W2 v)=>ry0 v (Below.more bD h);have rz1:=fun v (h:Below W2.heap.size W2 v)=>ry1 v (Below.more bD h);have rz2:=fun v (h:Below W2.heap.size W2 v)=>ry2 v (Below.more bD h);have bW2:=Below.more bW1 bD;refine hK.out _ _ (by rw[hW1,hW2];exact bW2) (fun hH5=>?_);clear hK;rw[hW1,hW2];refine wpAnyH_from bW2 ?_;have hq:=Below.refl W2.heap.size W2;clear ry0 ry1 ry2 bD hW1 hW2
   try simp only[Act.put,qA,qB,qC,qD,qE,qF]
   refine sch_in [4,5,8,9,13,14] ?_
   iterate 6 (refine scY ?_;try simp only[Act.put,qA,qB,qC,qD,qE,qF])
   refine sch_out ?_;refine wpAnyH_ready (rs:=[17]) (by kernel_rfl) (by simp) ?_;refine(AllReadyH.cons rfl (fun K hK=>?_) AllReadyH.nil)
   go_simp
   refine(CB.out _).mono ?_;rintro e w' ⟨rfl,rfl⟩
   (try go_wp2_with fail)
   refine hK.out _ _ (by assumption) (fun hH6=>?_);clear hK
   try simp only[Act.put,qA,qB,qC,qD,qE,qF]
   refine sch_in [18,19,20] ?_
   iterate 3 (refine scY ?_;try simp only[Act.put,qA,qB,qC,qD,qE,qF])
   refine sch_out ?_;refine tkD ?_;go_wp2_with fail;go_ret;exact⟨ret_u (avg_text [108,111,40] s la lb),Below.more BW (Below.more bW2 (by with_reducible assumption))⟩
  ·go_simp
   refine(CB.out _).mono ?_;rintro e w' ⟨rfl,rfl⟩
   (try go_wp2_with fail)
   refine hK.out _ _ (by assumption) (fun hH7=>?_);clear hK
   try simp only[Act.put,qA,qB,qC,qD,qE,qF]
   refine wpAnyH_ready (rs:=[0]) (by kernel_rfl) (by simp) ?_;refine(AllReadyH.cons rfl (fun K hK=>?_) AllReadyH.nil)
   go_simp
   obtain⟨W1,hW1,bW1,sW1,ry0,ry1,ry2⟩:=lay3 b1 (.string ⟨#[97,118,103,40]⟩) (.string ⟨#[104,105,40]⟩) (.string ⟨#[108,111,40]⟩) 9;obtain⟨W2,hW2⟩:∃W2,W1.drew=W2:=⟨_,rfl⟩;have bD:Below W1.heap.size W1 W2:=hW2▸(Below.refl _ _).drew;have rz0:=fun v (h:Below W2.heap.size W2 v)=>ry0 v (Below.more bD h);have rz1:=fun v (h:Below W2.heap.size W2 v)=>ry1 v (Below.more bD h);have rz2:=fun v (h:Below W2.heap.size W2 v)=>ry2 v (Below.more bD h);have bW2:=Below.more bW1 bD;refine hK.out _ _ (by rw[hW1,hW2];exact bW2) (fun hH8=>?_);clear hK;rw[hW1,hW2];refine wpAnyH_from bW2 ?_;have hq:=Below.refl W2.heap.size W2;clear ry0 ry1 ry2 bD hW1 hW2
   try simp only[Act.put,qA,qB,qC,qD,qE,qF]
   refine sch_in [4,5,8,9,13,14,18,19,20] ?_
   iterate 9 (refine scY ?_;try simp only[Act.put,qA,qB,qC,qD,qE,qF])
   refine sch_out ?_;refine tkD ?_;go_wp2_with fail;go_ret;exact⟨ret_u (avg_text [108,111,40] s la lb),Below.more BW (Below.more bW2 (by with_reducible assumption))⟩
theorem rtleaf_any(x:Nd)(w:World)(h0:0≤x.op)(h4:x.op≤4)(hn:x.num.1.length≤4000)(hd:x.num.2.length≤4000)(hs:x.ast.length≤4611686018427387904)(ha:-9223372036854775808≤x.a∧x.a≤9223372036854775807)(hb:-9223372036854775808≤x.b∧x.b≤9223372036854775807) :
  Calls Tryz.prog 73 #[.agg #[.int .i64 x.op,.string ⟨x.num.1.toArray⟩,.string ⟨x.num.2.toArray⟩,.string ⟨x.ast.toArray⟩,.int .i64 x.a,.int .i64 x.b]] w (GiveU w (leafP x)):=by
 obtain⟨op,⟨n,d⟩,s,a,b⟩:=x;dsimp only at *;have ca:=fun w=>rof_any a w ha.1 ha.2;have cb:=fun w=>rof_any b w hb.1 hb.2;have h:op=0∨op=1∨op=2∨op=3∨op=4:=by omega
 rcases h with rfl|rfl|rfl|rfl|rfl
 ·exact leaf_0 w (zh fun w=>rtnumber_any n d w hn hd)
 ·exact leaf_1 w hs (zh ca) (of_len ha.2)
 ·exact leaf_2 w hs (zh ca) (zh cb) (of_len ha.2) (of_len hb.2)
 ·exact leaf_3 w hs (zh ca) (zh cb) (of_len ha.2) (of_len hb.2)
 ·exact leaf_4 w hs (zh ca) (zh cb) (of_len ha.2) (of_len hb.2)
end Go.Proofs.YtghioekjghmdaaaGreatDoor
