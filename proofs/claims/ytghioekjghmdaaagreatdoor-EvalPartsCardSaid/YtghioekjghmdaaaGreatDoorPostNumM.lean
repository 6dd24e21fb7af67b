/- Own work. -/
import Derived.Lib.AppendZeros
import Derived.Laws.AppendOwnNone
import Derived.Maps.AppendAt
import Derived.Below
import Derived.OwnWalk
import Derived.Test.YtghioekjghmdaaaGreatDoorSchM
set_option linter.unusedSimpArgs false
set_option linter.unusedVariables false
namespace Go.Proofs.YtghioekjghmdaaaGreatDoor
open Go.RowKit
section
variable {α : Type} (enc : α → List Value) (k : Nat)
def RowsG(w:World)(p:Option Addr)(l:List α):Prop:=∀ (j:Nat) (x:α),l[j]?=some x→∃b o,p=some ⟨b,o,none⟩∧b<w.heap.size∧∀i v,(enc x)[i]?=some v→w.cell? ⟨b,o+j*k+i,none⟩=some v
abbrev OwnG(e:TypeId)(B:Nat)(w:World)(v:Value)(l:List α):Prop:=w.ownsRow B e k v l.length (l.flatMap enc)
end
section
variable {α : Type} {enc : α → List Value} {k : Nat}
theorem RowsG.below{w w':World}{p:Option Addr}{l:List α}(h:RowsG enc k w p l)(hb:Below w.heap.size w w'):RowsG enc k w' p l:=fun j x hx=>by
 obtain⟨b,o,hp,hl,c⟩:=h j x hx;exact⟨b,o,hp,Nat.lt_of_lt_of_le hl hb.size,fun i v hv=>(hb.cell (p:=⟨b,_,none⟩) hl).trans (c i v hv)⟩
theorem RowsG.nil(w:World)(p:Option Addr):RowsG enc k w p []:=fun j x h=>by cases h
theorem RowsG.grown{w w':World}{row:Option Nat}{p:Option Addr}{l:List α}(h:RowsG enc k w p l)(hg:w.grownBy w' row)(hr:∀a,p=some a→row≠some a.block):RowsG enc k w' p l:=fun j x hx=>by
 obtain⟨b,o,rfl,hl,c⟩:=h j x hx;have hb:w'.heap[b]?=w.heap[b]?:=hg.block b hl fun e=>hr _ rfl e.symm;exact⟨b,o,rfl,Nat.lt_of_lt_of_le hl hg.size,fun i v hv=>(World.cell?_of_block (w:=w) hb).trans (c i v hv)⟩
theorem flat_len(hk:∀x,(enc x).length=k):∀l:List α,(l.flatMap enc).length=l.length*k
 | []=>(Nat.zero_mul k).symm
 | x::r=>by rw[List.flatMap_cons,List.length_append,hk,flat_len hk r,List.length_cons,Nat.add_mul,Nat.one_mul,Nat.add_comm]
theorem flat_get(hk:∀x,(enc x).length=k):∀ {l:List α} {j:Nat} {x:α} {i:Nat} {v:Value},l[j]?=some x→(enc x)[i]?=some v→(l.flatMap enc)[j*k+i]?=some v
 | [],_,_,_,_,h,_=>by cases h
 | y::r,0,x,i,v,h,hv=>by
  obtain rfl:y=x:=Option.some.inj h;have hi:=(List.getElem?_eq_some_iff.1 hv).1;rw[List.flatMap_cons,Nat.zero_mul,Nat.zero_add,List.getElem?_append_left hi];exact hv
 | y::r,j+1,x,i,v,h,hv=>by
  have h:r[j]?=some x:=h;have e:(j+1)*k+i=(enc y).length+(j*k+i):=by rw[hk,Nat.add_mul,Nat.one_mul];omega
  rw[List.flatMap_cons,e,List.getElem?_append_right (Nat.le_add_right _ _),Nat.add_sub_cancel_left];exact flat_get hk h hv
theorem flat_one(h1:∀x,∀v∈enc x,v.oneCell'=true)(l:List α):∀v∈l.flatMap enc,v.oneCell'=true:=fun v hv=>by
 obtain⟨x,_,hx⟩:=List.mem_flatMap.1 hv;exact h1 x v hx
theorem ownG_below{e:TypeId}{B:Nat}{w w':World}{v:Value}{l:List α}(h:OwnG enc k e B w v l)(hb:Below w.heap.size w w'):OwnG enc k e B w' v l :=
 World.ownsRow.kept h (row:=none) ⟨hb.os,hb.tape,hb.output,hb.size,fun i hi _=>hb.block i hi⟩ (Decidable.or_iff_not_imp_left.2 fun c e=>c e)
theorem ownG_rows{e:TypeId}{B:Nat}{w:World}{v:Value}{l:List α}(hk:∀x,(enc x).length=k)(h:OwnG enc k e B w v l) :
  ∃p c,v=.slice p l.length c∧l.length≤c∧RowsG enc k w p l∧∀a,p=some a→B≤a.block:=by
 rcases h.2 with ⟨rfl,h0⟩|⟨g,cap,cur,rfl,k2,k3,k4,k5⟩
 ·have:l=[]:=List.length_eq_zero_iff.1 h0;subst this;exact⟨none,0,rfl,Nat.le_refl _,RowsG.nil _ _,fun _ h=>by cases h⟩
 ·refine⟨some ⟨g,0,none⟩,cap,rfl,k4,fun j x hx=>?_,fun a h=>by cases h;exact k2⟩;refine⟨g,0,rfl,(Array.getElem?_eq_some_iff.1 k3).1,fun i u hu=>?_⟩;have c:=World.ownsRow.cells (g:=g) h rfl (j*k+i) u (flat_get hk hx hu);rw[show ((⟨g,0,none⟩:Addr).add (j*k+i))=⟨g,0+j*k+i,none⟩ by unfold Addr.add;split<;>simp_all]at c;exact c
theorem ownG_empty{e:TypeId}{B:Nat}(w:World)(h:B≤w.heap.size):OwnG enc k e B (w.alloc (.cells #[] e)) (.slice (some ⟨w.heap.size,0,none⟩) 0 0) [] :=
 ⟨(Nat.zero_mul k).symm,.inr ⟨w.heap.size,0,#[],rfl,h,heap_alloc_new w _,Nat.le_refl _,Nat.zero_le _,(Nat.zero_mul k).symm,by simp⟩⟩
theorem RowsG.cells{w:World}{ad:Addr}{x:α}(hk:(enc x).length=k)(h:RowsG enc k w (some ad) [x]):∀ (j:Nat) (u:Value),(enc x)[j]?=some u→w.cell? (ad.add j)=some u:=fun j u hu=>by
 obtain⟨b,o,hp,_,c⟩:=h 0 x rfl
 cases hp
 rw[show ((⟨b,o,none⟩:Addr).add j)=⟨b,o+0*k+j,none⟩ by unfold Addr.add;split<;>simp_all];exact c j u hu
theorem run_append_G{P:Program}{w:World}(t ty e:TypeId){z:Value}{bytes:Nat}(ht:P.underlying t=some (.slice e))(info:(P.info? e).map (fun i=>(i.zero,i.size,i.bytes))=some (some z,k,bytes))(hz:z.cells.size=k)(hk0:0<k)(hb:bytes≤4096)
  (hk:∀x,(enc x).length=k) (h1:∀x,∀v∈enc x,v.oneCell'=true) (base:Nat) (v:Value) (fs:List α) (hown:OwnG enc k e base w v fs) (ad:Addr) (y:α) (c:Nat) (hl:RowsG enc k w (some ad) [y]) (hf:fs.length≤3000000) (hbase:base≤w.heap.size) :
  ∃v' w',(Builtin.append_ #[t,t] ty #[v,.slice (some ad) 1 c]).run P w=.ok v' w'∧OwnG enc k e base w' v' (fs++[y])∧w.grownBy w' v.ownBlock∧(v'.ownBlock=v.ownBlock∨v'.ownBlock=some w.heap.size):=by
 obtain⟨i0,hi,hz0,hz1,hz2⟩:=info_parts info;have hbb:(fs.length+1)*bytes≤140737488355328:=Nat.le_trans (Nat.mul_le_mul (show fs.length+1≤3000001 by omega) hb) (by decide);obtain⟨v',w',hr,h2,h3,h4,h5⟩:=run_append_own_at (P:=P) w base t ty e i0 z k bytes ht hi hz0 hz1 hz2 hz hk0 v fs.length (fs.flatMap enc) hown ad 1 c (enc y) (by rw[hk,Nat.one_mul]) (RowsG.cells (hk y) hl) (h1 y) (by unfold maxLen;omega) hbb hbase;refine⟨v',w',hr,?_,h3,h5⟩;show World.ownsRow w' base e k v' (fs++[y]).length ((fs++[y]).flatMap enc);rw[List.length_append,List.flatMap_append];have e1:[y].flatMap enc=enc y:=by rw[List.flatMap_cons];exact List.append_nil _
 rw[e1];exact h2
theorem wp_append_G{P:Program}{o:Oper}{a:Act}{K:Act→World→Prop}{Q:Exit→Act→World→Prop}{w:World}(s x:Operand)(t e:TypeId)(ho:o.op=.call { callee:=.builtin .append,args:=#[s,x],argTypes:=#[t,t] }){z:Value}{bytes:Nat}
  (ht:P.underlying t=some (.slice e)) (info:(P.info? e).map (fun i=>(i.zero,i.size,i.bytes))=some (some z,k,bytes)) (hz:z.cells.size=k) (hk0:0<k) (hb:bytes≤4096)
  (hk:∀x,(enc x).length=k) (h1:∀x,∀v∈enc x,v.oneCell'=true) (base:Nat) (v:Value) (fs:List α) (hs:a.eval s=v) (hown:OwnG enc k e base w v fs) (ad:Addr) (y:α) (c:Nat) (hx:a.eval x=.slice (some ad) 1 c) (hl:RowsG enc k w (some ad) [y]) (hf:fs.length≤3000000) (hbase:base≤w.heap.size)
  (h:∀v' w',OwnG enc k e base w' v' (fs++[y])→w.grownBy w' v.ownBlock→(v'.ownBlock=v.ownBlock∨v'.ownBlock=some w.heap.size)→K (a.put o.dst v') w'):o.wp P a w K Q:=by
 obtain⟨v',w',hr,h2,h3,h4⟩:=run_append_G t o.type e ht info hz hk0 hb hk h1 base v fs hown ad y c hl hf hbase;exact Lib.wp_append_run w s x t t ho _ _ hs hx _ _ hr (h v' w' h2 h3 h4)
theorem wpList_append_G{P:Program}{ops:Array Oper}{rest:List Oper}{o:Oper}{a:Act}{Q:Exit→Act→World→Prop}{w:World}(hgd:o.guard=none)(s x:Operand)(t e:TypeId)(ho:o.op=.call { callee:=.builtin .append,args:=#[s,x],argTypes:=#[t,t] }){z:Value}{bytes:Nat}
  (ht:P.underlying t=some (.slice e)) (info:(P.info? e).map (fun i=>(i.zero,i.size,i.bytes))=some (some z,k,bytes)) (hz:z.cells.size=k) (hk0:0<k) (hb:bytes≤4096)
  (hk:∀x,(enc x).length=k) (h1:∀x,∀v∈enc x,v.oneCell'=true) (base:Nat) (v:Value) (fs:List α) (hs:a.eval s=v) (hown:OwnG enc k e base w v fs) (ad:Addr) (y:α) (c:Nat) (hx:a.eval x=.slice (some ad) 1 c) (hl:RowsG enc k w (some ad) [y]) (hf:fs.length≤3000000) (hbase:base≤w.heap.size)
  (h:∀v' w',OwnG enc k e base w' v' (fs++[y])→w.grownBy w' v.ownBlock→(v'.ownBlock=v.ownBlock∨v'.ownBlock=some w.heap.size)→wpList P ops Q rest (a.put o.dst v') w'):wpList P ops Q (o::rest) a w :=
 wpList_plain hgd fun _ hK=>wp_append_G s x t e ho ht info hz hk0 hb hk h1 base v fs hs hown ad y c hx hl hf hbase fun v' w' h1 h2 h3=>hK _ _ (h v' w' h1 h2 h3)
theorem rowsOne(w:World)(x:α)(t:TypeId)(c:Array Value)(hc:c=(enc x).toArray):RowsG enc k (w.alloc (.cells c t)) (some ⟨w.heap.size,0,none⟩) [x]:=fun j y hy=>by
 cases j with
 | zero =>
  obtain rfl:x=y:=Option.some.inj hy;refine⟨w.heap.size,0,rfl,by simp,fun i v hv=>?_⟩;rw[Nat.zero_mul,Nat.zero_add];exact(cell_new w _ _ _ rfl i).trans (by rw[hc];simpa using hv)
 | succ j=>cases hy
end
def HaltG(p:Prop):Prop:=p
theorem haltG{p:Prop}(h:HaltG p):p:=h
end Go.Proofs.YtghioekjghmdaaaGreatDoor
namespace Go.Proofs.YtghioekjghmdaaaGreatDoor
open Go.RowKit
def Nums(w:World)(p:Option Addr)(l:List Int):Prop:=∀ (j:Nat) (x:Int),l[j]?=some x→∃b o,p=some ⟨b,o,none⟩∧b<w.heap.size∧w.cell? ⟨b,o+j,none⟩=some (.int .i64 x)
section
variable {T : Type} [DecidableEq T]
end
def encN(n:Int):List Value:=[.int .i64 n]
theorem encN_one(n:Int):∀v∈encN n,v.oneCell'=true:=fun v hv=>by
 obtain rfl:=List.mem_singleton.1 hv;rfl
theorem numInfo:(Tryz.prog.info? 3).map (fun i=>(i.zero,i.size,i.bytes))=some (some (.int .i64 0),1,8):=by kernel_rfl
theorem nums_of{w:World}{p:Option Addr}{l:List Int}(h:RowsG encN 1 w p l):Nums w p l:=fun j x hx=>by
 obtain⟨b,o,hp,hl,c⟩:=h j x hx;have k:=c 0 _ rfl;rw[Nat.mul_one]at k;exact⟨b,o,hp,hl,k⟩
abbrev OwnN(B:Nat)(w:World)(v:Value)(l:List Int):Prop:=OwnG encN 1 3 B w v l
end Go.Proofs.YtghioekjghmdaaaGreatDoor
namespace Go.Proofs.YtghioekjghmdaaaGreatDoor
open Go.RowKit
section
variable {α : Type} {enc : α → List Value} {k : Nat}
theorem flat_inv(hk:∀x,(enc x).length=k):∀ {l:List α} {j:Nat} {u:Value},(l.flatMap enc)[j]?=some u→∃q x i,l[q]?=some x∧(enc x)[i]?=some u∧j=q*k+i
 | [],_,_,h=>by cases h
 | y::r,j,u,h=>by
  rw[List.flatMap_cons]at h;by_cases hj:j<(enc y).length
  ·rw[List.getElem?_append_left hj]at h;exact⟨0,y,j,rfl,h,by omega⟩
  ·rw[List.getElem?_append_right (by omega)]at h;obtain⟨q,x,i,h1,h2,h3⟩:=flat_inv hk h;rw[hk]at h3 hj;exact⟨q+1,x,i,h1,h2,by rw[Nat.add_mul,Nat.one_mul];omega⟩
theorem RowsG.cellsM{w:World}{ad:Addr}{l:List α}(hk:∀x,(enc x).length=k)(h:RowsG enc k w (some ad) l):∀ (j:Nat) (u:Value),(l.flatMap enc)[j]?=some u→w.cell? (ad.add j)=some u:=fun j u hu=>by
 obtain⟨q,x,i,h1,h2,rfl⟩:=flat_inv hk hu;obtain⟨b,o,hp,_,c⟩:=h q x h1
 cases hp
 rw[show ((⟨b,o,none⟩:Addr).add (q*k+i))=⟨b,o+q*k+i,none⟩ by unfold Addr.add;split<;>simp_all [Nat.add_assoc]];exact c i u h2
theorem run_append_noneG{P:Program}{w:World}(base:Nat)(t ty e:TypeId)(i:TypeInfo)(size c:Nat)(ht:P.underlying t=some (.slice e))(hi:P.info? e=some i)
  (v:Value) (n:Nat) (xs:List Value) (hown:w.ownsRow base e size v n xs) :
  (Builtin.append_ #[t,t] ty #[v,.slice none 0 c]).run P w=.ok v w:=by
 rcases hown.2 with ⟨rfl,rfl⟩|⟨g,cap,cur,rfl,_,_,hnc,_⟩
 ·simp[Builtin.append_,run_underlying ht,sizeOf,typeInfo,hi,Builtin.lenOf,Builtin.firstCells]
 ·simp[Builtin.append_,run_underlying ht,sizeOf,typeInfo,hi,Builtin.lenOf,Builtin.firstCells,hnc,storeCells]
theorem run_append_M{P:Program}{w:World}(t ty e:TypeId){z:Value}{bytes:Nat}(ht:P.underlying t=some (.slice e))(info:(P.info? e).map (fun i=>(i.zero,i.size,i.bytes))=some (some z,k,bytes))(hz:z.cells.size=k)(hk0:0<k)(hb:bytes≤4096)
  (hk:∀x,(enc x).length=k) (h1:∀x,∀v∈enc x,v.oneCell'=true) (base:Nat) (v:Value) (fs:List α) (hown:OwnG enc k e base w v fs) (q:Option Addr) (l:List α) (c:Nat) (hl:RowsG enc k w q l) (hf:fs.length≤3000000) (hn:l.length≤3000000) (hbase:base≤w.heap.size) :
  ∃v' w',(Builtin.append_ #[t,t] ty #[v,.slice q l.length c]).run P w=.ok v' w'∧OwnG enc k e base w' v' (fs++l)∧w.grownBy w' v.ownBlock∧(v'.ownBlock=v.ownBlock∨v'.ownBlock=some w.heap.size):=by
 obtain⟨i0,hi,hz0,hz1,hz2⟩:=info_parts info
 cases q with
 | none =>
  obtain rfl:l=[]:=by
   cases l with
   | nil=>rfl
   | cons x r=>obtain⟨b,o,hp,_⟩:=hl 0 x rfl;cases hp
  exact⟨v,w,run_append_noneG base t ty e i0 k c ht hi _ _ _ hown,by rw[List.append_nil];exact hown,World.grownBy.refl _ _,.inl rfl⟩
 | some ad =>
  have hbb:(fs.length+l.length)*bytes≤140737488355328:=Nat.le_trans (Nat.mul_le_mul (show fs.length+l.length≤6000000 by omega) hb) (by decide);obtain⟨v',w',hr,h2,h3,h4,h5⟩:=run_append_own_at (P:=P) w base t ty e i0 z k bytes ht hi hz0 hz1 hz2 hz hk0 v fs.length (fs.flatMap enc) hown ad l.length c (l.flatMap enc) (flat_len hk l) (RowsG.cellsM hk hl) (flat_one h1 l) (by unfold maxLen;omega) hbb hbase;refine⟨v',w',hr,?_,h3,h5⟩;show World.ownsRow w' base e k v' (fs++l).length ((fs++l).flatMap enc);rw[List.length_append,List.flatMap_append];exact h2
theorem wp_append_M{P:Program}{o:Oper}{a:Act}{K:Act→World→Prop}{Q:Exit→Act→World→Prop}{w:World}(s x:Operand)(t e:TypeId)(ho:o.op=.call { callee:=.builtin .append,args:=#[s,x],argTypes:=#[t,t] }){z:Value}{bytes:Nat}
  (ht:P.underlying t=some (.slice e)) (info:(P.info? e).map (fun i=>(i.zero,i.size,i.bytes))=some (some z,k,bytes)) (hz:z.cells.size=k) (hk0:0<k) (hb:bytes≤4096)
  (hk:∀x,(enc x).length=k) (h1:∀x,∀v∈enc x,v.oneCell'=true) (base:Nat) (v:Value) (fs:List α) (hs:a.eval s=v) (hown:OwnG enc k e base w v fs) (q:Option Addr) (l:List α) (c:Nat) (hx:a.eval x=.slice q l.length c) (hl:RowsG enc k w q l) (hf:fs.length≤3000000) (hn:l.length≤3000000) (hbase:base≤w.heap.size)
  (h:∀v' w',OwnG enc k e base w' v' (fs++l)→w.grownBy w' v.ownBlock→(v'.ownBlock=v.ownBlock∨v'.ownBlock=some w.heap.size)→K (a.put o.dst v') w'):o.wp P a w K Q:=by
 obtain⟨v',w',hr,h2,h3,h4⟩:=run_append_M t o.type e ht info hz hk0 hb hk h1 base v fs hown q l c hl hf hn hbase;exact Lib.wp_append_run w s x t t ho _ _ hs hx _ _ hr (h v' w' h2 h3 h4)
theorem wpList_append_M{P:Program}{ops:Array Oper}{rest:List Oper}{o:Oper}{a:Act}{Q:Exit→Act→World→Prop}{w:World}(hgd:o.guard=none)(s x:Operand)(t e:TypeId)(ho:o.op=.call { callee:=.builtin .append,args:=#[s,x],argTypes:=#[t,t] }){z:Value}{bytes:Nat}
  (ht:P.underlying t=some (.slice e)) (info:(P.info? e).map (fun i=>(i.zero,i.size,i.bytes))=some (some z,k,bytes)) (hz:z.cells.size=k) (hk0:0<k) (hb:bytes≤4096)
  (hk:∀x,(enc x).length=k) (h1:∀x,∀v∈enc x,v.oneCell'=true) (base:Nat) (v:Value) (fs:List α) (hs:a.eval s=v) (hown:OwnG enc k e base w v fs) (q:Option Addr) (l:List α) (c:Nat) (hx:a.eval x=.slice q l.length c) (hl:RowsG enc k w q l) (hf:fs.length≤3000000) (hn:l.length≤3000000) (hbase:base≤w.heap.size)
  (h:∀v' w',OwnG enc k e base w' v' (fs++l)→w.grownBy w' v.ownBlock→(v'.ownBlock=v.ownBlock∨v'.ownBlock=some w.heap.size)→wpList P ops Q rest (a.put o.dst v') w'):wpList P ops Q (o::rest) a w :=
 wpList_plain hgd fun _ hK=>wp_append_M s x t e ho ht info hz hk0 hb hk h1 base v fs hs hown q l c hx hl hf hn hbase fun v' w' h1 h2 h3=>hK _ _ (h v' w' h1 h2 h3)
end
abbrev Key:=List UInt8×List UInt8
abbrev Ln:=Key×Key
def nameC(c:UInt8):Bool:=(decide (97≤c.toNat)&&decide (c.toNat≤122))||(decide (48≤c.toNat)&&decide (c.toNat≤57))
def okB(i:Nat)(c:UInt8):Bool:=nameC c||(decide (c.toNat=33)&&decide (i=0))
def nmFrom:Nat→List UInt8→Bool
 | _,[]=>true
 | k,c::r=>okB k c&&nmFrom (k+1) r
def isName(l:List UInt8):Bool:=nmFrom 0 l&&(decide (1≤l.length)&&decide (l.length≤20))
theorem nmFrom_append:∀ (k:Nat) (l m:List UInt8),nmFrom k (l++m)=(nmFrom k l&&nmFrom (k+l.length) m)
 | _,[],_=>rfl
 | k,c::r,m=>by
  show (okB k c&&nmFrom (k+1) (r++m))=((okB k c&&nmFrom (k+1) r)&&nmFrom (k+(r.length+1)) m);rw[nmFrom_append (k+1) r m,Bool.and_assoc,show k+1+r.length=k+(r.length+1) by omega]
theorem nm_step{l:List UInt8}{i:Nat}(h:i<l.length):nmFrom 0 (l.take (i+1))=(nmFrom 0 (l.take i)&&okB i l[i]):=by
 rw[List.take_add_one,List.getElem?_eq_getElem h,nmFrom_append];have e:(l.take i).length=i:=by rw[List.length_take];omega
 rw[e,Nat.zero_add];show (_&&(okB i l[i]&&true))=_;rw[Bool.and_true]
theorem nm_stop{l:List UInt8}{i:Nat}(h:i<l.length)(hb:okB i l[i]=false):isName l=false:=by
 have e:l=l.take (i+1)++l.drop (i+1):=(List.take_append_drop _ _).symm;unfold isName;rw[e,nmFrom_append,nm_step h,hb,Bool.and_false,Bool.false_and,Bool.false_and]
theorem nm_all{l:List UInt8}(h:nmFrom 0 (l.take l.length)=true):isName l=(decide (1≤l.length)&&decide (l.length≤20)):=by
 unfold isName;rw[List.take_length]at h;rw[h,Bool.true_and]
theorem less_irrefl:∀l:List UInt8,Op.bytesLess l l=false
 | []=>rfl
 | a::r=>by
  have h:=less_irrefl r;show (decide (a<a)||(a==a&&Op.bytesLess r r))=false;rw[h,Bool.and_false,Bool.or_false];exact decide_eq_false (by rw[UInt8.lt_iff_toNat_lt];omega)
theorem less_nil(a:List UInt8):Op.bytesLess a []=false:=by cases a<;>rfl
theorem less_trans:∀ {a b c:List UInt8},Op.bytesLess a b=true→Op.bytesLess b c=true→Op.bytesLess a c=true
 | _,[],_,h,_=>by rw[less_nil]at h;cases h
 | _,_::_,[],_,h=>by rw[less_nil]at h;cases h
 | [],_::_,_::_,_,_=>rfl
 | x::a,y::b,z::c,h,k=>by
  have h:(decide (x<y)||(x==y&&Op.bytesLess a b))=true:=h;have k:(decide (y<z)||(y==z&&Op.bytesLess b c))=true:=k;show (decide (x<z)||(x==z&&Op.bytesLess a c))=true;simp only[Bool.or_eq_true,Bool.and_eq_true,decide_eq_true_eq,beq_iff_eq]at h k ⊢;rcases h with h|⟨h,h'⟩<;>rcases k with k|⟨k,k'⟩
  ·left;rw[UInt8.lt_iff_toNat_lt]at *;omega
  ·left;subst k;exact h
  ·left;subst h;exact k
  ·right;exact⟨h.trans k,less_trans h' k'⟩
theorem less_cases:∀a b:List UInt8,Op.bytesLess a b=true∨a=b∨Op.bytesLess b a=true
 | [],[]=>.inr (.inl rfl)
 | [],_::_=>.inl rfl
 | _::_,[]=>.inr (.inr rfl)
 | x::a,y::b=>by
  show (decide (x<y)||(x==y&&Op.bytesLess a b))=true∨x::a=y::b∨(decide (y<x)||(y==x&&Op.bytesLess b a))=true;simp only[Bool.or_eq_true,Bool.and_eq_true,decide_eq_true_eq,beq_iff_eq];by_cases h:x<y
  ·exact .inl (.inl h)
  ·by_cases h2:y<x
   ·exact .inr (.inr (.inl h2))
   ·have e:x=y:=by
     rw[UInt8.lt_iff_toNat_lt]at h h2;exact UInt8.toNat_inj.1 (by omega)
    subst e;rcases less_cases a b with k|k|k
    ·exact .inl (.inr ⟨rfl,k⟩)
    ·subst k;exact .inr (.inl rfl)
    ·exact .inr (.inr (.inr ⟨rfl,k⟩))
def aheadK(a b:Key):Bool:=Op.bytesLess a.1 b.1||(a.1==b.1&&Op.bytesLess a.2 b.2)
theorem ahead_irrefl(a:Key):aheadK a a=false:=by unfold aheadK;rw[less_irrefl,less_irrefl,Bool.and_false];rfl
theorem ahead_trans{a b c:Key}(h:aheadK a b=true)(k:aheadK b c=true):aheadK a c=true:=by
 unfold aheadK at *;simp only[Bool.or_eq_true,Bool.and_eq_true,beq_iff_eq]at h k ⊢;rcases h with h|⟨h,h'⟩<;>rcases k with k|⟨k,k'⟩
 ·exact .inl (less_trans h k)
 ·exact .inl (k▸h)
 ·exact .inl (h▸k)
 ·exact .inr ⟨h.trans k,less_trans h' k'⟩
theorem ahead_cases(a b:Key):aheadK a b=true∨a=b∨aheadK b a=true:=by
 unfold aheadK;simp only[Bool.or_eq_true,Bool.and_eq_true,beq_iff_eq];rcases less_cases a.1 b.1 with h|h|h
 ·exact .inl (.inl h)
 ·rcases less_cases a.2 b.2 with k|k|k
  ·exact .inl (.inr ⟨h,k⟩)
  ·exact .inr (.inl (Prod.ext h k))
  ·exact .inr (.inr (.inr ⟨h.symm,k⟩))
 ·exact .inr (.inr (.inl h))
theorem ahead_asym{a b:Key}(h:aheadK a b=true):aheadK b a=false:=by
 cases e:aheadK b a with
 | false=>rfl
 | true=>have:=ahead_trans h e;rw[ahead_irrefl]at this;cases this
theorem ahead_ne{a b:Key}(h:aheadK a b=true):a≠b:=fun e=>by rw[e,ahead_irrefl]at h;cases h
def lineOk(x:Ln):Bool:=isName x.1.1&&(isName x.1.2&&isR x.2)
def lineIn(x:Ln):Bool:=lineOk x&&!(sgnR x.2==0)
def Good(ls:List Ln):Prop:=(∀x∈ls,lineIn x=true)∧ls.Pairwise fun x y=>aheadK x.1 y.1=true
def lineOf(ls:List Ln)(k:Key):Option Ln:=ls.find? fun x=>x.1==k
def insB:List Ln→Bool→Key→Key→List Ln
 | [],laid,k,q=>if laid then [] else [(k,q)]
 | x::r,laid,k,q=>(if !laid&&!aheadK x.1 k then [(k,q)] else [])++((if x.1==k then [] else [x])++insB r (laid||!aheadK x.1 k) k q)
def putB(ls:List Ln)(k q:Key):List Ln:=insB ls (sgnR q==0) k q
def sumL(ls:List Ln):Key:=ls.foldl (fun s x=>addR s x.2) ([48],[49])
theorem zero_rd:((([48]:List UInt8),([49]:List UInt8)):Key)=rd 0:=by
 show (([48]:List UInt8),([49]:List UInt8))=(wd 0,dig 1);rw[wd_0,dig_1]
theorem parts:∀ {ls:List Ln},ls.Pairwise (fun x y=>aheadK x.1 y.1=true)→∀k:Key,∃A M C,ls=A++(M++C)∧(∀x∈A,aheadK x.1 k=true)∧(∀x∈C,aheadK k x.1=true)∧(M=[]∨∃p,M=[(k,p)])
 | [],_,k=>⟨[],[],[],rfl,fun _ h=>(by cases h),fun _ h=>(by cases h),.inl rfl⟩
 | x::r,h,k=>by
  obtain⟨h1,h2⟩:=List.pairwise_cons.1 h;rcases ahead_cases x.1 k with e|e|e
  ·obtain⟨A,M,C,rfl,hA,hC,hM⟩:=parts h2 k;refine⟨x::A,M,C,rfl,fun y hy=>?_,hC,hM⟩;rcases List.mem_cons.1 hy with rfl|hy
   ·exact e
   ·exact hA y hy
  ·refine⟨[],[x],r,rfl,fun _ h=>(by cases h),fun y hy=>e▸h1 y hy,.inr ⟨x.2,?_⟩⟩;rw[←e]
  ·refine⟨[],[],x::r,rfl,fun _ h=>(by cases h),fun y hy=>?_,.inl rfl⟩;rcases List.mem_cons.1 hy with rfl|hy
   ·exact e
   ·exact ahead_trans e (h1 y hy)
theorem ins_far:∀ {C:List Ln} {k:Key} (q:Key),(∀x∈C,aheadK k x.1=true)→insB C true k q=C
 | [],_,_,_=>rfl
 | x::r,k,q,h=>by
  have e:=h x (List.mem_cons_self ..);show (if !true&&!aheadK x.1 k then [(k,q)] else [])++((if x.1==k then [] else [x])++insB r (true||!aheadK x.1 k) k q)=x::r;rw[beq_false_of_ne (ahead_ne e).symm,Bool.true_or,ins_far q fun y hy=>h y (List.mem_cons_of_mem _ hy)]
  rfl
theorem ins_near{C:List Ln}{k:Key}(q:Key)(h:∀x∈C,aheadK k x.1=true):insB C false k q=(k,q)::C:=by
 cases C with
 | nil=>rfl
 | cons x r =>
  have e:=h x (List.mem_cons_self ..);show (if !false&&!aheadK x.1 k then [(k,q)] else [])++((if x.1==k then [] else [x])++insB r (false||!aheadK x.1 k) k q)=(k,q)::x::r;rw[beq_false_of_ne (ahead_ne e).symm,ahead_asym e,show (false||!false)=true from rfl,ins_far q fun y hy=>h y (List.mem_cons_of_mem _ hy)]
  rfl
theorem ins_ahead:∀ {A:List Ln} {k:Key} (q:Key) (laid:Bool) (D:List Ln),(∀x∈A,aheadK x.1 k=true)→insB (A++D) laid k q=A++insB D laid k q
 | [],_,_,_,_,_=>rfl
 | x::r,k,q,laid,D,h=>by
  have e:=h x (List.mem_cons_self ..);show (if !laid&&!aheadK x.1 k then [(k,q)] else [])++((if x.1==k then [] else [x])++insB (r++D) (laid||!aheadK x.1 k) k q)=x::(r++insB D laid k q);rw[beq_false_of_ne (ahead_ne e),e,show (!true)=false from rfl,Bool.and_false,Bool.or_false,ins_ahead q laid D fun y hy=>h y (List.mem_cons_of_mem _ hy)]
  rfl
theorem put_parts{A M C:List Ln}{k:Key}(q:Key)(hA:∀x∈A,aheadK x.1 k=true)(hC:∀x∈C,aheadK k x.1=true)(hM:M=[]∨∃p,M=[(k,p)]) :
  putB (A++(M++C)) k q=A++((if sgnR q==0 then [] else [(k,q)])++C):=by
 unfold putB;rw[ins_ahead q _ _ hA]
 congr 1
 rcases hM with rfl|⟨p,rfl⟩
 ·rw[List.nil_append]
  cases e:sgnR q==0 with
  | true=>rw[ins_far q hC];rfl
  | false=>rw[ins_near q hC];rfl
 ·show (if !(sgnR q==0)&&!aheadK k k then [(k,q)] else [])++((if k==k then [] else [(k,p)])++insB C ((sgnR q==0)||!aheadK k k) k q)=_;rw[ahead_irrefl,beq_self_eq_true,show (!false)=true from rfl,Bool.and_true,Bool.or_true,ins_far q hC]
  cases sgnR q==0<;>rfl
theorem of_none{A:List Ln}{k:Key}(h:∀x∈A,x.1≠k):lineOf A k=none:=List.find?_eq_none.2 fun x hx=>by
 rw[beq_iff_eq];exact h x hx
theorem of_append(A B:List Ln)(k:Key):lineOf (A++B) k=(lineOf A k).or (lineOf B k):=List.find?_append
theorem sum_rd:∀ {ls:List Ln} (s:Rat),(∀x∈ls,isR x.2=true)→ls.foldl (fun s x=>addR s x.2) (rd s)=rd (s+ls.foldr (fun x s=>valR x.2+s) 0)
 | [],s,_=>by show rd s=rd (s+0);rw[Rat.add_zero]
 | x::r,s,h=>by
  have hx:=h x (List.mem_cons_self ..);have e:addR (rd s) x.2=rd (s+valR x.2):=by unfold addR;rw[isR_rd,hx,valR_rd];rfl
  show r.foldl _ (addR (rd s) x.2)=rd (s+(valR x.2+r.foldr _ 0));rw[e,sum_rd _ fun y hy=>h y (List.mem_cons_of_mem _ hy),Rat.add_assoc]
theorem cmp_lt:∀ {a b:List UInt8},Op.bytesLess a b=true→Lib.compareBytes a b=-1
 | _,[],h=>by rw[less_nil]at h;cases h
 | [],_::_,_=>rfl
 | x::a,y::b,h=>by
  have h:(decide (x<y)||(x==y&&Op.bytesLess a b))=true:=h;show (if x<y then -1 else if y<x then 1 else Lib.compareBytes a b)=(-1:Int);simp only[Bool.or_eq_true,Bool.and_eq_true,decide_eq_true_eq,beq_iff_eq]at h;by_cases hlt:x<y
  ·rw[if_pos hlt]
  ·rcases h with h|⟨h,h'⟩
   ·exact absurd h hlt
   ·subst h;rw[if_neg hlt,if_neg hlt,cmp_lt h']
theorem cmp_self:∀a:List UInt8,Lib.compareBytes a a=0
 | []=>rfl
 | x::a=>by
  show (if x<x then -1 else if x<x then 1 else Lib.compareBytes a a)=(0:Int);have h:¬x<x:=by rw[UInt8.lt_iff_toNat_lt];omega
  rw[if_neg h,if_neg h,cmp_self a]
theorem cmp_gt:∀ {a b:List UInt8},Op.bytesLess b a=true→Lib.compareBytes a b=1
 | [],b,h=>by rw[less_nil]at h;cases h
 | _::_,[],_=>rfl
 | x::a,y::b,h=>by
  have h:(decide (y<x)||(y==x&&Op.bytesLess b a))=true:=h;show (if x<y then -1 else if y<x then 1 else Lib.compareBytes a b)=(1:Int);simp only[Bool.or_eq_true,Bool.and_eq_true,decide_eq_true_eq,beq_iff_eq]at h;rcases h with h|⟨h,h'⟩
  ·have h2:¬x<y:=by rw[UInt8.lt_iff_toNat_lt]at h ⊢;omega
   rw[if_neg h2,if_pos h]
  ·subst h;have h2:¬y<y:=by rw[UInt8.lt_iff_toNat_lt];omega
   rw[if_neg h2,if_neg h2,cmp_gt h']
def orZ(a b:Int):Int:=if a=0 then b else a
theorem orZ_left{a b:Int}(h:a≠0):orZ a b=a:=if_neg h
theorem orZ_right(b:Int):orZ 0 b=b:=if_pos rfl
theorem nm_zero(l:List UInt8):nmFrom 1 l=l.all nameC:=by
 have key:∀ (l:List UInt8) (k:Nat),nmFrom (k+1) l=l.all nameC:=by
  intro l
  induction l with
  | nil=>intro k;rfl
  | cons c r ih =>
   intro k;show (okB (k+1) c&&nmFrom (k+1+1) r)=(nameC c&&r.all nameC);rw[ih (k+1)];have:okB (k+1) c=nameC c:=by unfold okB;rw[decide_eq_false (Nat.succ_ne_zero k),Bool.and_false,Bool.or_false]
   rw[this]
 exact key l 0
def noMark(l:List UInt8):List UInt8:=match l with|33::r=>r|l=>l
theorem trim_mark:∀l:List UInt8,Lib.trimPrefix l [33]=noMark l
 | []=>rfl
 | c::r=>by
  unfold Lib.trimPrefix noMark;by_cases h:c=33
  ·subst h;rfl
  ·have e:Lib.hasPrefix (c::r) [33]=false:=by
    show ([33]:List UInt8).isPrefixOf (c::r)=false;show ((33:UInt8)==c&&_)=false;rw[beq_false_of_ne (fun e=>h e.symm),Bool.false_and]
   rw[e];show c::r=_;split
   ·rename_i r' heq;exact absurd (List.cons.inj heq).1 h
   ·rfl
theorem name_mark(l:List UInt8):isName l=((noMark l).all nameC&&(decide (1≤l.length)&&decide (l.length≤20))):=by
 unfold isName
 cases l with
 | nil=>rfl
 | cons c r =>
  congr 1
  show (okB 0 c&&nmFrom 1 r)=_;rw[nm_zero];unfold noMark;split
  ·rename_i r' heq
   obtain⟨rfl,rfl⟩:=List.cons.inj heq;rw[show okB 0 33=true from by decide,Bool.true_and]
  ·rename_i l' hne
   have h33:c≠33:=fun e=>hne r (by rw[e]);have:okB 0 c=nameC c:=by
    unfold okB;rw[decide_eq_false (show ¬c.toNat=33 from fun e=>h33 (UInt8.toNat_inj.1 e)),Bool.false_and,Bool.or_false]
   rw[this];rfl
theorem noMark_len(l:List UInt8):(noMark l).length≤l.length:=by
 unfold noMark;split
 ·exact Nat.le_succ _
 ·exact Nat.le_refl _
def rank(ls:List Ln)(k:Key):Nat:=ls.countP fun x=>aheadK x.1 k
theorem rank_parts{A M C:List Ln}{k:Key}(hA:∀x∈A,aheadK x.1 k=true)(hC:∀x∈C,aheadK k x.1=true)(hM:M=[]∨∃p,M=[(k,p)]):rank (A++(M++C)) k=A.length:=by
 have hc:C.countP (fun x=>aheadK x.1 k)=0:=List.countP_eq_zero.2 fun x hx=>by rw[ahead_asym (hC x hx)];decide
 unfold rank;rw[List.countP_append,List.countP_append,List.countP_eq_length.2 hA,hc];rcases hM with rfl|⟨p,rfl⟩
 ·rfl
 ·rw[List.countP_eq_zero.2 fun x hx=>by obtain rfl:=List.mem_singleton.1 hx;rw[ahead_irrefl];decide]
  rfl
def thereB(ls:List Ln)(k:Key):Bool:=match ls[rank ls k]? with|some x=>x.1==k|none=>false
theorem place{ls:List Ln}(h:ls.Pairwise fun x y=>aheadK x.1 y.1=true)(k:Key) :
  (thereB ls k=true∧∃p,ls[rank ls k]?=some (k,p)∧lineOf ls k=some (k,p)∧∀q,putB ls k q=ls.take (rank ls k)++((if sgnR q==0 then [] else [(k,q)])++ls.drop (rank ls k+1))) ∨
  (thereB ls k=false∧lineOf ls k=none∧∀q,putB ls k q=ls.take (rank ls k)++((if sgnR q==0 then [] else [(k,q)])++ls.drop (rank ls k))):=by
 obtain⟨A,M,C,rfl,hA,hC,hM⟩:=parts h k;have hr:=rank_parts hA hC hM;have nA:lineOf A k=none:=of_none fun x hx=>ahead_ne (hA x hx);have nC:lineOf C k=none:=of_none fun x hx=>(ahead_ne (hC x hx)).symm;rcases hM with rfl|⟨p,rfl⟩
 ·right
  refine⟨?_,?_,fun q=>?_⟩
  ·unfold thereB;rw[hr,List.nil_append,List.getElem?_append_right (Nat.le_refl _),Nat.sub_self]
   cases C with
   | nil=>rfl
   | cons y r=>exact beq_false_of_ne (ahead_ne (hC y (List.mem_cons_self ..))).symm
  ·rw[of_append,of_append,nA,nC];rfl
  ·rw[put_parts q hA hC (.inl rfl),hr,List.take_left,List.drop_left];rfl
 ·left
  refine⟨?_,p,?_,?_,fun q=>?_⟩
  ·unfold thereB;rw[hr,List.getElem?_append_right (Nat.le_refl _),Nat.sub_self];exact beq_self_eq_true k
  ·rw[hr,List.getElem?_append_right (Nat.le_refl _),Nat.sub_self];rfl
  ·rw[of_append,of_append,nA];have:lineOf [(k,p)] k=some (k,p):=by unfold lineOf;rw[List.find?_cons,beq_self_eq_true]
   rw[this];rfl
  ·rw[put_parts q hA hC (.inr ⟨p,rfl⟩),hr,List.take_left]
   congr 2
   rw[List.drop_append,List.drop_of_length_le (Nat.le_succ _),Nat.add_sub_cancel_left];rfl
theorem sum_total{ls:List Ln}(h:∀x∈ls,isR x.2=true):sumL ls=rd (ls.foldr (fun x s=>valR x.2+s) 0):=by
 unfold sumL;rw[zero_rd,sum_rd _ h,Rat.zero_add]
theorem sum_one{x:Ln}(h:isR x.2=true):sumL [x]=x.2:=by
 rw[sum_total fun y hy=>List.mem_singleton.1 hy▸h];show rd (valR x.2+0)=x.2;rw[Rat.add_zero,rd_valR h]
end Go.Proofs.YtghioekjghmdaaaGreatDoor
