/- Own work. -/
import Derived.Lib.AppendZeros
import Derived.Laws.AppendOwnNone
import Derived.Maps.AppendAt
import Derived.Below
import Derived.OwnWalk
import Derived.Test.YthgopcnagecbaaaGreatDoorAllRat
set_option linter.unusedSimpArgs false
set_option linter.unusedVariables false
namespace Go.Proofs.YthgopcnagecbaaaGreatDoor
open Go.RowKit
section
variable {α : Type} (enc : α → List Value) (k : Nat)
def RowsG(w:World)(p:Option Addr)(l:List α):Prop:=∀ (j:Nat) (x:α),l[j]?=some x→∃b o,p=some ⟨b,o,none⟩∧b<w.heap.size∧∀i v,(enc x)[i]?=some v→w.cell? ⟨b,o+j*k+i,none⟩=some v
abbrev OwnG(e:TypeId)(B:Nat)(w:World)(v:Value)(l:List α):Prop:=w.ownsRow B e k v l.length (l.flatMap enc)
end
section
variable {α : Type} {enc : α → List Value} {k : Nat}
theorem RowsG.below{w w':World}{p:Option Addr}{l:List α}(h:RowsG enc k w p l)(hb:Below w.heap.size w w'):RowsG enc k w' p l:=fun j x hx=>by
 obtain⟨b,o,hp,hl,c⟩:=h j x hx;exact⟨b,o,hp,Nat.lt_of_lt_of_le hl hb.size,fun i v hv=>(hb.cell (p:=⟨b,_,none⟩) hl).trans (c i v hv)⟩
theorem RowsG.nil(w:World)(p:Option Addr):RowsG enc k w p []:=fun j x h=>by cases h
theorem flat_len(hk:∀x,(enc x).length=k):∀l:List α,(l.flatMap enc).length=l.length*k
 | []=>(Nat.zero_mul k).symm
 | x::r=>by rw[List.flatMap_cons,List.length_append,hk,flat_len hk r,List.length_cons,Nat.add_mul,Nat.one_mul,Nat.add_comm]
theorem flat_get(hk:∀x,(enc x).length=k):∀ {l:List α} {j:Nat} {x:α} {i:Nat} {v:Value},l[j]?=some x→(enc x)[i]?=some v→(l.flatMap enc)[j*k+i]?=some v
 | [],_,_,_,_,h,_=>by cases h
 | y::r,0,x,i,v,h,hv=>by
  obtain rfl:y=x:=Option.some.inj h;have hi:=(List.getElem?_eq_some_iff.1 hv).1;rw[List.flatMap_cons,Nat.zero_mul,Nat.zero_add,List.getElem?_append_left hi];exact hv
 | y::r,j+1,x,i,v,h,hv=>by
  have h:r[j]?=some x:=h;have e:(j+1)*k+i=(enc y).length+(j*k+i):=by rw[hk,Nat.add_mul,Nat.one_mul];omega
  rw[List.flatMap_cons,e,List.getElem?_append_right (Nat.le_add_right _ _),Nat.add_sub_cancel_left];exact flat_get hk h hv
theorem ownG_below{e:TypeId}{B:Nat}{w w':World}{v:Value}{l:List α}(h:OwnG enc k e B w v l)(hb:Below w.heap.size w w'):OwnG enc k e B w' v l :=
 World.ownsRow.kept h (row:=none) ⟨hb.os,hb.tape,hb.output,hb.size,fun i hi _=>hb.block i hi⟩ (Decidable.or_iff_not_imp_left.2 fun c e=>c e)
theorem ownG_rows{e:TypeId}{B:Nat}{w:World}{v:Value}{l:List α}(hk:∀x,(enc x).length=k)(h:OwnG enc k e B w v l) :
  ∃p c,v=.slice p l.length c∧l.length≤c∧RowsG enc k w p l∧∀a,p=some a→B≤a.block:=by
 rcases h.2 with ⟨rfl,h0⟩|⟨g,cap,cur,rfl,k2,k3,k4,k5⟩
 ·have:l=[]:=List.length_eq_zero_iff.1 h0;subst this;exact⟨none,0,rfl,Nat.le_refl _,RowsG.nil _ _,fun _ h=>by cases h⟩
 ·refine⟨some ⟨g,0,none⟩,cap,rfl,k4,fun j x hx=>?_,fun a h=>by cases h;exact k2⟩;refine⟨g,0,rfl,(Array.getElem?_eq_some_iff.1 k3).1,fun i u hu=>?_⟩;have c:=World.ownsRow.cells (g:=g) h rfl (j*k+i) u (flat_get hk hx hu);rw[show ((⟨g,0,none⟩:Addr).add (j*k+i))=⟨g,0+j*k+i,none⟩ by unfold Addr.add;split<;>simp_all]at c;exact c
theorem ownG_empty{e:TypeId}{B:Nat}(w:World)(h:B≤w.heap.size):OwnG enc k e B (w.alloc (.cells #[] e)) (.slice (some ⟨w.heap.size,0,none⟩) 0 0) [] :=
 ⟨(Nat.zero_mul k).symm,.inr ⟨w.heap.size,0,#[],rfl,h,heap_alloc_new w _,Nat.le_refl _,Nat.zero_le _,(Nat.zero_mul k).symm,by simp⟩⟩
theorem RowsG.cells{w:World}{ad:Addr}{x:α}(hk:(enc x).length=k)(h:RowsG enc k w (some ad) [x]):∀ (j:Nat) (u:Value),(enc x)[j]?=some u→w.cell? (ad.add j)=some u:=fun j u hu=>by
 obtain⟨b,o,hp,_,c⟩:=h 0 x rfl
 cases hp
 rw[show ((⟨b,o,none⟩:Addr).add j)=⟨b,o+0*k+j,none⟩ by unfold Addr.add;split<;>simp_all];exact c j u hu
theorem run_append_G{P:Program}{w:World}(t ty e:TypeId){z:Value}{bytes:Nat}(ht:P.underlying t=some (.slice e))(info:(P.info? e).map (fun i=>(i.zero,i.size,i.bytes))=some (some z,k,bytes))(hz:z.cells.size=k)(hk0:0<k)(hb:bytes≤4096)
  (hk:∀x,(enc x).length=k) (h1:∀x,∀v∈enc x,v.oneCell'=true) (base:Nat) (v:Value) (fs:List α) (hown:OwnG enc k e base w v fs) (ad:Addr) (y:α) (c:Nat) (hl:RowsG enc k w (some ad) [y]) (hf:fs.length≤3000000) (hbase:base≤w.heap.size) :
  ∃v' w',(Builtin.append_ #[t,t] ty #[v,.slice (some ad) 1 c]).run P w=.ok v' w'∧OwnG enc k e base w' v' (fs++[y])∧w.grownBy w' v.ownBlock∧(v'.ownBlock=v.ownBlock∨v'.ownBlock=some w.heap.size):=by
 obtain⟨i0,hi,hz0,hz1,hz2⟩:=info_parts info;have hbb:(fs.length+1)*bytes≤140737488355328:=Nat.le_trans (Nat.mul_le_mul (show fs.length+1≤3000001 by omega) hb) (by decide);obtain⟨v',w',hr,h2,h3,h4,h5⟩:=run_append_own_at (P:=P) w base t ty e i0 z k bytes ht hi hz0 hz1 hz2 hz hk0 v fs.length (fs.flatMap enc) hown ad 1 c (enc y) (by rw[hk,Nat.one_mul]) (RowsG.cells (hk y) hl) (h1 y) (by unfold maxLen;omega) hbb hbase;refine⟨v',w',hr,?_,h3,h5⟩;show World.ownsRow w' base e k v' (fs++[y]).length ((fs++[y]).flatMap enc);rw[List.length_append,List.flatMap_append];have e1:[y].flatMap enc=enc y:=by rw[List.flatMap_cons];exact List.append_nil _
 rw[e1];exact h2
theorem wp_append_G{P:Program}{o:Oper}{a:Act}{K:Act→World→Prop}{Q:Exit→Act→World→Prop}{w:World}(s x:Operand)(t e:TypeId)(ho:o.op=.call { callee:=.builtin .append,args:=#[s,x],argTypes:=#[t,t] }){z:Value}{bytes:Nat}
  (ht:P.underlying t=some (.slice e)) (info:(P.info? e).map (fun i=>(i.zero,i.size,i.bytes))=some (some z,k,bytes)) (hz:z.cells.size=k) (hk0:0<k) (hb:bytes≤4096)
  (hk:∀x,(enc x).length=k) (h1:∀x,∀v∈enc x,v.oneCell'=true) (base:Nat) (v:Value) (fs:List α) (hs:a.eval s=v) (hown:OwnG enc k e base w v fs) (ad:Addr) (y:α) (c:Nat) (hx:a.eval x=.slice (some ad) 1 c) (hl:RowsG enc k w (some ad) [y]) (hf:fs.length≤3000000) (hbase:base≤w.heap.size)
  (h:∀v' w',OwnG enc k e base w' v' (fs++[y])→w.grownBy w' v.ownBlock→(v'.ownBlock=v.ownBlock∨v'.ownBlock=some w.heap.size)→K (a.put o.dst v') w'):o.wp P a w K Q:=by
 obtain⟨v',w',hr,h2,h3,h4⟩:=run_append_G t o.type e ht info hz hk0 hb hk h1 base v fs hown ad y c hl hf hbase;exact Lib.wp_append_run w s x t t ho _ _ hs hx _ _ hr (h v' w' h2 h3 h4)
theorem wpList_append_G{P:Program}{ops:Array Oper}{rest:List Oper}{o:Oper}{a:Act}{Q:Exit→Act→World→Prop}{w:World}(hgd:o.guard=none)(s x:Operand)(t e:TypeId)(ho:o.op=.call { callee:=.builtin .append,args:=#[s,x],argTypes:=#[t,t] }){z:Value}{bytes:Nat}
  (ht:P.underlying t=some (.slice e)) (info:(P.info? e).map (fun i=>(i.zero,i.size,i.bytes))=some (some z,k,bytes)) (hz:z.cells.size=k) (hk0:0<k) (hb:bytes≤4096)
  (hk:∀x,(enc x).length=k) (h1:∀x,∀v∈enc x,v.oneCell'=true) (base:Nat) (v:Value) (fs:List α) (hs:a.eval s=v) (hown:OwnG enc k e base w v fs) (ad:Addr) (y:α) (c:Nat) (hx:a.eval x=.slice (some ad) 1 c) (hl:RowsG enc k w (some ad) [y]) (hf:fs.length≤3000000) (hbase:base≤w.heap.size)
  (h:∀v' w',OwnG enc k e base w' v' (fs++[y])→w.grownBy w' v.ownBlock→(v'.ownBlock=v.ownBlock∨v'.ownBlock=some w.heap.size)→wpList P ops Q rest (a.put o.dst v') w'):wpList P ops Q (o::rest) a w :=
 wpList_plain hgd fun _ hK=>wp_append_G s x t e ho ht info hz hk0 hb hk h1 base v fs hs hown ad y c hx hl hf hbase fun v' w' h1 h2 h3=>hK _ _ (h v' w' h1 h2 h3)
theorem rowsOne(w:World)(x:α)(t:TypeId)(c:Array Value)(hc:c=(enc x).toArray):RowsG enc k (w.alloc (.cells c t)) (some ⟨w.heap.size,0,none⟩) [x]:=fun j y hy=>by
 cases j with
 | zero =>
  obtain rfl:x=y:=Option.some.inj hy;refine⟨w.heap.size,0,rfl,by simp,fun i v hv=>?_⟩;rw[Nat.zero_mul,Nat.zero_add];exact(cell_new w _ _ _ rfl i).trans (by rw[hc];simpa using hv)
 | succ j=>cases hy
end
def HaltG(p:Prop):Prop:=p
theorem haltG{p:Prop}(h:HaltG p):p:=h
end Go.Proofs.YthgopcnagecbaaaGreatDoor
namespace Go.Proofs.YthgopcnagecbaaaGreatDoor
open Go.RowKit
section
variable {α : Type} {enc : α → List Value} {k : Nat}
end
def Sch(_l:List Nat)(p:Prop):Prop:=p
theorem sch_in(l:List Nat){p:Prop}(h:Sch l p):p:=h
theorem sch_out{p:Prop}(h:p):Sch [] p:=h
section
variable {P : Program} {md : Region.Mode} {ops : Array Oper} {Q : Exit → Act → World → Prop} {S : World → Prop} {i : Nat} {r : List Nat} {oi : Oper} {v : Value} {fuel : Nat} {listed : Array Bool} {a : Act} {w : World}
theorem sch_take(hi:ops[i]?=some oi)(hs:(Region.noSelect ops&&(Region.free md ops listed i&&(Region.ready md ops listed).contains i))=true)
  (hQ:∀c a w,Q (.panic c) (a.put oi.dst v) w→Q (.panic c) a w) (hy:YieldsIf P ops S oi v a) (hS:S w)
  (h:Sch r (wpAnyH P md ops Q S fuel (listed.setIfInBounds i true) (a.put oi.dst v) w)):Sch (i::r) (wpAnyH P md ops Q S (fuel+1) listed a w):=by
 simp only[Bool.and_eq_true]at hs;exact wpAnyH_take hi hs.1 hs.2.1 hs.2.2 hQ hy hS h
theorem sch_yes(hi:ops[i]?=some oi)(hs:(Region.noSelect ops&&(Region.free md ops listed i&&(Region.ready md ops listed).contains i))=true)
  (hw:Region.wanted oi (yielded ops a.tmps)=true) (hy:∀w,S w→(execOp a.eval oi).run P w=.ok (.value v) w) (hS:S w)
  (h:Sch r (wpAnyH P md ops (NoPanic Q) S fuel (listed.setIfInBounds i true) (a.put oi.dst v) w)):Sch (i::r) (wpAnyH P md ops (NoPanic Q) S (fuel+1) listed a w) :=
 sch_take hi hs (fun _ _ _ h=>h) (.inl ⟨hw,hy⟩) hS h
theorem sch_no(hi:ops[i]?=some oi)(hs:(Region.noSelect ops&&(Region.free md ops listed i&&(Region.ready md ops listed).contains i))=true)
  (hw:Region.wanted oi (yielded ops a.tmps)=false) (hS:S w)
  (h:Sch r (wpAnyH P md ops (NoPanic Q) S fuel (listed.setIfInBounds i true) (a.put oi.dst undef) w)):Sch (i::r) (wpAnyH P md ops (NoPanic Q) S (fuel+1) listed a w) :=
 sch_take hi hs (fun _ _ _ h=>h) (.inr ⟨hw,rfl⟩) hS h
end
end Go.Proofs.YthgopcnagecbaaaGreatDoor
