/- Own work. -/
import Derived.Test.YtcebkcilkhebeaaGreatDoorAllRefD9
set_option linter.unusedSimpArgs false
set_option linter.unusedVariables false
namespace Go.Proofs.YtcebkcilkhebeaaGreatDoor
open Go.RowKit
end Go.Proofs.YtcebkcilkhebeaaGreatDoor
namespace Go.Proofs.YtcebkcilkhebeaaGreatDoor
open Go.RowKit
structure Blk(b:Nat)(xs:List Value)(w:World):Prop where
 lt:b<w.heap.size
 c:∀i x,xs[i]?=some x→w.cell? ⟨b,i,none⟩=some x
 f:∀i,i<xs.length→w.frozen? ⟨b,i,none⟩=false
theorem Blk.below{b:Nat}{xs:List Value}{w w':World}(h:Blk b xs w)(hb:Below w.heap.size w w'):Blk b xs w' :=
 ⟨Nat.lt_of_lt_of_le h.lt hb.size,fun i x e=>(hb.cell (p:=⟨b,i,none⟩) h.lt).trans (h.c i x e),fun i e=>(hb.frozen (p:=⟨b,i,none⟩) h.lt).trans (h.f i e)⟩
theorem blk_new(w:World)(cs:Array Value)(t:TypeId):Blk w.heap.size cs.toList (w.alloc (.cells cs t)) :=
 ⟨by simp,fun i x e=>(cell_new w _ _ _ rfl i).trans (by simpa using e),fun i _=>by rw[frozen?_alloc_cells];simp[World.frozen?]⟩
theorem Blk.set{b:Nat}{xs:List Value}{w:World}(h:Blk b xs w)(k:Nat)(hk:k<xs.length)(x:Value):Blk b (xs.set k x) (w.setCell ⟨b,k,none⟩ x):=by
 have old:∃y,w.cell? ⟨b,k,none⟩=some y:=⟨_,h.c k _ (List.getElem?_eq_getElem hk)⟩;refine⟨by rw[size_setCell];exact h.lt,fun i y e=>?_,fun i e=>by rw[World.frozen?_setCell];exact h.f i (by simpa using e)⟩;by_cases hi:k=i
 ·subst hi;rw[List.getElem?_set_self hk]at e;obtain⟨z,hz⟩:=old;rw[←Option.some.inj e];exact World.cell?_setCell_same' _ _ _ (by rw[hz];rfl)
 ·rw[List.getElem?_set_ne hi]at e;rw[cell?_setCell_ne _ _ _ _ _ hi];exact h.c i y e
structure WrB(Xs:List Nat)(w w':World):Prop where
 os:w'.os=w.os
 tape:w'.tape=w.tape
 output:w'.output=w.output
 size:w.heap.size≤w'.heap.size
 block:∀k,k<w.heap.size→k∉Xs→w'.heap[k]?=w.heap[k]?
theorem WrB.refl(Xs:List Nat)(w:World):WrB Xs w w:=⟨rfl,rfl,rfl,Nat.le_refl _,fun _ _ _=>rfl⟩
theorem WrB.trans{Xs:List Nat}{a b c:World}(h:WrB Xs a b)(k:WrB Xs b c):WrB Xs a c :=
 ⟨k.os.trans h.os,k.tape.trans h.tape,k.output.trans h.output,Nat.le_trans h.size k.size,fun i hi hn=>(k.block i (Nat.lt_of_lt_of_le hi h.size) hn).trans (h.block i hi hn)⟩
theorem WrB.of_below{w w':World}(h:Below w.heap.size w w')(Xs:List Nat):WrB Xs w w':=⟨h.os,h.tape,h.output,h.size,fun k hk _=>h.block k hk⟩
theorem WrB.of_set(w:World)(b i:Nat)(x:Value){Xs:List Nat}(h:b∈Xs):WrB Xs w (w.setCell ⟨b,i,none⟩ x) :=
 ⟨rfl,rfl,rfl,by rw[size_setCell];exact Nat.le_refl _,fun k _ hn=>Below.heap_setCell w _ x k fun c=>hn (by rw[c];exact h)⟩
theorem WrB.below{Xs:List Nat}{w w':World}{B:Nat}(h:WrB Xs w w')(hb:∀x∈Xs,B≤x)(hB:B≤w.heap.size):Below B w w' :=
 ⟨h.os,h.tape,h.output,h.size,fun k hk=>h.block k (Nat.lt_of_lt_of_le hk hB) fun c=>by have:=hb k c;omega⟩
theorem Blk.wr{b:Nat}{cs:List Value}{w w':World}{Xs:List Nat}(h:Blk b cs w)(hg:WrB Xs w w')(hb:b∉Xs):Blk b cs w':=by
 have e:w'.heap[b]?=w.heap[b]?:=hg.block b h.lt hb;exact⟨Nat.lt_of_lt_of_le h.lt hg.size,fun i x c=>(World.cell?_of_block (w:=w) (a:=⟨b,i,none⟩) e).trans (h.c i x c),fun i c=>(World.frozen?_of_block (w:=w) (a:=⟨b,i,none⟩) e).trans (h.f i c)⟩
theorem RowsG.wr{α:Type}{enc:α→List Value}{k:Nat}{w w':World}{p:Option Addr}{l:List α}{Xs:List Nat}(h:RowsG enc k w p l)(hg:WrB Xs w w')(hp:∀a,p=some a→a.block∉Xs):RowsG enc k w' p l:=fun j x hx=>by
 obtain⟨b,o,e,hl,c⟩:=h j x hx;have hb:w'.heap[b]?=w.heap[b]?:=hg.block b hl (by have:=hp _ e;exact this);exact⟨b,o,e,Nat.lt_of_lt_of_le hl hg.size,fun i v hv=>(World.cell?_of_block (w:=w) (a:=⟨b,_,none⟩) hb).trans (c i v hv)⟩
end Go.Proofs.YtcebkcilkhebeaaGreatDoor
