/- Own work. -/
import Derived.Test.YtghioekjghmdaaaGreatDoorOpenA
import Derived.Test.YtghioekjghmdaaaGreatDoorEvNumM
set_option maxRecDepth 100000
namespace Go.Proofs.YtghioekjghmdaaaGreatDoor
open Go.ChangeShapes Go.WideShapes Go.RowKit Go.Joins Go.Deep
open Tm (Nd)
section
variable {H : Type} {enc : TypeId × Value → H} {w : World} {base : Nat} {sp : Nat → Bool} {held : Bool}
theorem cellsNode:Tryz.prog.cellsOf 55=6:=by kernel_rfl
theorem bytesNode:Tryz.prog.bytesOf 55=72:=by kernel_rfl
theorem one_intR{n:Nat}{c:Value}{y:DataW H×List MemPlace}(h:DataW.trod enc Tryz.prog w base sp held n 3 [c]=some y):∃k:Int,c=.int .i64 k∧-9223372036854775808≤k∧k≤9223372036854775807:=by
 obtain⟨k,e,_,hw⟩:=DataW.trod_int Tryz.underlying3 h;have g:-9223372036854775808≤k∧k≤9223372036854775807:=by simpa [Lit.wf,IntKind.min,IntKind.max,IntKind.signed,IntKind.bits] using hw
 exact⟨k,(List.cons.inj e).1,g⟩
theorem trod_node{n:Nat}{c0 c1 c2 c3 c4 c5:Value}{x:DataW H×List MemPlace}(h:DataW.trod enc Tryz.prog w base sp held n 55 [c0,c1,c2,c3,c4,c5]=some x) :
  ∃z:Nd,RgN z∧c0=.int .i64 z.op∧c1=.string ⟨z.num.1.toArray⟩∧c2=.string ⟨z.num.2.toArray⟩∧c3=.string ⟨z.ast.toArray⟩∧c4=.int .i64 z.a∧c5=.int .i64 z.b:=by
 obtain⟨xs,m,_,rfl,hl,hlen,hf⟩:=DataW.trod_struct Tryz.underlying55 h
 match xs,hlen with
 | [y0,y1,y2,y3,y4],_ =>
  have h0:DataW.trod enc Tryz.prog w base sp held m 3 (([c0,c1,c2,c3,c4,c5].drop 0).take (Tryz.prog.cellsOf 3))=some y0:=hf 0 _ rfl;have h1:DataW.trod enc Tryz.prog w base sp held m 28 (([c0,c1,c2,c3,c4,c5].drop 1).take (Tryz.prog.cellsOf 28))=some y1:=hf 1 _ rfl;have h2:DataW.trod enc Tryz.prog w base sp held m 9 (([c0,c1,c2,c3,c4,c5].drop 3).take (Tryz.prog.cellsOf 9))=some y2:=hf 2 _ rfl;have h3:DataW.trod enc Tryz.prog w base sp held m 3 (([c0,c1,c2,c3,c4,c5].drop 4).take (Tryz.prog.cellsOf 3))=some y3:=hf 3 _ rfl;have h4:DataW.trod enc Tryz.prog w base sp held m 3 (([c0,c1,c2,c3,c4,c5].drop 5).take (Tryz.prog.cellsOf 3))=some y4:=hf 4 _ rfl;rw[cellsInt]at h0 h3 h4;rw[cellsStr]at h2;rw[cellsRat]at h1;obtain⟨a0,rfl,r0⟩:=one_intR h0;obtain⟨a1,rfl,rfl⟩:=one_rat h1;obtain⟨a2,rfl⟩:=one_str h2;obtain⟨a3,rfl,r3⟩:=one_intR h3;obtain⟨a4,rfl,r4⟩:=one_intR h4;exact⟨Nd.mk a0 a1 a2 a3 a4,⟨r0,r3,r4⟩,rfl,rfl,rfl,rfl,rfl,rfl⟩
theorem open_term{v:Value}{d:DataW H}{p:List MemPlace}(hv:∃ (q:Option Addr) (l c:Nat),v=.slice q l c)(h:DataW.Trod enc Tryz.prog w 0 (fun _=>true) held 23 v d p) :
  ∃ (q:Option Addr) (c:Nat) (t:List Nd),v=.slice q t.length c∧t.length≤c∧Nds w q t∧Hid (∀x∈t,RgN x)∧(d=.nil∧t=[]∨∃es rest,d=.slice es rest∧es.length=t.length):=by
 obtain⟨q0,l0,c0,rfl⟩:=hv;obtain⟨fuel,hf⟩:=h;have hf:DataW.trod enc Tryz.prog w 0 (fun _=>true) held fuel 23 [.slice q0 l0 c0]=some (d,p):=hf;rcases open_slice Tryz.underlying23 hf with ⟨hcs,hx⟩|⟨a,len,cap,m,n,D,Pl,hcs,_,hl,hm,hmm,hx,hel⟩
 ·simp only[List.cons.injEq,Value.slice.injEq,and_true]at hcs;obtain⟨rfl,rfl,rfl⟩:=hcs;exact⟨none,0,[],rfl,Nat.le_refl _,RowsG.nil _ _,zh (fun x h=>by cases h),.inl ⟨(Prod.mk.inj hx).1,rfl⟩⟩
 ·simp only[List.cons.injEq,Value.slice.injEq,and_true]at hcs;obtain⟨rfl,rfl,rfl⟩:=hcs;simp only[if_true]at hmm;subst hmm;rw[show Tryz.prog.cellsOf _=6 from cellsNode]at hel;have hline:∀i,i<l0→∃z:Nd,RgN z∧w.cell? (a.add (i*6))=some (.int .i64 z.op)∧w.cell? ((a.add (i*6)).add 1)=some (.string ⟨z.num.1.toArray⟩)∧w.cell? ((a.add (i*6)).add 2)=some (.string ⟨z.num.2.toArray⟩)∧w.cell? ((a.add (i*6)).add 3)=some (.string ⟨z.ast.toArray⟩)∧w.cell? ((a.add (i*6)).add 4)=some (.int .i64 z.a)∧w.cell? ((a.add (i*6)).add 5)=some (.int .i64 z.b):=fun i hi=>by
   obtain⟨cs,h1,h2⟩:=hel i (by omega);obtain⟨_,hlen,hc⟩:=World.cells?_some h1
   match cs,hlen with
   | [x0,x1,x2,x3,x4,x5],_ =>
    obtain⟨z,hz,rfl,rfl,rfl,rfl,rfl,rfl⟩:=trod_node h2;exact⟨z,hz,hc 0 (by decide),hc 1 (by decide),hc 2 (by decide),hc 3 (by decide),hc 4 (by decide),hc 5 (by decide)⟩
  obtain⟨L,hL⟩:=@choose_lt Nd ⟨Nd.mk 0 ([],[]) [] 0 0⟩ _ _ hline;have hlen:((List.range l0).map L).length=l0:=by rw[List.length_map,List.length_range]
  refine⟨some a,_,(List.range l0).map L,by rw[hlen],by rw[hlen];exact hl,fun j x hx2=>?_,zh fun x hx2=>?_,.inr ⟨_,_,(Prod.mk.inj hx).1,by rw[List.length_map,List.length_map]⟩⟩
  ·have hj:j<l0:=by
    have:=(List.getElem?_eq_some_iff.1 hx2).1;rw[hlen]at this;exact this
   have hx3:x=L j:=by
    rw[List.getElem?_map,List.getElem?_range hj]at hx2;exact(Option.some.inj hx2).symm
   subst hx3;obtain⟨_,g0,g1,g2,g3,g4,g5⟩:=hL j hj;obtain⟨_,k0,_⟩:=hL 0 (by omega);have hs:a.spot=none:=by
    have:=World.cell?_spot k0
    simpa [Addr.add] using this
   obtain⟨b,o,s⟩:=a;obtain rfl:s=none:=hs;rw[Addr.add_lit]at g0;rw[Addr.add_lit,Addr.add_lit]at g1 g2 g3 g4 g5;refine⟨b,o,rfl,World.block_lt_of_cell? w ⟨b,o+j*6,none⟩ g0,fun i v hv=>?_⟩
   match i,hv with
   | 0,hv=>cases hv;exact g0
   | 1,hv=>cases hv;exact g1
   | 2,hv=>cases hv;exact g2
   | 3,hv=>cases hv;exact g3
   | 4,hv=>cases hv;exact g4
   | 5,hv=>cases hv;exact g5
  ·obtain⟨i,hi,rfl⟩:=List.mem_map.1 hx2;exact(hL i (List.mem_range.1 hi)).1
end
end Go.Proofs.YtghioekjghmdaaaGreatDoor
