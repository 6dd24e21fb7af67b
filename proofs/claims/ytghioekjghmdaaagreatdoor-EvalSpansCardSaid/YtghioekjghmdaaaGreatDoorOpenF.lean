/- Own work. -/
import Derived.Test.YtghioekjghmdaaaGreatDoorOpenA
import Derived.Test.YtghioekjghmdaaaGreatDoorEvNumM
set_option maxRecDepth 100000
namespace Go.Proofs.YtghioekjghmdaaaGreatDoor
open Go.ChangeShapes Go.WideShapes Go.RowKit Go.Joins Go.Deep
section
variable {H : Type} {enc : TypeId × Value → H} {w : World} {base : Nat} {sp : Nat → Bool} {held : Bool}
theorem cellsFix:Tryz.prog.cellsOf 39=4:=by kernel_rfl
theorem bytesFix:Tryz.prog.bytesOf 39=56:=by kernel_rfl
theorem trod_fix{n:Nat}{c0 c1 c2 c3:Value}{x:DataW H×List MemPlace}(h:DataW.trod enc Tryz.prog w base sp held n 39 [c0,c1,c2,c3]=some x) :
  ∃z:Fx.Fix,c0=.string ⟨z.1.1.toArray⟩∧c1=.int .i64 z.1.2∧c2=.string ⟨z.2.1.toArray⟩∧c3=.string ⟨z.2.2.toArray⟩:=by
 obtain⟨xs,m,_,rfl,hl,hlen,hf⟩:=DataW.trod_struct Tryz.underlying39 h
 match xs,hlen with
 | [y0,y1,y2],_ =>
  have h0:DataW.trod enc Tryz.prog w base sp held m 9 (([c0,c1,c2,c3].drop 0).take (Tryz.prog.cellsOf 9))=some y0:=hf 0 _ rfl;have h1:DataW.trod enc Tryz.prog w base sp held m 3 (([c0,c1,c2,c3].drop 1).take (Tryz.prog.cellsOf 3))=some y1:=hf 1 _ rfl;have h2:DataW.trod enc Tryz.prog w base sp held m 28 (([c0,c1,c2,c3].drop 2).take (Tryz.prog.cellsOf 28))=some y2:=hf 2 _ rfl;rw[cellsStr]at h0;rw[cellsInt]at h1;rw[cellsRat]at h2;obtain⟨a0,rfl⟩:=one_str h0;obtain⟨a1,rfl⟩:=one_int h1;obtain⟨a2,rfl,rfl⟩:=one_rat h2;exact⟨((a0,a1),a2),rfl,rfl,rfl,rfl⟩
theorem open_fixes{v:Value}{d:DataW H}{p:List MemPlace}(hv:∃ (q:Option Addr) (l c:Nat),v=.slice q l c)(h:DataW.Trod enc Tryz.prog w 0 (fun _=>true) held 24 v d p) :
  ∃ (q:Option Addr) (c:Nat) (ls:List Fx.Fix),v=.slice q ls.length c∧ls.length≤c∧Fxs w q ls∧(d=.nil∧ls=[]∨∃es rest,d=.slice es rest∧es.length=ls.length):=by
 obtain⟨q0,l0,c0,rfl⟩:=hv;obtain⟨fuel,hf⟩:=h;have hf:DataW.trod enc Tryz.prog w 0 (fun _=>true) held fuel 24 [.slice q0 l0 c0]=some (d,p):=hf;rcases open_slice Tryz.underlying24 hf with ⟨hcs,hx⟩|⟨a,len,cap,m,n,D,Pl,hcs,_,hl,hm,hmm,hx,hel⟩
 ·simp only[List.cons.injEq,Value.slice.injEq,and_true]at hcs;obtain⟨rfl,rfl,rfl⟩:=hcs;exact⟨none,0,[],rfl,Nat.le_refl _,RowsG.nil _ _,.inl ⟨(Prod.mk.inj hx).1,rfl⟩⟩
 ·simp only[List.cons.injEq,Value.slice.injEq,and_true]at hcs;obtain⟨rfl,rfl,rfl⟩:=hcs;simp only[if_true]at hmm;subst hmm;rw[show Tryz.prog.cellsOf _=4 from cellsFix]at hel;have hline:∀i,i<l0→∃z:Fx.Fix,w.cell? (a.add (i*4))=some (.string ⟨z.1.1.toArray⟩)∧w.cell? ((a.add (i*4)).add 1)=some (.int .i64 z.1.2)∧w.cell? ((a.add (i*4)).add 2)=some (.string ⟨z.2.1.toArray⟩)∧w.cell? ((a.add (i*4)).add 3)=some (.string ⟨z.2.2.toArray⟩):=fun i hi=>by
   obtain⟨cs,h1,h2⟩:=hel i (by omega);obtain⟨_,hlen,hc⟩:=World.cells?_some h1
   match cs,hlen with
   | [x0,x1,x2,x3],_ =>
    obtain⟨z,rfl,rfl,rfl,rfl⟩:=trod_fix h2;exact⟨z,hc 0 (by decide),hc 1 (by decide),hc 2 (by decide),hc 3 (by decide)⟩
  obtain⟨L,hL⟩:=choose_lt (α:=Fx.Fix) hline;have hlen:((List.range l0).map L).length=l0:=by rw[List.length_map,List.length_range]
  refine⟨some a,_,(List.range l0).map L,by rw[hlen],by rw[hlen];exact hl,fun j x hx2=>?_,.inr ⟨_,_,(Prod.mk.inj hx).1,by rw[List.length_map,List.length_map]⟩⟩;have hj:j<l0:=by
   have:=(List.getElem?_eq_some_iff.1 hx2).1;rw[hlen]at this;exact this
  have hx3:x=L j:=by
   rw[List.getElem?_map,List.getElem?_range hj]at hx2;exact(Option.some.inj hx2).symm
  subst hx3;obtain⟨g0,g1,g2,g3⟩:=hL j hj;obtain⟨k0,_⟩:=hL 0 (by omega);have hs:a.spot=none:=by
   have:=World.cell?_spot k0
   simpa [Addr.add] using this
  obtain⟨b,o,s⟩:=a;obtain rfl:s=none:=hs;rw[Addr.add_lit]at g0;rw[Addr.add_lit,Addr.add_lit]at g1 g2 g3;refine⟨b,o,rfl,World.block_lt_of_cell? w ⟨b,o+j*4,none⟩ g0,fun i v hv=>?_⟩
  match i,hv with
  | 0,hv=>obtain rfl:=Option.some.inj hv;exact g0
  | 1,hv=>obtain rfl:=Option.some.inj hv;exact g1
  | 2,hv=>obtain rfl:=Option.some.inj hv;exact g2
  | 3,hv=>obtain rfl:=Option.some.inj hv;exact g3
end
end Go.Proofs.YtghioekjghmdaaaGreatDoor
