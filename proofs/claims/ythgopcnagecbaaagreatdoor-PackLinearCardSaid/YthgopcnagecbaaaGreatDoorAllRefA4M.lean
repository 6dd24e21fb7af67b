/- Own work. -/
import Derived.Test.YthgopcnagecbaaaGreatDoorPkNum
set_option linter.unusedSimpArgs false
set_option linter.unusedVariables false
namespace Go.Proofs.YthgopcnagecbaaaGreatDoor
open Go.RowKit
open Pk (Part Pack)
def encPt(x:Part):List Value:=[.string ⟨x.1.toArray⟩,.string ⟨x.2.1.toArray⟩,.string ⟨x.2.2.toArray⟩]
theorem encPt_one(x:Part):∀v∈encPt x,v.oneCell'=true:=fun v hv=>by
 unfold encPt at hv;simp only[List.mem_cons,List.not_mem_nil,or_false]at hv;rcases hv with rfl|rfl|rfl<;>rfl
abbrev Pts(w:World)(p:Option Addr)(l:List Part):Prop:=RowsG encPt 3 w p l
theorem pt_rule{w:World}{p:Option Addr}{l:List Part}(h:Pts w p l){k:Nat}{a n e:List UInt8}(hx:l[k]?=some (a,(n,e))):∃b o,p=some ⟨b,o,none⟩∧(∀v,Below w.heap.size w v→v.cell? ⟨b,o+k*3,none⟩=some (.string ⟨a.toArray⟩)) ∧
  (∀v,Below w.heap.size w v→v.cell? ⟨b,o+k*3+1,none⟩=some (.string ⟨n.toArray⟩))∧(∀v,Below w.heap.size w v→v.cell? ⟨b,o+k*3+2,none⟩=some (.string ⟨e.toArray⟩)):=by
 obtain⟨b,o,hp,hl,c⟩:=h k _ hx;exact⟨b,o,hp,fun v hb=>(hb.cell (p:=⟨b,_,none⟩) hl).trans (c 0 _ rfl),fun v hb=>(hb.cell (p:=⟨b,_,none⟩) hl).trans (c 1 _ rfl),fun v hb=>(hb.cell (p:=⟨b,_,none⟩) hl).trans (c 2 _ rfl)⟩
theorem morePt{l:List Part}{P:Nat→Part→Prop}{k:Nat}{z:Part}(h:∀ (j:Nat) (x:Part),j<k→l[j]?=some x→P j x)(hz:l[k]?=some z)(hp:P k z):∀ (j:Nat) (x:Part),j<k+1→l[j]?=some x→P j x:=fun j x hj hx=>by
 by_cases e:j=k
 ·subst e;rw[hz]at hx;exact Option.some.inj hx▸hp
 ·exact h j x (by omega) hx
def lightPt(x:Part):Bool:=decide (x.2.1.length≤20)&&(decide (x.2.2.length≤20)&&decide (x.1.length≤100))
def lightP(p:Pack):Bool:=p.parts.all lightPt&&(decide (p.parts.length≤4)&&(decide (p.cash.1.length≤20)&&decide (p.cash.2.length≤20)))
theorem lightP_stop{l:List Part}{q:Key}{k:Nat}{x:Part}(hx:l[k]?=some x)(h:lightPt x=false):lightP ⟨l,q⟩=false:=by
 unfold lightP;rw[Bool.and_eq_false_iff];refine .inl ?_;rw[←Bool.not_eq_true];intro e;have:=List.all_eq_true.1 e x (List.mem_of_getElem? hx);rw[h]at this;cases this
theorem lightP_end{l:List Part}(h:∀ (j:Nat) (x:Part),j<l.length→l[j]?=some x→lightPt x=true):l.all lightPt=true:=List.all_eq_true.2 fun x hx=>by
 obtain⟨j,hj⟩:=List.getElem?_of_mem hx;exact h j x (List.getElem?_eq_some_iff.1 hj).1 hj
end Go.Proofs.YthgopcnagecbaaaGreatDoor
namespace Go.Proofs.YthgopcnagecbaaaGreatDoor
open Go.RowKit
open Pk (Part Pack)
def encKy(x:Key):List Value:=[.string ⟨x.1.toArray⟩,.string ⟨x.2.toArray⟩]
theorem encKy_one(x:Key):∀v∈encKy x,v.oneCell'=true:=fun v hv=>by
 unfold encKy at hv;simp only[List.mem_cons,List.not_mem_nil,or_false]at hv;rcases hv with rfl|rfl<;>rfl
abbrev Kys(w:World)(p:Option Addr)(l:List Key):Prop:=RowsG encKy 2 w p l
theorem ky_rule{w:World}{p:Option Addr}{l:List Key}(h:Kys w p l){k:Nat}{n e:List UInt8}(hx:l[k]?=some (n,e)):∃b o,p=some ⟨b,o,none⟩∧(∀v,Below w.heap.size w v→v.cell? ⟨b,o+k*2,none⟩=some (.string ⟨n.toArray⟩))∧(∀v,Below w.heap.size w v→v.cell? ⟨b,o+k*2+1,none⟩=some (.string ⟨e.toArray⟩)):=by
 obtain⟨b,o,hp,hl,c⟩:=h k _ hx;exact⟨b,o,hp,fun v hb=>(hb.cell (p:=⟨b,_,none⟩) hl).trans (c 0 _ rfl),fun v hb=>(hb.cell (p:=⟨b,_,none⟩) hl).trans (c 1 _ rfl)⟩
theorem kyInfo:(Tryz.prog.info? 23).map (fun i=>(i.zero,i.size,i.bytes))=some (some (.agg #[.string ⟨#[]⟩,.string ⟨#[]⟩]),2,32):=by kernel_rfl
theorem rows_takes{α:Type}{enc:α→List Value}{k:Nat}{w:World}{p:Option Addr}{l:List α}(h:RowsG enc k w p l)(i:Nat):RowsG enc k w p (l.take i):=fun j x hx=>by
 have hj:=(List.getElem?_eq_some_iff.1 hx).1;rw[List.length_take]at hj;rw[List.getElem?_take_of_lt (by omega)]at hx;exact h j x hx
theorem rows_drops{α:Type}{enc:α→List Value}{k:Nat}{w:World}{p:Option Addr}{l:List α}{c i:Nat}(h:RowsG enc k w p l)(hc:l.length≤c):RowsG enc k w (if c=i then p else Option.map (fun x=>x.add (i*k)) p) (l.drop i):=fun j x hx=>by
 have hj:=(List.getElem?_eq_some_iff.1 hx).1;rw[List.length_drop]at hj;rw[if_neg (by omega)];rw[List.getElem?_drop]at hx;obtain⟨b,o,rfl,hl,q⟩:=h (i+j) x hx;rw[Nat.add_mul,← Nat.add_assoc]at q;exact⟨b,o+i*k,by show some (Addr.add _ _)=_;rw[Addr.add_lit],hl,q⟩
def GivePk(w:World)(x:Pack)(e:Ending)(w':World):Prop:=(∃p c,e=.returned (.agg #[.slice p x.parts.length c,.string ⟨x.cash.1.toArray⟩,.string ⟨x.cash.2.toArray⟩])∧x.parts.length≤c∧Pts w' p x.parts)∧Below w.heap.size w w'
end Go.Proofs.YthgopcnagecbaaaGreatDoor
set_option maxRecDepth 100000
namespace Go.Proofs.YthgopcnagecbaaaGreatDoor
open Go.ChangeShapes Go.WideShapes Go.RowKit Go.Joins Go.Deep
open Pk (Part Pack)
section
variable {H : Type} {enc : TypeId × Value → H} {w : World} {base : Nat} {sp : Nat → Bool} {held : Bool}
theorem cellsPart:Tryz.prog.cellsOf 45=3:=by kernel_rfl
theorem bytesPart:Tryz.prog.bytesOf 45=48:=by kernel_rfl
theorem trod_part{n:Nat}{c0 c1 c2:Value}{x:DataW H×List MemPlace}(h:DataW.trod enc Tryz.prog w base sp held n 45 [c0,c1,c2]=some x) :
  ∃z:Part,c0=.string ⟨z.1.toArray⟩∧c1=.string ⟨z.2.1.toArray⟩∧c2=.string ⟨z.2.2.toArray⟩:=by
 obtain⟨xs,m,_,rfl,hl,hlen,hf⟩:=DataW.trod_struct Tryz.underlying45 h
 match xs,hlen with
 | [y0,y1],_ =>
  have h0:DataW.trod enc Tryz.prog w base sp held m 9 (([c0,c1,c2].drop 0).take (Tryz.prog.cellsOf 9))=some y0:=hf 0 _ rfl;have h1:DataW.trod enc Tryz.prog w base sp held m 23 (([c0,c1,c2].drop 1).take (Tryz.prog.cellsOf 23))=some y1:=hf 1 _ rfl;rw[cellsStr]at h0;rw[cellsRat]at h1;obtain⟨a0,rfl⟩:=one_str h0;obtain⟨a1,rfl,rfl⟩:=one_rat h1;exact⟨(a0,a1),rfl,rfl,rfl⟩
theorem open_parts{v:Value}{d:DataW H}{p:List MemPlace}(hv:∃ (q:Option Addr) (l c:Nat),v=.slice q l c)(h:DataW.Trod enc Tryz.prog w 0 (fun _=>true) held 26 v d p) :
  ∃ (q:Option Addr) (c:Nat) (ls:List Part),v=.slice q ls.length c∧ls.length≤c∧Pts w q ls∧(d=.nil∧ls=[]∨∃es rest,d=.slice es rest∧es.length=ls.length):=by
 obtain⟨q0,l0,c0,rfl⟩:=hv;obtain⟨fuel,hf⟩:=h;have hf:DataW.trod enc Tryz.prog w 0 (fun _=>true) held fuel 26 [.slice q0 l0 c0]=some (d,p):=hf;rcases open_slice Tryz.underlying26 hf with ⟨hcs,hx⟩|⟨a,len,cap,m,n,D,Pl,hcs,_,hl,hm,hmm,hx,hel⟩
 ·simp only[List.cons.injEq,Value.slice.injEq,and_true]at hcs;obtain⟨rfl,rfl,rfl⟩:=hcs;exact⟨none,0,[],rfl,Nat.le_refl _,RowsG.nil _ _,.inl ⟨(Prod.mk.inj hx).1,rfl⟩⟩
 ·simp only[List.cons.injEq,Value.slice.injEq,and_true]at hcs;obtain⟨rfl,rfl,rfl⟩:=hcs;simp only[if_true]at hmm;subst hmm;rw[show Tryz.prog.cellsOf _=3 from cellsPart]at hel;have hline:∀i,i<l0→∃z:Part,w.cell? (a.add (i*3))=some (.string ⟨z.1.toArray⟩)∧w.cell? ((a.add (i*3)).add 1)=some (.string ⟨z.2.1.toArray⟩)∧w.cell? ((a.add (i*3)).add 2)=some (.string ⟨z.2.2.toArray⟩):=fun i hi=>by
   obtain⟨cs,h1,h2⟩:=hel i (by omega);obtain⟨_,hlen,hc⟩:=World.cells?_some h1
   match cs,hlen with
   | [x0,x1,x2],_ =>
    obtain⟨z,rfl,rfl,rfl⟩:=trod_part h2;exact⟨z,hc 0 (by decide),hc 1 (by decide),hc 2 (by decide)⟩
  obtain⟨L,hL⟩:=choose_lt (α:=Part) hline;have hlen:((List.range l0).map L).length=l0:=by rw[List.length_map,List.length_range]
  refine⟨some a,_,(List.range l0).map L,by rw[hlen],by rw[hlen];exact hl,fun j x hx2=>?_,.inr ⟨_,_,(Prod.mk.inj hx).1,by rw[List.length_map,List.length_map]⟩⟩;have hj:j<l0:=by
   have:=(List.getElem?_eq_some_iff.1 hx2).1;rw[hlen]at this;exact this
  have hx3:x=L j:=by
   rw[List.getElem?_map,List.getElem?_range hj]at hx2;exact(Option.some.inj hx2).symm
  subst hx3;obtain⟨g0,g1,g2⟩:=hL j hj;obtain⟨k0,_⟩:=hL 0 (by omega);have hs:a.spot=none:=by
   have:=World.cell?_spot k0
   simpa [Addr.add] using this
  obtain⟨b,o,s⟩:=a;obtain rfl:s=none:=hs;rw[Addr.add_lit]at g0;rw[Addr.add_lit,Addr.add_lit]at g1 g2;refine⟨b,o,rfl,World.block_lt_of_cell? w ⟨b,o+j*3,none⟩ g0,fun i v hv=>?_⟩
  match i,hv with
  | 0,hv=>obtain rfl:=Option.some.inj hv;exact g0
  | 1,hv=>obtain rfl:=Option.some.inj hv;exact g1
  | 2,hv=>obtain rfl:=Option.some.inj hv;exact g2
theorem cellsRatq:Tryz.prog.cellsOf 23=2:=by kernel_rfl
theorem bytesRatq:Tryz.prog.bytesOf 23=32:=by kernel_rfl
theorem cellsPack:Tryz.prog.cellsOf 28=3:=by kernel_rfl
theorem cellsParts:Tryz.prog.cellsOf 26=1:=by kernel_rfl
theorem array3k{cs:Array Value}(h:cs.size=3):∃a b c,cs=#[a,b,c]:=by
 obtain⟨l⟩:=cs
 match l,h with
 | [a,b,c],_=>exact⟨a,b,c,rfl⟩
theorem open_pack{r:Reach}{b0:Nat}{v:Value}{d:DataW H}{p:List MemPlace}(hv:Value.okWide Tryz.prog w r b0 28 v)(h:DataW.Trod enc Tryz.prog w 0 (fun _=>true) held 28 v d p)(hw:∀n∈d.weights Tryz.prog 28,n≤reachBytes) :
  ∃ (q:Option Addr) (c:Nat) (x:Pack),v=.agg #[.slice q x.parts.length c,.string ⟨x.cash.1.toArray⟩,.string ⟨x.cash.2.toArray⟩]∧x.parts.length≤c∧x.parts.length≤4611686018427387904∧Pts w q x.parts:=by
 obtain⟨cs,rfl,hsz⟩:=okWide_struct Tryz.underlying28 hv;obtain⟨c0,c1,c2,rfl⟩:=array3k (hsz.trans cellsPack);obtain⟨fuel,h⟩:=h;obtain⟨xs,m,_,hdp,hl,hlen,hf⟩:=DataW.trod_struct Tryz.underlying28 h;obtain⟨rfl,rfl⟩:=Prod.mk.inj hdp
 match xs,hlen with
 | [y0,y1],_ =>
  have h0:DataW.trod enc Tryz.prog w 0 (fun _=>true) held m 26 (([c0,c1,c2].drop 0).take (Tryz.prog.cellsOf 26))=some y0:=hf 0 _ rfl;have h1:DataW.trod enc Tryz.prog w 0 (fun _=>true) held m 23 (([c0,c1,c2].drop 1).take (Tryz.prog.cellsOf 23))=some y1:=hf 1 _ rfl;rw[cellsParts]at h0;rw[cellsRat]at h1;have h0:DataW.trod enc Tryz.prog w 0 (fun _=>true) held m 26 [c0]=some y0:=h0;have hm:∀n∈y0.1.weights Tryz.prog 26,n≤reachBytes:=fun n hn=>hw n (by
   simp only[DataW.weights,Tryz.underlying28];exact DataW.weights_mem_each (j:=0) (t:=26) rfl rfl _ hn)
  obtain⟨a,k,c,e⟩:=slice_form Tryz.underlying26 h0;obtain rfl:=(List.cons.inj e).1;obtain⟨q,c',l,e2,hc,hL,hd⟩:=open_parts (enc:=enc) (held:=held) (w:=w) ⟨_,_,_,rfl⟩ ⟨m,h0⟩;obtain⟨z,rfl,rfl⟩:=one_rat h1;rw[e2];refine⟨q,c',⟨l,z⟩,rfl,hc,?_,hL⟩;rcases hd with ⟨_,e3⟩|⟨es,rest,e3,e4⟩
  ·show l.length≤_;rw[e3];exact Nat.zero_le _
  ·show l.length≤_;have k:=hm ((es.length+rest.length)*Tryz.prog.bytesOf 45) (by rw[e3];simp[DataW.weights,Tryz.underlying26])
   rw[bytesPart]at k;simp only[reachBytes]at k;omega
end
end Go.Proofs.YthgopcnagecbaaaGreatDoor
namespace Go.Proofs.YthgopcnagecbaaaGreatDoor
open Go.RowKit
open Ac (oB rB cB assetB numB wordK mayA Actn leastC)
end Go.Proofs.YthgopcnagecbaaaGreatDoor
namespace Go.Proofs.YthgopcnagecbaaaGreatDoor
open Go.RowKit
open Ac (oB rB cB assetB numB wordK mayA Actn leastC moreA wordsA printA joinW)
theorem numB_len{x:Key}{b:Bool}{m:Int}(h:numB x b m=true)(hb:b=true):isR x=true∧x.1.length≤20∧x.2.length≤20:=by
 subst hb;unfold numB at h;simp only[if_true,Bool.and_eq_true,decide_eq_true_eq]at h;exact⟨h.1,h.2.2⟩
end Go.Proofs.YthgopcnagecbaaaGreatDoor
