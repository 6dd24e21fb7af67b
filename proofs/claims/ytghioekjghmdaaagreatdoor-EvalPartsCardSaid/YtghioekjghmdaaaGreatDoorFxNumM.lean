/- Own work. -/
import Derived.Test.YtghioekjghmdaaaGreatDoorAllRefTdM
set_option linter.unusedSimpArgs false
set_option linter.unusedVariables false
namespace Go.Proofs.YtghioekjghmdaaaGreatDoor
open Go.RowKit
open Tm (Nd Tr arN arI formB joinT printT checkT depthT argsT plainN pxN nmN thN avN loN someT bothT)
variable {G : World → Prop}
def SzN(x:Nd):Prop:=(x.num.1.length≤100∧x.num.2.length≤100∧x.ast.length≤100)∧(-9223372036854775808≤x.op∧x.op≤9223372036854775807)∧(-9223372036854775808≤x.a∧x.a≤9223372036854775807)∧(-9223372036854775808≤x.b∧x.b≤9223372036854775807)
def szB(x:Nd):Bool:=(decide (x.num.1.length≤100)&&(decide (x.num.2.length≤100)&&decide (x.ast.length≤100)))&&((decide (-9223372036854775808≤x.op)&&decide (x.op≤9223372036854775807))&&((decide (-9223372036854775808≤x.a)&&decide (x.a≤9223372036854775807))&&(decide (-9223372036854775808≤x.b)&&decide (x.b≤9223372036854775807))))
theorem szN_c{t:List Nd}(h:t.all szB=true):∀x∈t,SzN x:=fun x hx=>by
 have k:=List.all_eq_true.1 h x hx;unfold szB at k;simp only[Bool.and_eq_true,decide_eq_true_eq]at k;exact⟨⟨k.1.1,k.1.2.1,k.1.2.2⟩,k.2.1,k.2.2.1,k.2.2.2⟩
theorem szN_ref{t:List Nd}(h:∀x∈t,SzN x):Hid (∀x∈t,x.num.1.length≤100000∧x.num.2.length≤100000∧x.ast.length≤4611686018427387904):=zh fun x hx=>by
 obtain⟨⟨a,b,c⟩,_⟩:=h x hx;exact⟨by omega,by omega,by omega⟩
theorem szN_plain(op:Int)(h0:-9223372036854775808≤op)(h1:op≤9223372036854775807):SzN (plainN op):=⟨⟨Nat.zero_le _,Nat.zero_le _,Nat.zero_le _⟩,⟨h0,h1⟩,⟨(by decide:(-9223372036854775808:Int)≤0),(by decide:(0:Int)≤9223372036854775807)⟩,⟨(by decide:(-9223372036854775808:Int)≤0),(by decide:(0:Int)≤9223372036854775807)⟩⟩
def GiveTm(w:World)(t:List Nd)(e:Ending)(w':World):Prop:=(∃p c,e=.returned (.slice p t.length c)∧t.length≤c∧Nds w' p t)∧Below w.heap.size w w'
def RgN(x:Nd):Prop:=(-9223372036854775808≤x.op∧x.op≤9223372036854775807)∧(-9223372036854775808≤x.a∧x.a≤9223372036854775807)∧(-9223372036854775808≤x.b∧x.b≤9223372036854775807)
theorem rtjoin_n(op:Int)(p:Option Addr)(c:Nat)(l:List (List Nd))(w:World)(hl:l.length≤4611686018427387904)(hf:l.flatten.length≤1000000)(hT:Trms w p l):Calls Tryz.prog 19 #[.int .i64 op,.slice p l.length c] w (GiveTm w (joinT op l)) :=
 (rtjoin_any op p c l w hl hf hT).mono fun e w' h=>by
  obtain⟨⟨q,d,he,hd,hn,_⟩,hb⟩:=h;exact⟨⟨q,d,he,hd,hn⟩,hb⟩
theorem rowsLit{α:Type}{enc:α→List Value}{k:Nat}(hk:∀x,(enc x).length=k)(w:World)(l:List α)(c:Array Value)(t:TypeId)(hc:c.toList=l.flatMap enc):RowsG enc k (w.alloc (.cells c t)) (some ⟨w.heap.size,0,none⟩) l:=fun j x hx =>
 ⟨_,_,rfl,by simp,fun i v hv=>by
  rw[Nat.zero_add];exact(cell_new w _ _ _ rfl (j*k+i)).trans (by rw[←Array.getElem?_toList,hc];exact flat_get hk hx hv)⟩
theorem ndsLit(w:World)(l:List Nd)(c:Array Value)(hc:c.toList=l.flatMap encD):Nds (w.alloc (.cells c 55)) (some ⟨w.heap.size,0,none⟩) l:=rowsLit (enc:=encD) (k:=6) (fun _=>rfl) w l c 55 hc
theorem trmsLit(w:World)(vs:List Sl)(l:List (List Nd))(c:Array Value)(hc:c.toList=vs.flatMap encS)(h:SlT w vs l):Trms (w.alloc (.cells c 23)) (some ⟨w.heap.size,0,none⟩) l :=
 trms_of (rowsLit (enc:=encS) (k:=1) (fun _=>rfl) w vs c 23 hc) (h.below (Below.alloc (Below.refl _ _) (Nat.le_refl _) _))
theorem slT_nil(w:World):SlT w [] []:=⟨rfl,fun j s t hs=>by cases hs⟩
theorem trms3(w:World)(p q r:Option Addr)(n m i c d e:Nat)(t u v:List Nd)(hn:n=t.length)(hm:m=u.length)(hi:i=v.length)(hc:t.length≤c)(hd:u.length≤d)(he:v.length≤e)(h:Nds w p t)(k:Nds w q u)(l:Nds w r v):Trms (w.alloc (.cells #[.slice p n c,.slice q m d,.slice r i e] 23)) (some ⟨w.heap.size,0,none⟩) [t,u,v]:=by
 subst hn hm hi;exact trmsLit w [(p,t.length,c),(q,u.length,d),(r,v.length,e)] [t,u,v] _ rfl ((((slT_nil w).cons he l).cons hd k).cons hc h)
theorem kt_f(n:Int)(s:List UInt8)(hs:wd n=s)(h0:-9223372036854775808≤n)(h1:n≤9223372036854775807)(w:World):Calls Tryz.prog 27 #[.int .i64 n] w (GiveR w (s,[49])):=by
 have h:=rqof_any n w h0 h1;rw[hs]at h;exact h
theorem heldT{P:Program}{f:FuncId}{args:Array Value}{w W:World}{B:Nat}{n:Nat}{R:Option Addr→World→Prop}(hB:B≤W.heap.size)(c:Calls P f args w fun e w'=>(∃p c,e=.returned (.slice p n c)∧n≤c∧R p w')∧Below w.heap.size w w')(h:Below B W w) :
  Calls P f args w fun e w'=>(∃p c,e=.returned (.slice p n c)∧n≤c∧R p w')∧Below w.heap.size w w'∧Below B W w':=c.mono fun _ _ ⟨he,hb⟩=>⟨he,hb,h.trans (hb.mono (Nat.le_trans hB h.size))⟩
end Go.Proofs.YtghioekjghmdaaaGreatDoor
set_option maxRecDepth 100000
namespace Go.Proofs.YtghioekjghmdaaaGreatDoor
open Go.ChangeShapes Go.WideShapes Go.RowKit Go.Joins Go.Deep
open Tm (Nd)
section
variable {H : Type} {enc : TypeId × Value → H} {w : World} {base : Nat} {sp : Nat → Bool} {held : Bool}
theorem cellsNode:Tryz.prog.cellsOf 55=6:=by kernel_rfl
theorem bytesNode:Tryz.prog.bytesOf 55=72:=by kernel_rfl
theorem one_intR{n:Nat}{c:Value}{y:DataW H×List MemPlace}(h:DataW.trod enc Tryz.prog w base sp held n 3 [c]=some y):∃k:Int,c=.int .i64 k∧-9223372036854775808≤k∧k≤9223372036854775807:=by
 obtain⟨k,e,_,hw⟩:=DataW.trod_int Tryz.underlying3 h;have g:-9223372036854775808≤k∧k≤9223372036854775807:=by simpa [Lit.wf,IntKind.min,IntKind.max,IntKind.signed,IntKind.bits] using hw
 exact⟨k,(List.cons.inj e).1,g⟩
theorem trod_node{n:Nat}{c0 c1 c2 c3 c4 c5:Value}{x:DataW H×List MemPlace}(h:DataW.trod enc Tryz.prog w base sp held n 55 [c0,c1,c2,c3,c4,c5]=some x) :
  ∃z:Nd,RgN z∧c0=.int .i64 z.op∧c1=.string ⟨z.num.1.toArray⟩∧c2=.string ⟨z.num.2.toArray⟩∧c3=.string ⟨z.ast.toArray⟩∧c4=.int .i64 z.a∧c5=.int .i64 z.b:=by
 obtain⟨xs,m,_,rfl,hl,hlen,hf⟩:=DataW.trod_struct Tryz.underlying55 h
 match xs,hlen with
 | [y0,y1,y2,y3,y4],_ =>
  have h0:DataW.trod enc Tryz.prog w base sp held m 3 (([c0,c1,c2,c3,c4,c5].drop 0).take (Tryz.prog.cellsOf 3))=some y0:=hf 0 _ rfl;have h1:DataW.trod enc Tryz.prog w base sp held m 28 (([c0,c1,c2,c3,c4,c5].drop 1).take (Tryz.prog.cellsOf 28))=some y1:=hf 1 _ rfl;have h2:DataW.trod enc Tryz.prog w base sp held m 9 (([c0,c1,c2,c3,c4,c5].drop 3).take (Tryz.prog.cellsOf 9))=some y2:=hf 2 _ rfl;have h3:DataW.trod enc Tryz.prog w base sp held m 3 (([c0,c1,c2,c3,c4,c5].drop 4).take (Tryz.prog.cellsOf 3))=some y3:=hf 3 _ rfl;have h4:DataW.trod enc Tryz.prog w base sp held m 3 (([c0,c1,c2,c3,c4,c5].drop 5).take (Tryz.prog.cellsOf 3))=some y4:=hf 4 _ rfl;rw[cellsInt]at h0 h3 h4;rw[cellsStr]at h2;rw[cellsRat]at h1;obtain⟨a0,rfl,r0⟩:=one_intR h0;obtain⟨a1,rfl,rfl⟩:=one_rat h1;obtain⟨a2,rfl⟩:=one_str h2;obtain⟨a3,rfl,r3⟩:=one_intR h3;obtain⟨a4,rfl,r4⟩:=one_intR h4;exact⟨Nd.mk a0 a1 a2 a3 a4,⟨r0,r3,r4⟩,rfl,rfl,rfl,rfl,rfl,rfl⟩
theorem open_term{v:Value}{d:DataW H}{p:List MemPlace}(hv:∃ (q:Option Addr) (l c:Nat),v=.slice q l c)(h:DataW.Trod enc Tryz.prog w 0 (fun _=>true) held 23 v d p) :
  ∃ (q:Option Addr) (c:Nat) (t:List Nd),v=.slice q t.length c∧t.length≤c∧Nds w q t∧Hid (∀x∈t,RgN x)∧(d=.nil∧t=[]∨∃es rest,d=.slice es rest∧es.length=t.length):=by
 obtain⟨q0,l0,c0,rfl⟩:=hv;obtain⟨fuel,hf⟩:=h;have hf:DataW.trod enc Tryz.prog w 0 (fun _=>true) held fuel 23 [.slice q0 l0 c0]=some (d,p):=hf;rcases open_slice Tryz.underlying23 hf with ⟨hcs,hx⟩|⟨a,len,cap,m,n,D,Pl,hcs,_,hl,hm,hmm,hx,hel⟩
 ·simp only[List.cons.injEq,Value.slice.injEq,and_true]at hcs;obtain⟨rfl,rfl,rfl⟩:=hcs;exact⟨none,0,[],rfl,Nat.le_refl _,RowsG.nil _ _,zh (fun x h=>by cases h),.inl ⟨(Prod.mk.inj hx).1,rfl⟩⟩
 ·simp only[List.cons.injEq,Value.slice.injEq,and_true]at hcs;obtain⟨rfl,rfl,rfl⟩:=hcs;simp only[if_true]at hmm;subst hmm;rw[show Tryz.prog.cellsOf _=6 from cellsNode]at hel;have hline:∀i,i<l0→∃z:Nd,RgN z∧w.cell? (a.add (i*6))=some (.int .i64 z.op)∧w.cell? ((a.add (i*6)).add 1)=some (.string ⟨z.num.1.toArray⟩)∧w.cell? ((a.add (i*6)).add 2)=some (.string ⟨z.num.2.toArray⟩)∧w.cell? ((a.add (i*6)).add 3)=some (.string ⟨z.ast.toArray⟩)∧w.cell? ((a.add (i*6)).add 4)=some (.int .i64 z.a)∧w.cell? ((a.add (i*6)).add 5)=some (.int .i64 z.b):=fun i hi=>by
   obtain⟨cs,h1,h2⟩:=hel i (by omega);obtain⟨_,hlen,hc⟩:=World.cells?_some h1
   match cs,hlen with
   | [x0,x1,x2,x3,x4,x5],_ =>
    obtain⟨z,hz,rfl,rfl,rfl,rfl,rfl,rfl⟩:=trod_node h2;exact⟨z,hz,hc 0 (by decide),hc 1 (by decide),hc 2 (by decide),hc 3 (by decide),hc 4 (by decide),hc 5 (by decide)⟩
  obtain⟨L,hL⟩:=@choose_lt Nd ⟨Nd.mk 0 ([],[]) [] 0 0⟩ _ _ hline;have hlen:((List.range l0).map L).length=l0:=by rw[List.length_map,List.length_range]
  refine⟨some a,_,(List.range l0).map L,by rw[hlen],by rw[hlen];exact hl,fun j x hx2=>?_,zh fun x hx2=>?_,.inr ⟨_,_,(Prod.mk.inj hx).1,by rw[List.length_map,List.length_map]⟩⟩
  ·have hj:j<l0:=by
    have:=(List.getElem?_eq_some_iff.1 hx2).1;rw[hlen]at this;exact this
   have hx3:x=L j:=by
    rw[List.getElem?_map,List.getElem?_range hj]at hx2;exact(Option.some.inj hx2).symm
   subst hx3;obtain⟨_,g0,g1,g2,g3,g4,g5⟩:=hL j hj;obtain⟨_,k0,_⟩:=hL 0 (by omega);have hs:a.spot=none:=by
    have:=World.cell?_spot k0
    simpa [Addr.add] using this
   obtain⟨b,o,s⟩:=a;obtain rfl:s=none:=hs;rw[Addr.add_lit]at g0;rw[Addr.add_lit,Addr.add_lit]at g1 g2 g3 g4 g5;refine⟨b,o,rfl,World.block_lt_of_cell? w ⟨b,o+j*6,none⟩ g0,fun i v hv=>?_⟩
   match i,hv with
   | 0,hv=>cases hv;exact g0
   | 1,hv=>cases hv;exact g1
   | 2,hv=>cases hv;exact g2
   | 3,hv=>cases hv;exact g3
   | 4,hv=>cases hv;exact g4
   | 5,hv=>cases hv;exact g5
  ·obtain⟨i,hi,rfl⟩:=List.mem_map.1 hx2;exact(hL i (List.mem_range.1 hi)).1
end
end Go.Proofs.YtghioekjghmdaaaGreatDoor
set_option maxRecDepth 100000
namespace Go.Proofs.YtghioekjghmdaaaGreatDoor
open Go.ChangeShapes Go.WideShapes Go.RowKit Go.Joins Go.Deep
open Tm (Nd)
section
variable {H : Type} {enc : TypeId × Value → H} {w : World} {held : Bool}
theorem cellsTrio:Tryz.prog.cellsOf 42=3:=by kernel_rfl
def TmIn(w:World)(b:Nat)(q:Option Addr)(c:Nat)(t:List Nd):Prop:=t.length≤c∧t.length≤b∧Nds w q t∧Hid (∀x∈t,RgN x)
theorem open_trio{r:Reach}{b0:Nat}{v:Value}{d:DataW H}{p:List MemPlace}(hv:Value.okWide Tryz.prog w r b0 42 v)(h:DataW.Trod enc Tryz.prog w 0 (fun _=>true) held 42 v d p)(hw:∀n∈d.weights Tryz.prog 42,n≤reachBytes) :
  ∃ (qa qb qc:Option Addr) (ca cb cc:Nat) (ta tb tc:List Nd),v=.agg #[.slice qa ta.length ca,.slice qb tb.length cb,.slice qc tc.length cc]∧TmIn w 4611686018427387904 qa ca ta∧TmIn w 4611686018427387904 qb cb tb∧TmIn w 4611686018427387904 qc cc tc:=by
 obtain⟨v0,v1,v2,y0,y1,y2,n,rfl,rfl,rfl,h0,h1,h2⟩:=open_agg3 Tryz.underlying42 (by kernel_rfl) cellsTrio hv h;have g0:DataW.trod enc Tryz.prog w 0 (fun _=>true) held n 23 [v0]=some y0:=h0;have g1:DataW.trod enc Tryz.prog w 0 (fun _=>true) held n 23 [v1]=some y1:=h1;have g2:DataW.trod enc Tryz.prog w 0 (fun _=>true) held n 23 [v2]=some y2:=h2;have key:∀ (u:Value) (y:DataW H×List MemPlace),DataW.trod enc Tryz.prog w 0 (fun _=>true) held n 23 [u]=some y→(∀m∈y.1.weights Tryz.prog 23,m≤reachBytes)→∃ (q:Option Addr) (c:Nat) (t:List Nd),u=.slice q t.length c∧TmIn w 4611686018427387904 q c t:=fun u y hy hm=>by
  obtain⟨a,k,c,e⟩:=slice_form Tryz.underlying23 hy;obtain rfl:=(List.cons.inj e).1;obtain⟨q,c',t,e2,hc,hn,hr,hd⟩:=open_term (enc:=enc) (held:=held) (w:=w) ⟨_,_,_,rfl⟩ ⟨n,hy⟩;refine⟨q,c',t,e2,hc,?_,hn,hr⟩;rcases hd with ⟨_,e3⟩|⟨es,rest,e3,e4⟩
  ·rw[e3];exact Nat.zero_le _
  ·have k:=hm ((es.length+rest.length)*Tryz.prog.bytesOf 55) (by rw[e3];simp[DataW.weights,Tryz.underlying23]);rw[bytesNode]at k;simp only[reachBytes]at k;omega
 have hpart:∀y,y∈[y0.1,y1.1,y2.1]→∀m∈y.weights Tryz.prog 23,m≤reachBytes:=fun y hy m hm=>hw m (by
  simp only[DataW.weights,Tryz.underlying42];simp only[List.mem_cons,List.not_mem_nil,or_false]at hy;rcases hy with rfl|rfl|rfl
  ·exact DataW.weights_mem_each (j:=0) (t:=23) rfl rfl _ hm
  ·exact DataW.weights_mem_each (j:=1) (t:=23) rfl rfl _ hm
  ·exact DataW.weights_mem_each (j:=2) (t:=23) rfl rfl _ hm)
 obtain⟨qa,ca,ta,rfl,k0⟩:=key v0 y0 g0 (hpart _ (by simp));obtain⟨qb,cb,tb,rfl,k1⟩:=key v1 y1 g1 (hpart _ (by simp));obtain⟨qc,cc,tc,rfl,k2⟩:=key v2 y2 g2 (hpart _ (by simp));exact⟨qa,qb,qc,ca,cb,cc,ta,tb,tc,rfl,k0,k1,k2⟩
end
end Go.Proofs.YtghioekjghmdaaaGreatDoor
namespace Go.Proofs.YtghioekjghmdaaaGreatDoor
open Go.RowKit
theorem less_more{P:Nat→Bool}{k:Nat}(h:∀j,j<k→P j=true)(hp:P k=true):∀j,j<k+1→P j=true:=fun j hj=>by
 by_cases e:j=k
 ·exact e▸hp
 ·exact h j (by omega)
namespace Fx
abbrev FK:=List UInt8×Int
abbrev Fix:=FK×Key
def lessF(a b:FK):Bool:=Op.bytesLess a.1 b.1||(a.1==b.1&&decide (a.2<b.2))
theorem lt_irrefl(a:FK):lessF a a=false:=by unfold lessF;rw[less_irrefl,decide_eq_false (Int.lt_irrefl _),Bool.and_false];rfl
theorem lt_trans{a b c:FK}(h:lessF a b=true)(k:lessF b c=true):lessF a c=true:=by
 unfold lessF at *;simp only[Bool.or_eq_true,Bool.and_eq_true,beq_iff_eq,decide_eq_true_eq]at h k ⊢;rcases h with h|⟨h,h'⟩<;>rcases k with k|⟨k,k'⟩
 ·exact .inl (less_trans h k)
 ·exact .inl (k▸h)
 ·exact .inl (h▸k)
 ·exact .inr ⟨h.trans k,by omega⟩
theorem lt_cases(a b:FK):lessF a b=true∨a=b∨lessF b a=true:=by
 unfold lessF;simp only[Bool.or_eq_true,Bool.and_eq_true,beq_iff_eq,decide_eq_true_eq];rcases less_cases a.1 b.1 with h|h|h
 ·exact .inl (.inl h)
 ·rcases Int.lt_trichotomy a.2 b.2 with k|k|k
  ·exact .inl (.inr ⟨h,k⟩)
  ·exact .inr (.inl (Prod.ext h k))
  ·exact .inr (.inr (.inr ⟨h.symm,k⟩))
 ·exact .inr (.inr (.inl h))
theorem lt_asym{a b:FK}(h:lessF a b=true):lessF b a=false:=by
 cases e:lessF b a with
 | false=>rfl
 | true=>have:=lt_trans h e;rw[lt_irrefl]at this;cases this
theorem lt_ne{a b:FK}(h:lessF a b=true):a≠b:=fun e=>by rw[e,lt_irrefl]at h;cases h
def okF(x:Fix):Bool:=isName x.1.1&&(decide (0≤x.1.2)&&(decide (x.1.2≤9999)&&isR x.2))
def okAtF(l:List Fix)(j:Nat):Bool:=match l[j]? with
 | some x=>okF x&&(decide (j=0)||(match l[j-1]? with|some y=>lessF y.1 x.1|none=>false))
 | none=>true
def mayF(l:List Fix):Bool:=(List.range l.length).all (okAtF l)
def GoodF(l:List Fix):Prop:=(∀x∈l,okF x=true)∧l.Pairwise fun x y=>lessF x.1 y.1=true
theorem mayF_iff{l:List Fix}:mayF l=true↔∀j,j<l.length→okAtF l j=true:=by
 unfold mayF;rw[List.all_eq_true];exact⟨fun h j hj=>h j (List.mem_range.2 hj),fun h j hj=>h j (List.mem_range.1 hj)⟩
theorem mayF_stop{l:List Fix}{j:Nat}(hj:j<l.length)(h:okAtF l j=false):mayF l=false:=by
 cases e:mayF l with
 | false=>rfl
 | true=>rw[mayF_iff.1 e j hj]at h;cases h
theorem mayF_end{l:List Fix}(h:∀j,j<l.length→okAtF l j=true):mayF l=true:=mayF_iff.2 h
theorem okF_no{l:List Fix}{k:Nat}{x:Fix}(hx:l[k]?=some x)(h:okF x=false):okAtF l k=false:=by
 unfold okAtF;rw[hx];show (okF x&&_)=false;rw[h,Bool.false_and]
theorem okF_0{l:List Fix}{x:Fix}(hx:l[0]?=some x)(h:okF x=true):okAtF l 0=true:=by
 unfold okAtF;rw[hx];show (okF x&&_)=true;rw[h];rfl
theorem okF_s{l:List Fix}{m:Nat}{x y:Fix}(hx:l[m+1]?=some x)(hy:l[m]?=some y)(h:okF x=true):okAtF l (m+1)=lessF y.1 x.1:=by
 unfold okAtF;rw[hx];show (okF x&&(decide (m+1=0)||(match l[m+1-1]? with|some y=>lessF y.1 x.1|none=>false)))=_;rw[h,decide_eq_false (Nat.succ_ne_zero m),Nat.add_sub_cancel,hy];rfl
theorem chain_lt:∀ {l:List Fix},(∀j x y,l[j]?=some x→l[j+1]?=some y→lessF x.1 y.1=true)→l.Pairwise fun x y=>lessF x.1 y.1=true
 | [],_=>List.Pairwise.nil
 | [x],_=>List.pairwise_singleton _ _
 | x::y::r,h=>by
  have h1:lessF x.1 y.1=true:=h 0 x y rfl rfl;have h2:(y::r).Pairwise fun x y=>lessF x.1 y.1=true:=chain_lt fun j u v hu hv=>h (j+1) u v hu hv;refine List.Pairwise.cons (fun z hz=>?_) h2;rcases List.mem_cons.1 hz with rfl|hz
  ·exact h1
  ·exact lt_trans h1 ((List.pairwise_cons.1 h2).1 z hz)
theorem good_iffF{l:List Fix}:mayF l=true↔GoodF l:=by
 rw[mayF_iff];constructor
 ·intro h;constructor
  ·intro x hx;obtain⟨j,hj,e⟩:=List.getElem_of_mem hx;have k:=h j hj;unfold okAtF at k;rw[List.getElem?_eq_getElem hj]at k;simp only[Bool.and_eq_true]at k;rw[e]at k;exact k.1
  ·refine chain_lt fun j x y hx hy=>?_;obtain⟨hj,e⟩:=List.getElem?_eq_some_iff.1 hy;have k:=h (j+1) hj;unfold okAtF at k;rw[hy]at k;simp only[Bool.and_eq_true,Nat.add_sub_cancel,hx]at k;rcases Bool.or_eq_true_iff.1 k.2 with k|k
   ·exact absurd (of_decide_eq_true k) (by omega)
   ·exact k
 ·rintro⟨h1,h2⟩ j hj;unfold okAtF;rw[List.getElem?_eq_getElem hj];simp only[Bool.and_eq_true];refine⟨h1 _ (List.getElem_mem hj),?_⟩;by_cases h0:j=0
  ·rw[decide_eq_true h0];rfl
  ·rw[decide_eq_false h0,Bool.false_or,List.getElem?_eq_getElem (by omega)];exact List.pairwise_iff_getElem.1 h2 (j-1) j (by omega) hj (by omega)
def rankF(l:List Fix)(k:FK):Nat:=l.countP fun x=>lessF x.1 k
theorem rankF_le(l:List Fix)(k:FK):rankF l k≤l.length:=List.countP_le_length
theorem less_mono{l:List Fix}(h:l.Pairwise fun x y=>lessF x.1 y.1=true){k:FK}{i j:Nat}{x y:Fix}(hij:i≤j)(hx:l[i]?=some x)(hy:l[j]?=some y)(ha:lessF y.1 k=true):lessF x.1 k=true:=by
 rcases Nat.lt_or_eq_of_le hij with c|c
 ·obtain⟨hi,rfl⟩:=List.getElem?_eq_some_iff.1 hx;obtain⟨hj,rfl⟩:=List.getElem?_eq_some_iff.1 hy;exact lt_trans (List.pairwise_iff_getElem.1 h i j hi hj c) ha
 ·subst c;rw[hx]at hy;obtain rfl:=Option.some.inj hy;exact ha
theorem rankF_bound{l:List Fix}{k:FK}{i:Nat}(hi:i≤l.length)(h1:∀t x,t<i→l[t]?=some x→lessF x.1 k=true)(h2:∀t x,i≤t→l[t]?=some x→lessF x.1 k=false):i=rankF l k:=by
 unfold rankF;have e:l.take i++l.drop i=l:=List.take_append_drop _ _;rw[←e,List.countP_append];rw[List.countP_eq_length.2 fun x hx=>by
  obtain⟨t,ht⟩:=List.mem_iff_getElem?.1 hx;have hlt:t<i:=by
   have:=(List.getElem?_eq_some_iff.1 ht).1;rw[List.length_take]at this;omega
  rw[List.getElem?_take_of_lt hlt]at ht;exact h1 t x hlt ht]
 rw[List.countP_eq_zero.2 fun x hx=>by
  obtain⟨t,ht⟩:=List.mem_iff_getElem?.1 hx;rw[List.getElem?_drop]at ht;rw[h2 (i+t) x (by omega) ht];decide]
 rw[List.length_take];omega
theorem rank_at{l:List Fix}(h:l.Pairwise fun x y=>lessF x.1 y.1=true)(k:FK):(∀t x,t<rankF l k→l[t]?=some x→lessF x.1 k=true)∧∀t x,rankF l k≤t→l[t]?=some x→lessF x.1 k=false:=by
 induction l with
 | nil=>exact⟨(fun t x _ hx=>by cases hx),(fun t x _ hx=>by cases hx)⟩
 | cons a r ih =>
  obtain⟨hp,hr⟩:=List.pairwise_cons.1 h;obtain⟨i1,i2⟩:=ih hr
  cases ha:lessF a.1 k with
  | true =>
   have e:rankF (a::r) k=rankF r k+1:=by unfold rankF;rw[List.countP_cons,ha];rfl
   rw[e];constructor
   ·intro t x ht hx
    cases t with
    | zero=>obtain rfl:=Option.some.inj hx;exact ha
    | succ t=>exact i1 t x (by omega) hx
   ·intro t x ht hx
    cases t with
    | zero=>omega
    | succ t=>exact i2 t x (by omega) hx
  | false =>
   have hz:∀x∈r,lessF x.1 k=false:=fun x hx=>by
    cases c:lessF x.1 k with
    | false=>rfl
    | true=>have:=lt_trans (hp x hx) c;rw[ha]at this;cases this
   have e:rankF (a::r) k=0:=by
    unfold rankF;rw[List.countP_cons,ha,List.countP_eq_zero.2 fun x hx=>by rw[hz x hx];decide];rfl
   rw[e];constructor
   ·intro t x ht;omega
   ·intro t x _ hx
    cases t with
    | zero=>obtain rfl:=Option.some.inj hx;exact ha
    | succ t=>exact hz x (List.mem_of_getElem? hx)
def thereF(l:List Fix)(k:FK):Bool:=match l[rankF l k]? with|some x=>x.1==k|none=>false
theorem there_some{l:List Fix}{k:FK}(h:thereF l k=true):∃x,l[rankF l k]?=some x∧x.1=k:=by
 unfold thereF at h
 cases e:l[rankF l k]? with
 | none=>rw[e]at h;cases h
 | some x=>rw[e]at h;exact⟨x,rfl,beq_iff_eq.1 h⟩
theorem there_not{l:List Fix}(hp:l.Pairwise fun x y=>lessF x.1 y.1=true){k:FK}(h:thereF l k=false):∀x∈l,x.1≠k:=fun x hx e=>by
 obtain⟨j,hj,rfl⟩:=List.getElem_of_mem hx;obtain⟨r1,r2⟩:=rank_at hp k;have hr:j=rankF l k:=rankF_bound (Nat.le_of_lt hj)
  (fun t y ht hy=>by
   obtain⟨ht',rfl⟩:=List.getElem?_eq_some_iff.1 hy;rw[←e];exact List.pairwise_iff_getElem.1 hp t j ht' hj ht)
  (fun t y ht hy=>by
   obtain⟨ht',rfl⟩:=List.getElem?_eq_some_iff.1 hy;rcases Nat.lt_or_eq_of_le ht with c|c
   ·rw[←e];exact lt_asym (List.pairwise_iff_getElem.1 hp j t hj ht' c)
   ·subst c;rw[e];exact lt_irrefl k)
 unfold thereF at h;rw[←hr,List.getElem?_eq_getElem hj]at h;have h:(l[j].1==k)=false:=h;rw[beq_iff_eq.2 e]at h;cases h
def rawF(l:List Fix)(k:FK):Option Key:=(l.find? fun x=>x.1==k).map (·.2)
theorem uniq{l:List Fix}(hp:l.Pairwise fun x y=>lessF x.1 y.1=true){x y:Fix}(hx:x∈l)(hy:y∈l)(e:x.1=y.1):x=y:=by
 obtain⟨i,hi,rfl⟩:=List.getElem_of_mem hx;obtain⟨j,hj,rfl⟩:=List.getElem_of_mem hy;rcases Nat.lt_trichotomy i j with c|c|c
 ·exact absurd e (lt_ne (List.pairwise_iff_getElem.1 hp i j hi hj c))
 ·subst c;rfl
 ·exact absurd e.symm (lt_ne (List.pairwise_iff_getElem.1 hp j i hj hi c))
theorem raw_in{l:List Fix}(hp:l.Pairwise fun x y=>lessF x.1 y.1=true){x:Fix}(hx:x∈l):rawF l x.1=some x.2:=by
 unfold rawF
 cases e:l.find? fun y=>y.1==x.1 with
 | none=>exact absurd (List.find?_eq_none.1 e x hx) (by simp)
 | some z =>
  have ez:z.1=x.1:=by simpa using List.find?_some e
  rw[uniq hp (List.mem_of_find?_eq_some e) hx ez];rfl
theorem raw_no{l:List Fix}{k:FK}(h:∀x∈l,x.1≠k):rawF l k=none:=by
 unfold rawF;rw[List.find?_eq_none.2 fun x hx=>by simpa using h x hx];rfl
theorem raw_some{l:List Fix}{k:FK}{q:Key}(h:rawF l k=some q):(k,q)∈l:=by
 unfold rawF at h
 cases e:l.find? fun y=>y.1==k with
 | none=>rw[e]at h;cases h
 | some z =>
  rw[e]at h;have ez:z.1=k:=by simpa using List.find?_some e
  have eq:z.2=q:=Option.some.inj h;have:=List.mem_of_find?_eq_some e;rw[←ez,← eq];exact this
theorem raw_there{l:List Fix}(hp:l.Pairwise fun x y=>lessF x.1 y.1=true)(k:FK):(rawF l k).isSome=thereF l k:=by
 cases e:thereF l k with
 | true =>
  obtain⟨x,hx,rfl⟩:=there_some e;rw[raw_in hp (List.mem_of_getElem? hx)];rfl
 | false=>rw[raw_no (there_not hp e)];rfl
theorem good_extF:∀ {l m:List Fix},l.Pairwise (fun x y=>lessF x.1 y.1=true)→m.Pairwise (fun x y=>lessF x.1 y.1=true)→(∀x,x∈l↔x∈m)→l=m
 | [],[],_,_,_=>rfl
 | [],y::s,_,_,h=>absurd ((h y).2 (List.mem_cons_self ..)) List.not_mem_nil
 | x::r,[],_,_,h=>absurd ((h x).1 (List.mem_cons_self ..)) List.not_mem_nil
 | x::r,y::s,hl,hm,h=>by
  obtain⟨h1,h2⟩:=List.pairwise_cons.1 hl;obtain⟨m1,m2⟩:=List.pairwise_cons.1 hm;have e:x=y:=by
   rcases List.mem_cons.1 ((h x).1 (List.mem_cons_self ..)) with e|e
   ·exact e
   ·rcases List.mem_cons.1 ((h y).2 (List.mem_cons_self ..)) with d|d
    ·exact d.symm
    ·have a:=h1 y d;have b:=m1 x e;rw[lt_asym a]at b;cases b
  subst e;rw[good_extF h2 m2 fun z=>?_];constructor
  ·intro hz;rcases List.mem_cons.1 ((h z).1 (List.mem_cons_of_mem _ hz)) with rfl|d
   ·have:=h1 z hz;rw[lt_irrefl]at this;cases this
   ·exact d
  ·intro hz;rcases List.mem_cons.1 ((h z).2 (List.mem_cons_of_mem _ hz)) with rfl|d
   ·have:=m1 z hz;rw[lt_irrefl]at this;cases this
   ·exact d
def cmpZ(x y:Int):Int:=if x<y then -1 else if y<x then 1 else 0
def ordF(k l:FK):Int:=orZ (Lib.compareBytes k.1 l.1) (cmpZ k.2 l.2)
theorem ordF_lt{k l:FK}(h:lessF k l=true):ordF k l=-1:=by
 unfold lessF at h;unfold ordF orZ;simp only[Bool.or_eq_true,Bool.and_eq_true,beq_iff_eq,decide_eq_true_eq]at h;rcases h with h|⟨h,h'⟩
 ·rw[cmp_lt h];rfl
 ·rw[h,cmp_self,if_pos rfl];unfold cmpZ;rw[if_pos h']
theorem ordF_self(k:FK):ordF k k=0:=by unfold ordF orZ cmpZ;rw[cmp_self,if_pos rfl,if_neg (Int.lt_irrefl _),if_neg (Int.lt_irrefl _)]
theorem ordF_gt{k l:FK}(h:lessF l k=true):ordF k l=1:=by
 unfold lessF at h;unfold ordF orZ;simp only[Bool.or_eq_true,Bool.and_eq_true,beq_iff_eq,decide_eq_true_eq]at h;rcases h with h|⟨h,h'⟩
 ·rw[cmp_gt h];rfl
 ·rw[h,cmp_self,if_pos rfl];unfold cmpZ;rw[if_neg (by omega),if_pos h']
theorem ordF_neg{k l:FK}:ordF k l<0↔lessF k l=true:=by
 rcases lt_cases k l with h|h|h
 ·rw[ordF_lt h];exact⟨fun _=>h,fun _=>by decide⟩
 ·subst h;rw[ordF_self,lt_irrefl];exact⟨fun h=>absurd h (by decide),fun h=>by cases h⟩
 ·rw[ordF_gt h,lt_asym h];exact⟨fun h=>absurd h (by decide),fun h=>by cases h⟩
theorem ordF_zero{k l:FK}:ordF k l=0↔k=l:=by
 rcases lt_cases k l with h|h|h
 ·rw[ordF_lt h];exact⟨fun h=>absurd h (by decide),fun e=>absurd e (lt_ne h)⟩
 ·subst h;rw[ordF_self];exact⟨fun _=>rfl,fun _=>rfl⟩
 ·rw[ordF_gt h];exact⟨fun h=>absurd h (by decide),fun e=>absurd e.symm (lt_ne h)⟩
theorem ordF_geq(k l:FK):decide (0≤ordF k l)=!lessF k l:=by
 cases h:lessF k l with
 | true=>rw[ordF_lt h];rfl
 | false =>
  refine decide_eq_true ?_;rcases Int.lt_or_le (ordF k l) 0 with c|c
  ·rw[ordF_neg.1 c]at h;cases h
  ·exact c
theorem thereF_of{l:List Fix}{k:FK}{x:Fix}{z:Int}(hx:l[rankF l k]?=some x)(hz:ordF x.1 k=z):thereF l k=decide (z=0):=by
 unfold thereF;rw[hx];show (x.1==k)=_;subst hz;by_cases h:x.1=k
 ·rw[h,ordF_self];simp
 ·rw[beq_false_of_ne h,decide_eq_false (fun e=>h (ordF_zero.1 e))]
theorem thereF_no{l:List Fix}{k:FK}(h:l.length≤rankF l k):thereF l k=false:=by
 unfold thereF;rw[List.getElem?_eq_none h]
end Fx
end Go.Proofs.YtghioekjghmdaaaGreatDoor
