/- Own work. -/
import Derived.Test.YtghioekjghmdaaaGreatDoorAllRefTdM
set_option linter.unusedSimpArgs false
set_option linter.unusedVariables false
namespace Go.Proofs.YtghioekjghmdaaaGreatDoor
open Go.RowKit
open Tm (Nd Tr arN arI formB joinT printT checkT depthT argsT plainN pxN nmN thN avN loN someT bothT)
variable {G : World → Prop}
def SzN(x:Nd):Prop:=(x.num.1.length≤100∧x.num.2.length≤100∧x.ast.length≤100)∧(-9223372036854775808≤x.op∧x.op≤9223372036854775807)∧(-9223372036854775808≤x.a∧x.a≤9223372036854775807)∧(-9223372036854775808≤x.b∧x.b≤9223372036854775807)
def szB(x:Nd):Bool:=(decide (x.num.1.length≤100)&&(decide (x.num.2.length≤100)&&decide (x.ast.length≤100)))&&((decide (-9223372036854775808≤x.op)&&decide (x.op≤9223372036854775807))&&((decide (-9223372036854775808≤x.a)&&decide (x.a≤9223372036854775807))&&(decide (-9223372036854775808≤x.b)&&decide (x.b≤9223372036854775807))))
theorem szN_c{t:List Nd}(h:t.all szB=true):∀x∈t,SzN x:=fun x hx=>by
 have k:=List.all_eq_true.1 h x hx;unfold szB at k;simp only[Bool.and_eq_true,decide_eq_true_eq]at k;exact⟨⟨k.1.1,k.1.2.1,k.1.2.2⟩,k.2.1,k.2.2.1,k.2.2.2⟩
def RgN(x:Nd):Prop:=(-9223372036854775808≤x.op∧x.op≤9223372036854775807)∧(-9223372036854775808≤x.a∧x.a≤9223372036854775807)∧(-9223372036854775808≤x.b∧x.b≤9223372036854775807)
theorem rowsLit{α:Type}{enc:α→List Value}{k:Nat}(hk:∀x,(enc x).length=k)(w:World)(l:List α)(c:Array Value)(t:TypeId)(hc:c.toList=l.flatMap enc):RowsG enc k (w.alloc (.cells c t)) (some ⟨w.heap.size,0,none⟩) l:=fun j x hx =>
 ⟨_,_,rfl,by simp,fun i v hv=>by
  rw[Nat.zero_add];exact(cell_new w _ _ _ rfl (j*k+i)).trans (by rw[←Array.getElem?_toList,hc];exact flat_get hk hx hv)⟩
theorem ndsLit(w:World)(l:List Nd)(c:Array Value)(hc:c.toList=l.flatMap encD):Nds (w.alloc (.cells c 55)) (some ⟨w.heap.size,0,none⟩) l:=rowsLit (enc:=encD) (k:=6) (fun _=>rfl) w l c 55 hc
theorem kt_f(n:Int)(s:List UInt8)(hs:wd n=s)(h0:-9223372036854775808≤n)(h1:n≤9223372036854775807)(w:World):Calls Tryz.prog 27 #[.int .i64 n] w (GiveR w (s,[49])):=by
 have h:=rqof_any n w h0 h1;rw[hs]at h;exact h
theorem heldT{P:Program}{f:FuncId}{args:Array Value}{w W:World}{B:Nat}{n:Nat}{R:Option Addr→World→Prop}(hB:B≤W.heap.size)(c:Calls P f args w fun e w'=>(∃p c,e=.returned (.slice p n c)∧n≤c∧R p w')∧Below w.heap.size w w')(h:Below B W w) :
  Calls P f args w fun e w'=>(∃p c,e=.returned (.slice p n c)∧n≤c∧R p w')∧Below w.heap.size w w'∧Below B W w':=c.mono fun _ _ ⟨he,hb⟩=>⟨he,hb,h.trans (hb.mono (Nat.le_trans hB h.size))⟩
end Go.Proofs.YtghioekjghmdaaaGreatDoor
set_option maxRecDepth 100000
namespace Go.Proofs.YtghioekjghmdaaaGreatDoor
open Go.ChangeShapes Go.WideShapes Go.RowKit Go.Joins Go.Deep
open Tm (Nd)
section
variable {H : Type} {enc : TypeId × Value → H} {w : World} {base : Nat} {sp : Nat → Bool} {held : Bool}
theorem cellsNode:Tryz.prog.cellsOf 55=6:=by kernel_rfl
theorem bytesNode:Tryz.prog.bytesOf 55=72:=by kernel_rfl
theorem one_intR{n:Nat}{c:Value}{y:DataW H×List MemPlace}(h:DataW.trod enc Tryz.prog w base sp held n 3 [c]=some y):∃k:Int,c=.int .i64 k∧-9223372036854775808≤k∧k≤9223372036854775807:=by
 obtain⟨k,e,_,hw⟩:=DataW.trod_int Tryz.underlying3 h;have g:-9223372036854775808≤k∧k≤9223372036854775807:=by simpa [Lit.wf,IntKind.min,IntKind.max,IntKind.signed,IntKind.bits] using hw
 exact⟨k,(List.cons.inj e).1,g⟩
theorem trod_node{n:Nat}{c0 c1 c2 c3 c4 c5:Value}{x:DataW H×List MemPlace}(h:DataW.trod enc Tryz.prog w base sp held n 55 [c0,c1,c2,c3,c4,c5]=some x) :
  ∃z:Nd,RgN z∧c0=.int .i64 z.op∧c1=.string ⟨z.num.1.toArray⟩∧c2=.string ⟨z.num.2.toArray⟩∧c3=.string ⟨z.ast.toArray⟩∧c4=.int .i64 z.a∧c5=.int .i64 z.b:=by
 obtain⟨xs,m,_,rfl,hl,hlen,hf⟩:=DataW.trod_struct Tryz.underlying55 h
 match xs,hlen with
 | [y0,y1,y2,y3,y4],_ =>
  have h0:DataW.trod enc Tryz.prog w base sp held m 3 (([c0,c1,c2,c3,c4,c5].drop 0).take (Tryz.prog.cellsOf 3))=some y0:=hf 0 _ rfl;have h1:DataW.trod enc Tryz.prog w base sp held m 28 (([c0,c1,c2,c3,c4,c5].drop 1).take (Tryz.prog.cellsOf 28))=some y1:=hf 1 _ rfl;have h2:DataW.trod enc Tryz.prog w base sp held m 9 (([c0,c1,c2,c3,c4,c5].drop 3).take (Tryz.prog.cellsOf 9))=some y2:=hf 2 _ rfl;have h3:DataW.trod enc Tryz.prog w base sp held m 3 (([c0,c1,c2,c3,c4,c5].drop 4).take (Tryz.prog.cellsOf 3))=some y3:=hf 3 _ rfl;have h4:DataW.trod enc Tryz.prog w base sp held m 3 (([c0,c1,c2,c3,c4,c5].drop 5).take (Tryz.prog.cellsOf 3))=some y4:=hf 4 _ rfl;rw[cellsInt]at h0 h3 h4;rw[cellsStr]at h2;rw[cellsRat]at h1;obtain⟨a0,rfl,r0⟩:=one_intR h0;obtain⟨a1,rfl,rfl⟩:=one_rat h1;obtain⟨a2,rfl⟩:=one_str h2;obtain⟨a3,rfl,r3⟩:=one_intR h3;obtain⟨a4,rfl,r4⟩:=one_intR h4;exact⟨Nd.mk a0 a1 a2 a3 a4,⟨r0,r3,r4⟩,rfl,rfl,rfl,rfl,rfl,rfl⟩
theorem open_term{v:Value}{d:DataW H}{p:List MemPlace}(hv:∃ (q:Option Addr) (l c:Nat),v=.slice q l c)(h:DataW.Trod enc Tryz.prog w 0 (fun _=>true) held 23 v d p) :
  ∃ (q:Option Addr) (c:Nat) (t:List Nd),v=.slice q t.length c∧t.length≤c∧Nds w q t∧Hid (∀x∈t,RgN x)∧(d=.nil∧t=[]∨∃es rest,d=.slice es rest∧es.length=t.length):=by
 obtain⟨q0,l0,c0,rfl⟩:=hv;obtain⟨fuel,hf⟩:=h;have hf:DataW.trod enc Tryz.prog w 0 (fun _=>true) held fuel 23 [.slice q0 l0 c0]=some (d,p):=hf;rcases open_slice Tryz.underlying23 hf with ⟨hcs,hx⟩|⟨a,len,cap,m,n,D,Pl,hcs,_,hl,hm,hmm,hx,hel⟩
 ·simp only[List.cons.injEq,Value.slice.injEq,and_true]at hcs;obtain⟨rfl,rfl,rfl⟩:=hcs;exact⟨none,0,[],rfl,Nat.le_refl _,RowsG.nil _ _,zh (fun x h=>by cases h),.inl ⟨(Prod.mk.inj hx).1,rfl⟩⟩
 ·simp only[List.cons.injEq,Value.slice.injEq,and_true]at hcs;obtain⟨rfl,rfl,rfl⟩:=hcs;simp only[if_true]at hmm;subst hmm;rw[show Tryz.prog.cellsOf _=6 from cellsNode]at hel;have hline:∀i,i<l0→∃z:Nd,RgN z∧w.cell? (a.add (i*6))=some (.int .i64 z.op)∧w.cell? ((a.add (i*6)).add 1)=some (.string ⟨z.num.1.toArray⟩)∧w.cell? ((a.add (i*6)).add 2)=some (.string ⟨z.num.2.toArray⟩)∧w.cell? ((a.add (i*6)).add 3)=some (.string ⟨z.ast.toArray⟩)∧w.cell? ((a.add (i*6)).add 4)=some (.int .i64 z.a)∧w.cell? ((a.add (i*6)).add 5)=some (.int .i64 z.b):=fun i hi=>by
   obtain⟨cs,h1,h2⟩:=hel i (by omega);obtain⟨_,hlen,hc⟩:=World.cells?_some h1
   match cs,hlen with
   | [x0,x1,x2,x3,x4,x5],_ =>
    obtain⟨z,hz,rfl,rfl,rfl,rfl,rfl,rfl⟩:=trod_node h2;exact⟨z,hz,hc 0 (by decide),hc 1 (by decide),hc 2 (by decide),hc 3 (by decide),hc 4 (by decide),hc 5 (by decide)⟩
  obtain⟨L,hL⟩:=@choose_lt Nd ⟨Nd.mk 0 ([],[]) [] 0 0⟩ _ _ hline;have hlen:((List.range l0).map L).length=l0:=by rw[List.length_map,List.length_range]
  refine⟨some a,_,(List.range l0).map L,by rw[hlen],by rw[hlen];exact hl,fun j x hx2=>?_,zh fun x hx2=>?_,.inr ⟨_,_,(Prod.mk.inj hx).1,by rw[List.length_map,List.length_map]⟩⟩
  ·have hj:j<l0:=by
    have:=(List.getElem?_eq_some_iff.1 hx2).1;rw[hlen]at this;exact this
   have hx3:x=L j:=by
    rw[List.getElem?_map,List.getElem?_range hj]at hx2;exact(Option.some.inj hx2).symm
   subst hx3;obtain⟨_,g0,g1,g2,g3,g4,g5⟩:=hL j hj;obtain⟨_,k0,_⟩:=hL 0 (by omega);have hs:a.spot=none:=by
    have:=World.cell?_spot k0
    simpa [Addr.add] using this
   obtain⟨b,o,s⟩:=a;obtain rfl:s=none:=hs;rw[Addr.add_lit]at g0;rw[Addr.add_lit,Addr.add_lit]at g1 g2 g3 g4 g5;refine⟨b,o,rfl,World.block_lt_of_cell? w ⟨b,o+j*6,none⟩ g0,fun i v hv=>?_⟩
   match i,hv with
   | 0,hv=>cases hv;exact g0
   | 1,hv=>cases hv;exact g1
   | 2,hv=>cases hv;exact g2
   | 3,hv=>cases hv;exact g3
   | 4,hv=>cases hv;exact g4
   | 5,hv=>cases hv;exact g5
  ·obtain⟨i,hi,rfl⟩:=List.mem_map.1 hx2;exact(hL i (List.mem_range.1 hi)).1
end
end Go.Proofs.YtghioekjghmdaaaGreatDoor
namespace Go.Proofs.YtghioekjghmdaaaGreatDoor
open Go.RowKit
theorem less_more{P:Nat→Bool}{k:Nat}(h:∀j,j<k→P j=true)(hp:P k=true):∀j,j<k+1→P j=true:=fun j hj=>by
 by_cases e:j=k
 ·exact e▸hp
 ·exact h j (by omega)
namespace Fx
abbrev FK:=List UInt8×Int
abbrev Fix:=FK×Key
def lessF(a b:FK):Bool:=Op.bytesLess a.1 b.1||(a.1==b.1&&decide (a.2<b.2))
theorem lt_irrefl(a:FK):lessF a a=false:=by unfold lessF;rw[less_irrefl,decide_eq_false (Int.lt_irrefl _),Bool.and_false];rfl
theorem lt_trans{a b c:FK}(h:lessF a b=true)(k:lessF b c=true):lessF a c=true:=by
 unfold lessF at *;simp only[Bool.or_eq_true,Bool.and_eq_true,beq_iff_eq,decide_eq_true_eq]at h k ⊢;rcases h with h|⟨h,h'⟩<;>rcases k with k|⟨k,k'⟩
 ·exact .inl (less_trans h k)
 ·exact .inl (k▸h)
 ·exact .inl (h▸k)
 ·exact .inr ⟨h.trans k,by omega⟩
theorem lt_cases(a b:FK):lessF a b=true∨a=b∨lessF b a=true:=by
 unfold lessF;simp only[Bool.or_eq_true,Bool.and_eq_true,beq_iff_eq,decide_eq_true_eq];rcases less_cases a.1 b.1 with h|h|h
 ·exact .inl (.inl h)
 ·rcases Int.lt_trichotomy a.2 b.2 with k|k|k
  ·exact .inl (.inr ⟨h,k⟩)
  ·exact .inr (.inl (Prod.ext h k))
  ·exact .inr (.inr (.inr ⟨h.symm,k⟩))
 ·exact .inr (.inr (.inl h))
theorem lt_asym{a b:FK}(h:lessF a b=true):lessF b a=false:=by
 cases e:lessF b a with
 | false=>rfl
 | true=>have:=lt_trans h e;rw[lt_irrefl]at this;cases this
theorem lt_ne{a b:FK}(h:lessF a b=true):a≠b:=fun e=>by rw[e,lt_irrefl]at h;cases h
def okF(x:Fix):Bool:=isName x.1.1&&(decide (0≤x.1.2)&&(decide (x.1.2≤9999)&&isR x.2))
def okAtF(l:List Fix)(j:Nat):Bool:=match l[j]? with
 | some x=>okF x&&(decide (j=0)||(match l[j-1]? with|some y=>lessF y.1 x.1|none=>false))
 | none=>true
def mayF(l:List Fix):Bool:=(List.range l.length).all (okAtF l)
def GoodF(l:List Fix):Prop:=(∀x∈l,okF x=true)∧l.Pairwise fun x y=>lessF x.1 y.1=true
theorem mayF_iff{l:List Fix}:mayF l=true↔∀j,j<l.length→okAtF l j=true:=by
 unfold mayF;rw[List.all_eq_true];exact⟨fun h j hj=>h j (List.mem_range.2 hj),fun h j hj=>h j (List.mem_range.1 hj)⟩
theorem mayF_stop{l:List Fix}{j:Nat}(hj:j<l.length)(h:okAtF l j=false):mayF l=false:=by
 cases e:mayF l with
 | false=>rfl
 | true=>rw[mayF_iff.1 e j hj]at h;cases h
theorem mayF_end{l:List Fix}(h:∀j,j<l.length→okAtF l j=true):mayF l=true:=mayF_iff.2 h
theorem okF_no{l:List Fix}{k:Nat}{x:Fix}(hx:l[k]?=some x)(h:okF x=false):okAtF l k=false:=by
 unfold okAtF;rw[hx];show (okF x&&_)=false;rw[h,Bool.false_and]
theorem okF_0{l:List Fix}{x:Fix}(hx:l[0]?=some x)(h:okF x=true):okAtF l 0=true:=by
 unfold okAtF;rw[hx];show (okF x&&_)=true;rw[h];rfl
theorem okF_s{l:List Fix}{m:Nat}{x y:Fix}(hx:l[m+1]?=some x)(hy:l[m]?=some y)(h:okF x=true):okAtF l (m+1)=lessF y.1 x.1:=by
 unfold okAtF;rw[hx];show (okF x&&(decide (m+1=0)||(match l[m+1-1]? with|some y=>lessF y.1 x.1|none=>false)))=_;rw[h,decide_eq_false (Nat.succ_ne_zero m),Nat.add_sub_cancel,hy];rfl
theorem chain_lt:∀ {l:List Fix},(∀j x y,l[j]?=some x→l[j+1]?=some y→lessF x.1 y.1=true)→l.Pairwise fun x y=>lessF x.1 y.1=true
 | [],_=>List.Pairwise.nil
 | [x],_=>List.pairwise_singleton _ _
 | x::y::r,h=>by
  have h1:lessF x.1 y.1=true:=h 0 x y rfl rfl;have h2:(y::r).Pairwise fun x y=>lessF x.1 y.1=true:=chain_lt fun j u v hu hv=>h (j+1) u v hu hv;refine List.Pairwise.cons (fun z hz=>?_) h2;rcases List.mem_cons.1 hz with rfl|hz
  ·exact h1
  ·exact lt_trans h1 ((List.pairwise_cons.1 h2).1 z hz)
theorem good_iffF{l:List Fix}:mayF l=true↔GoodF l:=by
 rw[mayF_iff];constructor
 ·intro h;constructor
  ·intro x hx;obtain⟨j,hj,e⟩:=List.getElem_of_mem hx;have k:=h j hj;unfold okAtF at k;rw[List.getElem?_eq_getElem hj]at k;simp only[Bool.and_eq_true]at k;rw[e]at k;exact k.1
  ·refine chain_lt fun j x y hx hy=>?_;obtain⟨hj,e⟩:=List.getElem?_eq_some_iff.1 hy;have k:=h (j+1) hj;unfold okAtF at k;rw[hy]at k;simp only[Bool.and_eq_true,Nat.add_sub_cancel,hx]at k;rcases Bool.or_eq_true_iff.1 k.2 with k|k
   ·exact absurd (of_decide_eq_true k) (by omega)
   ·exact k
 ·rintro⟨h1,h2⟩ j hj;unfold okAtF;rw[List.getElem?_eq_getElem hj];simp only[Bool.and_eq_true];refine⟨h1 _ (List.getElem_mem hj),?_⟩;by_cases h0:j=0
  ·rw[decide_eq_true h0];rfl
  ·rw[decide_eq_false h0,Bool.false_or,List.getElem?_eq_getElem (by omega)];exact List.pairwise_iff_getElem.1 h2 (j-1) j (by omega) hj (by omega)
def rankF(l:List Fix)(k:FK):Nat:=l.countP fun x=>lessF x.1 k
theorem rankF_le(l:List Fix)(k:FK):rankF l k≤l.length:=List.countP_le_length
theorem less_mono{l:List Fix}(h:l.Pairwise fun x y=>lessF x.1 y.1=true){k:FK}{i j:Nat}{x y:Fix}(hij:i≤j)(hx:l[i]?=some x)(hy:l[j]?=some y)(ha:lessF y.1 k=true):lessF x.1 k=true:=by
 rcases Nat.lt_or_eq_of_le hij with c|c
 ·obtain⟨hi,rfl⟩:=List.getElem?_eq_some_iff.1 hx;obtain⟨hj,rfl⟩:=List.getElem?_eq_some_iff.1 hy;exact lt_trans (List.pairwise_iff_getElem.1 h i j hi hj c) ha
 ·subst c;rw[hx]at hy;obtain rfl:=Option.some.inj hy;exact ha
theorem rankF_bound{l:List Fix}{k:FK}{i:Nat}(hi:i≤l.length)(h1:∀t x,t<i→l[t]?=some x→lessF x.1 k=true)(h2:∀t x,i≤t→l[t]?=some x→lessF x.1 k=false):i=rankF l k:=by
 unfold rankF;have e:l.take i++l.drop i=l:=List.take_append_drop _ _;rw[←e,List.countP_append];rw[List.countP_eq_length.2 fun x hx=>by
  obtain⟨t,ht⟩:=List.mem_iff_getElem?.1 hx;have hlt:t<i:=by
   have:=(List.getElem?_eq_some_iff.1 ht).1;rw[List.length_take]at this;omega
  rw[List.getElem?_take_of_lt hlt]at ht;exact h1 t x hlt ht]
 rw[List.countP_eq_zero.2 fun x hx=>by
  obtain⟨t,ht⟩:=List.mem_iff_getElem?.1 hx;rw[List.getElem?_drop]at ht;rw[h2 (i+t) x (by omega) ht];decide]
 rw[List.length_take];omega
theorem rank_at{l:List Fix}(h:l.Pairwise fun x y=>lessF x.1 y.1=true)(k:FK):(∀t x,t<rankF l k→l[t]?=some x→lessF x.1 k=true)∧∀t x,rankF l k≤t→l[t]?=some x→lessF x.1 k=false:=by
 induction l with
 | nil=>exact⟨(fun t x _ hx=>by cases hx),(fun t x _ hx=>by cases hx)⟩
 | cons a r ih =>
  obtain⟨hp,hr⟩:=List.pairwise_cons.1 h;obtain⟨i1,i2⟩:=ih hr
  cases ha:lessF a.1 k with
  | true =>
   have e:rankF (a::r) k=rankF r k+1:=by unfold rankF;rw[List.countP_cons,ha];rfl
   rw[e];constructor
   ·intro t x ht hx
    cases t with
    | zero=>obtain rfl:=Option.some.inj hx;exact ha
    | succ t=>exact i1 t x (by omega) hx
   ·intro t x ht hx
    cases t with
    | zero=>omega
    | succ t=>exact i2 t x (by omega) hx
  | false =>
   have hz:∀x∈r,lessF x.1 k=false:=fun x hx=>by
    cases c:lessF x.1 k with
    | false=>rfl
    | true=>have:=lt_trans (hp x hx) c;rw[ha]at this;cases this
   have e:rankF (a::r) k=0:=by
    unfold rankF;rw[List.countP_cons,ha,List.countP_eq_zero.2 fun x hx=>by rw[hz x hx];decide];rfl
   rw[e];constructor
   ·intro t x ht;omega
   ·intro t x _ hx
    cases t with
    | zero=>obtain rfl:=Option.some.inj hx;exact ha
    | succ t=>exact hz x (List.mem_of_getElem? hx)
def thereF(l:List Fix)(k:FK):Bool:=match l[rankF l k]? with|some x=>x.1==k|none=>false
theorem there_some{l:List Fix}{k:FK}(h:thereF l k=true):∃x,l[rankF l k]?=some x∧x.1=k:=by
 unfold thereF at h
 cases e:l[rankF l k]? with
 | none=>rw[e]at h;cases h
 | some x=>rw[e]at h;exact⟨x,rfl,beq_iff_eq.1 h⟩
theorem there_not{l:List Fix}(hp:l.Pairwise fun x y=>lessF x.1 y.1=true){k:FK}(h:thereF l k=false):∀x∈l,x.1≠k:=fun x hx e=>by
 obtain⟨j,hj,rfl⟩:=List.getElem_of_mem hx;obtain⟨r1,r2⟩:=rank_at hp k;have hr:j=rankF l k:=rankF_bound (Nat.le_of_lt hj)
  (fun t y ht hy=>by
   obtain⟨ht',rfl⟩:=List.getElem?_eq_some_iff.1 hy;rw[←e];exact List.pairwise_iff_getElem.1 hp t j ht' hj ht)
  (fun t y ht hy=>by
   obtain⟨ht',rfl⟩:=List.getElem?_eq_some_iff.1 hy;rcases Nat.lt_or_eq_of_le ht with c|c
   ·rw[←e];exact lt_asym (List.pairwise_iff_getElem.1 hp j t hj ht' c)
   ·subst c;rw[e];exact lt_irrefl k)
 unfold thereF at h;rw[←hr,List.getElem?_eq_getElem hj]at h;have h:(l[j].1==k)=false:=h;rw[beq_iff_eq.2 e]at h;cases h
def rawF(l:List Fix)(k:FK):Option Key:=(l.find? fun x=>x.1==k).map (·.2)
def getF(l:List Fix)(k:FK):Option Key:=if mayF l then rawF l k else none
theorem uniq{l:List Fix}(hp:l.Pairwise fun x y=>lessF x.1 y.1=true){x y:Fix}(hx:x∈l)(hy:y∈l)(e:x.1=y.1):x=y:=by
 obtain⟨i,hi,rfl⟩:=List.getElem_of_mem hx;obtain⟨j,hj,rfl⟩:=List.getElem_of_mem hy;rcases Nat.lt_trichotomy i j with c|c|c
 ·exact absurd e (lt_ne (List.pairwise_iff_getElem.1 hp i j hi hj c))
 ·subst c;rfl
 ·exact absurd e.symm (lt_ne (List.pairwise_iff_getElem.1 hp j i hj hi c))
theorem raw_in{l:List Fix}(hp:l.Pairwise fun x y=>lessF x.1 y.1=true){x:Fix}(hx:x∈l):rawF l x.1=some x.2:=by
 unfold rawF
 cases e:l.find? fun y=>y.1==x.1 with
 | none=>exact absurd (List.find?_eq_none.1 e x hx) (by simp)
 | some z =>
  have ez:z.1=x.1:=by simpa using List.find?_some e
  rw[uniq hp (List.mem_of_find?_eq_some e) hx ez];rfl
theorem raw_no{l:List Fix}{k:FK}(h:∀x∈l,x.1≠k):rawF l k=none:=by
 unfold rawF;rw[List.find?_eq_none.2 fun x hx=>by simpa using h x hx];rfl
theorem raw_some{l:List Fix}{k:FK}{q:Key}(h:rawF l k=some q):(k,q)∈l:=by
 unfold rawF at h
 cases e:l.find? fun y=>y.1==k with
 | none=>rw[e]at h;cases h
 | some z =>
  rw[e]at h;have ez:z.1=k:=by simpa using List.find?_some e
  have eq:z.2=q:=Option.some.inj h;have:=List.mem_of_find?_eq_some e;rw[←ez,← eq];exact this
theorem raw_there{l:List Fix}(hp:l.Pairwise fun x y=>lessF x.1 y.1=true)(k:FK):(rawF l k).isSome=thereF l k:=by
 cases e:thereF l k with
 | true =>
  obtain⟨x,hx,rfl⟩:=there_some e;rw[raw_in hp (List.mem_of_getElem? hx)];rfl
 | false=>rw[raw_no (there_not hp e)];rfl
theorem good_extF:∀ {l m:List Fix},l.Pairwise (fun x y=>lessF x.1 y.1=true)→m.Pairwise (fun x y=>lessF x.1 y.1=true)→(∀x,x∈l↔x∈m)→l=m
 | [],[],_,_,_=>rfl
 | [],y::s,_,_,h=>absurd ((h y).2 (List.mem_cons_self ..)) List.not_mem_nil
 | x::r,[],_,_,h=>absurd ((h x).1 (List.mem_cons_self ..)) List.not_mem_nil
 | x::r,y::s,hl,hm,h=>by
  obtain⟨h1,h2⟩:=List.pairwise_cons.1 hl;obtain⟨m1,m2⟩:=List.pairwise_cons.1 hm;have e:x=y:=by
   rcases List.mem_cons.1 ((h x).1 (List.mem_cons_self ..)) with e|e
   ·exact e
   ·rcases List.mem_cons.1 ((h y).2 (List.mem_cons_self ..)) with d|d
    ·exact d.symm
    ·have a:=h1 y d;have b:=m1 x e;rw[lt_asym a]at b;cases b
  subst e;rw[good_extF h2 m2 fun z=>?_];constructor
  ·intro hz;rcases List.mem_cons.1 ((h z).1 (List.mem_cons_of_mem _ hz)) with rfl|d
   ·have:=h1 z hz;rw[lt_irrefl]at this;cases this
   ·exact d
  ·intro hz;rcases List.mem_cons.1 ((h z).2 (List.mem_cons_of_mem _ hz)) with rfl|d
   ·have:=m1 z hz;rw[lt_irrefl]at this;cases this
   ·exact d
theorem get_in{l:List Fix}(h:GoodF l){x:Fix}(hx:x∈l):getF l x.1=some x.2:=by
 unfold getF;rw[good_iffF.2 h];exact raw_in h.2 hx
def cmpZ(x y:Int):Int:=if x<y then -1 else if y<x then 1 else 0
def ordF(k l:FK):Int:=orZ (Lib.compareBytes k.1 l.1) (cmpZ k.2 l.2)
theorem ordF_lt{k l:FK}(h:lessF k l=true):ordF k l=-1:=by
 unfold lessF at h;unfold ordF orZ;simp only[Bool.or_eq_true,Bool.and_eq_true,beq_iff_eq,decide_eq_true_eq]at h;rcases h with h|⟨h,h'⟩
 ·rw[cmp_lt h];rfl
 ·rw[h,cmp_self,if_pos rfl];unfold cmpZ;rw[if_pos h']
theorem ordF_self(k:FK):ordF k k=0:=by unfold ordF orZ cmpZ;rw[cmp_self,if_pos rfl,if_neg (Int.lt_irrefl _),if_neg (Int.lt_irrefl _)]
theorem ordF_gt{k l:FK}(h:lessF l k=true):ordF k l=1:=by
 unfold lessF at h;unfold ordF orZ;simp only[Bool.or_eq_true,Bool.and_eq_true,beq_iff_eq,decide_eq_true_eq]at h;rcases h with h|⟨h,h'⟩
 ·rw[cmp_gt h];rfl
 ·rw[h,cmp_self,if_pos rfl];unfold cmpZ;rw[if_neg (by omega),if_pos h']
theorem ordF_neg{k l:FK}:ordF k l<0↔lessF k l=true:=by
 rcases lt_cases k l with h|h|h
 ·rw[ordF_lt h];exact⟨fun _=>h,fun _=>by decide⟩
 ·subst h;rw[ordF_self,lt_irrefl];exact⟨fun h=>absurd h (by decide),fun h=>by cases h⟩
 ·rw[ordF_gt h,lt_asym h];exact⟨fun h=>absurd h (by decide),fun h=>by cases h⟩
theorem ordF_zero{k l:FK}:ordF k l=0↔k=l:=by
 rcases lt_cases k l with h|h|h
 ·rw[ordF_lt h];exact⟨fun h=>absurd h (by decide),fun e=>absurd e (lt_ne h)⟩
 ·subst h;rw[ordF_self];exact⟨fun _=>rfl,fun _=>rfl⟩
 ·rw[ordF_gt h];exact⟨fun h=>absurd h (by decide),fun e=>absurd e.symm (lt_ne h)⟩
theorem ordF_geq(k l:FK):decide (0≤ordF k l)=!lessF k l:=by
 cases h:lessF k l with
 | true=>rw[ordF_lt h];rfl
 | false =>
  refine decide_eq_true ?_;rcases Int.lt_or_le (ordF k l) 0 with c|c
  ·rw[ordF_neg.1 c]at h;cases h
  ·exact c
theorem thereF_of{l:List Fix}{k:FK}{x:Fix}{z:Int}(hx:l[rankF l k]?=some x)(hz:ordF x.1 k=z):thereF l k=decide (z=0):=by
 unfold thereF;rw[hx];show (x.1==k)=_;subst hz;by_cases h:x.1=k
 ·rw[h,ordF_self];simp
 ·rw[beq_false_of_ne h,decide_eq_false (fun e=>h (ordF_zero.1 e))]
theorem thereF_no{l:List Fix}{k:FK}(h:l.length≤rankF l k):thereF l k=false:=by
 unfold thereF;rw[List.getElem?_eq_none h]
end Fx
end Go.Proofs.YtghioekjghmdaaaGreatDoor
namespace Go.Proofs.YtghioekjghmdaaaGreatDoor
open Go.RowKit
def encFx(x:Fx.Fix):List Value:=[.string ⟨x.1.1.toArray⟩,.int .i64 x.1.2,.string ⟨x.2.1.toArray⟩,.string ⟨x.2.2.toArray⟩]
theorem encFx_one(x:Fx.Fix):∀v∈encFx x,v.oneCell'=true:=fun v hv=>by
 unfold encFx at hv;simp only[List.mem_cons,List.not_mem_nil,or_false]at hv;rcases hv with rfl|rfl|rfl|rfl<;>rfl
theorem fxInfo:(Tryz.prog.info? 39).map (fun i=>(i.zero,i.size,i.bytes))=some (some (.agg #[.string ⟨#[]⟩,.int .i64 0,.string ⟨#[]⟩,.string ⟨#[]⟩]),4,56):=by kernel_rfl
abbrev Fxs(w:World)(p:Option Addr)(l:List Fx.Fix):Prop:=RowsG encFx 4 w p l
abbrev OwnX(B:Nat)(w:World)(v:Value)(l:List Fx.Fix):Prop:=OwnG encFx 4 39 B w v l
theorem fx_rule{w:World}{p:Option Addr}{l:List Fx.Fix}(h:Fxs w p l){k:Nat}{a n e:List UInt8}{d:Int}(hx:l[k]?=some ((a,d),(n,e))):∃b o,p=some ⟨b,o,none⟩∧(∀v,Below w.heap.size w v→v.cell? ⟨b,o+k*4,none⟩=some (.string ⟨a.toArray⟩)) ∧
  (∀v,Below w.heap.size w v→v.cell? ⟨b,o+k*4+1,none⟩=some (.int .i64 d))∧(∀v,Below w.heap.size w v→v.cell? ⟨b,o+k*4+2,none⟩=some (.string ⟨n.toArray⟩))∧(∀v,Below w.heap.size w v→v.cell? ⟨b,o+k*4+3,none⟩=some (.string ⟨e.toArray⟩)):=by
 obtain⟨b,o,hp,hl,c⟩:=h k _ hx;exact⟨b,o,hp,fun v hb=>(hb.cell (p:=⟨b,_,none⟩) hl).trans (c 0 _ rfl),fun v hb=>(hb.cell (p:=⟨b,_,none⟩) hl).trans (c 1 _ rfl),fun v hb=>(hb.cell (p:=⟨b,_,none⟩) hl).trans (c 2 _ rfl),fun v hb=>(hb.cell (p:=⟨b,_,none⟩) hl).trans (c 3 _ rfl)⟩
def SzX(x:Fx.Fix):Prop:=x.1.1.length≤4611686018427387904∧x.2.1.length≤20000∧x.2.2.length≤20000
def optR(r:Option Key):Key:=r.getD ([],[])
def GiveG(w:World)(r:Option Key)(e:Ending)(w':World):Prop:=GiveRB w (optR r,r.isSome) e w'
theorem moreK{l:List Fx.Fix}{P:Nat→Fx.Fix→Prop}{k:Nat}{z:Fx.Fix}(h:∀ (j:Nat) (x:Fx.Fix),j<k→l[j]?=some x→P j x)(hz:l[k]?=some z)(hp:P k z):∀ (j:Nat) (x:Fx.Fix),j<k+1→l[j]?=some x→P j x:=fun j x hj hx=>by
 by_cases e:j=k
 ·subst e;rw[hz]at hx;exact Option.some.inj hx▸hp
 ·exact h j x (by omega) hx
theorem sameF_stop{l m:List Fx.Fix}{k:Nat}{x y:Fx.Fix}(hx:l[k]?=some x)(hy:m[k]?=some y)(h:x≠y):(l==m)=false:=beq_false_of_ne fun e=>by
 subst e;rw[hx]at hy;exact h (Option.some.inj hy)
theorem sameF_end{l m:List Fx.Fix}(hl:l.length=m.length)(h:∀ (j:Nat) (x:Fx.Fix),j<l.length→l[j]?=some x→m[j]?=some x):(l==m)=true:=by
 rw[beq_iff_eq];refine List.ext_getElem hl fun i h1 h2=>?_;have:=h i l[i] h1 (List.getElem?_eq_getElem h1);rw[List.getElem?_eq_getElem h2]at this;exact(Option.some.inj this).symm
end Go.Proofs.YtghioekjghmdaaaGreatDoor
set_option maxRecDepth 100000
namespace Go.Proofs.YtghioekjghmdaaaGreatDoor
open Go.ChangeShapes Go.WideShapes Go.RowKit Go.Joins Go.Deep
section
variable {H : Type} {enc : TypeId × Value → H} {w : World} {base : Nat} {sp : Nat → Bool} {held : Bool}
theorem cellsFix:Tryz.prog.cellsOf 39=4:=by kernel_rfl
theorem bytesFix:Tryz.prog.bytesOf 39=56:=by kernel_rfl
theorem trod_fix{n:Nat}{c0 c1 c2 c3:Value}{x:DataW H×List MemPlace}(h:DataW.trod enc Tryz.prog w base sp held n 39 [c0,c1,c2,c3]=some x) :
  ∃z:Fx.Fix,c0=.string ⟨z.1.1.toArray⟩∧c1=.int .i64 z.1.2∧c2=.string ⟨z.2.1.toArray⟩∧c3=.string ⟨z.2.2.toArray⟩:=by
 obtain⟨xs,m,_,rfl,hl,hlen,hf⟩:=DataW.trod_struct Tryz.underlying39 h
 match xs,hlen with
 | [y0,y1,y2],_ =>
  have h0:DataW.trod enc Tryz.prog w base sp held m 9 (([c0,c1,c2,c3].drop 0).take (Tryz.prog.cellsOf 9))=some y0:=hf 0 _ rfl;have h1:DataW.trod enc Tryz.prog w base sp held m 3 (([c0,c1,c2,c3].drop 1).take (Tryz.prog.cellsOf 3))=some y1:=hf 1 _ rfl;have h2:DataW.trod enc Tryz.prog w base sp held m 28 (([c0,c1,c2,c3].drop 2).take (Tryz.prog.cellsOf 28))=some y2:=hf 2 _ rfl;rw[cellsStr]at h0;rw[cellsInt]at h1;rw[cellsRat]at h2;obtain⟨a0,rfl⟩:=one_str h0;obtain⟨a1,rfl⟩:=one_int h1;obtain⟨a2,rfl,rfl⟩:=one_rat h2;exact⟨((a0,a1),a2),rfl,rfl,rfl,rfl⟩
theorem open_fixes{v:Value}{d:DataW H}{p:List MemPlace}(hv:∃ (q:Option Addr) (l c:Nat),v=.slice q l c)(h:DataW.Trod enc Tryz.prog w 0 (fun _=>true) held 24 v d p) :
  ∃ (q:Option Addr) (c:Nat) (ls:List Fx.Fix),v=.slice q ls.length c∧ls.length≤c∧Fxs w q ls∧(d=.nil∧ls=[]∨∃es rest,d=.slice es rest∧es.length=ls.length):=by
 obtain⟨q0,l0,c0,rfl⟩:=hv;obtain⟨fuel,hf⟩:=h;have hf:DataW.trod enc Tryz.prog w 0 (fun _=>true) held fuel 24 [.slice q0 l0 c0]=some (d,p):=hf;rcases open_slice Tryz.underlying24 hf with ⟨hcs,hx⟩|⟨a,len,cap,m,n,D,Pl,hcs,_,hl,hm,hmm,hx,hel⟩
 ·simp only[List.cons.injEq,Value.slice.injEq,and_true]at hcs;obtain⟨rfl,rfl,rfl⟩:=hcs;exact⟨none,0,[],rfl,Nat.le_refl _,RowsG.nil _ _,.inl ⟨(Prod.mk.inj hx).1,rfl⟩⟩
 ·simp only[List.cons.injEq,Value.slice.injEq,and_true]at hcs;obtain⟨rfl,rfl,rfl⟩:=hcs;simp only[if_true]at hmm;subst hmm;rw[show Tryz.prog.cellsOf _=4 from cellsFix]at hel;have hline:∀i,i<l0→∃z:Fx.Fix,w.cell? (a.add (i*4))=some (.string ⟨z.1.1.toArray⟩)∧w.cell? ((a.add (i*4)).add 1)=some (.int .i64 z.1.2)∧w.cell? ((a.add (i*4)).add 2)=some (.string ⟨z.2.1.toArray⟩)∧w.cell? ((a.add (i*4)).add 3)=some (.string ⟨z.2.2.toArray⟩):=fun i hi=>by
   obtain⟨cs,h1,h2⟩:=hel i (by omega);obtain⟨_,hlen,hc⟩:=World.cells?_some h1
   match cs,hlen with
   | [x0,x1,x2,x3],_ =>
    obtain⟨z,rfl,rfl,rfl,rfl⟩:=trod_fix h2;exact⟨z,hc 0 (by decide),hc 1 (by decide),hc 2 (by decide),hc 3 (by decide)⟩
  obtain⟨L,hL⟩:=choose_lt (α:=Fx.Fix) hline;have hlen:((List.range l0).map L).length=l0:=by rw[List.length_map,List.length_range]
  refine⟨some a,_,(List.range l0).map L,by rw[hlen],by rw[hlen];exact hl,fun j x hx2=>?_,.inr ⟨_,_,(Prod.mk.inj hx).1,by rw[List.length_map,List.length_map]⟩⟩;have hj:j<l0:=by
   have:=(List.getElem?_eq_some_iff.1 hx2).1;rw[hlen]at this;exact this
  have hx3:x=L j:=by
   rw[List.getElem?_map,List.getElem?_range hj]at hx2;exact(Option.some.inj hx2).symm
  subst hx3;obtain⟨g0,g1,g2,g3⟩:=hL j hj;obtain⟨k0,_⟩:=hL 0 (by omega);have hs:a.spot=none:=by
   have:=World.cell?_spot k0
   simpa [Addr.add] using this
  obtain⟨b,o,s⟩:=a;obtain rfl:s=none:=hs;rw[Addr.add_lit]at g0;rw[Addr.add_lit,Addr.add_lit]at g1 g2 g3;refine⟨b,o,rfl,World.block_lt_of_cell? w ⟨b,o+j*4,none⟩ g0,fun i v hv=>?_⟩
  match i,hv with
  | 0,hv=>obtain rfl:=Option.some.inj hv;exact g0
  | 1,hv=>obtain rfl:=Option.some.inj hv;exact g1
  | 2,hv=>obtain rfl:=Option.some.inj hv;exact g2
  | 3,hv=>obtain rfl:=Option.some.inj hv;exact g3
end
end Go.Proofs.YtghioekjghmdaaaGreatDoor
namespace Go.Proofs.YtghioekjghmdaaaGreatDoor
namespace Ev
open Tm (Nd Tr arN treeOf checkT printT depthT joinT plainN okN okT pr dp mkT)
open Fx (FK Fix lessF mayF rawF)
def lastN(x:Nd):Int:=if x.op=1 then x.a else if 2≤x.op∧x.op≤4 then x.b else x.a-1
def spanN(x:Nd):List FK:=(List.range (lastN x+1-x.a).toNat).map fun (i:Nat)=>(x.ast,x.a+(i:Int))
def insK:List FK→FK→List FK
 | [],k=>[k]
 | x::l,k=>if lessF x k=true then x::insK l k else if x=k then x::l else k::x::l
def keysT(t:List Nd):List FK:=(t.flatMap spanN).foldl insK []
def needsK(t:List Nd):List FK:=if checkT t=0 then keysT t else []
def SortK(l:List FK):Prop:=l.Pairwise fun a b=>lessF a b=true
theorem insK_mem:∀ {l:List FK} {k y:FK},y∈insK l k↔y=k∨y∈l
 | [],k,y=>by simp[insK]
 | x::l,k,y=>by
  unfold insK;split
  ·rw[List.mem_cons,insK_mem,List.mem_cons];constructor<;>rintro(h|h|h)<;>simp[h]
  ·split
   ·rename_i e;subst e
    rw[List.mem_cons];constructor
    ·exact .inr
    ·rintro(h|h)
     ·exact .inl h
     ·exact h
   ·rw[List.mem_cons]
theorem insK_sort:∀ {l:List FK} {k:FK},SortK l→SortK (insK l k)
 | [],k,_=>List.pairwise_singleton ..
 | x::l,k,h=>by
  obtain⟨h1,h2⟩:=List.pairwise_cons.1 h;unfold insK;split
  ·rename_i hx
   refine List.pairwise_cons.2 ⟨fun y hy=>?_,insK_sort h2⟩;rcases insK_mem.1 hy with rfl|hy
   ·exact hx
   ·exact h1 y hy
  ·rename_i hx
   split
   ·exact h
   ·rename_i hn
    have hk:lessF k x=true:=by
     rcases Fx.lt_cases x k with c|c|c
     ·exact absurd c hx
     ·exact absurd c hn
     ·exact c
    refine List.pairwise_cons.2 ⟨fun y hy=>?_,h⟩;rcases List.mem_cons.1 hy with rfl|hy
    ·exact hk
    ·exact Fx.lt_trans hk (h1 y hy)
theorem fold_mem{m:List FK}:∀ {l:List FK} {y:FK},y∈m.foldl insK l↔y∈m∨y∈l:=by
 induction m with
 | nil=>intro l y;simp
 | cons k m ih =>
  intro l y;rw[List.foldl_cons,ih,insK_mem,List.mem_cons];constructor
  ·rintro(h|h|h)<;>simp[h]
  ·rintro((h|h)|h)<;>simp[h]
theorem fold_sort{m:List FK}:∀ {l:List FK},SortK l→SortK (m.foldl insK l):=by
 induction m with
 | nil=>exact fun h=>h
 | cons k m ih=>exact fun h=>ih (insK_sort h)
theorem keys_mem{t:List Nd}{k:FK}:k∈keysT t↔∃x∈t,k∈spanN x:=by
 unfold keysT;rw[fold_mem,List.mem_flatMap];simp
theorem keys_sort(t:List Nd):SortK (keysT t):=fold_sort List.Pairwise.nil
def zR:Key:=([],[])
def priceK(l:List Fix)(k:FK):Rat:=valR ((rawF l k).getD zR)
def hiQ(a b:Rat):Rat:=if 0≤sgnQ (a-b) then a else b
def loQ(a b:Rat):Rat:=if sgnQ (a-b)≤0 then a else b
def leafV(op:Int)(q:Rat)(p:List Rat):Rat:=if op=3 then p.foldl hiQ q else if op=4 then p.foldl loQ q else p.foldl (·+·) 0 / (p.length:Rat)
def leafQ(l:List Fix)(x:Nd):Rat:=if x.op=0 then valR x.num else leafV x.op (priceK l (x.ast,x.a)) ((spanN x).map (priceK l))
def upQ(op:Int):List Rat→Option Rat
 | [a]=>some (-a)
 | [a,b]=>if op=6 then some (a+b) else if op=7 then some (a-b) else if op=8 then some (a*b) else if op=9 then (if b=0 then none else some (a / b)) else if op=10 then some (hiQ a b) else some (loQ a b)
 | [a,b,c]=>some (if 0<sgnQ a then b else c)
 | _=>none
def allS:List (Option Rat)→Option (List Rat)
 | []=>some []
 | none::_=>none
 | some a::l=>(allS l).map (a::·)
def valF(l:List Fix)(x:Nd):List (Option Rat)→Option Rat
 | []=>some (leafQ l x)
 | v::vs=>(allS (v::vs)).bind (upQ x.op)
def valT(l:List Fix)(t:Tr):Option Rat:=t.fold (valF l)
def lackB(l:List Fix)(t:List Nd):Bool:=(keysT t).any fun k=>(rawF l k).isNone
def endQ:Option Rat→Key×Int
 | some q=>(rd q,0)
 | none=>(zR,131)
def evalE(t:List Nd)(l:List Fix):Key×Int :=
 if mayF l=false then (zR,1) else if checkT t≠0 then (zR,100) else if lackB l t=true then (zR,130) else match treeOf t with
 | some tr=>endQ (valT l tr)
 | none=>(zR,100)
def wN(D:Nat)(x:Nd):Nat:=if x.op=0 then max x.num.1.length x.num.2.length else 60*D+4
def dgF(D:Nat)(x:Nd):List Nat→Nat
 | []=>wN D x
 | [a]=>a
 | [a,b]=>a+b+1
 | a::b::c::_=>max a (max b c)
def dgT(D:Nat)(t:Tr):Nat:=t.fold (dgF D)
theorem dg_le{D:Nat}:∀ {t:Tr},(∀x∈t.flat,wN D x≤60*D+4)→2*(dgT D t+1)≤(60*D+5)*(t.flat.length+1)
 | .t0 x,h=>by
  have:=h x (by simp[Tr.flat]);show 2*(wN D x+1)≤(60*D+5)*2;omega
 | .t1 x a,h=>by
  have:=dg_le (t:=a) fun y hy=>h y (by simp[Tr.flat,hy]);show 2*(dgT D a+1)≤(60*D+5)*((a.flat++[x]).length+1);rw[List.length_append];exact Nat.le_trans this (Nat.mul_le_mul_left _ (by omega))
 | .t2 x a b,h=>by
  have ha:=dg_le (t:=a) fun y hy=>h y (by simp[Tr.flat,hy]);have hb:=dg_le (t:=b) fun y hy=>h y (by simp[Tr.flat,hy]);show 2*(dgT D a+dgT D b+1+1)≤(60*D+5)*((Tr.t2 x a b).flat.length+1);have e:(Tr.t2 x a b).flat.length+1=(a.flat.length+1)+(b.flat.length+1):=by simp[Tr.flat];omega
  rw[e,Nat.mul_add (60*D+5)];generalize (60*D+5)*(a.flat.length+1)=A at *;generalize (60*D+5)*(b.flat.length+1)=B at *;omega
 | .t3 x a b c,h=>by
  have ha:=dg_le (t:=a) fun y hy=>h y (by simp[Tr.flat,hy]);have hb:=dg_le (t:=b) fun y hy=>h y (by simp[Tr.flat,hy]);have hc:=dg_le (t:=c) fun y hy=>h y (by simp[Tr.flat,hy]);show 2*(max (dgT D a) (max (dgT D b) (dgT D c))+1)≤(60*D+5)*((Tr.t3 x a b c).flat.length+1);have e:∀s:Tr,s.flat.length≤(Tr.t3 x a b c).flat.length→(60*D+5)*(s.flat.length+1)≤(60*D+5)*((Tr.t3 x a b c).flat.length+1):=fun s hs=>Nat.mul_le_mul_left _ (by omega);have e1:=e a (by simp only[Tr.flat,List.length_append];omega);have e2:=e b (by simp only[Tr.flat,List.length_append];omega);have e3:=e c (by simp only[Tr.flat,List.length_append];omega);generalize (60*D+5)*((Tr.t3 x a b c).flat.length+1)=A at *;generalize (60*D+5)*(a.flat.length+1)=A1 at *;generalize (60*D+5)*(b.flat.length+1)=A2 at *;generalize (60*D+5)*(c.flat.length+1)=A3 at *;omega
theorem insK_len:∀ (l:List FK) (k:FK),(insK l k).length≤l.length+1
 | [],_=>Nat.le_refl _
 | x::l,k=>by
  unfold insK;have:=insK_len l k;split
  ·rw[List.length_cons,List.length_cons];omega
  ·split<;>simp only[List.length_cons]<;>omega
theorem fold_len{m:List FK}:∀ {l:List FK},(m.foldl insK l).length≤l.length+m.length:=by
 induction m with
 | nil=>exact fun {l}=>Nat.le_refl _
 | cons k m ih =>
  intro l;have:=ih (l:=insK l k);have:=insK_len l k;rw[List.foldl_cons,List.length_cons];omega
theorem span_len{x:Nd}(h:okN x=true):(spanN x).length≤60:=by
 unfold spanN;rw[List.length_map,List.length_range];by_cases h1:x.op=1
 ·unfold lastN;rw[if_pos h1];omega
 by_cases h2:2≤x.op∧x.op≤4
 ·obtain⟨_,_,_,_,_,hb⟩:=Tm.ok_avg h h2;unfold lastN;rw[if_neg h1,if_pos h2];omega
 ·unfold lastN;rw[if_neg h1,if_neg h2];omega
theorem spans_len:∀ {t:List Nd},(∀x∈t,okN x=true)→(t.flatMap spanN).length≤60*t.length
 | [],_=>Nat.le_refl _
 | x::t,h=>by
  have:=span_len (h x (List.mem_cons_self ..));have:=spans_len (t:=t) fun y hy=>h y (List.mem_cons_of_mem _ hy);rw[List.flatMap_cons,List.length_append,List.length_cons];omega
theorem keys_len{t:List Nd}(h:∀x∈t,okN x=true):(keysT t).length≤60*t.length:=by
 have:=fold_len (m:=t.flatMap spanN) (l:=[]);have:=spans_len h;unfold keysT;simp only[List.length_nil]at *;omega
theorem check_inv{t:List Nd}(h:checkT t=0):∃tr:Tr,treeOf t=some tr∧tr.wf∧tr.flat=t∧okT tr:=by
 have k:=Tm.check_iff t;rw[decide_eq_true h]at k;have hp:printT t≠[]:=fun e=>by rw[decide_eq_true e]at k;cases k
 obtain⟨tr,h1,h2,h3,h4,_⟩:=Tm.print_ne hp;exact⟨tr,h1,h2,h3,h4⟩
theorem lack_iff{l:List Fix}{t:List Nd}:lackB l t=true↔∃k∈keysT t,rawF l k=none:=by
 unfold lackB;rw[List.any_eq_true];constructor<;>rintro⟨k,hk,h⟩<;>exact⟨k,hk,by simpa using h⟩
theorem eval_may{t:List Nd}{l:List Fix}(hl:mayF l=true)(ht:checkT t=0):evalE t l=if lackB l t=true then (zR,130) else match treeOf t with
  | some tr=>endQ (valT l tr)
  | none=>(zR,100):=by
 unfold evalE;rw[if_neg (by rw[hl];exact fun h=>by cases h),if_neg (fun h=>h ht)]
theorem span_first{x:Nd}(h:okN x=true)(h1:1≤x.op∧x.op≤4):(x.ast,x.a)∈spanN x:=by
 have key:∀m:Int,lastN x=m→x.a≤m→(x.ast,x.a)∈spanN x:=fun m e h=>by
  unfold spanN;rw[e,List.mem_map];exact⟨0,List.mem_range.2 (by omega),by simp⟩
 by_cases h2:x.op=1
 ·exact key x.a (by unfold lastN;rw[if_pos h2]) (Int.le_refl _)
 ·obtain⟨_,_,_,_,hab,_⟩:=Tm.ok_avg h (by omega);exact key x.b (by unfold lastN;rw[if_neg h2,if_pos (by omega)]) hab
end Ev
end Go.Proofs.YtghioekjghmdaaaGreatDoor
