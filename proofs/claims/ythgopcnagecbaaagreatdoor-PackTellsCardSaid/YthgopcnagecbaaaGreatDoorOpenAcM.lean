/- Own work. -/
import Derived.Test.YthgopcnagecbaaaGreatDoorFxNumM
import Derived.Test.YthgopcnagecbaaaGreatDoorOpenAM
set_option linter.unusedSimpArgs false
set_option linter.unusedVariables false
namespace Go.Proofs.YthgopcnagecbaaaGreatDoor
open Go.RowKit
def encFx(x:Fx.Fix):List Value:=[.string ⟨x.1.1.toArray⟩,.int .i64 x.1.2,.string ⟨x.2.1.toArray⟩,.string ⟨x.2.2.toArray⟩]
abbrev Fxs(w:World)(p:Option Addr)(l:List Fx.Fix):Prop:=RowsG encFx 4 w p l
theorem fx_rule{w:World}{p:Option Addr}{l:List Fx.Fix}(h:Fxs w p l){k:Nat}{a n e:List UInt8}{d:Int}(hx:l[k]?=some ((a,d),(n,e))):∃b o,p=some ⟨b,o,none⟩∧(∀v,Below w.heap.size w v→v.cell? ⟨b,o+k*4,none⟩=some (.string ⟨a.toArray⟩)) ∧
  (∀v,Below w.heap.size w v→v.cell? ⟨b,o+k*4+1,none⟩=some (.int .i64 d))∧(∀v,Below w.heap.size w v→v.cell? ⟨b,o+k*4+2,none⟩=some (.string ⟨n.toArray⟩))∧(∀v,Below w.heap.size w v→v.cell? ⟨b,o+k*4+3,none⟩=some (.string ⟨e.toArray⟩)):=by
 obtain⟨b,o,hp,hl,c⟩:=h k _ hx;exact⟨b,o,hp,fun v hb=>(hb.cell (p:=⟨b,_,none⟩) hl).trans (c 0 _ rfl),fun v hb=>(hb.cell (p:=⟨b,_,none⟩) hl).trans (c 1 _ rfl),fun v hb=>(hb.cell (p:=⟨b,_,none⟩) hl).trans (c 2 _ rfl),fun v hb=>(hb.cell (p:=⟨b,_,none⟩) hl).trans (c 3 _ rfl)⟩
def SzX(x:Fx.Fix):Prop:=x.1.1.length≤4611686018427387904∧x.2.1.length≤20000∧x.2.2.length≤20000
def optR(r:Option Key):Key:=r.getD ([],[])
def GiveG(w:World)(r:Option Key)(e:Ending)(w':World):Prop:=GiveRB w (optR r,r.isSome) e w'
theorem moreK{l:List Fx.Fix}{P:Nat→Fx.Fix→Prop}{k:Nat}{z:Fx.Fix}(h:∀ (j:Nat) (x:Fx.Fix),j<k→l[j]?=some x→P j x)(hz:l[k]?=some z)(hp:P k z):∀ (j:Nat) (x:Fx.Fix),j<k+1→l[j]?=some x→P j x:=fun j x hj hx=>by
 by_cases e:j=k
 ·subst e;rw[hz]at hx;exact Option.some.inj hx▸hp
 ·exact h j x (by omega) hx
def smX(x:Fx.Fix):Bool:=decide (x.2.1.length≤40)&&(decide (x.2.2.length≤40)&&decide (x.1.1.length≤100))
def smallX(l:List Fx.Fix):Bool:=l.all smX&&decide (l.length≤60)
theorem smX_iff{x:Fx.Fix}:smX x=true↔x.2.1.length≤40∧x.2.2.length≤40∧x.1.1.length≤100:=by
 unfold smX;simp only[Bool.and_eq_true,decide_eq_true_eq]
theorem smallX_iff{l:List Fx.Fix}:smallX l=true↔(∀x∈l,smX x=true)∧l.length≤60:=by
 unfold smallX;rw[Bool.and_eq_true,List.all_eq_true,decide_eq_true_eq]
theorem smallX_stop{l:List Fx.Fix}{k:Nat}{x:Fx.Fix}(hx:l[k]?=some x)(h:smX x=false):smallX l=false:=by
 cases e:smallX l with
 | false=>rfl
 | true=>rw[(smallX_iff.1 e).1 x (List.mem_of_getElem? hx)]at h;cases h
theorem smallX_end{l:List Fx.Fix}(h:∀ (j:Nat) (x:Fx.Fix),j<l.length→l[j]?=some x→smX x=true):smallX l=decide (l.length≤60):=by
 unfold smallX;rw[List.all_eq_true.2 fun x hx=>by
  obtain⟨j,hj,e⟩:=List.getElem_of_mem hx;exact h j x hj (by rw[List.getElem?_eq_getElem hj,e]),Bool.true_and]
end Go.Proofs.YthgopcnagecbaaaGreatDoor
set_option maxRecDepth 100000
namespace Go.Proofs.YthgopcnagecbaaaGreatDoor
open Go.ChangeShapes Go.WideShapes Go.RowKit Go.Joins Go.Deep
section
variable {H : Type} {enc : TypeId × Value → H} {w : World} {base : Nat} {sp : Nat → Bool} {held : Bool}
theorem cellsFix:Tryz.prog.cellsOf 47=4:=by kernel_rfl
theorem bytesFix:Tryz.prog.bytesOf 47=56:=by kernel_rfl
theorem trod_fix{n:Nat}{c0 c1 c2 c3:Value}{x:DataW H×List MemPlace}(h:DataW.trod enc Tryz.prog w base sp held n 47 [c0,c1,c2,c3]=some x) :
  ∃z:Fx.Fix,c0=.string ⟨z.1.1.toArray⟩∧c1=.int .i64 z.1.2∧c2=.string ⟨z.2.1.toArray⟩∧c3=.string ⟨z.2.2.toArray⟩:=by
 obtain⟨xs,m,_,rfl,hl,hlen,hf⟩:=DataW.trod_struct Tryz.underlying47 h
 match xs,hlen with
 | [y0,y1,y2],_ =>
  have h0:DataW.trod enc Tryz.prog w base sp held m 9 (([c0,c1,c2,c3].drop 0).take (Tryz.prog.cellsOf 9))=some y0:=hf 0 _ rfl;have h1:DataW.trod enc Tryz.prog w base sp held m 3 (([c0,c1,c2,c3].drop 1).take (Tryz.prog.cellsOf 3))=some y1:=hf 1 _ rfl;have h2:DataW.trod enc Tryz.prog w base sp held m 23 (([c0,c1,c2,c3].drop 2).take (Tryz.prog.cellsOf 23))=some y2:=hf 2 _ rfl;rw[cellsStr]at h0;rw[cellsInt]at h1;rw[cellsRat]at h2;obtain⟨a0,rfl⟩:=one_str h0;obtain⟨a1,rfl⟩:=one_int h1;obtain⟨a2,rfl,rfl⟩:=one_rat h2;exact⟨((a0,a1),a2),rfl,rfl,rfl,rfl⟩
theorem open_fixes{v:Value}{d:DataW H}{p:List MemPlace}(hv:∃ (q:Option Addr) (l c:Nat),v=.slice q l c)(h:DataW.Trod enc Tryz.prog w 0 (fun _=>true) held 29 v d p) :
  ∃ (q:Option Addr) (c:Nat) (ls:List Fx.Fix),v=.slice q ls.length c∧ls.length≤c∧Fxs w q ls∧(d=.nil∧ls=[]∨∃es rest,d=.slice es rest∧es.length=ls.length):=by
 obtain⟨q0,l0,c0,rfl⟩:=hv;obtain⟨fuel,hf⟩:=h;have hf:DataW.trod enc Tryz.prog w 0 (fun _=>true) held fuel 29 [.slice q0 l0 c0]=some (d,p):=hf;rcases open_slice Tryz.underlying29 hf with ⟨hcs,hx⟩|⟨a,len,cap,m,n,D,Pl,hcs,_,hl,hm,hmm,hx,hel⟩
 ·simp only[List.cons.injEq,Value.slice.injEq,and_true]at hcs;obtain⟨rfl,rfl,rfl⟩:=hcs;exact⟨none,0,[],rfl,Nat.le_refl _,RowsG.nil _ _,.inl ⟨(Prod.mk.inj hx).1,rfl⟩⟩
 ·simp only[List.cons.injEq,Value.slice.injEq,and_true]at hcs;obtain⟨rfl,rfl,rfl⟩:=hcs;simp only[if_true]at hmm;subst hmm;rw[show Tryz.prog.cellsOf _=4 from cellsFix]at hel;have hline:∀i,i<l0→∃z:Fx.Fix,w.cell? (a.add (i*4))=some (.string ⟨z.1.1.toArray⟩)∧w.cell? ((a.add (i*4)).add 1)=some (.int .i64 z.1.2)∧w.cell? ((a.add (i*4)).add 2)=some (.string ⟨z.2.1.toArray⟩)∧w.cell? ((a.add (i*4)).add 3)=some (.string ⟨z.2.2.toArray⟩):=fun i hi=>by
   obtain⟨cs,h1,h2⟩:=hel i (by omega);obtain⟨_,hlen,hc⟩:=World.cells?_some h1
   match cs,hlen with
   | [x0,x1,x2,x3],_ =>
    obtain⟨z,rfl,rfl,rfl,rfl⟩:=trod_fix h2;exact⟨z,hc 0 (by decide),hc 1 (by decide),hc 2 (by decide),hc 3 (by decide)⟩
  obtain⟨L,hL⟩:=choose_lt (α:=Fx.Fix) hline;have hlen:((List.range l0).map L).length=l0:=by rw[List.length_map,List.length_range]
  refine⟨some a,_,(List.range l0).map L,by rw[hlen],by rw[hlen];exact hl,fun j x hx2=>?_,.inr ⟨_,_,(Prod.mk.inj hx).1,by rw[List.length_map,List.length_map]⟩⟩;have hj:j<l0:=by
   have:=(List.getElem?_eq_some_iff.1 hx2).1;rw[hlen]at this;exact this
  have hx3:x=L j:=by
   rw[List.getElem?_map,List.getElem?_range hj]at hx2;exact(Option.some.inj hx2).symm
  subst hx3;obtain⟨g0,g1,g2,g3⟩:=hL j hj;obtain⟨k0,_⟩:=hL 0 (by omega);have hs:a.spot=none:=by
   have:=World.cell?_spot k0
   simpa [Addr.add] using this
  obtain⟨b,o,s⟩:=a;obtain rfl:s=none:=hs;rw[Addr.add_lit]at g0;rw[Addr.add_lit,Addr.add_lit]at g1 g2 g3;refine⟨b,o,rfl,World.block_lt_of_cell? w ⟨b,o+j*4,none⟩ g0,fun i v hv=>?_⟩
  match i,hv with
  | 0,hv=>obtain rfl:=Option.some.inj hv;exact g0
  | 1,hv=>obtain rfl:=Option.some.inj hv;exact g1
  | 2,hv=>obtain rfl:=Option.some.inj hv;exact g2
  | 3,hv=>obtain rfl:=Option.some.inj hv;exact g3
end
def strip(p d:Nat):Nat×Nat:=if _h:1<p∧0<d∧d % p=0 then ((strip p (d / p)).1+1,(strip p (d / p)).2) else (0,d)
termination_by d
decreasing_by all_goals exact Nat.div_lt_self _h.2.1 _h.1
def plc(d:Nat):Option Nat:=if (strip 5 (strip 2 d).2).2=1 then some (max (strip 2 d).1 (strip 5 (strip 2 d).2).1) else none
def padD(n:Nat)(l:List UInt8):List UInt8:=List.replicate (n-l.length) 48++l
def ptD(k:Nat)(s:List UInt8):List UInt8:=s.take (s.length-k)++46::s.drop (s.length-k)
def sgnD(b:Bool)(l:List UInt8):List UInt8:=if b then 45::l else l
def prD(x:Rat):List UInt8 :=
 match plc x.den with
 | none=>sgnD (decide (x.num<0)) (dig x.num.natAbs++47::dig x.den)
 | some k=>sgnD (decide (x.num<0)) (if k=0 then dig x.num.natAbs else ptD k (padD (k+1) (dig (x.num.natAbs*(10 ^ k / x.den)))))
def sq(b:Bool)(q:Rat):Rat:=if b then -q else q
end Go.Proofs.YthgopcnagecbaaaGreatDoor
namespace Go.Proofs.YthgopcnagecbaaaGreatDoor
open Go.RowKit
end Go.Proofs.YthgopcnagecbaaaGreatDoor
namespace Go.Proofs.YthgopcnagecbaaaGreatDoor
open Go.RowKit
def plR:Option Nat→Int×Bool
 | some k=>((k:Int),true)
 | none=>(0,false)
def plS(p:List UInt8×List UInt8):Int×Bool:=if isR p then plR (plc (valS p.2)) else (0,false)
end Go.Proofs.YthgopcnagecbaaaGreatDoor
namespace Go.Proofs.YthgopcnagecbaaaGreatDoor
open Go.RowKit
def prS(p:List UInt8×List UInt8):List UInt8:=if isR p then prD (valR p) else []
namespace Tm
structure Nd where
 op:Int
 num:Key
 ast:List UInt8
 a:Int
 b:Int
inductive Tr where
 | t0 (x:Nd)
 | t1 (x:Nd) (a:Tr)
 | t2 (x:Nd) (a b:Tr)
 | t3 (x:Nd) (a b c:Tr)
namespace Tr
def fold{α:Type}(f:Nd→List α→α):Tr→α
 | t0 x=>f x []
 | t1 x a=>f x [a.fold f]
 | t2 x a b=>f x [a.fold f,b.fold f]
 | t3 x a b c=>f x [a.fold f,b.fold f,c.fold f]
def top:Tr→Nd
 | t0 x=>x
 | t1 x _=>x
 | t2 x _ _=>x
 | t3 x _ _ _=>x
end Tr
section
variable {α : Type} (f : Nd → List α → α)
end
def decB(q:Key):Bool:=(plS q).2&&(decide ((plS q).1≤20)&&decide (0≤sgnR q))
def kl(x:Nd):Nat:=if x.op=0 then (if decB x.num then 0 else 13) else x.op.toNat
end Tm
end Go.Proofs.YthgopcnagecbaaaGreatDoor
namespace Go.Proofs.YthgopcnagecbaaaGreatDoor
namespace Ac
def cutB:List UInt8→Option (List UInt8×List UInt8)
 | []=>none
 | c::r=>if c=32 then some ([],r) else match cutB r with|none=>none|some (a,b)=>some (c::a,b)
def words:Nat→List UInt8→List (List UInt8)
 | 0,s=>[s]
 | k+1,s=>match cutB s with|none=>[s]|some (a,b)=>a::words k b
def joinW:List (List UInt8)→List UInt8
 | []=>[]
 | [w]=>w
 | w::v::r=>w++32::joinW (v::r)
def noB(w:List UInt8):Prop:=∀c∈w,c≠32
structure Actn where
 nm:List UInt8
 kind:Int
 ast:List UInt8
 oth:List UInt8
 ratio:Key
 cash:Key
 ex:Int
 rc:Int
 pay:Int
 deriving DecidableEq
def oB(k:Int):Bool:=decide (3≤k)
def rB(k:Int):Bool:=!decide (k=2)
def cB(k:Int):Bool:=decide (k=2)||decide (k=4)
def digH(s:List UInt8):Bool:=match s with|[]=>false|c::_=>isDig c
def assetB(s:List UInt8):Bool:=isName s&&(!(s.head?==some 33)&&(!digH s&&!(s == [99,97,115,104])))
def numB(x:Key)(named:Bool)(least:Int):Bool:=if named then isR x&&(decide (least≤sgnR x)&&(decide (x.1.length≤20)&&decide (x.2.length≤20))) else x==([48],[49])
def leastC(k:Int):Int:=if k=4 then 0 else 1
def mayA(a:Actn):Bool :=
 isName a.nm&&(assetB a.ast&&(decide (0≤a.kind)&&(decide (a.kind≤4)&&(decide (0≤a.ex)&&(decide (a.ex≤a.rc)&&(decide (a.rc≤a.pay)&&(decide (a.pay≤9999) &&
  ((if oB a.kind then assetB a.oth&&!(a.oth==a.ast) else a.oth == [])&&(numB a.ratio (rB a.kind) 1&&numB a.cash (cB a.kind) (leastC a.kind))))))))))
def wordK(k:Int):List UInt8:=if k=0 then [115,112,108,105,116] else if k=1 then [115,116,111,99,107] else if k=2 then [99,97,115,104] else if k=3 then [115,112,105,110] else [109,101,114,103,101,114]
def moreA(a:Actn):List (List UInt8):=(if oB a.kind then [a.oth] else [])++((if rB a.kind then [prS a.ratio] else [])++(if cB a.kind then [prS a.cash] else []))
def wordsA(a:Actn):List (List UInt8):=wordK a.kind::a.nm::a.ast::wd a.ex::wd a.rc::wd a.pay::moreA a
def printA(a:Actn):List UInt8:=if mayA a then joinW (wordsA a) else []
theorem kinds_no{k:Int}(h:k<0∨4<k)(a:Actn)(he:a.kind=k):mayA a=false:=by
 unfold mayA;rw[he];rcases h with h|h
 ·rw[decide_eq_false (show ¬0≤k by omega)];simp
 ·rw[decide_eq_false (show ¬k≤4 by omega)];simp
end Ac
end Go.Proofs.YthgopcnagecbaaaGreatDoor
set_option maxRecDepth 100000
namespace Go.Proofs.YthgopcnagecbaaaGreatDoor
open Go.ChangeShapes Go.WideShapes Go.RowKit Go.Joins Go.Deep
section
variable {H : Type} {enc : TypeId × Value → H} {w : World} {base : Nat} {sp : Nat → Bool} {held : Bool}
theorem cellsAct:Tryz.prog.cellsOf 25=11:=by kernel_rfl
theorem array11{cs:Array Value}(h:cs.size=11):∃a b c d e f g i j k l,cs=#[a,b,c,d,e,f,g,i,j,k,l]:=by
 obtain⟨l⟩:=cs
 match l,h with
 | [a,b,c,d,e,f,g,i,j,k,l],_=>exact⟨a,b,c,d,e,f,g,i,j,k,l,rfl⟩
theorem str_part{n:Nat}{c:Value}{y:DataW H×List MemPlace}(h:DataW.trod enc Tryz.prog w base sp held n 9 [c]=some y):∃k:List UInt8,c=.string ⟨k.toArray⟩∧k.length∈y.1.weights Tryz.prog 9:=by
 obtain⟨s,e,hy,_⟩:=DataW.trod_string Tryz.underlying9 h;exact⟨s.data.toList,by rw[(List.cons.inj e).1,str_list],by rw[hy];simp[DataW.weights]⟩
theorem open_act{r:Reach}{b0:Nat}{v:Value}{d:DataW H}{p:List MemPlace}(hv:Value.okWide Tryz.prog w r b0 25 v)(h:DataW.Trod enc Tryz.prog w base sp held 25 v d p)(hw:∀n∈d.weights Tryz.prog 25,n≤reachBytes) :
  ∃a:Ac.Actn,v=.agg #[.string ⟨a.nm.toArray⟩,.int .i64 a.kind,.string ⟨a.ast.toArray⟩,.string ⟨a.oth.toArray⟩,.string ⟨a.ratio.1.toArray⟩,.string ⟨a.ratio.2.toArray⟩,.string ⟨a.cash.1.toArray⟩,.string ⟨a.cash.2.toArray⟩,.int .i64 a.ex,.int .i64 a.rc,.int .i64 a.pay]∧a.nm.length≤140737488355328∧a.ast.length≤140737488355328∧a.oth.length≤140737488355328:=by
 obtain⟨cs,rfl,hsz⟩:=okWide_struct Tryz.underlying25 hv;obtain⟨c0,c1,c2,c3,c4,c5,c6,c7,c8,c9,c10,rfl⟩:=array11 (hsz.trans cellsAct);obtain⟨fuel,h⟩:=h;obtain⟨xs,m,_,hdp,hl,hlen,hf⟩:=DataW.trod_struct Tryz.underlying25 h;obtain⟨rfl,rfl⟩:=Prod.mk.inj hdp
 match xs,hlen with
 | [y0,y1,y2,y3,y4,y5,y6,y7,y8],_ =>
  have h0:DataW.trod enc Tryz.prog w base sp held m 9 (([c0,c1,c2,c3,c4,c5,c6,c7,c8,c9,c10].drop 0).take (Tryz.prog.cellsOf 9))=some y0:=hf 0 _ rfl;have h1:DataW.trod enc Tryz.prog w base sp held m 3 (([c0,c1,c2,c3,c4,c5,c6,c7,c8,c9,c10].drop 1).take (Tryz.prog.cellsOf 3))=some y1:=hf 1 _ rfl;have h2:DataW.trod enc Tryz.prog w base sp held m 9 (([c0,c1,c2,c3,c4,c5,c6,c7,c8,c9,c10].drop 2).take (Tryz.prog.cellsOf 9))=some y2:=hf 2 _ rfl;have h3:DataW.trod enc Tryz.prog w base sp held m 9 (([c0,c1,c2,c3,c4,c5,c6,c7,c8,c9,c10].drop 3).take (Tryz.prog.cellsOf 9))=some y3:=hf 3 _ rfl;have h4:DataW.trod enc Tryz.prog w base sp held m 23 (([c0,c1,c2,c3,c4,c5,c6,c7,c8,c9,c10].drop 4).take (Tryz.prog.cellsOf 23))=some y4:=hf 4 _ rfl;have h5:DataW.trod enc Tryz.prog w base sp held m 23 (([c0,c1,c2,c3,c4,c5,c6,c7,c8,c9,c10].drop 6).take (Tryz.prog.cellsOf 23))=some y5:=hf 5 _ rfl;have h6:DataW.trod enc Tryz.prog w base sp held m 3 (([c0,c1,c2,c3,c4,c5,c6,c7,c8,c9,c10].drop 8).take (Tryz.prog.cellsOf 3))=some y6:=hf 6 _ rfl;have h7:DataW.trod enc Tryz.prog w base sp held m 3 (([c0,c1,c2,c3,c4,c5,c6,c7,c8,c9,c10].drop 9).take (Tryz.prog.cellsOf 3))=some y7:=hf 7 _ rfl;have h8:DataW.trod enc Tryz.prog w base sp held m 3 (([c0,c1,c2,c3,c4,c5,c6,c7,c8,c9,c10].drop 10).take (Tryz.prog.cellsOf 3))=some y8:=hf 8 _ rfl;rw[cellsStr]at h0 h2 h3;rw[cellsInt]at h1 h6 h7 h8;rw[cellsRat]at h4 h5;obtain⟨a0,rfl,w0⟩:=str_part h0;obtain⟨a1,rfl⟩:=one_int h1;obtain⟨a2,rfl,w2⟩:=str_part h2;obtain⟨a3,rfl,w3⟩:=str_part h3
  obtain⟨a4,rfl,rfl⟩:=one_rat h4;obtain⟨a5,rfl,rfl⟩:=one_rat h5;obtain⟨a6,rfl⟩:=one_int h6;obtain⟨a7,rfl⟩:=one_int h7;obtain⟨a8,rfl⟩:=one_int h8;have hin:∀ (j:Nat) (y:DataW H×List MemPlace) (n:Nat),[y0,y1,y2,y3,y4,y5,y6,y7,y8][j]?=some y→[9,3,9,9,23,23,3,3,3][j]?=some 9→n∈y.1.weights Tryz.prog 9→n≤140737488355328:=fun j y n hy ht hn=>by
   have k:=hw n (by
    simp only[DataW.weights,Tryz.underlying25];exact DataW.weights_mem_each (j:=j) (t:=9) (d:=y.1) ht (by rw[List.getElem?_map,hy];rfl) _ hn)
   simp only[reachBytes]at k;omega
  exact⟨⟨a0,a1,a2,a3,a4,a5,a6,a7,a8⟩,rfl,hin 0 y0 _ rfl rfl w0,hin 2 y2 _ rfl rfl w2,hin 3 y3 _ rfl rfl w3⟩
end
end Go.Proofs.YthgopcnagecbaaaGreatDoor
