/- Own work. -/
import Derived.Test.YthgopcnagecbaaaGreatDoorAllRefB3M
import Derived.Test.YthgopcnagecbaaaGreatDoorFxNum
import Derived.Test.YthgopcnagecbaaaGreatDoorOpenAM
import Derived.Laws.AppendOwn
import Derived.Laws.OwnMore
import Derived.Deep.CutRange
set_option linter.unusedSimpArgs false
set_option linter.unusedVariables false
namespace Go.Proofs.YthgopcnagecbaaaGreatDoor
open Go.RowKit
def encFx(x:Fx.Fix):List Value:=[.string ⟨x.1.1.toArray⟩,.int .i64 x.1.2,.string ⟨x.2.1.toArray⟩,.string ⟨x.2.2.toArray⟩]
theorem encFx_one(x:Fx.Fix):∀v∈encFx x,v.oneCell'=true:=fun v hv=>by
 unfold encFx at hv;simp only[List.mem_cons,List.not_mem_nil,or_false]at hv;rcases hv with rfl|rfl|rfl|rfl<;>rfl
theorem fxInfo:(Tryz.prog.info? 47).map (fun i=>(i.zero,i.size,i.bytes))=some (some (.agg #[.string ⟨#[]⟩,.int .i64 0,.string ⟨#[]⟩,.string ⟨#[]⟩]),4,56):=by kernel_rfl
abbrev Fxs(w:World)(p:Option Addr)(l:List Fx.Fix):Prop:=RowsG encFx 4 w p l
abbrev OwnX(B:Nat)(w:World)(v:Value)(l:List Fx.Fix):Prop:=OwnG encFx 4 47 B w v l
theorem fx_rule{w:World}{p:Option Addr}{l:List Fx.Fix}(h:Fxs w p l){k:Nat}{a n e:List UInt8}{d:Int}(hx:l[k]?=some ((a,d),(n,e))):∃b o,p=some ⟨b,o,none⟩∧(∀v,Below w.heap.size w v→v.cell? ⟨b,o+k*4,none⟩=some (.string ⟨a.toArray⟩)) ∧
  (∀v,Below w.heap.size w v→v.cell? ⟨b,o+k*4+1,none⟩=some (.int .i64 d))∧(∀v,Below w.heap.size w v→v.cell? ⟨b,o+k*4+2,none⟩=some (.string ⟨n.toArray⟩))∧(∀v,Below w.heap.size w v→v.cell? ⟨b,o+k*4+3,none⟩=some (.string ⟨e.toArray⟩)):=by
 obtain⟨b,o,hp,hl,c⟩:=h k _ hx;exact⟨b,o,hp,fun v hb=>(hb.cell (p:=⟨b,_,none⟩) hl).trans (c 0 _ rfl),fun v hb=>(hb.cell (p:=⟨b,_,none⟩) hl).trans (c 1 _ rfl),fun v hb=>(hb.cell (p:=⟨b,_,none⟩) hl).trans (c 2 _ rfl),fun v hb=>(hb.cell (p:=⟨b,_,none⟩) hl).trans (c 3 _ rfl)⟩
def SzX(x:Fx.Fix):Prop:=x.1.1.length≤4611686018427387904∧x.2.1.length≤20000∧x.2.2.length≤20000
def optR(r:Option Key):Key:=r.getD ([],[])
def GiveG(w:World)(r:Option Key)(e:Ending)(w':World):Prop:=GiveRB w (optR r,r.isSome) e w'
end Go.Proofs.YthgopcnagecbaaaGreatDoor
set_option maxRecDepth 100000
namespace Go.Proofs.YthgopcnagecbaaaGreatDoor
open Go.ChangeShapes Go.WideShapes Go.RowKit Go.Joins Go.Deep
section
variable {H : Type} {enc : TypeId × Value → H} {w : World} {base : Nat} {sp : Nat → Bool} {held : Bool}
end
def strip(p d:Nat):Nat×Nat:=if _h:1<p∧0<d∧d % p=0 then ((strip p (d / p)).1+1,(strip p (d / p)).2) else (0,d)
termination_by d
decreasing_by all_goals exact Nat.div_lt_self _h.2.1 _h.1
def plc(d:Nat):Option Nat:=if (strip 5 (strip 2 d).2).2=1 then some (max (strip 2 d).1 (strip 5 (strip 2 d).2).1) else none
def padD(n:Nat)(l:List UInt8):List UInt8:=List.replicate (n-l.length) 48++l
def ptD(k:Nat)(s:List UInt8):List UInt8:=s.take (s.length-k)++46::s.drop (s.length-k)
def sgnD(b:Bool)(l:List UInt8):List UInt8:=if b then 45::l else l
def prD(x:Rat):List UInt8 :=
 match plc x.den with
 | none=>sgnD (decide (x.num<0)) (dig x.num.natAbs++47::dig x.den)
 | some k=>sgnD (decide (x.num<0)) (if k=0 then dig x.num.natAbs else ptD k (padD (k+1) (dig (x.num.natAbs*(10 ^ k / x.den)))))
def sq(b:Bool)(q:Rat):Rat:=if b then -q else q
end Go.Proofs.YthgopcnagecbaaaGreatDoor
namespace Go.Proofs.YthgopcnagecbaaaGreatDoor
open Go.RowKit
end Go.Proofs.YthgopcnagecbaaaGreatDoor
namespace Go.Proofs.YthgopcnagecbaaaGreatDoor
open Go.RowKit
def plR:Option Nat→Int×Bool
 | some k=>((k:Int),true)
 | none=>(0,false)
def plS(p:List UInt8×List UInt8):Int×Bool:=if isR p then plR (plc (valS p.2)) else (0,false)
end Go.Proofs.YthgopcnagecbaaaGreatDoor
namespace Go.Proofs.YthgopcnagecbaaaGreatDoor
open Go.RowKit
def prS(p:List UInt8×List UInt8):List UInt8:=if isR p then prD (valR p) else []
namespace Tm
structure Nd where
 op:Int
 num:Key
 ast:List UInt8
 a:Int
 b:Int
inductive Tr where
 | t0 (x:Nd)
 | t1 (x:Nd) (a:Tr)
 | t2 (x:Nd) (a b:Tr)
 | t3 (x:Nd) (a b c:Tr)
namespace Tr
def fold{α:Type}(f:Nd→List α→α):Tr→α
 | t0 x=>f x []
 | t1 x a=>f x [a.fold f]
 | t2 x a b=>f x [a.fold f,b.fold f]
 | t3 x a b c=>f x [a.fold f,b.fold f,c.fold f]
def top:Tr→Nd
 | t0 x=>x
 | t1 x _=>x
 | t2 x _ _=>x
 | t3 x _ _ _=>x
end Tr
section
variable {α : Type} (f : Nd → List α → α)
end
def decB(q:Key):Bool:=(plS q).2&&(decide ((plS q).1≤20)&&decide (0≤sgnR q))
def kl(x:Nd):Nat:=if x.op=0 then (if decB x.num then 0 else 13) else x.op.toNat
end Tm
end Go.Proofs.YthgopcnagecbaaaGreatDoor
namespace Go.Proofs.YthgopcnagecbaaaGreatDoor
namespace Ac
def cutB:List UInt8→Option (List UInt8×List UInt8)
 | []=>none
 | c::r=>if c=32 then some ([],r) else match cutB r with|none=>none|some (a,b)=>some (c::a,b)
def words:Nat→List UInt8→List (List UInt8)
 | 0,s=>[s]
 | k+1,s=>match cutB s with|none=>[s]|some (a,b)=>a::words k b
def joinW:List (List UInt8)→List UInt8
 | []=>[]
 | [w]=>w
 | w::v::r=>w++32::joinW (v::r)
def noB(w:List UInt8):Prop:=∀c∈w,c≠32
structure Actn where
 nm:List UInt8
 kind:Int
 ast:List UInt8
 oth:List UInt8
 ratio:Key
 cash:Key
 ex:Int
 rc:Int
 pay:Int
 deriving DecidableEq
def oB(k:Int):Bool:=decide (3≤k)
def rB(k:Int):Bool:=!decide (k=2)
def cB(k:Int):Bool:=decide (k=2)||decide (k=4)
def digH(s:List UInt8):Bool:=match s with|[]=>false|c::_=>isDig c
def assetB(s:List UInt8):Bool:=isName s&&(!(s.head?==some 33)&&(!digH s&&!(s == [99,97,115,104])))
def numB(x:Key)(named:Bool)(least:Int):Bool:=if named then isR x&&(decide (least≤sgnR x)&&(decide (x.1.length≤20)&&decide (x.2.length≤20))) else x==([48],[49])
def leastC(k:Int):Int:=if k=4 then 0 else 1
def mayA(a:Actn):Bool :=
 isName a.nm&&(assetB a.ast&&(decide (0≤a.kind)&&(decide (a.kind≤4)&&(decide (0≤a.ex)&&(decide (a.ex≤a.rc)&&(decide (a.rc≤a.pay)&&(decide (a.pay≤9999) &&
  ((if oB a.kind then assetB a.oth&&!(a.oth==a.ast) else a.oth == [])&&(numB a.ratio (rB a.kind) 1&&numB a.cash (cB a.kind) (leastC a.kind))))))))))
def wordK(k:Int):List UInt8:=if k=0 then [115,112,108,105,116] else if k=1 then [115,116,111,99,107] else if k=2 then [99,97,115,104] else if k=3 then [115,112,105,110] else [109,101,114,103,101,114]
def moreA(a:Actn):List (List UInt8):=(if oB a.kind then [a.oth] else [])++((if rB a.kind then [prS a.ratio] else [])++(if cB a.kind then [prS a.cash] else []))
def wordsA(a:Actn):List (List UInt8):=wordK a.kind::a.nm::a.ast::wd a.ex::wd a.rc::wd a.pay::moreA a
def printA(a:Actn):List UInt8:=if mayA a then joinW (wordsA a) else []
theorem kinds_no{k:Int}(h:k<0∨4<k)(a:Actn)(he:a.kind=k):mayA a=false:=by
 unfold mayA;rw[he];rcases h with h|h
 ·rw[decide_eq_false (show ¬0≤k by omega)];simp
 ·rw[decide_eq_false (show ¬k≤4 by omega)];simp
end Ac
end Go.Proofs.YthgopcnagecbaaaGreatDoor
set_option maxRecDepth 100000
namespace Go.Proofs.YthgopcnagecbaaaGreatDoor
open Go.ChangeShapes Go.WideShapes Go.RowKit Go.Joins Go.Deep
section
variable {H : Type} {enc : TypeId × Value → H} {w : World} {base : Nat} {sp : Nat → Bool} {held : Bool}
end
end Go.Proofs.YthgopcnagecbaaaGreatDoor
namespace Go.Proofs.YthgopcnagecbaaaGreatDoor
open Go.RowKit
end Go.Proofs.YthgopcnagecbaaaGreatDoor
namespace Go.Proofs.YthgopcnagecbaaaGreatDoor
open Go.RowKit
end Go.Proofs.YthgopcnagecbaaaGreatDoor
namespace Go.Proofs.YthgopcnagecbaaaGreatDoor
open Go.RowKit
end Go.Proofs.YthgopcnagecbaaaGreatDoor
namespace Go.Proofs.YthgopcnagecbaaaGreatDoor
open Go.RowKit
end Go.Proofs.YthgopcnagecbaaaGreatDoor
namespace Go.Proofs.YthgopcnagecbaaaGreatDoor
open Go.RowKit
end Go.Proofs.YthgopcnagecbaaaGreatDoor
namespace Go.Proofs.YthgopcnagecbaaaGreatDoor
open Go.RowKit
end Go.Proofs.YthgopcnagecbaaaGreatDoor
namespace Go.Proofs.YthgopcnagecbaaaGreatDoor
open Go.RowKit
end Go.Proofs.YthgopcnagecbaaaGreatDoor
namespace Go.Proofs.YthgopcnagecbaaaGreatDoor
open Go.RowKit
open Ac (oB rB cB assetB numB wordK mayA Actn leastC)
theorem layN{V w:World}(h:Below V.heap.size V w)(cs:Array Value)(t:TypeId):∃U,w.alloc (.cells cs t)=U∧Below V.heap.size V U∧w.heap.size+1=U.heap.size∧∀ (j:Nat) (u:Value),cs[j]?=some u→∀v,Below U.heap.size U v→v.cell? ⟨w.heap.size,j,none⟩=some u :=
 ⟨_,rfl,h.alloc h.size _,by simp,fun j u e v hv=>(hv.cell (p:=⟨w.heap.size,j,none⟩) (by simp)).trans ((cell_new w _ cs t rfl j).trans e)⟩
theorem asset_eq{s:ByteArray}(h0:0<s.size)(hn:isName s.data.toList=true):assetB s.data.toList=(!decide ((s[0].toNat:Int)=33)&&((decide ((s[0].toNat:Int)<48)||decide ((57:Int)<(s[0].toNat:Int)))&&!decide (s.toList=[99,97,115,104]))):=by
 obtain⟨c,r,hs⟩:∃c r,s.data.toList=c::r:=by
  cases e:s.data.toList with
  | nil=>have:s.data.toList.length=s.size:=rfl;rw[e]at this;simp at this;omega
  | cons c r=>exact⟨c,r,rfl⟩
 have hc:s[0]=c:=by
  have h1:s.data.toList[0]?=some c:=by rw[hs];rfl
  have h2:s.data.toList[0]?=some s[0]:=by
   rw[Array.getElem?_toList];exact Array.getElem?_eq_getElem h0
  exact Option.some.inj (h2.symm.trans h1)
 have hq:decide (s.toList=[99,97,115,104])=(s.data.toList == [99,97,115,104]):=by
  rw[ByteArray.toList_eq,Bool.eq_iff_iff,beq_iff_eq,decide_eq_true_iff]
 unfold assetB;rw[hn,hq,hs,hc];have e1:(some c==some (33:UInt8))=decide ((c.toNat:Int)=33):=by
  rw[Bool.eq_iff_iff];simp;constructor
  ·intro e;rw[e];rfl
  ·intro e;exact UInt8.toNat_inj.1 (by rw[show (33:UInt8).toNat=33 from rfl];omega)
 have e2:isDig c=!(decide ((c.toNat:Int)<48)||decide ((57:Int)<(c.toNat:Int))):=by
  unfold isDig;rw[Bool.eq_iff_iff];simp;omega
 show (true&&(!(some c==some 33)&&(!isDig c&&!(c::r == [99,97,115,104]))))=_;rw[e1,e2,Bool.not_not,Bool.true_and]
end Go.Proofs.YthgopcnagecbaaaGreatDoor
