/- Own work. -/
import Derived.Test.YtcebkcilkhebeaaGreatDoorAllRefD5M
import Derived.Test.YtcebkcilkhebeaaGreatDoorDecNum2
import Derived.Test.YtcebkcilkhebeaaGreatDoorPostNum
set_option linter.unusedSimpArgs false
set_option linter.unusedVariables false
namespace Go.Proofs.YtcebkcilkhebeaaGreatDoor
namespace Tm
structure Nd where
 op:Int
 num:Key
 ast:List UInt8
 a:Int
 b:Int
def arN(op:Int):Option Nat:=if op<0∨12<op then none else if op≤4 then some 0 else if op=5 then some 1 else if op≤11 then some 2 else some 3
def arI(op:Int):Int:=match arN op with|some k=>(k:Int)|none=>-1
inductive Tr where
 | t0 (x:Nd)
 | t1 (x:Nd) (a:Tr)
 | t2 (x:Nd) (a b:Tr)
 | t3 (x:Nd) (a b c:Tr)
namespace Tr
def top:Tr→Nd
 | t0 x=>x
 | t1 x _=>x
 | t2 x _ _=>x
 | t3 x _ _ _=>x
def fold {α : Type} (f : Nd → List α → α) : Tr → α
  | t0 x => f x []
  | t1 x a => f x [a.fold f]
  | t2 x a b => f x [a.fold f, b.fold f]
  | t3 x a b c => f x [a.fold f, b.fold f, c.fold f]
end Tr
def mkT(x:Nd):List Tr→Tr
 | []=>.t0 x
 | [a]=>.t1 x a
 | [a,b]=>.t2 x a b
 | a::b::c::_=>.t3 x a b c
section
variable {α : Type} (f : Nd → List α → α)
def stepS(x:Nd)(st:List α):Option (List α) :=
 match arN x.op with
 | none=>none
 | some k=>if k≤st.length then some (st.take (st.length-k)++[f x (st.drop (st.length-k))]) else none
def runS:List Nd→List α→Option (List α)
 | [],st=>some st
 | x::r,st=>(stepS f x st).bind (runS r)
end
def treeOf(t:List Nd):Option Tr:=match runS mkT t [] with|some [tr]=>some tr|_=>none
def formB(t:List Nd):Bool:=decide (1≤t.length)&&(decide (t.length≤2000)&&(treeOf t).isSome)
def astB(l:List UInt8):Bool:=isName l&&(!(l.head?==some 33)&&!(match l.head? with|some c=>isDig c|none=>false))
def okN(x:Nd):Bool :=
 if x.op=0 then (x.ast == []&&(x.a==0&&x.b==0))&&(isR x.num&&(decide ((absW x.num.1).length≤60)&&decide (x.num.2.length≤60)))
 else if x.op=1 then (x.num==([],[])&&x.b==0)&&(astB x.ast&&(decide (0≤x.a)&&decide (x.a≤9999)))
 else if 2≤x.op∧x.op≤4 then x.num==([],[])&&(astB x.ast&&(decide (0≤x.a)&&(decide (x.b≤9999)&&(decide (x.a≤x.b)&&decide (x.b-x.a<60)))))
 else (x.num==([],[])&&x.ast == [])&&(x.a==0&&x.b==0)
def decB(q:Key):Bool:=(plS q).2&&(decide ((plS q).1≤20)&&decide (0≤sgnR q))
def dpF(_:Nd)(l:List Nat):Nat:=l.foldr max 0+1
def dp(t:Tr):Nat:=t.fold dpF
def plainN(op:Int):Nd:=Nd.mk op ([],[]) [] 0 0
def joinT(op:Int)(l:List (List Nd)):List Nd:=l.flatten++[plainN op]
theorem dig_pt(n:Nat):∀c∈dig n,isDig c=true:=fun c hc=>List.all_eq_true.1 (dig_all n) c hc
theorem ok_more{x:Nd}(h:okN x=true)(ho:x.op<0∨5≤x.op):x=plainN x.op:=by
 unfold okN at h;rw[if_neg (by omega),if_neg (by omega),if_neg (by omega)]at h;simp only[Bool.and_eq_true,beq_iff_eq]at h;obtain⟨⟨h1,h2⟩,h3,h4⟩:=h;obtain⟨op,q,s,a,b⟩:=x;dsimp only at *;subst h1 h2 h3 h4
 rfl
def kd(l:List UInt8):Nat :=
 if l.take 2=[40,45] then 5 else if l.take 1=[40] then 6 else if l.take 4=[109,97,120,40] then 10 else if l.take 4=[109,105,110,40] then 11 else if l.take 3=[105,102,40] then 12
 else if l.take 4=[110,117,109,40] then 13 else if l.take 3=[112,120,40] then 1 else if l.take 4=[97,118,103,40] then 2 else if l.take 3=[104,105,40] then 3 else if l.take 3=[108,111,40] then 4 else 0
def kl(x:Nd):Nat:=if x.op=0 then (if decB x.num then 0 else 13) else x.op.toNat
end Tm
end Go.Proofs.YtcebkcilkhebeaaGreatDoor
