/- Own work. -/
import Derived.ProofKit
import Derived.OpenShut
import Derived.ShutString
import Derived.Lib.SmallJoins
import Derived.Test.YthgopcnagecbaaaGreatDoorRows
import Derived.Deep.Slices
import Derived.Deep.Strs
import Derived.SizedLaws
import Derived.Carry
set_option maxRecDepth 100000
namespace Go.Proofs.YthgopcnagecbaaaGreatDoor
open Go.ChangeShapes Go.WideShapes Go.RowKit Go.Joins
section
variable {H : Type} {enc : TypeId × Value → H} {w : World} {base : Nat} {sp : Nat → Bool} {held : Bool}
theorem cellsRat:Tryz.prog.cellsOf 23=2:=by kernel_rfl
theorem cellsStr:Tryz.prog.cellsOf 9=1:=by kernel_rfl
theorem str_lit{n:Nat}{c:Value}{y:DataW H×List MemPlace}(h:DataW.trod enc Tryz.prog w base sp held n 9 [c]=some y) :
  ∃s:ByteArray,c=.string s∧y=(.lit (.string s.data.toList),[])∧s.size≤maxLen:=by
 obtain⟨s,h1,h2,h3⟩:=DataW.trod_string Tryz.underlying9 h;exact⟨s,by simpa using h1,h2,h3⟩
theorem lit_str(s:ByteArray)(hs:s.size≤maxLen):DataW.trod enc Tryz.prog w base sp held 1 9 [.string s]=some (.lit (.string s.data.toList),[]):=by
 simp[DataW.trod,Tryz.underlying9,hs]
theorem open_rat{r:Reach}{b0:Nat}{v:Value}{d:DataW H}{p:List MemPlace}(hv:Value.okWide Tryz.prog w r b0 23 v)(h:DataW.Trod enc Tryz.prog w base sp held 23 v d p) :
  ∃n c:ByteArray,v=.agg #[.string n,.string c]∧d=.agg [.lit (.string n.data.toList),.lit (.string c.data.toList)]∧p=[]∧n.size≤maxLen∧c.size≤maxLen:=by
 obtain⟨c0,c1,y0,y1,m,rfl,rfl,rfl,hy0,hy1⟩:=open_agg2 Tryz.underlying23 (by kernel_rfl) cellsRat hv h;obtain⟨s,rfl,rfl,hs⟩:=str_lit hy0;obtain⟨t,rfl,rfl,ht⟩:=str_lit hy1;exact⟨s,t,rfl,rfl,rfl,hs,ht⟩
theorem shut_rat{n c:ByteArray}(hn:n.size≤maxLen)(hc:c.size≤maxLen):DataW.Trod enc Tryz.prog w base sp held 23 (.agg #[.string n,.string c]) (.agg [.lit (.string n.data.toList),.lit (.string c.data.toList)]) [] :=
 shut_agg2 (y0:=(.lit (.string n.data.toList),[])) (y1:=(.lit (.string c.data.toList),[])) Tryz.underlying23 (by kernel_rfl) cellsRat ⟨1,lit_str n hn⟩ ⟨1,lit_str c hc⟩
end
end Go.Proofs.YthgopcnagecbaaaGreatDoor
set_option maxRecDepth 100000
namespace Go.Proofs.YthgopcnagecbaaaGreatDoor
open Go.ChangeShapes Go.WideShapes Go.RowKit Go.Joins Go.Deep
section
variable {H : Type} {enc : TypeId × Value → H} {w : World} {base : Nat} {sp : Nat → Bool} {held : Bool}
theorem laidOutT:laidOutB Tryz.prog=true:=by kernel_rfl
theorem str_list(s:ByteArray):Value.string s=.string ⟨s.data.toList.toArray⟩:=by rw[Array.toArray_toList]
theorem cellsInt:Tryz.prog.cellsOf 3=1:=by kernel_rfl
theorem one_int{n:Nat}{c:Value}{y:DataW H×List MemPlace}(h:DataW.trod enc Tryz.prog w base sp held n 3 [c]=some y):∃k:Int,c=.int .i64 k:=by
 obtain⟨k,e,_,_⟩:=DataW.trod_int Tryz.underlying3 h;exact⟨k,(List.cons.inj e).1⟩
theorem one_str{n:Nat}{c:Value}{y:DataW H×List MemPlace}(h:DataW.trod enc Tryz.prog w base sp held n 9 [c]=some y):∃k:List UInt8,c=.string ⟨k.toArray⟩:=by
 obtain⟨s,e,_,_⟩:=DataW.trod_string Tryz.underlying9 h;exact⟨s.data.toList,by rw[(List.cons.inj e).1,str_list]⟩
theorem one_rat{n:Nat}{c c':Value}{y:DataW H×List MemPlace}(h:DataW.trod enc Tryz.prog w base sp held n 23 [c,c']=some y):∃k:List UInt8×List UInt8,c=.string ⟨k.1.toArray⟩∧c'=.string ⟨k.2.toArray⟩:=by
 obtain⟨u0,u1,k,_,_,g0,g1⟩:=trod_struct2 Tryz.underlying23 h;rw[show Tryz.prog.cellsOf _=1 from cellsStr]at g0 g1;obtain⟨a,rfl⟩:=one_str g0;obtain⟨b,rfl⟩:=one_str g1;exact⟨(a,b),rfl,rfl⟩
end
end Go.Proofs.YthgopcnagecbaaaGreatDoor
