/- Own work. -/
import Derived.ProofKit
import Derived.OpenShut
import Derived.ShutString
import Derived.Lib.SmallJoins
import Derived.Test.YtghioekjghmdaaaGreatDoorRows
set_option maxRecDepth 100000
namespace Go.Proofs.YtghioekjghmdaaaGreatDoor
open Go.ChangeShapes Go.WideShapes Go.RowKit Go.Joins
section
variable {H : Type} {enc : TypeId × Value → H} {w : World} {base : Nat} {sp : Nat → Bool} {held : Bool}
theorem cellsRat:Tryz.prog.cellsOf 28=2:=by kernel_rfl
theorem cellsStr:Tryz.prog.cellsOf 9=1:=by kernel_rfl
theorem str_lit{n:Nat}{c:Value}{y:DataW H×List MemPlace}(h:DataW.trod enc Tryz.prog w base sp held n 9 [c]=some y) :
  ∃s:ByteArray,c=.string s∧y=(.lit (.string s.data.toList),[])∧s.size≤maxLen:=by
 obtain⟨s,h1,h2,h3⟩:=DataW.trod_string Tryz.underlying9 h;exact⟨s,by simpa using h1,h2,h3⟩
theorem lit_str(s:ByteArray)(hs:s.size≤maxLen):DataW.trod enc Tryz.prog w base sp held 1 9 [.string s]=some (.lit (.string s.data.toList),[]):=by
 simp[DataW.trod,Tryz.underlying9,hs]
theorem open_rat{r:Reach}{b0:Nat}{v:Value}{d:DataW H}{p:List MemPlace}(hv:Value.okWide Tryz.prog w r b0 28 v)(h:DataW.Trod enc Tryz.prog w base sp held 28 v d p) :
  ∃n c:ByteArray,v=.agg #[.string n,.string c]∧d=.agg [.lit (.string n.data.toList),.lit (.string c.data.toList)]∧p=[]∧n.size≤maxLen∧c.size≤maxLen:=by
 obtain⟨c0,c1,y0,y1,m,rfl,rfl,rfl,hy0,hy1⟩:=open_agg2 Tryz.underlying28 (by kernel_rfl) cellsRat hv h;obtain⟨s,rfl,rfl,hs⟩:=str_lit hy0;obtain⟨t,rfl,rfl,ht⟩:=str_lit hy1;exact⟨s,t,rfl,rfl,rfl,hs,ht⟩
theorem shut_rat{n c:ByteArray}(hn:n.size≤maxLen)(hc:c.size≤maxLen):DataW.Trod enc Tryz.prog w base sp held 28 (.agg #[.string n,.string c]) (.agg [.lit (.string n.data.toList),.lit (.string c.data.toList)]) [] :=
 shut_agg2 (y0:=(.lit (.string n.data.toList),[])) (y1:=(.lit (.string c.data.toList),[])) Tryz.underlying28 (by kernel_rfl) cellsRat ⟨1,lit_str n hn⟩ ⟨1,lit_str c hc⟩
end
end Go.Proofs.YtghioekjghmdaaaGreatDoor
