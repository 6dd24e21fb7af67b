/- Own work. -/
import Derived.Deep.Slices
import Derived.Deep.Strs
import Derived.SizedLaws
import Derived.Carry
import Derived.Test.YtghioekjghmdaaaGreatDoorOpenQ
set_option maxRecDepth 100000
namespace Go.Proofs.YtghioekjghmdaaaGreatDoor
open Go.ChangeShapes Go.WideShapes Go.RowKit Go.Joins Go.Deep
section
variable {H : Type} {enc : TypeId × Value → H} {w : World} {base : Nat} {sp : Nat → Bool} {held : Bool}
theorem laidOutT:laidOutB Tryz.prog=true:=by kernel_rfl
theorem str_list(s:ByteArray):Value.string s=.string ⟨s.data.toList.toArray⟩:=by rw[Array.toArray_toList]
theorem cellsInt:Tryz.prog.cellsOf 3=1:=by kernel_rfl
theorem one_int{n:Nat}{c:Value}{y:DataW H×List MemPlace}(h:DataW.trod enc Tryz.prog w base sp held n 3 [c]=some y):∃k:Int,c=.int .i64 k:=by
 obtain⟨k,e,_,_⟩:=DataW.trod_int Tryz.underlying3 h;exact⟨k,(List.cons.inj e).1⟩
theorem one_str{n:Nat}{c:Value}{y:DataW H×List MemPlace}(h:DataW.trod enc Tryz.prog w base sp held n 9 [c]=some y):∃k:List UInt8,c=.string ⟨k.toArray⟩:=by
 obtain⟨s,e,_,_⟩:=DataW.trod_string Tryz.underlying9 h;exact⟨s.data.toList,by rw[(List.cons.inj e).1,str_list]⟩
theorem one_rat{n:Nat}{c c':Value}{y:DataW H×List MemPlace}(h:DataW.trod enc Tryz.prog w base sp held n 28 [c,c']=some y):∃k:List UInt8×List UInt8,c=.string ⟨k.1.toArray⟩∧c'=.string ⟨k.2.toArray⟩:=by
 obtain⟨u0,u1,k,_,_,g0,g1⟩:=trod_struct2 Tryz.underlying28 h;rw[show Tryz.prog.cellsOf _=1 from cellsStr]at g0 g1;obtain⟨a,rfl⟩:=one_str g0;obtain⟨b,rfl⟩:=one_str g1;exact⟨(a,b),rfl,rfl⟩
end
end Go.Proofs.YtghioekjghmdaaaGreatDoor
