/- Own work. -/
import Derived.ProofKit
import Derived.OpenShut
import Derived.ShutString
import Derived.Lib.SmallJoins
import Derived.Test.YthgopcnagecbaaaGreatDoorRows
import Derived.Deep.Slices
import Derived.Deep.Strs
import Derived.SizedLaws
import Derived.Carry
set_option maxRecDepth 100000
namespace Go.Proofs.YthgopcnagecbaaaGreatDoor
open Go.ChangeShapes Go.WideShapes Go.RowKit Go.Joins
section
variable {H : Type} {enc : TypeId × Value → H} {w : World} {base : Nat} {sp : Nat → Bool} {held : Bool}
theorem cellsRat:Tryz.prog.cellsOf 23=2:=by kernel_rfl
theorem cellsStr:Tryz.prog.cellsOf 9=1:=by kernel_rfl
end
end Go.Proofs.YthgopcnagecbaaaGreatDoor
set_option maxRecDepth 100000
namespace Go.Proofs.YthgopcnagecbaaaGreatDoor
open Go.ChangeShapes Go.WideShapes Go.RowKit Go.Joins Go.Deep
section
variable {H : Type} {enc : TypeId × Value → H} {w : World} {base : Nat} {sp : Nat → Bool} {held : Bool}
theorem laidOutT:laidOutB Tryz.prog=true:=by kernel_rfl
theorem str_list(s:ByteArray):Value.string s=.string ⟨s.data.toList.toArray⟩:=by rw[Array.toArray_toList]
theorem cellsInt:Tryz.prog.cellsOf 3=1:=by kernel_rfl
theorem one_str{n:Nat}{c:Value}{y:DataW H×List MemPlace}(h:DataW.trod enc Tryz.prog w base sp held n 9 [c]=some y):∃k:List UInt8,c=.string ⟨k.toArray⟩:=by
 obtain⟨s,e,_,_⟩:=DataW.trod_string Tryz.underlying9 h;exact⟨s.data.toList,by rw[(List.cons.inj e).1,str_list]⟩
theorem one_rat{n:Nat}{c c':Value}{y:DataW H×List MemPlace}(h:DataW.trod enc Tryz.prog w base sp held n 23 [c,c']=some y):∃k:List UInt8×List UInt8,c=.string ⟨k.1.toArray⟩∧c'=.string ⟨k.2.toArray⟩:=by
 obtain⟨u0,u1,k,_,_,g0,g1⟩:=trod_struct2 Tryz.underlying23 h;rw[show Tryz.prog.cellsOf _=1 from cellsStr]at g0 g1;obtain⟨a,rfl⟩:=one_str g0;obtain⟨b,rfl⟩:=one_str g1;exact⟨(a,b),rfl,rfl⟩
theorem weight_all{P:Program}{e:TypeId}{n:Nat}:∀ {ds:List (DataW H)} {d:DataW H},d∈ds→n∈d.weights P e→n∈DataW.weightsAll P e ds
 | [],_,h,_=>by cases h
 | x::r,d,h,hn=>by
  simp only[DataW.weightsAll,List.mem_append];rcases List.mem_cons.1 h with rfl|h
  ·exact .inl hn
  ·exact .inr (weight_all h hn)
end
end Go.Proofs.YthgopcnagecbaaaGreatDoor
