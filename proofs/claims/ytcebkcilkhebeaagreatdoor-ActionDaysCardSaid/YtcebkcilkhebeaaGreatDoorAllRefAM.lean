/- Own work. -/
import Derived.Laws.AppendOwn
import Derived.Laws.OwnMore
import Derived.Deep.CutRange
import Derived.Test.YtcebkcilkhebeaaGreatDoorActNum
set_option linter.unusedSimpArgs false
set_option linter.unusedVariables false
namespace Go.Proofs.YtcebkcilkhebeaaGreatDoor
open Go.RowKit
namespace Fx
end Fx
end Go.Proofs.YtcebkcilkhebeaaGreatDoor
namespace Go.Proofs.YtcebkcilkhebeaaGreatDoor
open Go.RowKit
end Go.Proofs.YtcebkcilkhebeaaGreatDoor
namespace Go.Proofs.YtcebkcilkhebeaaGreatDoor
open Go.RowKit
end Go.Proofs.YtcebkcilkhebeaaGreatDoor
namespace Go.Proofs.YtcebkcilkhebeaaGreatDoor
open Go.RowKit
end Go.Proofs.YtcebkcilkhebeaaGreatDoor
namespace Go.Proofs.YtcebkcilkhebeaaGreatDoor
open Go.RowKit
end Go.Proofs.YtcebkcilkhebeaaGreatDoor
namespace Go.Proofs.YtcebkcilkhebeaaGreatDoor
open Go.RowKit
end Go.Proofs.YtcebkcilkhebeaaGreatDoor
namespace Go.Proofs.YtcebkcilkhebeaaGreatDoor
open Go.RowKit
end Go.Proofs.YtcebkcilkhebeaaGreatDoor
namespace Go.Proofs.YtcebkcilkhebeaaGreatDoor
open Go.RowKit
end Go.Proofs.YtcebkcilkhebeaaGreatDoor
namespace Go.Proofs.YtcebkcilkhebeaaGreatDoor
open Go.RowKit
end Go.Proofs.YtcebkcilkhebeaaGreatDoor
namespace Go.Proofs.YtcebkcilkhebeaaGreatDoor
open Go.RowKit
open Ac (oB rB cB assetB numB wordK mayA Actn leastC)
theorem layN{V w:World}(h:Below V.heap.size V w)(cs:Array Value)(t:TypeId):∃U,w.alloc (.cells cs t)=U∧Below V.heap.size V U∧w.heap.size+1=U.heap.size∧∀ (j:Nat) (u:Value),cs[j]?=some u→∀v,Below U.heap.size U v→v.cell? ⟨w.heap.size,j,none⟩=some u :=
 ⟨_,rfl,h.alloc h.size _,by simp,fun j u e v hv=>(hv.cell (p:=⟨w.heap.size,j,none⟩) (by simp)).trans ((cell_new w _ cs t rfl j).trans e)⟩
theorem asset_eq{s:ByteArray}(h0:0<s.size)(hn:isName s.data.toList=true):assetB s.data.toList=(!decide ((s[0].toNat:Int)=33)&&((decide ((s[0].toNat:Int)<48)||decide ((57:Int)<(s[0].toNat:Int)))&&!decide (s.toList=[99,97,115,104]))):=by
 obtain⟨c,r,hs⟩:∃c r,s.data.toList=c::r:=by
  cases e:s.data.toList with
  | nil=>have:s.data.toList.length=s.size:=rfl;rw[e]at this;simp at this;omega
  | cons c r=>exact⟨c,r,rfl⟩
 have hc:s[0]=c:=by
  have h1:s.data.toList[0]?=some c:=by rw[hs];rfl
  have h2:s.data.toList[0]?=some s[0]:=by
   rw[Array.getElem?_toList];exact Array.getElem?_eq_getElem h0
  exact Option.some.inj (h2.symm.trans h1)
 have hq:decide (s.toList=[99,97,115,104])=(s.data.toList == [99,97,115,104]):=by
  rw[ByteArray.toList_eq,Bool.eq_iff_iff,beq_iff_eq,decide_eq_true_iff]
 unfold assetB;rw[hn,hq,hs,hc];have e1:(some c==some (33:UInt8))=decide ((c.toNat:Int)=33):=by
  rw[Bool.eq_iff_iff];simp;constructor
  ·intro e;rw[e];rfl
  ·intro e;exact UInt8.toNat_inj.1 (by rw[show (33:UInt8).toNat=33 from rfl];omega)
 have e2:isDig c=!(decide ((c.toNat:Int)<48)||decide ((57:Int)<(c.toNat:Int))):=by
  unfold isDig;rw[Bool.eq_iff_iff];simp;omega
 show (true&&(!(some c==some 33)&&(!isDig c&&!(c::r == [99,97,115,104]))))=_;rw[e1,e2,Bool.not_not,Bool.true_and]
end Go.Proofs.YtcebkcilkhebeaaGreatDoor
