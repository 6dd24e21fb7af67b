/- Own work. -/
import Derived.Test.YthgopcnagecbaaaGreatDoorSchM
set_option linter.unusedSimpArgs false
set_option linter.unusedVariables false
namespace Go.Proofs.YthgopcnagecbaaaGreatDoor
open Go.RowKit
section
variable {T : Type} [DecidableEq T]
theorem rows_stop{l m:List T}{k:Nat}{x y:T}(hx:l[k]?=some x)(hy:m[k]?=some y)(h:x≠y):decide (l=m)=false:=decide_eq_false fun e=>by
 subst e;rw[hx]at hy;exact h (Option.some.inj hy)
theorem rows_end{l m:List T}(hl:l.length=m.length)(h:∀ (j:Nat) (x:T),j<l.length→l[j]?=some x→m[j]?=some x):decide (l=m)=true:=by
 refine decide_eq_true (List.ext_getElem hl fun i h1 h2=>?_);have:=h i l[i] h1 (List.getElem?_eq_getElem h1);rw[List.getElem?_eq_getElem h2]at this;exact(Option.some.inj this).symm
end
theorem rows_more{T:Type}{l:List T}{P:Nat→T→Prop}{k:Nat}{z:T}(h:∀ (j:Nat) (x:T),j<k→l[j]?=some x→P j x)(hz:l[k]?=some z)(hp:P k z):∀ (j:Nat) (x:T),j<k+1→l[j]?=some x→P j x:=fun j x hj hx=>by
 by_cases e:j=k
 ·subst e;rw[hz]at hx;exact Option.some.inj hx▸hp
 ·exact h j x (by omega) hx
end Go.Proofs.YthgopcnagecbaaaGreatDoor
