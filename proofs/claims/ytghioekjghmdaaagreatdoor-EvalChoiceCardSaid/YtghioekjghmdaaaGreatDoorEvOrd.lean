/- Own work. -/
import Derived.Test.YtghioekjghmdaaaGreatDoorEvNumM
set_option linter.unusedVariables false
namespace Go.Proofs.YtghioekjghmdaaaGreatDoor
namespace Ev
open Tm (Nd Tr okN checkT treeOf nodeX)
open Fx (FK Fix GoodF mayF rawF)
theorem sgn_le{a b:Rat}:0≤sgnQ (a-b)↔b≤a:=by
 rcases rat_cases (a-b) with h|h|h
 ·rw[sgnQ_neg h];constructor
  ·intro k;omega
  ·intro k;exfalso;grind
 ·rw[h];constructor
  ·intro _;grind
  ·intro _;decide
 ·rw[sgnQ_pos h];constructor
  ·intro _;grind
  ·intro _;decide
theorem sgn_ge{a b:Rat}:sgnQ (a-b)≤0↔a≤b:=by
 have:=sgnQ_turn b a;have k:=sgn_le (a:=b) (b:=a);rw[←k];omega
theorem le_hi(a b:Rat):a≤hiQ a b∧b≤hiQ a b:=by
 unfold hiQ;split
 ·rename_i h;exact⟨Rat.le_refl,sgn_le.1 h⟩
 ·rename_i h;rw[sgn_le]at h;exact⟨by grind,Rat.le_refl⟩
theorem lo_le(a b:Rat):loQ a b≤a∧loQ a b≤b:=by
 unfold loQ;split
 ·rename_i h;exact⟨Rat.le_refl,sgn_ge.1 h⟩
 ·rename_i h;rw[sgn_ge]at h;exact⟨by grind,Rat.le_refl⟩
theorem hi_self(a:Rat):hiQ a a=a:=by unfold hiQ;split<;>rfl
theorem lo_self(a:Rat):loQ a a=a:=by unfold loQ;split<;>rfl
theorem hi_lo(a b:Rat):hiQ a b+loQ a b=a+b:=by
 unfold hiQ loQ;by_cases h:0≤sgnQ (a-b)<;>by_cases k:sgnQ (a-b)≤0
 ·rw[if_pos h,if_pos k];have:=sgn_le.1 h;have:=sgn_ge.1 k
  grind
 ·rw[if_pos h,if_neg k]
 ·rw[if_neg h,if_pos k,Rat.add_comm]
 ·omega
end Ev
end Go.Proofs.YtghioekjghmdaaaGreatDoor
