/- Own work. -/
import Derived.Test.YtcebkcilkhebeaaGreatDoorAllRefQ4M
import Derived.Test.YtcebkcilkhebeaaGreatDoorDecNum
namespace Go.Proofs.YtcebkcilkhebeaaGreatDoor
open Go.RowKit
def fndS(l:List UInt8)(c:UInt8):Int:=if l.idxOf c<l.length then (l.idxOf c:Int) else -1
end Go.Proofs.YtcebkcilkhebeaaGreatDoor
namespace Go.Proofs.YtcebkcilkhebeaaGreatDoor
open Go.RowKit
def plR:Option Nat→Int×Bool
 | some k=>((k:Int),true)
 | none=>(0,false)
def plS(p:List UInt8×List UInt8):Int×Bool:=if isR p then plR (plc (valS p.2)) else (0,false)
theorem two_bound{d t D L:Nat}(h0:0<d)(h:d*2 ^ t≤D)(hD:D<10 ^ L):t<4*L:=by
 have h1:2 ^ t≤d*2 ^ t:=Nat.le_mul_of_pos_left _ h0;have h2:(10:Nat) ^ L≤16 ^ L:=Nat.pow_le_pow_left (by decide) L;have h3:(16:Nat) ^ L=2 ^ (4*L):=by rw[Nat.pow_mul]
 rw[h3]at h2;exact(Nat.pow_lt_pow_iff_right (a:=2) (by decide)).1 (by omega)
theorem half_step{d t D:Nat}(h:d*2 ^ t≤D):d / 2*2 ^ (t+1)≤D:=by
 refine Nat.le_trans ?_ h;rw[Nat.pow_succ,Nat.mul_comm (2 ^ t),← Nat.mul_assoc];exact Nat.mul_le_mul_right _ (by omega)
theorem dig_one:dig 1=[49]:=by rw[dig_small (by decide)];rfl
theorem dig_nil:dig 0=[48]:=by rw[dig_small (by decide)];rfl
theorem dig_ne49{n:Nat}(h:n≠1):dig n≠[49]:=fun e=>h (by
 have:=congrArg valS e;rw[valS_dig]at this;exact this)
end Go.Proofs.YtcebkcilkhebeaaGreatDoor
namespace Go.Proofs.YtcebkcilkhebeaaGreatDoor
open Go.RowKit
def prS(p:List UInt8×List UInt8):List UInt8:=if isR p then prD (valR p) else []
theorem prS_no{p:List UInt8×List UInt8}(h:isR p=false):prS p=[]:=by unfold prS;rw[h];rfl
theorem prS_yes{p:List UInt8×List UInt8}(h:isR p=true):prS p=prD (valR p):=by unfold prS;rw[h];rfl
end Go.Proofs.YtcebkcilkhebeaaGreatDoor
namespace Go.Proofs.YtcebkcilkhebeaaGreatDoor
open Go.RowKit
theorem plc_bound{d k L:Nat}(hd:0<d)(h:plc d=some k)(hL:d<10 ^ L):k<4*L:=by
 obtain⟨a,b,r,e,_,_,hr,hp⟩:=plc_parts d hd;rw[hp]at h;by_cases h1:r=1
 ·rw[if_pos h1]at h;have hk:max a b=k:=Option.some.inj h;have h2:0<2 ^ a:=Nat.pow_pos (by decide);have h5:0<5 ^ b:=Nat.pow_pos (by decide);have h6:(2:Nat) ^ b≤5 ^ b:=Nat.pow_le_pow_left (by decide) b;rw[h1,Nat.mul_one]at e;have ha:2 ^ a≤d:=by rw[e];exact Nat.le_mul_of_pos_right _ h5
  have hb:2 ^ b≤d:=by rw[e];exact Nat.le_trans h6 (Nat.le_mul_of_pos_left _ h2)
  have hm:1*2 ^ k≤d:=by
   rw[Nat.one_mul];rcases Nat.le_total a b with h|h
   ·rw[show k=b by omega];exact hb
   ·rw[show k=a by omega];exact ha
  exact two_bound (by decide) hm hL
 ·rw[if_neg h1]at h;cases h
end Go.Proofs.YtcebkcilkhebeaaGreatDoor
namespace Go.Proofs.YtcebkcilkhebeaaGreatDoor
open Go.RowKit
theorem nat_wd_len(z:Int):(dig z.natAbs).length≤(wd z).length:=by
 unfold wd;split
 ·rw[List.length_cons];omega
 ·exact Nat.le_refl _
theorem prod_len{a q k:Nat}(hk:0<k)(hq:q≤10 ^ k):(dig (a*q)).length≤(dig a).length+k:=by
 have h1:=valS_lt (dig_all a);rw[valS_dig]at h1;refine dig_length (by omega) ?_;rw[Nat.pow_add];exact Nat.mul_lt_mul_of_lt_of_le h1 hq (Nat.pow_pos (by decide))
theorem pt_text{S sg:ByteArray}{b:Bool}{k M:Nat}{l:List UInt8}(hs:S.data.toList=l)(hm:S.size=M+k)(hb:sg.data.toList=sgnD b []) :
  sg++S.extract 0 M++(⟨#[46]⟩:ByteArray)++S.extract M S.size=⟨(sgnD b (ptD k l)).toArray⟩:=by
 refine bytes_eq ?_;rw[ba_append,ba_append,ba_append,Lib.extract_data,Lib.extract_data,hs,hb];have hl:l.length=M+k:=by rw[←hs];exact hm
 have h1:(l.drop M).take (S.size-M)=l.drop M:=List.take_of_length_le (by rw[List.length_drop];omega);rw[h1];show sgnD b []++(l.drop 0).take (M-0)++[46]++l.drop M=sgnD b (l.take (l.length-k)++46::l.drop (l.length-k));rw[show l.length-k=M from by omega,List.drop_zero,Nat.sub_zero,List.append_assoc,List.append_assoc]
 cases b<;>rfl
end Go.Proofs.YtcebkcilkhebeaaGreatDoor
