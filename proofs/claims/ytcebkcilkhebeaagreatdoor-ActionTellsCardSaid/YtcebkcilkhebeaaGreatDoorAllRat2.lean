/- Own work. -/
import Derived.Test.YtcebkcilkhebeaaGreatDoorAllRat
namespace Go.Proofs.YtcebkcilkhebeaaGreatDoor
open Go.RowKit
theorem Ltw.own{l:List UInt8}(h:isW l=true)(hk:l.length≤100000):Ltw (valW l) l.length:=⟨by rw[wd_valW h];exact Nat.le_refl _,hk⟩
theorem isW_pos{l:List UInt8}(h:isW l=true):0<l.length:=by cases l with|nil=>cases h|cons=>exact Nat.succ_pos _
theorem mulW_len(l r:List UInt8)(h:l.length+r.length+1≤100000):(mulW l r).length≤l.length+r.length+1:=by
 unfold mulW
 cases h1:isW l&&isW r with
 | false=>exact Nat.zero_le _
 | true =>
  rw[Bool.and_eq_true]at h1;exact(Ltw.mul (Ltw.own h1.1 (by omega)) (Ltw.own h1.2 (by omega)) h (isW_pos h1.1)).len
theorem size_of(l:List UInt8):(⟨l.toArray⟩:ByteArray).size=l.length:=by show l.toArray.size=_;exact List.size_toArray
end Go.Proofs.YtcebkcilkhebeaaGreatDoor
