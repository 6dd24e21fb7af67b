/- Own work. -/
import Derived.LaidMore
import Derived.MakeChecks
import Derived.Stop.LaidErr
import Derived.Lib.LaidTab
import Derived.WalkSmall
import Derived.Test.YthgopcnagecbaaaGreatDoorAllRef
namespace Go.Proofs.YthgopcnagecbaaaGreatDoor
open Go.RowKit Go.ChangeShapes
def GoodT (w : World) : Prop := Lib.TabIs Tryz.prog w "internal/strconv.uint64pow10" .u64 Lib.pow10Tab
theorem var_lt{P:Program}{W:World}{n:String}{cs:Array Value}{g:Nat}(hg:P.globalNamed n=some g)(h:W.var? P n=some cs):g<W.heap.size:=by
 rcases Nat.lt_or_ge g W.heap.size with h'|h'
 ·exact h'
 ·unfold World.var? at h;simp[hg,Array.getElem?_eq_none h']at h
theorem gTab : Tryz.prog.globalNamed "internal/strconv.uint64pow10" = some 2 := by kernel_rfl
theorem gTabType:(Tryz.prog.globals[2]?).map (·.type)=some 170:=by kernel_rfl
theorem cellsTab:Tryz.prog.cellsOf 170=20:=by kernel_rfl
theorem cellsU64:Tryz.prog.cellsOf 127=1:=by kernel_rfl
theorem GoodT.below{w w':World}(h:GoodT w)(hb:Below w.heap.size w w'):GoodT w':=var?_below hb gTab (var_lt gTab h) h
theorem tab_eq{H:Type}:(Rows.laid_internal_strconv_uint64pow10:DataW H)=Lib.tabData .u64 Lib.pow10Tab:=by kernel_rfl
theorem goodT_of {x0 x1 : String × DataW Unit} {r : List (String × DataW Unit)} {W : World} (h : laidMet Tryz.prog (x0 :: x1 :: ("internal/strconv.uint64pow10", Rows.laid_internal_strconv_uint64pow10) :: r) W) : GoodT W := by
 rw[tab_eq]at h;exact Lib.tabIs_of_head gTab gTabType Tryz.underlying170 Tryz.underlying127 cellsU64 cellsTab h.tail.tail
end Go.Proofs.YthgopcnagecbaaaGreatDoor
namespace Go.Proofs.YthgopcnagecbaaaGreatDoor
open Go.RowKit
theorem divS_none{a b:List UInt8}(h:(isNat a&&isNat b&&decide (0<valS b))=false):divS a b=([],[],false):=by
 unfold divS;rw[h];rfl
def GiveB(w:World)(b:Bool)(e:Ending)(w':World):Prop:=e=.returned (.bool b)∧Below w.heap.size w w'
theorem Below.more{u v w:World}(h:Below u.heap.size u v)(k:Below v.heap.size v w):Below u.heap.size u w:=h.trans (k.mono h.size)
end Go.Proofs.YthgopcnagecbaaaGreatDoor
namespace Go.Proofs.YthgopcnagecbaaaGreatDoor
open Go.RowKit
structure Lt(a k:Nat):Prop where
 lt:a<10 ^ k
 pos:0<k
 le:k≤900000
theorem Lt.len{a k:Nat}(h:Lt a k):(dig a).length≤900000:=Nat.le_trans (dig_length h.pos h.lt) h.le
theorem Lt.size{a k:Nat}(h:Lt a k):(⟨(dig a).toArray⟩:ByteArray).size≤900000:=by rw[size_dig];exact h.len
theorem Lt.add{a b j k:Nat}(ha:Lt a j)(hb:Lt b k)(h:j+k+1≤900000):Lt (a+b) (j+k+1):=⟨add_lt ha.lt hb.lt,Nat.succ_pos _,h⟩
theorem Lt.mul{a b j k:Nat}(ha:Lt a j)(hb:Lt b k)(h:j+k≤900000):Lt (a*b) (j+k):=⟨mul_lt ha.lt hb.lt,Nat.add_pos_left ha.pos _,h⟩
theorem Lt.mono{a b k:Nat}(ha:Lt a k)(h:b≤a):Lt b k:=⟨Nat.lt_of_le_of_lt h ha.lt,ha.pos,ha.le⟩
section
variable {a b j k : Nat}
theorem nAdd{x:Nat}(ha:Lt a j)(hb:Lt b k)(h:a+b=x)(w:World) :
  Calls Tryz.prog 117 #[.string ⟨(dig a).toArray⟩,.string ⟨(dig b).toArray⟩] w (GiveS w (dig x)):=by
 have c:=add_any ⟨(dig a).toArray⟩ ⟨(dig b).toArray⟩ w (Nat.le_trans ha.size (by decide)) (Nat.le_trans hb.size (by decide));have e:addS (⟨(dig a).toArray⟩:ByteArray).data.toList (⟨(dig b).toArray⟩:ByteArray).data.toList=dig x:=by
  show addS (dig a) (dig b)=_;unfold addS;rw[isNat_dig,isNat_dig,valS_dig,valS_dig,h];rfl
 rw[e]at c;exact c
theorem nGcd{x:Nat}(ha:Lt a j)(hb:Lt b k)(h:Nat.gcd a b=x)(w:World) :
  Calls Tryz.prog 81 #[.string ⟨(dig a).toArray⟩,.string ⟨(dig b).toArray⟩] w (GiveS w (dig x)):=by
 have c:=gcd_any ⟨(dig a).toArray⟩ ⟨(dig b).toArray⟩ w (Nat.le_trans ha.size (by decide)) (Nat.le_trans hb.size (by decide));have e:gcdS (⟨(dig a).toArray⟩:ByteArray).data.toList (⟨(dig b).toArray⟩:ByteArray).data.toList=dig x:=by
  show gcdS (dig a) (dig b)=_;unfold gcdS;rw[isNat_dig,isNat_dig,valS_dig,valS_dig,h];rfl
 rw[e]at c;exact c
theorem nSub{x:Nat}(ha:Lt a j)(hb:Lt b k)(hle:b≤a)(h:a-b=x)(w:World) :
  Calls Tryz.prog 118 #[.string ⟨(dig a).toArray⟩,.string ⟨(dig b).toArray⟩] w (GiveSB w (dig x,true)):=by
 have c:=sub_any ⟨(dig a).toArray⟩ ⟨(dig b).toArray⟩ w (Nat.le_trans ha.size (by decide)) (Nat.le_trans hb.size (by decide));have e:subS (⟨(dig a).toArray⟩:ByteArray).data.toList (⟨(dig b).toArray⟩:ByteArray).data.toList=(dig x,true):=by
  show subS (dig a) (dig b)=_;unfold subS;rw[isNat_dig,isNat_dig,valS_dig,valS_dig,decide_eq_true hle,h];rfl
 rw[e]at c;exact c
theorem nDiv{q r:Nat}(ha:Lt a j)(hb:Lt b k)(h0:0<b)(hq:a / b=q)(hr:a % b=r)(w:World) :
  Calls Tryz.prog 102 #[.string ⟨(dig a).toArray⟩,.string ⟨(dig b).toArray⟩] w (GiveSSB w (dig q,dig r,true)):=by
 have c:=div_any ⟨(dig a).toArray⟩ ⟨(dig b).toArray⟩ w (Nat.le_trans ha.size (by decide)) (Nat.le_trans hb.size (by decide));have e:divS (⟨(dig a).toArray⟩:ByteArray).data.toList (⟨(dig b).toArray⟩:ByteArray).data.toList=(dig q,dig r,true):=by
  show divS (dig a) (dig b)=_;unfold divS;rw[isNat_dig,isNat_dig,valS_dig,valS_dig,decide_eq_true h0,hq,hr];rfl
 rw[e]at c;exact c
theorem nCmp{c:Int}(ha:Lt a j)(hb:Lt b k)(h:cmpN a b=c)(w:World) :
  Calls Tryz.prog 132 #[.string ⟨(dig a).toArray⟩,.string ⟨(dig b).toArray⟩] w fun e w'=>e=.returned (.int .i64 c)∧w=w':=by
 have c:=cmp_any ⟨(dig a).toArray⟩ ⟨(dig b).toArray⟩ w (Nat.le_trans ha.size (by decide)) (Nat.le_trans hb.size (by decide));have e:cmpS (⟨(dig a).toArray⟩:ByteArray).data.toList (⟨(dig b).toArray⟩:ByteArray).data.toList=cmpN a b:=by
  show cmpS (dig a) (dig b)=_;rw[cmpS_nat (isNat_dig a) (isNat_dig b),valS_dig,valS_dig]
 rw[e,h]at c;exact c
end
theorem dig_inj{m n:Nat}(h:dig m=dig n):m=n:=by rw[←valS_dig m,h,valS_dig]
theorem dig_0:dig 0=[48]:=by rw[dig_small (by decide)];rfl
theorem dig_1:dig 1=[49]:=by rw[dig_small (by decide)];rfl
theorem dig_e(n:Nat):(dig n).isEmpty=false:=by rw[List.isEmpty_eq_false_iff];exact dig_ne n
theorem dig_eB(n:Nat):(dig n == [])=false:=beq_false_of_ne (dig_ne n)
def two(s t:ByteArray)(j:Nat):ByteArray:=if j=0 then s else t
end Go.Proofs.YthgopcnagecbaaaGreatDoor
