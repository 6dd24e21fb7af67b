/- Own work. -/
import Derived.Laws.Cover1
import Derived.Test.YthgopcnagecbaaaGreatDoorAllRefQ5M
import Derived.Test.YthgopcnagecbaaaGreatDoorPostNum
import Derived.Test.YthgopcnagecbaaaGreatDoorSchM
set_option linter.unusedSimpArgs false
set_option linter.unusedVariables false
set_option maxHeartbeats 1000000
namespace Go.Proofs.YthgopcnagecbaaaGreatDoor
open Go.RowKit
structure NoB(w:World):Prop where
 ok:True
theorem NoB.below{w w':World}(_:NoB w)(_:Below w.heap.size w w'):NoB w':=⟨trivial⟩
theorem noB(w:World):NoB w:=⟨trivial⟩
theorem lay4{V w:World}(h:Below V.heap.size V w)(a b c d:Value)(t:TypeId):∃U,w.alloc (.cells #[a,b,c,d] t)=U∧Below V.heap.size V U∧w.heap.size+1=U.heap.size ∧
  (∀v,Below U.heap.size U v→v.cell? ⟨w.heap.size,0,none⟩=some a)∧(∀v,Below U.heap.size U v→v.cell? ⟨w.heap.size,1,none⟩=some b) ∧
  (∀v,Below U.heap.size U v→v.cell? ⟨w.heap.size,2,none⟩=some c)∧(∀v,Below U.heap.size U v→v.cell? ⟨w.heap.size,3,none⟩=some d):=by
 have k:∀j x,(#[a,b,c,d]:Array Value)[j]?=some x→∀v,Below (w.alloc (.cells #[a,b,c,d] t)).heap.size (w.alloc (.cells #[a,b,c,d] t)) v→v.cell? ⟨w.heap.size,j,none⟩=some x:=fun j x e v hv =>
  (hv.cell (p:=⟨w.heap.size,j,none⟩) (by simp)).trans ((cell_new w _ _ _ rfl j).trans e)
 exact⟨_,rfl,h.alloc h.size _,by simp,k 0 a rfl,k 1 b rfl,k 2 c rfl,k 3 d rfl⟩
theorem okB_iff{i:Nat}{c:UInt8}:okB i c=true↔((97≤c.toNat∧c.toNat≤122)∨(48≤c.toNat∧c.toNat≤57))∨(c.toNat=33∧i=0):=by
 unfold okB nameC;simp only[Bool.or_eq_true,Bool.and_eq_true,decide_eq_true_eq]
theorem okB_no{i:Nat}{c:UInt8}(h:¬(((97≤c.toNat∧c.toNat≤122)∨(48≤c.toNat∧c.toNat≤57))∨(c.toNat=33∧i=0))):okB i c=false:=by
 cases e:okB i c with
 | false=>rfl
 | true=>exact absurd (okB_iff.1 e) h
theorem nm_more{s:ByteArray}{k:Nat}(hk:k<s.size)(h:nmFrom 0 (s.data.toList.take k)=true)(ho:okB k s[k]=true):nmFrom 0 (s.data.toList.take (k+1))=true:=by
 have hl:k<s.data.toList.length:=by rw[size_toList];exact hk
 rw[nm_step hl,h];exact ho
theorem nm_end{s:ByteArray}{k:Nat}(hk:k<s.size)(ho:okB k s[k]=false):isName s.data.toList=false:=nm_stop (by rw[size_toList];exact hk) ho
theorem rbname_any(s:ByteArray)(w:World)(hs:s.size≤4611686018427387904) :
  Calls Tryz.prog 45 #[.string s] w fun e w'=>e=.returned (.bool (isName s.data.toList))∧w=w':=by
 go_enter Tryz.func45,Tryz.ntmps45
 go_wp2
 go_loop [3] (fun i=>∃k:Nat,k≤s.size∧i=.int .i64 k∧Hid (nmFrom 0 (s.data.toList.take k)=true)) (fun i=>s.size-(intOf i).toNat)
 case atStart=>exact⟨0,Nat.zero_le _,rfl,rfl⟩
 case round =>
  obtain⟨k,hk,rfl,HJ⟩:=hrel;by_cases hlt:k<s.size
  ·by_cases a1:(s[k].toNat:Int)<97
   ·by_cases a2:(s[k].toNat:Int)<48
    ·by_cases a3:(s[k].toNat:Int)=33
     ·by_cases a4:k=0
      ·have f0:¬(0:Int)<(k:Int):=by omega
       have HO:Hid (okB k s[k]=true):=zh (okB_iff.2 (.inr ⟨by omega,a4⟩));clear a4
       go_wp2
       go_round
       case rel=>exact⟨k+1,hlt,by go_num,nm_more hlt HJ.out HO.out⟩
       case measure=>simp[intOf];omega
      ·have f0:(0:Int)<(k:Int):=by omega
       have HO:Hid (isName s.data.toList=false):=zh (nm_end hlt (okB_no (by omega)))
       go_wp2
       go_ret;exact⟨ret_bool (by rw[HO.out]),rfl⟩
     ·have HO:Hid (isName s.data.toList=false):=zh (nm_end hlt (okB_no (by omega)))
      go_wp2
      go_ret;exact⟨ret_bool (by rw[HO.out]),rfl⟩
    ·by_cases a3:57<(s[k].toNat:Int)
     ·have f0:¬(s[k].toNat:Int)=33:=by omega
      have HO:Hid (isName s.data.toList=false):=zh (nm_end hlt (okB_no (by omega)))
      go_wp2
      go_ret;exact⟨ret_bool (by rw[HO.out]),rfl⟩
     ·have HO:Hid (okB k s[k]=true):=zh (okB_iff.2 (.inl (.inr ⟨by omega,by omega⟩)))
      go_wp2
      go_round
      case rel=>exact⟨k+1,hlt,by go_num,nm_more hlt HJ.out HO.out⟩
      case measure=>simp[intOf];omega
   ·by_cases a2:122<(s[k].toNat:Int)
    ·have f0:¬(s[k].toNat:Int)=33:=by omega
     have f1:¬(s[k].toNat:Int)<48:=by omega
     have f2:57<(s[k].toNat:Int):=by omega
     have HO:Hid (isName s.data.toList=false):=zh (nm_end hlt (okB_no (by omega)))
     go_wp2
     go_ret;exact⟨ret_bool (by rw[HO.out]),rfl⟩
    ·have HO:Hid (okB k s[k]=true):=zh (okB_iff.2 (.inl (.inl ⟨by omega,by omega⟩)))
     go_wp2
     go_round
     case rel=>exact⟨k+1,hlt,by go_num,nm_more hlt HJ.out HO.out⟩
     case measure=>simp[intOf];omega
  ·obtain rfl:k=s.size:=by omega
   have hr:=nm_all (l:=s.data.toList) (by rw[size_toList];exact HJ.out);rw[size_toList]at hr;have HR:=zh hr;clear hr;by_cases h1:(1:Int)≤(s.size:Int)
   ·by_cases h2:(s.size:Int)≤20
    ·have HD:Hid ((decide (1≤s.size)&&decide (s.size≤20))=true):=zh (by rw[decide_eq_true (by omega),decide_eq_true (by omega)];rfl)
     go_wp2
     go_ret;exact⟨ret_bool (by rw[HR.out,HD.out]),rfl⟩
    ·have HD:Hid ((decide (1≤s.size)&&decide (s.size≤20))=false):=zh (by rw[decide_eq_false (show ¬s.size≤20 by omega),Bool.and_false])
     go_wp2
     go_ret;exact⟨ret_bool (by first|rw[HR.out,HD.out]|(rw[HR.out,HD.out];exact decide_eq_false h2)),rfl⟩
   ·have HD:Hid ((decide (1≤s.size)&&decide (s.size≤20))=false):=zh (by rw[decide_eq_false (show ¬1≤s.size by omega),Bool.false_and])
    go_wp2
    go_ret;exact⟨ret_bool (by rw[HR.out,HD.out]),rfl⟩
end Go.Proofs.YthgopcnagecbaaaGreatDoor
namespace Go.Proofs.YthgopcnagecbaaaGreatDoor
open Go.RowKit
theorem more{ls:List Ln}{P:Ln→Prop}{k:Nat}{z:Ln}(h:∀ (j:Nat) (x:Ln),j<k→ls[j]?=some x→P x)(hz:ls[k]?=some z)(hp:P z):∀ (j:Nat) (x:Ln),j<k+1→ls[j]?=some x→P x:=fun j x hj hx=>by
 by_cases e:j=k
 ·subst e;rw[hz]at hx;exact Option.some.inj hx▸hp
 ·exact h j x (by omega) hx
end Go.Proofs.YthgopcnagecbaaaGreatDoor
namespace Go.Proofs.YthgopcnagecbaaaGreatDoor
open Go.RowKit
theorem less_more{P:Nat→Bool}{k:Nat}(h:∀j,j<k→P j=true)(hp:P k=true):∀j,j<k+1→P j=true:=fun j hj=>by
 by_cases e:j=k
 ·exact e▸hp
 ·exact h j (by omega)
end Go.Proofs.YthgopcnagecbaaaGreatDoor
