/- Own work. -/
import Derived.Test.YtcebkcilkhebeaaGreatDoorPostNum
import Derived.Test.YtcebkcilkhebeaaGreatDoorRowsMM
import Derived.Laws.Cover1
set_option linter.unusedSimpArgs false
set_option linter.unusedVariables false
namespace Go.Proofs.YtcebkcilkhebeaaGreatDoor
namespace Tm
structure Nd where
 op:Int
 num:Key
 ast:List UInt8
 a:Int
 b:Int
def arN(op:Int):Option Nat:=if op<0∨12<op then none else if op≤4 then some 0 else if op=5 then some 1 else if op≤11 then some 2 else some 3
def arI(op:Int):Int:=match arN op with|some k=>(k:Int)|none=>-1
inductive Tr where
 | t0 (x:Nd)
 | t1 (x:Nd) (a:Tr)
 | t2 (x:Nd) (a b:Tr)
 | t3 (x:Nd) (a b c:Tr)
namespace Tr
def fold{α:Type}(f:Nd→List α→α):Tr→α
 | t0 x=>f x []
 | t1 x a=>f x [a.fold f]
 | t2 x a b=>f x [a.fold f,b.fold f]
 | t3 x a b c=>f x [a.fold f,b.fold f,c.fold f]
def top:Tr→Nd
 | t0 x=>x
 | t1 x _=>x
 | t2 x _ _=>x
 | t3 x _ _ _=>x
end Tr
def mkT(x:Nd):List Tr→Tr
 | []=>.t0 x
 | [a]=>.t1 x a
 | [a,b]=>.t2 x a b
 | a::b::c::_=>.t3 x a b c
section
variable {α : Type} (f : Nd → List α → α)
def stepS(x:Nd)(st:List α):Option (List α) :=
 match arN x.op with
 | none=>none
 | some k=>if k≤st.length then some (st.take (st.length-k)++[f x (st.drop (st.length-k))]) else none
def runS:List Nd→List α→Option (List α)
 | [],st=>some st
 | x::r,st=>(stepS f x st).bind (runS r)
end
def treeOf(t:List Nd):Option Tr:=match runS mkT t [] with|some [tr]=>some tr|_=>none
def formB(t:List Nd):Bool:=decide (1≤t.length)&&(decide (t.length≤2000)&&(treeOf t).isSome)
def astB(l:List UInt8):Bool:=isName l&&(!(l.head?==some 33)&&!(match l.head? with|some c=>isDig c|none=>false))
def okN(x:Nd):Bool :=
 if x.op=0 then (x.ast == []&&(x.a==0&&x.b==0))&&(isR x.num&&(decide ((absW x.num.1).length≤60)&&decide (x.num.2.length≤60)))
 else if x.op=1 then (x.num==([],[])&&x.b==0)&&(astB x.ast&&(decide (0≤x.a)&&decide (x.a≤9999)))
 else if 2≤x.op∧x.op≤4 then x.num==([],[])&&(astB x.ast&&(decide (0≤x.a)&&(decide (x.b≤9999)&&(decide (x.a≤x.b)&&decide (x.b-x.a<60)))))
 else (x.num==([],[])&&x.ast == [])&&(x.a==0&&x.b==0)
def decB(q:Key):Bool:=(plS q).2&&(decide ((plS q).1≤20)&&decide (0≤sgnR q))
def dpF(_:Nd)(l:List Nat):Nat:=l.foldr max 0+1
def dp(t:Tr):Nat:=t.fold dpF
def plainN(op:Int):Nd:=Nd.mk op ([],[]) [] 0 0
def joinT(op:Int)(l:List (List Nd)):List Nd:=l.flatten++[plainN op]
theorem ok_more{x:Nd}(h:okN x=true)(ho:x.op<0∨5≤x.op):x=plainN x.op:=by
 unfold okN at h;rw[if_neg (by omega),if_neg (by omega),if_neg (by omega)]at h;simp only[Bool.and_eq_true,beq_iff_eq]at h;obtain⟨⟨h1,h2⟩,h3,h4⟩:=h;obtain⟨op,q,s,a,b⟩:=x;dsimp only at *;subst h1 h2 h3 h4
 rfl
def kd(l:List UInt8):Nat :=
 if l.take 2=[40,45] then 5 else if l.take 1=[40] then 6 else if l.take 4=[109,97,120,40] then 10 else if l.take 4=[109,105,110,40] then 11 else if l.take 3=[105,102,40] then 12
 else if l.take 4=[110,117,109,40] then 13 else if l.take 3=[112,120,40] then 1 else if l.take 4=[97,118,103,40] then 2 else if l.take 3=[104,105,40] then 3 else if l.take 3=[108,111,40] then 4 else 0
def kl(x:Nd):Nat:=if x.op=0 then (if decB x.num then 0 else 13) else x.op.toNat
end Tm
end Go.Proofs.YtcebkcilkhebeaaGreatDoor
namespace Go.Proofs.YtcebkcilkhebeaaGreatDoor
namespace Tm
theorem top_eq{x y:Nd}(hx:okN x=true)(hy:okN y=true)(h:x.op=y.op)(h5:5≤x.op):x=y:=by
 rw[ok_more hx (.inr h5),ok_more hy (.inr (h▸h5)),h]
end Tm
namespace Tm
def ds(st:List Tr):List Int:=st.map fun s=>((dp s:Nat):Int)
end Tm
end Go.Proofs.YtcebkcilkhebeaaGreatDoor
namespace Go.Proofs.YtcebkcilkhebeaaGreatDoor
open Go.RowKit
open Tm (Nd Tr arN arI formB)
end Go.Proofs.YtcebkcilkhebeaaGreatDoor
namespace Go.Proofs.YtcebkcilkhebeaaGreatDoor
open Go.RowKit
open Tm (Nd joinT plainN)
end Go.Proofs.YtcebkcilkhebeaaGreatDoor
namespace Go.Proofs.YtcebkcilkhebeaaGreatDoor
open Go.RowKit
structure Lq(x:Rat)(k:Nat):Prop where
 num:x.num.natAbs<10 ^ k
 den:x.den<10 ^ k
 le:k≤10000
 pos:0<k
theorem Lq.of_text{n d:ByteArray}{k:Nat}(h:isR (n.data.toList,d.data.toList)=true)(hn:n.size≤k)(hd:d.size≤k)(hk:k≤10000):Lq (valR (n.data.toList,d.data.toList)) k:=by
 have h1:=isR_isW h;have h2:=isR_isN h;have hp:0<d.data.toList.length:=isW_pos (l:=d.data.toList) (by
  have e:d.data.toList=dig (valR (n.data.toList,d.data.toList)).den:=(isR_den h).1;rw[e];exact isW_dig _)
 have hd':d.data.toList.length≤k:=hd;have hn':n.data.toList.length≤k:=hn;refine⟨?_,?_,hk,by omega⟩
 ·rw[valR_num h];exact Nat.lt_of_lt_of_le (Ltw.own h1 (by show n.data.toList.length≤_;omega)).abs (Nat.pow_le_pow_right (by decide) hn')
 ·rw[valR_den h];exact Nat.lt_of_lt_of_le (nat_lt h2) (Nat.pow_le_pow_right (by decide) hd')
section
variable {x y : Rat} {j k : Nat}
end
section
variable {x y z : Rat} {j k : Nat}
end
theorem rdN_int(n:Int):rdN (n:Rat)=wd n:=by unfold rdN;rw[Rat.num_intCast]
theorem rdD_int(n:Int):rdD (n:Rat)=[49]:=by unfold rdD;rw[Rat.den_intCast];exact dig_1
theorem qOf(n:Int)(h0:-9223372036854775808≤n)(h1:n≤9223372036854775807)(w:World)(ht:GoodT w) :
  Calls Tryz.prog 45 #[.int .i64 n] w (GiveR w (rdN (n:Rat),rdD (n:Rat))):=by
 rw[rdN_int,rdD_int];exact qof_any n w h0 h1 ht
theorem one_c{a b:Int}{q:List UInt8×List UInt8}(h:(!(b==0)&&isR q&&decide (valR q=Rat.divInt a b))=true):(makeR (wd a) (wd b)).1=q:=by
 simp only[Bool.and_eq_true,decide_eq_true_eq,Bool.not_eq_true',beq_eq_false_iff_ne,ne_eq]at h;rw[makeR_ww h.1.1,← h.2];exact rd_valR h.1.2
end Go.Proofs.YtcebkcilkhebeaaGreatDoor
set_option maxHeartbeats 1000000
set_option maxRecDepth 100000
namespace Go.Proofs.YtcebkcilkhebeaaGreatDoor
open Go.RowKit
theorem rqof_any(n:Int)(w:World)(h0:-9223372036854775808≤n)(h1:n≤9223372036854775807) :
  Calls Tryz.prog 15 #[.int .i64 n] w (GiveR w (wd n,[49])):=by
 have ca:=fun w=>rwof_any n w h0 h1;generalize wd n=s at *;clear h0 h1;have CA:=zh ca;clear ca;go_enter Tryz.func15,Tryz.ntmps15;go_wp2_with fail;obtain⟨W,hW,BW,sW,r0,r1,r2,r3⟩:=box0z w (.string ⟨#[]⟩) (.string ⟨#[]⟩) 23;have hB:=zh (Nat.le_refl W.heap.size);rw[hW];clear hW;have b0:=Below.refl W.heap.size W;refine(CA.out _).mono ?_;rintro e w1 ⟨rfl,b⟩;have b1:=Below.more b0 b;clear b;go_wp2_with fail;refine bodyPost_ret (v:=.agg #[.string ⟨s.toArray⟩,.string ⟨#[49]⟩]) (by simp[results,Tryz.results15,go_sem, *]) rfl ⟨rfl,?_⟩;exact put2 (Below.more BW b1) (Nat.le_refl _) _ _
section
variable {x y z : Rat} {j k : Nat}
end
end Go.Proofs.YtcebkcilkhebeaaGreatDoor
set_option maxHeartbeats 1000000
namespace Go.Proofs.YtcebkcilkhebeaaGreatDoor
open Go.RowKit
structure NoB(w:World):Prop where
 ok:True
theorem noB(w:World):NoB w:=⟨trivial⟩
theorem okB_iff{i:Nat}{c:UInt8}:okB i c=true↔((97≤c.toNat∧c.toNat≤122)∨(48≤c.toNat∧c.toNat≤57))∨(c.toNat=33∧i=0):=by
 unfold okB nameC;simp only[Bool.or_eq_true,Bool.and_eq_true,decide_eq_true_eq]
theorem okB_no{i:Nat}{c:UInt8}(h:¬(((97≤c.toNat∧c.toNat≤122)∨(48≤c.toNat∧c.toNat≤57))∨(c.toNat=33∧i=0))):okB i c=false:=by
 cases e:okB i c with
 | false=>rfl
 | true=>exact absurd (okB_iff.1 e) h
theorem nm_more{s:ByteArray}{k:Nat}(hk:k<s.size)(h:nmFrom 0 (s.data.toList.take k)=true)(ho:okB k s[k]=true):nmFrom 0 (s.data.toList.take (k+1))=true:=by
 have hl:k<s.data.toList.length:=by rw[size_toList];exact hk
 rw[nm_step hl,h];exact ho
theorem nm_end{s:ByteArray}{k:Nat}(hk:k<s.size)(ho:okB k s[k]=false):isName s.data.toList=false:=nm_stop (by rw[size_toList];exact hk) ho
theorem rbname_any(s:ByteArray)(w:World)(hs:s.size≤4611686018427387904) :
  Calls Tryz.prog 33 #[.string s] w fun e w'=>e=.returned (.bool (isName s.data.toList))∧w=w':=by
 go_enter Tryz.func33,Tryz.ntmps33
 go_wp2
 go_loop [3] (fun i=>∃k:Nat,k≤s.size∧i=.int .i64 k∧Hid (nmFrom 0 (s.data.toList.take k)=true)) (fun i=>s.size-(intOf i).toNat)
 case atStart=>exact⟨0,Nat.zero_le _,rfl,rfl⟩
 case round =>
  obtain⟨k,hk,rfl,HJ⟩:=hrel;by_cases hlt:k<s.size
  ·by_cases a1:(s[k].toNat:Int)<97
   ·by_cases a2:(s[k].toNat:Int)<48
    ·by_cases a3:(s[k].toNat:Int)=33
     ·by_cases a4:k=0
      ·have f0:¬(0:Int)<(k:Int):=by omega
       have HO:Hid (okB k s[k]=true):=zh (okB_iff.2 (.inr ⟨by omega,a4⟩));clear a4
       go_wp2
       go_round
       case rel=>exact⟨k+1,hlt,by go_num,nm_more hlt HJ.out HO.out⟩
       case measure=>simp[intOf];omega
      ·have f0:(0:Int)<(k:Int):=by omega
       have HO:Hid (isName s.data.toList=false):=zh (nm_end hlt (okB_no (by omega)))
       go_wp2
       go_ret;exact⟨ret_bool (by rw[HO.out]),rfl⟩
     ·have HO:Hid (isName s.data.toList=false):=zh (nm_end hlt (okB_no (by omega)))
      go_wp2
      go_ret;exact⟨ret_bool (by rw[HO.out]),rfl⟩
    ·by_cases a3:57<(s[k].toNat:Int)
     ·have f0:¬(s[k].toNat:Int)=33:=by omega
      have HO:Hid (isName s.data.toList=false):=zh (nm_end hlt (okB_no (by omega)))
      go_wp2
      go_ret;exact⟨ret_bool (by rw[HO.out]),rfl⟩
     ·have HO:Hid (okB k s[k]=true):=zh (okB_iff.2 (.inl (.inr ⟨by omega,by omega⟩)))
      go_wp2
      go_round
      case rel=>exact⟨k+1,hlt,by go_num,nm_more hlt HJ.out HO.out⟩
      case measure=>simp[intOf];omega
   ·by_cases a2:122<(s[k].toNat:Int)
    ·have f0:¬(s[k].toNat:Int)=33:=by omega
     have f1:¬(s[k].toNat:Int)<48:=by omega
     have f2:57<(s[k].toNat:Int):=by omega
     have HO:Hid (isName s.data.toList=false):=zh (nm_end hlt (okB_no (by omega)))
     go_wp2
     go_ret;exact⟨ret_bool (by rw[HO.out]),rfl⟩
    ·have HO:Hid (okB k s[k]=true):=zh (okB_iff.2 (.inl (.inl ⟨by omega,by omega⟩)))
     go_wp2
     go_round
     case rel=>exact⟨k+1,hlt,by go_num,nm_more hlt HJ.out HO.out⟩
     case measure=>simp[intOf];omega
  ·obtain rfl:k=s.size:=by omega
   have hr:=nm_all (l:=s.data.toList) (by rw[size_toList];exact HJ.out);rw[size_toList]at hr;have HR:=zh hr;clear hr;by_cases h1:(1:Int)≤(s.size:Int)
   ·by_cases h2:(s.size:Int)≤20
    ·have HD:Hid ((decide (1≤s.size)&&decide (s.size≤20))=true):=zh (by rw[decide_eq_true (by omega),decide_eq_true (by omega)];rfl)
     go_wp2
     go_ret;exact⟨ret_bool (by rw[HR.out,HD.out]),rfl⟩
    ·have HD:Hid ((decide (1≤s.size)&&decide (s.size≤20))=false):=zh (by rw[decide_eq_false (show ¬s.size≤20 by omega),Bool.and_false])
     go_wp2
     go_ret;exact⟨ret_bool (by first|rw[HR.out,HD.out]|(rw[HR.out,HD.out];exact decide_eq_false h2)),rfl⟩
   ·have HD:Hid ((decide (1≤s.size)&&decide (s.size≤20))=false):=zh (by rw[decide_eq_false (show ¬1≤s.size by omega),Bool.false_and])
    go_wp2
    go_ret;exact⟨ret_bool (by rw[HR.out,HD.out]),rfl⟩
end Go.Proofs.YtcebkcilkhebeaaGreatDoor
namespace Go.Proofs.YtcebkcilkhebeaaGreatDoor
open Go.RowKit
theorem more{ls:List Ln}{P:Ln→Prop}{k:Nat}{z:Ln}(h:∀ (j:Nat) (x:Ln),j<k→ls[j]?=some x→P x)(hz:ls[k]?=some z)(hp:P z):∀ (j:Nat) (x:Ln),j<k+1→ls[j]?=some x→P x:=fun j x hj hx=>by
 by_cases e:j=k
 ·subst e;rw[hz]at hx;exact Option.some.inj hx▸hp
 ·exact h j x (by omega) hx
end Go.Proofs.YtcebkcilkhebeaaGreatDoor
namespace Go.Proofs.YtcebkcilkhebeaaGreatDoor
open Go.RowKit
open Tm (Nd astB)
end Go.Proofs.YtcebkcilkhebeaaGreatDoor
namespace Go.Proofs.YtcebkcilkhebeaaGreatDoor
open Go.RowKit
open Tm (Nd astB okN)
end Go.Proofs.YtcebkcilkhebeaaGreatDoor
