/- Own work. -/
import Derived.Test.YtghioekjghmdaaaGreatDoorTk
import Derived.Laws.AppendOwn
import Derived.Laws.OwnMore
import Derived.Deep.CutRange
import Derived.Test.YtghioekjghmdaaaGreatDoorAllRefF
set_option linter.unusedSimpArgs false
set_option linter.unusedVariables false
namespace Go.Proofs.YtghioekjghmdaaaGreatDoor
open Go.RowKit
end Go.Proofs.YtghioekjghmdaaaGreatDoor
namespace Go.Proofs.YtghioekjghmdaaaGreatDoor
open Go.RowKit
end Go.Proofs.YtghioekjghmdaaaGreatDoor
namespace Go.Proofs.YtghioekjghmdaaaGreatDoor
open Go.RowKit
theorem zc_put{b:Nat}{a c x y:Value}{v:World}(h:Zc b a c v):Zc b x y ((v.setCell ⟨b,0,none⟩ x).setCell ⟨b,1,none⟩ y):=by
 have e0:(v.setCell ⟨b,0,none⟩ x).cell? ⟨b,1,none⟩=some c:=by rw[cell?_setCell_ne _ _ _ _ _ (by omega)];exact h.c1
 refine⟨?_,?_,?_,?_,?_⟩
 ·rw[cell?_setCell_ne _ _ _ _ _ (by omega),World.cell?_setCell_same' _ _ _ (by rw[h.c0];rfl)]
 ·rw[World.cell?_setCell_same' _ _ _ (by rw[e0];rfl)]
 ·simpa using h.f0
 ·simpa using h.f1
 ·simpa using h.lt
end Go.Proofs.YtghioekjghmdaaaGreatDoor
namespace Go.Proofs.YtghioekjghmdaaaGreatDoor
open Go.RowKit
theorem zc_far{b c:Nat}{x y s t:Value}{v:World}(hn:b≠c)(h:Zc b x y v):Zc b x y ((v.setCell ⟨c,0,none⟩ s).setCell ⟨c,1,none⟩ t):=by
 have k:∀ (u:World) (i j:Nat) (z:Value),(u.setCell ⟨c,i,none⟩ z).cell? ⟨b,j,none⟩=u.cell? ⟨b,j,none⟩:=fun u i j z=>World.cell?_setCell_far _ _ _ _ (fun e=>hn e.symm);refine⟨?_,?_,?_,?_,?_⟩
 ·rw[k,k];exact h.c0
 ·rw[k,k];exact h.c1
 ·simpa using h.f0
 ·simpa using h.f1
 ·simpa using h.lt
theorem up_alloc{u w:World}(h:Below u.heap.size u w)(o:Obj):Below u.heap.size u (w.alloc o):=Below.alloc h (Below.size h) o
end Go.Proofs.YtghioekjghmdaaaGreatDoor
set_option maxHeartbeats 4000000
set_option maxRecDepth 100000
namespace Go.Proofs.YtghioekjghmdaaaGreatDoor
open Go.RowKit
theorem boxRP(w:World)(x y x' y':Value)(t t':TypeId):∃W,(w.alloc (.cells #[x,y] t)).alloc (.cells #[x',y'] t')=W∧Below w.heap.size w W∧w.heap.size+1+1=W.heap.size ∧
  (∀v,Below (w.heap.size+1) W v→v.cell? ⟨w.heap.size,0,none⟩=some x)∧(∀v,Below (w.heap.size+1) W v→v.cell? ⟨w.heap.size,1,none⟩=some y) ∧
  (∀v,Below (w.heap.size+1) W v→v.frozen? ⟨w.heap.size,0,none⟩=false)∧(∀v,Below (w.heap.size+1) W v→v.frozen? ⟨w.heap.size,1,none⟩=false)∧Zc (w.heap.size+1) x' y' W:=by
 obtain⟨V,hV,B,s,r0,r1,r2,r3⟩:=box0z w x y t;rw[hV,s];have hb:Below V.heap.size V (V.alloc (.cells #[x',y'] t')):=Below.step _ (Below.refl _ _);exact⟨_,rfl,Below.more B hb,by simp,fun v h=>r0 v (hb.trans h),fun v h=>r1 v (hb.trans h),fun v h=>r2 v (hb.trans h),fun v h=>r3 v (hb.trans h),zc_new _ _ _ _⟩
theorem rfsame_any(p q:Option Addr)(c c':Nat)(l m:List Fx.Fix)(w:World)(hl:l.length≤4611686018427387904)(hl':m.length≤4611686018427387904)(h:Fxs w p l)(h':Fxs w q m) :
  Calls Tryz.prog 13 #[.slice p l.length c,.slice q m.length c'] w (GiveB w (l==m)):=by
 have HS:=zh h;have HS':=zh h';clear h h'
 by_cases hne:l.length=m.length
 ·go_enter Tryz.func13,Tryz.ntmps13
  go_wp2
  go_loopw [5] (fun i wr=>∃k:Nat,k≤l.length∧i=.int .i64 k∧Hid (∀ (j:Nat) (x:Fx.Fix),j<k→l[j]?=some x→m[j]?=some x)∧Below w.heap.size w wr) (fun i _=>l.length-(intOf i).toNat)
  case atStart=>exact⟨0,Nat.zero_le _,rfl,fun j x h=>absurd h (Nat.not_lt_zero j),Below.refl _ _⟩
  case round =>
   obtain⟨k,hk,rfl,HJ,hw⟩:=hrel;by_cases hlt:k<l.length
   ·obtain⟨⟨⟨a,d⟩,⟨n,e⟩⟩,hx⟩:∃x,l[k]?=some x:=⟨_,List.getElem?_eq_getElem hlt⟩;obtain⟨⟨⟨a',d'⟩,⟨n',e'⟩⟩,hy⟩:∃x,m[k]?=some x:=⟨_,List.getElem?_eq_getElem (hne▸hlt)⟩;obtain⟨b,o,rfl,k0,k1,k2,k3⟩:=fx_rule (HS.out.below hw) hx;obtain⟨b',o',rfl,j0,j1,j2,j3⟩:=fx_rule (HS'.out.below hw) hy;have HW:=zh hw;have hlt':(k:Int)<(m.length:Int):=by omega
    have b0:=Below.refl wr.heap.size wr;have HX:=zh hx;have HY:=zh hy
    clear hx hy hw;have hB:=zh (Nat.le_refl wr.heap.size);by_cases y0:a=a'
    ·by_cases y1:d=d'
     ·by_cases y2:n=n'
      ·by_cases y3:e=e'
       ·have HO:Hid (m[k]?=some ((a,d),(n,e))):=zh (by subst y0 y1 y2 y3;exact HY.out);have q0:(a==a')=true:=by rw[beq_iff_eq];assumption
        have q1:(d==d')=true:=by rw[beq_iff_eq];assumption
        have q2:(n==n')=true:=by rw[beq_iff_eq];assumption
        have q3:(e==e')=true:=by rw[beq_iff_eq];assumption
        clear y0 y1 y2 y3;go_wp2_with fail;refine tkG (S:=fun w'=>Below wr.heap.size wr w') (b0.drew) (fun hH0=>?_);refine tkY 0 ?_
        try simp only[Act.put,qA,qB,qC,qD,qE,qF]
        refine tkY 1 ?_
        try simp only[Act.put,qA,qB,qC,qD,qE,qF]
        refine tkY 2 ?_
        try simp only[Act.put,qA,qB,qC,qD,qE,qF]
        refine tkY 3 ?_
        try simp only[Act.put,qA,qB,qC,qD,qE,qF]
        refine tkY 4 ?_
        try simp only[Act.put,qA,qB,qC,qD,qE,qF]
        refine tkY 5 ?_
        try simp only[Act.put,qA,qB,qC,qD,qE,qF]
        refine tkY 6 ?_
        try simp only[Act.put,qA,qB,qC,qD,qE,qF]
        refine tkY 7 ?_
        try simp only[Act.put,qA,qB,qC,qD,qE,qF]
        refine tkY 8 ?_
        try simp only[Act.put,qA,qB,qC,qD,qE,qF]
        refine tkD ?_;have b9:=hH0;clear hH0;go_wp2_with fail;go_roundw
        case rel=>exact⟨k+1,hlt,by go_num,moreK (P:=fun j x=>m[j]?=some x) HJ.out HX.out HO.out,Below.more HW.out b9⟩
        case measure=>simp[intOf];omega
       ·have HO:Hid ((l==m)=false):=zh (sameF_stop HX.out HY.out (fun e=>by cases e;exact y3 rfl));have q0:(a==a')=true:=by rw[beq_iff_eq];assumption
        have q1:(d==d')=true:=by rw[beq_iff_eq];assumption
        have q2:(n==n')=true:=by rw[beq_iff_eq];assumption
        have q3:(e==e')=false:=by rw[beq_eq_false_iff_ne];assumption
        clear y0;clear y1;clear y2;clear y3;go_wp2_with fail;refine tkG (S:=fun w'=>Below wr.heap.size wr w') (b0.drew) (fun hH0=>?_);refine tkY 0 ?_
        try simp only[Act.put,qA,qB,qC,qD,qE,qF]
        refine tkY 1 ?_
        try simp only[Act.put,qA,qB,qC,qD,qE,qF]
        refine tkY 2 ?_
        try simp only[Act.put,qA,qB,qC,qD,qE,qF]
        refine tkY 3 ?_
        try simp only[Act.put,qA,qB,qC,qD,qE,qF]
        refine tkY 4 ?_
        try simp only[Act.put,qA,qB,qC,qD,qE,qF]
        refine tkY 5 ?_
        try simp only[Act.put,qA,qB,qC,qD,qE,qF]
        refine tkY 6 ?_
        try simp only[Act.put,qA,qB,qC,qD,qE,qF]
        refine tkY 7 ?_
        try simp only[Act.put,qA,qB,qC,qD,qE,qF]
        refine tkY 8 ?_
        try simp only[Act.put,qA,qB,qC,qD,qE,qF]
        refine tkD ?_;have b9:=hH0;clear hH0;go_wp2_with fail;go_ret;exact⟨ret_bool (by rw[HO.out]),Below.more HW.out b9⟩
      ·have HO:Hid ((l==m)=false):=zh (sameF_stop HX.out HY.out (fun e=>by cases e;exact y2 rfl));have q0:(a==a')=true:=by rw[beq_iff_eq];assumption
       have q1:(d==d')=true:=by rw[beq_iff_eq];assumption
       have q2:(n==n')=false:=by rw[beq_eq_false_iff_ne];assumption
       clear y0;clear y1;clear y2;go_wp2_with fail;refine tkG (S:=fun w'=>Below wr.heap.size wr w') (b0.drew) (fun hH0=>?_);refine tkY 0 ?_
       try simp only[Act.put,qA,qB,qC,qD,qE,qF]
       refine tkY 1 ?_
       try simp only[Act.put,qA,qB,qC,qD,qE,qF]
       refine tkY 2 ?_
       try simp only[Act.put,qA,qB,qC,qD,qE,qF]
       refine tkY 3 ?_
       try simp only[Act.put,qA,qB,qC,qD,qE,qF]
       refine tkY 4 ?_
       try simp only[Act.put,qA,qB,qC,qD,qE,qF]
       refine tkY 5 ?_
       try simp only[Act.put,qA,qB,qC,qD,qE,qF]
       refine tkY 6 ?_
       try simp only[Act.put,qA,qB,qC,qD,qE,qF]
       refine tkY 7 ?_
       try simp only[Act.put,qA,qB,qC,qD,qE,qF]
       refine tkY 8 ?_
       try simp only[Act.put,qA,qB,qC,qD,qE,qF]
       refine tkD ?_;have b9:=hH0;clear hH0;go_wp2_with fail;go_ret;exact⟨ret_bool (by rw[HO.out]),Below.more HW.out b9⟩
     ·have HO:Hid ((l==m)=false):=zh (sameF_stop HX.out HY.out (fun e=>by cases e;exact y1 rfl));have q0:(a==a')=true:=by rw[beq_iff_eq];assumption
      have q1:(d==d')=false:=by rw[beq_eq_false_iff_ne];assumption
      clear y0;clear y1;go_wp2_with fail;refine tkG (S:=fun w'=>Below wr.heap.size wr w') (b0.drew) (fun hH0=>?_);refine tkY 0 ?_
      try simp only[Act.put,qA,qB,qC,qD,qE,qF]
      refine tkY 1 ?_
      try simp only[Act.put,qA,qB,qC,qD,qE,qF]
      refine tkY 2 ?_
      try simp only[Act.put,qA,qB,qC,qD,qE,qF]
      refine tkY 3 ?_
      try simp only[Act.put,qA,qB,qC,qD,qE,qF]
      refine tkY 4 ?_
      try simp only[Act.put,qA,qB,qC,qD,qE,qF]
      refine tkY 5 ?_
      try simp only[Act.put,qA,qB,qC,qD,qE,qF]
      refine tkY 6 ?_
      try simp only[Act.put,qA,qB,qC,qD,qE,qF]
      refine tkY 7 ?_
      try simp only[Act.put,qA,qB,qC,qD,qE,qF]
      refine tkY 8 ?_
      try simp only[Act.put,qA,qB,qC,qD,qE,qF]
      refine tkD ?_;have b9:=hH0;clear hH0;go_wp2_with fail;go_ret;exact⟨ret_bool (by rw[HO.out]),Below.more HW.out b9⟩
    ·have HO:Hid ((l==m)=false):=zh (sameF_stop HX.out HY.out (fun e=>by cases e;exact y0 rfl));have q0:(a==a')=false:=by rw[beq_eq_false_iff_ne];assumption
     clear y0;go_wp2_with fail;refine tkG (S:=fun w'=>Below wr.heap.size wr w') (b0.drew) (fun hH0=>?_);refine tkY 0 ?_
     try simp only[Act.put,qA,qB,qC,qD,qE,qF]
     refine tkY 1 ?_
     try simp only[Act.put,qA,qB,qC,qD,qE,qF]
     refine tkY 2 ?_
     try simp only[Act.put,qA,qB,qC,qD,qE,qF]
     refine tkY 3 ?_
     try simp only[Act.put,qA,qB,qC,qD,qE,qF]
     refine tkY 4 ?_
     try simp only[Act.put,qA,qB,qC,qD,qE,qF]
     refine tkY 5 ?_
     try simp only[Act.put,qA,qB,qC,qD,qE,qF]
     refine tkY 6 ?_
     try simp only[Act.put,qA,qB,qC,qD,qE,qF]
     refine tkY 7 ?_
     try simp only[Act.put,qA,qB,qC,qD,qE,qF]
     refine tkY 8 ?_
     try simp only[Act.put,qA,qB,qC,qD,qE,qF]
     refine tkD ?_;have b9:=hH0;clear hH0;go_wp2_with fail;go_ret;exact⟨ret_bool (by rw[HO.out]),Below.more HW.out b9⟩
   ·obtain rfl:k=l.length:=by omega
    have HR:=zh (sameF_end hne fun j x hj=>HJ.out j x hj);have HW:=zh hw;clear hw
    go_wp2_with fail;go_ret;exact⟨ret_bool (by rw[HR.out]),HW.out⟩
 ·have HR:Hid ((l==m)=false):=zh (beq_false_of_ne fun e=>hne (congrArg List.length e));have hne':((l.length:Int)=(m.length:Int))=False:=eq_false (by omega);go_enter Tryz.func13,Tryz.ntmps13
  go_wp2
  go_ret;exact⟨ret_bool (by rw[HR.out]),Below.refl _ _⟩
end Go.Proofs.YtghioekjghmdaaaGreatDoor
namespace Go.Proofs.YtghioekjghmdaaaGreatDoor
open Go.RowKit
end Go.Proofs.YtghioekjghmdaaaGreatDoor
set_option maxHeartbeats 4000000
set_option maxRecDepth 100000
namespace Go.Proofs.YtghioekjghmdaaaGreatDoor
open Go.RowKit
open Tm (Nd Tr treeOf checkT)
def liN(x:Nd):Bool:=decide (x.num.1.length≤20)&&(decide (x.num.2.length≤20)&&decide (x.ast.length≤100))
def liX(x:Fx.Fix):Bool:=decide (x.2.1.length≤10)&&(decide (x.2.2.length≤10)&&decide (x.1.1.length≤100))
def liT(t:List Nd)(l:List Fx.Fix):Bool:=t.all liN&&(l.all liX&&(decide (t.length≤60)&&decide (l.length≤60)))
theorem liN_iff{x:Nd}:liN x=true↔x.num.1.length≤20∧x.num.2.length≤20∧x.ast.length≤100:=by simp[liN]
theorem liX_iff{x:Fx.Fix}:liX x=true↔x.2.1.length≤10∧x.2.2.length≤10∧x.1.1.length≤100:=by simp[liX]
theorem li_badN{t:List Nd}{k:Nat}{x:Nd}(l:List Fx.Fix)(hx:t[k]?=some x):liN x=true∨liT t l=false:=by
  cases h:liN x with
  | true=>exact .inl rfl
  | false =>
    refine .inr ?_;unfold liT;rw[show t.all liN=false from List.all_eq_false.2 ⟨x,List.mem_of_getElem? hx,by rw[h];exact fun e=>by cases e⟩]
    rfl
theorem li_badX{l:List Fx.Fix}{k:Nat}{x:Fx.Fix}(t:List Nd)(hx:l[k]?=some x):liX x=true∨liT t l=false:=by
  cases h:liX x with
  | true=>exact .inl rfl
  | false =>
    refine .inr ?_;unfold liT;rw[show l.all liX=false from List.all_eq_false.2 ⟨x,List.mem_of_getElem? hx,by rw[h];exact fun e=>by cases e⟩,Bool.false_and,Bool.and_false]
theorem li_end{t:List Nd}{l:List Fx.Fix}(h:∀ (j:Nat) (x:Nd),j<t.length→t[j]?=some x→liN x=true)(k:∀ (j:Nat) (x:Fx.Fix),j<l.length→l[j]?=some x→liX x=true):liT t l=(decide (t.length≤60)&&decide (l.length≤60)):=by
  unfold liT;rw[List.all_eq_true.2 fun x hx=>by
    obtain⟨j,hj,rfl⟩:=List.getElem_of_mem hx;exact h j _ hj (List.getElem?_eq_getElem hj),List.all_eq_true.2 fun x hx=>by
    obtain⟨j,hj,rfl⟩:=List.getElem_of_mem hx;exact k j _ hj (List.getElem?_eq_getElem hj)]
  rfl
def GiveX(w:World)(l:List Fx.Fix)(e:Ending)(w':World):Prop:=(∃p c,e=.returned (.slice p l.length c)∧l.length≤c∧Fxs w' p l)∧Below w.heap.size w w'
structure EvalC(G:World→Prop):Prop where
  below:∀ {w w':World},G w→Below w.heap.size w w'→G w'
  needs:∀ (p:Option Addr) (c:Nat) (t:List Nd) (w:World),t.length≤c→t.length≤2000→(∀x∈t,SzN x)→Nds w p t→G w→Calls Tryz.prog 14 #[.slice p t.length c] w (GiveX w ((Ev.needsK t).map fun k=>(k,([],[]))))
  eval:∀ (D:Nat),D≤19000→∀ (p:Option Addr) (c:Nat) (t:List Nd) (q:Option Addr) (d:Nat) (l:List Fx.Fix) (w:World),t.length≤c→t.length≤2000→(∀x∈t,SzN x)→l.length≤d→l.length≤1000→(∀x∈l,x.2.1.length≤D∧x.2.2.length≤D∧x.1.1.length≤1000)→(∀tr,treeOf t=some tr→Ev.dgT D tr≤19000)→Nds w p t→Fxs w q l→G w →
    Calls Tryz.prog 11 #[.slice p t.length c,.slice q l.length d] w (GiveRE w (Ev.evalE t l))
theorem light_any(p:Option Addr)(c:Nat)(t:List Nd)(q:Option Addr)(d:Nat)(l:List Fx.Fix)(w:World)(ht:t.length≤4611686018427387904)(hl:l.length≤4611686018427387904)(h:Nds w p t)(g:Fxs w q l):Calls Tryz.prog 9 #[.slice p t.length c,.slice q l.length d] w (GiveB w (liT t l)):=by
  have HT:=zh h;have HS:=zh g;clear h g
  go_enter Tryz.func9,Tryz.ntmps9;go_wp2_with fail
  go_loopw [5] (fun i wv=>∃k:Nat,k≤t.length∧i=.int .i64 k∧Hid (∀ (j:Nat) (x:Nd),j<k→t[j]?=some x→liN x=true)∧Below w.heap.size w wv) (fun i _=>t.length-(intOf i).toNat)
  case atStart=>exact⟨0,Nat.zero_le _,rfl,zh fun j x h=>absurd h (Nat.not_lt_zero j),Below.refl _ _⟩
  case round =>
    obtain⟨k,hk,rfl,HJ,hw⟩:=hrel;have HW:=zh (hw);have HV:=zh hw
    clear hw;by_cases hlt:k<t.length
    · have hki:(k:Int)<(t.length:Int):=by omega
      obtain⟨⟨op,⟨n,e⟩,s,a,bb⟩,hx⟩:∃x,t[k]?=some x:=⟨_,List.getElem?_eq_getElem hlt⟩;obtain⟨b,o,rfl,k0,k1,k2,k3,k4,k5⟩:=nds_rule (HT.out.below HW.out) hx;dsimp only at k0 k1 k2 k3 k4 k5;have HX:=zh hx;have HO:=zh (li_badN l hx);clear hx k0 k4 k5;have b0:=Below.refl wr.heap.size wr;by_cases h1:(20:Int)<(n.length:Int)<;>by_cases h2:(20:Int)<(e.length:Int)<;>by_cases h3:(100:Int)<(s.length:Int)<;>(
        go_wp2_with fail
        first
        | (go_ret
           exact⟨ret_bool (by rw[HO.out.resolve_left fun h=>by have:=liN_iff.1 h;dsimp only at this;omega]),HW.out⟩)
        | (go_roundw
           case rel=>exact⟨k+1,hlt,by go_num,zh fun j x hj hx=>by
            by_cases e:j=k
            · subst e;obtain rfl:=Option.some.inj (HX.out.symm.trans hx);exact liN_iff.2 ⟨by dsimp only;omega,by dsimp only;omega,by dsimp only;omega⟩
            · exact HJ.out j x (by omega) hx,HV.out⟩
           case measure=>simp[intOf];omega))
    · obtain rfl:k=t.length:=by omega
      have HA:=HJ;have HU:=HW
      clear HJ HV HW;go_wp2_with fail
      go_loopw [6] (fun i wv=>∃k:Nat,k≤l.length∧i=.int .i64 k∧Hid (∀ (j:Nat) (x:Fx.Fix),j<k→l[j]?=some x→liX x=true)∧Below wr.heap.size wr wv) (fun i _=>l.length-(intOf i).toNat)
      case atStart=>exact⟨0,Nat.zero_le _,rfl,zh fun j x h=>absurd h (Nat.not_lt_zero j),Below.refl _ _⟩
      case round =>
        obtain⟨k,hk,rfl,HJ,hw⟩:=hrel;have HW:=zh (Below.more HU.out hw);have HV:=zh hw
        clear hw;by_cases hlt:k<l.length
        · have hki:(k:Int)<(l.length:Int):=by omega
          obtain⟨⟨⟨s,a⟩,⟨n,e⟩⟩,hx⟩:∃x,l[k]?=some x:=⟨_,List.getElem?_eq_getElem hlt⟩;obtain⟨b,o,rfl,k0,k1,k2,k3⟩:=fx_rule (HS.out.below HW.out) hx;have HX:=zh hx;have HO:=zh (li_badX t hx);clear hx k1;have b0:=Below.refl wr.heap.size wr;by_cases h1:(10:Int)<(n.length:Int)<;>by_cases h2:(10:Int)<(e.length:Int)<;>by_cases h3:(100:Int)<(s.length:Int)<;>(
            go_wp2_with fail
            first
            | (go_ret
               exact⟨ret_bool (by rw[HO.out.resolve_left fun h=>by have:=liX_iff.1 h;dsimp only at this;omega]),HW.out⟩)
            | (go_roundw
               case rel=>exact⟨k+1,hlt,by go_num,zh fun j x hj hx=>by
                by_cases e:j=k
                · subst e;obtain rfl:=Option.some.inj (HX.out.symm.trans hx);exact liX_iff.2 ⟨by dsimp only;omega,by dsimp only;omega,by dsimp only;omega⟩
                · exact HJ.out j x (by omega) hx,HV.out⟩
               case measure=>simp[intOf];omega))
        · obtain rfl:k=l.length:=by omega
          have HR:=zh (li_end HA.out HJ.out);by_cases h1:(t.length:Int)≤60<;>by_cases h2:(l.length:Int)≤60<;>(
            go_wp2_with fail;go_ret;exact⟨ret_bool (by rw[HR.out,Bool.eq_iff_iff];simp;omega),HW.out⟩)
end Go.Proofs.YtghioekjghmdaaaGreatDoor
namespace Go.Proofs.YtghioekjghmdaaaGreatDoor
open Go.RowKit
open Tm (Nd Tr treeOf checkT plainN avN)
variable {G : World → Prop}
theorem li_parts{t:List Nd}{l:List Fx.Fix}(h:liT t l=true):(∀x∈t,liN x=true)∧(∀x∈l,liX x=true)∧t.length≤60∧l.length≤60:=by
 unfold liT at h;simp only[Bool.and_eq_true,decide_eq_true_eq,List.all_eq_true]at h;exact⟨h.1,h.2.1,h.2.2⟩
theorem li_sz{t:List Nd}{l:List Fx.Fix}(h:liT t l=true)(hr:∀x∈t,RgN x):∀x∈t,SzN x:=fun x hx=>by
 have k:=liN_iff.1 ((li_parts h).1 x hx);exact⟨⟨by omega,by omega,k.2.2⟩,hr x hx⟩
theorem li_szX{t:List Nd}{l:List Fx.Fix}(h:liT t l=true):∀x∈l,SzX x:=fun x hx=>by
 have k:=liX_iff.1 ((li_parts h).2.1 x hx);exact⟨by omega,by omega,by omega⟩
theorem li_dg{t:List Nd}{l:List Fx.Fix}(h:liT t l=true):∀tr,treeOf t=some tr→Ev.dgT 10 tr≤19000:=fun tr ht=>by
 obtain⟨_,e⟩:=Tm.tree_inv ht;have k:=Ev.dg_le (D:=10) (t:=tr) fun x hx=>by
  have k:=liN_iff.1 ((li_parts h).1 x (e▸hx));unfold Ev.wN;split<;>omega
 have hl:=(li_parts h).2.2.1;rw[e]at k;omega
theorem eval_li(H:EvalC G){p:Option Addr}{c:Nat}{t:List Nd}{q:Option Addr}{d:Nat}{l:List Fx.Fix}{V:World}(hc:t.length≤c)(hd:l.length≤d)(hli:liT t l=true)(hr:∀x∈t,RgN x){r:Key×Int}(he:Ev.evalE t l=r)(h:Nds V p t)(g:Fxs V q l)(hg:G V) :
  Calls Tryz.prog 11 #[.slice p t.length c,.slice q l.length d] V (GiveRE V r):=by
 have hp:=li_parts hli;subst he;exact H.eval 10 (by decide) p c t q d l V hc (by omega) (li_sz hli hr) hd (by omega) (fun x hx=>by
  have k:=liX_iff.1 (hp.2.1 x hx);exact⟨k.1,k.2.1,by omega⟩) (li_dg hli) h g hg
def someF:List Fx.Fix:=[(([120],1),([49],[49])),(([120],2),([50],[49])),(([120],3),([54],[49]))]
def zeroT:List Nd:=[avN,Nd.mk 0 ([48],[49]) [] 0 0,plainN 9]
def pickT:List Nd:=[avN,Nd.mk 3 ([],[]) [120] 1 2,Nd.mk 0 ([57],[49]) [] 0 0,plainN 12]
theorem rg_c{t:List Nd}(h:t.all szB=true):∀x∈t,RgN x:=fun x hx=>(szN_c h x hx).2
theorem ke1(H:EvalC G){p q:Option Addr}{d:Nat}{V:World}(hd:3≤d)(h:Nds V p [avN])(g:Fxs V q someF)(hg:G V):Calls Tryz.prog 11 #[.slice p 1 1,.slice q 3 d] V (GiveRE V (([51],[49]),0)) :=
 eval_li H (t:=[avN]) (l:=someF) (Nat.le_refl _) hd (by decide) (rg_c (by decide)) (by decide +kernel) h g hg
theorem ke2(H:EvalC G){p q:Option Addr}{d:Nat}{V:World}(hd:2≤d)(h:Nds V p [avN])(g:Fxs V q (someF.drop 1))(hg:G V):Calls Tryz.prog 11 #[.slice p 1 1,.slice q 2 d] V (GiveRE V (([],[]),130)) :=
 eval_li H (t:=[avN]) (l:=someF.drop 1) (Nat.le_refl _) hd (by decide) (rg_c (by decide)) (by decide +kernel) h g hg
theorem ke3(H:EvalC G){p q:Option Addr}{c d:Nat}{V:World}(hc:3≤c)(hd:3≤d)(h:Nds V p zeroT)(g:Fxs V q someF)(hg:G V):Calls Tryz.prog 11 #[.slice p 3 c,.slice q 3 d] V (GiveRE V (([],[]),131)) :=
 eval_li H (t:=zeroT) (l:=someF) hc hd (by decide) (rg_c (by decide)) (by decide +kernel) h g hg
theorem ke4(H:EvalC G){q:Option Addr}{d:Nat}{V:World}(hd:3≤d)(g:Fxs V q someF)(hg:G V):Calls Tryz.prog 11 #[.slice none 0 0,.slice q 3 d] V (GiveRE V (([],[]),100)) :=
 eval_li H (t:=[]) (l:=someF) (Nat.le_refl _) hd (by decide) (rg_c (by decide)) (by decide +kernel) (RowsG.nil _ _) g hg
theorem ke5(H:EvalC G){p q:Option Addr}{c d:Nat}{V:World}(hc:4≤c)(hd:3≤d)(h:Nds V p pickT)(g:Fxs V q someF)(hg:G V):Calls Tryz.prog 11 #[.slice p 4 c,.slice q 3 d] V (GiveRE V (([50],[49]),0)) :=
 eval_li H (t:=pickT) (l:=someF) hc hd (by decide) (rg_c (by decide)) (by decide +kernel) h g hg
theorem ke6(H:EvalC G){p q:Option Addr}{V:World}(h:Nds V p [avN])(g:Fxs V q [(([],0),([],[]))])(hg:G V):Calls Tryz.prog 11 #[.slice p 1 1,.slice q 1 1] V (GiveRE V (([],[]),1)) :=
 eval_li H (t:=[avN]) (l:=[(([],0),([],[]))]) (Nat.le_refl _) (Nat.le_refl _) (by decide) (rg_c (by decide)) (by decide +kernel) h g hg
theorem ke7(H:EvalC G){p:Option Addr}{c:Nat}{V:World}(hc:4≤c)(h:Nds V p pickT)(hg:G V):Calls Tryz.prog 14 #[.slice p 4 c] V (fun e w'=>(∃p c,e=.returned (.slice p 3 c)∧3≤c∧True)∧Below V.heap.size V w') :=
 (H.needs p c pickT V hc (by decide) (szN_c (by decide)) h hg).mono fun e w' k=>by
  obtain⟨⟨p',c',he,hc',_⟩,hb⟩:=k;rw[List.length_map,show (Ev.needsK pickT).length=3 by decide +kernel]at he hc';exact⟨⟨p',c',he,hc',trivial⟩,hb⟩
def nfs(t:List Nd):List Fx.Fix:=(Ev.needsK t).map fun k=>(k,([],[]))
end Go.Proofs.YtghioekjghmdaaaGreatDoor
