/- Own work. -/
import Derived.Test.YtmllklfjngapiaaGreatDoorAllRefT2M
import Derived.Laws.Cover1
set_option linter.unusedSimpArgs false
set_option linter.unusedVariables false
namespace Go.Proofs.YtmllklfjngapiaaGreatDoor
open Go.RowKit
open Tm (Nd joinT plainN)
end Go.Proofs.YtmllklfjngapiaaGreatDoor
namespace Go.Proofs.YtmllklfjngapiaaGreatDoor
open Go.RowKit
open Tm (Nd Tr arN arI formB stk fl bgA begT argsT)
theorem RowsG.part{α:Type}{enc:α→List Value}{k:Nat}{w:World}{b o:Nat}{l:List α}(h:RowsG enc k w (some ⟨b,o,none⟩) l)(f n:Nat):RowsG enc k w (some ⟨b,o+f*k,none⟩) ((l.drop f).take n):=fun j x hx=>by
 rw[List.getElem?_take]at hx;split at hx
 ·rw[List.getElem?_drop]at hx;obtain⟨b',o',hp,hl,c⟩:=h (f+j) x hx
  cases hp
  exact⟨b,o+f*k,rfl,hl,fun i v hv=>by rw[show o+f*k+j*k+i=o+(f+j)*k+i by rw[Nat.add_mul];omega];exact c i v hv⟩
 ·cases hx
end Go.Proofs.YtmllklfjngapiaaGreatDoor
set_option maxHeartbeats 4000000
set_option maxRecDepth 100000
namespace Go.Proofs.YtmllklfjngapiaaGreatDoor
open Go.RowKit
open Tm (Nd)
theorem nd_eq{op op' a a' bb bb':Int}{n d s n' d' s':List UInt8}(e:Nd.mk op (n,d) s a bb=Nd.mk op' (n',d') s' a' bb'):op=op'∧n=n'∧d=d'∧s=s'∧a=a'∧bb=bb':=by
 injection e with e0 e1 e2 e3 e4
 injection e1 with e1 e5
 exact⟨e0,e1,e5,e2,e3,e4⟩
instance:DecidableEq Nd:=fun⟨op,⟨n,d⟩,s,a,bb⟩ ⟨op',⟨n',d'⟩,s',a',bb'⟩ =>
 if h:op=op'∧n=n'∧d=d'∧s=s'∧a=a'∧bb=bb' then isTrue (by obtain⟨rfl,rfl,rfl,rfl,rfl,rfl⟩:=h;rfl) else isFalse fun e=>h (nd_eq e)
theorem rtsame_any(p q:Option Addr)(c c':Nat)(l m:List Nd)(w:World)(hl:l.length≤4611686018427387904)(hl':m.length≤4611686018427387904)(h:Nds w p l)(h':Nds w q m) :
  Calls Tryz.prog 9 #[.slice p l.length c,.slice q m.length c'] w (GiveB w (decide (l=m))):=by
 have HS:=zh h;have HS':=zh h';clear h h'
 by_cases hne:l.length=m.length
 ·go_enter Tryz.func9,Tryz.ntmps9
  go_wp2
  go_loopw [5] (fun i wr=>∃k:Nat,k≤l.length∧i=.int .i64 k∧Hid (∀ (j:Nat) (x:Nd),j<k→l[j]?=some x→m[j]?=some x)∧Below w.heap.size w wr) (fun i _=>l.length-(intOf i).toNat)
  case atStart=>exact⟨0,Nat.zero_le _,rfl,fun j x h=>absurd h (Nat.not_lt_zero j),Below.refl _ _⟩
  case round =>
   obtain⟨k,hk,rfl,HJ,hw⟩:=hrel;by_cases hlt:k<l.length
   ·obtain⟨⟨op,⟨n,d⟩,s,a,bb⟩,hx⟩:∃x,l[k]?=some x:=⟨_,List.getElem?_eq_getElem hlt⟩;obtain⟨⟨op',⟨n',d'⟩,s',a',bb'⟩,hy⟩:∃x,m[k]?=some x:=⟨_,List.getElem?_eq_getElem (hne▸hlt)⟩;obtain⟨b,o,rfl,k0,k1,k2,k3,k4,k5⟩:=nds_rule (HS.out.below hw) hx;obtain⟨b',o',rfl,j0,j1,j2,j3,j4,j5⟩:=nds_rule (HS'.out.below hw) hy;have HW:=zh hw;have hlt':(k:Int)<(m.length:Int):=by omega
    have b0:=Below.refl wr.heap.size wr;have HX:=zh hx;have HY:=zh hy
    clear hx hy hw;have hB:=zh (Nat.le_refl wr.heap.size);dsimp only at k0 k1 k2 k3 k4 k5 j0 j1 j2 j3 j4 j5;by_cases e0:op=op'
    ·by_cases e1:n=n'
     ·by_cases e2:d=d'
      ·by_cases e3:s=s'
       ·by_cases e4:a=a'
        ·by_cases e5:bb=bb'
         ·have HO:Hid (m[k]?=some (Nd.mk op (n,d) s a bb)):=zh (by subst e0 e1 e2 e3 e4 e5;exact HY.out);have q0:(op==op')=true:=by rw[beq_iff_eq];assumption
          have q1:(n==n')=true:=by rw[beq_iff_eq];assumption
          have q2:(d==d')=true:=by rw[beq_iff_eq];assumption
          have q3:(s==s')=true:=by rw[beq_iff_eq];assumption
          have q4:(a==a')=true:=by rw[beq_iff_eq];assumption
          have q5:(bb==bb')=true:=by rw[beq_iff_eq];assumption
          clear e0;clear e1;clear e2;clear e3;clear e4;clear e5;go_wp2_with fail;refine wp_region_noPanic ?_;refine wp_region_held_drew (S:=fun w'=>Below wr.heap.size wr w') (by kernel_rfl) (b0.drew) (fun hH0=>?_);refine sch_in [0,1,2,3,4,5,6,7,8] ?_
          iterate 9 (refine sch_yes (v:=?_) rfl (by kernel_rfl) (by rfl) ?_ (by assumption) ?_;rotate_left 1;(· (intro w hSw;(try dsimp only at hSw);go_simp<;>(with_reducible rfl)));try simp only[Act.put,qA,qB,qC,qD,qE,qF])
          refine sch_out ?_;refine wpAnyH_done (by kernel_rfl) ?_ _;refine NoPanic.normal ?_;have b9:=hH0;clear hH0;go_wp2_with fail;go_roundw
          case rel=>exact⟨k+1,hlt,by go_num,rows_more (P:=fun j x=>m[j]?=some x) HJ.out HX.out HO.out,Below.more HW.out b9⟩
          case measure=>simp[intOf];omega
         ·have HO:Hid (decide (l=m)=false):=zh (rows_stop HX.out HY.out (fun e=>e5 ((nd_eq e).2.2.2.2.2)));have q0:(op==op')=true:=by rw[beq_iff_eq];assumption
          have q1:(n==n')=true:=by rw[beq_iff_eq];assumption
          have q2:(d==d')=true:=by rw[beq_iff_eq];assumption
          have q3:(s==s')=true:=by rw[beq_iff_eq];assumption
          have q4:(a==a')=true:=by rw[beq_iff_eq];assumption
          have q5:(bb==bb')=false:=by rw[beq_eq_false_iff_ne];assumption
          clear e0;clear e1;clear e2;clear e3;clear e4;clear e5;go_wp2_with fail;refine wp_region_noPanic ?_;refine wp_region_held_drew (S:=fun w'=>Below wr.heap.size wr w') (by kernel_rfl) (b0.drew) (fun hH0=>?_);refine sch_in [0,1,2,3,4,5,6,7,8] ?_
          iterate 9 (refine sch_yes (v:=?_) rfl (by kernel_rfl) (by rfl) ?_ (by assumption) ?_;rotate_left 1;(· (intro w hSw;(try dsimp only at hSw);go_simp<;>(with_reducible rfl)));try simp only[Act.put,qA,qB,qC,qD,qE,qF])
          refine sch_out ?_;refine wpAnyH_done (by kernel_rfl) ?_ _;refine NoPanic.normal ?_;have b9:=hH0;clear hH0;go_wp2_with fail;go_ret;exact⟨ret_bool (by rw[HO.out]),Below.more HW.out b9⟩
        ·have HO:Hid (decide (l=m)=false):=zh (rows_stop HX.out HY.out (fun e=>e4 ((nd_eq e).2.2.2.2.1)));have q0:(op==op')=true:=by rw[beq_iff_eq];assumption
         have q1:(n==n')=true:=by rw[beq_iff_eq];assumption
         have q2:(d==d')=true:=by rw[beq_iff_eq];assumption
         have q3:(s==s')=true:=by rw[beq_iff_eq];assumption
         have q4:(a==a')=false:=by rw[beq_eq_false_iff_ne];assumption
         clear e0;clear e1;clear e2;clear e3;clear e4;go_wp2_with fail;refine wp_region_noPanic ?_;refine wp_region_held_drew (S:=fun w'=>Below wr.heap.size wr w') (by kernel_rfl) (b0.drew) (fun hH0=>?_);refine sch_in [0,1,2,3,4,5,6,7,8] ?_
         iterate 9 (refine sch_yes (v:=?_) rfl (by kernel_rfl) (by rfl) ?_ (by assumption) ?_;rotate_left 1;(· (intro w hSw;(try dsimp only at hSw);go_simp<;>(with_reducible rfl)));try simp only[Act.put,qA,qB,qC,qD,qE,qF])
         refine sch_out ?_;refine wpAnyH_done (by kernel_rfl) ?_ _;refine NoPanic.normal ?_;have b9:=hH0;clear hH0;go_wp2_with fail;go_ret;exact⟨ret_bool (by rw[HO.out]),Below.more HW.out b9⟩
       ·have HO:Hid (decide (l=m)=false):=zh (rows_stop HX.out HY.out (fun e=>e3 ((nd_eq e).2.2.2.1)));have q0:(op==op')=true:=by rw[beq_iff_eq];assumption
        have q1:(n==n')=true:=by rw[beq_iff_eq];assumption
        have q2:(d==d')=true:=by rw[beq_iff_eq];assumption
        have q3:(s==s')=false:=by rw[beq_eq_false_iff_ne];assumption
        clear e0;clear e1;clear e2;clear e3;go_wp2_with fail;refine wp_region_noPanic ?_;refine wp_region_held_drew (S:=fun w'=>Below wr.heap.size wr w') (by kernel_rfl) (b0.drew) (fun hH0=>?_);refine sch_in [0,1,2,3,4,5,6,7,8] ?_
        iterate 9 (refine sch_yes (v:=?_) rfl (by kernel_rfl) (by rfl) ?_ (by assumption) ?_;rotate_left 1;(· (intro w hSw;(try dsimp only at hSw);go_simp<;>(with_reducible rfl)));try simp only[Act.put,qA,qB,qC,qD,qE,qF])
        refine sch_out ?_;refine wpAnyH_done (by kernel_rfl) ?_ _;refine NoPanic.normal ?_;have b9:=hH0;clear hH0;go_wp2_with fail;go_ret;exact⟨ret_bool (by rw[HO.out]),Below.more HW.out b9⟩
      ·have HO:Hid (decide (l=m)=false):=zh (rows_stop HX.out HY.out (fun e=>e2 ((nd_eq e).2.2.1)));have q0:(op==op')=true:=by rw[beq_iff_eq];assumption
       have q1:(n==n')=true:=by rw[beq_iff_eq];assumption
       have q2:(d==d')=false:=by rw[beq_eq_false_iff_ne];assumption
       clear e0;clear e1;clear e2;go_wp2_with fail;refine wp_region_noPanic ?_;refine wp_region_held_drew (S:=fun w'=>Below wr.heap.size wr w') (by kernel_rfl) (b0.drew) (fun hH0=>?_);refine sch_in [0,1,2,3,4,5,6,7,8] ?_
       iterate 9 (refine sch_yes (v:=?_) rfl (by kernel_rfl) (by rfl) ?_ (by assumption) ?_;rotate_left 1;(· (intro w hSw;(try dsimp only at hSw);go_simp<;>(with_reducible rfl)));try simp only[Act.put,qA,qB,qC,qD,qE,qF])
       refine sch_out ?_;refine wpAnyH_done (by kernel_rfl) ?_ _;refine NoPanic.normal ?_;have b9:=hH0;clear hH0;go_wp2_with fail;go_ret;exact⟨ret_bool (by rw[HO.out]),Below.more HW.out b9⟩
     ·have HO:Hid (decide (l=m)=false):=zh (rows_stop HX.out HY.out (fun e=>e1 ((nd_eq e).2.1)));have q0:(op==op')=true:=by rw[beq_iff_eq];assumption
      have q1:(n==n')=false:=by rw[beq_eq_false_iff_ne];assumption
      clear e0;clear e1;go_wp2_with fail;refine wp_region_noPanic ?_;refine wp_region_held_drew (S:=fun w'=>Below wr.heap.size wr w') (by kernel_rfl) (b0.drew) (fun hH0=>?_);refine sch_in [0,1,2,3,4,5,6,7,8] ?_
      iterate 9 (refine sch_yes (v:=?_) rfl (by kernel_rfl) (by rfl) ?_ (by assumption) ?_;rotate_left 1;(· (intro w hSw;(try dsimp only at hSw);go_simp<;>(with_reducible rfl)));try simp only[Act.put,qA,qB,qC,qD,qE,qF])
      refine sch_out ?_;refine wpAnyH_done (by kernel_rfl) ?_ _;refine NoPanic.normal ?_;have b9:=hH0;clear hH0;go_wp2_with fail;go_ret;exact⟨ret_bool (by rw[HO.out]),Below.more HW.out b9⟩
    ·have HO:Hid (decide (l=m)=false):=zh (rows_stop HX.out HY.out (fun e=>e0 ((nd_eq e).1)));have q0:(op==op')=false:=by rw[beq_eq_false_iff_ne];assumption
     clear e0;go_wp2_with fail;refine wp_region_noPanic ?_;refine wp_region_held_drew (S:=fun w'=>Below wr.heap.size wr w') (by kernel_rfl) (b0.drew) (fun hH0=>?_);refine sch_in [0,1,2,3,4,5,6,7,8] ?_
     iterate 9 (refine sch_yes (v:=?_) rfl (by kernel_rfl) (by rfl) ?_ (by assumption) ?_;rotate_left 1;(· (intro w hSw;(try dsimp only at hSw);go_simp<;>(with_reducible rfl)));try simp only[Act.put,qA,qB,qC,qD,qE,qF])
     refine sch_out ?_;refine wpAnyH_done (by kernel_rfl) ?_ _;refine NoPanic.normal ?_;have b9:=hH0;clear hH0;go_wp2_with fail;go_ret;exact⟨ret_bool (by rw[HO.out]),Below.more HW.out b9⟩
   ·obtain rfl:k=l.length:=by omega
    have HR:=zh (rows_end hne fun j x hj=>HJ.out j x hj);have HW:=zh hw;clear hw
    go_wp2_with fail;go_ret;exact⟨ret_bool (by rw[HR.out]),HW.out⟩
 ·have HR:Hid (decide (l=m)=false):=zh (decide_eq_false (fun e=>hne (congrArg List.length e)));have hne':((l.length:Int)=(m.length:Int))=False:=eq_false (by omega);go_enter Tryz.func9,Tryz.ntmps9
  go_wp2
  go_ret;exact⟨ret_bool (by rw[HR.out]),Below.refl _ _⟩
end Go.Proofs.YtmllklfjngapiaaGreatDoor
set_option maxHeartbeats 1000000
namespace Go.Proofs.YtmllklfjngapiaaGreatDoor
open Go.RowKit
theorem okB_iff{i:Nat}{c:UInt8}:okB i c=true↔((97≤c.toNat∧c.toNat≤122)∨(48≤c.toNat∧c.toNat≤57))∨(c.toNat=33∧i=0):=by
 unfold okB nameC;simp only[Bool.or_eq_true,Bool.and_eq_true,decide_eq_true_eq]
theorem okB_no{i:Nat}{c:UInt8}(h:¬(((97≤c.toNat∧c.toNat≤122)∨(48≤c.toNat∧c.toNat≤57))∨(c.toNat=33∧i=0))):okB i c=false:=by
 cases e:okB i c with
 | false=>rfl
 | true=>exact absurd (okB_iff.1 e) h
theorem nm_more{s:ByteArray}{k:Nat}(hk:k<s.size)(h:nmFrom 0 (s.data.toList.take k)=true)(ho:okB k s[k]=true):nmFrom 0 (s.data.toList.take (k+1))=true:=by
 have hl:k<s.data.toList.length:=by rw[size_toList];exact hk
 rw[nm_step hl,h];exact ho
theorem nm_end{s:ByteArray}{k:Nat}(hk:k<s.size)(ho:okB k s[k]=false):isName s.data.toList=false:=nm_stop (by rw[size_toList];exact hk) ho
theorem rbname_any(s:ByteArray)(w:World)(hs:s.size≤4611686018427387904) :
  Calls Tryz.prog 99 #[.string s] w fun e w'=>e=.returned (.bool (isName s.data.toList))∧w=w':=by
 go_enter Tryz.func99,Tryz.ntmps99
 go_wp2
 go_loop [3] (fun i=>∃k:Nat,k≤s.size∧i=.int .i64 k∧Hid (nmFrom 0 (s.data.toList.take k)=true)) (fun i=>s.size-(intOf i).toNat)
 case atStart=>exact⟨0,Nat.zero_le _,rfl,rfl⟩
 case round =>
  obtain⟨k,hk,rfl,HJ⟩:=hrel;by_cases hlt:k<s.size
  ·by_cases a1:(s[k].toNat:Int)<97
   ·by_cases a2:(s[k].toNat:Int)<48
    ·by_cases a3:(s[k].toNat:Int)=33
     ·by_cases a4:k=0
      ·have f0:¬(0:Int)<(k:Int):=by omega
       have HO:Hid (okB k s[k]=true):=zh (okB_iff.2 (.inr ⟨by omega,a4⟩));clear a4
       go_wp2
       go_round
       case rel=>exact⟨k+1,hlt,by go_num,nm_more hlt HJ.out HO.out⟩
       case measure=>simp[intOf];omega
      ·have f0:(0:Int)<(k:Int):=by omega
       have HO:Hid (isName s.data.toList=false):=zh (nm_end hlt (okB_no (by omega)))
       go_wp2
       go_ret;exact⟨ret_bool (by rw[HO.out]),rfl⟩
     ·have HO:Hid (isName s.data.toList=false):=zh (nm_end hlt (okB_no (by omega)))
      go_wp2
      go_ret;exact⟨ret_bool (by rw[HO.out]),rfl⟩
    ·by_cases a3:57<(s[k].toNat:Int)
     ·have f0:¬(s[k].toNat:Int)=33:=by omega
      have HO:Hid (isName s.data.toList=false):=zh (nm_end hlt (okB_no (by omega)))
      go_wp2
      go_ret;exact⟨ret_bool (by rw[HO.out]),rfl⟩
     ·have HO:Hid (okB k s[k]=true):=zh (okB_iff.2 (.inl (.inr ⟨by omega,by omega⟩)))
      go_wp2
      go_round
      case rel=>exact⟨k+1,hlt,by go_num,nm_more hlt HJ.out HO.out⟩
      case measure=>simp[intOf];omega
   ·by_cases a2:122<(s[k].toNat:Int)
    ·have f0:¬(s[k].toNat:Int)=33:=by omega
     have f1:¬(s[k].toNat:Int)<48:=by omega
     have f2:57<(s[k].toNat:Int):=by omega
     have HO:Hid (isName s.data.toList=false):=zh (nm_end hlt (okB_no (by omega)))
     go_wp2
     go_ret;exact⟨ret_bool (by rw[HO.out]),rfl⟩
    ·have HO:Hid (okB k s[k]=true):=zh (okB_iff.2 (.inl (.inl ⟨by omega,by omega⟩)))
     go_wp2
     go_round
     case rel=>exact⟨k+1,hlt,by go_num,nm_more hlt HJ.out HO.out⟩
     case measure=>simp[intOf];omega
  ·obtain rfl:k=s.size:=by omega
   have hr:=nm_all (l:=s.data.toList) (by rw[size_toList];exact HJ.out);rw[size_toList]at hr;have HR:=zh hr;clear hr;by_cases h1:(1:Int)≤(s.size:Int)
   ·by_cases h2:(s.size:Int)≤20
    ·have HD:Hid ((decide (1≤s.size)&&decide (s.size≤20))=true):=zh (by rw[decide_eq_true (by omega),decide_eq_true (by omega)];rfl)
     go_wp2
     go_ret;exact⟨ret_bool (by rw[HR.out,HD.out]),rfl⟩
    ·have HD:Hid ((decide (1≤s.size)&&decide (s.size≤20))=false):=zh (by rw[decide_eq_false (show ¬s.size≤20 by omega),Bool.and_false])
     go_wp2
     go_ret;exact⟨ret_bool (by first|rw[HR.out,HD.out]|(rw[HR.out,HD.out];exact decide_eq_false h2)),rfl⟩
   ·have HD:Hid ((decide (1≤s.size)&&decide (s.size≤20))=false):=zh (by rw[decide_eq_false (show ¬1≤s.size by omega),Bool.false_and])
    go_wp2
    go_ret;exact⟨ret_bool (by rw[HR.out,HD.out]),rfl⟩
end Go.Proofs.YtmllklfjngapiaaGreatDoor
namespace Go.Proofs.YtmllklfjngapiaaGreatDoor
open Go.RowKit
theorem more{ls:List Ln}{P:Ln→Prop}{k:Nat}{z:Ln}(h:∀ (j:Nat) (x:Ln),j<k→ls[j]?=some x→P x)(hz:ls[k]?=some z)(hp:P z):∀ (j:Nat) (x:Ln),j<k+1→ls[j]?=some x→P x:=fun j x hj hx=>by
 by_cases e:j=k
 ·subst e;rw[hz]at hx;exact Option.some.inj hx▸hp
 ·exact h j x (by omega) hx
end Go.Proofs.YtmllklfjngapiaaGreatDoor
set_option maxHeartbeats 4000000
set_option maxRecDepth 100000
namespace Go.Proofs.YtmllklfjngapiaaGreatDoor
open Go.RowKit
open Tm (Nd astB)
theorem drop_at0(s:ByteArray)(h:0<s.size):s.data.toList=s[0]::s.data.toList.drop 1:=by
 have hl:0<s.data.toList.length:=by rw[size_toList];exact h
 have:=List.drop_eq_getElem_cons hl;rw[List.drop_zero]at this;exact this
theorem ast_no{l:List UInt8}(h:isName l=false):astB l=false:=by unfold Tm.astB;rw[h];rfl
theorem ast_at{s:ByteArray}(h:isName s.data.toList=true)(h0:0<s.size):astB s.data.toList=(!decide ((s[0].toNat:Int)=33)&&(decide ((s[0].toNat:Int)<48)||decide ((57:Int)<(s[0].toNat:Int)))):=by
 have e:s.data.toList=s[0]::s.data.toList.drop 1:=drop_at0 s h0;unfold Tm.astB;rw[h,Bool.true_and,e];dsimp only[List.head?_cons]
 congr 1
 ·congr 1
  by_cases k:s[0]=33
  ·rw[k];rfl
  ·have:¬(s[0].toNat:Int)=33:=fun e=>k (UInt8.toNat_inj.1 (by show s[0].toNat=33;omega));rw[decide_eq_false this];simp[k]
 ·unfold isDig;by_cases a:(s[0].toNat:Int)<48
  ·rw[decide_eq_true a,decide_eq_false (show ¬48≤s[0].toNat by omega)];rfl
  ·rw[decide_eq_false a,decide_eq_true (show 48≤s[0].toNat by omega)];by_cases b:(57:Int)<(s[0].toNat:Int)
   ·rw[decide_eq_true b,decide_eq_false (show ¬s[0].toNat≤57 by omega)];rfl
   ·rw[decide_eq_false b,decide_eq_true (show s[0].toNat≤57 by omega)];rfl
theorem rtasset_any(s:ByteArray)(w:World)(hs:s.size≤4611686018427387904):Calls Tryz.prog 59 #[.string s] w (GiveB w (astB s.data.toList)):=by
 have C:=zh (calm (rbname_any s w hs));have b0:=Below.refl w.heap.size w
 cases hn:isName s.data.toList with
 | false =>
  rw[hn]at C;have HA:=zh (ast_no hn);clear hn;go_enter Tryz.func59,Tryz.ntmps59;go_wp2_with fail;refine C.out.mono ?_;rintro e w' ⟨rfl,b⟩;have b1:=Below.more b0 b;clear b;go_wp2_with fail;go_ret;exact⟨ret_bool (by rw[HA.out]),b1⟩
 | true =>
  rw[hn]at C;have h0:0<s.size:=by
   have e:=size_toList s;have:s.data.toList≠[]:=fun e=>by rw[e]at hn;cases hn
   have:=List.length_pos_iff.2 this;omega
  have h0i:(0:Int)<(s.size:Int):=by omega
  have HA0:=ast_at hn h0;clear hn;by_cases a:(s[0].toNat:Int)=33
  ·have HA:Hid (astB s.data.toList=false):=zh (by rw[HA0,decide_eq_true a];rfl);have q1:((s[0].toNat:Int) != 33)=false:=by rw[bne_eq_false_iff_eq];exact a
   clear HA0 a;go_enter Tryz.func59,Tryz.ntmps59;go_wp2_with fail;refine C.out.mono ?_;rintro e w' ⟨rfl,b⟩;have b1:=Below.more b0 b;clear b;go_wp2_with fail;go_ret;exact⟨ret_bool (by rw[HA.out]),b1⟩
  ·have q1:((s[0].toNat:Int) != 33)=true:=by rw[bne_iff_ne];exact a
   rw[decide_eq_false a]at HA0;clear a;by_cases k:(s[0].toNat:Int)<48
   ·have HA:Hid (astB s.data.toList=true):=zh (by rw[HA0,decide_eq_true k];rfl);have q2:decide ((s[0].toNat:Int)<48)=true:=decide_eq_true k;clear HA0;go_enter Tryz.func59,Tryz.ntmps59;go_wp2_with fail;refine C.out.mono ?_;rintro e w' ⟨rfl,b⟩;have b1:=Below.more b0 b;clear b;go_wp2_with fail;go_ret;exact⟨ret_bool (by rw[HA.out]),b1⟩
   ·have q2:decide ((s[0].toNat:Int)<48)=false:=decide_eq_false k;have HA:Hid (astB s.data.toList=decide ((57:Int)<(s[0].toNat:Int))):=zh (by rw[HA0,decide_eq_false k];rfl);clear HA0;go_enter Tryz.func59,Tryz.ntmps59;go_wp2_with fail;refine C.out.mono ?_;rintro e w' ⟨rfl,b⟩;have b1:=Below.more b0 b;clear b;go_wp2_with fail;go_ret;exact⟨ret_bool (by rw[HA.out]),b1⟩
def smallN(x:Nd):Bool:=(decide (x.num.1.length≤100)&&decide (x.num.2.length≤100))&&decide (x.ast.length≤100)
def smallT(t:List Nd):Bool:=t.all smallN&&decide (t.length≤200)
theorem small_no{t:List Nd}{k:Nat}{x:Nd}(h:t[k]?=some x)(hx:smallN x=false):smallT t=false:=by
 unfold smallT;have:t.all smallN=false:=by
  rw[List.all_eq_false];exact⟨x,List.mem_of_getElem? h,by rw[hx];decide⟩
 rw[this];rfl
theorem small_end{t:List Nd}(h:∀ (j:Nat) (x:Nd),j<t.length→t[j]?=some x→smallN x=true):smallT t=decide (t.length≤200):=by
 unfold smallT;have:t.all smallN=true:=List.all_eq_true.2 fun x hx=>by
  obtain⟨j,hj⟩:=List.getElem?_of_mem hx;exact h j x (List.getElem?_eq_some_iff.1 hj).1 hj
 rw[this];rfl
theorem rtsmall_any(p:Option Addr)(c:Nat)(t:List Nd)(w:World)(hl:t.length≤4611686018427387904)(hT:Nds w p t):Calls Tryz.prog 10 #[.slice p t.length c] w (GiveB w (smallT t)):=by
 have HT:=zh hT;clear hT;go_enter Tryz.func10,Tryz.ntmps10;go_wp2_with fail
 go_loopw [3] (fun iv wr=>∃k:Nat,k≤t.length∧iv=.int .i64 k∧Hid (∀ (j:Nat) (x:Nd),j<k→t[j]?=some x→smallN x=true)∧Below w.heap.size w wr) (fun iv _=>t.length-(intOf iv).toNat)
 case atStart=>exact⟨0,Nat.zero_le _,rfl,zh fun j x h=>absurd h (Nat.not_lt_zero j),Below.refl _ _⟩
 case round =>
  obtain⟨k,hk,rfl,HJ,hw⟩:=hrel;have HW:=zh hw;clear hw;by_cases hlt:k<t.length
  ·have hki:(k:Int)<(t.length:Int):=by omega
   obtain⟨⟨op,⟨n,d⟩,s,a,bb⟩,hx⟩:∃x,t[k]?=some x:=⟨_,List.getElem?_eq_getElem hlt⟩;have HX:=zh hx;obtain⟨b,o,rfl,k0,k1,k2,k3,k4,k5⟩:=nds_rule (HT.out.below HW.out) hx;dsimp only at k0 k1 k2 k3 k4 k5;clear hx k0 k4 k5;have b0:=Below.refl wr.heap.size wr;have cs:=fun v=>short1q v (⟨n.toArray⟩,⟨d.toArray⟩);have es:shQ ((⟨n.toArray⟩:ByteArray),(⟨d.toArray⟩:ByteArray))=(decide (n.length≤100)&&decide (d.length≤100)):=by unfold shQ;rw[size_of,size_of]
   rw[es]at cs;clear es
   cases hq:(decide (n.length≤100)&&decide (d.length≤100)) with
   | false =>
    rw[hq]at cs;have C:=zh cs;have HA:=zh (small_no HX.out (show smallN (Nd.mk op (n,d) s a bb)=false by unfold smallN;dsimp only;rw[hq];rfl));clear cs hq;go_wp2_with fail;refine(C.out _).mono ?_;rintro e w' ⟨rfl,b⟩;have b1:=Below.more b0 b;clear b;go_wp2_with fail;go_ret;exact⟨ret_bool (by rw[HA.out]),Below.more HW.out b1⟩
   | true =>
    rw[hq]at cs;have C:=zh cs;by_cases h100:(100:Int)<(s.length:Int)
    ·have HA:=zh (small_no HX.out (show smallN (Nd.mk op (n,d) s a bb)=false by unfold smallN;dsimp only;rw[hq,decide_eq_false (show ¬s.length≤100 by omega)];rfl));clear cs hq;go_wp2_with fail;refine(C.out _).mono ?_;rintro e w' ⟨rfl,b⟩;have b1:=Below.more b0 b;clear b;go_wp2_with fail;go_ret;exact⟨ret_bool (by rw[HA.out]),Below.more HW.out b1⟩
    ·have HO:Hid (smallN (Nd.mk op (n,d) s a bb)=true):=zh (by unfold smallN;dsimp only;rw[hq,decide_eq_true (show s.length≤100 by omega)];rfl);clear cs hq;go_wp2_with fail;refine(C.out _).mono ?_;rintro e w' ⟨rfl,b⟩;have b1:=Below.more b0 b;clear b;go_wp2_with fail;go_roundw
     case rel=>exact⟨k+1,hlt,by go_num,zh fun j x hj hx=>by
      by_cases e:j=k
      ·subst e;obtain rfl:=Option.some.inj (HX.out.symm.trans hx);exact HO.out
      ·exact HJ.out j x (by omega) hx,Below.more HW.out b1⟩
     case measure=>simp[intOf];omega
  ·obtain rfl:k=t.length:=by omega
   have HA:=zh (small_end HJ.out);go_wp2_with fail;go_ret;exact⟨ret_bool (by rw[HA.out];exact decide_eq_decide.2 (by omega)),HW.out⟩
end Go.Proofs.YtmllklfjngapiaaGreatDoor
set_option maxHeartbeats 4000000
set_option maxRecDepth 100000
namespace Go.Proofs.YtmllklfjngapiaaGreatDoor
open Go.RowKit
open Tm (Nd Tr arN arI formB stk fl dp ds mx mkT depthT)
structure DepI(B:Nat)(t:List Nd)(w:World)(k:Nat)(st:List Tr)(b o c:Nat):Prop where
 rows:RowsG encN 1 w (some ⟨b,o,none⟩) (ds st)
 cap:st.length≤c
 stk:stk t k=some st
theorem DepI.below{B:Nat}{t:List Nd}{w w':World}{k:Nat}{st:List Tr}{b o c:Nat}(h:DepI B t w k st b o c)(hb:Below w.heap.size w w'):DepI B t w' k st b o c:=⟨h.rows.below hb,h.cap,h.stk⟩
theorem rtdepth_any(p:Option Addr)(c:Nat)(t:List Nd)(w:World)(hT:Nds w p t):Calls Tryz.prog 30 #[.slice p t.length c] w (GiveI w ((depthT t:Nat):Int)):=by
 have C:=zh (rtformed_any p c t w hT);have HT:=zh hT;clear hT
 cases hf:formB t with
 | false =>
  have hd:=Tm.depth_no hf;rw[hd];rw[hf]at C;clear hf hd;have b0:=Below.refl w.heap.size w;go_enter Tryz.func30,Tryz.ntmps30;go_wp2_with fail;refine C.out.mono ?_;rintro e w1 ⟨rfl,b⟩;have b1:=Below.more b0 b;clear b;go_wp2_with fail;go_ret;exact⟨rfl,b1⟩
 | true =>
  have HF:=zh hf;rw[hf]at C;clear hf;have b0:=Below.refl w.heap.size w;obtain⟨tr,e1,e2,_,_,hl1,hl2⟩:=Tm.form_stk HF.out;have HS:=zh e1;have HD:=zh (Tm.depth_of HF.out e2);clear e1 e2;go_enter Tryz.func30,Tryz.ntmps30;go_wp2_with fail;refine C.out.mono ?_;rintro e w1 ⟨rfl,b⟩;have b1:=Below.more b0 b;have HT1:=zh (HT.out.below b);clear b C HT;go_wp2_with fail
  go_loopw [3,4,5,6,7] (fun sv iv nv dv kv wr=>∃ (k:Nat) (st:List Tr) (b o c:Nat),k≤t.length∧iv=.int .i64 k∧sv=.slice (some ⟨b,o,none⟩) st.length c∧DepI w.heap.size t wr k st b o c∧Below w1.heap.size w1 wr) (fun _ iv _ _ _ _=>t.length-(intOf iv).toNat)
  case atStart=>exact⟨0,[],w1.heap.size,0,0,Nat.zero_le _,rfl,by simp,⟨RowsG.nil _ _,Nat.le_refl _,rfl⟩,Below.step _ (Below.refl _ _)⟩
  case round =>
   obtain⟨k,st,b,o,cs,hk,rfl,rfl,hI,hw⟩:=hrel;have HW:=zh hw;have HI:=zh hI;clear hw hI;have hst:st.length≤t.length:=by
    have e:=Tm.stk_fl HI.out.stk hk;have:=Tm.len_fl st;omega
   by_cases hlt:k<t.length
   ·have hki:(k:Int)<(t.length:Int):=by omega
    obtain⟨x,hx⟩:∃x,t[k]?=some x:=⟨_,List.getElem?_eq_getElem hlt⟩;have HX:=zh hx;obtain⟨bp,op,rfl,k0,_⟩:=nds_rule (HT1.out.below HW.out) hx;obtain⟨m,ha,hm⟩:=Tm.form_step HF.out hx HI.out.stk;clear hx;have b0:=Below.refl wr.heap.size wr;go_wp2_with fail;refine(rtarity_any x.op wr).mono ?_;rintro e wa ⟨rfl,ba⟩;have HW2:=zh (Below.more HW.out ba);have HI2:=zh (HI.out.below ba);clear ba k0 b0;have hn:arI x.op=(m:Int):=by unfold arI;rw[ha]
    rw[hn];have S1:=zh (Tm.step_mk HX.out HI.out.stk ha hm);have h3:=Tm.arN_le ha;obtain⟨q,hq⟩:∃q,st.length=q+m:=⟨st.length-m,by omega⟩;have hsub:st.length-m=q:=by omega
    rw[hsub]at S1;obtain⟨R,hR⟩:∃R,R=(ds st).take q:=⟨_,rfl⟩;have HRL:Hid (R.length=q):=zh (by rw[hR,List.length_take,Tm.ds_len];omega);have HR:Hid (RowsG encN 1 wa (some ⟨b,o,none⟩) R):=zh fun j y hj=>HI2.out.rows j y (by
     rw[hR,List.getElem?_take]at hj;split at hj
     ·exact hj
     ·cases hj)
    obtain⟨Dm,hDm⟩:∃Dm,Dm=mx ((st.drop q).map dp):=⟨_,rfl⟩;have HDS:Hid (ds (st.take q++[mkT x (st.drop q)])=R++[((Dm:Nat):Int)+1]):=zh (by
     unfold ds at hR ⊢;rw[List.map_append,List.map_take,← hR,List.map_singleton,Tm.dp_mk (by rw[List.length_drop];omega),← hDm];rfl)
    have hbd:∀s∈st,dp s≤2000:=fun s hs=>by
     have:=Tm.dp_le s;have:=Tm.one_fl hs;have:=Tm.stk_fl HI.out.stk hk;omega
    have HBD:Hid (∀j,mx (((st.drop q).take j).map dp)≤2000):=zh fun j=>Tm.mx_le fun a ha=>by
     obtain⟨s,hs,rfl⟩:=List.mem_map.1 ha;exact hbd s (List.mem_of_mem_drop (List.mem_of_mem_take hs))
    have hDb:Dm≤2000:=by
     have:=HBD.out (st.drop q).length
     rwa[List.take_length,← hDm]at this
    have HQ:Hid (q≤2000):=zh (by omega);have hwr:wrap64 ((st.length:Int)-(m:Int))=(q:Int):=(IntWalk.wrap64_in _ ⟨by omega,by omega⟩).trans (by omega);have hwr2:IntKind.i64.wrap ((st.length:Int)-(m:Int))=(q:Int):=(IntWalk.i64_in _ (by omega)).trans (by omega);have hcap:=HI.out.cap;have hqc:q≤cs:=by omega
    have HLT:=zh hlt;have HEL:Hid (∀j,q+j<st.length→∃E:Nat,(ds st)[q+j]?=some (E:Int)∧E≤2000∧mx (((st.drop q).take (j+1)).map dp)=max (mx (((st.drop q).take j).map dp)) E):=zh fun j hj=>by
     refine⟨dp st[q+j],?_,hbd _ (List.getElem_mem hj),?_⟩
     ·unfold ds;rw[List.getElem?_map,List.getElem?_eq_getElem hj];rfl
     ·have hj':(st.drop q)[j]?=some st[q+j]:=by rw[List.getElem?_drop,List.getElem?_eq_getElem hj]
      rw[List.take_add_one,hj',List.map_append,← Tm.mx_snoc];rfl
    have HEND:Hid (mx (((st.drop q).take m).map dp)=Dm):=zh (by rw[hDm,List.take_of_length_le (by rw[List.length_drop];omega)]);clear ha hn h3 hsub hR hDm hbd hlt;have HQM:=zh hq;clear hq;go_wp2_with fail;generalize hv1:w1.heap.size=V1 at *;generalize hv0:w.heap.size=V0 at *
    go_loopw [6,7] (fun dv kv wb=>∃j:Nat,j≤m∧dv=.int .i64 ((mx (((st.drop q).take j).map dp):Nat):Int)∧kv=.int .i64 ((q+j:Nat):Int)∧Below wa.heap.size wa wb) (fun _ kv _=>st.length-(intOf kv).toNat)
    case atStart=>exact⟨0,Nat.zero_le _,rfl,rfl,Below.refl _ _⟩
    case round =>
     obtain⟨j,hj,rfl,rfl,hwb⟩:=hrel;by_cases hjm:j<m
     ·have hqj:q+j<st.length:=by have:=HQM.out;omega
      have hqji:((q+j:Nat):Int)<(st.length:Int):=by omega
      obtain⟨E,hE,hEb,hnx⟩:=HEL.out j hqj;obtain⟨b',o',hbo,hlt',c0⟩:=(HI2.out.rows.below hwb) (q+j) _ hE
      cases hbo
      have c1:wr.cell? ⟨b,o+(q+j),none⟩=some (.int .i64 (E:Int)):=by
       have:=c0 0 _ rfl
       rwa[Nat.mul_one]at this
      have hFb:=HBD.out j;generalize hF:mx (((st.drop q).take j).map dp)=F at *;clear hE c0 hF;by_cases hmx:F<E
      ·have hmx':(F:Int)<(E:Int):=by omega
       have hx1:max (F:Int) (E:Int)=(E:Int):=by omega
       have hx2:max F E=E:=by omega
       rw[hx2]at hnx;go_wp2_with fail;go_roundw
       case rel=>exact⟨j+1,by omega,by rw[hnx],by go_num,hwb⟩
       case measure=>simp[intOf];omega
      ·have hmx':¬(F:Int)<(E:Int):=by omega
       have hx1:max (F:Int) (E:Int)=(F:Int):=by omega
       have hx2:max F E=F:=by omega
       rw[hx2]at hnx;go_wp2_with fail;go_roundw
       case rel=>exact⟨j+1,by omega,by rw[hnx],by go_num,hwb⟩
       case measure=>simp[intOf];omega
     ·obtain rfl:j=m:=by omega
      have hqj:¬((q+j:Nat):Int)<(st.length:Int):=by have:=HQM.out;omega
      rw[HEND.out];generalize hwbn:wr=wb at *;have HWB:=zh hwb;clear hwb;subst hv0 hv1;go_wp2_with (at_builtin;refine haltG ?_);show wpList _ _ _ _ _ _;have bN:Below wb.heap.size wb (wb.alloc (.cells #[] 3)):=Below.alloc (Below.refl _ _) (Nat.le_refl _) _;have oN:=ownG_empty (enc:=encN) (k:=1) (e:=3) (B:=wb.heap.size) wb (Nat.le_refl _);refine wpList_append_M rfl _ _ 34 3 rfl Tryz.underlying34 numInfo rfl (by decide) (by decide) (fun _=>rfl) encN_one wb.heap.size _ _ rfl oN (some ⟨b,o,none⟩) R cs (by rw[HRL.out];rfl) (RowsG.below (HR.out.below HWB.out) bN) (by simp) (by rw[HRL.out];have:=HQ.out;omega) (Below.size bN) ?_;intro v1 w5 ho hgr hloc;have b5:=zh (Below.grown bN hgr (Below.size bN) fun j hj=>(World.ownsRow.lt oN j hj).1);rw[List.nil_append]at ho;have HO:=zh ho;clear ho hgr hloc oN bN;go_wp2_with (at_builtin;refine haltG ?_);show wpList _ _ _ _ _ _;refine wpList_append_G rfl _ _ 34 3 rfl Tryz.underlying34 numInfo rfl (by decide) (by decide) (fun _=>rfl) encN_one wb.heap.size _ _ rfl (World.ownsRow.alloc HO.out _) ⟨w5.heap.size,0,none⟩ (((Dm:Nat):Int)+1) 1 rfl (rowsOne w5 (((Dm:Nat):Int)+1) 3 _ rfl) (by rw[HRL.out];have:=HQ.out;omega) (by have:=b5.out.size;simp;omega) ?_;intro v2 w6 ho hgr hloc;have b6:=zh (Below.grown (Below.alloc b5.out (Below.size b5.out) _) hgr (by have:=b5.out.size;simp;omega) fun j hj=>(World.ownsRow.lt HO.out j hj).1);obtain⟨p7,c7,rfl,hc7,l7,_⟩:=ownG_rows (enc:=encN) (k:=1) (fun _=>rfl) ho;obtain⟨b7,o7,rfl,_,_⟩:=l7 R.length (((Dm:Nat):Int)+1) (by simp)
      have HW6:=zh (Below.more (Below.more HW2.out HWB.out) b6.out);have HN:Hid (DepI w.heap.size t w6 (k+1) (st.take q++[mkT x (st.drop q)]) b7 o7 c7):=zh ⟨by rw[HDS.out];exact l7,by rw[←Tm.ds_len,HDS.out];exact hc7,S1.out⟩;have HL7:Hid (R.length+1=(st.take q++[mkT x (st.drop q)]).length):=zh (by rw[←Tm.ds_len,HDS.out,List.length_append];rfl);clear ho hgr hloc HO b5 l7 hc7;go_wp2_with fail;go_roundw
      case rel=>exact⟨k+1,st.take q++[mkT x (st.drop q)],b7,o7,c7,by have:=HLT.out;omega,by go_num,by rw[HL7.out],HN.out,HW6.out⟩
      case measure=>have:=HLT.out;simp[intOf];omega
   ·obtain rfl:k=t.length:=by omega
    have e:=HI.out.stk.symm.trans HS.out
    cases e
    obtain⟨b',o',hbo,_,c0⟩:=HI.out.rows 0 _ rfl
    cases hbo
    have c1:wr.cell? ⟨b,o,none⟩=some (.int .i64 ((dp tr:Nat):Int)):=by
     have:=c0 0 _ rfl
     simpa using this
    clear c0;go_wp2_with fail;go_ret;exact⟨by rw[HD.out];rfl,Below.more b1 HW.out⟩
end Go.Proofs.YtmllklfjngapiaaGreatDoor
