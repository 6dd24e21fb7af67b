/- Own work. -/
import Derived.Test.YtmllklfjngapiaaGreatDoorAllRefT2M
import Derived.Laws.Cover1
set_option linter.unusedSimpArgs false
set_option linter.unusedVariables false
namespace Go.Proofs.YtmllklfjngapiaaGreatDoor
open Go.RowKit
open Tm (Nd joinT plainN)
end Go.Proofs.YtmllklfjngapiaaGreatDoor
namespace Go.Proofs.YtmllklfjngapiaaGreatDoor
open Go.RowKit
open Tm (Nd Tr arN arI formB stk fl bgA begT argsT)
theorem RowsG.part{α:Type}{enc:α→List Value}{k:Nat}{w:World}{b o:Nat}{l:List α}(h:RowsG enc k w (some ⟨b,o,none⟩) l)(f n:Nat):RowsG enc k w (some ⟨b,o+f*k,none⟩) ((l.drop f).take n):=fun j x hx=>by
 rw[List.getElem?_take]at hx;split at hx
 ·rw[List.getElem?_drop]at hx;obtain⟨b',o',hp,hl,c⟩:=h (f+j) x hx
  cases hp
  exact⟨b,o+f*k,rfl,hl,fun i v hv=>by rw[show o+f*k+j*k+i=o+(f+j)*k+i by rw[Nat.add_mul];omega];exact c i v hv⟩
 ·cases hx
end Go.Proofs.YtmllklfjngapiaaGreatDoor
set_option maxHeartbeats 4000000
set_option maxRecDepth 100000
namespace Go.Proofs.YtmllklfjngapiaaGreatDoor
open Go.RowKit
open Tm (Nd)
theorem nd_eq{op op' a a' bb bb':Int}{n d s n' d' s':List UInt8}(e:Nd.mk op (n,d) s a bb=Nd.mk op' (n',d') s' a' bb'):op=op'∧n=n'∧d=d'∧s=s'∧a=a'∧bb=bb':=by
 injection e with e0 e1 e2 e3 e4
 injection e1 with e1 e5
 exact⟨e0,e1,e5,e2,e3,e4⟩
instance:DecidableEq Nd:=fun⟨op,⟨n,d⟩,s,a,bb⟩ ⟨op',⟨n',d'⟩,s',a',bb'⟩ =>
 if h:op=op'∧n=n'∧d=d'∧s=s'∧a=a'∧bb=bb' then isTrue (by obtain⟨rfl,rfl,rfl,rfl,rfl,rfl⟩:=h;rfl) else isFalse fun e=>h (nd_eq e)
theorem rtsame_any(p q:Option Addr)(c c':Nat)(l m:List Nd)(w:World)(hl:l.length≤4611686018427387904)(hl':m.length≤4611686018427387904)(h:Nds w p l)(h':Nds w q m) :
  Calls Tryz.prog 9 #[.slice p l.length c,.slice q m.length c'] w (GiveB w (decide (l=m))):=by
 have HS:=zh h;have HS':=zh h';clear h h'
 by_cases hne:l.length=m.length
 ·go_enter Tryz.func9,Tryz.ntmps9
  go_wp2
  go_loopw [5] (fun i wr=>∃k:Nat,k≤l.length∧i=.int .i64 k∧Hid (∀ (j:Nat) (x:Nd),j<k→l[j]?=some x→m[j]?=some x)∧Below w.heap.size w wr) (fun i _=>l.length-(intOf i).toNat)
  case atStart=>exact⟨0,Nat.zero_le _,rfl,fun j x h=>absurd h (Nat.not_lt_zero j),Below.refl _ _⟩
  case round =>
   obtain⟨k,hk,rfl,HJ,hw⟩:=hrel;by_cases hlt:k<l.length
   ·obtain⟨⟨op,⟨n,d⟩,s,a,bb⟩,hx⟩:∃x,l[k]?=some x:=⟨_,List.getElem?_eq_getElem hlt⟩;obtain⟨⟨op',⟨n',d'⟩,s',a',bb'⟩,hy⟩:∃x,m[k]?=some x:=⟨_,List.getElem?_eq_getElem (hne▸hlt)⟩;obtain⟨b,o,rfl,k0,k1,k2,k3,k4,k5⟩:=nds_rule (HS.out.below hw) hx;obtain⟨b',o',rfl,j0,j1,j2,j3,j4,j5⟩:=nds_rule (HS'.out.below hw) hy;have HW:=zh hw;have hlt':(k:Int)<(m.length:Int):=by omega
    have b0:=Below.refl wr.heap.size wr;have HX:=zh hx;have HY:=zh hy
    clear hx hy hw;have hB:=zh (Nat.le_refl wr.heap.size);dsimp only at k0 k1 k2 k3 k4 k5 j0 j1 j2 j3 j4 j5;by_cases e0:op=op'
    ·by_cases e1:n=n'
     ·by_cases e2:d=d'
      ·by_cases e3:s=s'
       ·by_cases e4:a=a'
        ·by_cases e5:bb=bb'
         ·have HO:Hid (m[k]?=some (Nd.mk op (n,d) s a bb)):=zh (by subst e0 e1 e2 e3 e4 e5;exact HY.out);have q0:(op==op')=true:=by rw[beq_iff_eq];assumption
          have q1:(n==n')=true:=by rw[beq_iff_eq];assumption
          have q2:(d==d')=true:=by rw[beq_iff_eq];assumption
          have q3:(s==s')=true:=by rw[beq_iff_eq];assumption
          have q4:(a==a')=true:=by rw[beq_iff_eq];assumption
          have q5:(bb==bb')=true:=by rw[beq_iff_eq];assumption
          clear e0;clear e1;clear e2;clear e3;clear e4;clear e5;go_wp2_with fail;refine wp_region_noPanic ?_;refine wp_region_held_drew (S:=fun w'=>Below wr.heap.size wr w') (by kernel_rfl) (b0.drew) (fun hH0=>?_);refine sch_in [0,1,2,3,4,5,6,7,8] ?_
          iterate 9 (refine sch_yes (v:=?_) rfl (by kernel_rfl) (by rfl) ?_ (by assumption) ?_;rotate_left 1;(· (intro w hSw;(try dsimp only at hSw);go_simp<;>(with_reducible rfl)));try simp only[Act.put,qA,qB,qC,qD,qE,qF])
          refine sch_out ?_;refine wpAnyH_done (by kernel_rfl) ?_ _;refine NoPanic.normal ?_;have b9:=hH0;clear hH0;go_wp2_with fail;go_roundw
          case rel=>exact⟨k+1,hlt,by go_num,rows_more (P:=fun j x=>m[j]?=some x) HJ.out HX.out HO.out,Below.more HW.out b9⟩
          case measure=>simp[intOf];omega
         ·have HO:Hid (decide (l=m)=false):=zh (rows_stop HX.out HY.out (fun e=>e5 ((nd_eq e).2.2.2.2.2)));have q0:(op==op')=true:=by rw[beq_iff_eq];assumption
          have q1:(n==n')=true:=by rw[beq_iff_eq];assumption
          have q2:(d==d')=true:=by rw[beq_iff_eq];assumption
          have q3:(s==s')=true:=by rw[beq_iff_eq];assumption
          have q4:(a==a')=true:=by rw[beq_iff_eq];assumption
          have q5:(bb==bb')=false:=by rw[beq_eq_false_iff_ne];assumption
          clear e0;clear e1;clear e2;clear e3;clear e4;clear e5;go_wp2_with fail;refine wp_region_noPanic ?_;refine wp_region_held_drew (S:=fun w'=>Below wr.heap.size wr w') (by kernel_rfl) (b0.drew) (fun hH0=>?_);refine sch_in [0,1,2,3,4,5,6,7,8] ?_
          iterate 9 (refine sch_yes (v:=?_) rfl (by kernel_rfl) (by rfl) ?_ (by assumption) ?_;rotate_left 1;(· (intro w hSw;(try dsimp only at hSw);go_simp<;>(with_reducible rfl)));try simp only[Act.put,qA,qB,qC,qD,qE,qF])
          refine sch_out ?_;refine wpAnyH_done (by kernel_rfl) ?_ _;refine NoPanic.normal ?_;have b9:=hH0;clear hH0;go_wp2_with fail;go_ret;exact⟨ret_bool (by rw[HO.out]),Below.more HW.out b9⟩
        ·have HO:Hid (decide (l=m)=false):=zh (rows_stop HX.out HY.out (fun e=>e4 ((nd_eq e).2.2.2.2.1)));have q0:(op==op')=true:=by rw[beq_iff_eq];assumption
         have q1:(n==n')=true:=by rw[beq_iff_eq];assumption
         have q2:(d==d')=true:=by rw[beq_iff_eq];assumption
         have q3:(s==s')=true:=by rw[beq_iff_eq];assumption
         have q4:(a==a')=false:=by rw[beq_eq_false_iff_ne];assumption
         clear e0;clear e1;clear e2;clear e3;clear e4;go_wp2_with fail;refine wp_region_noPanic ?_;refine wp_region_held_drew (S:=fun w'=>Below wr.heap.size wr w') (by kernel_rfl) (b0.drew) (fun hH0=>?_);refine sch_in [0,1,2,3,4,5,6,7,8] ?_
         iterate 9 (refine sch_yes (v:=?_) rfl (by kernel_rfl) (by rfl) ?_ (by assumption) ?_;rotate_left 1;(· (intro w hSw;(try dsimp only at hSw);go_simp<;>(with_reducible rfl)));try simp only[Act.put,qA,qB,qC,qD,qE,qF])
         refine sch_out ?_;refine wpAnyH_done (by kernel_rfl) ?_ _;refine NoPanic.normal ?_;have b9:=hH0;clear hH0;go_wp2_with fail;go_ret;exact⟨ret_bool (by rw[HO.out]),Below.more HW.out b9⟩
       ·have HO:Hid (decide (l=m)=false):=zh (rows_stop HX.out HY.out (fun e=>e3 ((nd_eq e).2.2.2.1)));have q0:(op==op')=true:=by rw[beq_iff_eq];assumption
        have q1:(n==n')=true:=by rw[beq_iff_eq];assumption
        have q2:(d==d')=true:=by rw[beq_iff_eq];assumption
        have q3:(s==s')=false:=by rw[beq_eq_false_iff_ne];assumption
        clear e0;clear e1;clear e2;clear e3;go_wp2_with fail;refine wp_region_noPanic ?_;refine wp_region_held_drew (S:=fun w'=>Below wr.heap.size wr w') (by kernel_rfl) (b0.drew) (fun hH0=>?_);refine sch_in [0,1,2,3,4,5,6,7,8] ?_
        iterate 9 (refine sch_yes (v:=?_) rfl (by kernel_rfl) (by rfl) ?_ (by assumption) ?_;rotate_left 1;(· (intro w hSw;(try dsimp only at hSw);go_simp<;>(with_reducible rfl)));try simp only[Act.put,qA,qB,qC,qD,qE,qF])
        refine sch_out ?_;refine wpAnyH_done (by kernel_rfl) ?_ _;refine NoPanic.normal ?_;have b9:=hH0;clear hH0;go_wp2_with fail;go_ret;exact⟨ret_bool (by rw[HO.out]),Below.more HW.out b9⟩
      ·have HO:Hid (decide (l=m)=false):=zh (rows_stop HX.out HY.out (fun e=>e2 ((nd_eq e).2.2.1)));have q0:(op==op')=true:=by rw[beq_iff_eq];assumption
       have q1:(n==n')=true:=by rw[beq_iff_eq];assumption
       have q2:(d==d')=false:=by rw[beq_eq_false_iff_ne];assumption
       clear e0;clear e1;clear e2;go_wp2_with fail;refine wp_region_noPanic ?_;refine wp_region_held_drew (S:=fun w'=>Below wr.heap.size wr w') (by kernel_rfl) (b0.drew) (fun hH0=>?_);refine sch_in [0,1,2,3,4,5,6,7,8] ?_
       iterate 9 (refine sch_yes (v:=?_) rfl (by kernel_rfl) (by rfl) ?_ (by assumption) ?_;rotate_left 1;(· (intro w hSw;(try dsimp only at hSw);go_simp<;>(with_reducible rfl)));try simp only[Act.put,qA,qB,qC,qD,qE,qF])
       refine sch_out ?_;refine wpAnyH_done (by kernel_rfl) ?_ _;refine NoPanic.normal ?_;have b9:=hH0;clear hH0;go_wp2_with fail;go_ret;exact⟨ret_bool (by rw[HO.out]),Below.more HW.out b9⟩
     ·have HO:Hid (decide (l=m)=false):=zh (rows_stop HX.out HY.out (fun e=>e1 ((nd_eq e).2.1)));have q0:(op==op')=true:=by rw[beq_iff_eq];assumption
      have q1:(n==n')=false:=by rw[beq_eq_false_iff_ne];assumption
      clear e0;clear e1;go_wp2_with fail;refine wp_region_noPanic ?_;refine wp_region_held_drew (S:=fun w'=>Below wr.heap.size wr w') (by kernel_rfl) (b0.drew) (fun hH0=>?_);refine sch_in [0,1,2,3,4,5,6,7,8] ?_
      iterate 9 (refine sch_yes (v:=?_) rfl (by kernel_rfl) (by rfl) ?_ (by assumption) ?_;rotate_left 1;(· (intro w hSw;(try dsimp only at hSw);go_simp<;>(with_reducible rfl)));try simp only[Act.put,qA,qB,qC,qD,qE,qF])
      refine sch_out ?_;refine wpAnyH_done (by kernel_rfl) ?_ _;refine NoPanic.normal ?_;have b9:=hH0;clear hH0;go_wp2_with fail;go_ret;exact⟨ret_bool (by rw[HO.out]),Below.more HW.out b9⟩
    ·have HO:Hid (decide (l=m)=false):=zh (rows_stop HX.out HY.out (fun e=>e0 ((nd_eq e).1)));have q0:(op==op')=false:=by rw[beq_eq_false_iff_ne];assumption
     clear e0;go_wp2_with fail;refine wp_region_noPanic ?_;refine wp_region_held_drew (S:=fun w'=>Below wr.heap.size wr w') (by kernel_rfl) (b0.drew) (fun hH0=>?_);refine sch_in [0,1,2,3,4,5,6,7,8] ?_
     iterate 9 (refine sch_yes (v:=?_) rfl (by kernel_rfl) (by rfl) ?_ (by assumption) ?_;rotate_left 1;(· (intro w hSw;(try dsimp only at hSw);go_simp<;>(with_reducible rfl)));try simp only[Act.put,qA,qB,qC,qD,qE,qF])
     refine sch_out ?_;refine wpAnyH_done (by kernel_rfl) ?_ _;refine NoPanic.normal ?_;have b9:=hH0;clear hH0;go_wp2_with fail;go_ret;exact⟨ret_bool (by rw[HO.out]),Below.more HW.out b9⟩
   ·obtain rfl:k=l.length:=by omega
    have HR:=zh (rows_end hne fun j x hj=>HJ.out j x hj);have HW:=zh hw;clear hw
    go_wp2_with fail;go_ret;exact⟨ret_bool (by rw[HR.out]),HW.out⟩
 ·have HR:Hid (decide (l=m)=false):=zh (decide_eq_false (fun e=>hne (congrArg List.length e)));have hne':((l.length:Int)=(m.length:Int))=False:=eq_false (by omega);go_enter Tryz.func9,Tryz.ntmps9
  go_wp2
  go_ret;exact⟨ret_bool (by rw[HR.out]),Below.refl _ _⟩
end Go.Proofs.YtmllklfjngapiaaGreatDoor
set_option maxHeartbeats 1000000
namespace Go.Proofs.YtmllklfjngapiaaGreatDoor
open Go.RowKit
theorem okB_iff{i:Nat}{c:UInt8}:okB i c=true↔((97≤c.toNat∧c.toNat≤122)∨(48≤c.toNat∧c.toNat≤57))∨(c.toNat=33∧i=0):=by
 unfold okB nameC;simp only[Bool.or_eq_true,Bool.and_eq_true,decide_eq_true_eq]
theorem okB_no{i:Nat}{c:UInt8}(h:¬(((97≤c.toNat∧c.toNat≤122)∨(48≤c.toNat∧c.toNat≤57))∨(c.toNat=33∧i=0))):okB i c=false:=by
 cases e:okB i c with
 | false=>rfl
 | true=>exact absurd (okB_iff.1 e) h
theorem nm_more{s:ByteArray}{k:Nat}(hk:k<s.size)(h:nmFrom 0 (s.data.toList.take k)=true)(ho:okB k s[k]=true):nmFrom 0 (s.data.toList.take (k+1))=true:=by
 have hl:k<s.data.toList.length:=by rw[size_toList];exact hk
 rw[nm_step hl,h];exact ho
theorem nm_end{s:ByteArray}{k:Nat}(hk:k<s.size)(ho:okB k s[k]=false):isName s.data.toList=false:=nm_stop (by rw[size_toList];exact hk) ho
theorem rbname_any(s:ByteArray)(w:World)(hs:s.size≤4611686018427387904) :
  Calls Tryz.prog 99 #[.string s] w fun e w'=>e=.returned (.bool (isName s.data.toList))∧w=w':=by
 go_enter Tryz.func99,Tryz.ntmps99
 go_wp2
 go_loop [3] (fun i=>∃k:Nat,k≤s.size∧i=.int .i64 k∧Hid (nmFrom 0 (s.data.toList.take k)=true)) (fun i=>s.size-(intOf i).toNat)
 case atStart=>exact⟨0,Nat.zero_le _,rfl,rfl⟩
 case round =>
  obtain⟨k,hk,rfl,HJ⟩:=hrel;by_cases hlt:k<s.size
  ·by_cases a1:(s[k].toNat:Int)<97
   ·by_cases a2:(s[k].toNat:Int)<48
    ·by_cases a3:(s[k].toNat:Int)=33
     ·by_cases a4:k=0
      ·have f0:¬(0:Int)<(k:Int):=by omega
       have HO:Hid (okB k s[k]=true):=zh (okB_iff.2 (.inr ⟨by omega,a4⟩));clear a4
       go_wp2
       go_round
       case rel=>exact⟨k+1,hlt,by go_num,nm_more hlt HJ.out HO.out⟩
       case measure=>simp[intOf];omega
      ·have f0:(0:Int)<(k:Int):=by omega
       have HO:Hid (isName s.data.toList=false):=zh (nm_end hlt (okB_no (by omega)))
       go_wp2
       go_ret;exact⟨ret_bool (by rw[HO.out]),rfl⟩
     ·have HO:Hid (isName s.data.toList=false):=zh (nm_end hlt (okB_no (by omega)))
      go_wp2
      go_ret;exact⟨ret_bool (by rw[HO.out]),rfl⟩
    ·by_cases a3:57<(s[k].toNat:Int)
     ·have f0:¬(s[k].toNat:Int)=33:=by omega
      have HO:Hid (isName s.data.toList=false):=zh (nm_end hlt (okB_no (by omega)))
      go_wp2
      go_ret;exact⟨ret_bool (by rw[HO.out]),rfl⟩
     ·have HO:Hid (okB k s[k]=true):=zh (okB_iff.2 (.inl (.inr ⟨by omega,by omega⟩)))
      go_wp2
      go_round
      case rel=>exact⟨k+1,hlt,by go_num,nm_more hlt HJ.out HO.out⟩
      case measure=>simp[intOf];omega
   ·by_cases a2:122<(s[k].toNat:Int)
    ·have f0:¬(s[k].toNat:Int)=33:=by omega
     have f1:¬(s[k].toNat:Int)<48:=by omega
     have f2:57<(s[k].toNat:Int):=by omega
     have HO:Hid (isName s.data.toList=false):=zh (nm_end hlt (okB_no (by omega)))
     go_wp2
     go_ret;exact⟨ret_bool (by rw[HO.out]),rfl⟩
    ·have HO:Hid (okB k s[k]=true):=zh (okB_iff.2 (.inl (.inl ⟨by omega,by omega⟩)))
     go_wp2
     go_round
     case rel=>exact⟨k+1,hlt,by go_num,nm_more hlt HJ.out HO.out⟩
     case measure=>simp[intOf];omega
  ·obtain rfl:k=s.size:=by omega
   have hr:=nm_all (l:=s.data.toList) (by rw[size_toList];exact HJ.out);rw[size_toList]at hr;have HR:=zh hr;clear hr;by_cases h1:(1:Int)≤(s.size:Int)
   ·by_cases h2:(s.size:Int)≤20
    ·have HD:Hid ((decide (1≤s.size)&&decide (s.size≤20))=true):=zh (by rw[decide_eq_true (by omega),decide_eq_true (by omega)];rfl)
     go_wp2
     go_ret;exact⟨ret_bool (by rw[HR.out,HD.out]),rfl⟩
    ·have HD:Hid ((decide (1≤s.size)&&decide (s.size≤20))=false):=zh (by rw[decide_eq_false (show ¬s.size≤20 by omega),Bool.and_false])
     go_wp2
     go_ret;exact⟨ret_bool (by first|rw[HR.out,HD.out]|(rw[HR.out,HD.out];exact decide_eq_false h2)),rfl⟩
   ·have HD:Hid ((decide (1≤s.size)&&decide (s.size≤20))=false):=zh (by rw[decide_eq_false (show ¬1≤s.size by omega),Bool.false_and])
    go_wp2
    go_ret;exact⟨ret_bool (by rw[HR.out,HD.out]),rfl⟩
end Go.Proofs.YtmllklfjngapiaaGreatDoor
namespace Go.Proofs.YtmllklfjngapiaaGreatDoor
open Go.RowKit
theorem more{ls:List Ln}{P:Ln→Prop}{k:Nat}{z:Ln}(h:∀ (j:Nat) (x:Ln),j<k→ls[j]?=some x→P x)(hz:ls[k]?=some z)(hp:P z):∀ (j:Nat) (x:Ln),j<k+1→ls[j]?=some x→P x:=fun j x hj hx=>by
 by_cases e:j=k
 ·subst e;rw[hz]at hx;exact Option.some.inj hx▸hp
 ·exact h j x (by omega) hx
end Go.Proofs.YtmllklfjngapiaaGreatDoor
set_option maxHeartbeats 4000000
set_option maxRecDepth 100000
namespace Go.Proofs.YtmllklfjngapiaaGreatDoor
open Go.RowKit
open Tm (Nd astB)
theorem drop_at0(s:ByteArray)(h:0<s.size):s.data.toList=s[0]::s.data.toList.drop 1:=by
 have hl:0<s.data.toList.length:=by rw[size_toList];exact h
 have:=List.drop_eq_getElem_cons hl;rw[List.drop_zero]at this;exact this
theorem ast_no{l:List UInt8}(h:isName l=false):astB l=false:=by unfold Tm.astB;rw[h];rfl
theorem ast_at{s:ByteArray}(h:isName s.data.toList=true)(h0:0<s.size):astB s.data.toList=(!decide ((s[0].toNat:Int)=33)&&(decide ((s[0].toNat:Int)<48)||decide ((57:Int)<(s[0].toNat:Int)))):=by
 have e:s.data.toList=s[0]::s.data.toList.drop 1:=drop_at0 s h0;unfold Tm.astB;rw[h,Bool.true_and,e];dsimp only[List.head?_cons]
 congr 1
 ·congr 1
  by_cases k:s[0]=33
  ·rw[k];rfl
  ·have:¬(s[0].toNat:Int)=33:=fun e=>k (UInt8.toNat_inj.1 (by show s[0].toNat=33;omega));rw[decide_eq_false this];simp[k]
 ·unfold isDig;by_cases a:(s[0].toNat:Int)<48
  ·rw[decide_eq_true a,decide_eq_false (show ¬48≤s[0].toNat by omega)];rfl
  ·rw[decide_eq_false a,decide_eq_true (show 48≤s[0].toNat by omega)];by_cases b:(57:Int)<(s[0].toNat:Int)
   ·rw[decide_eq_true b,decide_eq_false (show ¬s[0].toNat≤57 by omega)];rfl
   ·rw[decide_eq_false b,decide_eq_true (show s[0].toNat≤57 by omega)];rfl
theorem rtasset_any(s:ByteArray)(w:World)(hs:s.size≤4611686018427387904):Calls Tryz.prog 59 #[.string s] w (GiveB w (astB s.data.toList)):=by
 have C:=zh (calm (rbname_any s w hs));have b0:=Below.refl w.heap.size w
 cases hn:isName s.data.toList with
 | false =>
  rw[hn]at C;have HA:=zh (ast_no hn);clear hn;go_enter Tryz.func59,Tryz.ntmps59;go_wp2_with fail;refine C.out.mono ?_;rintro e w' ⟨rfl,b⟩;have b1:=Below.more b0 b;clear b;go_wp2_with fail;go_ret;exact⟨ret_bool (by rw[HA.out]),b1⟩
 | true =>
  rw[hn]at C;have h0:0<s.size:=by
   have e:=size_toList s;have:s.data.toList≠[]:=fun e=>by rw[e]at hn;cases hn
   have:=List.length_pos_iff.2 this;omega
  have h0i:(0:Int)<(s.size:Int):=by omega
  have HA0:=ast_at hn h0;clear hn;by_cases a:(s[0].toNat:Int)=33
  ·have HA:Hid (astB s.data.toList=false):=zh (by rw[HA0,decide_eq_true a];rfl);have q1:((s[0].toNat:Int) != 33)=false:=by rw[bne_eq_false_iff_eq];exact a
   clear HA0 a;go_enter Tryz.func59,Tryz.ntmps59;go_wp2_with fail;refine C.out.mono ?_;rintro e w' ⟨rfl,b⟩;have b1:=Below.more b0 b;clear b;go_wp2_with fail;go_ret;exact⟨ret_bool (by rw[HA.out]),b1⟩
  ·have q1:((s[0].toNat:Int) != 33)=true:=by rw[bne_iff_ne];exact a
   rw[decide_eq_false a]at HA0;clear a;by_cases k:(s[0].toNat:Int)<48
   ·have HA:Hid (astB s.data.toList=true):=zh (by rw[HA0,decide_eq_true k];rfl);have q2:decide ((s[0].toNat:Int)<48)=true:=decide_eq_true k;clear HA0;go_enter Tryz.func59,Tryz.ntmps59;go_wp2_with fail;refine C.out.mono ?_;rintro e w' ⟨rfl,b⟩;have b1:=Below.more b0 b;clear b;go_wp2_with fail;go_ret;exact⟨ret_bool (by rw[HA.out]),b1⟩
   ·have q2:decide ((s[0].toNat:Int)<48)=false:=decide_eq_false k;have HA:Hid (astB s.data.toList=decide ((57:Int)<(s[0].toNat:Int))):=zh (by rw[HA0,decide_eq_false k];rfl);clear HA0;go_enter Tryz.func59,Tryz.ntmps59;go_wp2_with fail;refine C.out.mono ?_;rintro e w' ⟨rfl,b⟩;have b1:=Below.more b0 b;clear b;go_wp2_with fail;go_ret;exact⟨ret_bool (by rw[HA.out]),b1⟩
end Go.Proofs.YtmllklfjngapiaaGreatDoor
namespace Go.Proofs.YtmllklfjngapiaaGreatDoor
open Go.RowKit
open Tm (Nd Tr arN arI formB stk fl dp ds mx mkT depthT)
end Go.Proofs.YtmllklfjngapiaaGreatDoor
