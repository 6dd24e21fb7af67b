/- Own work. -/
import Derived.Test.YthgopcnagecbaaaGreatDoorAllPk1
set_option linter.unusedSimpArgs false
set_option linter.unusedVariables false
set_option maxHeartbeats 4000000
set_option maxRecDepth 100000
namespace Go.Proofs.YthgopcnagecbaaaGreatDoor
open Go.RowKit
open Pk (Part Pack mayP valueP keepsP ofP)
open Pk (FromA asset_less own_get)
theorem ofc_any(a:List UInt8)(d:Int)(n e s:List UInt8)(w:World):Calls Tryz.prog 67 #[.agg #[.string ⟨a.toArray⟩,.int .i64 d,.string ⟨n.toArray⟩,.string ⟨e.toArray⟩],.string ⟨s.toArray⟩] w (GiveI w (Lib.compareBytes a s)):=by
 have C1:=zh (fun w=>scmp_any a s w);go_enter Tryz.func67,Tryz.ntmps67;go_wp2_with fail;obtain⟨U1,hU,bU,s1,kx⟩:=layN (Below.refl w.heap.size w) #[.string ⟨a.toArray⟩,.int .i64 d,.string ⟨n.toArray⟩,.string ⟨e.toArray⟩] 47;rw[hU];clear hU s1;have qx:=kx 0 _ rfl U1 (Below.refl _ _);clear kx;go_wp2_with fail;refine(C1.out _).mono ?_;rintro e w3 ⟨rfl,b⟩;go_wp2_with fail;go_ret;exact⟨rfl,Below.more bU b⟩
def GiveFrom(w:World)(l:List Fx.Fix)(s:List UInt8)(e:Ending)(w':World):Prop:=(∃ (i:Nat) (b:Bool),e=.returned (.tuple #[.int .i64 i,.bool b])∧FromA l s i)∧Below w.heap.size w w'
theorem cmp_less(a b:List UInt8):Lib.compareBytes a b<0↔Op.bytesLess a b=true:=by
 rcases less_cases a b with h|h|h
 ·rw[cmp_lt h,h];simp
 ·rw[h,cmp_self,less_irrefl];simp
 ·rw[cmp_gt h];have:Op.bytesLess a b=false:=by
   cases e:Op.bytesLess a b with
   | false=>rfl
   | true=>have:=less_trans e h;rw[less_irrefl]at this;cases this
  rw[this];simp
theorem fx_in{w:World}{p q:Option Addr}{c i:Nat}{m:List Fx.Fix}(h:RowsG encFx 4 w (if c=i then p else q) m)(hc:c=i):RowsG encFx 4 w p m:=by
 rw[if_pos hc]at h;exact h
theorem fx_map{w:World}{p q:Option Addr}{c i:Nat}{m:List Fx.Fix}(h:RowsG encFx 4 w (if c=i then p else q) m)(h0:c=i→m=[]):RowsG encFx 4 w q m:=by
 by_cases hc:c=i
 ·rw[h0 hc];exact RowsG.nil _ _
 ·rw[if_neg hc]at h;exact h
theorem rows_dropS{α:Type}{enc:α→List Value}{k:Nat}{w:World}{b o:Nat}{l:List α}(h:RowsG enc k w (some ⟨b,o,none⟩) l)(i:Nat):RowsG enc k w (some ⟨b,o+i*k,none⟩) (l.drop i):=fun j x hx=>by
 rw[List.getElem?_drop]at hx;obtain⟨b',o',hp,hl,c⟩:=h (i+j) x hx
 cases hp
 rw[Nat.add_mul,← Nat.add_assoc]at c;exact⟨b,o+i*k,rfl,hl,c⟩
theorem bsearch_any(p:Option Addr)(c:Nat)(l:List Fx.Fix)(s:List UInt8)(w:World)(hc:l.length≤c)(hl:l.length≤1000000)(hp:(l.Pairwise fun x y=>Fx.lessF x.1 y.1=true))(h:Fxs w p l) :
  Calls Tryz.prog 66 #[.slice p l.length c,.string ⟨s.toArray⟩,.func (.func 67) #[] #[]] w (GiveFrom w l s):=by
 have HS:=zh h;have HP:=zh hp
 clear h hp;go_enter Tryz.func66,Tryz.ntmps66
 go_wp2
 go_loopw [9,10] (fun x y wr=>∃lo hi:Nat,x=.int .i64 lo∧y=.int .i64 hi∧lo≤hi∧hi≤l.length∧Hid (∀t x,t<lo→l[t]?=some x→Op.bytesLess x.1.1 s=true)∧Hid (∀t x,hi≤t→l[t]?=some x→Op.bytesLess x.1.1 s=false)∧Below w.heap.size w wr) (fun x y _=>(intOf y).toNat-(intOf x).toNat)
 case atStart=>exact⟨0,l.length,rfl,rfl,Nat.zero_le _,Nat.le_refl _,fun t _ h=>absurd h (Nat.not_lt_zero t),fun t x h e=>absurd (List.getElem?_eq_some_iff.1 e).1 (by omega),Below.refl _ _⟩
 case round =>
  obtain⟨lo,hi,rfl,rfl,hlh,hil,HLo,HHi,hw⟩:=hrel;by_cases hlt:lo<hi
  ·obtain⟨m,hm⟩:∃m,m=(lo+hi) / 2:=⟨_,rfl⟩;have hmi:((lo:Int)+(hi:Int)) / 2=(m:Int):=by omega
   have hmn:(lo+hi) / 2=m:=hm.symm;have hml:m<l.length:=by omega
   have hm1:lo≤m:=by omega
   have hm2:m<hi:=by omega
   clear hm;obtain⟨⟨⟨a',d'⟩,⟨n',e'⟩⟩,hx⟩:∃x,l[m]?=some x:=⟨_,List.getElem?_eq_getElem (by omega)⟩;obtain⟨b,o,rfl,k0,k1,k2,k3⟩:=fx_rule (HS.out.below hw) hx;have co:=fun w=>ofc_any a' d' n' e' s w;by_cases hq:Lib.compareBytes a' s<0
   ·have HT:Hid (∀t x,t<m+1→l[t]?=some x→Op.bytesLess x.1.1 s=true):=zh fun t y ht hy=>asset_less HP.out (show t≤m by omega) hy hx ((cmp_less _ _).1 hq);generalize Lib.compareBytes a' s=q at *;have CO:=zh co;have HW:=zh hw;have b0:=Below.refl wr.heap.size wr;have j0:=k0 wr b0;have j1:=k1 wr b0;have j2:=k2 wr b0;have j3:=k3 wr b0
    clear co hx hw;go_wp2_with fail;refine(CO.out _).mono ?_;rintro e1 w1 ⟨rfl,b1⟩;go_wp2_with fail;go_roundw
    case rel=>exact⟨m+1,hi,by go_num,rfl,by omega,hil,HT.out,HHi.out,Below.more HW.out b1⟩
    case measure=>simp[intOf];omega
   ·have HT:Hid (∀t x,m≤t→l[t]?=some x→Op.bytesLess x.1.1 s=false):=zh fun t y ht hy=>by
     cases e:Op.bytesLess y.1.1 s with
     | false=>rfl
     | true=>exact absurd ((cmp_less _ _).2 (asset_less HP.out ht hx hy e)) hq
    generalize Lib.compareBytes a' s=q at *;have CO:=zh co;have HW:=zh hw;have b0:=Below.refl wr.heap.size wr;have j0:=k0 wr b0;have j1:=k1 wr b0;have j2:=k2 wr b0;have j3:=k3 wr b0
    clear co hx hw;go_wp2_with fail;refine(CO.out _).mono ?_;rintro e1 w1 ⟨rfl,b1⟩;go_wp2_with fail;go_roundw
    case rel=>exact⟨lo,m,rfl,rfl,hm1,by omega,HLo.out,HT.out,Below.more HW.out b1⟩
    case measure=>simp[intOf];omega
  ·obtain rfl:hi=lo:=by omega
   have HF:Hid (FromA l s hi):=zh ⟨hil,HLo.out,HHi.out⟩;by_cases hn:hi<l.length
   ·obtain⟨⟨⟨a',d'⟩,⟨n',e'⟩⟩,hx⟩:∃x,l[hi]?=some x:=⟨_,List.getElem?_eq_getElem (by omega)⟩;obtain⟨b,o,rfl,k0,k1,k2,k3⟩:=fx_rule (HS.out.below hw) hx;have co:=fun w=>ofc_any a' d' n' e' s w;generalize Lib.compareBytes a' s=q at *;have CO:=zh co;have HW:=zh hw;have b0:=Below.refl wr.heap.size wr;have j0:=k0 wr b0;have j1:=k1 wr b0;have j2:=k2 wr b0;have j3:=k3 wr b0
    clear co hx hw;go_wp2_with fail;refine(CO.out _).mono ?_;rintro e1 w1 ⟨rfl,b1⟩;go_wp2_with fail
    go_ret2
    exact⟨⟨hi,_,rfl,HF.out⟩,Below.more HW.out b1⟩
   ·go_wp2_with fail
    go_ret2
    exact⟨⟨hi,_,rfl,HF.out⟩,hw⟩
def GiveOwn(w:World)(l:List Fx.Fix)(s:List UInt8)(e:Ending)(w':World):Prop:=(∃q c m,e=.returned (.slice q m.length c)∧m.length≤c∧m.length≤l.length∧(∀x∈m,x∈l)∧Fxs w' q m∧∀d,Fx.getF m (s,d)=Fx.getF l (s,d))∧Below w.heap.size w w'
theorem own_any(p:Option Addr)(c:Nat)(l:List Fx.Fix)(s:List UInt8)(w:World)(hc:l.length≤c)(hl:l.length≤1000000)(hm:Fx.mayF l=true)(h:Fxs w p l) :
  Calls Tryz.prog 31 #[.slice p l.length c,.string ⟨s.toArray⟩] w (GiveOwn w l s):=by
 have CB:=zh (bsearch_any p c l s w hc hl (Fx.good_iffF.1 hm).2 h);have HS:=zh h;have HM:=zh hm
 clear h hm;go_enter Tryz.func31,Tryz.ntmps31;go_wp2_with fail;refine CB.out.mono ?_;rintro e0 w0 ⟨⟨i,z,rfl,hf⟩,b0⟩;have HF:=zh hf;have hi:=hf.1;clear hf CB;go_wp2_with fail
 go_loopw [7] (fun x wr=>∃j:Nat,i≤j∧j≤l.length∧x=.int .i64 j∧Hid (∀t x,i≤t→t<j→l[t]?=some x→x.1.1=s)∧Below w.heap.size w wr) (fun x _=>l.length-(intOf x).toNat)
 case atStart=>exact⟨i,Nat.le_refl _,hi,rfl,fun t x h1 h2=>absurd h2 (by omega),b0⟩
 case round =>
  clear b0;obtain⟨j,hij,hjl,rfl,HJ,hw⟩:=hrel;have END:Hid ((∀x,l[j]?=some x→x.1.1≠s)→∀d,Fx.getF ((l.drop i).take (j-i)) (s,d)=Fx.getF l (s,d)):=zh (fun h2 d=>own_get HM.out HF.out hij hjl HJ.out h2 d);have HL:Hid (((l.drop i).take (j-i)).length=j-i):=zh (by rw[List.length_take,List.length_drop];omega);have HIN:Hid (∀x∈(l.drop i).take (j-i),x∈l):=zh (fun x hx=>List.mem_of_mem_drop (List.mem_of_mem_take hx));by_cases hlt:j<l.length
  ·obtain⟨⟨⟨a',d'⟩,⟨n',e'⟩⟩,hx⟩:∃x,l[j]?=some x:=⟨_,List.getElem?_eq_getElem (by omega)⟩;obtain⟨b,o,hp,k0,k1,k2,k3⟩:=fx_rule (HS.out.below hw) hx;have j0:=k0 wr (Below.refl _ _)
   cases q0:(a'==s) with
   | true =>
    have HN:Hid (∀t x,i≤t→t<j+1→l[t]?=some x→x.1.1=s):=zh (fun t x h1 h2 h3=>by
     rcases Nat.lt_succ_iff_lt_or_eq.1 h2 with h|h
     ·exact HJ.out t x h1 h h3
     ·rw[h,hx]at h3;cases h3;exact beq_iff_eq.1 q0)
    subst hp;clear k0 k1 k2 k3 hx END HL HIN;go_wp2_with fail;go_roundw
    case rel=>exact⟨j+1,by omega,hlt,by go_num,HN.out,hw⟩
    case measure=>simp[intOf];omega
   | false =>
    have HR:=zh (END.out (fun x h=>by rw[hx]at h;cases h;exact fun (e:a'=s)=>by rw[e]at q0;simp at q0));subst hp;have HT:=zh (rows_takes (rows_dropS (HS.out.below hw) i) (j-i));clear k0 k1 k2 k3 hx END;go_wp2_with fail;go_ret;exact⟨⟨_,c-i,(l.drop i).take (j-i),by rw[HL.out];rfl,by rw[HL.out];omega,by rw[HL.out];omega,HIN.out,HT.out,HR.out⟩,hw⟩
  ·obtain rfl:j=l.length:=by omega
   have HR:=zh (END.out (fun x h=>by rw[List.getElem?_eq_none (Nat.le_refl _)]at h;cases h));have HT:=zh (rows_takes (rows_drops (i:=i) (HS.out.below hw) hc) (l.length-i));clear END;go_wp2_with fail
   all_goals go_ret
   all_goals (refine⟨⟨_,_,(l.drop i).take (l.length-i),by rw[HL.out];rfl,by rw[HL.out];omega,by rw[HL.out];omega,HIN.out,?_,HR.out⟩,hw⟩)
   all_goals first
    | exact fx_in HT.out rfl
    | exact fx_in HT.out (by assumption)
    | exact fx_map HT.out (fun hc=>List.length_eq_zero_iff.1 (by rw[HL.out];omega))
end Go.Proofs.YthgopcnagecbaaaGreatDoor
