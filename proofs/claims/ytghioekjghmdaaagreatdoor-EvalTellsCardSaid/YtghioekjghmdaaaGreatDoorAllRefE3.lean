/- Own work. -/
import Derived.Test.YtghioekjghmdaaaGreatDoorAllRefEM
set_option linter.unusedSimpArgs false
set_option linter.unusedVariables false
set_option maxHeartbeats 4000000
set_option maxRecDepth 100000
namespace Go.Proofs.YtghioekjghmdaaaGreatDoor
open Go.RowKit
namespace Ev
open Fx (FK lessF)
def zf(k:FK):Fx.Fix:=(k,([],[]))
def stW(k:FK)(s:List FK×Bool)(x:FK):List FK×Bool :=
 if s.2=false∧lessF x k=false then (if x=k then (s.1++[k],true) else (s.1++[k]++[x],true)) else if x=k then s else (s.1++[x],s.2)
def enW(k:FK)(s:List FK×Bool):List FK:=if s.2=true then s.1 else s.1++[k]
theorem stW_all{k:FK}:∀ (l:List FK) (u:List FK),(∀x∈l,lessF k x=true)→l.foldl (stW k) (u,true)=(u++l,true)
 | [],u,_=>by simp
 | x::l,u,h=>by
  have hx:¬x=k:=fun e=>Fx.lt_ne (h x (List.mem_cons_self ..)) e.symm;have e:stW k (u,true) x=(u++[x],true):=by unfold stW;simp[hx]
  rw[List.foldl_cons,e,stW_all l _ fun y hy=>h y (List.mem_cons_of_mem _ hy)];simp
theorem stW_ins{k:FK}:∀ (l:List FK) (u:List FK),SortK l→enW k (l.foldl (stW k) (u,false))=u++insK l k
 | [],u,_=>rfl
 | x::l,u,h=>by
  obtain⟨h1,h2⟩:=List.pairwise_cons.1 h;rw[List.foldl_cons];unfold insK
  cases hx:lessF x k with
  | true =>
   have e:stW k (u,false) x=(u++[x],false):=by unfold stW;simp[hx,Fx.lt_ne hx]
   rw[e,stW_ins l _ h2];simp
  | false =>
   by_cases hk:x=k
   ·have e:stW k (u,false) x=(u++[k],true):=by unfold stW;rw[if_pos ⟨rfl,hx⟩,if_pos hk]
    rw[e,stW_all l _ fun y hy=>hk▸h1 y hy];simp[enW,hk]
   ·have hl:lessF k x=true:=by
     rcases Fx.lt_cases x k with c|c|c
     ·rw[hx]at c;cases c
     ·exact absurd c hk
     ·exact c
    have e:stW k (u,false) x=(u++[k]++[x],true):=by unfold stW;simp[hx,hk]
    rw[e,stW_all l _ fun y hy=>Fx.lt_trans hl (h1 y hy)];simp[enW,hk]
theorem stW_len(k:FK):∀ (l:List FK) (s:List FK×Bool),(l.foldl (stW k) s).1.length≤s.1.length+2*l.length
 | [],s=>by simp
 | x::l,s=>by
  rw[List.foldl_cons];have h:=stW_len k l (stW k s x);have h1:(stW k s x).1.length≤s.1.length+2:=by unfold stW;split<;>split<;>simp
  rw[List.length_cons];omega
end Ev
open Ev (zf stW enW insK SortK)
theorem rewith_any(p:Option Addr)(c:Nat)(ks:List Fx.FK)(a:List UInt8)(d:Int)(w:World)(hc:ks.length≤c)(hl:ks.length≤1000000)(hs:SortK ks)(h:Fxs w p (ks.map zf)) :
  Calls Tryz.prog 39 #[.slice p ks.length c,.agg #[.string ⟨a.toArray⟩,.int .i64 d,.string ⟨#[]⟩,.string ⟨#[]⟩]] w (GiveX w ((insK ks (a,d)).map zf)):=by
 go_enter Tryz.func39,Tryz.ntmps39
 go_upto_region 1 with fail
 obtain⟨U,hU,BW,s1,r0,r1,r2,r3⟩:=lay4 (Below.refl w.heap.size w) (.string ⟨a.toArray⟩) (.int .i64 d) (.string ⟨#[]⟩) (.string ⟨#[]⟩) 39;rw[hU];clear hU s1;have HS:=zh (h.below BW);have hO0:=ownG_empty (enc:=encFx) (k:=4) (e:=39) U (Nat.le_refl _);have hW0:Below U.heap.size U (U.alloc (.cells #[] 39)):=Below.alloc (Below.refl _ _) (Nat.le_refl _) _;have HO0:=zh hO0;have HW0:=zh hW0;have HI:=zh (Ev.stW_ins (k:=(a,d)) ks [] hs);clear h hO0 hW0 hs;go_wp2_with fail
 go_loopw [5,6,7] (fun out lv i wr=>∃k:Nat,k≤ks.length∧∃ (fs:List Fx.FK) (lb:Bool),(ks.take k).foldl (stW (a,d)) ([],false)=(fs,lb)∧i=.int .i64 k∧lv=.bool lb∧OwnX U.heap.size wr out (fs.map zf)∧Below U.heap.size U wr) (fun _ _ i _=>ks.length-(intOf i).toNat)
 case atStart=>exact⟨0,Nat.zero_le _,[],false,rfl,rfl,rfl,HO0.out,HW0.out⟩
 case round =>
  clear HO0 HW0;obtain⟨k,hk,fs,lb,hst,rfl,rfl,hown,hw⟩:=hrel;by_cases hlt:k<ks.length
  ·obtain⟨⟨a',d'⟩,hx⟩:∃x,ks[k]?=some x:=⟨_,List.getElem?_eq_getElem hlt⟩;have hxz:(ks.map zf)[k]?=some ((a',d'),([],[])):=by rw[List.getElem?_map,hx];rfl
   obtain⟨b,o,rfl,k0,k1,k2,k3⟩:=fx_rule HS.out hxz;replace k2:∀v,Below U.heap.size U v→v.cell? ⟨b,o+k*4+2,none⟩=some (.string ⟨#[]⟩):=k2;replace k3:∀v,Below U.heap.size U v→v.cell? ⟨b,o+k*4+3,none⟩=some (.string ⟨#[]⟩):=k3;clear hxz;have ht:ks.take (k+1)=ks.take k++[(a',d')]:=by rw[List.take_add_one,hx];rfl
   have hln:fs.length≤2000000:=by
    have:=Ev.stW_len (a,d) (ks.take k) ([],false);rw[hst,List.length_take]at this;have hm:=Nat.min_le_left k ks.length;simp only[List.length_nil]at this;omega
   have hO:=zh hown;clear hown
   cases lb with
   | true =>
    by_cases e1:a'=a
    ·by_cases e2:d'=d
     ·have e3:(a'==a)=true:=by rw[e1];exact beq_self_eq_true _
      have HST:Hid ((ks.take (k+1)).foldl (stW (a,d)) ([],false)=(fs,true)):=zh (by
       rw[ht,List.foldl_append,hst];show stW (a,d) (fs,true) (a',d')=_;unfold stW;rw[if_neg (by simp),if_pos (by rw[e1,e2])])
      have HLN:Hid (fs.length≤2000000):=zh hln;clear ht hst hln hx e1;go_wp2_with fail
      go_quiet (fail)
      have O1:=zh (ownG_below (hO.out) (Below.drewN (Below.refl _ _) nq));have b1:Below U.heap.size U (wr.drewN nq):=Below.drewN (hw) nq;generalize wr.drewN nq=w1 at *;go_wp2_with fail
      go_quiet (fail)
      have O2:=zh (ownG_below (O1.out) (Below.drewN (Below.refl _ _) nq));have b2:Below U.heap.size U (w1.drewN nq):=Below.drewN (b1) nq;generalize w1.drewN nq=w2 at *;go_wp2_with fail;go_roundw
      case rel=>exact⟨k+1,hlt,_,_,HST.out,by go_num,rfl,O2.out,b2⟩
      case measure=>simp[intOf];omega
     ·have e3:(a'==a)=true:=by rw[e1];exact beq_self_eq_true _
      have HST:Hid ((ks.take (k+1)).foldl (stW (a,d)) ([],false)=(fs++[(a',d')],true)):=zh (by
       rw[ht,List.foldl_append,hst];show stW (a,d) (fs,true) (a',d')=_;unfold stW;rw[if_neg (by simp),if_neg (by intro h;injection h;contradiction)])
      have HLN:Hid (fs.length≤2000000):=zh hln;clear ht hst hln hx e1;go_wp2_with fail
      go_quiet (fail)
      have O1:=zh (ownG_below (hO.out) (Below.drewN (Below.refl _ _) nq));have b1:Below U.heap.size U (wr.drewN nq):=Below.drewN (hw) nq;generalize wr.drewN nq=w1 at *;go_wp2_with fail
      go_quiet (fail)
      have O2:=zh (ownG_below (O1.out) (Below.drewN (Below.refl _ _) nq));have b2:Below U.heap.size U (w1.drewN nq):=Below.drewN (b1) nq;generalize w1.drewN nq=w2 at *;go_wp2_with (at_builtin;refine haltG ?_);show wpList _ _ _ _ _ _;refine wpList_append_G rfl _ _ 24 39 rfl Tryz.underlying24 fxInfo rfl (by decide) (by decide) (fun _=>rfl) encFx_one U.heap.size _ ((fs).map zf) rfl (World.ownsRow.alloc (O2.out) _) ⟨w2.heap.size,0,none⟩ (zf (a',d')) 1 rfl (rowsOne (enc:=encFx) (k:=4) w2 (zf (a',d')) 39 _ rfl) (by rw[List.length_map];have:=HLN.out;omega) (Below.size (Below.alloc (b2) (Below.size (b2)) _)) ?_;intro v4 w4 ho hg hloc;have X4:Hid (OwnX U.heap.size w4 v4 (((fs)++[(a',d')]).map zf)):=zh (by rw[List.map_append];exact ho);have b4:Below U.heap.size U w4:=Below.grown (Below.alloc (b2) (Below.size (b2)) _) hg (Below.size (Below.alloc (b2) (Below.size (b2)) _)) fun j hj=>(World.ownsRow.lt (O2.out) j hj).1;clear ho hg hloc
      go_frame
      go_wp2_with fail;go_roundw
      case rel=>exact⟨k+1,hlt,_,_,HST.out,by go_num,rfl,X4.out,b4⟩
      case measure=>simp[intOf];omega
    ·have e3:(a'==a)=false:=beq_false_of_ne e1;have HST:Hid ((ks.take (k+1)).foldl (stW (a,d)) ([],false)=(fs++[(a',d')],true)):=zh (by
      rw[ht,List.foldl_append,hst];show stW (a,d) (fs,true) (a',d')=_;unfold stW;rw[if_neg (by simp),if_neg (by intro h;injection h;contradiction)])
     have HLN:Hid (fs.length≤2000000):=zh hln;clear ht hst hln hx;go_wp2_with fail
     go_quiet (fail)
     have O1:=zh (ownG_below (hO.out) (Below.drewN (Below.refl _ _) nq));have b1:Below U.heap.size U (wr.drewN nq):=Below.drewN (hw) nq;generalize wr.drewN nq=w1 at *;go_wp2_with fail
     go_quiet (fail)
     have O2:=zh (ownG_below (O1.out) (Below.drewN (Below.refl _ _) nq));have b2:Below U.heap.size U (w1.drewN nq):=Below.drewN (b1) nq;generalize w1.drewN nq=w2 at *;go_wp2_with (at_builtin;refine haltG ?_);show wpList _ _ _ _ _ _;refine wpList_append_G rfl _ _ 24 39 rfl Tryz.underlying24 fxInfo rfl (by decide) (by decide) (fun _=>rfl) encFx_one U.heap.size _ ((fs).map zf) rfl (World.ownsRow.alloc (O2.out) _) ⟨w2.heap.size,0,none⟩ (zf (a',d')) 1 rfl (rowsOne (enc:=encFx) (k:=4) w2 (zf (a',d')) 39 _ rfl) (by rw[List.length_map];have:=HLN.out;omega) (Below.size (Below.alloc (b2) (Below.size (b2)) _)) ?_;intro v4 w4 ho hg hloc;have X4:Hid (OwnX U.heap.size w4 v4 (((fs)++[(a',d')]).map zf)):=zh (by rw[List.map_append];exact ho);have b4:Below U.heap.size U w4:=Below.grown (Below.alloc (b2) (Below.size (b2)) _) hg (Below.size (Below.alloc (b2) (Below.size (b2)) _)) fun j hj=>(World.ownsRow.lt (O2.out) j hj).1;clear ho hg hloc
     go_frame
     go_wp2_with fail;go_roundw
     case rel=>exact⟨k+1,hlt,_,_,HST.out,by go_num,rfl,X4.out,b4⟩
     case measure=>simp[intOf];omega
   | false =>
    by_cases e1:a'=a
    ·have e0:Op.bytesLess a a'=false:=by rw[e1];exact less_irrefl _
     by_cases e4:d≤d'
     ·have hf:Fx.lessF (a',d') (a,d)=false:=by unfold Fx.lessF;rw[e1,less_irrefl,decide_eq_false (by simp only;omega),Bool.and_false];rfl
      by_cases e2:d'=d
      ·have e3:(a'==a)=true:=by rw[e1];exact beq_self_eq_true _
       have HST:Hid ((ks.take (k+1)).foldl (stW (a,d)) ([],false)=(fs++[(a,d)],true)):=zh (by
        rw[ht,List.foldl_append,hst];show stW (a,d) (fs,false) (a',d')=_;unfold stW;rw[if_pos ⟨rfl,hf⟩,if_pos (by rw[e1,e2])])
       have HLN:Hid (fs.length≤2000000):=zh hln;clear ht hst hln hx e1;go_wp2_with fail
       go_quiet (fail)
       have O1:=zh (ownG_below (hO.out) (Below.drewN (Below.refl _ _) nq));have b1:Below U.heap.size U (wr.drewN nq):=Below.drewN (hw) nq;generalize wr.drewN nq=w1 at *;go_wp2_with (at_builtin;refine haltG ?_);show wpList _ _ _ _ _ _;refine wpList_append_G rfl _ _ 24 39 rfl Tryz.underlying24 fxInfo rfl (by decide) (by decide) (fun _=>rfl) encFx_one U.heap.size _ ((fs).map zf) rfl (World.ownsRow.alloc (O1.out) _) ⟨w1.heap.size,0,none⟩ (zf (a,d)) 1 rfl (rowsOne (enc:=encFx) (k:=4) w1 (zf (a,d)) 39 _ rfl) (by rw[List.length_map];have:=HLN.out;omega) (Below.size (Below.alloc (b1) (Below.size (b1)) _)) ?_;intro v3 w3 ho hg hloc;have X3:Hid (OwnX U.heap.size w3 v3 (((fs)++[(a,d)]).map zf)):=zh (by rw[List.map_append];exact ho);have b3:Below U.heap.size U w3:=Below.grown (Below.alloc (b1) (Below.size (b1)) _) hg (Below.size (Below.alloc (b1) (Below.size (b1)) _)) fun j hj=>(World.ownsRow.lt (O1.out) j hj).1;clear ho hg hloc
       go_frame
       go_wp2_with fail
       go_quiet (fail)
       have O2:=zh (ownG_below (X3.out) (Below.drewN (Below.refl _ _) nq));have b2:Below U.heap.size U (w3.drewN nq):=Below.drewN (b3) nq;generalize w3.drewN nq=w2 at *;go_wp2_with fail;go_roundw
       case rel=>exact⟨k+1,hlt,_,_,HST.out,by go_num,rfl,O2.out,b2⟩
       case measure=>simp[intOf];omega
      ·have e3:(a'==a)=true:=by rw[e1];exact beq_self_eq_true _
       have HST:Hid ((ks.take (k+1)).foldl (stW (a,d)) ([],false)=(fs++[(a,d)]++[(a',d')],true)):=zh (by
        rw[ht,List.foldl_append,hst];show stW (a,d) (fs,false) (a',d')=_;unfold stW;rw[if_pos ⟨rfl,hf⟩,if_neg (by intro h;injection h;contradiction)])
       have HLN:Hid (fs.length≤2000000):=zh hln;clear ht hst hln hx e1;go_wp2_with fail
       go_quiet (fail)
       have O1:=zh (ownG_below (hO.out) (Below.drewN (Below.refl _ _) nq));have b1:Below U.heap.size U (wr.drewN nq):=Below.drewN (hw) nq;generalize wr.drewN nq=w1 at *;go_wp2_with (at_builtin;refine haltG ?_);show wpList _ _ _ _ _ _;refine wpList_append_G rfl _ _ 24 39 rfl Tryz.underlying24 fxInfo rfl (by decide) (by decide) (fun _=>rfl) encFx_one U.heap.size _ ((fs).map zf) rfl (World.ownsRow.alloc (O1.out) _) ⟨w1.heap.size,0,none⟩ (zf (a,d)) 1 rfl (rowsOne (enc:=encFx) (k:=4) w1 (zf (a,d)) 39 _ rfl) (by rw[List.length_map];have:=HLN.out;omega) (Below.size (Below.alloc (b1) (Below.size (b1)) _)) ?_;intro v3 w3 ho hg hloc;have X3:Hid (OwnX U.heap.size w3 v3 (((fs)++[(a,d)]).map zf)):=zh (by rw[List.map_append];exact ho);have b3:Below U.heap.size U w3:=Below.grown (Below.alloc (b1) (Below.size (b1)) _) hg (Below.size (Below.alloc (b1) (Below.size (b1)) _)) fun j hj=>(World.ownsRow.lt (O1.out) j hj).1;clear ho hg hloc
       go_frame
       go_wp2_with fail
       go_quiet (fail)
       have O2:=zh (ownG_below (X3.out) (Below.drewN (Below.refl _ _) nq));have b2:Below U.heap.size U (w3.drewN nq):=Below.drewN (b3) nq;generalize w3.drewN nq=w2 at *;go_wp2_with (at_builtin;refine haltG ?_);show wpList _ _ _ _ _ _;refine wpList_append_G rfl _ _ 24 39 rfl Tryz.underlying24 fxInfo rfl (by decide) (by decide) (fun _=>rfl) encFx_one U.heap.size _ ((fs++[(a,d)]).map zf) rfl (World.ownsRow.alloc (O2.out) _) ⟨w2.heap.size,0,none⟩ (zf (a',d')) 1 rfl (rowsOne (enc:=encFx) (k:=4) w2 (zf (a',d')) 39 _ rfl) (by rw[List.length_map,List.length_append];have:=HLN.out;simp only[List.length_singleton];omega) (Below.size (Below.alloc (b2) (Below.size (b2)) _)) ?_;intro v4 w4 ho hg hloc;have X4:Hid (OwnX U.heap.size w4 v4 (((fs++[(a,d)])++[(a',d')]).map zf)):=zh (by rw[List.map_append];exact ho);have b4:Below U.heap.size U w4:=Below.grown (Below.alloc (b2) (Below.size (b2)) _) hg (Below.size (Below.alloc (b2) (Below.size (b2)) _)) fun j hj=>(World.ownsRow.lt (O2.out) j hj).1;clear ho hg hloc
       go_frame
       go_wp2_with fail;go_roundw
       case rel=>exact⟨k+1,hlt,_,_,HST.out,by go_num,rfl,X4.out,b4⟩
       case measure=>simp[intOf];omega
     ·have e2:¬d'=d:=by omega
      have hf:Fx.lessF (a',d') (a,d)=true:=by unfold Fx.lessF;rw[e1,beq_self_eq_true,decide_eq_true (by simp only;omega)];simp
      have e3:(a'==a)=true:=by rw[e1];exact beq_self_eq_true _
      have HST:Hid ((ks.take (k+1)).foldl (stW (a,d)) ([],false)=(fs++[(a',d')],false)):=zh (by
       rw[ht,List.foldl_append,hst];show stW (a,d) (fs,false) (a',d')=_;unfold stW;rw[if_neg (by rw[hf];simp),if_neg (by intro h;injection h;contradiction)])
      have HLN:Hid (fs.length≤2000000):=zh hln;clear ht hst hln hx e1;go_wp2_with fail
      go_quiet (fail)
      have O1:=zh (ownG_below (hO.out) (Below.drewN (Below.refl _ _) nq));have b1:Below U.heap.size U (wr.drewN nq):=Below.drewN (hw) nq;generalize wr.drewN nq=w1 at *;go_wp2_with fail
      go_quiet (fail)
      have O2:=zh (ownG_below (O1.out) (Below.drewN (Below.refl _ _) nq));have b2:Below U.heap.size U (w1.drewN nq):=Below.drewN (b1) nq;generalize w1.drewN nq=w2 at *;go_wp2_with (at_builtin;refine haltG ?_);show wpList _ _ _ _ _ _;refine wpList_append_G rfl _ _ 24 39 rfl Tryz.underlying24 fxInfo rfl (by decide) (by decide) (fun _=>rfl) encFx_one U.heap.size _ ((fs).map zf) rfl (World.ownsRow.alloc (O2.out) _) ⟨w2.heap.size,0,none⟩ (zf (a',d')) 1 rfl (rowsOne (enc:=encFx) (k:=4) w2 (zf (a',d')) 39 _ rfl) (by rw[List.length_map];have:=HLN.out;omega) (Below.size (Below.alloc (b2) (Below.size (b2)) _)) ?_;intro v4 w4 ho hg hloc;have X4:Hid (OwnX U.heap.size w4 v4 (((fs)++[(a',d')]).map zf)):=zh (by rw[List.map_append];exact ho);have b4:Below U.heap.size U w4:=Below.grown (Below.alloc (b2) (Below.size (b2)) _) hg (Below.size (Below.alloc (b2) (Below.size (b2)) _)) fun j hj=>(World.ownsRow.lt (O2.out) j hj).1;clear ho hg hloc
      go_frame
      go_wp2_with fail;go_roundw
      case rel=>exact⟨k+1,hlt,_,_,HST.out,by go_num,rfl,X4.out,b4⟩
      case measure=>simp[intOf];omega
    ·cases e0:Op.bytesLess a a' with
     | true =>
      have e5:Op.bytesLess a' a=false:=by
       cases h:Op.bytesLess a' a with
       | false=>rfl
       | true=>have:=less_trans e0 h;rw[less_irrefl]at this;cases this
      have hf:Fx.lessF (a',d') (a,d)=false:=Fx.lt_asym (a:=(a,d)) (b:=(a',d')) (by unfold Fx.lessF;rw[e0];rfl);have e3:(a'==a)=false:=beq_false_of_ne e1;have HST:Hid ((ks.take (k+1)).foldl (stW (a,d)) ([],false)=(fs++[(a,d)]++[(a',d')],true)):=zh (by
       rw[ht,List.foldl_append,hst];show stW (a,d) (fs,false) (a',d')=_;unfold stW;rw[if_pos ⟨rfl,hf⟩,if_neg (by intro h;injection h;contradiction)])
      have HLN:Hid (fs.length≤2000000):=zh hln;clear ht hst hln hx;go_wp2_with fail
      go_quiet (fail)
      have O1:=zh (ownG_below (hO.out) (Below.drewN (Below.refl _ _) nq));have b1:Below U.heap.size U (wr.drewN nq):=Below.drewN (hw) nq;generalize wr.drewN nq=w1 at *;go_wp2_with (at_builtin;refine haltG ?_);show wpList _ _ _ _ _ _;refine wpList_append_G rfl _ _ 24 39 rfl Tryz.underlying24 fxInfo rfl (by decide) (by decide) (fun _=>rfl) encFx_one U.heap.size _ ((fs).map zf) rfl (World.ownsRow.alloc (O1.out) _) ⟨w1.heap.size,0,none⟩ (zf (a,d)) 1 rfl (rowsOne (enc:=encFx) (k:=4) w1 (zf (a,d)) 39 _ rfl) (by rw[List.length_map];have:=HLN.out;omega) (Below.size (Below.alloc (b1) (Below.size (b1)) _)) ?_;intro v3 w3 ho hg hloc;have X3:Hid (OwnX U.heap.size w3 v3 (((fs)++[(a,d)]).map zf)):=zh (by rw[List.map_append];exact ho);have b3:Below U.heap.size U w3:=Below.grown (Below.alloc (b1) (Below.size (b1)) _) hg (Below.size (Below.alloc (b1) (Below.size (b1)) _)) fun j hj=>(World.ownsRow.lt (O1.out) j hj).1;clear ho hg hloc
      go_frame
      go_wp2_with fail
      go_quiet (fail)
      have O2:=zh (ownG_below (X3.out) (Below.drewN (Below.refl _ _) nq));have b2:Below U.heap.size U (w3.drewN nq):=Below.drewN (b3) nq;generalize w3.drewN nq=w2 at *;go_wp2_with (at_builtin;refine haltG ?_);show wpList _ _ _ _ _ _;refine wpList_append_G rfl _ _ 24 39 rfl Tryz.underlying24 fxInfo rfl (by decide) (by decide) (fun _=>rfl) encFx_one U.heap.size _ ((fs++[(a,d)]).map zf) rfl (World.ownsRow.alloc (O2.out) _) ⟨w2.heap.size,0,none⟩ (zf (a',d')) 1 rfl (rowsOne (enc:=encFx) (k:=4) w2 (zf (a',d')) 39 _ rfl) (by rw[List.length_map,List.length_append];have:=HLN.out;simp only[List.length_singleton];omega) (Below.size (Below.alloc (b2) (Below.size (b2)) _)) ?_;intro v4 w4 ho hg hloc;have X4:Hid (OwnX U.heap.size w4 v4 (((fs++[(a,d)])++[(a',d')]).map zf)):=zh (by rw[List.map_append];exact ho);have b4:Below U.heap.size U w4:=Below.grown (Below.alloc (b2) (Below.size (b2)) _) hg (Below.size (Below.alloc (b2) (Below.size (b2)) _)) fun j hj=>(World.ownsRow.lt (O2.out) j hj).1;clear ho hg hloc
      go_frame
      go_wp2_with fail;go_roundw
      case rel=>exact⟨k+1,hlt,_,_,HST.out,by go_num,rfl,X4.out,b4⟩
      case measure=>simp[intOf];omega
     | false =>
      have e5:Op.bytesLess a' a=true:=by
       rcases less_cases a' a with c|c|c
       ·exact c
       ·exact absurd c e1
       ·rw[e0]at c;cases c
      have hf:Fx.lessF (a',d') (a,d)=true:=by unfold Fx.lessF;rw[e5];rfl
      have e3:(a'==a)=false:=beq_false_of_ne e1;have HST:Hid ((ks.take (k+1)).foldl (stW (a,d)) ([],false)=(fs++[(a',d')],false)):=zh (by
       rw[ht,List.foldl_append,hst];show stW (a,d) (fs,false) (a',d')=_;unfold stW;rw[if_neg (by rw[hf];simp),if_neg (by intro h;injection h;contradiction)])
      have HLN:Hid (fs.length≤2000000):=zh hln;clear ht hst hln hx;go_wp2_with fail
      go_quiet (fail)
      have O1:=zh (ownG_below (hO.out) (Below.drewN (Below.refl _ _) nq));have b1:Below U.heap.size U (wr.drewN nq):=Below.drewN (hw) nq;generalize wr.drewN nq=w1 at *;go_wp2_with fail
      go_quiet (fail)
      have O2:=zh (ownG_below (O1.out) (Below.drewN (Below.refl _ _) nq));have b2:Below U.heap.size U (w1.drewN nq):=Below.drewN (b1) nq;generalize w1.drewN nq=w2 at *;go_wp2_with (at_builtin;refine haltG ?_);show wpList _ _ _ _ _ _;refine wpList_append_G rfl _ _ 24 39 rfl Tryz.underlying24 fxInfo rfl (by decide) (by decide) (fun _=>rfl) encFx_one U.heap.size _ ((fs).map zf) rfl (World.ownsRow.alloc (O2.out) _) ⟨w2.heap.size,0,none⟩ (zf (a',d')) 1 rfl (rowsOne (enc:=encFx) (k:=4) w2 (zf (a',d')) 39 _ rfl) (by rw[List.length_map];have:=HLN.out;omega) (Below.size (Below.alloc (b2) (Below.size (b2)) _)) ?_;intro v4 w4 ho hg hloc;have X4:Hid (OwnX U.heap.size w4 v4 (((fs)++[(a',d')]).map zf)):=zh (by rw[List.map_append];exact ho);have b4:Below U.heap.size U w4:=Below.grown (Below.alloc (b2) (Below.size (b2)) _) hg (Below.size (Below.alloc (b2) (Below.size (b2)) _)) fun j hj=>(World.ownsRow.lt (O2.out) j hj).1;clear ho hg hloc
      go_frame
      go_wp2_with fail;go_roundw
      case rel=>exact⟨k+1,hlt,_,_,HST.out,by go_num,rfl,X4.out,b4⟩
      case measure=>simp[intOf];omega
  ·obtain rfl:k=ks.length:=by omega
   rw[List.take_length]at hst;rw[hst]at HI;have hO:=zh hown;have HLN:Hid (fs.length≤2000000):=zh (by
    have:=Ev.stW_len (a,d) ks ([],false);rw[hst]at this;simp only[List.length_nil]at this;omega)
   clear hown hst
   cases lb with
   | true =>
    have HE:Hid (fs=insK ks (a,d)):=zh (HI.out.trans (List.nil_append _));clear HI;go_wp2_with fail;obtain⟨q,cq,rfl,hcq,hRq,_⟩:=ownG_rows (enc:=encFx) (k:=4) (fun _=>rfl) (hO.out);refine bodyPost_ret (v:=.slice q ((fs).map zf).length cq) (by simp[results,Tryz.results39,go_sem, *]) rfl ?_;rw[←HE.out];exact⟨⟨q,cq,rfl,hcq,hRq⟩,Below.more BW (hw)⟩
   | false =>
    have HE:Hid (fs++[(a,d)]=insK ks (a,d)):=zh (HI.out.trans (List.nil_append _));clear HI;go_wp2_with (at_builtin;refine haltG ?_);show wpList _ _ _ _ _ _;refine wpList_append_G rfl _ _ 24 39 rfl Tryz.underlying24 fxInfo rfl (by decide) (by decide) (fun _=>rfl) encFx_one U.heap.size _ ((fs).map zf) rfl (World.ownsRow.alloc (hO.out) _) ⟨wr.heap.size,0,none⟩ (zf (a,d)) 1 rfl (rowsOne (enc:=encFx) (k:=4) wr (zf (a,d)) 39 _ rfl) (by rw[List.length_map];have:=HLN.out;omega) (Below.size (Below.alloc (hw) (Below.size (hw)) _)) ?_;intro v3 w3 ho hg hloc;have X3:Hid (OwnX U.heap.size w3 v3 (((fs)++[(a,d)]).map zf)):=zh (by rw[List.map_append];exact ho);have b3:Below U.heap.size U w3:=Below.grown (Below.alloc (hw) (Below.size (hw)) _) hg (Below.size (Below.alloc (hw) (Below.size (hw)) _)) fun j hj=>(World.ownsRow.lt (hO.out) j hj).1;clear ho hg hloc
    go_frame
    go_wp2_with fail;obtain⟨q,cq,rfl,hcq,hRq,_⟩:=ownG_rows (enc:=encFx) (k:=4) (fun _=>rfl) (X3.out);refine bodyPost_ret (v:=.slice q ((fs++[(a,d)]).map zf).length cq) (by simp[results,Tryz.results39,go_sem, *]) rfl ?_;rw[←HE.out];exact⟨⟨q,cq,rfl,hcq,hRq⟩,Below.more BW (b3)⟩
end Go.Proofs.YtghioekjghmdaaaGreatDoor
