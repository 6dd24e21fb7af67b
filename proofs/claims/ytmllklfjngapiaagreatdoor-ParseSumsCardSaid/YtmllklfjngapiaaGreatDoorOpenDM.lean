/- Own work. -/
import Derived.Test.YtmllklfjngapiaaGreatDoorAllRefTcM
import Derived.Test.YtmllklfjngapiaaGreatDoorOpenAM
import Derived.Lib.Repeat
import Derived.Lib.TrimByte
import Derived.Handed
import Derived.Lay
import Derived.Shelf.Vars
set_option linter.unusedSimpArgs false
set_option linter.unusedVariables false
set_option maxHeartbeats 4000000
set_option maxRecDepth 100000
namespace Go.Proofs.YtmllklfjngapiaaGreatDoor
open Go.RowKit
open Tm (Nd Tr arN arI formB stk fl ps mkT printT leafP aboveP okN pr checkT depthT)
structure PrI(t:List Nd)(w:World)(k:Nat)(st:List Tr)(b o c:Nat):Prop where
 rows:RowsG encX 1 w (some ⟨b,o,none⟩) (ps st)
 cap:st.length≤c
 stk:stk t k=some st
 ok:∀j x,j<k→t[j]?=some x→okN x=true
theorem PrI.below{t:List Nd}{w w':World}{k:Nat}{st:List Tr}{b o c:Nat}(h:PrI t w k st b o c)(hb:Below w.heap.size w w'):PrI t w' k st b o c:=⟨h.rows.below hb,h.cap,h.stk,h.ok⟩
theorem ok_leaf{x:Nd}(h:okN x=true)(h0:arN x.op=some 0):(0≤x.op∧x.op≤4)∧x.num.1.length≤4000∧x.num.2.length≤4000∧x.ast.length≤4611686018427387904∧(-9223372036854775808≤x.a∧x.a≤9223372036854775807)∧(-9223372036854775808≤x.b∧x.b≤9223372036854775807):=by
 unfold okN at h;rcases Tm.ops0 h0 with e|e|e|e|e
 ·rw[if_pos e]at h;simp only[Bool.and_eq_true,decide_eq_true_eq,beq_iff_eq]at h;obtain⟨⟨h1,h2,h3⟩,h4,h5,h6⟩:=h;have:=Tm.w_len (Tm.isR_w h4).1;rw[h1];exact⟨⟨by omega,by omega⟩,by omega,by omega,Nat.zero_le _,⟨by omega,by omega⟩,⟨by omega,by omega⟩⟩
 ·rw[if_neg (by omega),if_pos e]at h;simp only[Bool.and_eq_true,decide_eq_true_eq,beq_iff_eq,Tm.astB]at h;obtain⟨⟨h1,h2⟩,⟨h3,_⟩,h4,h5⟩:=h;have:=Tm.name_len h3;rw[h1];exact⟨⟨by omega,by omega⟩,Nat.zero_le _,Nat.zero_le _,by omega,⟨by omega,by omega⟩,⟨by omega,by omega⟩⟩
 all_goals
  rw[if_neg (by omega),if_neg (by omega),if_pos (by omega)]at h;simp only[Bool.and_eq_true,decide_eq_true_eq,beq_iff_eq,Tm.astB]at h;obtain⟨h1,⟨h3,_⟩,h4,h5,h6,h7⟩:=h;have:=Tm.name_len h3;rw[h1];exact⟨⟨by omega,by omega⟩,Nat.zero_le _,Nat.zero_le _,by omega,⟨by omega,by omega⟩,⟨by omega,by omega⟩⟩
theorem heldX{P:Program}{f:FuncId}{args:Array Value}{w W:World}{v:Value}{B:Nat}(hB:B≤W.heap.size)(c:∀V,Below B W V→Calls P f args V fun e w'=>e=.returned v∧Below V.heap.size V w')(h:Below B W w) :
  Calls P f args w fun e w'=>e=.returned v∧Below w.heap.size w w'∧Below B W w':=(c w h).mono fun _ _ ⟨he,hb⟩=>⟨he,hb,h.trans (hb.mono (Nat.le_trans hB h.size))⟩
theorem rtprint_any(p:Option Addr)(c:Nat)(t:List Nd)(w:World)(HS:Hid (∀x∈t,x.num.1.length≤100000∧x.num.2.length≤100000∧x.ast.length≤4611686018427387904))(hT:Nds w p t):Calls Tryz.prog 11 #[.slice p t.length c] w (GiveU w (printT t)):=by
 have C:=zh (rtformed_any p c t w hT);have HT:=zh hT;clear hT
 cases hf:formB t with
 | false =>
  have hd:=Tm.print_form hf;rw[hd];rw[hf]at C;clear hf hd;have b0:=Below.refl w.heap.size w;go_enter Tryz.func11,Tryz.ntmps11;go_wp2_with fail;refine C.out.mono ?_;rintro e w1 ⟨rfl,b⟩;have b1:=Below.more b0 b;clear b;go_wp2_with fail;go_ret;exact⟨rfl,b1⟩
 | true =>
  have HF:=zh hf;rw[hf]at C;clear hf;have b0:=Below.refl w.heap.size w;obtain⟨tr,e1,e2,hwf,htr,hl1,hl2⟩:=Tm.form_stk HF.out;have HSK:=zh e1;have HTR:=zh e2;clear e1 e2 hwf htr;go_enter Tryz.func11,Tryz.ntmps11;go_wp2_with fail;refine C.out.mono ?_;rintro e w1 ⟨rfl,b⟩;have b1:=Below.more b0 b;have HT1:=zh (HT.out.below b);clear b C HT;go_wp2_with fail
  go_loopw [3,4,5,6] (fun sv iv nv uv wr=>∃ (k:Nat) (st:List Tr) (b o c:Nat),k≤t.length∧iv=.int .i64 k∧sv=.slice (some ⟨b,o,none⟩) st.length c∧PrI t wr k st b o c∧Below w1.heap.size w1 wr) (fun _ iv _ _ _=>t.length-(intOf iv).toNat)
  case atStart=>exact⟨0,[],w1.heap.size,0,0,Nat.zero_le _,rfl,by simp,⟨RowsG.nil _ _,Nat.le_refl _,rfl,fun j x h=>absurd h (Nat.not_lt_zero j)⟩,Below.step _ (Below.refl _ _)⟩
  case round =>
   obtain⟨k,st,b,o,cs,hk,rfl,rfl,hI,hw⟩:=hrel;have HW:=zh hw;have HI:=zh hI;clear hw hI;have hst:st.length≤t.length:=by
    have e:=Tm.stk_fl HI.out.stk hk;have:=Tm.len_fl st;omega
   by_cases hlt:k<t.length
   ·have hki:(k:Int)<(t.length:Int):=by omega
    obtain⟨x,hx⟩:∃x,t[k]?=some x:=⟨_,List.getElem?_eq_getElem hlt⟩;have HX:=zh hx;obtain⟨bp,op,rfl,k0,k1,k2,k3,k4,k5⟩:=nds_rule (HT1.out.below HW.out) hx;obtain⟨m,ha,hm⟩:=Tm.form_step HF.out hx HI.out.stk;obtain⟨n1,n2,n3⟩:=HS.out x (List.mem_of_getElem? hx);have CN:=zh (fun V=>rtnode_any x V n1 n2 n3);have HLT:=zh hlt;clear hx n1 n2 n3;have b0:=Below.refl wr.heap.size wr;go_wp2_with fail;refine(CN.out _).mono ?_;rintro e wa ⟨rfl,ba⟩
    cases hok:okN x with
    | false =>
     have HP:=zh (Tm.print_bad HX.out hok);have HW2:=zh (Below.more b1 (Below.more HW.out ba));clear hok ba;go_wp2_with fail;go_ret;exact⟨by rw[HP.out];rfl,HW2.out⟩
    | true =>
     have HOK:Hid (∀j y,j<k+1→t[j]?=some y→okN y=true):=zh fun j y hj hy=>by
      rcases Nat.lt_or_eq_of_le (Nat.le_of_lt_succ hj) with g|g
      ·exact HI.out.ok j y g hy
      ·subst g;rw[HX.out]at hy
       cases hy
       exact hok
     have hba:=Below.more b0 ba;clear b0;go_wp2_with fail;refine(rtarity_any x.op wa).mono ?_;rintro e wb ⟨rfl,bb⟩;have HW2:=zh (Below.more (Below.more HW.out ba) bb);have HI2:=zh ((HI.out.below ba).below bb);clear k0 k1 k2 k3 k4 k5;obtain⟨bp',op',hbp,k0,k1,k2,k3,k4,k5⟩:=nds_rule (((HT1.out.below HW.out).below ba).below bb) HX.out;have b2:=Below.refl wb.heap.size wb;clear ba bb hba;have hn:arI x.op=(m:Int):=by unfold arI;rw[ha]
     rw[hn];have S1:=zh (Tm.step_mk HX.out HI.out.stk ha hm);have h3:=Tm.arN_le ha;obtain⟨q,hq⟩:∃q,st.length=q+m:=⟨st.length-m,by omega⟩;have hsub:st.length-m=q:=by omega
     rw[hsub]at S1;obtain⟨R,hR⟩:∃R,R=(ps st).take q:=⟨_,rfl⟩;have HRL:Hid (R.length=q):=zh (by rw[hR,List.length_take,Tm.ps_len];omega);have HR:Hid (RowsG encX 1 wb (some ⟨b,o,none⟩) R):=zh fun j y hj=>HI2.out.rows j y (by
      rw[hR,List.getElem?_take]at hj;split at hj
      ·exact hj
      ·cases hj)
     obtain⟨u,hu⟩:∃u,u=pr (mkT x (st.drop q)):=⟨_,rfl⟩;have HDS:Hid (ps (st.take q++[mkT x (st.drop q)])=R++[u]):=zh (by
      unfold ps at hR ⊢;rw[List.map_append,List.map_take,← hR,List.map_singleton,← hu])
     have hdl:(st.drop q).length=m:=by rw[List.length_drop];omega
     have hpm:=Tm.pr_mk (x:=x) (l:=st.drop q) (by omega);have HQ:Hid (q≤2000):=zh (by omega);have hwr:wrap64 ((st.length:Int)-(m:Int))=(q:Int):=(IntWalk.wrap64_in _ ⟨by omega,by omega⟩).trans (by omega);have hwr2:IntKind.i64.wrap ((st.length:Int)-(m:Int))=(q:Int):=(IntWalk.i64_in _ (by omega)).trans (by omega);have hcap:=HI.out.cap;have hqc:q≤cs:=by omega
     have hqs:q≤st.length:=by omega
     cases hbp
     by_cases hm0:m=0
     ·subst hm0;obtain rfl:q=st.length:=by omega
      clear hq;have hnil:st.drop st.length=[]:=List.length_eq_zero_iff.1 hdl;rw[hpm,if_pos hnil]at hu;obtain⟨⟨g1,g2⟩,g3,g4,g5,g6,g7⟩:=ok_leaf hok ha;have CL:=zh (fun V=>rtleaf_any x V g1 g2 g3 g4 g5 g6 g7);rw[←hu]at CL;clear hn h3 hsub hR hu hpm hdl hnil g1 g2 g3 g4 g5 g6 g7 ha;clear hlt hok;go_wp2_with fail;refine(CL.out _).mono ?_;rintro e wz ⟨rfl,bz⟩;have HRZ:=zh (HR.out.below bz);have HWZ:=zh (Below.more HW2.out bz);clear bz k0 k1 k2 k3 k4 k5 b2;go_wp2_with (at_builtin;refine haltG ?_);show wpList _ _ _ _ _ _;have bN:Below wz.heap.size wz (wz.alloc (.cells #[] 9)):=Below.alloc (Below.refl _ _) (Nat.le_refl _) _;have oN:=ownG_empty (enc:=encX) (k:=1) (e:=9) (B:=wz.heap.size) wz (Nat.le_refl _);refine wpList_append_M rfl _ _ 60 9 rfl Tryz.underlying60 txInfo rfl (by decide) (by decide) (fun _=>rfl) encX_one wz.heap.size _ _ rfl oN (some ⟨b,o,none⟩) R cs (by rw[HRL.out];rfl) (RowsG.below HRZ.out bN) (by simp) (by rw[HRL.out];have:=HQ.out;omega) (Below.size bN) ?_;intro v1 w5 ho hgr hloc;have b5:=zh (Below.grown bN hgr (Below.size bN) fun j hj=>(World.ownsRow.lt oN j hj).1);rw[List.nil_append]at ho;have HO:=zh ho;clear ho hgr hloc oN bN;go_wp2_with (at_builtin;refine haltG ?_);show wpList _ _ _ _ _ _;refine wpList_append_G rfl _ _ 60 9 rfl Tryz.underlying60 txInfo rfl (by decide) (by decide) (fun _=>rfl) encX_one wz.heap.size _ _ rfl (World.ownsRow.alloc HO.out _) ⟨w5.heap.size,0,none⟩ u 1 rfl (rowsOne w5 u 9 _ rfl) (by rw[HRL.out];have:=HQ.out;omega) (by have:=b5.out.size;simp;omega) ?_
      intro v2 w6 ho hgr hloc;have b6:=zh (Below.grown (Below.alloc b5.out (Below.size b5.out) _) hgr (by have:=b5.out.size;simp;omega) fun j hj=>(World.ownsRow.lt HO.out j hj).1);obtain⟨p7,c7,rfl,hc7,l7,_⟩:=ownG_rows (enc:=encX) (k:=1) (fun _=>rfl) ho;obtain⟨b7,o7,rfl,_,_⟩:=l7 R.length u (by simp);have HW6:=zh (Below.more HWZ.out b6.out);have HN:Hid (PrI t w6 (k+1) (st.take st.length++[mkT x (st.drop st.length)]) b7 o7 c7):=zh ⟨by rw[HDS.out];exact l7,by rw[←Tm.ps_len,HDS.out];exact hc7,S1.out,HOK.out⟩;have HL7:Hid (R.length+1=(st.take st.length++[mkT x (st.drop st.length)]).length):=zh (by rw[←Tm.ps_len,HDS.out,List.length_append];rfl);clear ho hgr hloc HO b5 l7 hc7;go_wp2_with fail;go_roundw
      case rel=>exact⟨k+1,st.take st.length++[mkT x (st.drop st.length)],b7,o7,c7,by have:=HLT.out;omega,by go_num,by rw[HL7.out],HN.out,HW6.out⟩
      case measure=>have:=HLT.out;simp[intOf];omega
     ·have hne:¬st.drop q=[]:=fun e=>hm0 (by rw[←hdl,e];rfl);rw[hpm,if_neg hne]at hu;have hcq:¬cs=q:=by omega
      have hlen:Hid (∀y∈ps (st.drop q),y.length≤1000000000):=zh fun y hy=>by
       obtain⟨s,hs,rfl⟩:=List.mem_map.1 hy;have hs:=List.mem_of_mem_drop hs;obtain⟨w1',w2'⟩:=Tm.stk_ok HI.out.stk (HI.out.ok) s hs;have:=Tm.pr_len w1' w2';have:=Tm.one_fl hs;have:=Tm.stk_fl HI.out.stk hk;omega
      have hpl:(ps (st.drop q)).length=m:=by rw[Tm.ps_len];exact hdl
      have hrw:RowsG encX 1 wb (some ⟨b,o+q*1,none⟩) (ps (st.drop q)):=by
       have k:=RowsG.part HI2.out.rows q m;have e:((ps st).drop q).take m=ps (st.drop q):=by
        unfold ps;rw[←List.map_drop,List.take_of_length_le (by rw[List.length_map,hdl];exact Nat.le_refl _)]
       rw[e]at k;exact k
      have CA:Hid (∀V,Below wb.heap.size wb V→Calls Tryz.prog 29 #[.int .i64 x.op,.slice (some ⟨b,o+q,none⟩) m (cs-q)] V (GiveU V u)):=zh fun V hv=>by
       have k:=rtabove_any x.op (some ⟨b,o+q*1,none⟩) (cs-q) (ps (st.drop q)) V (by rw[hpl];exact ha) (by rw[hpl];omega) hlen.out (hrw.below hv);rw[hpl,← hu,Nat.mul_one]at k;exact k
      have hB:=zh (Nat.le_refl wb.heap.size);have hm0i:¬(m:Int)=0:=by omega
      have hm0b:((m:Int)==0)=false:=beq_false_of_ne hm0i;have hql:st.length-q=m:=by omega
      clear hn h3 hsub hR hu hpm hdl hne ha hpl hrw hlen k1 k2 k3 k4 k5;clear hlt hok hq;go_wp2_with fail
      go_region_held3 (fun w'=>Below wb.heap.size wb w')
       (first|(exact b2.drew)|(with_reducible assumption))
       (first|(go_at_call 29;(with_reducible refine(heldX (W:=wb) hB.out CA.out (by assumption)).mono ?_);rintro e w'' ⟨rfl,hb,hw⟩))
      generalize w''=wz at *;have HRZ:=zh (HR.out.below hw);have HWZ:=zh (Below.more HW2.out hw);clear hw hb b2 hB k0;go_wp2_with (at_builtin;refine haltG ?_);show wpList _ _ _ _ _ _;have bN:Below wz.heap.size wz (wz.alloc (.cells #[] 9)):=Below.alloc (Below.refl _ _) (Nat.le_refl _) _;have oN:=ownG_empty (enc:=encX) (k:=1) (e:=9) (B:=wz.heap.size) wz (Nat.le_refl _);refine wpList_append_M rfl _ _ 60 9 rfl Tryz.underlying60 txInfo rfl (by decide) (by decide) (fun _=>rfl) encX_one wz.heap.size _ _ rfl oN (some ⟨b,o,none⟩) R cs (by rw[HRL.out];rfl) (RowsG.below HRZ.out bN) (by simp) (by rw[HRL.out];have:=HQ.out;omega) (Below.size bN) ?_;intro v1 w5 ho hgr hloc;have b5:=zh (Below.grown bN hgr (Below.size bN) fun j hj=>(World.ownsRow.lt oN j hj).1);rw[List.nil_append]at ho;have HO:=zh ho;clear ho hgr hloc oN bN;go_wp2_with (at_builtin;refine haltG ?_);show wpList _ _ _ _ _ _;refine wpList_append_G rfl _ _ 60 9 rfl Tryz.underlying60 txInfo rfl (by decide) (by decide) (fun _=>rfl) encX_one wz.heap.size _ _ rfl (World.ownsRow.alloc HO.out _) ⟨w5.heap.size,0,none⟩ u 1 rfl (rowsOne w5 u 9 _ rfl) (by rw[HRL.out];have:=HQ.out;omega) (by have:=b5.out.size;simp;omega) ?_;intro v2 w6 ho hgr hloc;have b6:=zh (Below.grown (Below.alloc b5.out (Below.size b5.out) _) hgr (by have:=b5.out.size;simp;omega) fun j hj=>(World.ownsRow.lt HO.out j hj).1);obtain⟨p7,c7,rfl,hc7,l7,_⟩:=ownG_rows (enc:=encX) (k:=1) (fun _=>rfl) ho;obtain⟨b7,o7,rfl,_,_⟩:=l7 R.length u (by simp);have HW6:=zh (Below.more HWZ.out b6.out)
      have HN:Hid (PrI t w6 (k+1) (st.take q++[mkT x (st.drop q)]) b7 o7 c7):=zh ⟨by rw[HDS.out];exact l7,by rw[←Tm.ps_len,HDS.out];exact hc7,S1.out,HOK.out⟩;have HL7:Hid (R.length+1=(st.take q++[mkT x (st.drop q)]).length):=zh (by rw[←Tm.ps_len,HDS.out,List.length_append];rfl);clear ho hgr hloc HO b5 l7 hc7;go_wp2_with fail;go_roundw
      case rel=>exact⟨k+1,st.take q++[mkT x (st.drop q)],b7,o7,c7,by have:=HLT.out;omega,by go_num,by rw[HL7.out],HN.out,HW6.out⟩
      case measure=>have:=HLT.out;simp[intOf];omega
   ·obtain rfl:k=t.length:=by omega
    have e:=HI.out.stk.symm.trans HSK.out
    cases e
    obtain⟨b',o',hbo,_,c0⟩:=HI.out.rows 0 _ rfl
    cases hbo
    have c1:wr.cell? ⟨b,o,none⟩=some (.string ⟨(pr tr).toArray⟩):=by
     have:=c0 0 _ rfl
     simpa using this
    have HD:=zh (Tm.print_yes HF.out HTR.out fun x hx=>by
     obtain⟨i,hi⟩:=List.getElem?_of_mem hx;exact HI.out.ok i x ((List.getElem?_eq_some_iff.1 hi).1) hi)
    clear c0;go_wp2_with fail;go_ret;exact⟨by rw[HD.out];rfl,Below.more b1 HW.out⟩
end Go.Proofs.YtmllklfjngapiaaGreatDoor
namespace Go.Proofs.YtmllklfjngapiaaGreatDoor
open Go.RowKit
open Tm (Nd Tr arN arI formB joinT printT checkT depthT argsT plainN pxN nmN thN avN loN someT bothT)
variable {G : World → Prop}
def SzN(x:Nd):Prop:=(x.num.1.length≤100∧x.num.2.length≤100∧x.ast.length≤100)∧(-9223372036854775808≤x.op∧x.op≤9223372036854775807)∧(-9223372036854775808≤x.a∧x.a≤9223372036854775807)∧(-9223372036854775808≤x.b∧x.b≤9223372036854775807)
theorem rowsLit{α:Type}{enc:α→List Value}{k:Nat}(hk:∀x,(enc x).length=k)(w:World)(l:List α)(c:Array Value)(t:TypeId)(hc:c.toList=l.flatMap enc):RowsG enc k (w.alloc (.cells c t)) (some ⟨w.heap.size,0,none⟩) l:=fun j x hx =>
 ⟨_,_,rfl,by simp,fun i v hv=>by
  rw[Nat.zero_add];exact(cell_new w _ _ _ rfl (j*k+i)).trans (by rw[←Array.getElem?_toList,hc];exact flat_get hk hx hv)⟩
end Go.Proofs.YtmllklfjngapiaaGreatDoor
set_option maxRecDepth 100000
namespace Go.Proofs.YtmllklfjngapiaaGreatDoor
open Go.ChangeShapes Go.WideShapes Go.RowKit Go.Joins Go.Deep
open Tm (Nd)
section
variable {H : Type} {enc : TypeId × Value → H} {w : World} {base : Nat} {sp : Nat → Bool} {held : Bool}
end
end Go.Proofs.YtmllklfjngapiaaGreatDoor
set_option maxHeartbeats 1000000
set_option maxRecDepth 100000
namespace Go.Proofs.YtmllklfjngapiaaGreatDoor
open Go.RowKit
structure GoodD(w:World):Prop where
 max:∃m,w.cell? ⟨4,0,none⟩=some (.int .i64 m)
 p0:w.cell? ⟨5,0,none⟩=some (.string ⟨#[53,51,54,56,55,48,57,49,50]⟩)
 p1:w.cell? ⟨5,1,none⟩=some (.int .i64 29)
 p2:w.cell? ⟨5,2,none⟩=some (.string ⟨#[50]⟩)
 p3:w.cell? ⟨5,3,none⟩=some (.int .i64 1)
 p4:w.cell? ⟨5,4,none⟩=some (.string ⟨#[50,52,52,49,52,48,54,50,53]⟩)
 p5:w.cell? ⟨5,5,none⟩=some (.int .i64 12)
 p6:w.cell? ⟨5,6,none⟩=some (.string ⟨#[53]⟩)
 p7:w.cell? ⟨5,7,none⟩=some (.int .i64 1)
 lm:4<w.heap.size
 lp:5<w.heap.size
theorem GoodD.below{w w':World}(h:GoodD w)(hb:Below w.heap.size w w'):GoodD w' :=
 ⟨h.max.imp fun _ e=>(hb.cell (p:=⟨4,0,none⟩) h.lm).trans e,
  (hb.cell (p:=⟨5,0,none⟩) h.lp).trans h.p0,(hb.cell (p:=⟨5,1,none⟩) h.lp).trans h.p1,
  (hb.cell (p:=⟨5,2,none⟩) h.lp).trans h.p2,(hb.cell (p:=⟨5,3,none⟩) h.lp).trans h.p3,
  (hb.cell (p:=⟨5,4,none⟩) h.lp).trans h.p4,(hb.cell (p:=⟨5,5,none⟩) h.lp).trans h.p5,
  (hb.cell (p:=⟨5,6,none⟩) h.lp).trans h.p6,(hb.cell (p:=⟨5,7,none⟩) h.lp).trans h.p7,
  Nat.lt_of_lt_of_le h.lm hb.size,Nat.lt_of_lt_of_le h.lp hb.size⟩
theorem all_head{l:List UInt8}{c:UInt8}{r:List UInt8}(h:l.dropWhile (·==48)=c::r):∃k,l=List.replicate k 48++c::r:=by
 induction l with
 | nil=>cases h
 | cons a l ih =>
  by_cases e:a=48
  ·rw[List.dropWhile_cons_of_pos (by simp[e])]at h;obtain⟨k,hk⟩:=ih h;exact⟨k+1,by rw[hk,e];rfl⟩
  ·rw[List.dropWhile_cons_of_neg (by simpa using e)]at h;exact⟨0,h⟩
theorem drop_nil{l:List UInt8}(h:l.dropWhile (·==48)=[]):l.all isDig=true:=by
 induction l with
 | nil=>rfl
 | cons a l ih =>
  by_cases e:a=48
  ·rw[List.dropWhile_cons_of_pos (by simp[e])]at h;rw[List.all_cons,ih h,e];rfl
  ·rw[List.dropWhile_cons_of_neg (by simpa using e)]at h
   cases h
theorem drop_is{l:List UInt8}(h:digs l=false)(h0:l≠[]):isNat (l.dropWhile (·==48))=false∧l.dropWhile (·==48)≠[]:=by
 have hn:l.dropWhile (·==48)≠[]:=fun e=>by
  rw[digs_of (drop_nil e) h0]at h;cases h
 refine⟨?_,hn⟩
 cases e:isNat (l.dropWhile (·==48)) with
 | false=>rfl
 | true =>
  exfalso;obtain⟨c,r,hc⟩:=List.exists_cons_of_ne_nil hn;obtain⟨k,hk⟩:=all_head hc;have ha:=isNat_all e;rw[hc]at ha;have:l.all isDig=true:=by
   rw[hk,List.all_append,ha,Bool.and_true,List.all_eq_true];intro x hx;rw[(List.mem_replicate.1 hx).2];decide
  rw[digs_of this h0]at h;cases h
theorem zeros_nil{l:List UInt8}(ha:l.all isDig=true)(hv:valS l=0):l.dropWhile (·==48)=[]:=by
 cases e:l.dropWhile (·==48) with
 | nil=>rfl
 | cons c r =>
  exfalso;have h1:=valS_dropZeros l;have h2:=head_dropZeros l;have h3:=all_dropZeros ha;rw[e]at h1 h2 h3;rw[valS_cons]at h1;rw[List.all_cons,Bool.and_eq_true]at h3;have h4:48≤c.toNat:=by have:=h3.1;unfold isDig at this;rw[Bool.and_eq_true,decide_eq_true_eq]at this;exact this.1
  have h5:c.toNat≠48:=fun k=>h2 (by rw[show c=48 from UInt8.toNat_inj.1 k];rfl);have h6:0<(c.toNat-48)*10 ^ r.length:=Nat.mul_pos (by omega) (Nat.pow_pos (by decide));omega
theorem natural_any(s:ByteArray)(w:World)(hs:s.size≤1000000) :
  Calls Tryz.prog 135 #[.string s] w fun e w'=>e=.returned (.string ⟨(natD s.data.toList).toArray⟩)∧w=w':=by
 have c0:∀w,Calls Tryz.prog 173 #[.string s,.string ⟨#[48]⟩] w fun e w'=>e=.returned (.string ⟨(s.data.toList.dropWhile (·==48)).toArray⟩)∧w'=w:=fun w=>Tryz.strings_TrimLeft_one s 48 (by decide) w;have hsz:s.data.toList.length=s.size:=rfl;by_cases h0:s.data.toList=[]
 ·have e0:=eqB_true h0;have hr:natD s.data.toList=[]:=by rw[h0];rfl
  rw[hr];clear c0 h0 hr hsz;go_enter Tryz.func135,Tryz.ntmps135;go_wp2_with fail;go_ret;exact⟨rfl,rfl⟩
 ·have e0:=eqB_false h0
  cases hd:digs s.data.toList with
  | false =>
   obtain⟨hn,hne⟩:=drop_is hd h0;rw[natD_no hd];have c1:∀w,Calls Tryz.prog 146 #[.string ⟨(s.data.toList.dropWhile (·==48)).toArray⟩] w fun e w'=>e=.returned (.bool false)∧w=w':=fun w=>hn▸may_any ⟨(s.data.toList.dropWhile (·==48)).toArray⟩ w (by rw[size_of];have:=(List.dropWhile_suffix (·==48) (l:=s.data.toList)).length_le;omega);have e1:(s.data.toList.dropWhile (·==48) == [])=false:=beq_false_of_ne hne;generalize s.data.toList.dropWhile (·==48)=m at *;have C0:=zh c0;have C1:=zh c1
   clear c0 c1 hn hne hd h0 hsz;go_enter Tryz.func135,Tryz.ntmps135;go_wp2_with fail;refine(C0.out _).mono ?_;rintro e w' ⟨rfl,rfl⟩;go_wp2_with fail;refine(C1.out _).mono ?_;rintro e w' ⟨rfl,rfl⟩;go_wp2_with fail;go_ret;exact⟨rfl,rfl⟩
  | true =>
   rw[natD_yes hd];obtain⟨ha,_⟩:=digs_parts hd;by_cases hv:valS s.data.toList=0
   ·rw[zeros_nil ha hv]at c0;rw[hv,dig_nil];have C0:=zh c0;clear c0 hv hd ha h0 hsz;go_enter Tryz.func135,Tryz.ntmps135;go_wp2_with fail;refine(C0.out _).mono ?_;rintro e w' ⟨rfl,rfl⟩;go_wp2_with fail;go_ret;exact⟨rfl,rfl⟩
   ·rw[dropZeros_dig ha (by omega)]at c0;have hlen:(dig (valS s.data.toList)).length≤s.data.toList.length:=by have h:=natD_len (l:=s.data.toList);rwa[natD_yes hd]at h
    have c1:∀w,Calls Tryz.prog 146 #[.string ⟨(dig (valS s.data.toList)).toArray⟩] w fun e w'=>e=.returned (.bool true)∧w=w':=fun w=>by
     have c:=may_any ⟨(dig (valS s.data.toList)).toArray⟩ w (by rw[size_of];omega);have e:isNat (⟨(dig (valS s.data.toList)).toArray⟩:ByteArray).data.toList=true:=isNat_dig _;rw[e]at c;exact c
    have e1:(dig (valS s.data.toList) == [])=false:=beq_false_of_ne (dig_ne _);generalize dig (valS s.data.toList)=m at *;have C0:=zh c0;have C1:=zh c1
    clear c0 c1 hd h0 hsz hlen ha hv;go_enter Tryz.func135,Tryz.ntmps135;go_wp2_with fail;refine(C0.out _).mono ?_;rintro e w' ⟨rfl,rfl⟩;go_wp2_with fail;refine(C1.out _).mono ?_;rintro e w' ⟨rfl,rfl⟩;go_wp2_with fail;go_ret;exact⟨rfl,rfl⟩
theorem repeat_any(k:Nat)(w:World)(hk:k≤4000000) :
  Calls Tryz.prog 136 #[.string ⟨#[48]⟩,.int .i64 (k:Int)] w (GiveS w (List.replicate k 48)):=by
 have c:=Tryz.strings_Repeat ⟨#[48]⟩ k w (by omega) (by show 1*k≤_;omega);have e:Lib.repeatL (⟨#[48]⟩:ByteArray).data.toList k=List.replicate k 48:=by
  have h:=Lib.repeatL_replicate 48 1 k;rw[Nat.mul_one]at h;exact h
 rw[e]at c;exact c
theorem pad_text2(k:Nat)(l:List UInt8)(S:ByteArray)(hS:S.data.toList=l):((⟨(List.replicate (k+1-l.length) 48).toArray⟩:ByteArray)++S).data.toList=padD (k+1) l:=by
 rw[ba_append,hS];rfl
theorem pt_text2{S:ByteArray}{k M:Nat}{l:List UInt8}(hs:S.data.toList=l)(hm:S.size=M+k) :
  S.extract 0 M++(⟨#[46]⟩:ByteArray)++S.extract M S.size=⟨(ptD k l).toArray⟩:=by
 have h:=pt_text (S:=S) (sg:=⟨#[]⟩) (b:=false) hs hm rfl;have e:(⟨#[]⟩:ByteArray)++S.extract 0 M=S.extract 0 M:=bytes_eq (by rw[ba_append];rfl);rw[e]at h;exact h
theorem pointed_any(s:ByteArray)(k:Nat)(w:World)(hs:s.size≤1000000)(hk:k≤1000000) :
  Calls Tryz.prog 191 #[.string s,.int .i64 (k:Int)] w (GiveS w (bodyD k s.data.toList)):=by
 by_cases h0:k=0
 ·subst h0;have hr:bodyD 0 s.data.toList=s.data.toList:=rfl;rw[hr];go_enter Tryz.func191,Tryz.ntmps191;go_wp2_with fail;go_ret;exact⟨ret_str (same_text s),Below.refl _ _⟩
 ·have hr:bodyD k s.data.toList=ptD k (padD (k+1) s.data.toList):=by unfold bodyD;rw[if_neg h0]
  rw[hr];have hk':¬(k:Int)=0:=by omega
  have hmx:max (0:Int) ((k:Int)+1-(s.size:Int))=((k+1-s.size:Nat):Int):=by omega
  have c0:∀w,Calls Tryz.prog 136 #[.string ⟨#[48]⟩,.int .i64 ((k+1-s.size:Nat):Int)] w fun e w'=>e=.returned (.string ⟨(List.replicate (k+1-s.size) 48).toArray⟩)∧Below w.heap.size w w':=fun w=>repeat_any _ w (by omega);have hp:((⟨(List.replicate (k+1-s.size) 48).toArray⟩:ByteArray)++s).data.toList=padD (k+1) s.data.toList:=pad_text2 k s.data.toList s rfl;have hz:(⟨(List.replicate (k+1-s.size) 48).toArray⟩:ByteArray).size=k+1-s.size:=by rw[size_of,List.length_replicate]
  generalize (⟨(List.replicate (k+1-s.size) 48).toArray⟩:ByteArray)=Z at *;obtain⟨M,hm⟩:∃M,k+1-s.size+s.size=M+k:=⟨k+1-s.size+s.size-k,by omega⟩;have hzs:(Z++s).size=M+k:=by rw[ByteArray.size_append,hz,hm]
  have hr2:=pt_text2 (k:=k) hp hzs;have hMb:M≤2000000:=by omega
  have hmi:(Z.size:Int)+(s.size:Int)-(k:Int)=(M:Int):=by omega
  have hx2:¬9223372036854775807<Z.size+s.size:=by omega
  have hx3:Z.size+s.size=M+k:=by omega
  have C0:=zh c0;have HR:=zh hr2
  clear c0 hr2 hp hr h0 hz hm;go_enter Tryz.func191,Tryz.ntmps191;go_wp2_with fail;refine(C0.out _).mono ?_;rintro e w1 ⟨rfl,b⟩;clear hmx;go_wp2_with fail;clear hx3 hmi hx2;generalize Z++s=T at *
  go_quiet (fail)
  go_wp2_with fail;go_ret;exact⟨ret_str (by have:=HR.out;rw[hzs]at this;exact this),Below.drewN (by with_reducible assumption) _⟩
end Go.Proofs.YtmllklfjngapiaaGreatDoor
set_option maxRecDepth 100000
namespace Go.Proofs.YtmllklfjngapiaaGreatDoor
open Go.ChangeShapes Go.WideShapes Go.RowKit Go.Joins
section
variable {H : Type} {enc : TypeId × Value → H}
end
theorem gPow : Tryz.prog.globalNamed "debenture/decimal.powers" = some 5 := by kernel_rfl
theorem gPowType:(Tryz.prog.globals[5]?).map (·.type)=some 206:=by kernel_rfl
theorem cellsPow:Tryz.prog.cellsOf 206=8:=by kernel_rfl
theorem cellsPair:Tryz.prog.cellsOf 205=2:=by kernel_rfl
theorem cellsIntD:Tryz.prog.cellsOf 3=1:=by kernel_rfl
theorem pair_cells{W:World}{fuel:Nat}{a b:Value}{l:List UInt8}{z:Int}{x:DataW Unit×List MemPlace}(h:DataW.trod (fun _=>()) Tryz.prog W 0 (fun _=>true) false fuel 205 [a,b]=some x)(hx:x.1=.agg [.lit (.string l),.lit (.int .i64 z)]) :
  a=.string ⟨l.toArray⟩∧b=.int .i64 z:=by
 obtain⟨y0,y1,n,rfl,_,h0,h1⟩:=trod_struct2 Tryz.underlying205 h;rw[show Tryz.prog.cellsOf _=1 from cellsStr]at h0;rw[show Tryz.prog.cellsOf _=1 from cellsIntD]at h1;obtain⟨s,e0,rfl,_⟩:=DataW.trod_string Tryz.underlying9 h0;obtain⟨m,e1,rfl,_⟩:=DataW.trod_int Tryz.underlying3 h1;have f0:[a]=[Value.string s]:=e0;have f1:[b]=[Value.int .i64 m]:=e1;simp only[DataW.agg.injEq,List.cons.injEq,DataW.lit.injEq,Lit.string.injEq,Lit.int.injEq,and_true,true_and]at hx;obtain⟨hl,hz⟩:=hx;refine⟨?_,?_⟩
 ·rw[List.cons.inj f0 |>.1,← hl]
 ·rw[List.cons.inj f1 |>.1,hz]
theorem goodD_of {x0 : String × DataW Unit} {r : List (String × DataW Unit)} {W : World} (hL : laidMet Tryz.prog (x0 :: ("debenture/decimal.powers", Rows.laid_debenture_decimal_powers) :: r) W) (hS : W.ShapedOpen Tryz.prog) : GoodD W := by
 have hM:∃m,W.cell? ⟨4,0,none⟩=some (.int .i64 m):=cell_of_shapedOpen_int (zero:=#[.int .i64 0]) (t:=3) hS (of_decide_eq_true (by kernel_rfl)) (by kernel_rfl) rfl (by kernel_rfl) (by kernel_rfl) Tryz.underlying3;obtain⟨_,⟨g,t,cs,fuel,p,_,hg,ht,hv,hd,_,_⟩,_⟩:=hL.tail;obtain rfl:=Option.some.inj (gPow.symm.trans hg);obtain rfl:=Option.some.inj (gPowType.symm.trans ht);obtain⟨xs,m,_,hx,hl,hxl,hi⟩:=DataW.trod_array Tryz.underlying206 hd;rw[cellsPow]at hl;have h0:=hi 0 (by decide);have h1:=hi 1 (by decide);have h2:=hi 2 (by decide);have h3:=hi 3 (by decide);rw[cellsPair]at h0 h1 h2 h3;have hc:∀j,W.cell? ⟨5,j,none⟩=cs.toList[j]?:=fun j=>by
  rw[World.var?_cell gPow hv j,Array.getElem?_toList]
 have hlt:=var_lt gPow hv;generalize cs.toList=L at *
 match L,hl with
 | [a0,b0,a1,b1,a2,b2,a3,b3],_ =>
  match xs,hxl with
  | [y0,y1,y2,y3],_ =>
   have ha:=(Prod.mk.inj hx).1;have ha:Rows.laid_debenture_decimal_powers=DataW.agg [y0.1,y1.1,y2.1,y3.1]:=ha;unfold Rows.laid_debenture_decimal_powers at ha;simp only[DataW.agg.injEq,List.cons.injEq,and_true]at ha;obtain⟨k0,k1,k2,k3⟩:=ha;obtain⟨u0,v0⟩:=pair_cells h0 k0.symm;obtain⟨u1,v1⟩:=pair_cells h1 k1.symm;obtain⟨u2,v2⟩:=pair_cells h2 k2.symm;obtain⟨u3,v3⟩:=pair_cells h3 k3.symm;refine⟨hM,?_,?_,?_,?_,?_,?_,?_,?_,?_,hlt⟩
   ·rw[hc,u0];rfl
   ·rw[hc,v0];rfl
   ·rw[hc,u1];rfl
   ·rw[hc,v1];rfl
   ·rw[hc,u2];rfl
   ·rw[hc,v2];rfl
   ·rw[hc,u3];rfl
   ·rw[hc,v3];rfl
   ·obtain⟨m,hm⟩:=hM;exact World.block_lt_of_cell? W ⟨4,0,none⟩ hm
end Go.Proofs.YtmllklfjngapiaaGreatDoor
