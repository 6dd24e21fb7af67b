/- Own work. -/
import Derived.Test.YtghioekjghmdaaaGreatDoorTermNum5M
import Derived.Test.YtghioekjghmdaaaGreatDoorAllRefTcM
set_option linter.unusedSimpArgs false
set_option linter.unusedVariables false
set_option maxHeartbeats 4000000
set_option maxRecDepth 100000
namespace Go.Proofs.YtghioekjghmdaaaGreatDoor
open Go.RowKit
open Tm (Nd Tr arN arI formB stk fl ps mkT printT leafP aboveP okN pr checkT depthT)
structure PrI(t:List Nd)(w:World)(k:Nat)(st:List Tr)(b o c:Nat):Prop where
 rows:RowsG encX 1 w (some ⟨b,o,none⟩) (ps st)
 cap:st.length≤c
 stk:stk t k=some st
 ok:∀j x,j<k→t[j]?=some x→okN x=true
theorem PrI.below{t:List Nd}{w w':World}{k:Nat}{st:List Tr}{b o c:Nat}(h:PrI t w k st b o c)(hb:Below w.heap.size w w'):PrI t w' k st b o c:=⟨h.rows.below hb,h.cap,h.stk,h.ok⟩
theorem ok_leaf{x:Nd}(h:okN x=true)(h0:arN x.op=some 0):(0≤x.op∧x.op≤4)∧x.num.1.length≤4000∧x.num.2.length≤4000∧x.ast.length≤4611686018427387904∧(-9223372036854775808≤x.a∧x.a≤9223372036854775807)∧(-9223372036854775808≤x.b∧x.b≤9223372036854775807):=by
 unfold okN at h;rcases Tm.ops0 h0 with e|e|e|e|e
 ·rw[if_pos e]at h;simp only[Bool.and_eq_true,decide_eq_true_eq,beq_iff_eq]at h;obtain⟨⟨h1,h2,h3⟩,h4,h5,h6⟩:=h;have:=Tm.w_len (Tm.isR_w h4).1;rw[h1];exact⟨⟨by omega,by omega⟩,by omega,by omega,Nat.zero_le _,⟨by omega,by omega⟩,⟨by omega,by omega⟩⟩
 ·rw[if_neg (by omega),if_pos e]at h;simp only[Bool.and_eq_true,decide_eq_true_eq,beq_iff_eq,Tm.astB]at h;obtain⟨⟨h1,h2⟩,⟨h3,_⟩,h4,h5⟩:=h;have:=Tm.name_len h3;rw[h1];exact⟨⟨by omega,by omega⟩,Nat.zero_le _,Nat.zero_le _,by omega,⟨by omega,by omega⟩,⟨by omega,by omega⟩⟩
 all_goals
  rw[if_neg (by omega),if_neg (by omega),if_pos (by omega)]at h;simp only[Bool.and_eq_true,decide_eq_true_eq,beq_iff_eq,Tm.astB]at h;obtain⟨h1,⟨h3,_⟩,h4,h5,h6,h7⟩:=h;have:=Tm.name_len h3;rw[h1];exact⟨⟨by omega,by omega⟩,Nat.zero_le _,Nat.zero_le _,by omega,⟨by omega,by omega⟩,⟨by omega,by omega⟩⟩
theorem heldX{P:Program}{f:FuncId}{args:Array Value}{w W:World}{v:Value}{B:Nat}(hB:B≤W.heap.size)(c:∀V,Below B W V→Calls P f args V fun e w'=>e=.returned v∧Below V.heap.size V w')(h:Below B W w) :
  Calls P f args w fun e w'=>e=.returned v∧Below w.heap.size w w'∧Below B W w':=(c w h).mono fun _ _ ⟨he,hb⟩=>⟨he,hb,h.trans (hb.mono (Nat.le_trans hB h.size))⟩
theorem rtprint_any(p:Option Addr)(c:Nat)(t:List Nd)(w:World)(HS:Hid (∀x∈t,x.num.1.length≤100000∧x.num.2.length≤100000∧x.ast.length≤4611686018427387904))(hT:Nds w p t):Calls Tryz.prog 42 #[.slice p t.length c] w (GiveU w (printT t)):=by
 have C:=zh (rtformed_any p c t w hT);have HT:=zh hT;clear hT
 cases hf:formB t with
 | false =>
  have hd:=Tm.print_form hf;rw[hd];rw[hf]at C;clear hf hd;have b0:=Below.refl w.heap.size w;go_enter Tryz.func42,Tryz.ntmps42;go_wp2_with fail;refine C.out.mono ?_;rintro e w1 ⟨rfl,b⟩;have b1:=Below.more b0 b;clear b;go_wp2_with fail;go_ret;exact⟨rfl,b1⟩
 | true =>
  have HF:=zh hf;rw[hf]at C;clear hf;have b0:=Below.refl w.heap.size w;obtain⟨tr,e1,e2,hwf,htr,hl1,hl2⟩:=Tm.form_stk HF.out;have HSK:=zh e1;have HTR:=zh e2;clear e1 e2 hwf htr;go_enter Tryz.func42,Tryz.ntmps42;go_wp2_with fail;refine C.out.mono ?_;rintro e w1 ⟨rfl,b⟩;have b1:=Below.more b0 b;have HT1:=zh (HT.out.below b);clear b C HT;go_wp2_with fail
  go_loopw [3,4,5,6] (fun sv iv nv uv wr=>∃ (k:Nat) (st:List Tr) (b o c:Nat),k≤t.length∧iv=.int .i64 k∧sv=.slice (some ⟨b,o,none⟩) st.length c∧PrI t wr k st b o c∧Below w1.heap.size w1 wr) (fun _ iv _ _ _=>t.length-(intOf iv).toNat)
  case atStart=>exact⟨0,[],w1.heap.size,0,0,Nat.zero_le _,rfl,by simp,⟨RowsG.nil _ _,Nat.le_refl _,rfl,fun j x h=>absurd h (Nat.not_lt_zero j)⟩,Below.step _ (Below.refl _ _)⟩
  case round =>
   obtain⟨k,st,b,o,cs,hk,rfl,rfl,hI,hw⟩:=hrel;have HW:=zh hw;have HI:=zh hI;clear hw hI;have hst:st.length≤t.length:=by
    have e:=Tm.stk_fl HI.out.stk hk;have:=Tm.len_fl st;omega
   by_cases hlt:k<t.length
   ·have hki:(k:Int)<(t.length:Int):=by omega
    obtain⟨x,hx⟩:∃x,t[k]?=some x:=⟨_,List.getElem?_eq_getElem hlt⟩;have HX:=zh hx;obtain⟨bp,op,rfl,k0,k1,k2,k3,k4,k5⟩:=nds_rule (HT1.out.below HW.out) hx;obtain⟨m,ha,hm⟩:=Tm.form_step HF.out hx HI.out.stk;obtain⟨n1,n2,n3⟩:=HS.out x (List.mem_of_getElem? hx);have CN:=zh (fun V=>rtnode_any x V n1 n2 n3);have HLT:=zh hlt;clear hx n1 n2 n3;have b0:=Below.refl wr.heap.size wr;go_wp2_with fail;refine(CN.out _).mono ?_;rintro e wa ⟨rfl,ba⟩
    cases hok:okN x with
    | false =>
     have HP:=zh (Tm.print_bad HX.out hok);have HW2:=zh (Below.more b1 (Below.more HW.out ba));clear hok ba;go_wp2_with fail;go_ret;exact⟨by rw[HP.out];rfl,HW2.out⟩
    | true =>
     have HOK:Hid (∀j y,j<k+1→t[j]?=some y→okN y=true):=zh fun j y hj hy=>by
      rcases Nat.lt_or_eq_of_le (Nat.le_of_lt_succ hj) with g|g
      ·exact HI.out.ok j y g hy
      ·subst g;rw[HX.out]at hy
       cases hy
       exact hok
     have hba:=Below.more b0 ba;clear b0;go_wp2_with fail;refine(rtarity_any x.op wa).mono ?_;rintro e wb ⟨rfl,bb⟩;have HW2:=zh (Below.more (Below.more HW.out ba) bb);have HI2:=zh ((HI.out.below ba).below bb);clear k0 k1 k2 k3 k4 k5;obtain⟨bp',op',hbp,k0,k1,k2,k3,k4,k5⟩:=nds_rule (((HT1.out.below HW.out).below ba).below bb) HX.out;have b2:=Below.refl wb.heap.size wb;clear ba bb hba;have hn:arI x.op=(m:Int):=by unfold arI;rw[ha]
     rw[hn];have S1:=zh (Tm.step_mk HX.out HI.out.stk ha hm);have h3:=Tm.arN_le ha;obtain⟨q,hq⟩:∃q,st.length=q+m:=⟨st.length-m,by omega⟩;have hsub:st.length-m=q:=by omega
     rw[hsub]at S1;obtain⟨R,hR⟩:∃R,R=(ps st).take q:=⟨_,rfl⟩;have HRL:Hid (R.length=q):=zh (by rw[hR,List.length_take,Tm.ps_len];omega);have HR:Hid (RowsG encX 1 wb (some ⟨b,o,none⟩) R):=zh fun j y hj=>HI2.out.rows j y (by
      rw[hR,List.getElem?_take]at hj;split at hj
      ·exact hj
      ·cases hj)
     obtain⟨u,hu⟩:∃u,u=pr (mkT x (st.drop q)):=⟨_,rfl⟩;have HDS:Hid (ps (st.take q++[mkT x (st.drop q)])=R++[u]):=zh (by
      unfold ps at hR ⊢;rw[List.map_append,List.map_take,← hR,List.map_singleton,← hu])
     have hdl:(st.drop q).length=m:=by rw[List.length_drop];omega
     have hpm:=Tm.pr_mk (x:=x) (l:=st.drop q) (by omega);have HQ:Hid (q≤2000):=zh (by omega);have hwr:wrap64 ((st.length:Int)-(m:Int))=(q:Int):=(IntWalk.wrap64_in _ ⟨by omega,by omega⟩).trans (by omega);have hwr2:IntKind.i64.wrap ((st.length:Int)-(m:Int))=(q:Int):=(IntWalk.i64_in _ (by omega)).trans (by omega);have hcap:=HI.out.cap;have hqc:q≤cs:=by omega
     have hqs:q≤st.length:=by omega
     cases hbp
     by_cases hm0:m=0
     ·subst hm0;obtain rfl:q=st.length:=by omega
      clear hq;have hnil:st.drop st.length=[]:=List.length_eq_zero_iff.1 hdl;rw[hpm,if_pos hnil]at hu;obtain⟨⟨g1,g2⟩,g3,g4,g5,g6,g7⟩:=ok_leaf hok ha;have CL:=zh (fun V=>rtleaf_any x V g1 g2 g3 g4 g5 g6 g7);rw[←hu]at CL;clear hn h3 hsub hR hu hpm hdl hnil g1 g2 g3 g4 g5 g6 g7 ha;clear hlt hok;go_wp2_with fail;refine(CL.out _).mono ?_;rintro e wz ⟨rfl,bz⟩;have HRZ:=zh (HR.out.below bz);have HWZ:=zh (Below.more HW2.out bz);clear bz k0 k1 k2 k3 k4 k5 b2;go_wp2_with (at_builtin;refine haltG ?_);show wpList _ _ _ _ _ _;have bN:Below wz.heap.size wz (wz.alloc (.cells #[] 9)):=Below.alloc (Below.refl _ _) (Nat.le_refl _) _;have oN:=ownG_empty (enc:=encX) (k:=1) (e:=9) (B:=wz.heap.size) wz (Nat.le_refl _);refine wpList_append_M rfl _ _ 88 9 rfl Tryz.underlying88 txInfo rfl (by decide) (by decide) (fun _=>rfl) encX_one wz.heap.size _ _ rfl oN (some ⟨b,o,none⟩) R cs (by rw[HRL.out];rfl) (RowsG.below HRZ.out bN) (by simp) (by rw[HRL.out];have:=HQ.out;omega) (Below.size bN) ?_;intro v1 w5 ho hgr hloc;have b5:=zh (Below.grown bN hgr (Below.size bN) fun j hj=>(World.ownsRow.lt oN j hj).1);rw[List.nil_append]at ho;have HO:=zh ho;clear ho hgr hloc oN bN;go_wp2_with (at_builtin;refine haltG ?_);show wpList _ _ _ _ _ _;refine wpList_append_G rfl _ _ 88 9 rfl Tryz.underlying88 txInfo rfl (by decide) (by decide) (fun _=>rfl) encX_one wz.heap.size _ _ rfl (World.ownsRow.alloc HO.out _) ⟨w5.heap.size,0,none⟩ u 1 rfl (rowsOne w5 u 9 _ rfl) (by rw[HRL.out];have:=HQ.out;omega) (by have:=b5.out.size;simp;omega) ?_
      intro v2 w6 ho hgr hloc;have b6:=zh (Below.grown (Below.alloc b5.out (Below.size b5.out) _) hgr (by have:=b5.out.size;simp;omega) fun j hj=>(World.ownsRow.lt HO.out j hj).1);obtain⟨p7,c7,rfl,hc7,l7,_⟩:=ownG_rows (enc:=encX) (k:=1) (fun _=>rfl) ho;obtain⟨b7,o7,rfl,_,_⟩:=l7 R.length u (by simp);have HW6:=zh (Below.more HWZ.out b6.out);have HN:Hid (PrI t w6 (k+1) (st.take st.length++[mkT x (st.drop st.length)]) b7 o7 c7):=zh ⟨by rw[HDS.out];exact l7,by rw[←Tm.ps_len,HDS.out];exact hc7,S1.out,HOK.out⟩;have HL7:Hid (R.length+1=(st.take st.length++[mkT x (st.drop st.length)]).length):=zh (by rw[←Tm.ps_len,HDS.out,List.length_append];rfl);clear ho hgr hloc HO b5 l7 hc7;go_wp2_with fail;go_roundw
      case rel=>exact⟨k+1,st.take st.length++[mkT x (st.drop st.length)],b7,o7,c7,by have:=HLT.out;omega,by go_num,by rw[HL7.out],HN.out,HW6.out⟩
      case measure=>have:=HLT.out;simp[intOf];omega
     ·have hne:¬st.drop q=[]:=fun e=>hm0 (by rw[←hdl,e];rfl);rw[hpm,if_neg hne]at hu;have hcq:¬cs=q:=by omega
      have hlen:Hid (∀y∈ps (st.drop q),y.length≤1000000000):=zh fun y hy=>by
       obtain⟨s,hs,rfl⟩:=List.mem_map.1 hy;have hs:=List.mem_of_mem_drop hs;obtain⟨w1',w2'⟩:=Tm.stk_ok HI.out.stk (HI.out.ok) s hs;have:=Tm.pr_len w1' w2';have:=Tm.one_fl hs;have:=Tm.stk_fl HI.out.stk hk;omega
      have hpl:(ps (st.drop q)).length=m:=by rw[Tm.ps_len];exact hdl
      have hrw:RowsG encX 1 wb (some ⟨b,o+q*1,none⟩) (ps (st.drop q)):=by
       have k:=RowsG.part HI2.out.rows q m;have e:((ps st).drop q).take m=ps (st.drop q):=by
        unfold ps;rw[←List.map_drop,List.take_of_length_le (by rw[List.length_map,hdl];exact Nat.le_refl _)]
       rw[e]at k;exact k
      have CA:Hid (∀V,Below wb.heap.size wb V→Calls Tryz.prog 74 #[.int .i64 x.op,.slice (some ⟨b,o+q,none⟩) m (cs-q)] V (GiveU V u)):=zh fun V hv=>by
       have k:=rtabove_any x.op (some ⟨b,o+q*1,none⟩) (cs-q) (ps (st.drop q)) V (by rw[hpl];exact ha) (by rw[hpl];omega) hlen.out (hrw.below hv);rw[hpl,← hu,Nat.mul_one]at k;exact k
      have hB:=zh (Nat.le_refl wb.heap.size);have hm0i:¬(m:Int)=0:=by omega
      have hm0b:((m:Int)==0)=false:=beq_false_of_ne hm0i;have hql:st.length-q=m:=by omega
      clear hn h3 hsub hR hu hpm hdl hne ha hpl hrw hlen k1 k2 k3 k4 k5;clear hlt hok hq;go_wp2_with fail
      go_region_held3 (fun w'=>Below wb.heap.size wb w')
       (first|(exact b2.drew)|(with_reducible assumption))
       (first|(go_at_call 74;(with_reducible refine(heldX (W:=wb) hB.out CA.out (by assumption)).mono ?_);rintro e w'' ⟨rfl,hb,hw⟩))
      generalize w''=wz at *;have HRZ:=zh (HR.out.below hw);have HWZ:=zh (Below.more HW2.out hw);clear hw hb b2 hB k0;go_wp2_with (at_builtin;refine haltG ?_);show wpList _ _ _ _ _ _;have bN:Below wz.heap.size wz (wz.alloc (.cells #[] 9)):=Below.alloc (Below.refl _ _) (Nat.le_refl _) _;have oN:=ownG_empty (enc:=encX) (k:=1) (e:=9) (B:=wz.heap.size) wz (Nat.le_refl _);refine wpList_append_M rfl _ _ 88 9 rfl Tryz.underlying88 txInfo rfl (by decide) (by decide) (fun _=>rfl) encX_one wz.heap.size _ _ rfl oN (some ⟨b,o,none⟩) R cs (by rw[HRL.out];rfl) (RowsG.below HRZ.out bN) (by simp) (by rw[HRL.out];have:=HQ.out;omega) (Below.size bN) ?_;intro v1 w5 ho hgr hloc;have b5:=zh (Below.grown bN hgr (Below.size bN) fun j hj=>(World.ownsRow.lt oN j hj).1);rw[List.nil_append]at ho;have HO:=zh ho;clear ho hgr hloc oN bN;go_wp2_with (at_builtin;refine haltG ?_);show wpList _ _ _ _ _ _;refine wpList_append_G rfl _ _ 88 9 rfl Tryz.underlying88 txInfo rfl (by decide) (by decide) (fun _=>rfl) encX_one wz.heap.size _ _ rfl (World.ownsRow.alloc HO.out _) ⟨w5.heap.size,0,none⟩ u 1 rfl (rowsOne w5 u 9 _ rfl) (by rw[HRL.out];have:=HQ.out;omega) (by have:=b5.out.size;simp;omega) ?_;intro v2 w6 ho hgr hloc;have b6:=zh (Below.grown (Below.alloc b5.out (Below.size b5.out) _) hgr (by have:=b5.out.size;simp;omega) fun j hj=>(World.ownsRow.lt HO.out j hj).1);obtain⟨p7,c7,rfl,hc7,l7,_⟩:=ownG_rows (enc:=encX) (k:=1) (fun _=>rfl) ho;obtain⟨b7,o7,rfl,_,_⟩:=l7 R.length u (by simp);have HW6:=zh (Below.more HWZ.out b6.out)
      have HN:Hid (PrI t w6 (k+1) (st.take q++[mkT x (st.drop q)]) b7 o7 c7):=zh ⟨by rw[HDS.out];exact l7,by rw[←Tm.ps_len,HDS.out];exact hc7,S1.out,HOK.out⟩;have HL7:Hid (R.length+1=(st.take q++[mkT x (st.drop q)]).length):=zh (by rw[←Tm.ps_len,HDS.out,List.length_append];rfl);clear ho hgr hloc HO b5 l7 hc7;go_wp2_with fail;go_roundw
      case rel=>exact⟨k+1,st.take q++[mkT x (st.drop q)],b7,o7,c7,by have:=HLT.out;omega,by go_num,by rw[HL7.out],HN.out,HW6.out⟩
      case measure=>have:=HLT.out;simp[intOf];omega
   ·obtain rfl:k=t.length:=by omega
    have e:=HI.out.stk.symm.trans HSK.out
    cases e
    obtain⟨b',o',hbo,_,c0⟩:=HI.out.rows 0 _ rfl
    cases hbo
    have c1:wr.cell? ⟨b,o,none⟩=some (.string ⟨(pr tr).toArray⟩):=by
     have:=c0 0 _ rfl
     simpa using this
    have HD:=zh (Tm.print_yes HF.out HTR.out fun x hx=>by
     obtain⟨i,hi⟩:=List.getElem?_of_mem hx;exact HI.out.ok i x ((List.getElem?_eq_some_iff.1 hi).1) hi)
    clear c0;go_wp2_with fail;go_ret;exact⟨by rw[HD.out];rfl,Below.more b1 HW.out⟩
theorem rtcheck_any(p:Option Addr)(c:Nat)(t:List Nd)(w:World)(HS:Hid (∀x∈t,x.num.1.length≤100000∧x.num.2.length≤100000∧x.ast.length≤4611686018427387904))(hT:Nds w p t):Calls Tryz.prog 17 #[.slice p t.length c] w (GiveI w (checkT t)):=by
 have CP:=zh (rtprint_any p c t w HS hT);have CD:=zh (fun V (h:Below w.heap.size w V)=>rtdepth_any p c t V (hT.below h));have hk:checkT t=if printT t=[]∨20000<(printT t).length∨150<depthT t then 100 else 0:=rfl
 rw[hk];clear hk hT;generalize printT t=P at *;generalize depthT t=D at *;have b0:=Below.refl w.heap.size w;by_cases h1:P=[]
 ·rw[if_pos (.inl h1)];subst h1;go_enter Tryz.func17,Tryz.ntmps17;go_wp2_with fail;refine CP.out.mono ?_;rintro e w1 ⟨rfl,b⟩;have b1:=Below.more b0 b;go_wp2_with fail;go_ret;exact⟨rfl,b1⟩
 have h1b:(P == [])=false:=beq_false_of_ne h1;by_cases h2:20000<P.length
 ·rw[if_pos (.inr (.inl h2))];have h2i:(20000:Int)<(P.length:Int):=by omega
  go_enter Tryz.func17,Tryz.ntmps17;go_wp2_with fail;refine CP.out.mono ?_;rintro e w1 ⟨rfl,b⟩;have b1:=Below.more b0 b;go_wp2_with fail;go_ret;exact⟨rfl,b1⟩
 have h2i:¬(20000:Int)<(P.length:Int):=by omega
 by_cases h3:150<D
 ·rw[if_pos (.inr (.inr h3))];have h3i:(150:Int)<(D:Int):=by omega
  go_enter Tryz.func17,Tryz.ntmps17;go_wp2_with fail;refine CP.out.mono ?_;rintro e w1 ⟨rfl,b⟩;have b1:=Below.more b0 b;go_wp2_with fail;refine(CD.out _ b1).mono ?_;rintro e w2 ⟨rfl,b⟩;have b2:=Below.more b1 b;go_wp2_with fail;go_ret;exact⟨rfl,b2⟩
 ·rw[if_neg (by rintro(h|h|h)<;>contradiction)];have h3i:¬(150:Int)<(D:Int):=by omega
  go_enter Tryz.func17,Tryz.ntmps17;go_wp2_with fail;refine CP.out.mono ?_;rintro e w1 ⟨rfl,b⟩;have b1:=Below.more b0 b;go_wp2_with fail;refine(CD.out _ b1).mono ?_;rintro e w2 ⟨rfl,b⟩;have b2:=Below.more b1 b;go_wp2_with fail;go_ret;exact⟨rfl,b2⟩
end Go.Proofs.YtghioekjghmdaaaGreatDoor
