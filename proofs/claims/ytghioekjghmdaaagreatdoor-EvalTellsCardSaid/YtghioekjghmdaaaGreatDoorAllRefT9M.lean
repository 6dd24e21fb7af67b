/- Own work. -/
import Derived.Test.YtghioekjghmdaaaGreatDoorAllRefT8
set_option linter.unusedSimpArgs false
set_option linter.unusedVariables false
set_option maxHeartbeats 4000000
set_option maxRecDepth 100000
namespace Go.Proofs.YtghioekjghmdaaaGreatDoor
open Go.RowKit
open Tm (Nd Tr arN arI formB stk bgs begT bgA fl)
def GiveBeg(w:World)(t:List Nd)(e:Ending)(w':World):Prop:=(∃v,e=.returned (.tuple #[v,.bool (formB t)])∧(formB t=true→∃p c,v=.slice p t.length c∧t.length≤c∧Nums w' p (begT t t.length)))∧Below w.heap.size w w'
structure BegI(B:Nat)(t:List Nd)(w:World)(k:Nat)(st:List Tr)(ov:Value)(b o c:Nat):Prop where
 own:OwnN B w ov (begT t k)
 rows:RowsG encN 1 w (some ⟨b,o,none⟩) (bgs st)
 sep:ov.ownBlock≠some b
 big:B≤w.heap.size
 lt:b<w.heap.size
 cap:st.length≤c
 stk:stk t k=some st
theorem BegI.below{B:Nat}{t:List Nd}{w w':World}{k:Nat}{st:List Tr}{ov:Value}{b o c:Nat}(h:BegI B t w k st ov b o c)(hb:Below w.heap.size w w'):BegI B t w' k st ov b o c :=
 ⟨ownG_below h.own hb,h.rows.below hb,h.sep,Nat.le_trans h.big hb.size,Nat.lt_of_lt_of_le h.lt hb.size,h.cap,h.stk⟩
theorem rtbegins_len(p:Option Addr)(c:Nat)(t:List Nd)(w:World)(h:(t.length:Int)<1∨2000<(t.length:Int)):Calls Tryz.prog 109 #[.slice p t.length c] w (GiveBeg w t):=by
 have HF:=zh (Tm.form_len (t:=t) (by omega));by_cases h1:(t.length:Int)<1
 ·go_enter Tryz.func109,Tryz.ntmps109;go_wp2_with fail;refine bodyPost_ret (v:=.tuple #[.slice none 0 0,.bool false]) (by simp[results,Tryz.results109,go_sem, *]) rfl ?_;exact⟨⟨_,by rw[HF.out],fun h=>by rw[HF.out]at h;cases h⟩,Below.step _ (Below.step _ (Below.refl _ _))⟩
 ·have h2:2000<(t.length:Int):=by omega
  clear h;go_enter Tryz.func109,Tryz.ntmps109;go_wp2_with fail;refine bodyPost_ret (v:=.tuple #[.slice none 0 0,.bool false]) (by simp[results,Tryz.results109,go_sem, *]) rfl ?_;exact⟨⟨_,by rw[HF.out],fun h=>by rw[HF.out]at h;cases h⟩,Below.step _ (Below.step _ (Below.refl _ _))⟩
theorem rtbegins_main(p:Option Addr)(c:Nat)(t:List Nd)(w:World)(h1:¬(t.length:Int)<1)(h2:¬2000<(t.length:Int))(hT:Nds w p t):Calls Tryz.prog 109 #[.slice p t.length c] w (GiveBeg w t):=by
 have HT:=zh hT;clear hT;go_enter Tryz.func109,Tryz.ntmps109;go_wp2_with fail
 go_loopw [4,5,6,7,8] (fun ov sv iv nv fv wr=>∃ (k:Nat) (st:List Tr) (b o c:Nat),k≤t.length∧iv=.int .i64 k∧sv=.slice (some ⟨b,o,none⟩) st.length c∧BegI w.heap.size t wr k st ov b o c∧Below w.heap.size w wr) (fun _ _ iv _ _ _=>t.length-(intOf iv).toNat)
 case atStart =>
  refine⟨0,[],w.heap.size+1,0,0,Nat.zero_le _,rfl,by simp,⟨?_,RowsG.nil _ _,?_,?_,?_,Nat.le_refl _,rfl⟩,Below.step _ (Below.step _ (Below.refl _ _))⟩
  ·exact World.ownsRow.alloc (ownG_empty (enc:=encN) (k:=1) (e:=3) w (Nat.le_refl _)) _
  ·simp[Value.ownBlock]
  ·simp;omega
  ·simp
 case round =>
  obtain⟨k,st,b,o,cs,hk,rfl,rfl,hI,hw⟩:=hrel;have HW:=zh hw;have HI:=zh hI;clear hw hI;have hst:st.length≤t.length:=by
   have e:=Tm.stk_fl HI.out.stk hk;have:=Tm.len_fl st;omega
  by_cases hlt:k<t.length
  ·have hki:(k:Int)<(t.length:Int):=by omega
   obtain⟨x,hx⟩:∃x,t[k]?=some x:=⟨_,List.getElem?_eq_getElem hlt⟩;have HX:=zh hx;obtain⟨bp,op,rfl,k0,_⟩:=nds_rule (HT.out.below HW.out) hx;clear hx;have b0:=Below.refl wr.heap.size wr;go_wp2_with fail;refine(rtarity_any x.op wr).mono ?_;rintro e wa ⟨rfl,ba⟩;have HW2:=zh (Below.more HW.out ba);have HI2:=zh (HI.out.below ba);clear ba k0
   cases ha:arN x.op with
   | none =>
    have hn:arI x.op=-1:=by unfold arI;rw[ha]
    have HF:=zh (Tm.step_no HX.out HI.out.stk (.inl ha));rw[hn];clear ha hn;go_wp2_with fail;refine bodyPost_ret (v:=.tuple #[.slice none 0 0,.bool false]) (by simp[results,Tryz.results109,go_sem, *]) rfl ?_;exact⟨⟨_,by rw[HF.out],fun h=>by rw[HF.out]at h;cases h⟩,HW2.out⟩
   | some m =>
    have hn:arI x.op=(m:Int):=by unfold arI;rw[ha]
    rw[hn];by_cases hm:m≤st.length
    ·have hm1:¬(m:Int)<0:=by omega
     have hm2:¬(st.length:Int)<(m:Int):=by omega
     obtain⟨u,s1,s2,s3,s4⟩:=Tm.step_yes hk HX.out HI.out.stk ha hm;have S1:=zh s1;have S2:=zh s2;have S3:=zh s3;have S4:=zh s4
     clear s1 s2 s3 s4 ha hn;obtain⟨q,hq⟩:∃q,st.length=q+m:=⟨st.length-m,by omega⟩;have hsub:st.length-m=q:=by omega
     rw[hsub]at S1 S2 S3;obtain⟨R,hR⟩:∃R,R=(bgs st).take q:=⟨_,rfl⟩;have HRL:Hid (R.length=q):=zh (by rw[hR,List.length_take,Tm.bgs_len];omega);have HR:Hid (RowsG encN 1 wa (some ⟨b,o,none⟩) R):=zh fun j y hj=>HI2.out.rows j y (by
      rw[hR,List.getElem?_take]at hj;split at hj
      ·exact hj
      ·cases hj)
     rw[←hR]at S2;have HQ:Hid (q≤2000):=zh (by omega);have hwr:wrap64 ((st.length:Int)-(m:Int))=(q:Int):=(IntWalk.wrap64_in _ ⟨by omega,by omega⟩).trans (by omega);have hwr2:IntKind.i64.wrap ((st.length:Int)-(m:Int))=(q:Int):=(IntWalk.i64_in _ (by omega)).trans (by omega);have hcap:=HI.out.cap;have hqc:q≤cs:=by omega
     by_cases h0:m=0
     ·have hbA:((bgA t k:Nat):Int)=(k:Int):=by rw[S4.out h0]
      have hm3:¬0<(m:Int):=by omega
      clear hq hsub hR h0;go_wp2_with (at_builtin;refine haltG ?_);show wpList _ _ _ _ _ _;have bN:Below wa.heap.size wa (wa.alloc (.cells #[] 3)):=Below.alloc (Below.refl _ _) (Nat.le_refl _) _;have oN:=ownG_empty (enc:=encN) (k:=1) (e:=3) (B:=wa.heap.size) wa (Nat.le_refl _);refine wpList_append_M rfl _ _ 91 3 rfl Tryz.underlying91 numInfo rfl (by decide) (by decide) (fun _=>rfl) encN_one wa.heap.size _ _ rfl oN (some ⟨b,o,none⟩) R cs (by rw[HRL.out];rfl) (RowsG.below HR.out bN) (by simp) (by rw[HRL.out];have:=HQ.out;omega) (Below.size bN) ?_;intro v1 w5 ho hgr hloc;have b5:=zh (Below.grown bN hgr (Below.size bN) fun j hj=>(World.ownsRow.lt oN j hj).1);rw[List.nil_append]at ho;have HO:=zh ho;clear ho hgr hloc oN bN;go_wp2_with (at_builtin;refine haltG ?_);show wpList _ _ _ _ _ _;refine wpList_append_G rfl _ _ 91 3 rfl Tryz.underlying91 numInfo rfl (by decide) (by decide) (fun _=>rfl) encN_one wa.heap.size _ _ rfl (World.ownsRow.alloc HO.out _) ⟨w5.heap.size,0,none⟩ (k:Int) 1 rfl (rowsOne w5 (k:Int) 3 _ rfl) (by rw[HRL.out];have:=HQ.out;omega) (by have:=b5.out.size;simp;omega) ?_;intro v2 w6 ho hgr hloc;have b6:=zh (Below.grown (Below.alloc b5.out (Below.size b5.out) _) hgr (by have:=b5.out.size;simp;omega) fun j hj=>(World.ownsRow.lt HO.out j hj).1);obtain⟨p7,c7,rfl,hc7,l7,hb7⟩:=ownG_rows (enc:=encN) (k:=1) (fun _=>rfl) ho;obtain⟨b7,o7,rfl,hlt7,_⟩:=l7 R.length (k:Int) (by simp);have hge:=hb7 _ rfl;have HI6:=zh (HI2.out.below b6.out);have L7:=zh l7;have HW6:=zh (Below.more HW2.out b6.out)
      clear ho hgr hloc HO b5 hb7 l7;go_wp2_with (at_builtin;refine haltG ?_);show wpList _ _ _ _ _ _;refine wpList_append_G rfl _ _ 91 3 rfl Tryz.underlying91 numInfo rfl (by decide) (by decide) (fun _=>rfl) encN_one w.heap.size _ _ rfl (World.ownsRow.alloc HI6.out.own _) ⟨w6.heap.size,0,none⟩ (k:Int) 1 rfl (rowsOne w6 (k:Int) 3 _ rfl) (by rw[Tm.begT_len];omega) (by have:=HI6.out.big;simp;omega) ?_;intro v3 w7 ho hgr hloc;have hz:=fun j hj=>World.ownsRow.lt HI2.out.own j hj;have b7':=zh (Below.grown (Below.alloc HW6.out (Below.size HW6.out) _) hgr (Below.size (Below.alloc HW6.out (Below.size HW6.out) _)) fun j hj=>(World.ownsRow.lt HI6.out.own j hj).1);have hrow:RowsG encN 1 w7 (some ⟨b7,o7,none⟩) (R++[(k:Int)]):=RowsG.grown (L7.out.below (Below.alloc (Below.refl _ _) (Nat.le_refl _) _)) hgr fun a ha=>by
       cases ha
       intro e;have:=(hz _ e).2;dsimp only at this;omega
      have HN:Hid (BegI w.heap.size t w7 (k+1) (st.take q++[u]) v3 b7 o7 c7):=zh ⟨by rw[Tm.begT_next,hbA];exact ho,by rw[S2.out,hbA];exact hrow,by
        intro e;rcases hloc with h|h
        ·rw[h]at e;have:=(hz _ e).2;omega
        ·rw[h]at e;have:=Option.some.inj e;simp at this;omega,Below.size b7'.out,by have:=hgr.size;simp at this;omega,by rw[←Tm.bgs_len,S2.out,hbA];exact hc7,S1.out⟩
      have HL7:Hid (R.length+1=(st.take q++[u]).length):=zh (by rw[←Tm.bgs_len,S2.out,List.length_append];rfl);clear hgr hloc hz ho hrow L7 HI6 hge hlt7 hc7;go_wp2_with fail;go_roundw
      case rel=>exact⟨k+1,st.take q++[u],b7,o7,c7,hlt,by go_num,by rw[HL7.out],HN.out,b7'.out⟩
      case measure=>simp[intOf];omega
     ·have hm3:0<(m:Int):=by omega
      have hbA:((bgA t k:Nat):Int)=((fl (st.take q):Nat):Int):=by rw[S3.out]
      obtain⟨b',o',hbo,_,c0⟩:=HI2.out.rows q _ (Tm.bgs_get (st:=st) (by omega))
      cases hbo
      have c1:wa.cell? ⟨b,o+q,none⟩=some (.int .i64 ((fl (st.take q):Nat):Int)):=by
       have:=c0 0 _ rfl
       rwa[Nat.mul_one]at this
      have hql:q<st.length:=by omega
      have hqi:(q:Int)<(st.length:Int):=by omega
      clear hq hsub hR h0 c0;generalize fl (st.take q)=F at *;go_wp2_with (at_builtin;refine haltG ?_);show wpList _ _ _ _ _ _;have bN:Below wa.heap.size wa (wa.alloc (.cells #[] 3)):=Below.alloc (Below.refl _ _) (Nat.le_refl _) _;have oN:=ownG_empty (enc:=encN) (k:=1) (e:=3) (B:=wa.heap.size) wa (Nat.le_refl _);refine wpList_append_M rfl _ _ 91 3 rfl Tryz.underlying91 numInfo rfl (by decide) (by decide) (fun _=>rfl) encN_one wa.heap.size _ _ rfl oN (some ⟨b,o,none⟩) R cs (by rw[HRL.out];rfl) (RowsG.below HR.out bN) (by simp) (by rw[HRL.out];have:=HQ.out;omega) (Below.size bN) ?_;intro v1 w5 ho hgr hloc;have b5:=zh (Below.grown bN hgr (Below.size bN) fun j hj=>(World.ownsRow.lt oN j hj).1);rw[List.nil_append]at ho;have HO:=zh ho;clear ho hgr hloc oN bN;go_wp2_with (at_builtin;refine haltG ?_);show wpList _ _ _ _ _ _;refine wpList_append_G rfl _ _ 91 3 rfl Tryz.underlying91 numInfo rfl (by decide) (by decide) (fun _=>rfl) encN_one wa.heap.size _ _ rfl (World.ownsRow.alloc HO.out _) ⟨w5.heap.size,0,none⟩ ((F:Nat):Int) 1 rfl (rowsOne w5 ((F:Nat):Int) 3 _ rfl) (by rw[HRL.out];have:=HQ.out;omega) (by have:=b5.out.size;simp;omega) ?_;intro v2 w6 ho hgr hloc;have b6:=zh (Below.grown (Below.alloc b5.out (Below.size b5.out) _) hgr (by have:=b5.out.size;simp;omega) fun j hj=>(World.ownsRow.lt HO.out j hj).1);obtain⟨p7,c7,rfl,hc7,l7,hb7⟩:=ownG_rows (enc:=encN) (k:=1) (fun _=>rfl) ho;obtain⟨b7,o7,rfl,hlt7,_⟩:=l7 R.length ((F:Nat):Int) (by simp);have hge:=hb7 _ rfl;have HI6:=zh (HI2.out.below b6.out)
      have L7:=zh l7;have HW6:=zh (Below.more HW2.out b6.out);clear ho hgr hloc HO b5 hb7 l7;go_wp2_with (at_builtin;refine haltG ?_);show wpList _ _ _ _ _ _;refine wpList_append_G rfl _ _ 91 3 rfl Tryz.underlying91 numInfo rfl (by decide) (by decide) (fun _=>rfl) encN_one w.heap.size _ _ rfl (World.ownsRow.alloc HI6.out.own _) ⟨w6.heap.size,0,none⟩ ((F:Nat):Int) 1 rfl (rowsOne w6 ((F:Nat):Int) 3 _ rfl) (by rw[Tm.begT_len];omega) (by have:=HI6.out.big;simp;omega) ?_;intro v3 w7 ho hgr hloc;have hz:=fun j hj=>World.ownsRow.lt HI2.out.own j hj;have b7':=zh (Below.grown (Below.alloc HW6.out (Below.size HW6.out) _) hgr (Below.size (Below.alloc HW6.out (Below.size HW6.out) _)) fun j hj=>(World.ownsRow.lt HI6.out.own j hj).1);have hrow:RowsG encN 1 w7 (some ⟨b7,o7,none⟩) (R++[((F:Nat):Int)]):=RowsG.grown (L7.out.below (Below.alloc (Below.refl _ _) (Nat.le_refl _) _)) hgr fun a ha=>by
       cases ha
       intro e;have:=(hz _ e).2;dsimp only at this;omega
      have HN:Hid (BegI w.heap.size t w7 (k+1) (st.take q++[u]) v3 b7 o7 c7):=zh ⟨by rw[Tm.begT_next,hbA];exact ho,by rw[S2.out,hbA];exact hrow,by
        intro e;rcases hloc with h|h
        ·rw[h]at e;have:=(hz _ e).2;omega
        ·rw[h]at e;have:=Option.some.inj e;simp at this;omega,Below.size b7'.out,by have:=hgr.size;simp at this;omega,by rw[←Tm.bgs_len,S2.out,hbA];exact hc7,S1.out⟩
      have HL7:Hid (R.length+1=(st.take q++[u]).length):=zh (by rw[←Tm.bgs_len,S2.out,List.length_append];rfl);clear hgr hloc hz ho hrow L7 HI6 hge hlt7 hc7;go_wp2_with fail;go_roundw
      case rel=>exact⟨k+1,st.take q++[u],b7,o7,c7,hlt,by go_num,by rw[HL7.out],HN.out,b7'.out⟩
      case measure=>simp[intOf];omega
    ·have hm2:(st.length:Int)<(m:Int):=by omega
     have hm1:¬(m:Int)<0:=by omega
     have HF:=zh (Tm.step_no HX.out HI.out.stk (.inr ⟨m,ha,hm⟩));clear ha hn;go_wp2_with fail;refine bodyPost_ret (v:=.tuple #[.slice none 0 0,.bool false]) (by simp[results,Tryz.results109,go_sem, *]) rfl ?_;exact⟨⟨_,by rw[HF.out],fun h=>by rw[HF.out]at h;cases h⟩,HW2.out⟩
  ·obtain rfl:k=t.length:=by omega
   have HF:=zh (Tm.form_end HI.out.stk (by omega) (by omega));obtain⟨p9,c9,rfl,hc9,l9,_⟩:=ownG_rows (enc:=encN) (k:=1) (fun _=>rfl) HI.out.own;rw[Tm.begT_len]at hc9;have L9:=zh (nums_of l9);clear l9;have el:(begT t t.length).length=t.length:=Tm.begT_len t t.length;have eb:((st.length:Int)==1)=formB t:=by rw[HF.out];cases h:(st.length==1) with
    | true=>rw[beq_iff_eq]at h ⊢;omega
    | false=>rw[beq_eq_false_iff_ne]at h ⊢;omega
   rw[el];go_wp2_with fail;refine bodyPost_ret (v:=.tuple #[.slice p9 t.length c9,.bool (formB t)]) (by simp[results,Tryz.results109,go_sem]) rfl ?_;exact⟨⟨_,rfl,fun _=>⟨p9,c9,rfl,hc9,L9.out⟩⟩,HW.out⟩
theorem rtbegins_any(p:Option Addr)(c:Nat)(t:List Nd)(w:World)(hT:Nds w p t):Calls Tryz.prog 109 #[.slice p t.length c] w (GiveBeg w t):=by
 by_cases h:(t.length:Int)<1∨2000<(t.length:Int)
 ·exact rtbegins_len p c t w h
 ·exact rtbegins_main p c t w (fun k=>h (.inl k)) (fun k=>h (.inr k)) hT
theorem rtformed_any(p:Option Addr)(c:Nat)(t:List Nd)(w:World)(hT:Nds w p t):Calls Tryz.prog 71 #[.slice p t.length c] w (GiveB w (formB t)):=by
 have C:=zh (rtbegins_any p c t w hT);have b0:=Below.refl w.heap.size w;clear hT;go_enter Tryz.func71,Tryz.ntmps71;go_wp2_with fail;refine C.out.mono ?_;rintro e w1 ⟨⟨v,rfl,_⟩,b⟩;have b1:=Below.more b0 b;go_wp2_with fail;go_ret;exact⟨rfl,b1⟩
end Go.Proofs.YtghioekjghmdaaaGreatDoor
namespace Go.Proofs.YtghioekjghmdaaaGreatDoor
open Go.RowKit
open Tm (Nd Tr arN arI formB stk fl bgA begT argsT)
theorem RowsG.part{α:Type}{enc:α→List Value}{k:Nat}{w:World}{b o:Nat}{l:List α}(h:RowsG enc k w (some ⟨b,o,none⟩) l)(f n:Nat):RowsG enc k w (some ⟨b,o+f*k,none⟩) ((l.drop f).take n):=fun j x hx=>by
 rw[List.getElem?_take]at hx;split at hx
 ·rw[List.getElem?_drop]at hx;obtain⟨b',o',hp,hl,c⟩:=h (f+j) x hx
  cases hp
  exact⟨b,o+f*k,rfl,hl,fun i v hv=>by rw[show o+f*k+j*k+i=o+(f+j)*k+i by rw[Nat.add_mul];omega];exact c i v hv⟩
 ·cases hx
end Go.Proofs.YtghioekjghmdaaaGreatDoor
namespace Go.Proofs.YtghioekjghmdaaaGreatDoor
open Go.RowKit
open Tm (Nd)
theorem nd_eq{op op' a a' bb bb':Int}{n d s n' d' s':List UInt8}(e:Nd.mk op (n,d) s a bb=Nd.mk op' (n',d') s' a' bb'):op=op'∧n=n'∧d=d'∧s=s'∧a=a'∧bb=bb':=by
 injection e with e0 e1 e2 e3 e4
 injection e1 with e1 e5
 exact⟨e0,e1,e5,e2,e3,e4⟩
instance:DecidableEq Nd:=fun⟨op,⟨n,d⟩,s,a,bb⟩ ⟨op',⟨n',d'⟩,s',a',bb'⟩ =>
 if h:op=op'∧n=n'∧d=d'∧s=s'∧a=a'∧bb=bb' then isTrue (by obtain⟨rfl,rfl,rfl,rfl,rfl,rfl⟩:=h;rfl) else isFalse fun e=>h (nd_eq e)
end Go.Proofs.YtghioekjghmdaaaGreatDoor
set_option maxHeartbeats 4000000
set_option maxRecDepth 100000
namespace Go.Proofs.YtghioekjghmdaaaGreatDoor
open Go.RowKit
open Tm (Nd Tr arN arI formB stk fl dp ds mx mkT depthT)
structure DepI(B:Nat)(t:List Nd)(w:World)(k:Nat)(st:List Tr)(b o c:Nat):Prop where
 rows:RowsG encN 1 w (some ⟨b,o,none⟩) (ds st)
 cap:st.length≤c
 stk:stk t k=some st
theorem DepI.below{B:Nat}{t:List Nd}{w w':World}{k:Nat}{st:List Tr}{b o c:Nat}(h:DepI B t w k st b o c)(hb:Below w.heap.size w w'):DepI B t w' k st b o c:=⟨h.rows.below hb,h.cap,h.stk⟩
theorem rtdepth_any(p:Option Addr)(c:Nat)(t:List Nd)(w:World)(hT:Nds w p t):Calls Tryz.prog 43 #[.slice p t.length c] w (GiveI w ((depthT t:Nat):Int)):=by
 have C:=zh (rtformed_any p c t w hT);have HT:=zh hT;clear hT
 cases hf:formB t with
 | false =>
  have hd:=Tm.depth_no hf;rw[hd];rw[hf]at C;clear hf hd;have b0:=Below.refl w.heap.size w;go_enter Tryz.func43,Tryz.ntmps43;go_wp2_with fail;refine C.out.mono ?_;rintro e w1 ⟨rfl,b⟩;have b1:=Below.more b0 b;clear b;go_wp2_with fail;go_ret;exact⟨rfl,b1⟩
 | true =>
  have HF:=zh hf;rw[hf]at C;clear hf;have b0:=Below.refl w.heap.size w;obtain⟨tr,e1,e2,_,_,hl1,hl2⟩:=Tm.form_stk HF.out;have HS:=zh e1;have HD:=zh (Tm.depth_of HF.out e2);clear e1 e2;go_enter Tryz.func43,Tryz.ntmps43;go_wp2_with fail;refine C.out.mono ?_;rintro e w1 ⟨rfl,b⟩;have b1:=Below.more b0 b;have HT1:=zh (HT.out.below b);clear b C HT;go_wp2_with fail
  go_loopw [3,4,5,6,7] (fun sv iv nv dv kv wr=>∃ (k:Nat) (st:List Tr) (b o c:Nat),k≤t.length∧iv=.int .i64 k∧sv=.slice (some ⟨b,o,none⟩) st.length c∧DepI w.heap.size t wr k st b o c∧Below w1.heap.size w1 wr) (fun _ iv _ _ _ _=>t.length-(intOf iv).toNat)
  case atStart=>exact⟨0,[],w1.heap.size,0,0,Nat.zero_le _,rfl,by simp,⟨RowsG.nil _ _,Nat.le_refl _,rfl⟩,Below.step _ (Below.refl _ _)⟩
  case round =>
   obtain⟨k,st,b,o,cs,hk,rfl,rfl,hI,hw⟩:=hrel;have HW:=zh hw;have HI:=zh hI;clear hw hI;have hst:st.length≤t.length:=by
    have e:=Tm.stk_fl HI.out.stk hk;have:=Tm.len_fl st;omega
   by_cases hlt:k<t.length
   ·have hki:(k:Int)<(t.length:Int):=by omega
    obtain⟨x,hx⟩:∃x,t[k]?=some x:=⟨_,List.getElem?_eq_getElem hlt⟩;have HX:=zh hx;obtain⟨bp,op,rfl,k0,_⟩:=nds_rule (HT1.out.below HW.out) hx;obtain⟨m,ha,hm⟩:=Tm.form_step HF.out hx HI.out.stk;clear hx;have b0:=Below.refl wr.heap.size wr;go_wp2_with fail;refine(rtarity_any x.op wr).mono ?_;rintro e wa ⟨rfl,ba⟩;have HW2:=zh (Below.more HW.out ba);have HI2:=zh (HI.out.below ba);clear ba k0 b0;have hn:arI x.op=(m:Int):=by unfold arI;rw[ha]
    rw[hn];have S1:=zh (Tm.step_mk HX.out HI.out.stk ha hm);have h3:=Tm.arN_le ha;obtain⟨q,hq⟩:∃q,st.length=q+m:=⟨st.length-m,by omega⟩;have hsub:st.length-m=q:=by omega
    rw[hsub]at S1;obtain⟨R,hR⟩:∃R,R=(ds st).take q:=⟨_,rfl⟩;have HRL:Hid (R.length=q):=zh (by rw[hR,List.length_take,Tm.ds_len];omega);have HR:Hid (RowsG encN 1 wa (some ⟨b,o,none⟩) R):=zh fun j y hj=>HI2.out.rows j y (by
     rw[hR,List.getElem?_take]at hj;split at hj
     ·exact hj
     ·cases hj)
    obtain⟨Dm,hDm⟩:∃Dm,Dm=mx ((st.drop q).map dp):=⟨_,rfl⟩;have HDS:Hid (ds (st.take q++[mkT x (st.drop q)])=R++[((Dm:Nat):Int)+1]):=zh (by
     unfold ds at hR ⊢;rw[List.map_append,List.map_take,← hR,List.map_singleton,Tm.dp_mk (by rw[List.length_drop];omega),← hDm];rfl)
    have hbd:∀s∈st,dp s≤2000:=fun s hs=>by
     have:=Tm.dp_le s;have:=Tm.one_fl hs;have:=Tm.stk_fl HI.out.stk hk;omega
    have HBD:Hid (∀j,mx (((st.drop q).take j).map dp)≤2000):=zh fun j=>Tm.mx_le fun a ha=>by
     obtain⟨s,hs,rfl⟩:=List.mem_map.1 ha;exact hbd s (List.mem_of_mem_drop (List.mem_of_mem_take hs))
    have hDb:Dm≤2000:=by
     have:=HBD.out (st.drop q).length
     rwa[List.take_length,← hDm]at this
    have HQ:Hid (q≤2000):=zh (by omega);have hwr:wrap64 ((st.length:Int)-(m:Int))=(q:Int):=(IntWalk.wrap64_in _ ⟨by omega,by omega⟩).trans (by omega);have hwr2:IntKind.i64.wrap ((st.length:Int)-(m:Int))=(q:Int):=(IntWalk.i64_in _ (by omega)).trans (by omega);have hcap:=HI.out.cap;have hqc:q≤cs:=by omega
    have HLT:=zh hlt;have HEL:Hid (∀j,q+j<st.length→∃E:Nat,(ds st)[q+j]?=some (E:Int)∧E≤2000∧mx (((st.drop q).take (j+1)).map dp)=max (mx (((st.drop q).take j).map dp)) E):=zh fun j hj=>by
     refine⟨dp st[q+j],?_,hbd _ (List.getElem_mem hj),?_⟩
     ·unfold ds;rw[List.getElem?_map,List.getElem?_eq_getElem hj];rfl
     ·have hj':(st.drop q)[j]?=some st[q+j]:=by rw[List.getElem?_drop,List.getElem?_eq_getElem hj]
      rw[List.take_add_one,hj',List.map_append,← Tm.mx_snoc];rfl
    have HEND:Hid (mx (((st.drop q).take m).map dp)=Dm):=zh (by rw[hDm,List.take_of_length_le (by rw[List.length_drop];omega)]);clear ha hn h3 hsub hR hDm hbd hlt;have HQM:=zh hq;clear hq;go_wp2_with fail;generalize hv1:w1.heap.size=V1 at *;generalize hv0:w.heap.size=V0 at *
    go_loopw [6,7] (fun dv kv wb=>∃j:Nat,j≤m∧dv=.int .i64 ((mx (((st.drop q).take j).map dp):Nat):Int)∧kv=.int .i64 ((q+j:Nat):Int)∧Below wa.heap.size wa wb) (fun _ kv _=>st.length-(intOf kv).toNat)
    case atStart=>exact⟨0,Nat.zero_le _,rfl,rfl,Below.refl _ _⟩
    case round =>
     obtain⟨j,hj,rfl,rfl,hwb⟩:=hrel;by_cases hjm:j<m
     ·have hqj:q+j<st.length:=by have:=HQM.out;omega
      have hqji:((q+j:Nat):Int)<(st.length:Int):=by omega
      obtain⟨E,hE,hEb,hnx⟩:=HEL.out j hqj;obtain⟨b',o',hbo,hlt',c0⟩:=(HI2.out.rows.below hwb) (q+j) _ hE
      cases hbo
      have c1:wr.cell? ⟨b,o+(q+j),none⟩=some (.int .i64 (E:Int)):=by
       have:=c0 0 _ rfl
       rwa[Nat.mul_one]at this
      have hFb:=HBD.out j;generalize hF:mx (((st.drop q).take j).map dp)=F at *;clear hE c0 hF;by_cases hmx:F<E
      ·have hmx':(F:Int)<(E:Int):=by omega
       have hx1:max (F:Int) (E:Int)=(E:Int):=by omega
       have hx2:max F E=E:=by omega
       rw[hx2]at hnx;go_wp2_with fail;go_roundw
       case rel=>exact⟨j+1,by omega,by rw[hnx],by go_num,hwb⟩
       case measure=>simp[intOf];omega
      ·have hmx':¬(F:Int)<(E:Int):=by omega
       have hx1:max (F:Int) (E:Int)=(F:Int):=by omega
       have hx2:max F E=F:=by omega
       rw[hx2]at hnx;go_wp2_with fail;go_roundw
       case rel=>exact⟨j+1,by omega,by rw[hnx],by go_num,hwb⟩
       case measure=>simp[intOf];omega
     ·obtain rfl:j=m:=by omega
      have hqj:¬((q+j:Nat):Int)<(st.length:Int):=by have:=HQM.out;omega
      rw[HEND.out];generalize hwbn:wr=wb at *;have HWB:=zh hwb;clear hwb;subst hv0 hv1;go_wp2_with (at_builtin;refine haltG ?_);show wpList _ _ _ _ _ _;have bN:Below wb.heap.size wb (wb.alloc (.cells #[] 3)):=Below.alloc (Below.refl _ _) (Nat.le_refl _) _;have oN:=ownG_empty (enc:=encN) (k:=1) (e:=3) (B:=wb.heap.size) wb (Nat.le_refl _);refine wpList_append_M rfl _ _ 91 3 rfl Tryz.underlying91 numInfo rfl (by decide) (by decide) (fun _=>rfl) encN_one wb.heap.size _ _ rfl oN (some ⟨b,o,none⟩) R cs (by rw[HRL.out];rfl) (RowsG.below (HR.out.below HWB.out) bN) (by simp) (by rw[HRL.out];have:=HQ.out;omega) (Below.size bN) ?_;intro v1 w5 ho hgr hloc;have b5:=zh (Below.grown bN hgr (Below.size bN) fun j hj=>(World.ownsRow.lt oN j hj).1);rw[List.nil_append]at ho;have HO:=zh ho;clear ho hgr hloc oN bN;go_wp2_with (at_builtin;refine haltG ?_);show wpList _ _ _ _ _ _;refine wpList_append_G rfl _ _ 91 3 rfl Tryz.underlying91 numInfo rfl (by decide) (by decide) (fun _=>rfl) encN_one wb.heap.size _ _ rfl (World.ownsRow.alloc HO.out _) ⟨w5.heap.size,0,none⟩ (((Dm:Nat):Int)+1) 1 rfl (rowsOne w5 (((Dm:Nat):Int)+1) 3 _ rfl) (by rw[HRL.out];have:=HQ.out;omega) (by have:=b5.out.size;simp;omega) ?_;intro v2 w6 ho hgr hloc;have b6:=zh (Below.grown (Below.alloc b5.out (Below.size b5.out) _) hgr (by have:=b5.out.size;simp;omega) fun j hj=>(World.ownsRow.lt HO.out j hj).1);obtain⟨p7,c7,rfl,hc7,l7,_⟩:=ownG_rows (enc:=encN) (k:=1) (fun _=>rfl) ho;obtain⟨b7,o7,rfl,_,_⟩:=l7 R.length (((Dm:Nat):Int)+1) (by simp)
      have HW6:=zh (Below.more (Below.more HW2.out HWB.out) b6.out);have HN:Hid (DepI w.heap.size t w6 (k+1) (st.take q++[mkT x (st.drop q)]) b7 o7 c7):=zh ⟨by rw[HDS.out];exact l7,by rw[←Tm.ds_len,HDS.out];exact hc7,S1.out⟩;have HL7:Hid (R.length+1=(st.take q++[mkT x (st.drop q)]).length):=zh (by rw[←Tm.ds_len,HDS.out,List.length_append];rfl);clear ho hgr hloc HO b5 l7 hc7;go_wp2_with fail;go_roundw
      case rel=>exact⟨k+1,st.take q++[mkT x (st.drop q)],b7,o7,c7,by have:=HLT.out;omega,by go_num,by rw[HL7.out],HN.out,HW6.out⟩
      case measure=>have:=HLT.out;simp[intOf];omega
   ·obtain rfl:k=t.length:=by omega
    have e:=HI.out.stk.symm.trans HS.out
    cases e
    obtain⟨b',o',hbo,_,c0⟩:=HI.out.rows 0 _ rfl
    cases hbo
    have c1:wr.cell? ⟨b,o,none⟩=some (.int .i64 ((dp tr:Nat):Int)):=by
     have:=c0 0 _ rfl
     simpa using this
    clear c0;go_wp2_with fail;go_ret;exact⟨by rw[HD.out];rfl,Below.more b1 HW.out⟩
end Go.Proofs.YtghioekjghmdaaaGreatDoor
set_option maxHeartbeats 4000000
set_option maxRecDepth 100000
namespace Go.Proofs.YtghioekjghmdaaaGreatDoor
open Go.RowKit
open Tm (Nd numP decB numH)
def GiveU(w:World)(t:List UInt8)(e:Ending)(w':World):Prop:=e=.returned (.string ⟨t.toArray⟩)∧Below w.heap.size w w'
theorem num_text(n d:List UInt8):(⟨#[110,117,109,40]⟩:ByteArray)++⟨n.toArray⟩++⟨#[44,32]⟩++⟨d.toArray⟩++⟨#[41]⟩=⟨(numH++(n++44::32::(d++[41]))).toArray⟩ :=
 bytes_eq (by rw[ba_append,ba_append,ba_append,ba_append];simp[Tm.numH])
theorem ret_u{s:ByteArray}{t:List UInt8}(h:s=⟨t.toArray⟩):Ending.returned (.string s)=.returned (.string ⟨t.toArray⟩):=by rw[h]
theorem rtnumber_any(n d:List UInt8)(w:World)(hn:n.length≤4000)(hd:d.length≤4000):Calls Tryz.prog 111 #[.agg #[.string ⟨n.toArray⟩,.string ⟨d.toArray⟩]] w (GiveU w (numP (n,d))):=by
 have cp:∀w,Calls Tryz.prog 148 #[.agg #[.string ⟨n.toArray⟩,.string ⟨d.toArray⟩]] w (GiveIB w (plS (n,d))):=fun w=>rdplaces_any ⟨n.toArray⟩ ⟨d.toArray⟩ w (by rw[size_of];omega) (by rw[size_of];omega);have cg:∀w,Calls Tryz.prog 21 #[.agg #[.string ⟨n.toArray⟩,.string ⟨d.toArray⟩]] w (GiveI w (sgnR (n,d))):=fun w=>rqsign_any ⟨n.toArray⟩ ⟨d.toArray⟩ w (by rw[size_of];omega) (by rw[size_of];omega);have cr:∀w,Calls Tryz.prog 149 #[.agg #[.string ⟨n.toArray⟩,.string ⟨d.toArray⟩]] w (GiveS w (prS (n,d))):=fun w=>rdprint_any ⟨n.toArray⟩ ⟨d.toArray⟩ w (by rw[size_of];exact hn) (by rw[size_of];exact hd);have hdec:decB (n,d)=((plS (n,d)).2&&(decide ((plS (n,d)).1≤20)&&decide (0≤sgnR (n,d)))):=rfl;have hnum:numP (n,d)=if decB (n,d) then prS (n,d) else numH++(n++44::32::(d++[41])):=rfl
 generalize plS (n,d)=P at *;generalize sgnR (n,d)=z at *;generalize prS (n,d)=t at *;obtain⟨i,y⟩:=P;have CP:=zh cp;have CG:=zh cg;have CR:=zh cr
 clear cp cg cr;dsimp only at hdec
 cases y with
 | false =>
  have HA:Hid (numP (n,d)=numH++(n++44::32::(d++[41]))):=zh (by rw[hnum,hdec];rfl);clear hnum hdec;go_enter Tryz.func111,Tryz.ntmps111;go_wp2_with fail;have BW:=Below.refl w.heap.size w;have b0:Below w.heap.size w w:=Below.refl _ _;obtain⟨U1,hU,bU,s1,rx0,rx1⟩:=lay b0 (.string ⟨n.toArray⟩) (.string ⟨d.toArray⟩) 28;rw[hU];clear hU;clear s1;replace BW:=Below.more BW bU;clear bU;have b1:=Below.refl U1.heap.size U1;go_wp2_with fail;refine(CP.out _).mono ?_;rintro e w2 ⟨rfl,b⟩;have b2:=Below.more b1 b;clear b;go_wp2_with fail;go_ret;exact⟨(ret_u (num_text n d)).trans (by rw[HA.out]),Below.more BW b2⟩
 | true =>
  by_cases h20:i≤20
  ·by_cases hz:0≤z
   ·have HA:Hid (numP (n,d)=t):=zh (by rw[hnum,hdec,decide_eq_true h20,decide_eq_true hz];rfl);clear hnum hdec;go_enter Tryz.func111,Tryz.ntmps111;go_wp2_with fail;have BW:=Below.refl w.heap.size w;have b0:Below w.heap.size w w:=Below.refl _ _;obtain⟨U1,hU,bU,s1,rx0,rx1⟩:=lay b0 (.string ⟨n.toArray⟩) (.string ⟨d.toArray⟩) 28;rw[hU];clear hU;clear s1;replace BW:=Below.more BW bU;clear bU;have b1:=Below.refl U1.heap.size U1;go_wp2_with fail;refine(CP.out _).mono ?_;rintro e w2 ⟨rfl,b⟩;have b2:=Below.more b1 b;clear b;go_wp2_with fail;refine(CG.out _).mono ?_;rintro e w3 ⟨rfl,b⟩;have b3:=Below.more b2 b;clear b;go_wp2_with fail;refine(CR.out _).mono ?_;rintro e w4 ⟨rfl,b⟩;have b4:=Below.more b3 b;clear b;go_wp2_with fail;go_ret;exact⟨by rw[HA.out];rfl,Below.more BW b4⟩
   ·have HA:Hid (numP (n,d)=numH++(n++44::32::(d++[41]))):=zh (by rw[hnum,hdec,decide_eq_true h20,decide_eq_false hz];rfl);clear hnum hdec;go_enter Tryz.func111,Tryz.ntmps111;go_wp2_with fail;have BW:=Below.refl w.heap.size w;have b0:Below w.heap.size w w:=Below.refl _ _;obtain⟨U1,hU,bU,s1,rx0,rx1⟩:=lay b0 (.string ⟨n.toArray⟩) (.string ⟨d.toArray⟩) 28;rw[hU];clear hU;clear s1;replace BW:=Below.more BW bU;clear bU;have b1:=Below.refl U1.heap.size U1;go_wp2_with fail;refine(CP.out _).mono ?_;rintro e w2 ⟨rfl,b⟩;have b2:=Below.more b1 b;clear b;go_wp2_with fail;refine(CG.out _).mono ?_;rintro e w3 ⟨rfl,b⟩;have b3:=Below.more b2 b;clear b;go_wp2_with fail;go_ret;exact⟨(ret_u (num_text n d)).trans (by rw[HA.out]),Below.more BW b3⟩
  ·have HA:Hid (numP (n,d)=numH++(n++44::32::(d++[41]))):=zh (by rw[hnum,hdec,decide_eq_false h20];rfl);clear hnum hdec;go_enter Tryz.func111,Tryz.ntmps111;go_wp2_with fail;have BW:=Below.refl w.heap.size w;have b0:Below w.heap.size w w:=Below.refl _ _;obtain⟨U1,hU,bU,s1,rx0,rx1⟩:=lay b0 (.string ⟨n.toArray⟩) (.string ⟨d.toArray⟩) 28;rw[hU];clear hU;clear s1;replace BW:=Below.more BW bU;clear bU;have b1:=Below.refl U1.heap.size U1;go_wp2_with fail;refine(CP.out _).mono ?_;rintro e w2 ⟨rfl,b⟩;have b2:=Below.more b1 b;clear b;go_wp2_with fail;go_ret;exact⟨(ret_u (num_text n d)).trans (by rw[HA.out]),Below.more BW b2⟩
end Go.Proofs.YtghioekjghmdaaaGreatDoor
