/- Own work. -/
import Derived.Test.YtmllklfjngapiaaGreatDoorRowsMM
set_option linter.unusedSimpArgs false
set_option linter.unusedVariables false
set_option maxHeartbeats 4000000
set_option maxRecDepth 100000
namespace Go.Proofs.YtmllklfjngapiaaGreatDoor
open Go.RowKit
open Tm (Nd Tr arN arI formB)
def encD(x:Nd):List Value:=[.int .i64 x.op,.string ⟨x.num.1.toArray⟩,.string ⟨x.num.2.toArray⟩,.string ⟨x.ast.toArray⟩,.int .i64 x.a,.int .i64 x.b]
theorem encD_one(x:Nd):∀v∈encD x,v.oneCell'=true:=fun v hv=>by
 unfold encD at hv;simp only[List.mem_cons,List.not_mem_nil,or_false]at hv;rcases hv with rfl|rfl|rfl|rfl|rfl|rfl<;>rfl
theorem ndInfo:(Tryz.prog.info? 40).map (fun i=>(i.zero,i.size,i.bytes))=some (some (.agg #[.int .i64 0,.string ⟨#[]⟩,.string ⟨#[]⟩,.string ⟨#[]⟩,.int .i64 0,.int .i64 0]),6,72):=by kernel_rfl
abbrev Nds(w:World)(p:Option Addr)(t:List Nd):Prop:=RowsG encD 6 w p t
abbrev OwnD(B:Nat)(w:World)(v:Value)(l:List Nd):Prop:=OwnG encD 6 40 B w v l
theorem nds_rule{w:World}{p:Option Addr}{l:List Nd}(h:Nds w p l){k:Nat}{x:Nd}(hx:l[k]?=some x):∃b o,p=some ⟨b,o,none⟩∧(∀v,Below w.heap.size w v→v.cell? ⟨b,o+k*6,none⟩=some (.int .i64 x.op)) ∧
  (∀v,Below w.heap.size w v→v.cell? ⟨b,o+k*6+1,none⟩=some (.string ⟨x.num.1.toArray⟩))∧(∀v,Below w.heap.size w v→v.cell? ⟨b,o+k*6+2,none⟩=some (.string ⟨x.num.2.toArray⟩)) ∧
  (∀v,Below w.heap.size w v→v.cell? ⟨b,o+k*6+3,none⟩=some (.string ⟨x.ast.toArray⟩))∧(∀v,Below w.heap.size w v→v.cell? ⟨b,o+k*6+4,none⟩=some (.int .i64 x.a))∧(∀v,Below w.heap.size w v→v.cell? ⟨b,o+k*6+5,none⟩=some (.int .i64 x.b)):=by
 obtain⟨b,o,hp,hl,c⟩:=h k x hx;exact⟨b,o,hp,fun v hb=>(hb.cell (p:=⟨b,_,none⟩) hl).trans (c 0 _ rfl),fun v hb=>(hb.cell (p:=⟨b,_,none⟩) hl).trans (c 1 _ rfl),fun v hb=>(hb.cell (p:=⟨b,_,none⟩) hl).trans (c 2 _ rfl),fun v hb=>(hb.cell (p:=⟨b,_,none⟩) hl).trans (c 3 _ rfl),fun v hb=>(hb.cell (p:=⟨b,_,none⟩) hl).trans (c 4 _ rfl),fun v hb=>(hb.cell (p:=⟨b,_,none⟩) hl).trans (c 5 _ rfl)⟩
theorem ar_0(w:World):(Instr.index 97 (.agg #[.int .i64 0,.int .i64 0,.int .i64 0,.int .i64 0,.int .i64 0,.int .i64 1,.int .i64 2,.int .i64 2,.int .i64 2,.int .i64 2,.int .i64 2,.int .i64 2,.int .i64 3]) (.int .i64 0)).run Tryz.prog w=.ok (.int .i64 0) w:=by kernel_rfl
theorem ar_1(w:World):(Instr.index 97 (.agg #[.int .i64 0,.int .i64 0,.int .i64 0,.int .i64 0,.int .i64 0,.int .i64 1,.int .i64 2,.int .i64 2,.int .i64 2,.int .i64 2,.int .i64 2,.int .i64 2,.int .i64 3]) (.int .i64 1)).run Tryz.prog w=.ok (.int .i64 0) w:=by kernel_rfl
theorem ar_2(w:World):(Instr.index 97 (.agg #[.int .i64 0,.int .i64 0,.int .i64 0,.int .i64 0,.int .i64 0,.int .i64 1,.int .i64 2,.int .i64 2,.int .i64 2,.int .i64 2,.int .i64 2,.int .i64 2,.int .i64 3]) (.int .i64 2)).run Tryz.prog w=.ok (.int .i64 0) w:=by kernel_rfl
theorem ar_3(w:World):(Instr.index 97 (.agg #[.int .i64 0,.int .i64 0,.int .i64 0,.int .i64 0,.int .i64 0,.int .i64 1,.int .i64 2,.int .i64 2,.int .i64 2,.int .i64 2,.int .i64 2,.int .i64 2,.int .i64 3]) (.int .i64 3)).run Tryz.prog w=.ok (.int .i64 0) w:=by kernel_rfl
theorem ar_4(w:World):(Instr.index 97 (.agg #[.int .i64 0,.int .i64 0,.int .i64 0,.int .i64 0,.int .i64 0,.int .i64 1,.int .i64 2,.int .i64 2,.int .i64 2,.int .i64 2,.int .i64 2,.int .i64 2,.int .i64 3]) (.int .i64 4)).run Tryz.prog w=.ok (.int .i64 0) w:=by kernel_rfl
theorem ar_5(w:World):(Instr.index 97 (.agg #[.int .i64 0,.int .i64 0,.int .i64 0,.int .i64 0,.int .i64 0,.int .i64 1,.int .i64 2,.int .i64 2,.int .i64 2,.int .i64 2,.int .i64 2,.int .i64 2,.int .i64 3]) (.int .i64 5)).run Tryz.prog w=.ok (.int .i64 1) w:=by kernel_rfl
theorem ar_6(w:World):(Instr.index 97 (.agg #[.int .i64 0,.int .i64 0,.int .i64 0,.int .i64 0,.int .i64 0,.int .i64 1,.int .i64 2,.int .i64 2,.int .i64 2,.int .i64 2,.int .i64 2,.int .i64 2,.int .i64 3]) (.int .i64 6)).run Tryz.prog w=.ok (.int .i64 2) w:=by kernel_rfl
theorem ar_7(w:World):(Instr.index 97 (.agg #[.int .i64 0,.int .i64 0,.int .i64 0,.int .i64 0,.int .i64 0,.int .i64 1,.int .i64 2,.int .i64 2,.int .i64 2,.int .i64 2,.int .i64 2,.int .i64 2,.int .i64 3]) (.int .i64 7)).run Tryz.prog w=.ok (.int .i64 2) w:=by kernel_rfl
theorem ar_8(w:World):(Instr.index 97 (.agg #[.int .i64 0,.int .i64 0,.int .i64 0,.int .i64 0,.int .i64 0,.int .i64 1,.int .i64 2,.int .i64 2,.int .i64 2,.int .i64 2,.int .i64 2,.int .i64 2,.int .i64 3]) (.int .i64 8)).run Tryz.prog w=.ok (.int .i64 2) w:=by kernel_rfl
theorem ar_9(w:World):(Instr.index 97 (.agg #[.int .i64 0,.int .i64 0,.int .i64 0,.int .i64 0,.int .i64 0,.int .i64 1,.int .i64 2,.int .i64 2,.int .i64 2,.int .i64 2,.int .i64 2,.int .i64 2,.int .i64 3]) (.int .i64 9)).run Tryz.prog w=.ok (.int .i64 2) w:=by kernel_rfl
theorem ar_10(w:World):(Instr.index 97 (.agg #[.int .i64 0,.int .i64 0,.int .i64 0,.int .i64 0,.int .i64 0,.int .i64 1,.int .i64 2,.int .i64 2,.int .i64 2,.int .i64 2,.int .i64 2,.int .i64 2,.int .i64 3]) (.int .i64 10)).run Tryz.prog w=.ok (.int .i64 2) w:=by kernel_rfl
theorem ar_11(w:World):(Instr.index 97 (.agg #[.int .i64 0,.int .i64 0,.int .i64 0,.int .i64 0,.int .i64 0,.int .i64 1,.int .i64 2,.int .i64 2,.int .i64 2,.int .i64 2,.int .i64 2,.int .i64 2,.int .i64 3]) (.int .i64 11)).run Tryz.prog w=.ok (.int .i64 2) w:=by kernel_rfl
theorem ar_12(w:World):(Instr.index 97 (.agg #[.int .i64 0,.int .i64 0,.int .i64 0,.int .i64 0,.int .i64 0,.int .i64 1,.int .i64 2,.int .i64 2,.int .i64 2,.int .i64 2,.int .i64 2,.int .i64 2,.int .i64 3]) (.int .i64 12)).run Tryz.prog w=.ok (.int .i64 3) w:=by kernel_rfl
theorem rtarity_no(op:Int)(h:op<0∨12<op)(w:World):Calls Tryz.prog 27 #[.int .i64 op] w (GiveI w (-1)):=by
 by_cases h1:op<0
 ·go_enter Tryz.func27,Tryz.ntmps27;go_wp2_with fail;go_ret;exact⟨rfl,Below.refl _ _⟩
 ·have h2:12<op:=by omega
  clear h;go_enter Tryz.func27,Tryz.ntmps27;go_wp2_with fail;go_ret;exact⟨rfl,Below.refl _ _⟩
theorem rtarity_0(w:World):Calls Tryz.prog 27 #[.int .i64 0] w (GiveI w 0):=by
 go_enter Tryz.func27,Tryz.ntmps27;go_wp2_with fail
 all_goals (try rw[ar_0])
 all_goals (try go_wp2_with fail)
 go_ret;exact⟨rfl,Below.refl _ _⟩
theorem rtarity_1(w:World):Calls Tryz.prog 27 #[.int .i64 1] w (GiveI w 0):=by
 go_enter Tryz.func27,Tryz.ntmps27;go_wp2_with fail
 all_goals (try rw[ar_1])
 all_goals (try go_wp2_with fail)
 go_ret;exact⟨rfl,Below.refl _ _⟩
theorem rtarity_2(w:World):Calls Tryz.prog 27 #[.int .i64 2] w (GiveI w 0):=by
 go_enter Tryz.func27,Tryz.ntmps27;go_wp2_with fail
 all_goals (try rw[ar_2])
 all_goals (try go_wp2_with fail)
 go_ret;exact⟨rfl,Below.refl _ _⟩
theorem rtarity_3(w:World):Calls Tryz.prog 27 #[.int .i64 3] w (GiveI w 0):=by
 go_enter Tryz.func27,Tryz.ntmps27;go_wp2_with fail
 all_goals (try rw[ar_3])
 all_goals (try go_wp2_with fail)
 go_ret;exact⟨rfl,Below.refl _ _⟩
theorem rtarity_4(w:World):Calls Tryz.prog 27 #[.int .i64 4] w (GiveI w 0):=by
 go_enter Tryz.func27,Tryz.ntmps27;go_wp2_with fail
 all_goals (try rw[ar_4])
 all_goals (try go_wp2_with fail)
 go_ret;exact⟨rfl,Below.refl _ _⟩
theorem rtarity_5(w:World):Calls Tryz.prog 27 #[.int .i64 5] w (GiveI w 1):=by
 go_enter Tryz.func27,Tryz.ntmps27;go_wp2_with fail
 all_goals (try rw[ar_5])
 all_goals (try go_wp2_with fail)
 go_ret;exact⟨rfl,Below.refl _ _⟩
theorem rtarity_6(w:World):Calls Tryz.prog 27 #[.int .i64 6] w (GiveI w 2):=by
 go_enter Tryz.func27,Tryz.ntmps27;go_wp2_with fail
 all_goals (try rw[ar_6])
 all_goals (try go_wp2_with fail)
 go_ret;exact⟨rfl,Below.refl _ _⟩
theorem rtarity_7(w:World):Calls Tryz.prog 27 #[.int .i64 7] w (GiveI w 2):=by
 go_enter Tryz.func27,Tryz.ntmps27;go_wp2_with fail
 all_goals (try rw[ar_7])
 all_goals (try go_wp2_with fail)
 go_ret;exact⟨rfl,Below.refl _ _⟩
theorem rtarity_8(w:World):Calls Tryz.prog 27 #[.int .i64 8] w (GiveI w 2):=by
 go_enter Tryz.func27,Tryz.ntmps27;go_wp2_with fail
 all_goals (try rw[ar_8])
 all_goals (try go_wp2_with fail)
 go_ret;exact⟨rfl,Below.refl _ _⟩
theorem rtarity_9(w:World):Calls Tryz.prog 27 #[.int .i64 9] w (GiveI w 2):=by
 go_enter Tryz.func27,Tryz.ntmps27;go_wp2_with fail
 all_goals (try rw[ar_9])
 all_goals (try go_wp2_with fail)
 go_ret;exact⟨rfl,Below.refl _ _⟩
theorem rtarity_10(w:World):Calls Tryz.prog 27 #[.int .i64 10] w (GiveI w 2):=by
 go_enter Tryz.func27,Tryz.ntmps27;go_wp2_with fail
 all_goals (try rw[ar_10])
 all_goals (try go_wp2_with fail)
 go_ret;exact⟨rfl,Below.refl _ _⟩
theorem rtarity_11(w:World):Calls Tryz.prog 27 #[.int .i64 11] w (GiveI w 2):=by
 go_enter Tryz.func27,Tryz.ntmps27;go_wp2_with fail
 all_goals (try rw[ar_11])
 all_goals (try go_wp2_with fail)
 go_ret;exact⟨rfl,Below.refl _ _⟩
theorem rtarity_12(w:World):Calls Tryz.prog 27 #[.int .i64 12] w (GiveI w 3):=by
 go_enter Tryz.func27,Tryz.ntmps27;go_wp2_with fail
 all_goals (try rw[ar_12])
 all_goals (try go_wp2_with fail)
 go_ret;exact⟨rfl,Below.refl _ _⟩
theorem rtarity_any(op:Int)(w:World):Calls Tryz.prog 27 #[.int .i64 op] w (GiveI w (arI op)):=by
 by_cases h:op<0∨12<op
 ·have e:arI op=-1:=by unfold arI arN;rw[if_pos h]
  rw[e];exact rtarity_no op h w
 ·have h:op=0∨op=1∨op=2∨op=3∨op=4∨op=5∨op=6∨op=7∨op=8∨op=9∨op=10∨op=11∨op=12:=by omega
  rcases h with rfl|rfl|rfl|rfl|rfl|rfl|rfl|rfl|rfl|rfl|rfl|rfl|rfl
  ·exact rtarity_0 w
  ·exact rtarity_1 w
  ·exact rtarity_2 w
  ·exact rtarity_3 w
  ·exact rtarity_4 w
  ·exact rtarity_5 w
  ·exact rtarity_6 w
  ·exact rtarity_7 w
  ·exact rtarity_8 w
  ·exact rtarity_9 w
  ·exact rtarity_10 w
  ·exact rtarity_11 w
  ·exact rtarity_12 w
end Go.Proofs.YtmllklfjngapiaaGreatDoor
set_option maxHeartbeats 4000000
set_option maxRecDepth 100000
namespace Go.Proofs.YtmllklfjngapiaaGreatDoor
open Go.RowKit
open Tm (Nd Tr arN arI formB stk bgs begT bgA fl)
def GiveBeg(w:World)(t:List Nd)(e:Ending)(w':World):Prop:=(∃v,e=.returned (.tuple #[v,.bool (formB t)])∧(formB t=true→∃p c,v=.slice p t.length c∧t.length≤c∧Nums w' p (begT t t.length)))∧Below w.heap.size w w'
structure BegI(B:Nat)(t:List Nd)(w:World)(k:Nat)(st:List Tr)(ov:Value)(b o c:Nat):Prop where
 own:OwnN B w ov (begT t k)
 rows:RowsG encN 1 w (some ⟨b,o,none⟩) (bgs st)
 sep:ov.ownBlock≠some b
 big:B≤w.heap.size
 lt:b<w.heap.size
 cap:st.length≤c
 stk:stk t k=some st
theorem BegI.below{B:Nat}{t:List Nd}{w w':World}{k:Nat}{st:List Tr}{ov:Value}{b o c:Nat}(h:BegI B t w k st ov b o c)(hb:Below w.heap.size w w'):BegI B t w' k st ov b o c :=
 ⟨ownG_below h.own hb,h.rows.below hb,h.sep,Nat.le_trans h.big hb.size,Nat.lt_of_lt_of_le h.lt hb.size,h.cap,h.stk⟩
theorem rtbegins_len(p:Option Addr)(c:Nat)(t:List Nd)(w:World)(h:(t.length:Int)<1∨2000<(t.length:Int)):Calls Tryz.prog 56 #[.slice p t.length c] w (GiveBeg w t):=by
 have HF:=zh (Tm.form_len (t:=t) (by omega));by_cases h1:(t.length:Int)<1
 ·go_enter Tryz.func56,Tryz.ntmps56;go_wp2_with fail;refine bodyPost_ret (v:=.tuple #[.slice none 0 0,.bool false]) (by simp[results,Tryz.results56,go_sem, *]) rfl ?_;exact⟨⟨_,by rw[HF.out],fun h=>by rw[HF.out]at h;cases h⟩,Below.step _ (Below.step _ (Below.refl _ _))⟩
 ·have h2:2000<(t.length:Int):=by omega
  clear h;go_enter Tryz.func56,Tryz.ntmps56;go_wp2_with fail;refine bodyPost_ret (v:=.tuple #[.slice none 0 0,.bool false]) (by simp[results,Tryz.results56,go_sem, *]) rfl ?_;exact⟨⟨_,by rw[HF.out],fun h=>by rw[HF.out]at h;cases h⟩,Below.step _ (Below.step _ (Below.refl _ _))⟩
theorem rtbegins_main(p:Option Addr)(c:Nat)(t:List Nd)(w:World)(h1:¬(t.length:Int)<1)(h2:¬2000<(t.length:Int))(hT:Nds w p t):Calls Tryz.prog 56 #[.slice p t.length c] w (GiveBeg w t):=by
 have HT:=zh hT;clear hT;go_enter Tryz.func56,Tryz.ntmps56;go_wp2_with fail
 go_loopw [4,5,6,7,8] (fun ov sv iv nv fv wr=>∃ (k:Nat) (st:List Tr) (b o c:Nat),k≤t.length∧iv=.int .i64 k∧sv=.slice (some ⟨b,o,none⟩) st.length c∧BegI w.heap.size t wr k st ov b o c∧Below w.heap.size w wr) (fun _ _ iv _ _ _=>t.length-(intOf iv).toNat)
 case atStart =>
  refine⟨0,[],w.heap.size+1,0,0,Nat.zero_le _,rfl,by simp,⟨?_,RowsG.nil _ _,?_,?_,?_,Nat.le_refl _,rfl⟩,Below.step _ (Below.step _ (Below.refl _ _))⟩
  ·exact World.ownsRow.alloc (ownG_empty (enc:=encN) (k:=1) (e:=3) w (Nat.le_refl _)) _
  ·simp[Value.ownBlock]
  ·simp;omega
  ·simp
 case round =>
  obtain⟨k,st,b,o,cs,hk,rfl,rfl,hI,hw⟩:=hrel;have HW:=zh hw;have HI:=zh hI;clear hw hI;have hst:st.length≤t.length:=by
   have e:=Tm.stk_fl HI.out.stk hk;have:=Tm.len_fl st;omega
  by_cases hlt:k<t.length
  ·have hki:(k:Int)<(t.length:Int):=by omega
   obtain⟨x,hx⟩:∃x,t[k]?=some x:=⟨_,List.getElem?_eq_getElem hlt⟩;have HX:=zh hx;obtain⟨bp,op,rfl,k0,_⟩:=nds_rule (HT.out.below HW.out) hx;clear hx;have b0:=Below.refl wr.heap.size wr;go_wp2_with fail;refine(rtarity_any x.op wr).mono ?_;rintro e wa ⟨rfl,ba⟩;have HW2:=zh (Below.more HW.out ba);have HI2:=zh (HI.out.below ba);clear ba k0
   cases ha:arN x.op with
   | none =>
    have hn:arI x.op=-1:=by unfold arI;rw[ha]
    have HF:=zh (Tm.step_no HX.out HI.out.stk (.inl ha));rw[hn];clear ha hn;go_wp2_with fail;refine bodyPost_ret (v:=.tuple #[.slice none 0 0,.bool false]) (by simp[results,Tryz.results56,go_sem, *]) rfl ?_;exact⟨⟨_,by rw[HF.out],fun h=>by rw[HF.out]at h;cases h⟩,HW2.out⟩
   | some m =>
    have hn:arI x.op=(m:Int):=by unfold arI;rw[ha]
    rw[hn];by_cases hm:m≤st.length
    ·have hm1:¬(m:Int)<0:=by omega
     have hm2:¬(st.length:Int)<(m:Int):=by omega
     obtain⟨u,s1,s2,s3,s4⟩:=Tm.step_yes hk HX.out HI.out.stk ha hm;have S1:=zh s1;have S2:=zh s2;have S3:=zh s3;have S4:=zh s4
     clear s1 s2 s3 s4 ha hn;obtain⟨q,hq⟩:∃q,st.length=q+m:=⟨st.length-m,by omega⟩;have hsub:st.length-m=q:=by omega
     rw[hsub]at S1 S2 S3;obtain⟨R,hR⟩:∃R,R=(bgs st).take q:=⟨_,rfl⟩;have HRL:Hid (R.length=q):=zh (by rw[hR,List.length_take,Tm.bgs_len];omega);have HR:Hid (RowsG encN 1 wa (some ⟨b,o,none⟩) R):=zh fun j y hj=>HI2.out.rows j y (by
      rw[hR,List.getElem?_take]at hj;split at hj
      ·exact hj
      ·cases hj)
     rw[←hR]at S2;have HQ:Hid (q≤2000):=zh (by omega);have hwr:wrap64 ((st.length:Int)-(m:Int))=(q:Int):=(IntWalk.wrap64_in _ ⟨by omega,by omega⟩).trans (by omega);have hwr2:IntKind.i64.wrap ((st.length:Int)-(m:Int))=(q:Int):=(IntWalk.i64_in _ (by omega)).trans (by omega);have hcap:=HI.out.cap;have hqc:q≤cs:=by omega
     by_cases h0:m=0
     ·have hbA:((bgA t k:Nat):Int)=(k:Int):=by rw[S4.out h0]
      have hm3:¬0<(m:Int):=by omega
      clear hq hsub hR h0;go_wp2_with (at_builtin;refine haltG ?_);show wpList _ _ _ _ _ _;have bN:Below wa.heap.size wa (wa.alloc (.cells #[] 3)):=Below.alloc (Below.refl _ _) (Nat.le_refl _) _;have oN:=ownG_empty (enc:=encN) (k:=1) (e:=3) (B:=wa.heap.size) wa (Nat.le_refl _);refine wpList_append_M rfl _ _ 34 3 rfl Tryz.underlying34 numInfo rfl (by decide) (by decide) (fun _=>rfl) encN_one wa.heap.size _ _ rfl oN (some ⟨b,o,none⟩) R cs (by rw[HRL.out];rfl) (RowsG.below HR.out bN) (by simp) (by rw[HRL.out];have:=HQ.out;omega) (Below.size bN) ?_;intro v1 w5 ho hgr hloc;have b5:=zh (Below.grown bN hgr (Below.size bN) fun j hj=>(World.ownsRow.lt oN j hj).1);rw[List.nil_append]at ho;have HO:=zh ho;clear ho hgr hloc oN bN;go_wp2_with (at_builtin;refine haltG ?_);show wpList _ _ _ _ _ _;refine wpList_append_G rfl _ _ 34 3 rfl Tryz.underlying34 numInfo rfl (by decide) (by decide) (fun _=>rfl) encN_one wa.heap.size _ _ rfl (World.ownsRow.alloc HO.out _) ⟨w5.heap.size,0,none⟩ (k:Int) 1 rfl (rowsOne w5 (k:Int) 3 _ rfl) (by rw[HRL.out];have:=HQ.out;omega) (by have:=b5.out.size;simp;omega) ?_;intro v2 w6 ho hgr hloc;have b6:=zh (Below.grown (Below.alloc b5.out (Below.size b5.out) _) hgr (by have:=b5.out.size;simp;omega) fun j hj=>(World.ownsRow.lt HO.out j hj).1);obtain⟨p7,c7,rfl,hc7,l7,hb7⟩:=ownG_rows (enc:=encN) (k:=1) (fun _=>rfl) ho;obtain⟨b7,o7,rfl,hlt7,_⟩:=l7 R.length (k:Int) (by simp);have hge:=hb7 _ rfl;have HI6:=zh (HI2.out.below b6.out);have L7:=zh l7;have HW6:=zh (Below.more HW2.out b6.out)
      clear ho hgr hloc HO b5 hb7 l7;go_wp2_with (at_builtin;refine haltG ?_);show wpList _ _ _ _ _ _;refine wpList_append_G rfl _ _ 34 3 rfl Tryz.underlying34 numInfo rfl (by decide) (by decide) (fun _=>rfl) encN_one w.heap.size _ _ rfl (World.ownsRow.alloc HI6.out.own _) ⟨w6.heap.size,0,none⟩ (k:Int) 1 rfl (rowsOne w6 (k:Int) 3 _ rfl) (by rw[Tm.begT_len];omega) (by have:=HI6.out.big;simp;omega) ?_;intro v3 w7 ho hgr hloc;have hz:=fun j hj=>World.ownsRow.lt HI2.out.own j hj;have b7':=zh (Below.grown (Below.alloc HW6.out (Below.size HW6.out) _) hgr (Below.size (Below.alloc HW6.out (Below.size HW6.out) _)) fun j hj=>(World.ownsRow.lt HI6.out.own j hj).1);have hrow:RowsG encN 1 w7 (some ⟨b7,o7,none⟩) (R++[(k:Int)]):=RowsG.grown (L7.out.below (Below.alloc (Below.refl _ _) (Nat.le_refl _) _)) hgr fun a ha=>by
       cases ha
       intro e;have:=(hz _ e).2;dsimp only at this;omega
      have HN:Hid (BegI w.heap.size t w7 (k+1) (st.take q++[u]) v3 b7 o7 c7):=zh ⟨by rw[Tm.begT_next,hbA];exact ho,by rw[S2.out,hbA];exact hrow,by
        intro e;rcases hloc with h|h
        ·rw[h]at e;have:=(hz _ e).2;omega
        ·rw[h]at e;have:=Option.some.inj e;simp at this;omega,Below.size b7'.out,by have:=hgr.size;simp at this;omega,by rw[←Tm.bgs_len,S2.out,hbA];exact hc7,S1.out⟩
      have HL7:Hid (R.length+1=(st.take q++[u]).length):=zh (by rw[←Tm.bgs_len,S2.out,List.length_append];rfl);clear hgr hloc hz ho hrow L7 HI6 hge hlt7 hc7;go_wp2_with fail;go_roundw
      case rel=>exact⟨k+1,st.take q++[u],b7,o7,c7,hlt,by go_num,by rw[HL7.out],HN.out,b7'.out⟩
      case measure=>simp[intOf];omega
     ·have hm3:0<(m:Int):=by omega
      have hbA:((bgA t k:Nat):Int)=((fl (st.take q):Nat):Int):=by rw[S3.out]
      obtain⟨b',o',hbo,_,c0⟩:=HI2.out.rows q _ (Tm.bgs_get (st:=st) (by omega))
      cases hbo
      have c1:wa.cell? ⟨b,o+q,none⟩=some (.int .i64 ((fl (st.take q):Nat):Int)):=by
       have:=c0 0 _ rfl
       rwa[Nat.mul_one]at this
      have hql:q<st.length:=by omega
      have hqi:(q:Int)<(st.length:Int):=by omega
      clear hq hsub hR h0 c0;generalize fl (st.take q)=F at *;go_wp2_with (at_builtin;refine haltG ?_);show wpList _ _ _ _ _ _;have bN:Below wa.heap.size wa (wa.alloc (.cells #[] 3)):=Below.alloc (Below.refl _ _) (Nat.le_refl _) _;have oN:=ownG_empty (enc:=encN) (k:=1) (e:=3) (B:=wa.heap.size) wa (Nat.le_refl _);refine wpList_append_M rfl _ _ 34 3 rfl Tryz.underlying34 numInfo rfl (by decide) (by decide) (fun _=>rfl) encN_one wa.heap.size _ _ rfl oN (some ⟨b,o,none⟩) R cs (by rw[HRL.out];rfl) (RowsG.below HR.out bN) (by simp) (by rw[HRL.out];have:=HQ.out;omega) (Below.size bN) ?_;intro v1 w5 ho hgr hloc;have b5:=zh (Below.grown bN hgr (Below.size bN) fun j hj=>(World.ownsRow.lt oN j hj).1);rw[List.nil_append]at ho;have HO:=zh ho;clear ho hgr hloc oN bN;go_wp2_with (at_builtin;refine haltG ?_);show wpList _ _ _ _ _ _;refine wpList_append_G rfl _ _ 34 3 rfl Tryz.underlying34 numInfo rfl (by decide) (by decide) (fun _=>rfl) encN_one wa.heap.size _ _ rfl (World.ownsRow.alloc HO.out _) ⟨w5.heap.size,0,none⟩ ((F:Nat):Int) 1 rfl (rowsOne w5 ((F:Nat):Int) 3 _ rfl) (by rw[HRL.out];have:=HQ.out;omega) (by have:=b5.out.size;simp;omega) ?_;intro v2 w6 ho hgr hloc;have b6:=zh (Below.grown (Below.alloc b5.out (Below.size b5.out) _) hgr (by have:=b5.out.size;simp;omega) fun j hj=>(World.ownsRow.lt HO.out j hj).1);obtain⟨p7,c7,rfl,hc7,l7,hb7⟩:=ownG_rows (enc:=encN) (k:=1) (fun _=>rfl) ho;obtain⟨b7,o7,rfl,hlt7,_⟩:=l7 R.length ((F:Nat):Int) (by simp);have hge:=hb7 _ rfl;have HI6:=zh (HI2.out.below b6.out)
      have L7:=zh l7;have HW6:=zh (Below.more HW2.out b6.out);clear ho hgr hloc HO b5 hb7 l7;go_wp2_with (at_builtin;refine haltG ?_);show wpList _ _ _ _ _ _;refine wpList_append_G rfl _ _ 34 3 rfl Tryz.underlying34 numInfo rfl (by decide) (by decide) (fun _=>rfl) encN_one w.heap.size _ _ rfl (World.ownsRow.alloc HI6.out.own _) ⟨w6.heap.size,0,none⟩ ((F:Nat):Int) 1 rfl (rowsOne w6 ((F:Nat):Int) 3 _ rfl) (by rw[Tm.begT_len];omega) (by have:=HI6.out.big;simp;omega) ?_;intro v3 w7 ho hgr hloc;have hz:=fun j hj=>World.ownsRow.lt HI2.out.own j hj;have b7':=zh (Below.grown (Below.alloc HW6.out (Below.size HW6.out) _) hgr (Below.size (Below.alloc HW6.out (Below.size HW6.out) _)) fun j hj=>(World.ownsRow.lt HI6.out.own j hj).1);have hrow:RowsG encN 1 w7 (some ⟨b7,o7,none⟩) (R++[((F:Nat):Int)]):=RowsG.grown (L7.out.below (Below.alloc (Below.refl _ _) (Nat.le_refl _) _)) hgr fun a ha=>by
       cases ha
       intro e;have:=(hz _ e).2;dsimp only at this;omega
      have HN:Hid (BegI w.heap.size t w7 (k+1) (st.take q++[u]) v3 b7 o7 c7):=zh ⟨by rw[Tm.begT_next,hbA];exact ho,by rw[S2.out,hbA];exact hrow,by
        intro e;rcases hloc with h|h
        ·rw[h]at e;have:=(hz _ e).2;omega
        ·rw[h]at e;have:=Option.some.inj e;simp at this;omega,Below.size b7'.out,by have:=hgr.size;simp at this;omega,by rw[←Tm.bgs_len,S2.out,hbA];exact hc7,S1.out⟩
      have HL7:Hid (R.length+1=(st.take q++[u]).length):=zh (by rw[←Tm.bgs_len,S2.out,List.length_append];rfl);clear hgr hloc hz ho hrow L7 HI6 hge hlt7 hc7;go_wp2_with fail;go_roundw
      case rel=>exact⟨k+1,st.take q++[u],b7,o7,c7,hlt,by go_num,by rw[HL7.out],HN.out,b7'.out⟩
      case measure=>simp[intOf];omega
    ·have hm2:(st.length:Int)<(m:Int):=by omega
     have hm1:¬(m:Int)<0:=by omega
     have HF:=zh (Tm.step_no HX.out HI.out.stk (.inr ⟨m,ha,hm⟩));clear ha hn;go_wp2_with fail;refine bodyPost_ret (v:=.tuple #[.slice none 0 0,.bool false]) (by simp[results,Tryz.results56,go_sem, *]) rfl ?_;exact⟨⟨_,by rw[HF.out],fun h=>by rw[HF.out]at h;cases h⟩,HW2.out⟩
  ·obtain rfl:k=t.length:=by omega
   have HF:=zh (Tm.form_end HI.out.stk (by omega) (by omega));obtain⟨p9,c9,rfl,hc9,l9,_⟩:=ownG_rows (enc:=encN) (k:=1) (fun _=>rfl) HI.out.own;rw[Tm.begT_len]at hc9;have L9:=zh (nums_of l9);clear l9;have el:(begT t t.length).length=t.length:=Tm.begT_len t t.length;have eb:((st.length:Int)==1)=formB t:=by rw[HF.out];cases h:(st.length==1) with
    | true=>rw[beq_iff_eq]at h ⊢;omega
    | false=>rw[beq_eq_false_iff_ne]at h ⊢;omega
   rw[el];go_wp2_with fail;refine bodyPost_ret (v:=.tuple #[.slice p9 t.length c9,.bool (formB t)]) (by simp[results,Tryz.results56,go_sem]) rfl ?_;exact⟨⟨_,rfl,fun _=>⟨p9,c9,rfl,hc9,L9.out⟩⟩,HW.out⟩
theorem rtbegins_any(p:Option Addr)(c:Nat)(t:List Nd)(w:World)(hT:Nds w p t):Calls Tryz.prog 56 #[.slice p t.length c] w (GiveBeg w t):=by
 by_cases h:(t.length:Int)<1∨2000<(t.length:Int)
 ·exact rtbegins_len p c t w h
 ·exact rtbegins_main p c t w (fun k=>h (.inl k)) (fun k=>h (.inr k)) hT
theorem rtformed_any(p:Option Addr)(c:Nat)(t:List Nd)(w:World)(hT:Nds w p t):Calls Tryz.prog 25 #[.slice p t.length c] w (GiveB w (formB t)):=by
 have C:=zh (rtbegins_any p c t w hT);have b0:=Below.refl w.heap.size w;clear hT;go_enter Tryz.func25,Tryz.ntmps25;go_wp2_with fail;refine C.out.mono ?_;rintro e w1 ⟨⟨v,rfl,_⟩,b⟩;have b1:=Below.more b0 b;go_wp2_with fail;go_ret;exact⟨rfl,b1⟩
end Go.Proofs.YtmllklfjngapiaaGreatDoor
