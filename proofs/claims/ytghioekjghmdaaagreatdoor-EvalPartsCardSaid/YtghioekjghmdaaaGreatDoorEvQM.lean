/- Own work. -/
import Derived.Test.YtghioekjghmdaaaGreatDoorEvPrgM
set_option linter.unusedVariables false
set_option linter.unusedSimpArgs false
namespace Go.Proofs.YtghioekjghmdaaaGreatDoor
namespace Ev
open Tm (Nd Tr arN treeOf checkT okN okT mkT joinT plainN)
open Fx (FK Fix mayF rawF GoodF)
theorem allS_back:∀ {L:List (Option Rat)} {q:List Rat},allS L=some q→∀v∈L,∃x,v=some x
 | some a::L,q,h,v,hv=>by
  rcases List.mem_cons.1 hv with rfl|hv
  ·exact⟨_,rfl⟩
  ·change (allS L).map (a::·)=some q at h
   cases e:allS L with
   | none=>rw[e]at h;cases h
   | some p=>exact allS_back e v hv
 | none::L,q,h,v,hv=>by cases h
theorem may_of{t:List Nd}{l:List Fix}(h0:(evalE t l).2=0):mayF l=true:=by
 cases e:mayF l with
 | true=>rfl
 | false=>unfold evalE at h0;rw[if_pos e]at h0;cases h0
theorem val_of{t:List Nd}{l:List Fix}(hli:liT t l=true)(hk:checkT t=0)(hlen:t.length≤19)(h0:(evalE t l).2=0){A:Tr}(hA:treeOf t=some A) :
  lackB l t=false∧∃X,valT l A=some X∧evalE t l=(rd X,0)∧(rd X).1.length≤6100∧(rd X).2.length≤6100:=by
 have hm:=may_of h0;obtain⟨h1,X,h2,h3⟩:=(eval_ok hm hk hA).1 h0;obtain⟨A',hA',hw,hf,ho⟩:=check_inv hk;obtain rfl:A=A':=Option.some.inj (hA.symm.trans hA');have hp:=li_parts hli;have hd:=val_dg (D:=10) (by decide) (by decide) (Fx.good_iffF.1 hm) (fun x hx=>by have k:=liX_iff.1 (hp.2.1 x hx);exact⟨k.1,k.2.1⟩) hw ho h2;have hk2:=dg_le (D:=10) (t:=A) fun x hx=>by
  have k:=liN_iff.1 (hp.1 x (hf▸hx));unfold wN;split<;>omega
 rw[hf]at hk2;have:=hd.len;exact⟨h1,X,h2,h3,by omega,by omega⟩
section
variable {l : List Fix} {op : Int} {L : List Tr}
theorem join_back(ha:arN op=some L.length)(h5:5≤op)(hw:∀s∈L,s.wf∧okT s)(hk:∀s∈L,checkT s.flat=0)(h3:L.length≤3)(hl:(mkT (plainN op) L).flat.length≤140)(h:(evalE (joinT op (L.map Tr.flat)) l).2=0):∀s∈L,(evalE s.flat l).2=0:=fun s hs=>by
 have hm:=may_of h;obtain⟨j1,j2⟩:=join_ok ha h5 hw h3 hl;obtain⟨h1,q,h2,_⟩:=(eval_ok hm j1 j2).1 h;rw[lack_join h5,List.any_eq_false]at h1;have e:valT l (mkT (plainN op) L)=valF l (plainN op) (L.map (valT l)):=Tm.fold_mk (valF l) h3;rw[e]at h2;have hv:∃x,valT l s=some x:=by
  cases c:L.map (valT l) with
  | nil=>rw[List.map_eq_nil_iff.1 c]at hs;cases hs
  | cons v vs =>
   rw[c]at h2
   change (allS (v::vs)).bind (upQ op)=some q at h2
   cases d:allS (v::vs) with
   | none=>rw[d]at h2;cases h2
   | some p=>exact allS_back d _ (by rw[←c];exact List.mem_map.2 ⟨s,hs,rfl⟩)
 obtain⟨x,hx⟩:=hv;have hk1:=h1 s.flat (List.mem_map.2 ⟨s,hs,rfl⟩);have:=(eval_ok hm (hk s hs) (Tm.tree_flat (hw s hs).1)).2 ⟨by simpa using hk1,x,hx,by rw[eval_may hm (hk s hs),if_neg hk1,Tm.tree_flat (hw s hs).1];show endQ (valT l s)=_;rw[hx];rfl⟩;exact this
theorem join_val(hm:mayF l=true)(ha:arN op=some L.length)(h5:5≤op)(hw:∀s∈L,s.wf∧okT s)(h3:L.length≤3)(h0:L≠[])(hl:(mkT (plainN op) L).flat.length≤140)(hk:∀s∈L,lackB l s.flat=false){Q:List Rat}(hQ:L.map (valT l)=Q.map some) :
  evalE (joinT op (L.map Tr.flat)) l=endQ (upQ op Q):=by
 obtain⟨j1,j2⟩:=join_ok ha h5 hw h3 hl;have hlk:lackB l (joinT op (L.map Tr.flat))=false:=by
  rw[lack_join h5,List.any_eq_false];intro t ht;obtain⟨s,hs,rfl⟩:=List.mem_map.1 ht;rw[hk s hs];decide
 rw[eval_may hm j1,if_neg (by rw[hlk];decide),j2];have e:valT l (mkT (plainN op) L)=valF l (plainN op) (L.map (valT l)):=Tm.fold_mk (valF l) h3;show endQ (valT l (mkT (plainN op) L))=_;rw[e,hQ]
 cases Q with
 | nil=>exact absurd (List.map_eq_nil_iff.1 (hQ.trans rfl)) h0
 | cons a Q =>
  show endQ ((allS ((a::Q).map some)).bind (upQ op))=_;rw[allS_some];rfl
end
theorem lo_key(X Y:Rat):(if sgnQ (X-Y)<0 then rd X else rd Y)=rd (loQ X Y):=by
 unfold loQ;by_cases h:sgnQ (X-Y)<0
 ·rw[if_pos h,if_pos (by omega)]
 ·rw[if_neg h];by_cases h0:sgnQ (X-Y)=0
  ·rw[if_pos (by omega),sgn_eq h0]
  ·rw[if_neg (by omega)]
theorem two_parts{l:List Fix}{op:Int}{ta tb:List Nd}(h6:6≤op∧op≤11)(la:liT ta l=true)(lb:liT tb l=true)(ka:checkT ta=0)(kb:checkT tb=0)(na:ta.length≤19)(nb:tb.length≤19) :
  (¬(evalE ta l).2=0∨¬(evalE tb l).2=0→¬(evalE (joinT op [ta,tb]) l).2=0)∧((evalE ta l).2=0→(evalE tb l).2=0→∃X Y,evalE ta l=(rd X,0)∧evalE tb l=(rd Y,0)∧evalE (joinT op [ta,tb]) l=endQ (upQ op [X,Y])∧((rd X).1.length≤6100∧(rd X).2.length≤6100)∧(rd Y).1.length≤6100∧(rd Y).2.length≤6100):=by
 obtain⟨A,hA,wA,fA,oA⟩:=check_inv ka;obtain⟨B,hB,wB,fB,oB⟩:=check_inv kb;have ha:arN op=some ([A,B]:List Tr).length:=(show arN op=some 2 by unfold arN;rw[if_neg (by omega),if_neg (by omega),if_neg (by omega),if_pos h6.2]);have hw:∀s∈[A,B],s.wf∧okT s:=fun s hs=>by
  simp only[List.mem_cons,List.not_mem_nil,or_false]at hs;rcases hs with rfl|rfl
  ·exact⟨wA,oA⟩
  ·exact⟨wB,oB⟩
 have hl:(mkT (plainN op) [A,B]).flat.length≤140:=by
  rw[Tm.flat_mk (by simp)];simp[fA,fB];omega
 have e:([A,B]:List Tr).map Tr.flat=[ta,tb]:=by simp[fA,fB]
 constructor
 ·intro h c;have k:=join_back (l:=l) ha (by omega) hw (fun s hs=>by
   simp only[List.mem_cons,List.not_mem_nil,or_false]at hs;rcases hs with rfl|rfl
   ·rw[fA];exact ka
   ·rw[fB];exact kb) (by simp) hl (by rw[e];exact c)
  have k1:=k A (by simp);have k2:=k B (by simp);rw[fA]at k1;rw[fB]at k2;rcases h with h|h
  ·exact h k1
  ·exact h k2
 ·intro h1 h2;obtain⟨a1,X,a2,a3,a4⟩:=val_of la ka na h1 hA;obtain⟨b1,Y,b2,b3,b4⟩:=val_of lb kb nb h2 hB;have k:=join_val (may_of h1) ha (by omega) hw (by simp) (by simp) hl (fun s hs=>by
   simp only[List.mem_cons,List.not_mem_nil,or_false]at hs;rcases hs with rfl|rfl
   ·rw[fA];exact a1
   ·rw[fB];exact b1) (Q:=[X,Y]) (by simp[a2,b2])
  rw[e]at k;exact⟨X,Y,a3,b3,k,a4,b4⟩
theorem three_parts{l:List Fix}{ta tb tc:List Nd}(la:liT ta l=true)(lb:liT tb l=true)(lc:liT tc l=true)(ka:checkT ta=0)(kb:checkT tb=0)(kc:checkT tc=0)(na:ta.length≤19)(nb:tb.length≤19)(nc:tc.length≤19) :
  (¬(evalE ta l).2=0∨¬(evalE tb l).2=0∨¬(evalE tc l).2=0→¬(evalE (joinT 12 [ta,tb,tc]) l).2=0)∧((evalE ta l).2=0→(evalE tb l).2=0→(evalE tc l).2=0→∃X Y Z,evalE ta l=(rd X,0)∧evalE tb l=(rd Y,0)∧evalE tc l=(rd Z,0)∧evalE (joinT 12 [ta,tb,tc]) l=(rd (if 0<sgnQ X then Y else Z),0)∧((rd X).1.length≤6100∧(rd X).2.length≤6100)∧(rd Y).1.length≤6100∧(rd Y).2.length≤6100):=by
 obtain⟨A,hA,wA,fA,oA⟩:=check_inv ka;obtain⟨B,hB,wB,fB,oB⟩:=check_inv kb;obtain⟨C,hC,wC,fC,oC⟩:=check_inv kc;have ha:arN 12=some ([A,B,C]:List Tr).length:=rfl;have hw:∀s∈[A,B,C],s.wf∧okT s:=fun s hs=>by
  simp only[List.mem_cons,List.not_mem_nil,or_false]at hs;rcases hs with rfl|rfl|rfl
  ·exact⟨wA,oA⟩
  ·exact⟨wB,oB⟩
  ·exact⟨wC,oC⟩
 have hl:(mkT (plainN 12) [A,B,C]).flat.length≤140:=by
  rw[Tm.flat_mk (by simp)];simp[fA,fB,fC];omega
 have e:([A,B,C]:List Tr).map Tr.flat=[ta,tb,tc]:=by simp[fA,fB,fC]
 constructor
 ·intro h c;have k:=join_back (l:=l) ha (by decide) hw (fun s hs=>by
   simp only[List.mem_cons,List.not_mem_nil,or_false]at hs;rcases hs with rfl|rfl|rfl
   ·rw[fA];exact ka
   ·rw[fB];exact kb
   ·rw[fC];exact kc) (by simp) hl (by rw[e];exact c)
  have k1:=k A (by simp);have k2:=k B (by simp);have k3:=k C (by simp);rw[fA]at k1;rw[fB]at k2;rw[fC]at k3;rcases h with h|h|h
  ·exact h k1
  ·exact h k2
  ·exact h k3
 ·intro h1 h2 h3;obtain⟨a1,X,a2,a3,a4⟩:=val_of la ka na h1 hA;obtain⟨b1,Y,b2,b3,b4⟩:=val_of lb kb nb h2 hB;obtain⟨c1,Z,c2,c3,c4⟩:=val_of lc kc nc h3 hC;have k:=join_val (may_of h1) ha (by decide) hw (by simp) (by simp) hl (fun s hs=>by
   simp only[List.mem_cons,List.not_mem_nil,or_false]at hs;rcases hs with rfl|rfl|rfl
   ·rw[fA];exact a1
   ·rw[fB];exact b1
   ·rw[fC];exact c1) (Q:=[X,Y,Z]) (by simp[a2,b2,c2])
  rw[e]at k;exact⟨X,Y,Z,a3,b3,c3,k,a4,b4⟩
end Ev
theorem li_join{l:List Fx.Fix}{op:Int}{L:List (List Tm.Nd)}(h:∀t∈L,liT t l=true)(hl:l.length≤60)(hx:l.all liX=true)(hn:(Tm.joinT op L).length≤60):liT (Tm.joinT op L) l=true:=by
 unfold liT;rw[hx,decide_eq_true hn,decide_eq_true hl];have:(Tm.joinT op L).all liN=true:=List.all_eq_true.2 fun x hx=>by
  unfold Tm.joinT at hx;rcases List.mem_append.1 hx with hx|hx
  ·obtain⟨t,ht,hxt⟩:=List.mem_flatten.1 hx;exact(li_parts (h t ht)).1 x hxt
  ·rw[List.mem_singleton.1 hx];rfl
 rw[this];rfl
theorem rg_join{op:Int}(h0:-9223372036854775808≤op)(h1:op≤9223372036854775807){L:List (List Tm.Nd)}(h:∀t∈L,∀x∈t,RgN x):∀x∈Tm.joinT op L,RgN x:=fun x hx=>by
 unfold Tm.joinT at hx;rcases List.mem_append.1 hx with hx|hx
 ·obtain⟨t,ht,hxt⟩:=List.mem_flatten.1 hx;exact h t ht x hxt
 ·rw[List.mem_singleton.1 hx];exact(szN_plain op h0 h1).2
end Go.Proofs.YtghioekjghmdaaaGreatDoor
namespace Go.Proofs.YtghioekjghmdaaaGreatDoor
open Go.RowKit
def encQ(x:Rat):List Value:=[.string ⟨(rd x).1.toArray⟩,.string ⟨(rd x).2.toArray⟩]
abbrev Qs(w:World)(p:Option Addr)(l:List Rat):Prop:=RowsG encQ 2 w p l
theorem q_rule{w:World}{p:Option Addr}{l:List Rat}(h:Qs w p l){k:Nat}{x:Rat}(hx:l[k]?=some x):∃b o,p=some ⟨b,o,none⟩∧(∀v,Below w.heap.size w v→v.cell? ⟨b,o+k*2,none⟩=some (.string ⟨(rd x).1.toArray⟩))∧(∀v,Below w.heap.size w v→v.cell? ⟨b,o+k*2+1,none⟩=some (.string ⟨(rd x).2.toArray⟩)):=by
 obtain⟨b,o,hp,hl,c⟩:=h k x hx;exact⟨b,o,hp,fun v hb=>(hb.cell (p:=⟨b,_,none⟩) hl).trans (c 0 _ rfl),fun v hb=>(hb.cell (p:=⟨b,_,none⟩) hl).trans (c 1 _ rfl)⟩
def ShQ(x:Rat):Prop:=(rd x).1.length≤19000∧(rd x).2.length≤19000
theorem ecmp{x y:Rat}(h1:(rd x).1.length≤19000∧(rd x).2.length≤19000)(h2:(rd y).1.length≤19000∧(rd y).2.length≤19000){s:Int}(hs:sgnQ (x-y)=s)(V:World):Calls Tryz.prog 22 #[.agg #[.string ⟨(rd x).1.toArray⟩,.string ⟨(rd x).2.toArray⟩],.agg #[.string ⟨(rd y).1.toArray⟩,.string ⟨(rd y).2.toArray⟩]] V (GiveI V s):=by
 have c:=rqcmp_any ⟨(rd x).1.toArray⟩ ⟨(rd x).2.toArray⟩ ⟨(rd y).1.toArray⟩ ⟨(rd y).2.toArray⟩ V (by rw[size_of];omega) (by rw[size_of];omega) (by rw[size_of];omega) (by rw[size_of];omega);have e:cmpR (rd x) (rd y)=s:=by unfold cmpR;rw[isR_rd,isR_rd,valR_rd,valR_rd];exact hs
 rw[←e];exact c
theorem eadd{x y:Rat}(hx:ShQ x)(hy:ShQ y)(V:World):Calls Tryz.prog 23 #[.agg #[.string ⟨(rd x).1.toArray⟩,.string ⟨(rd x).2.toArray⟩],.agg #[.string ⟨(rd y).1.toArray⟩,.string ⟨(rd y).2.toArray⟩]] V (GiveR V (rd (x+y))):=by
 have c:=rqadd_any ⟨(rd x).1.toArray⟩ ⟨(rd x).2.toArray⟩ ⟨(rd y).1.toArray⟩ ⟨(rd y).2.toArray⟩ V (by rw[size_of];have:=hx.1;omega) (by rw[size_of];have:=hx.2;omega) (by rw[size_of];have:=hy.1;omega) (by rw[size_of];have:=hy.2;omega);have e:addR (rd x) (rd y)=rd (x+y):=by unfold addR;rw[isR_rd,isR_rd,valR_rd,valR_rd];rfl
 rw[←e];exact c
theorem esub{x y:Rat}(hx:ShQ x)(hy:ShQ y)(V:World):Calls Tryz.prog 24 #[.agg #[.string ⟨(rd x).1.toArray⟩,.string ⟨(rd x).2.toArray⟩],.agg #[.string ⟨(rd y).1.toArray⟩,.string ⟨(rd y).2.toArray⟩]] V (GiveR V (rd (x-y))):=by
 have c:=rqsub_any ⟨(rd x).1.toArray⟩ ⟨(rd x).2.toArray⟩ ⟨(rd y).1.toArray⟩ ⟨(rd y).2.toArray⟩ V (by rw[size_of];have:=hx.1;omega) (by rw[size_of];have:=hx.2;omega) (by rw[size_of];have:=hy.1;omega) (by rw[size_of];have:=hy.2;omega);have e:subR (rd x) (rd y)=rd (x-y):=by unfold subR;rw[isR_rd,isR_rd,valR_rd,valR_rd];rfl
 rw[←e];exact c
theorem emul{x y:Rat}(hx:ShQ x)(hy:ShQ y)(V:World):Calls Tryz.prog 25 #[.agg #[.string ⟨(rd x).1.toArray⟩,.string ⟨(rd x).2.toArray⟩],.agg #[.string ⟨(rd y).1.toArray⟩,.string ⟨(rd y).2.toArray⟩]] V (GiveR V (rd (x*y))):=by
 have c:=rqmul_any ⟨(rd x).1.toArray⟩ ⟨(rd x).2.toArray⟩ ⟨(rd y).1.toArray⟩ ⟨(rd y).2.toArray⟩ V (by rw[size_of];have:=hx.1;omega) (by rw[size_of];have:=hx.2;omega) (by rw[size_of];have:=hy.1;omega) (by rw[size_of];have:=hy.2;omega);have e:mulR (rd x) (rd y)=rd (x*y):=by unfold mulR;rw[isR_rd,isR_rd,valR_rd,valR_rd];rfl
 rw[←e];exact c
theorem ediv{x y:Rat}(hx:ShQ x)(hy:ShQ y)(V:World)(h0:y≠0):Calls Tryz.prog 20 #[.agg #[.string ⟨(rd x).1.toArray⟩,.string ⟨(rd x).2.toArray⟩],.agg #[.string ⟨(rd y).1.toArray⟩,.string ⟨(rd y).2.toArray⟩]] V (GiveRB V ((rd (x / y),true))):=by
 have c:=rqdiv_any ⟨(rd x).1.toArray⟩ ⟨(rd x).2.toArray⟩ ⟨(rd y).1.toArray⟩ ⟨(rd y).2.toArray⟩ V (by rw[size_of];have:=hx.1;omega) (by rw[size_of];have:=hx.2;omega) (by rw[size_of];have:=hy.1;omega) (by rw[size_of];have:=hy.2;omega);have e:divR (rd x) (rd y)=(rd (x / y),true):=by unfold divR;rw[isR_rd,isR_rd,valR_rd,valR_rd,beq_false_of_ne h0];rfl
 rw[←e];exact c
theorem ediv0{x:Rat}(hx:ShQ x)(V:World):Calls Tryz.prog 20 #[.agg #[.string ⟨(rd x).1.toArray⟩,.string ⟨(rd x).2.toArray⟩],.agg #[.string ⟨(rd 0).1.toArray⟩,.string ⟨(rd 0).2.toArray⟩]] V (GiveRB V (([],[]),false)):=by
 have c:=rqdiv_any ⟨(rd x).1.toArray⟩ ⟨(rd x).2.toArray⟩ ⟨(rd 0).1.toArray⟩ ⟨(rd 0).2.toArray⟩ V (by rw[size_of];have:=hx.1;omega) (by rw[size_of];have:=hx.2;omega) (by rw[size_of];exact(by decide +kernel:(rd 0).1.length≤20000)) (by rw[size_of];exact(by decide +kernel:(rd 0).2.length≤20000));have e:divR (rd x) (rd 0)=(([],[]),false):=by unfold divR;rw[isR_rd,isR_rd,valR_rd,valR_rd,beq_self_eq_true];rfl
 rw[←e];exact c
theorem eneg{x:Rat}(hx:ShQ x)(V:World):Calls Tryz.prog 50 #[.agg #[.string ⟨(rd x).1.toArray⟩,.string ⟨(rd x).2.toArray⟩]] V (GiveR V (rd (-x))):=by
 have c:=rqneg_any ⟨(rd x).1.toArray⟩ ⟨(rd x).2.toArray⟩ V (by rw[size_of];have:=hx.1;omega) (by rw[size_of];have:=hx.2;omega);have e:negR (rd x)=rd (-x):=by unfold negR;rw[isR_rd,valR_rd];rfl
 rw[←e];exact c
theorem esign{x:Rat}(hx:ShQ x)(V:World):Calls Tryz.prog 21 #[.agg #[.string ⟨(rd x).1.toArray⟩,.string ⟨(rd x).2.toArray⟩]] V (GiveI V (sgnQ x)):=by
 have c:=rqsign_any ⟨(rd x).1.toArray⟩ ⟨(rd x).2.toArray⟩ V (by rw[size_of];have:=hx.1;omega) (by rw[size_of];have:=hx.2;omega);have e:sgnR (rd x)=sgnQ x:=by unfold sgnR;rw[isR_rd,valR_rd];rfl
 rw[←e];exact c
end Go.Proofs.YtghioekjghmdaaaGreatDoor
