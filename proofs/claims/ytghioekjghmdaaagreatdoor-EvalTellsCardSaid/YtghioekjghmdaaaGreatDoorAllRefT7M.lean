/- Own work. -/
import Derived.Test.YtghioekjghmdaaaGreatDoorTermNumM
import Derived.Laws.Cover1
set_option linter.unusedSimpArgs false
set_option linter.unusedVariables false
namespace Go.Proofs.YtghioekjghmdaaaGreatDoor
namespace Tm
theorem pr0(x:Nd):pr (.t0 x)=leafP x:=rfl
theorem pr1{x:Nd}{a:Tr}(h:x.op=5):pr (.t1 x a)=40::45::(pr a++[41]):=by
 show aboveP x.op [pr a]=_;unfold aboveP;rw[if_pos h];rfl
theorem pr2{x:Nd}{a b:Tr}(h:6≤x.op)(h':x.op≤9):pr (.t2 x a b)=40::(pr a++32::sgnO x.op::32::(pr b++[41])):=by
 show aboveP x.op [pr a,pr b]=_;unfold aboveP;rw[if_neg (by omega),if_pos h'];rfl
theorem pr2f{x:Nd}{a b:Tr}(h:9<x.op):pr (.t2 x a b)=fnH x.op++((pr a++44::32::pr b)++[41]):=by
 show aboveP x.op [pr a,pr b]=_;unfold aboveP;rw[if_neg (by omega),if_neg (by omega)];rfl
theorem pr3{x:Nd}{a b c:Tr}(h:x.op=12):pr (.t3 x a b c)=[105,102,40]++((pr a++44::32::(pr b++44::32::pr c))++[41]):=by
 show aboveP x.op [pr a,pr b,pr c]=_;unfold aboveP;rw[if_neg (by omega),if_neg (by omega),h];rfl
theorem ok_t0{x:Nd}(h:okT (.t0 x)):okN x=true:=h x (by simp[Tr.flat])
theorem ok_t1{x:Nd}{a:Tr}(h:okT (.t1 x a)):okN x=true∧okT a:=⟨h x (by simp[Tr.flat]),fun y hy=>h y (by simp[Tr.flat,hy])⟩
theorem ok_t2{x:Nd}{a b:Tr}(h:okT (.t2 x a b)):okN x=true∧okT a∧okT b:=⟨h x (by simp[Tr.flat]),fun y hy=>h y (by simp[Tr.flat,hy]),fun y hy=>h y (by simp[Tr.flat,hy])⟩
theorem ok_t3{x:Nd}{a b c:Tr}(h:okT (.t3 x a b c)):okN x=true∧okT a∧okT b∧okT c:=⟨h x (by simp[Tr.flat]),fun y hy=>h y (by simp[Tr.flat,hy]),fun y hy=>h y (by simp[Tr.flat,hy]),fun y hy=>h y (by simp[Tr.flat,hy])⟩
theorem top_eq{x y:Nd}(hx:okN x=true)(hy:okN y=true)(h:x.op=y.op)(h5:5≤x.op):x=y:=by
 rw[ok_more hx (.inr h5),ok_more hy (.inr (h▸h5)),h]
end Tm
namespace Tm
def fl(st:List Tr):Nat:=((st.map Tr.flat).flatten).length
theorem fl_append(s t:List Tr):fl (s++t)=fl s+fl t:=by unfold fl;rw[List.map_append,List.flatten_append,List.length_append]
theorem fl_one(t:Tr):fl [t]=t.flat.length:=by unfold fl;simp
theorem len_fl:∀st:List Tr,st.length≤fl st
 | []=>Nat.le_refl _
 | t::r=>by
  have:=len_fl r;have h:1≤t.flat.length:=List.length_pos_iff.2 (flat_ne t);have e:fl (t::r)=fl [t]+fl r:=fl_append [t] r;rw[e,fl_one,List.length_cons];omega
def bgs(st:List Tr):List Int:=(List.range st.length).map fun j=>((fl (st.take j):Nat):Int)
theorem bgs_len(st:List Tr):(bgs st).length=st.length:=by unfold bgs;rw[List.length_map,List.length_range]
theorem bgs_get{st:List Tr}{j:Nat}(h:j<st.length):(bgs st)[j]?=some ((fl (st.take j):Nat):Int):=by
 unfold bgs;rw[List.getElem?_map,List.getElem?_range h];rfl
theorem bgs_take(st:List Tr)(m:Nat)(h:m≤st.length):(bgs st).take m=bgs (st.take m):=by
 unfold bgs;rw[←List.map_take,List.take_range,List.length_take,Nat.min_eq_left h];refine List.map_congr_left fun j hj=>?_;have:=List.mem_range.1 hj;rw[List.take_take,Nat.min_eq_left (by omega)]
theorem bgs_snoc(st:List Tr)(t:Tr):bgs (st++[t])=bgs st++[((fl st:Nat):Int)]:=by
 unfold bgs;rw[List.length_append,List.length_singleton,List.range_succ,List.map_append,List.map_singleton]
 congr 1
 ·refine List.map_congr_left fun j hj=>?_;have:=List.mem_range.1 hj;rw[List.take_append_of_le_length (by omega)]
 ·rw[List.take_left]
def stk(t:List Nd)(i:Nat):Option (List Tr):=runS mkT (t.take i) []
theorem stk_next{t:List Nd}{i:Nat}{x:Nd}(h:t[i]?=some x):stk t (i+1)=(stk t i).bind (stepS mkT x):=by
 unfold stk;rw[List.take_add_one,h];exact run_snoc mkT _ x _
theorem stk_flat{t:List Nd}{i:Nat}{st:List Tr}(h:stk t i=some st):(st.map Tr.flat).flatten=t.take i∧∀s∈st,s.wf:=by
 obtain⟨a,b⟩:=run_inv (t.take i) [] st h (fun _ h=>by cases h);exact⟨by simpa using b,a⟩
theorem stk_fl{t:List Nd}{i:Nat}{st:List Tr}(h:stk t i=some st)(hi:i≤t.length):fl st=i:=by
 unfold fl;rw[(stk_flat h).1,List.length_take,Nat.min_eq_left hi]
theorem stk_none{t:List Nd}{i:Nat}(h:stk t i=none):treeOf t=none:=by
 unfold treeOf;have:runS mkT t []=none:=by
  rw[←List.take_append_drop i t,run_append];have h:runS mkT (t.take i) []=none:=h;rw[h];rfl
 rw[this]
theorem form_no{t:List Nd}(h:treeOf t=none):formB t=false:=by unfold formB;rw[h];simp
def bgA(t:List Nd)(i:Nat):Nat:=match stk t (i+1) with
 | some st=>fl st.dropLast
 | none=>0
def begT(t:List Nd)(i:Nat):List Int:=(List.range i).map fun j=>((bgA t j:Nat):Int)
theorem begT_len(t:List Nd)(i:Nat):(begT t i).length=i:=by unfold begT;rw[List.length_map,List.length_range]
theorem begT_next(t:List Nd)(i:Nat):begT t (i+1)=begT t i++[((bgA t i:Nat):Int)]:=by unfold begT;rw[List.range_succ,List.map_append];rfl
theorem step_yes{t:List Nd}{i k:Nat}{x:Nd}{st:List Tr}(hi:i≤t.length)(hx:t[i]?=some x)(hs:stk t i=some st)(hk:arN x.op=some k)(hl:k≤st.length) :
  ∃u,stk t (i+1)=some (st.take (st.length-k)++[u])∧bgs (st.take (st.length-k)++[u])=(bgs st).take (st.length-k)++[((bgA t i:Nat):Int)]∧bgA t i=fl (st.take (st.length-k))∧(k=0→bgA t i=i):=by
 have e:stk t (i+1)=some (st.take (st.length-k)++[mkT x (st.drop (st.length-k))]):=by
  rw[stk_next hx,hs];show stepS mkT x st=_;unfold stepS;rw[hk];dsimp only;rw[if_pos hl]
 have eb:bgA t i=fl (st.take (st.length-k)):=by
  unfold bgA;rw[e];dsimp only;rw[List.dropLast_concat]
 refine⟨_,e,?_,eb,fun h0=>?_⟩
 ·rw[bgs_snoc,← bgs_take _ _ (by omega),eb]
 ·subst h0;rw[eb,Nat.sub_zero,List.take_length];exact stk_fl hs hi
theorem step_no{t:List Nd}{i:Nat}{x:Nd}{st:List Tr}(hx:t[i]?=some x)(hs:stk t i=some st)(h:arN x.op=none∨∃k,arN x.op=some k∧¬k≤st.length):formB t=false:=by
 refine form_no (stk_none (i:=i+1) ?_);rw[stk_next hx,hs];show stepS mkT x st=none;unfold stepS;rcases h with h|⟨k,h,hl⟩
 ·rw[h]
 ·rw[h];dsimp only;rw[if_neg hl]
theorem form_end{t:List Nd}{st:List Tr}(h:stk t t.length=some st)(h1:1≤t.length)(h2:t.length≤2000):formB t=(st.length==1):=by
 have h:runS mkT t []=some st:=by unfold stk at h;rwa[List.take_length]at h
 unfold formB treeOf;rw[h,decide_eq_true h1,decide_eq_true h2]
 match st with
 | []=>rfl
 | [_]=>rfl
 | _::_::_=>rfl
theorem form_len{t:List Nd}(h:t.length<1∨2000<t.length):formB t=false:=by
 unfold formB;rcases h with h|h
 ·rw[decide_eq_false (by omega)];rfl
 ·rw[decide_eq_false (show ¬t.length≤2000 by omega),Bool.false_and,Bool.and_false]
theorem form_step{t:List Nd}(h:formB t=true){i:Nat}{x:Nd}{st:List Tr}(hx:t[i]?=some x)(hs:stk t i=some st):∃m,arN x.op=some m∧m≤st.length:=by
 cases ha:arN x.op with
 | none=>rw[step_no hx hs (.inl ha)]at h;cases h
 | some m =>
  by_cases hm:m≤st.length
  ·exact⟨m,rfl,hm⟩
  ·rw[step_no hx hs (.inr ⟨m,ha,hm⟩)]at h;cases h
theorem step_mk{t:List Nd}{i k:Nat}{x:Nd}{st:List Tr}(hx:t[i]?=some x)(hs:stk t i=some st)(hk:arN x.op=some k)(hl:k≤st.length) :
  stk t (i+1)=some (st.take (st.length-k)++[mkT x (st.drop (st.length-k))]):=by
 rw[stk_next hx,hs];show stepS mkT x st=_;unfold stepS;rw[hk];dsimp only;rw[if_pos hl]
theorem form_stk{t:List Nd}(h:formB t=true):∃tr:Tr,stk t t.length=some [tr]∧treeOf t=some tr∧tr.wf∧tr.flat=t∧1≤t.length∧t.length≤2000:=by
 obtain⟨tr,h1,h2,h3,h4⟩:=form_tree h;refine⟨tr,?_,h3,h1,h2,?_,h4⟩
 ·unfold stk;rw[List.take_length];unfold treeOf at h3;split at h3
  ·next e=>rw[e];cases h3;rfl
  ·cases h3
 ·rw[←h2];exact List.length_pos_iff.2 (flat_ne tr)
def mx(l:List Nat):Nat:=l.foldr max 0
theorem mx_snoc(l:List Nat)(a:Nat):mx (l++[a])=max (mx l) a:=by
 induction l with
 | nil=>show max a 0=max 0 a;omega
 | cons b r ih=>show max b (mx (r++[a]))=max (max b (mx r)) a;rw[ih];omega
theorem mx_le{l:List Nat}{n:Nat}(h:∀a∈l,a≤n):mx l≤n:=by
 induction l with
 | nil=>exact Nat.zero_le _
 | cons b r ih =>
  have a:=h b (List.mem_cons_self ..);have c:=ih fun a ha=>h a (List.mem_cons_of_mem _ ha);show max b (mx r)≤n;omega
theorem dp_le:∀t:Tr,dp t≤t.flat.length
 | .t0 x=>Nat.le_refl _
 | .t1 x a=>by
  have:=dp_le a;show max (dp a) 0+1≤(a.flat++[x]).length;simp only[List.length_append,List.length_singleton];omega
 | .t2 x a b=>by
  have:=dp_le a;have:=dp_le b
  show max (dp a) (max (dp b) 0)+1≤(a.flat++(b.flat++[x])).length;simp only[List.length_append,List.length_singleton];omega
 | .t3 x a b c=>by
  have:=dp_le a;have:=dp_le b;have:=dp_le c
  show max (dp a) (max (dp b) (max (dp c) 0))+1≤(a.flat++(b.flat++(c.flat++[x]))).length;simp only[List.length_append,List.length_singleton];omega
theorem one_fl{st:List Tr}{s:Tr}(h:s∈st):s.flat.length≤fl st:=by
 obtain⟨a,b,rfl⟩:=List.append_of_mem h;have:a++s::b=a++([s]++b):=rfl;rw[this,fl_append,fl_append,fl_one];omega
theorem dp_mk{x:Nd}{l:List Tr}(h:l.length≤3):dp (mkT x l)=mx (l.map dp)+1:=fold_mk dpF h
def ds(st:List Tr):List Int:=st.map fun s=>((dp s:Nat):Int)
theorem ds_len(st:List Tr):(ds st).length=st.length:=List.length_map ..
theorem depth_of{t:List Nd}{tr:Tr}(h:formB t=true)(ht:treeOf t=some tr):depthT t=dp tr:=by unfold depthT;rw[ht];dsimp only;rw[if_pos h]
theorem depth_no{t:List Nd}(h:formB t=false):depthT t=0:=by
 unfold depthT;split
 ·rw[h];rfl
 ·rfl
end Tm
end Go.Proofs.YtghioekjghmdaaaGreatDoor
set_option maxHeartbeats 4000000
set_option maxRecDepth 100000
namespace Go.Proofs.YtghioekjghmdaaaGreatDoor
open Go.RowKit
open Tm (Nd Tr arN arI formB)
def encD(x:Nd):List Value:=[.int .i64 x.op,.string ⟨x.num.1.toArray⟩,.string ⟨x.num.2.toArray⟩,.string ⟨x.ast.toArray⟩,.int .i64 x.a,.int .i64 x.b]
theorem encD_one(x:Nd):∀v∈encD x,v.oneCell'=true:=fun v hv=>by
 unfold encD at hv;simp only[List.mem_cons,List.not_mem_nil,or_false]at hv;rcases hv with rfl|rfl|rfl|rfl|rfl|rfl<;>rfl
theorem ndInfo:(Tryz.prog.info? 55).map (fun i=>(i.zero,i.size,i.bytes))=some (some (.agg #[.int .i64 0,.string ⟨#[]⟩,.string ⟨#[]⟩,.string ⟨#[]⟩,.int .i64 0,.int .i64 0]),6,72):=by kernel_rfl
abbrev Nds(w:World)(p:Option Addr)(t:List Nd):Prop:=RowsG encD 6 w p t
abbrev OwnD(B:Nat)(w:World)(v:Value)(l:List Nd):Prop:=OwnG encD 6 55 B w v l
theorem nds_rule{w:World}{p:Option Addr}{l:List Nd}(h:Nds w p l){k:Nat}{x:Nd}(hx:l[k]?=some x):∃b o,p=some ⟨b,o,none⟩∧(∀v,Below w.heap.size w v→v.cell? ⟨b,o+k*6,none⟩=some (.int .i64 x.op)) ∧
  (∀v,Below w.heap.size w v→v.cell? ⟨b,o+k*6+1,none⟩=some (.string ⟨x.num.1.toArray⟩))∧(∀v,Below w.heap.size w v→v.cell? ⟨b,o+k*6+2,none⟩=some (.string ⟨x.num.2.toArray⟩)) ∧
  (∀v,Below w.heap.size w v→v.cell? ⟨b,o+k*6+3,none⟩=some (.string ⟨x.ast.toArray⟩))∧(∀v,Below w.heap.size w v→v.cell? ⟨b,o+k*6+4,none⟩=some (.int .i64 x.a))∧(∀v,Below w.heap.size w v→v.cell? ⟨b,o+k*6+5,none⟩=some (.int .i64 x.b)):=by
 obtain⟨b,o,hp,hl,c⟩:=h k x hx;exact⟨b,o,hp,fun v hb=>(hb.cell (p:=⟨b,_,none⟩) hl).trans (c 0 _ rfl),fun v hb=>(hb.cell (p:=⟨b,_,none⟩) hl).trans (c 1 _ rfl),fun v hb=>(hb.cell (p:=⟨b,_,none⟩) hl).trans (c 2 _ rfl),fun v hb=>(hb.cell (p:=⟨b,_,none⟩) hl).trans (c 3 _ rfl),fun v hb=>(hb.cell (p:=⟨b,_,none⟩) hl).trans (c 4 _ rfl),fun v hb=>(hb.cell (p:=⟨b,_,none⟩) hl).trans (c 5 _ rfl)⟩
theorem ar_0(w:World):(Instr.index 84 (.agg #[.int .i64 0,.int .i64 0,.int .i64 0,.int .i64 0,.int .i64 0,.int .i64 1,.int .i64 2,.int .i64 2,.int .i64 2,.int .i64 2,.int .i64 2,.int .i64 2,.int .i64 3]) (.int .i64 0)).run Tryz.prog w=.ok (.int .i64 0) w:=by kernel_rfl
theorem ar_1(w:World):(Instr.index 84 (.agg #[.int .i64 0,.int .i64 0,.int .i64 0,.int .i64 0,.int .i64 0,.int .i64 1,.int .i64 2,.int .i64 2,.int .i64 2,.int .i64 2,.int .i64 2,.int .i64 2,.int .i64 3]) (.int .i64 1)).run Tryz.prog w=.ok (.int .i64 0) w:=by kernel_rfl
theorem ar_2(w:World):(Instr.index 84 (.agg #[.int .i64 0,.int .i64 0,.int .i64 0,.int .i64 0,.int .i64 0,.int .i64 1,.int .i64 2,.int .i64 2,.int .i64 2,.int .i64 2,.int .i64 2,.int .i64 2,.int .i64 3]) (.int .i64 2)).run Tryz.prog w=.ok (.int .i64 0) w:=by kernel_rfl
theorem ar_3(w:World):(Instr.index 84 (.agg #[.int .i64 0,.int .i64 0,.int .i64 0,.int .i64 0,.int .i64 0,.int .i64 1,.int .i64 2,.int .i64 2,.int .i64 2,.int .i64 2,.int .i64 2,.int .i64 2,.int .i64 3]) (.int .i64 3)).run Tryz.prog w=.ok (.int .i64 0) w:=by kernel_rfl
theorem ar_4(w:World):(Instr.index 84 (.agg #[.int .i64 0,.int .i64 0,.int .i64 0,.int .i64 0,.int .i64 0,.int .i64 1,.int .i64 2,.int .i64 2,.int .i64 2,.int .i64 2,.int .i64 2,.int .i64 2,.int .i64 3]) (.int .i64 4)).run Tryz.prog w=.ok (.int .i64 0) w:=by kernel_rfl
theorem ar_5(w:World):(Instr.index 84 (.agg #[.int .i64 0,.int .i64 0,.int .i64 0,.int .i64 0,.int .i64 0,.int .i64 1,.int .i64 2,.int .i64 2,.int .i64 2,.int .i64 2,.int .i64 2,.int .i64 2,.int .i64 3]) (.int .i64 5)).run Tryz.prog w=.ok (.int .i64 1) w:=by kernel_rfl
theorem ar_6(w:World):(Instr.index 84 (.agg #[.int .i64 0,.int .i64 0,.int .i64 0,.int .i64 0,.int .i64 0,.int .i64 1,.int .i64 2,.int .i64 2,.int .i64 2,.int .i64 2,.int .i64 2,.int .i64 2,.int .i64 3]) (.int .i64 6)).run Tryz.prog w=.ok (.int .i64 2) w:=by kernel_rfl
theorem ar_7(w:World):(Instr.index 84 (.agg #[.int .i64 0,.int .i64 0,.int .i64 0,.int .i64 0,.int .i64 0,.int .i64 1,.int .i64 2,.int .i64 2,.int .i64 2,.int .i64 2,.int .i64 2,.int .i64 2,.int .i64 3]) (.int .i64 7)).run Tryz.prog w=.ok (.int .i64 2) w:=by kernel_rfl
theorem ar_8(w:World):(Instr.index 84 (.agg #[.int .i64 0,.int .i64 0,.int .i64 0,.int .i64 0,.int .i64 0,.int .i64 1,.int .i64 2,.int .i64 2,.int .i64 2,.int .i64 2,.int .i64 2,.int .i64 2,.int .i64 3]) (.int .i64 8)).run Tryz.prog w=.ok (.int .i64 2) w:=by kernel_rfl
theorem ar_9(w:World):(Instr.index 84 (.agg #[.int .i64 0,.int .i64 0,.int .i64 0,.int .i64 0,.int .i64 0,.int .i64 1,.int .i64 2,.int .i64 2,.int .i64 2,.int .i64 2,.int .i64 2,.int .i64 2,.int .i64 3]) (.int .i64 9)).run Tryz.prog w=.ok (.int .i64 2) w:=by kernel_rfl
theorem ar_10(w:World):(Instr.index 84 (.agg #[.int .i64 0,.int .i64 0,.int .i64 0,.int .i64 0,.int .i64 0,.int .i64 1,.int .i64 2,.int .i64 2,.int .i64 2,.int .i64 2,.int .i64 2,.int .i64 2,.int .i64 3]) (.int .i64 10)).run Tryz.prog w=.ok (.int .i64 2) w:=by kernel_rfl
theorem ar_11(w:World):(Instr.index 84 (.agg #[.int .i64 0,.int .i64 0,.int .i64 0,.int .i64 0,.int .i64 0,.int .i64 1,.int .i64 2,.int .i64 2,.int .i64 2,.int .i64 2,.int .i64 2,.int .i64 2,.int .i64 3]) (.int .i64 11)).run Tryz.prog w=.ok (.int .i64 2) w:=by kernel_rfl
theorem ar_12(w:World):(Instr.index 84 (.agg #[.int .i64 0,.int .i64 0,.int .i64 0,.int .i64 0,.int .i64 0,.int .i64 1,.int .i64 2,.int .i64 2,.int .i64 2,.int .i64 2,.int .i64 2,.int .i64 2,.int .i64 3]) (.int .i64 12)).run Tryz.prog w=.ok (.int .i64 3) w:=by kernel_rfl
theorem rtarity_no(op:Int)(h:op<0∨12<op)(w:World):Calls Tryz.prog 35 #[.int .i64 op] w (GiveI w (-1)):=by
 by_cases h1:op<0
 ·go_enter Tryz.func35,Tryz.ntmps35;go_wp2_with fail;go_ret;exact⟨rfl,Below.refl _ _⟩
 ·have h2:12<op:=by omega
  clear h;go_enter Tryz.func35,Tryz.ntmps35;go_wp2_with fail;go_ret;exact⟨rfl,Below.refl _ _⟩
theorem rtarity_0(w:World):Calls Tryz.prog 35 #[.int .i64 0] w (GiveI w 0):=by
 go_enter Tryz.func35,Tryz.ntmps35;go_wp2_with fail
 all_goals (try rw[ar_0])
 all_goals (try go_wp2_with fail)
 go_ret;exact⟨rfl,Below.refl _ _⟩
theorem rtarity_1(w:World):Calls Tryz.prog 35 #[.int .i64 1] w (GiveI w 0):=by
 go_enter Tryz.func35,Tryz.ntmps35;go_wp2_with fail
 all_goals (try rw[ar_1])
 all_goals (try go_wp2_with fail)
 go_ret;exact⟨rfl,Below.refl _ _⟩
theorem rtarity_2(w:World):Calls Tryz.prog 35 #[.int .i64 2] w (GiveI w 0):=by
 go_enter Tryz.func35,Tryz.ntmps35;go_wp2_with fail
 all_goals (try rw[ar_2])
 all_goals (try go_wp2_with fail)
 go_ret;exact⟨rfl,Below.refl _ _⟩
theorem rtarity_3(w:World):Calls Tryz.prog 35 #[.int .i64 3] w (GiveI w 0):=by
 go_enter Tryz.func35,Tryz.ntmps35;go_wp2_with fail
 all_goals (try rw[ar_3])
 all_goals (try go_wp2_with fail)
 go_ret;exact⟨rfl,Below.refl _ _⟩
theorem rtarity_4(w:World):Calls Tryz.prog 35 #[.int .i64 4] w (GiveI w 0):=by
 go_enter Tryz.func35,Tryz.ntmps35;go_wp2_with fail
 all_goals (try rw[ar_4])
 all_goals (try go_wp2_with fail)
 go_ret;exact⟨rfl,Below.refl _ _⟩
theorem rtarity_5(w:World):Calls Tryz.prog 35 #[.int .i64 5] w (GiveI w 1):=by
 go_enter Tryz.func35,Tryz.ntmps35;go_wp2_with fail
 all_goals (try rw[ar_5])
 all_goals (try go_wp2_with fail)
 go_ret;exact⟨rfl,Below.refl _ _⟩
theorem rtarity_6(w:World):Calls Tryz.prog 35 #[.int .i64 6] w (GiveI w 2):=by
 go_enter Tryz.func35,Tryz.ntmps35;go_wp2_with fail
 all_goals (try rw[ar_6])
 all_goals (try go_wp2_with fail)
 go_ret;exact⟨rfl,Below.refl _ _⟩
theorem rtarity_7(w:World):Calls Tryz.prog 35 #[.int .i64 7] w (GiveI w 2):=by
 go_enter Tryz.func35,Tryz.ntmps35;go_wp2_with fail
 all_goals (try rw[ar_7])
 all_goals (try go_wp2_with fail)
 go_ret;exact⟨rfl,Below.refl _ _⟩
theorem rtarity_8(w:World):Calls Tryz.prog 35 #[.int .i64 8] w (GiveI w 2):=by
 go_enter Tryz.func35,Tryz.ntmps35;go_wp2_with fail
 all_goals (try rw[ar_8])
 all_goals (try go_wp2_with fail)
 go_ret;exact⟨rfl,Below.refl _ _⟩
theorem rtarity_9(w:World):Calls Tryz.prog 35 #[.int .i64 9] w (GiveI w 2):=by
 go_enter Tryz.func35,Tryz.ntmps35;go_wp2_with fail
 all_goals (try rw[ar_9])
 all_goals (try go_wp2_with fail)
 go_ret;exact⟨rfl,Below.refl _ _⟩
theorem rtarity_10(w:World):Calls Tryz.prog 35 #[.int .i64 10] w (GiveI w 2):=by
 go_enter Tryz.func35,Tryz.ntmps35;go_wp2_with fail
 all_goals (try rw[ar_10])
 all_goals (try go_wp2_with fail)
 go_ret;exact⟨rfl,Below.refl _ _⟩
theorem rtarity_11(w:World):Calls Tryz.prog 35 #[.int .i64 11] w (GiveI w 2):=by
 go_enter Tryz.func35,Tryz.ntmps35;go_wp2_with fail
 all_goals (try rw[ar_11])
 all_goals (try go_wp2_with fail)
 go_ret;exact⟨rfl,Below.refl _ _⟩
theorem rtarity_12(w:World):Calls Tryz.prog 35 #[.int .i64 12] w (GiveI w 3):=by
 go_enter Tryz.func35,Tryz.ntmps35;go_wp2_with fail
 all_goals (try rw[ar_12])
 all_goals (try go_wp2_with fail)
 go_ret;exact⟨rfl,Below.refl _ _⟩
theorem rtarity_any(op:Int)(w:World):Calls Tryz.prog 35 #[.int .i64 op] w (GiveI w (arI op)):=by
 by_cases h:op<0∨12<op
 ·have e:arI op=-1:=by unfold arI arN;rw[if_pos h]
  rw[e];exact rtarity_no op h w
 ·have h:op=0∨op=1∨op=2∨op=3∨op=4∨op=5∨op=6∨op=7∨op=8∨op=9∨op=10∨op=11∨op=12:=by omega
  rcases h with rfl|rfl|rfl|rfl|rfl|rfl|rfl|rfl|rfl|rfl|rfl|rfl|rfl
  ·exact rtarity_0 w
  ·exact rtarity_1 w
  ·exact rtarity_2 w
  ·exact rtarity_3 w
  ·exact rtarity_4 w
  ·exact rtarity_5 w
  ·exact rtarity_6 w
  ·exact rtarity_7 w
  ·exact rtarity_8 w
  ·exact rtarity_9 w
  ·exact rtarity_10 w
  ·exact rtarity_11 w
  ·exact rtarity_12 w
end Go.Proofs.YtghioekjghmdaaaGreatDoor
namespace Go.Proofs.YtghioekjghmdaaaGreatDoor
open Go.RowKit
open Tm (Nd joinT plainN)
end Go.Proofs.YtghioekjghmdaaaGreatDoor
namespace Go.Proofs.YtghioekjghmdaaaGreatDoor
open Go.RowKit
structure Lq(x:Rat)(k:Nat):Prop where
 num:x.num.natAbs<10 ^ k
 den:x.den<10 ^ k
 le:k≤10000
 pos:0<k
theorem Lq.of_text{n d:ByteArray}{k:Nat}(h:isR (n.data.toList,d.data.toList)=true)(hn:n.size≤k)(hd:d.size≤k)(hk:k≤10000):Lq (valR (n.data.toList,d.data.toList)) k:=by
 have h1:=isR_isW h;have h2:=isR_isN h;have hp:0<d.data.toList.length:=isW_pos (l:=d.data.toList) (by
  have e:d.data.toList=dig (valR (n.data.toList,d.data.toList)).den:=(isR_den h).1;rw[e];exact isW_dig _)
 have hd':d.data.toList.length≤k:=hd;have hn':n.data.toList.length≤k:=hn;refine⟨?_,?_,hk,by omega⟩
 ·rw[valR_num h];exact Nat.lt_of_lt_of_le (Ltw.own h1 (by show n.data.toList.length≤_;omega)).abs (Nat.pow_le_pow_right (by decide) hn')
 ·rw[valR_den h];exact Nat.lt_of_lt_of_le (nat_lt h2) (Nat.pow_le_pow_right (by decide) hd')
section
variable {x y : Rat} {j k : Nat}
theorem pow_next{a m:Nat}(h:a<10 ^ m):a<10 ^ (m+1):=Nat.lt_of_lt_of_le h (Nat.pow_le_pow_right (by decide) (Nat.le_succ m))
theorem two_lt{a b m:Nat}(ha:a<10 ^ m)(hb:b<10 ^ m):a+b<10 ^ (m+1):=by
 rw[Nat.pow_succ];omega
end
section
variable {x y z : Rat} {j k : Nat}
end
theorem lay{V w:World}(h:Below V.heap.size V w)(a b:Value)(t:TypeId):∃U,w.alloc (.cells #[a,b] t)=U∧Below V.heap.size V U∧w.heap.size+1=U.heap.size ∧
  (∀v,Below U.heap.size U v→v.cell? ⟨w.heap.size,0,none⟩=some a)∧(∀v,Below U.heap.size U v→v.cell? ⟨w.heap.size,1,none⟩=some b) :=
 ⟨_,rfl,h.alloc h.size _,by simp,fun _ k=>(zc_made k).c0,fun _ k=>(zc_made k).c1⟩
end Go.Proofs.YtghioekjghmdaaaGreatDoor
set_option maxHeartbeats 1000000
set_option maxRecDepth 100000
namespace Go.Proofs.YtghioekjghmdaaaGreatDoor
open Go.RowKit
theorem rqof_any(n:Int)(w:World)(h0:-9223372036854775808≤n)(h1:n≤9223372036854775807) :
  Calls Tryz.prog 27 #[.int .i64 n] w (GiveR w (wd n,[49])):=by
 have ca:=fun w=>rwof_any n w h0 h1;generalize wd n=s at *;clear h0 h1;have CA:=zh ca;clear ca;go_enter Tryz.func27,Tryz.ntmps27;go_wp2_with fail;obtain⟨W,hW,BW,sW,r0,r1,r2,r3⟩:=box0z w (.string ⟨#[]⟩) (.string ⟨#[]⟩) 28;have hB:=zh (Nat.le_refl W.heap.size);rw[hW];clear hW;have b0:=Below.refl W.heap.size W;refine(CA.out _).mono ?_;rintro e w1 ⟨rfl,b⟩;have b1:=Below.more b0 b;clear b;go_wp2_with fail;refine bodyPost_ret (v:=.agg #[.string ⟨s.toArray⟩,.string ⟨#[49]⟩]) (by simp[results,Tryz.results27,go_sem, *]) rfl ⟨rfl,?_⟩;exact put2 (Below.more BW b1) (Nat.le_refl _) _ _
section
variable {x y z : Rat} {j k : Nat}
end
end Go.Proofs.YtghioekjghmdaaaGreatDoor
set_option maxHeartbeats 1000000
namespace Go.Proofs.YtghioekjghmdaaaGreatDoor
open Go.RowKit
structure NoB(w:World):Prop where
 ok:True
theorem NoB.below{w w':World}(_:NoB w)(_:Below w.heap.size w w'):NoB w':=⟨trivial⟩
theorem noB(w:World):NoB w:=⟨trivial⟩
theorem lay4{V w:World}(h:Below V.heap.size V w)(a b c d:Value)(t:TypeId):∃U,w.alloc (.cells #[a,b,c,d] t)=U∧Below V.heap.size V U∧w.heap.size+1=U.heap.size ∧
  (∀v,Below U.heap.size U v→v.cell? ⟨w.heap.size,0,none⟩=some a)∧(∀v,Below U.heap.size U v→v.cell? ⟨w.heap.size,1,none⟩=some b) ∧
  (∀v,Below U.heap.size U v→v.cell? ⟨w.heap.size,2,none⟩=some c)∧(∀v,Below U.heap.size U v→v.cell? ⟨w.heap.size,3,none⟩=some d):=by
 have k:∀j x,(#[a,b,c,d]:Array Value)[j]?=some x→∀v,Below (w.alloc (.cells #[a,b,c,d] t)).heap.size (w.alloc (.cells #[a,b,c,d] t)) v→v.cell? ⟨w.heap.size,j,none⟩=some x:=fun j x e v hv =>
  (hv.cell (p:=⟨w.heap.size,j,none⟩) (by simp)).trans ((cell_new w _ _ _ rfl j).trans e)
 exact⟨_,rfl,h.alloc h.size _,by simp,k 0 a rfl,k 1 b rfl,k 2 c rfl,k 3 d rfl⟩
theorem okB_iff{i:Nat}{c:UInt8}:okB i c=true↔((97≤c.toNat∧c.toNat≤122)∨(48≤c.toNat∧c.toNat≤57))∨(c.toNat=33∧i=0):=by
 unfold okB nameC;simp only[Bool.or_eq_true,Bool.and_eq_true,decide_eq_true_eq]
theorem okB_no{i:Nat}{c:UInt8}(h:¬(((97≤c.toNat∧c.toNat≤122)∨(48≤c.toNat∧c.toNat≤57))∨(c.toNat=33∧i=0))):okB i c=false:=by
 cases e:okB i c with
 | false=>rfl
 | true=>exact absurd (okB_iff.1 e) h
theorem nm_more{s:ByteArray}{k:Nat}(hk:k<s.size)(h:nmFrom 0 (s.data.toList.take k)=true)(ho:okB k s[k]=true):nmFrom 0 (s.data.toList.take (k+1))=true:=by
 have hl:k<s.data.toList.length:=by rw[size_toList];exact hk
 rw[nm_step hl,h];exact ho
theorem nm_end{s:ByteArray}{k:Nat}(hk:k<s.size)(ho:okB k s[k]=false):isName s.data.toList=false:=nm_stop (by rw[size_toList];exact hk) ho
theorem rbname_any(s:ByteArray)(w:World)(hs:s.size≤4611686018427387904) :
  Calls Tryz.prog 70 #[.string s] w fun e w'=>e=.returned (.bool (isName s.data.toList))∧w=w':=by
 go_enter Tryz.func70,Tryz.ntmps70
 go_wp2
 go_loop [3] (fun i=>∃k:Nat,k≤s.size∧i=.int .i64 k∧Hid (nmFrom 0 (s.data.toList.take k)=true)) (fun i=>s.size-(intOf i).toNat)
 case atStart=>exact⟨0,Nat.zero_le _,rfl,rfl⟩
 case round =>
  obtain⟨k,hk,rfl,HJ⟩:=hrel;by_cases hlt:k<s.size
  ·by_cases a1:(s[k].toNat:Int)<97
   ·by_cases a2:(s[k].toNat:Int)<48
    ·by_cases a3:(s[k].toNat:Int)=33
     ·by_cases a4:k=0
      ·have f0:¬(0:Int)<(k:Int):=by omega
       have HO:Hid (okB k s[k]=true):=zh (okB_iff.2 (.inr ⟨by omega,a4⟩));clear a4
       go_wp2
       go_round
       case rel=>exact⟨k+1,hlt,by go_num,nm_more hlt HJ.out HO.out⟩
       case measure=>simp[intOf];omega
      ·have f0:(0:Int)<(k:Int):=by omega
       have HO:Hid (isName s.data.toList=false):=zh (nm_end hlt (okB_no (by omega)))
       go_wp2
       go_ret;exact⟨ret_bool (by rw[HO.out]),rfl⟩
     ·have HO:Hid (isName s.data.toList=false):=zh (nm_end hlt (okB_no (by omega)))
      go_wp2
      go_ret;exact⟨ret_bool (by rw[HO.out]),rfl⟩
    ·by_cases a3:57<(s[k].toNat:Int)
     ·have f0:¬(s[k].toNat:Int)=33:=by omega
      have HO:Hid (isName s.data.toList=false):=zh (nm_end hlt (okB_no (by omega)))
      go_wp2
      go_ret;exact⟨ret_bool (by rw[HO.out]),rfl⟩
     ·have HO:Hid (okB k s[k]=true):=zh (okB_iff.2 (.inl (.inr ⟨by omega,by omega⟩)))
      go_wp2
      go_round
      case rel=>exact⟨k+1,hlt,by go_num,nm_more hlt HJ.out HO.out⟩
      case measure=>simp[intOf];omega
   ·by_cases a2:122<(s[k].toNat:Int)
    ·have f0:¬(s[k].toNat:Int)=33:=by omega
     have f1:¬(s[k].toNat:Int)<48:=by omega
     have f2:57<(s[k].toNat:Int):=by omega
     have HO:Hid (isName s.data.toList=false):=zh (nm_end hlt (okB_no (by omega)))
     go_wp2
     go_ret;exact⟨ret_bool (by rw[HO.out]),rfl⟩
    ·have HO:Hid (okB k s[k]=true):=zh (okB_iff.2 (.inl (.inl ⟨by omega,by omega⟩)))
     go_wp2
     go_round
     case rel=>exact⟨k+1,hlt,by go_num,nm_more hlt HJ.out HO.out⟩
     case measure=>simp[intOf];omega
  ·obtain rfl:k=s.size:=by omega
   have hr:=nm_all (l:=s.data.toList) (by rw[size_toList];exact HJ.out);rw[size_toList]at hr;have HR:=zh hr;clear hr;by_cases h1:(1:Int)≤(s.size:Int)
   ·by_cases h2:(s.size:Int)≤20
    ·have HD:Hid ((decide (1≤s.size)&&decide (s.size≤20))=true):=zh (by rw[decide_eq_true (by omega),decide_eq_true (by omega)];rfl)
     go_wp2
     go_ret;exact⟨ret_bool (by rw[HR.out,HD.out]),rfl⟩
    ·have HD:Hid ((decide (1≤s.size)&&decide (s.size≤20))=false):=zh (by rw[decide_eq_false (show ¬s.size≤20 by omega),Bool.and_false])
     go_wp2
     go_ret;exact⟨ret_bool (by first|rw[HR.out,HD.out]|(rw[HR.out,HD.out];exact decide_eq_false h2)),rfl⟩
   ·have HD:Hid ((decide (1≤s.size)&&decide (s.size≤20))=false):=zh (by rw[decide_eq_false (show ¬1≤s.size by omega),Bool.false_and])
    go_wp2
    go_ret;exact⟨ret_bool (by rw[HR.out,HD.out]),rfl⟩
end Go.Proofs.YtghioekjghmdaaaGreatDoor
namespace Go.Proofs.YtghioekjghmdaaaGreatDoor
open Go.RowKit
theorem more{ls:List Ln}{P:Ln→Prop}{k:Nat}{z:Ln}(h:∀ (j:Nat) (x:Ln),j<k→ls[j]?=some x→P x)(hz:ls[k]?=some z)(hp:P z):∀ (j:Nat) (x:Ln),j<k+1→ls[j]?=some x→P x:=fun j x hj hx=>by
 by_cases e:j=k
 ·subst e;rw[hz]at hx;exact Option.some.inj hx▸hp
 ·exact h j x (by omega) hx
end Go.Proofs.YtghioekjghmdaaaGreatDoor
set_option maxHeartbeats 4000000
set_option maxRecDepth 100000
namespace Go.Proofs.YtghioekjghmdaaaGreatDoor
open Go.RowKit
open Tm (Nd astB)
theorem drop_at0(s:ByteArray)(h:0<s.size):s.data.toList=s[0]::s.data.toList.drop 1:=by
 have hl:0<s.data.toList.length:=by rw[size_toList];exact h
 have:=List.drop_eq_getElem_cons hl;rw[List.drop_zero]at this;exact this
theorem ast_no{l:List UInt8}(h:isName l=false):astB l=false:=by unfold Tm.astB;rw[h];rfl
theorem ast_at{s:ByteArray}(h:isName s.data.toList=true)(h0:0<s.size):astB s.data.toList=(!decide ((s[0].toNat:Int)=33)&&(decide ((s[0].toNat:Int)<48)||decide ((57:Int)<(s[0].toNat:Int)))):=by
 have e:s.data.toList=s[0]::s.data.toList.drop 1:=drop_at0 s h0;unfold Tm.astB;rw[h,Bool.true_and,e];dsimp only[List.head?_cons]
 congr 1
 ·congr 1
  by_cases k:s[0]=33
  ·rw[k];rfl
  ·have:¬(s[0].toNat:Int)=33:=fun e=>k (UInt8.toNat_inj.1 (by show s[0].toNat=33;omega));rw[decide_eq_false this];simp[k]
 ·unfold isDig;by_cases a:(s[0].toNat:Int)<48
  ·rw[decide_eq_true a,decide_eq_false (show ¬48≤s[0].toNat by omega)];rfl
  ·rw[decide_eq_false a,decide_eq_true (show 48≤s[0].toNat by omega)];by_cases b:(57:Int)<(s[0].toNat:Int)
   ·rw[decide_eq_true b,decide_eq_false (show ¬s[0].toNat≤57 by omega)];rfl
   ·rw[decide_eq_false b,decide_eq_true (show s[0].toNat≤57 by omega)];rfl
theorem rtasset_any(s:ByteArray)(w:World)(hs:s.size≤4611686018427387904):Calls Tryz.prog 110 #[.string s] w (GiveB w (astB s.data.toList)):=by
 have C:=zh (calm (rbname_any s w hs));have b0:=Below.refl w.heap.size w
 cases hn:isName s.data.toList with
 | false =>
  rw[hn]at C;have HA:=zh (ast_no hn);clear hn;go_enter Tryz.func110,Tryz.ntmps110;go_wp2_with fail;refine C.out.mono ?_;rintro e w' ⟨rfl,b⟩;have b1:=Below.more b0 b;clear b;go_wp2_with fail;go_ret;exact⟨ret_bool (by rw[HA.out]),b1⟩
 | true =>
  rw[hn]at C;have h0:0<s.size:=by
   have e:=size_toList s;have:s.data.toList≠[]:=fun e=>by rw[e]at hn;cases hn
   have:=List.length_pos_iff.2 this;omega
  have h0i:(0:Int)<(s.size:Int):=by omega
  have HA0:=ast_at hn h0;clear hn;by_cases a:(s[0].toNat:Int)=33
  ·have HA:Hid (astB s.data.toList=false):=zh (by rw[HA0,decide_eq_true a];rfl);have q1:((s[0].toNat:Int) != 33)=false:=by rw[bne_eq_false_iff_eq];exact a
   clear HA0 a;go_enter Tryz.func110,Tryz.ntmps110;go_wp2_with fail;refine C.out.mono ?_;rintro e w' ⟨rfl,b⟩;have b1:=Below.more b0 b;clear b;go_wp2_with fail;go_ret;exact⟨ret_bool (by rw[HA.out]),b1⟩
  ·have q1:((s[0].toNat:Int) != 33)=true:=by rw[bne_iff_ne];exact a
   rw[decide_eq_false a]at HA0;clear a;by_cases k:(s[0].toNat:Int)<48
   ·have HA:Hid (astB s.data.toList=true):=zh (by rw[HA0,decide_eq_true k];rfl);have q2:decide ((s[0].toNat:Int)<48)=true:=decide_eq_true k;clear HA0;go_enter Tryz.func110,Tryz.ntmps110;go_wp2_with fail;refine C.out.mono ?_;rintro e w' ⟨rfl,b⟩;have b1:=Below.more b0 b;clear b;go_wp2_with fail;go_ret;exact⟨ret_bool (by rw[HA.out]),b1⟩
   ·have q2:decide ((s[0].toNat:Int)<48)=false:=decide_eq_false k;have HA:Hid (astB s.data.toList=decide ((57:Int)<(s[0].toNat:Int))):=zh (by rw[HA0,decide_eq_false k];rfl);clear HA0;go_enter Tryz.func110,Tryz.ntmps110;go_wp2_with fail;refine C.out.mono ?_;rintro e w' ⟨rfl,b⟩;have b1:=Below.more b0 b;clear b;go_wp2_with fail;go_ret;exact⟨ret_bool (by rw[HA.out]),b1⟩
end Go.Proofs.YtghioekjghmdaaaGreatDoor
