/- Own work. -/
import Derived.Test.YtghioekjghmdaaaGreatDoorEvLiM
import Derived.Test.YtghioekjghmdaaaGreatDoorGrwTM
set_option linter.unusedVariables false
namespace Go.Proofs.YtghioekjghmdaaaGreatDoor
namespace Ev
open Tm (Nd Tr okN okT arN checkT treeOf plainN joinT dp pr)
def oneN:Nd:=Nd.mk 0 ([49],[49]) [] 0 0
def onesT:Nat→Tr
 | 0=>.t0 oneN
 | n+1=>.t2 (plainN 6) (onesT n) (.t0 oneN)
structure Pla(t:Tr)(k d m e:Nat)(v:Option Rat):Prop where
 wf:t.wf
 ok:okT t
 sz:∀x∈t.flat,SzN x
 sp:∀x∈t.flat,spanN x=[]
 len:t.flat.length=k
 dep:dp t=d
 prl:(pr t).length≤m
 dg:dgT 10 t≤e
 val:valT [] t=v
theorem pla_one:Pla (.t0 oneN) 1 1 1 1 (some 1) where
 wf:=by show arN 0=some 0;rfl
 ok:=fun x hx=>by obtain rfl:=List.mem_singleton.1 hx;decide +kernel
 sz:=szN_c (t:=[oneN]) (by decide)
 sp:=fun x hx=>by obtain rfl:=List.mem_singleton.1 hx;rfl
 len:=rfl
 dep:=rfl
 prl:=by decide +kernel
 dg:=Nat.le_refl _
 val:=by decide +kernel
theorem Pla.two{op:Int}{a b:Tr}{k d m e k' d' m' e':Nat}{v v':Option Rat}(h:6≤op∧op≤11)(ha:Pla a k d m e v)(hb:Pla b k' d' m' e' v'):Pla (.t2 (plainN op) a b) (k+k'+1) (max d d'+1) (m+m'+7) (e+e'+1) ((allS [v,v']).bind (upQ op)) where
 wf:=⟨by show arN op=some 2;unfold arN;rw[if_neg (by omega),if_neg (by omega),if_neg (by omega),if_pos (by omega)],ha.wf,hb.wf⟩
 ok:=fun x hx=>by
  simp only[Tr.flat,List.mem_append,List.mem_cons,List.not_mem_nil,or_false]at hx;rcases hx with hx|hx|rfl
  ·exact ha.ok x hx
  ·exact hb.ok x hx
  ·exact plain_ok (by omega)
 sz:=fun x hx=>by
  simp only[Tr.flat,List.mem_append,List.mem_cons,List.not_mem_nil,or_false]at hx;rcases hx with hx|hx|rfl
  ·exact ha.sz x hx
  ·exact hb.sz x hx
  ·exact szN_plain op (by omega) (by omega)
 sp:=fun x hx=>by
  simp only[Tr.flat,List.mem_append,List.mem_cons,List.not_mem_nil,or_false]at hx;rcases hx with hx|hx|rfl
  ·exact ha.sp x hx
  ·exact hb.sp x hx
  ·exact span_plain (by omega)
 len:=by simp[Tr.flat,ha.len,hb.len];omega
 dep:=by
  show max (dp a) (max (dp b) 0)+1=_;rw[ha.dep,hb.dep,Nat.max_zero]
 prl:=by
  show (Tm.aboveP op [pr a,pr b]).length≤_;unfold Tm.aboveP;have h1:=ha.prl;have h2:=hb.prl;have h3:=Tm.fnH_len op
  rw[if_neg (by omega)];split
  ·simp;omega
  ·simp[Tm.commas];omega
 dg:=by
  show dgT 10 a+dgT 10 b+1≤_;have h1:=ha.dg;have h2:=hb.dg
  omega
 val:=by
  show (allS [valT [] a,valT [] b]).bind (upQ op)=_;rw[ha.val,hb.val]
theorem pla_ones:∀n:Nat,Pla (onesT n) (2*n+1) (n+1) (8*n+1) (2*n+1) (some ((n+1:Nat):Rat))
 | 0=>pla_one
 | n+1=>by
  have h:=(pla_ones n).two (op:=6) (by decide) pla_one;have e:(((n+1:Nat):Rat)+1)=((n+1+1:Nat):Rat):=(Rat.natCast_add (n+1) 1).symm;rw[show 2*(n+1)+1=2*n+1+1+1 by omega,show n+1+1=max (n+1) 1+1 by omega,show 8*(n+1)+1=8*n+1+1+7 by omega];rw[show max (n+1) 1+1=n+1+1 by omega]at h ⊢;rw[←e];exact h
theorem Pla.nolack{t:Tr}{k d m e:Nat}{v:Option Rat}(h:Pla t k d m e v):lackB [] t.flat=false:=by
 cases f:lackB [] t.flat with
 | false=>rfl
 | true =>
  obtain⟨q,hq,_⟩:=lack_iff.1 f;obtain⟨x,hx,hq⟩:=keys_mem.1 hq;rw[h.sp x hx]at hq
  cases hq
theorem Pla.eval{t:Tr}{k d m e:Nat}{v:Option Rat}(h:Pla t k d m e v)(hk:k≤2000)(hd:d≤150)(hm:m≤20000):evalE t.flat []=endQ v∧∀tr,treeOf t.flat=some tr→dgT 10 tr≤e:=by
 have ht:=Tm.tree_flat h.wf;refine⟨?_,fun tr f=>?_⟩
 ·rw[eval_may rfl (check_tree h.wf h.ok (by rw[h.len];exact hk) (Nat.le_trans h.prl hm) (by rw[h.dep];exact hd)),h.nolack,ht];show endQ (valT [] t)=_;rw[h.val]
 ·rw[ht]at f;obtain rfl:=Option.some.inj f;exact h.dg
theorem Pla.three{a b c:Tr}{k d m e k' d' m' e' k2 d2 m2 e2:Nat}{v v' v2:Option Rat}(ha:Pla a k d m e v)(hb:Pla b k' d' m' e' v')(hc:Pla c k2 d2 m2 e2 v2):Pla (.t3 (plainN 12) a b c) (k+k'+k2+1) (max d (max d' d2)+1) (m+m'+m2+9) (max e (max e' e2)) ((allS [v,v',v2]).bind (upQ 12)) where
 wf:=⟨rfl,ha.wf,hb.wf,hc.wf⟩
 ok:=fun x hx=>by
  simp only[Tr.flat,List.mem_append,List.mem_cons,List.not_mem_nil,or_false]at hx;rcases hx with hx|hx|hx|rfl
  ·exact ha.ok x hx
  ·exact hb.ok x hx
  ·exact hc.ok x hx
  ·exact plain_ok (by decide)
 sz:=fun x hx=>by
  simp only[Tr.flat,List.mem_append,List.mem_cons,List.not_mem_nil,or_false]at hx;rcases hx with hx|hx|hx|rfl
  ·exact ha.sz x hx
  ·exact hb.sz x hx
  ·exact hc.sz x hx
  ·exact szN_plain 12 (by decide) (by decide)
 sp:=fun x hx=>by
  simp only[Tr.flat,List.mem_append,List.mem_cons,List.not_mem_nil,or_false]at hx;rcases hx with hx|hx|hx|rfl
  ·exact ha.sp x hx
  ·exact hb.sp x hx
  ·exact hc.sp x hx
  ·exact span_plain (by decide)
 len:=by simp[Tr.flat,ha.len,hb.len,hc.len];omega
 dep:=by
  show max (dp a) (max (dp b) (max (dp c) 0))+1=_;rw[ha.dep,hb.dep,hc.dep,Nat.max_zero]
 prl:=by
  show (Tm.aboveP 12 [pr a,pr b,pr c]).length≤_;unfold Tm.aboveP;have h1:=ha.prl;have h2:=hb.prl;have h3:=hc.prl;have h4:=Tm.fnH_len 12
  rw[if_neg (by decide),if_neg (by decide)];simp[Tm.commas];omega
 dg:=by
  show max (dgT 10 a) (max (dgT 10 b) (dgT 10 c))≤_;have h1:=ha.dg;have h2:=hb.dg;have h3:=hc.dg
  omega
 val:=by
  show (allS [valT [] a,valT [] b,valT [] c]).bind (upQ 12)=_;rw[ha.val,hb.val,hc.val]
def numN(a:Key):Nd:=Nd.mk 0 a [] 0 0
theorem pla_num{a:Key}(h:okN (numN a)=true)(h1:a.1.length≤100)(h2:a.2.length≤100):Pla (.t0 (numN a)) 1 1 140 100 (some (valR a)) where
 wf:=by show arN 0=some 0;rfl
 ok:=fun x hx=>by obtain rfl:=List.mem_singleton.1 hx;exact h
 sz:=fun x hx=>by obtain rfl:=List.mem_singleton.1 hx;exact⟨⟨h1,h2,Nat.zero_le _⟩,(szN_plain 0 (by decide) (by decide)).2⟩
 sp:=fun x hx=>by obtain rfl:=List.mem_singleton.1 hx;rfl
 len:=rfl
 dep:=rfl
 prl:=Tm.leaf_len h rfl
 dg:=by
  show max a.1.length a.2.length≤100;omega
 val:=rfl
theorem num_ok{a:Key}(h:checkT [numN a]=0):okN (numN a)=true:=by
 have k:=Tm.one_check (numN a);rw[decide_eq_true h]at k;have k:=k.symm;rw[Bool.and_eq_true]at k;exact k.2
theorem join_two(op:Int)(a b:Tr):joinT op [a.flat,b.flat]=(Tr.t2 (plainN op) a b).flat:=by simp[joinT,Tr.flat]
theorem ones_eval(n:Nat)(h:n≤59):evalE (onesT n).flat []=((wd ((n+1:Nat):Int),[49]),0)∧evalE (Tr.t2 (plainN 7) (onesT n) (onesT n)).flat []=((wd 0,[49]),0)∧evalE (Tr.t2 (plainN 9) (onesT n) (.t2 (plainN 7) (onesT n) (onesT n))).flat []=(([],[]),131):=by
 have h1:=pla_ones n;have h2:=h1.two (op:=7) (by decide) h1;have h3:=h1.two (op:=9) (by decide) h2;refine⟨?_,?_,?_⟩
 ·rw[(h1.eval (by omega) (by omega) (by omega)).1];show (rd _,(0:Int))=_;rw[rd_nat]
 ·rw[(h2.eval (by omega) (by omega) (by omega)).1];show (rd (((n+1:Nat):Rat)-((n+1:Nat):Rat)),(0:Int))=_;rw[sub_zero_iff.2 rfl];exact congrArg (fun x=>(x,(0:Int))) (rd_nat 0)
 ·rw[(h3.eval (by omega) (by omega) (by omega)).1];have e:upQ 7 [((n+1:Nat):Rat),((n+1:Nat):Rat)]=some 0:=by
   show some (((n+1:Nat):Rat)-((n+1:Nat):Rat))=_;rw[sub_zero_iff.2 rfl]
  show endQ ((allS [some ((n+1:Nat):Rat),upQ 7 [((n+1:Nat):Rat),((n+1:Nat):Rat)]]).bind (upQ 9))=_;rw[e]
  rfl
end Ev
end Go.Proofs.YtghioekjghmdaaaGreatDoor
