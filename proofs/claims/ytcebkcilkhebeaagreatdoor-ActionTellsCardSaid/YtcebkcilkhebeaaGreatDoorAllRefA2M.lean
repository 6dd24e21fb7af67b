/- Own work. -/
import Derived.Test.YtcebkcilkhebeaaGreatDoorAllRefA3M
set_option linter.unusedVariables false
set_option linter.unusedSimpArgs false
namespace Go.Proofs.YtcebkcilkhebeaaGreatDoor
namespace Wd
def isLet(c:UInt8):Bool:=decide (97≤c.toNat)&&decide (c.toNat≤122)
def isDig(c:UInt8):Bool:=decide (48≤c.toNat)&&decide (c.toNat≤57)
def isLD(c:UInt8):Bool:=isLet c||isDig c
def isSgn(c:UInt8):Bool:=c==43||c==45||c==42||c==47||c==40||c==41||c==44
def run(p:UInt8→Bool):List UInt8→Nat
 | []=>0
 | x::r=>if p x then run p r+1 else 0
def dotD:List UInt8→Bool
 | 46::d::_=>isDig d
 | _=>false
def numL(l:List UInt8):Nat:=if dotD (l.drop (run isDig l)) then run isDig l+1+run isDig (l.drop (run isDig l+1)) else run isDig l
def kl:List UInt8→Option (Nat×Nat)
 | []=>none
 | x::r =>
  if isLet x then (if run isLD (x::r)≤20 then some (0,run isLD (x::r)) else none)
  else if isDig x then (if numL (x::r)≤100 then some (1,numL (x::r)) else none)
  else if isSgn x then some (2,1) else none
structure Tk where
 kind:Nat
 text:List UInt8
 line:Nat
 col:Nat
theorem run_le(p:UInt8→Bool):∀l:List UInt8,run p l≤l.length
 | []=>Nat.le_refl _
 | x::r=>by
  have:=run_le p r;unfold run;split<;>simp only[List.length_cons]<;>omega
theorem run_pos{p:UInt8→Bool}{x:UInt8}{r:List UInt8}(h:p x=true):run p (x::r)=run p r+1:=by
 show (if p x then run p r+1 else 0)=_;rw[if_pos h]
theorem dot_head:∀ {u:List UInt8},dotD u=true→∃d r,u=46::d::r∧isDig d=true:=by
 intro u h;unfold dotD at h;split at h
 ·exact⟨_,_,rfl,h⟩
 ·cases h
theorem num_le(l:List UInt8):numL l≤l.length:=by
 have hle:=run_le isDig l;unfold numL;split
 ·rename_i h
  obtain⟨d,r,e,hd⟩:=dot_head h;have e2:l.drop (run isDig l+1)=d::r:=by rw[←List.drop_drop,e];rfl
  have k:=congrArg List.length e;rw[List.length_drop]at k;have k2:=run_le isDig (d::r);rw[e2];simp only[List.length_cons]at k k2;omega
 ·exact hle
theorem num_pos{x:UInt8}{r:List UInt8}(h:isDig x=true):1≤numL (x::r):=by
 have:=run_pos (r:=r) h;unfold numL;split<;>omega
theorem kl_cons(x:UInt8)(r:List UInt8):kl (x::r) =
  if isLet x then (if run isLD (x::r)≤20 then some (0,run isLD (x::r)) else none)
  else if isDig x then (if numL (x::r)≤100 then some (1,numL (x::r)) else none)
  else if isSgn x then some (2,1) else none:=rfl
theorem kl_len{l:List UInt8}{kd m:Nat}(h:kl l=some (kd,m)):1≤m∧m≤l.length:=by
 match l with
 | []=>cases h
 | x::r =>
  rw[kl_cons]at h;split at h
  ·rename_i hx
   split at h
   ·obtain⟨rfl,rfl⟩:=Prod.mk.inj (Option.some.inj h);exact⟨by rw[run_pos (by unfold isLD;rw[hx];rfl)];omega,run_le _ _⟩
   ·cases h
  ·split at h
   ·rename_i hx
    split at h
    ·obtain⟨rfl,rfl⟩:=Prod.mk.inj (Option.some.inj h);exact⟨num_pos hx,num_le _⟩
    ·cases h
   ·split at h
    ·obtain⟨rfl,rfl⟩:=Prod.mk.inj (Option.some.inj h);exact⟨Nat.le_refl _,by rw[List.length_cons];omega⟩
    ·cases h
def lexAt(l:List UInt8)(ln c:Nat):List Tk×Option (Nat×Nat) :=
 match l with
 | []=>([],none)
 | x::r =>
  if x=32 then lexAt r ln (c+1)
  else if x=10 then lexAt r (ln+1) 1
  else match h:kl (x::r) with
   | none=>([],some (ln,c))
   | some (kd,m)=>(Tk.mk kd ((x::r).take m) ln c::(lexAt ((x::r).drop m) ln (c+m)).1,(lexAt ((x::r).drop m) ln (c+m)).2)
termination_by l.length
decreasing_by
 all_goals simp_wf
 all_goals (try (have:=(kl_len h).1;omega))
def lexD(s:List UInt8):List Tk×Int×Nat×Nat :=
 if 20000<s.length then ([],90,1,1) else match (lexAt s 1 1).2 with
  | none=>((lexAt s 1 1).1,0,0,0)
  | some p=>([],90,p.1,p.2)
end Wd
end Go.Proofs.YtcebkcilkhebeaaGreatDoor
namespace Go.Proofs.YtcebkcilkhebeaaGreatDoor
open Go.RowKit
end Go.Proofs.YtcebkcilkhebeaaGreatDoor
namespace Go.Proofs.YtcebkcilkhebeaaGreatDoor
open Go.RowKit
end Go.Proofs.YtcebkcilkhebeaaGreatDoor
namespace Go.Proofs.YtcebkcilkhebeaaGreatDoor
open Go.RowKit
open Wd (Tk lexAt lexD)
theorem cut_text(s:ByteArray)(i m:Nat):s.extract i (i+m)=⟨((s.data.toList.drop i).take m).toArray⟩:=by
 refine bytes_eq ?_;rw[Lib.extract_data];show _=(s.data.toList.drop i).take m
 first
  | rfl
  | (rw[Nat.add_sub_cancel_left])
  | (rw[List.drop_take,Nat.add_sub_cancel_left])
end Go.Proofs.YtcebkcilkhebeaaGreatDoor
set_option maxHeartbeats 4000000
set_option maxRecDepth 100000
namespace Go.Proofs.YtcebkcilkhebeaaGreatDoor
open Go.RowKit
open Ac (oB rB cB assetB numB wordK mayA Actn leastC)
open Ac (words cutB)
def encW(x:List UInt8):List Value:=[.string ⟨x.toArray⟩]
theorem encW_one(x:List UInt8):∀v∈encW x,v.oneCell'=true:=fun v hv=>by
 unfold encW at hv;rw[List.mem_singleton.1 hv];rfl
theorem txInfo:(Tryz.prog.info? 9).map (fun i=>(i.zero,i.size,i.bytes))=some (some (.string ⟨#[]⟩),1,16):=by kernel_rfl
abbrev Txs(w:World)(p:Option Addr)(l:List (List UInt8)):Prop:=RowsG encW 1 w p l
abbrev OwnTx(B:Nat)(w:World)(v:Value)(l:List (List UInt8)):Prop:=OwnG encW 1 9 B w v l
theorem tx_rule{w:World}{p:Option Addr}{l:List (List UInt8)}(h:Txs w p l){k:Nat}{x:List UInt8}(hx:l[k]?=some x):∃b o,p=some ⟨b,o,none⟩∧∀v,Below w.heap.size w v→v.cell? ⟨b,o+k,none⟩=some (.string ⟨x.toArray⟩):=by
 obtain⟨b,o,hp,hl,c⟩:=h k x hx;refine⟨b,o,hp,fun v hb=>?_⟩;have:=c 0 _ rfl;rw[Nat.mul_one,Nat.add_zero]at this;exact(hb.cell (p:=⟨b,o+k,none⟩) hl).trans this
def GiveTx(w:World)(l:List (List UInt8))(e:Ending)(w':World):Prop:=(∃p c,e=.returned (.slice p l.length c)∧l.length≤c∧Txs w' p l)∧Below w.heap.size w w'
structure Wst(s:List UInt8)(k:Nat)(i f:Nat)(ls:List (List UInt8)):Prop where
 le:f≤i∧i≤s.length
 len:ls.length≤k
 no:Ac.noB ((s.drop f).take (i-f))
 eq:words k s=ls++words (k-ls.length) (s.drop f)
theorem wst_0(s:List UInt8)(k:Nat):Wst s k 0 0 []:=⟨⟨Nat.le_refl _,Nat.zero_le _⟩,Nat.zero_le _,fun c hc=>by simp at hc,rfl⟩
theorem wst_go{s:List UInt8}{k i f:Nat}{ls:List (List UInt8)}(h:Wst s k i f ls){c:UInt8}(hc:s[i]?=some c)(h32:c≠32):Wst s k (i+1) f ls:=by
 have hi:=(List.getElem?_eq_some_iff.1 hc).1;refine⟨⟨by have:=h.le.1;omega,hi⟩,h.len,fun d hd=>?_,h.eq⟩;rw[show i+1-f=(i-f)+1 by have:=h.le.1;omega,List.take_add_one,List.getElem?_drop,show f+(i-f)=i by have:=h.le.1;omega,hc]at hd;rcases List.mem_append.1 hd with hd|hd
 ·exact h.no d hd
 ·rw[List.mem_singleton.1 hd];exact h32
theorem wst_cut{s:List UInt8}{k i f:Nat}{ls:List (List UInt8)}(h:Wst s k i f ls)(hc:s[i]?=some 32)(hl:ls.length<k):Wst s k (i+1) (i+1) (ls++[(s.drop f).take (i-f)]):=by
 have hi:=(List.getElem?_eq_some_iff.1 hc).1;refine⟨⟨Nat.le_refl _,hi⟩,by rw[List.length_append];exact hl,fun d hd=>by simp at hd,?_⟩;have e:s.drop f=(s.drop f).take (i-f)++32::s.drop (i+1):=by
  have e1:=(List.take_append_drop (i-f) (s.drop f)).symm;rw[List.drop_drop,show f+(i-f)=i by have:=h.le.1;omega]at e1;have e2:s.drop i=32::s.drop (i+1):=by
   rw[List.drop_eq_getElem_cons hi]
   congr 1
   have:=List.getElem?_eq_getElem hi;rw[hc]at this;exact(Option.some.inj this).symm
  rw[e2]at e1;exact e1
 rw[h.eq,List.length_append,List.length_singleton,show k-ls.length=(k-(ls.length+1))+1 by omega];have hw:words ((k-(ls.length+1))+1) (s.drop f)=(s.drop f).take (i-f)::words (k-(ls.length+1)) (s.drop (i+1)):=by
  show (match cutB (s.drop f) with|none=>[s.drop f]|some (a,b)=>a::words (k-(ls.length+1)) b)=_;have:cutB (s.drop f)=some ((s.drop f).take (i-f),s.drop (i+1)):=by
   have hno:=h.no;generalize (s.drop f).take (i-f)=T at hno e ⊢;rw[e];exact Ac.cutB_some hno _
  rw[this]
 rw[hw,List.append_assoc];rfl
theorem wst_end{s:List UInt8}{k i f:Nat}{ls:List (List UInt8)}(h:Wst s k i f ls)(he:i=s.length∨ls.length=k):words k s=ls++[s.drop f]:=by
 rw[h.eq]
 congr 1
 rcases he with e|e
 ·have hn:Ac.noB (s.drop f):=by
   have:=h.no
   rwa[List.take_of_length_le (by rw[List.length_drop];omega)]at this
  cases k-ls.length with
  | zero=>rfl
  | succ m=>show (match cutB (s.drop f) with|none=>[s.drop f]|some (a,b)=>a::words m b)=_;rw[Ac.cutB_none hn]
 ·rw[e,Nat.sub_self];rfl
theorem str_at{s:ByteArray}{i:Nat}(h:i<s.size):s.data.toList[i]?=some s[i]:=by
 rw[Array.getElem?_toList];exact Array.getElem?_eq_getElem h
theorem cut_ext{s:ByteArray}{f i:Nat}(h:f≤i):s.extract f i=⟨((s.data.toList.drop f).take (i-f)).toArray⟩:=by
 have k:=cut_text s f (i-f)
 rwa[show f+(i-f)=i by omega]at k
theorem acwords_b(s:ByteArray)(k:Nat)(w:World)(hs:s.size≤1000000)(hk:k≤1000):Calls Tryz.prog 23 #[.string s,.int .i64 ((k:Int)+1)] w (GiveTx w (words k s.data.toList)):=by
 have hk1:IntKind.i64.wrap ((k:Int)+1-1)=(k:Int):=(IntWalk.i64_in _ (by omega)).trans (by omega);have hsz:s.data.toList.length=s.size:=rfl;go_enter Tryz.func23,Tryz.ntmps23;have HO0:=zh (ownG_empty (enc:=encW) (k:=1) (e:=9) w (Nat.le_refl _));have HW0:Hid (Below w.heap.size w (w.alloc (.cells #[] 9))):=zh (Below.alloc (Below.refl _ _) (Nat.le_refl _) _);go_wp2_with fail
 go_loopw [5,6,7] (fun out fv iv wr=>∃ (i f:Nat) (ls:List (List UInt8)),iv=.int .i64 i∧fv=.int .i64 f∧Hid (Wst s.data.toList k i f ls)∧(∃ (q:Option Addr) (cq:Nat),out=.slice q ls.length cq∧Hid (OwnTx w.heap.size wr (.slice q ls.length cq) ls))∧Below w.heap.size w wr) (fun _ _ iv _=>s.size-(intOf iv).toNat)
 case atStart=>exact⟨0,0,[],rfl,rfl,zh (wst_0 _ _),⟨_,0,rfl,HO0⟩,HW0.out⟩
 case round =>
  clear HO0 HW0;obtain⟨i,f,ls,rfl,rfl,HS,⟨q,cq,rfl,HO⟩,hw⟩:=hrel;have hle:=HS.out.le;have hll:=HS.out.len;rw[hsz]at hle;by_cases hi:i<s.size
  ·have hii:(i:Int)<(s.size:Int):=by omega
   by_cases hl:ls.length<k
   ·have hli:(ls.length:Int)<(k:Int):=by omega
    have HC:=zh (str_at hi);by_cases hc:(s[i].toNat:Int)=32
    ·have h32:s[i]=32:=UInt8.toNat_inj.1 (by rw[show (32:UInt8).toNat=32 from rfl];omega);have HS2:=zh (wst_cut HS.out (by rw[HC.out,h32]) hl);have HX:=zh (cut_ext (s:=s) hle.1);have hfi:(f:Int)≤(i:Int):=by omega
     have hlen:ls.length≤3000000:=by omega
     clear h32;go_wp2_with (at_builtin;refine haltG ?_);show wpList _ _ _ _ _ _;refine wpList_append_G rfl _ _ 39 9 rfl Tryz.underlying39 txInfo rfl (by decide) (by decide) (fun _=>rfl) encW_one w.heap.size _ (ls) rfl (World.ownsRow.alloc (HO.out) _) ⟨wr.heap.size,0,none⟩ ((s.data.toList.drop f).take (i-f)) 1 rfl (rowsOne (enc:=encW) (k:=1) wr ((s.data.toList.drop f).take (i-f)) 9 _ (by first|rfl|(unfold encW;rw[←HX.out]))) (hlen) (Below.size (Below.alloc (hw) (Below.size (hw)) _)) ?_;intro v3 w3 ho hg hloc;have X3:Hid (OwnTx w.heap.size w3 v3 ((ls)++[(s.data.toList.drop f).take (i-f)])):=zh ho;have b3:Below w.heap.size w w3:=Below.grown (Below.alloc (hw) (Below.size (hw)) _) hg (Below.size (Below.alloc (hw) (Below.size (hw)) _)) fun j hj=>(World.ownsRow.lt (HO.out) j hj).1;clear ho hg hloc
     go_frame
     go_wp2_with fail;obtain⟨q3,c3,e3,_,_,_⟩:=ownG_rows (enc:=encW) (k:=1) (fun _=>rfl) X3.out;subst e3;go_roundw
     case rel=>exact⟨i+1,i+1,_,by go_num,by go_num,HS2,⟨q3,c3,rfl,X3⟩,b3⟩
     case measure=>simp[intOf];omega
    ·have HS2:=zh (wst_go HS.out HC.out (fun e=>hc (by rw[e];rfl)));go_wp2_with fail;go_roundw
     case rel=>exact⟨i+1,f,ls,by go_num,rfl,HS2,⟨q,cq,rfl,HO⟩,hw⟩
     case measure=>simp[intOf];omega
   ·have hli:¬(ls.length:Int)<(k:Int):=by omega
    have HE:=zh (wst_end HS.out (.inr (by omega)));have HX:=zh (cut_ext (s:=s) (f:=f) (i:=s.size) (by omega));have hfs:(f:Int)≤(s.size:Int):=by omega
    have hlen:ls.length≤3000000:=by omega
    have HD:Hid ((s.data.toList.drop f).take (s.size-f)=s.data.toList.drop f):=zh (List.take_of_length_le (by rw[List.length_drop,hsz];exact Nat.le_refl _));rw[HD.out]at HX;go_wp2_with (at_builtin;refine haltG ?_);show wpList _ _ _ _ _ _;refine wpList_append_G rfl _ _ 39 9 rfl Tryz.underlying39 txInfo rfl (by decide) (by decide) (fun _=>rfl) encW_one w.heap.size _ (ls) rfl (World.ownsRow.alloc (HO.out) _) ⟨wr.heap.size,0,none⟩ (s.data.toList.drop f) 1 rfl (rowsOne (enc:=encW) (k:=1) wr (s.data.toList.drop f) 9 _ (by first|rfl|(unfold encW;rw[←HX.out]))) (hlen) (Below.size (Below.alloc (hw) (Below.size (hw)) _)) ?_;intro v3 w3 ho hg hloc;have X3:Hid (OwnTx w.heap.size w3 v3 ((ls)++[s.data.toList.drop f])):=zh ho;have b3:Below w.heap.size w w3:=Below.grown (Below.alloc (hw) (Below.size (hw)) _) hg (Below.size (Below.alloc (hw) (Below.size (hw)) _)) fun j hj=>(World.ownsRow.lt (HO.out) j hj).1;clear ho hg hloc
    go_frame
    go_wp2_with fail;obtain⟨q3,c3,e3,hc3,hr3,_⟩:=ownG_rows (enc:=encW) (k:=1) (fun _=>rfl) X3.out;subst e3;refine bodyPost_ret (v:=.slice q3 (ls++[s.data.toList.drop f]).length c3) (by simp[results,Tryz.results23,go_sem, *]) rfl ?_;rw[HE.out];exact⟨⟨q3,c3,rfl,hc3,hr3⟩,b3⟩
  ·have hii:¬(i:Int)<(s.size:Int):=by omega
   have HE:=zh (wst_end HS.out (.inl (by rw[hsz];omega)));have HX:=zh (cut_ext (s:=s) (f:=f) (i:=s.size) (by omega));have hfs:(f:Int)≤(s.size:Int):=by omega
   have hlen:ls.length≤3000000:=by omega
   have HD:Hid ((s.data.toList.drop f).take (s.size-f)=s.data.toList.drop f):=zh (List.take_of_length_le (by rw[List.length_drop,hsz];exact Nat.le_refl _));rw[HD.out]at HX;go_wp2_with (at_builtin;refine haltG ?_);show wpList _ _ _ _ _ _;refine wpList_append_G rfl _ _ 39 9 rfl Tryz.underlying39 txInfo rfl (by decide) (by decide) (fun _=>rfl) encW_one w.heap.size _ (ls) rfl (World.ownsRow.alloc (HO.out) _) ⟨wr.heap.size,0,none⟩ (s.data.toList.drop f) 1 rfl (rowsOne (enc:=encW) (k:=1) wr (s.data.toList.drop f) 9 _ (by first|rfl|(unfold encW;rw[←HX.out]))) (hlen) (Below.size (Below.alloc (hw) (Below.size (hw)) _)) ?_;intro v3 w3 ho hg hloc;have X3:Hid (OwnTx w.heap.size w3 v3 ((ls)++[s.data.toList.drop f])):=zh ho;have b3:Below w.heap.size w w3:=Below.grown (Below.alloc (hw) (Below.size (hw)) _) hg (Below.size (Below.alloc (hw) (Below.size (hw)) _)) fun j hj=>(World.ownsRow.lt (HO.out) j hj).1;clear ho hg hloc
   go_frame
   go_wp2_with fail;obtain⟨q3,c3,e3,hc3,hr3,_⟩:=ownG_rows (enc:=encW) (k:=1) (fun _=>rfl) X3.out;subst e3;refine bodyPost_ret (v:=.slice q3 (ls++[s.data.toList.drop f]).length c3) (by simp[results,Tryz.results23,go_sem, *]) rfl ?_;rw[HE.out];exact⟨⟨q3,c3,rfl,hc3,hr3⟩,b3⟩
end Go.Proofs.YtcebkcilkhebeaaGreatDoor
