/- Own work. -/
import Derived.Test.YtcebkcilkhebeaaGreatDoorAllRefAM
set_option linter.unusedVariables false
set_option linter.unusedSimpArgs false
namespace Go.Proofs.YtcebkcilkhebeaaGreatDoor
namespace Wd
def isLet(c:UInt8):Bool:=decide (97≤c.toNat)&&decide (c.toNat≤122)
def isDig(c:UInt8):Bool:=decide (48≤c.toNat)&&decide (c.toNat≤57)
def isLD(c:UInt8):Bool:=isLet c||isDig c
def isSgn(c:UInt8):Bool:=c==43||c==45||c==42||c==47||c==40||c==41||c==44
def run(p:UInt8→Bool):List UInt8→Nat
 | []=>0
 | x::r=>if p x then run p r+1 else 0
def dotD:List UInt8→Bool
 | 46::d::_=>isDig d
 | _=>false
def numL(l:List UInt8):Nat:=if dotD (l.drop (run isDig l)) then run isDig l+1+run isDig (l.drop (run isDig l+1)) else run isDig l
def kl:List UInt8→Option (Nat×Nat)
 | []=>none
 | x::r =>
  if isLet x then (if run isLD (x::r)≤20 then some (0,run isLD (x::r)) else none)
  else if isDig x then (if numL (x::r)≤100 then some (1,numL (x::r)) else none)
  else if isSgn x then some (2,1) else none
structure Tk where
 kind:Nat
 text:List UInt8
 line:Nat
 col:Nat
theorem run_le(p:UInt8→Bool):∀l:List UInt8,run p l≤l.length
 | []=>Nat.le_refl _
 | x::r=>by
  have:=run_le p r;unfold run;split<;>simp only[List.length_cons]<;>omega
theorem run_pos{p:UInt8→Bool}{x:UInt8}{r:List UInt8}(h:p x=true):run p (x::r)=run p r+1:=by
 show (if p x then run p r+1 else 0)=_;rw[if_pos h]
theorem dot_head:∀ {u:List UInt8},dotD u=true→∃d r,u=46::d::r∧isDig d=true:=by
 intro u h;unfold dotD at h;split at h
 ·exact⟨_,_,rfl,h⟩
 ·cases h
theorem num_le(l:List UInt8):numL l≤l.length:=by
 have hle:=run_le isDig l;unfold numL;split
 ·rename_i h
  obtain⟨d,r,e,hd⟩:=dot_head h;have e2:l.drop (run isDig l+1)=d::r:=by rw[←List.drop_drop,e];rfl
  have k:=congrArg List.length e;rw[List.length_drop]at k;have k2:=run_le isDig (d::r);rw[e2];simp only[List.length_cons]at k k2;omega
 ·exact hle
theorem num_pos{x:UInt8}{r:List UInt8}(h:isDig x=true):1≤numL (x::r):=by
 have:=run_pos (r:=r) h;unfold numL;split<;>omega
theorem kl_cons(x:UInt8)(r:List UInt8):kl (x::r) =
  if isLet x then (if run isLD (x::r)≤20 then some (0,run isLD (x::r)) else none)
  else if isDig x then (if numL (x::r)≤100 then some (1,numL (x::r)) else none)
  else if isSgn x then some (2,1) else none:=rfl
theorem kl_len{l:List UInt8}{kd m:Nat}(h:kl l=some (kd,m)):1≤m∧m≤l.length:=by
 match l with
 | []=>cases h
 | x::r =>
  rw[kl_cons]at h;split at h
  ·rename_i hx
   split at h
   ·obtain⟨rfl,rfl⟩:=Prod.mk.inj (Option.some.inj h);exact⟨by rw[run_pos (by unfold isLD;rw[hx];rfl)];omega,run_le _ _⟩
   ·cases h
  ·split at h
   ·rename_i hx
    split at h
    ·obtain⟨rfl,rfl⟩:=Prod.mk.inj (Option.some.inj h);exact⟨num_pos hx,num_le _⟩
    ·cases h
   ·split at h
    ·obtain⟨rfl,rfl⟩:=Prod.mk.inj (Option.some.inj h);exact⟨Nat.le_refl _,by rw[List.length_cons];omega⟩
    ·cases h
def lexAt(l:List UInt8)(ln c:Nat):List Tk×Option (Nat×Nat) :=
 match l with
 | []=>([],none)
 | x::r =>
  if x=32 then lexAt r ln (c+1)
  else if x=10 then lexAt r (ln+1) 1
  else match h:kl (x::r) with
   | none=>([],some (ln,c))
   | some (kd,m)=>(Tk.mk kd ((x::r).take m) ln c::(lexAt ((x::r).drop m) ln (c+m)).1,(lexAt ((x::r).drop m) ln (c+m)).2)
termination_by l.length
decreasing_by
 all_goals simp_wf
 all_goals (try (have:=(kl_len h).1;omega))
def lexD(s:List UInt8):List Tk×Int×Nat×Nat :=
 if 20000<s.length then ([],90,1,1) else match (lexAt s 1 1).2 with
  | none=>((lexAt s 1 1).1,0,0,0)
  | some p=>([],90,p.1,p.2)
end Wd
end Go.Proofs.YtcebkcilkhebeaaGreatDoor
namespace Go.Proofs.YtcebkcilkhebeaaGreatDoor
open Go.RowKit
end Go.Proofs.YtcebkcilkhebeaaGreatDoor
namespace Go.Proofs.YtcebkcilkhebeaaGreatDoor
open Go.RowKit
end Go.Proofs.YtcebkcilkhebeaaGreatDoor
namespace Go.Proofs.YtcebkcilkhebeaaGreatDoor
open Go.RowKit
open Wd (Tk lexAt lexD)
end Go.Proofs.YtcebkcilkhebeaaGreatDoor
namespace Go.Proofs.YtcebkcilkhebeaaGreatDoor
open Go.RowKit
open Ac (oB rB cB assetB numB wordK mayA Actn leastC)
open Ac (words cutB)
def encW(x:List UInt8):List Value:=[.string ⟨x.toArray⟩]
theorem encW_one(x:List UInt8):∀v∈encW x,v.oneCell'=true:=fun v hv=>by
 unfold encW at hv;rw[List.mem_singleton.1 hv];rfl
theorem txInfo:(Tryz.prog.info? 9).map (fun i=>(i.zero,i.size,i.bytes))=some (some (.string ⟨#[]⟩),1,16):=by kernel_rfl
abbrev Txs(w:World)(p:Option Addr)(l:List (List UInt8)):Prop:=RowsG encW 1 w p l
abbrev OwnTx(B:Nat)(w:World)(v:Value)(l:List (List UInt8)):Prop:=OwnG encW 1 9 B w v l
theorem tx_rule{w:World}{p:Option Addr}{l:List (List UInt8)}(h:Txs w p l){k:Nat}{x:List UInt8}(hx:l[k]?=some x):∃b o,p=some ⟨b,o,none⟩∧∀v,Below w.heap.size w v→v.cell? ⟨b,o+k,none⟩=some (.string ⟨x.toArray⟩):=by
 obtain⟨b,o,hp,hl,c⟩:=h k x hx;refine⟨b,o,hp,fun v hb=>?_⟩;have:=c 0 _ rfl;rw[Nat.mul_one,Nat.add_zero]at this;exact(hb.cell (p:=⟨b,o+k,none⟩) hl).trans this
end Go.Proofs.YtcebkcilkhebeaaGreatDoor
