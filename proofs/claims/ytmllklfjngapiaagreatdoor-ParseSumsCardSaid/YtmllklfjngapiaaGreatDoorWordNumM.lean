/- Own work. -/
import Derived.Test.YtmllklfjngapiaaGreatDoorAllTmA
set_option linter.unusedVariables false
set_option maxRecDepth 100000
namespace Go.Proofs.YtmllklfjngapiaaGreatDoor
open Go.ChangeShapes Go.WideShapes Go.RowKit Go.Joins
section
variable {H : Type} {enc : TypeId × Value → H}
theorem lift_both{a:Assume}{C:Checked}{os:Os}{f:FuncId}{fn:Func}{s:ChangeSpec}{conds:List PathCond}{apart fresh handsOn again:Bool}{X:World→Array Value→Prop}
  (hX:∀ (w w':World) (args:Array Value),w.heap=w'.heap→X w args→X w' args)
  (own:ownKnob C.prog.godebug=none) (started:os.Started) (noInit:C.prog.inits.idxOf? f=none) (hfn:C.prog.funcs[f]?=some fn)
  (witness:∃ (w:World) (tape:Tape) (i:Input),w.os=os∧(w.forCall tape i).Shaped C.prog∧i.vars=[]∧Input.okWide C.prog (w.forCall tape i) .any w.heap.size f i ∧
   ((s.pre enc C.prog fn conds apart (w.forCall tape i).memory i.args∧X (w.forCall tape i).memory i.args)∧sizedMet enc C.prog fn (OpenSpec.ofChange s) apart (w.forCall tape i).memory i.args)∧a.holds C.prog (lone (Frame.enter C.prog f i.args .normal) [] (w.forCall tape i)))
  (contract:∀ (W:World) (base:Nat) (args:Array Value) (ds gs:List (DataW H)) (before:List MemPlace),
   (∀ (j:Nat) t v,fn.params[j]?=some t→args[j]?=some v→Value.okWide C.prog W .any base t v) →
   DataW.Whole enc C.prog fn.params.toList s.vars apart W args.toList ds gs before →
   (DataW.weightsEach C.prog (fn.params.toList++s.plain.varTypes C.prog) (ds++gs)).all (·≤reachBytes)=true→X W args→W.ShapedOpen C.prog →
   Calls C.prog f args W fun e W'=>∃v,e=.returned v∧s.post enc C.prog fn apart fresh handsOn again W args v W') :
  ReturnsInHanded a C os f .any (fun w args=>(s.pre enc C.prog fn conds apart w args∧X w args)∧sizedMet enc C.prog fn (OpenSpec.ofChange s) apart w args) (s.post enc C.prog fn apart fresh handsOn again):=by
 refine returnsInHanded_of_calls own started noInit witness ?_;intro w tape i _ hS _ hok hpre _;obtain⟨_,_,_,fn',hfn',_,_,_,_,hval⟩:=hok;obtain rfl:fn'=fn:=Option.some.inj (hfn'.symm.trans hfn);obtain⟨⟨⟨ds,gs,before,hw,_⟩,hx⟩,hz⟩:=hpre;refine(contract (w.forCall tape i) w.heap.size i.args ds gs before hval (DataW.Whole.of_heap (w':=w.forCall tape i) (by rfl) hw) (hz.weights hw) (hX _ _ _ (by rfl) hx) hS).mono fun e W' ⟨v,he,hp⟩=>?_;subst he;exact ChangeSpec.post_blind hp
end
theorem gAr : Tryz.prog.globalNamed "debenture/term.arities" = some 2 := by kernel_rfl
theorem gArType:(Tryz.prog.globals[2]?).map (·.type)=some 97:=by kernel_rfl
theorem cellsAr:Tryz.prog.cellsOf 97=13:=by kernel_rfl
theorem gWd : Tryz.prog.globalNamed "debenture/term.words" = some 3 := by kernel_rfl
theorem gWdType:(Tryz.prog.globals[3]?).map (·.type)=some 138:=by kernel_rfl
theorem cellsWd:Tryz.prog.cellsOf 138=13:=by kernel_rfl
theorem str_cell{W:World}{fuel:Nat}{a:Value}{l:List UInt8}{x:DataW Unit×List MemPlace}(h:DataW.trod (fun _=>()) Tryz.prog W 0 (fun _=>true) false fuel 9 [a]=some x)(hx:x.1=.lit (.string l)):a=.string ⟨l.toArray⟩:=by
 obtain⟨s,e0,rfl,_⟩:=DataW.trod_string Tryz.underlying9 h;have f0:[a]=[Value.string s]:=e0;simp only[DataW.lit.injEq,Lit.string.injEq]at hx;rw[List.cons.inj f0 |>.1,← hx]
theorem arities_of {r : List (String × DataW Unit)} {W : World} (hL : laidMet Tryz.prog (("debenture/term.arities", Rows.laid_debenture_term_arities) :: r) W) : ∀ (k : Nat) (x : Int), arL[k]? = some x → W.cell? ⟨2, k, none⟩ = some (.int .i64 x) := by
 have h : Lib.TabIs Tryz.prog W "debenture/term.arities" .i64 arL := Lib.tabIs_of_head (rest := r) gAr gArType Tryz.underlying97 Tryz.underlying3 cellsIntD cellsAr hL
 intro k x hx;have hk:k<arL.length:=(List.getElem?_eq_some_iff.1 hx).1;have e:=h.cell gAr k hk;rw[List.getD_eq_getElem?_getD,hx]at e;exact e
theorem words_of {r : List (String × DataW Unit)} {W : World} (hL : laidMet Tryz.prog (("debenture/term.words", Rows.laid_debenture_term_words) :: r) W) : ∀ (k : Nat) (x : List UInt8), wdL[k]? = some x → W.cell? ⟨3, k, none⟩ = some (.string ⟨x.toArray⟩) := by
 obtain⟨_,⟨g,t,cs,fuel,p,_,hg,ht,hv,hd,_,_⟩,_⟩:=hL;obtain rfl:=Option.some.inj (gWd.symm.trans hg);obtain rfl:=Option.some.inj (gWdType.symm.trans ht);obtain⟨xs,m,_,hx,hl,hxl,hi⟩:=DataW.trod_array Tryz.underlying138 hd;rw[cellsWd]at hl;have h0:=hi 0 (by decide);have h1:=hi 1 (by decide);have h2:=hi 2 (by decide);have h3:=hi 3 (by decide);have h4:=hi 4 (by decide);have h5:=hi 5 (by decide);have h6:=hi 6 (by decide);have h7:=hi 7 (by decide);have h8:=hi 8 (by decide);have h9:=hi 9 (by decide);have h10:=hi 10 (by decide);have h11:=hi 11 (by decide);have h12:=hi 12 (by decide);rw[show Tryz.prog.cellsOf _=1 from cellsStr]at h0 h1 h2 h3 h4 h5 h6 h7 h8 h9 h10 h11 h12;have hc:∀j,W.cell? ⟨3,j,none⟩=cs.toList[j]?:=fun j=>by
  rw[World.var?_cell gWd hv j,Array.getElem?_toList]
 generalize cs.toList=L at *
 match L,hl with
 | [a0,a1,a2,a3,a4,a5,a6,a7,a8,a9,a10,a11,a12],_ =>
  match xs,hxl with
  | [y0,y1,y2,y3,y4,y5,y6,y7,y8,y9,y10,y11,y12],_ =>
   have ha:=(Prod.mk.inj hx).1;have ha:Rows.laid_debenture_term_words=DataW.agg [y0.1,y1.1,y2.1,y3.1,y4.1,y5.1,y6.1,y7.1,y8.1,y9.1,y10.1,y11.1,y12.1]:=ha;unfold Rows.laid_debenture_term_words at ha;simp only[DataW.agg.injEq,List.cons.injEq,and_true]at ha;obtain⟨k0,k1,k2,k3,k4,k5,k6,k7,k8,k9,k10,k11,k12⟩:=ha;have u0:=str_cell h0 k0.symm;have u1:=str_cell h1 k1.symm;have u2:=str_cell h2 k2.symm;have u3:=str_cell h3 k3.symm;have u4:=str_cell h4 k4.symm;have u5:=str_cell h5 k5.symm;have u6:=str_cell h6 k6.symm;have u7:=str_cell h7 k7.symm;have u8:=str_cell h8 k8.symm;have u9:=str_cell h9 k9.symm;have u10:=str_cell h10 k10.symm;have u11:=str_cell h11 k11.symm;have u12:=str_cell h12 k12.symm;intro k x hx2;rw[hc]
   match k,hx2 with
   | 0,hx2=>rw[←Option.some.inj hx2];exact congrArg some u0
   | 1,hx2=>rw[←Option.some.inj hx2];exact congrArg some u1
   | 2,hx2=>rw[←Option.some.inj hx2];exact congrArg some u2
   | 3,hx2=>rw[←Option.some.inj hx2];exact congrArg some u3
   | 4,hx2=>rw[←Option.some.inj hx2];exact congrArg some u4
   | 5,hx2=>rw[←Option.some.inj hx2];exact congrArg some u5
   | 6,hx2=>rw[←Option.some.inj hx2];exact congrArg some u6
   | 7,hx2=>rw[←Option.some.inj hx2];exact congrArg some u7
   | 8,hx2=>rw[←Option.some.inj hx2];exact congrArg some u8
   | 9,hx2=>rw[←Option.some.inj hx2];exact congrArg some u9
   | 10,hx2=>rw[←Option.some.inj hx2];exact congrArg some u10
   | 11,hx2=>rw[←Option.some.inj hx2];exact congrArg some u11
   | 12,hx2=>rw[←Option.some.inj hx2];exact congrArg some u12
end Go.Proofs.YtmllklfjngapiaaGreatDoor
namespace Go.Proofs.YtmllklfjngapiaaGreatDoor
namespace Wd
def isLet(c:UInt8):Bool:=decide (97≤c.toNat)&&decide (c.toNat≤122)
def isDig(c:UInt8):Bool:=decide (48≤c.toNat)&&decide (c.toNat≤57)
def isLD(c:UInt8):Bool:=isLet c||isDig c
def isSgn(c:UInt8):Bool:=c==43||c==45||c==42||c==47||c==40||c==41||c==44
def run(p:UInt8→Bool):List UInt8→Nat
 | []=>0
 | x::r=>if p x then run p r+1 else 0
def dotD:List UInt8→Bool
 | 46::d::_=>isDig d
 | _=>false
def numL(l:List UInt8):Nat:=if dotD (l.drop (run isDig l)) then run isDig l+1+run isDig (l.drop (run isDig l+1)) else run isDig l
def kl:List UInt8→Option (Nat×Nat)
 | []=>none
 | x::r =>
  if isLet x then (if run isLD (x::r)≤20 then some (0,run isLD (x::r)) else none)
  else if isDig x then (if numL (x::r)≤100 then some (1,numL (x::r)) else none)
  else if isSgn x then some (2,1) else none
structure Tk where
 kind:Nat
 text:List UInt8
 line:Nat
 col:Nat
theorem run_le(p:UInt8→Bool):∀l:List UInt8,run p l≤l.length
 | []=>Nat.le_refl _
 | x::r=>by
  have:=run_le p r;unfold run;split<;>simp only[List.length_cons]<;>omega
theorem run_pos{p:UInt8→Bool}{x:UInt8}{r:List UInt8}(h:p x=true):run p (x::r)=run p r+1:=by
 show (if p x then run p r+1 else 0)=_;rw[if_pos h]
theorem run_take(p:UInt8→Bool):∀ (l:List UInt8) (m:Nat),run p (l.take m)=min m (run p l)
 | [],m=>by rw[List.take_nil];unfold run;omega
 | x::r,0=>by rw[List.take_zero];unfold run;omega
 | x::r,m+1=>by
  rw[List.take_succ_cons];unfold run;split
  ·rw[run_take p r m];omega
  ·omega
theorem dot_no{a:UInt8}(h:¬a=46)(q:List UInt8):dotD (a::q)=false:=by
 unfold dotD;split
 ·rename_i e;exact absurd (List.cons.inj e).1 h
 ·rfl
theorem dot_head:∀ {u:List UInt8},dotD u=true→∃d r,u=46::d::r∧isDig d=true:=by
 intro u h;unfold dotD at h;split at h
 ·exact⟨_,_,rfl,h⟩
 ·cases h
theorem num_le(l:List UInt8):numL l≤l.length:=by
 have hle:=run_le isDig l;unfold numL;split
 ·rename_i h
  obtain⟨d,r,e,hd⟩:=dot_head h;have e2:l.drop (run isDig l+1)=d::r:=by rw[←List.drop_drop,e];rfl
  have k:=congrArg List.length e;rw[List.length_drop]at k;have k2:=run_le isDig (d::r);rw[e2];simp only[List.length_cons]at k k2;omega
 ·exact hle
theorem num_pos{x:UInt8}{r:List UInt8}(h:isDig x=true):1≤numL (x::r):=by
 have:=run_pos (r:=r) h;unfold numL;split<;>omega
theorem num_take(l:List UInt8):numL (l.take (numL l))=numL l:=by
 have hle:=run_le isDig l
 cases hd:dotD (l.drop (run isDig l)) with
 | false =>
  have e:numL l=run isDig l:=by unfold numL;rw[hd];rfl
  rw[e];have e1:run isDig (l.take (run isDig l))=run isDig l:=by rw[run_take];omega
  unfold numL;rw[e1,List.drop_of_length_le (by rw[List.length_take];omega)]
  rfl
 | true =>
  have e:numL l=run isDig l+1+run isDig (l.drop (run isDig l+1)):=by unfold numL;rw[hd];rfl
  obtain⟨d,r,eu,hdd⟩:=dot_head hd;have e2:l.drop (run isDig l+1)=d::r:=by rw[←List.drop_drop,eu];rfl
  have hj:1≤run isDig (d::r):=by rw[run_pos hdd];omega
  rw[e];have e1:run isDig (l.take (run isDig l+1+run isDig (l.drop (run isDig l+1))))=run isDig l:=by rw[run_take];omega
  have e3:(l.take (run isDig l+1+run isDig (l.drop (run isDig l+1)))).drop (run isDig l)=46::(d::r).take (run isDig (d::r)):=by
   rw[List.drop_take,eu,e2,show run isDig l+1+run isDig (d::r)-run isDig l=run isDig (d::r)+1 by omega]
   rfl
  have e4:(l.take (run isDig l+1+run isDig (l.drop (run isDig l+1)))).drop (run isDig l+1)=(d::r).take (run isDig (d::r)):=by
   rw[←List.drop_drop,e3];rfl
  have e5:(d::r).take (run isDig (d::r))=d::r.take (run isDig r):=by rw[run_pos hdd];rfl
  have e6:dotD (46::d::r.take (run isDig r))=true:=hdd;have e7:run isDig ((d::r).take (run isDig (d::r)))=run isDig (d::r):=by rw[run_take];omega
  rw[show numL (l.take (run isDig l+1+run isDig (l.drop (run isDig l+1))))=if dotD ((l.take (run isDig l+1+run isDig (l.drop (run isDig l+1)))).drop (run isDig (l.take (run isDig l+1+run isDig (l.drop (run isDig l+1)))))) then run isDig (l.take (run isDig l+1+run isDig (l.drop (run isDig l+1))))+1+run isDig ((l.take (run isDig l+1+run isDig (l.drop (run isDig l+1)))).drop (run isDig (l.take (run isDig l+1+run isDig (l.drop (run isDig l+1))))+1)) else run isDig (l.take (run isDig l+1+run isDig (l.drop (run isDig l+1)))) from rfl];rw[e1,e3,e4,e5,e6,← e5,e7,e2]
  rfl
theorem kl_cons(x:UInt8)(r:List UInt8):kl (x::r) =
  if isLet x then (if run isLD (x::r)≤20 then some (0,run isLD (x::r)) else none)
  else if isDig x then (if numL (x::r)≤100 then some (1,numL (x::r)) else none)
  else if isSgn x then some (2,1) else none:=rfl
theorem kl_len{l:List UInt8}{kd m:Nat}(h:kl l=some (kd,m)):1≤m∧m≤l.length:=by
 match l with
 | []=>cases h
 | x::r =>
  rw[kl_cons]at h;split at h
  ·rename_i hx
   split at h
   ·obtain⟨rfl,rfl⟩:=Prod.mk.inj (Option.some.inj h);exact⟨by rw[run_pos (by unfold isLD;rw[hx];rfl)];omega,run_le _ _⟩
   ·cases h
  ·split at h
   ·rename_i hx
    split at h
    ·obtain⟨rfl,rfl⟩:=Prod.mk.inj (Option.some.inj h);exact⟨num_pos hx,num_le _⟩
    ·cases h
   ·split at h
    ·obtain⟨rfl,rfl⟩:=Prod.mk.inj (Option.some.inj h);exact⟨Nat.le_refl _,by rw[List.length_cons];omega⟩
    ·cases h
theorem kl_take{l:List UInt8}{kd m:Nat}(h:kl l=some (kd,m)):kl (l.take m)=some (kd,m):=by
 obtain⟨h1,h2⟩:=kl_len h
 match l,m,h1 with
 | [],_,_=>cases h
 | x::r,m+1,_ =>
  have ht:(x::r).take (m+1)=x::r.take m:=rfl;have hn:=num_take (x::r);have hr:=run_take isLD (x::r) (m+1);rw[ht]at hr ⊢;rw[kl_cons]at h ⊢;split at h
  ·rename_i hx
   rw[if_pos hx];split at h
   ·rename_i hle
    obtain⟨rfl,e⟩:=Prod.mk.inj (Option.some.inj h);rw[hr,e,Nat.min_self,if_pos (by omega)]
   ·cases h
  ·rename_i hx
   rw[if_neg hx];split at h
   ·rename_i hx2
    rw[if_pos hx2];split at h
    ·obtain⟨rfl,e⟩:=Prod.mk.inj (Option.some.inj h);rw[e,ht]at hn;rw[hn,if_pos (by omega)]
    ·cases h
   ·rename_i hx2
    rw[if_neg hx2];split at h
    ·rename_i hx3
     rw[if_pos hx3];exact h
    ·cases h
def lexAt(l:List UInt8)(ln c:Nat):List Tk×Option (Nat×Nat) :=
 match l with
 | []=>([],none)
 | x::r =>
  if x=32 then lexAt r ln (c+1)
  else if x=10 then lexAt r (ln+1) 1
  else match h:kl (x::r) with
   | none=>([],some (ln,c))
   | some (kd,m)=>(Tk.mk kd ((x::r).take m) ln c::(lexAt ((x::r).drop m) ln (c+m)).1,(lexAt ((x::r).drop m) ln (c+m)).2)
termination_by l.length
decreasing_by
 all_goals simp_wf
 all_goals (try (have:=(kl_len h).1;omega))
theorem lex_nil(ln c:Nat):lexAt [] ln c=([],none):=by unfold lexAt;rfl
theorem lex_blank(r:List UInt8)(ln c:Nat):lexAt (32::r) ln c=lexAt r ln (c+1):=by rw[lexAt];rfl
theorem lex_line(r:List UInt8)(ln c:Nat):lexAt (10::r) ln c=lexAt r (ln+1) 1:=by rw[lexAt];rfl
theorem lex_bad{x:UInt8}{r:List UInt8}(ln c:Nat)(h1:x≠32)(h2:x≠10)(h:kl (x::r)=none):lexAt (x::r) ln c=([],some (ln,c)):=by
 rw[lexAt,if_neg h1,if_neg h2];split
 ·rfl
 ·rename_i e;rw[h]at e;cases e
theorem lex_tok{x:UInt8}{r:List UInt8}{kd m:Nat}(ln c:Nat)(h1:x≠32)(h2:x≠10)(h:kl (x::r)=some (kd,m)):lexAt (x::r) ln c=(Tk.mk kd ((x::r).take m) ln c::(lexAt ((x::r).drop m) ln (c+m)).1,(lexAt ((x::r).drop m) ln (c+m)).2):=by
 rw[lexAt,if_neg h1,if_neg h2];split
 ·rename_i e;rw[h]at e;cases e
 ·rename_i k m' e
  rw[h]at e;obtain⟨rfl,rfl⟩:=Prod.mk.inj (Option.some.inj e)
  rfl
theorem lex_ind{M:List UInt8→Prop}(h0:M [])(h1:∀r,M r→M (32::r))(h2:∀r,M r→M (10::r))(h3:∀x r,x≠32→x≠10→kl (x::r)=none→M (x::r))
  (h4:∀x r kd m,x≠32→x≠10→kl (x::r)=some (kd,m)→M ((x::r).drop m)→M (x::r)):∀l,M l:=by
 have key:∀n (l:List UInt8),l.length≤n→M l:=by
  intro n
  induction n with
  | zero=>intro l hl;obtain rfl:=List.length_eq_zero_iff.1 (Nat.le_zero.1 hl);exact h0
  | succ n ih =>
   intro l hl
   match l with
   | []=>exact h0
   | x::r =>
    rw[List.length_cons]at hl;by_cases e1:x=32
    ·subst e1;exact h1 r (ih r (by omega))
    by_cases e2:x=10
    ·subst e2;exact h2 r (ih r (by omega))
    cases e:kl (x::r) with
    | none=>exact h3 x r e1 e2 e
    | some km =>
     obtain⟨kd,m⟩:=km;have:=(kl_len e).1;exact h4 x r kd m e1 e2 e (ih _ (by rw[List.length_drop,List.length_cons];omega))
 exact fun l=>key l.length l (Nat.le_refl _)
def ktT(t:Tk):Nat×List UInt8:=(t.kind,t.text)
def okT(k:Nat×List UInt8):Prop:=∃x r,k.2=x::r∧x≠32∧x≠10∧kl k.2=some (k.1,k.2.length)
theorem lex_ok:∀ (l:List UInt8) (ln c:Nat),∀t∈(lexAt l ln c).1,okT (ktT t):=by
 refine lex_ind (fun ln c t h=>?_) (fun r ih ln c=>?_) (fun r ih ln c=>?_) (fun x r e1 e2 e ln c t h=>?_) (fun x r kd m e1 e2 e ih ln c t h=>?_)
 ·rw[lex_nil]at h;cases h
 ·rw[lex_blank];exact ih ln (c+1)
 ·rw[lex_line];exact ih (ln+1) 1
 ·rw[lex_bad ln c e1 e2 e]at h;cases h
 ·rw[lex_tok ln c e1 e2 e]at h;rcases List.mem_cons.1 h with rfl|h
  ·obtain⟨h1,h2⟩:=kl_len e;obtain⟨n,rfl⟩:∃n,m=n+1:=⟨m-1,by omega⟩;refine⟨x,r.take n,rfl,e1,e2,?_⟩;show kl ((x::r).take (n+1))=some (kd,((x::r).take (n+1)).length);rw[kl_take e,List.length_take,Nat.min_eq_left h2]
  ·exact ih ln (c+m) t h
def printT:List (List UInt8)→List UInt8
 | []=>[]
 | [x]=>x
 | x::y::r=>x++32::printT (y::r)
def lexD(s:List UInt8):List Tk×Int×Nat×Nat :=
 if 20000<s.length then ([],90,1,1) else match (lexAt s 1 1).2 with
  | none=>((lexAt s 1 1).1,0,0,0)
  | some p=>([],90,p.1,p.2)
end Wd
end Go.Proofs.YtmllklfjngapiaaGreatDoor
