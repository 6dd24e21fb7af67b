/- Own work. -/
import Derived.Test.YtghioekjghmdaaaGreatDoorAllTmA
import Derived.Deep.Slices
import Derived.Deep.Strs
import Derived.SizedLaws
import Derived.Carry
set_option linter.unusedSimpArgs false
set_option linter.unusedVariables false
set_option maxRecDepth 100000
namespace Go.Proofs.YtghioekjghmdaaaGreatDoor
open Go.ChangeShapes Go.WideShapes Go.RowKit Go.Joins
section
variable {H : Type} {enc : TypeId × Value → H}
theorem lift_both{a:Assume}{C:Checked}{os:Os}{f:FuncId}{fn:Func}{s:ChangeSpec}{conds:List PathCond}{apart fresh handsOn again:Bool}{X:World→Array Value→Prop}
  (hX:∀ (w w':World) (args:Array Value),w.heap=w'.heap→X w args→X w' args)
  (own:ownKnob C.prog.godebug=none) (started:os.Started) (noInit:C.prog.inits.idxOf? f=none) (hfn:C.prog.funcs[f]?=some fn)
  (witness:∃ (w:World) (tape:Tape) (i:Input),w.os=os∧(w.forCall tape i).Shaped C.prog∧i.vars=[]∧Input.okWide C.prog (w.forCall tape i) .any w.heap.size f i ∧
   ((s.pre enc C.prog fn conds apart (w.forCall tape i).memory i.args∧X (w.forCall tape i).memory i.args)∧sizedMet enc C.prog fn (OpenSpec.ofChange s) apart (w.forCall tape i).memory i.args)∧a.holds C.prog (lone (Frame.enter C.prog f i.args .normal) [] (w.forCall tape i)))
  (contract:∀ (W:World) (base:Nat) (args:Array Value) (ds gs:List (DataW H)) (before:List MemPlace),
   (∀ (j:Nat) t v,fn.params[j]?=some t→args[j]?=some v→Value.okWide C.prog W .any base t v) →
   DataW.Whole enc C.prog fn.params.toList s.vars apart W args.toList ds gs before →
   (DataW.weightsEach C.prog (fn.params.toList++s.plain.varTypes C.prog) (ds++gs)).all (·≤reachBytes)=true→X W args→W.ShapedOpen C.prog →
   Calls C.prog f args W fun e W'=>∃v,e=.returned v∧s.post enc C.prog fn apart fresh handsOn again W args v W') :
  ReturnsInHanded a C os f .any (fun w args=>(s.pre enc C.prog fn conds apart w args∧X w args)∧sizedMet enc C.prog fn (OpenSpec.ofChange s) apart w args) (s.post enc C.prog fn apart fresh handsOn again):=by
 refine returnsInHanded_of_calls own started noInit witness ?_;intro w tape i _ hS _ hok hpre _;obtain⟨_,_,_,fn',hfn',_,_,_,_,hval⟩:=hok;obtain rfl:fn'=fn:=Option.some.inj (hfn'.symm.trans hfn);obtain⟨⟨⟨ds,gs,before,hw,_⟩,hx⟩,hz⟩:=hpre;refine(contract (w.forCall tape i) w.heap.size i.args ds gs before hval (DataW.Whole.of_heap (w':=w.forCall tape i) (by rfl) hw) (hz.weights hw) (hX _ _ _ (by rfl) hx) hS).mono fun e W' ⟨v,he,hp⟩=>?_;subst he;exact ChangeSpec.post_blind hp
end
theorem gAr : Tryz.prog.globalNamed "debenture/term.arities" = some 0 := by kernel_rfl
theorem gArType:(Tryz.prog.globals[0]?).map (·.type)=some 84:=by kernel_rfl
theorem cellsAr:Tryz.prog.cellsOf 84=13:=by kernel_rfl
theorem gWd : Tryz.prog.globalNamed "debenture/term.words" = some 1 := by kernel_rfl
theorem gWdType:(Tryz.prog.globals[1]?).map (·.type)=some 122:=by kernel_rfl
theorem cellsWd:Tryz.prog.cellsOf 122=13:=by kernel_rfl
theorem str_cell{W:World}{fuel:Nat}{a:Value}{l:List UInt8}{x:DataW Unit×List MemPlace}(h:DataW.trod (fun _=>()) Tryz.prog W 0 (fun _=>true) false fuel 9 [a]=some x)(hx:x.1=.lit (.string l)):a=.string ⟨l.toArray⟩:=by
 obtain⟨s,e0,rfl,_⟩:=DataW.trod_string Tryz.underlying9 h;have f0:[a]=[Value.string s]:=e0;simp only[DataW.lit.injEq,Lit.string.injEq]at hx;rw[List.cons.inj f0 |>.1,← hx]
theorem arities_of {r : List (String × DataW Unit)} {W : World} (hL : laidMet Tryz.prog (("debenture/term.arities", Rows.laid_debenture_term_arities) :: r) W) : ∀ (k : Nat) (x : Int), arL[k]? = some x → W.cell? ⟨0, k, none⟩ = some (.int .i64 x) := by
 have h : Lib.TabIs Tryz.prog W "debenture/term.arities" .i64 arL := Lib.tabIs_of_head (rest := r) gAr gArType Tryz.underlying84 Tryz.underlying3 cellsIntD cellsAr hL
 intro k x hx;have hk:k<arL.length:=(List.getElem?_eq_some_iff.1 hx).1;have e:=h.cell gAr k hk;rw[List.getD_eq_getElem?_getD,hx]at e;exact e
theorem words_of {r : List (String × DataW Unit)} {W : World} (hL : laidMet Tryz.prog (("debenture/term.words", Rows.laid_debenture_term_words) :: r) W) : ∀ (k : Nat) (x : List UInt8), wdL[k]? = some x → W.cell? ⟨1, k, none⟩ = some (.string ⟨x.toArray⟩) := by
 obtain⟨_,⟨g,t,cs,fuel,p,_,hg,ht,hv,hd,_,_⟩,_⟩:=hL;obtain rfl:=Option.some.inj (gWd.symm.trans hg);obtain rfl:=Option.some.inj (gWdType.symm.trans ht);obtain⟨xs,m,_,hx,hl,hxl,hi⟩:=DataW.trod_array Tryz.underlying122 hd;rw[cellsWd]at hl;have h0:=hi 0 (by decide);have h1:=hi 1 (by decide);have h2:=hi 2 (by decide);have h3:=hi 3 (by decide);have h4:=hi 4 (by decide);have h5:=hi 5 (by decide);have h6:=hi 6 (by decide);have h7:=hi 7 (by decide);have h8:=hi 8 (by decide);have h9:=hi 9 (by decide);have h10:=hi 10 (by decide);have h11:=hi 11 (by decide);have h12:=hi 12 (by decide);rw[show Tryz.prog.cellsOf _=1 from cellsStr]at h0 h1 h2 h3 h4 h5 h6 h7 h8 h9 h10 h11 h12;have hc:∀j,W.cell? ⟨1,j,none⟩=cs.toList[j]?:=fun j=>by
  rw[World.var?_cell gWd hv j,Array.getElem?_toList]
 generalize cs.toList=L at *
 match L,hl with
 | [a0,a1,a2,a3,a4,a5,a6,a7,a8,a9,a10,a11,a12],_ =>
  match xs,hxl with
  | [y0,y1,y2,y3,y4,y5,y6,y7,y8,y9,y10,y11,y12],_ =>
   have ha:=(Prod.mk.inj hx).1;have ha:Rows.laid_debenture_term_words=DataW.agg [y0.1,y1.1,y2.1,y3.1,y4.1,y5.1,y6.1,y7.1,y8.1,y9.1,y10.1,y11.1,y12.1]:=ha;unfold Rows.laid_debenture_term_words at ha;simp only[DataW.agg.injEq,List.cons.injEq,and_true]at ha;obtain⟨k0,k1,k2,k3,k4,k5,k6,k7,k8,k9,k10,k11,k12⟩:=ha;have u0:=str_cell h0 k0.symm;have u1:=str_cell h1 k1.symm;have u2:=str_cell h2 k2.symm;have u3:=str_cell h3 k3.symm;have u4:=str_cell h4 k4.symm;have u5:=str_cell h5 k5.symm;have u6:=str_cell h6 k6.symm;have u7:=str_cell h7 k7.symm;have u8:=str_cell h8 k8.symm;have u9:=str_cell h9 k9.symm;have u10:=str_cell h10 k10.symm;have u11:=str_cell h11 k11.symm;have u12:=str_cell h12 k12.symm;intro k x hx2;rw[hc]
   match k,hx2 with
   | 0,hx2=>rw[←Option.some.inj hx2];exact congrArg some u0
   | 1,hx2=>rw[←Option.some.inj hx2];exact congrArg some u1
   | 2,hx2=>rw[←Option.some.inj hx2];exact congrArg some u2
   | 3,hx2=>rw[←Option.some.inj hx2];exact congrArg some u3
   | 4,hx2=>rw[←Option.some.inj hx2];exact congrArg some u4
   | 5,hx2=>rw[←Option.some.inj hx2];exact congrArg some u5
   | 6,hx2=>rw[←Option.some.inj hx2];exact congrArg some u6
   | 7,hx2=>rw[←Option.some.inj hx2];exact congrArg some u7
   | 8,hx2=>rw[←Option.some.inj hx2];exact congrArg some u8
   | 9,hx2=>rw[←Option.some.inj hx2];exact congrArg some u9
   | 10,hx2=>rw[←Option.some.inj hx2];exact congrArg some u10
   | 11,hx2=>rw[←Option.some.inj hx2];exact congrArg some u11
   | 12,hx2=>rw[←Option.some.inj hx2];exact congrArg some u12
theorem goodX_of {x0 x1 x3 : String × DataW Unit} {r : List (String × DataW Unit)} {W : World} (hL : laidMet Tryz.prog (x0 :: x1 :: ("internal/strconv.uint64pow10", Rows.laid_internal_strconv_uint64pow10) :: x3 :: ("debenture/decimal.powers", Rows.laid_debenture_decimal_powers) :: ("debenture/term.arities", Rows.laid_debenture_term_arities) :: ("debenture/term.words", Rows.laid_debenture_term_words) :: r) W) (hS : W.ShapedOpen Tryz.prog) : GoodX W :=
 ⟨goodT_of hL,goodD_of hL.tail.tail.tail hS,arities_of hL.tail.tail.tail.tail.tail,words_of hL.tail.tail.tail.tail.tail.tail⟩
end Go.Proofs.YtghioekjghmdaaaGreatDoor
set_option maxRecDepth 100000
namespace Go.Proofs.YtghioekjghmdaaaGreatDoor
open Go.ChangeShapes Go.WideShapes Go.RowKit Go.Joins Go.Deep
section
variable {H : Type} {enc : TypeId × Value → H} {w : World} {base : Nat} {sp : Nat → Bool} {held : Bool}
theorem laidOutT:laidOutB Tryz.prog=true:=by kernel_rfl
theorem str_list(s:ByteArray):Value.string s=.string ⟨s.data.toList.toArray⟩:=by rw[Array.toArray_toList]
theorem cellsInt:Tryz.prog.cellsOf 3=1:=by kernel_rfl
theorem one_int{n:Nat}{c:Value}{y:DataW H×List MemPlace}(h:DataW.trod enc Tryz.prog w base sp held n 3 [c]=some y):∃k:Int,c=.int .i64 k:=by
 obtain⟨k,e,_,_⟩:=DataW.trod_int Tryz.underlying3 h;exact⟨k,(List.cons.inj e).1⟩
theorem one_str{n:Nat}{c:Value}{y:DataW H×List MemPlace}(h:DataW.trod enc Tryz.prog w base sp held n 9 [c]=some y):∃k:List UInt8,c=.string ⟨k.toArray⟩:=by
 obtain⟨s,e,_,_⟩:=DataW.trod_string Tryz.underlying9 h;exact⟨s.data.toList,by rw[(List.cons.inj e).1,str_list]⟩
theorem one_rat{n:Nat}{c c':Value}{y:DataW H×List MemPlace}(h:DataW.trod enc Tryz.prog w base sp held n 28 [c,c']=some y):∃k:List UInt8×List UInt8,c=.string ⟨k.1.toArray⟩∧c'=.string ⟨k.2.toArray⟩:=by
 obtain⟨u0,u1,k,_,_,g0,g1⟩:=trod_struct2 Tryz.underlying28 h;rw[show Tryz.prog.cellsOf _=1 from cellsStr]at g0 g1;obtain⟨a,rfl⟩:=one_str g0;obtain⟨b,rfl⟩:=one_str g1;exact⟨(a,b),rfl,rfl⟩
end
end Go.Proofs.YtghioekjghmdaaaGreatDoor
namespace Go.Proofs.YtghioekjghmdaaaGreatDoor
namespace Tm
theorem of_len{n:Int}(h0:0≤n)(h:n≤9999):(ofS n).length≤4:=by
 rw[ofS_pos h0];exact dig_length (by decide) (by omega)
theorem name_len{l:List UInt8}(h:isName l=true):l.length≤20:=by
 unfold isName at h;simp only[Bool.and_eq_true,decide_eq_true_eq]at h;omega
theorem body_len{k N:Nat}(hk:k≤20)(hN:(dig N).length≤80):(bodyD k (dig N)).length≤101:=by
 unfold bodyD;split
 ·omega
 ·unfold ptD padD;simp only[List.length_append,List.length_take,List.length_cons,List.length_drop,List.length_replicate];omega
theorem abs_num{q:Key}(hr:isR q=true):absW q.1=dig (valR q).num.natAbs:=by
 unfold absW;rw[if_pos (isR_w hr).1,valR_num hr]
theorem w_len{l:List UInt8}(h:isW l=true):l.length≤(absW l).length+1:=by
 unfold absW;rw[if_pos h];rcases isW_cases h with ⟨k,e⟩|⟨r,e,k,_,e2⟩
 ·rw[e,Int.natAbs_natCast,dig_valS k];exact Nat.le_succ _
 ·rw[e2,Int.natAbs_neg,Int.natAbs_natCast,dig_valS k,e,List.length_cons];exact Nat.le_refl _
theorem numP_len{q:Key}(hr:isR q=true)(h1:(absW q.1).length≤60)(h2:q.2.length≤60):(numP q).length≤140:=by
 have hl:=w_len (isR_w hr).1;have h3:=h1;rw[abs_num hr]at h3;unfold numP;split
 ·next hd =>
  obtain⟨_,⟨k,hk,hk2⟩,h0⟩:=dec_q hd;rw[prS_yes hr,prD_body hk,show decide ((valR q).num<0)=false from decide_eq_false (by omega)];show (bodyD k _).length≤140;have hN:(dig ((valR q).num.natAbs*(10 ^ k / (valR q).den))).length≤80:=by
   by_cases k0:k=0
   ·subst k0;have hq:(10 ^ 0 / (valR q).den)≤1:=Nat.div_le_self _ _;have h4:(valR q).num.natAbs*(10 ^ 0 / (valR q).den)≤(valR q).num.natAbs:=by
     have:=Nat.mul_le_mul_left (valR q).num.natAbs hq
     rwa[Nat.mul_one]at this
    exact Nat.le_trans (dig_len_le h4) (by omega)
   ·exact Nat.le_trans (prod_len (Nat.pos_of_ne_zero k0) (Nat.div_le_self _ _)) (by omega)
  exact Nat.le_trans (body_len hk2 hN) (by decide)
 ·simp only[numH,List.length_append,List.length_cons,List.length_nil];omega
theorem leafH_len(op:Int):(leafH op).length≤4:=by
 unfold leafH;split
 ·exact Nat.le_refl _
 ·split<;>decide
theorem leaf_len{x:Nd}(h:okN x=true)(h0:arN x.op=some 0):(leafP x).length≤140:=by
 unfold okN at h;unfold leafP;rcases ops0 h0 with e|e|e|e|e
 ·rw[if_pos e]at h ⊢;simp only[Bool.and_eq_true,decide_eq_true_eq]at h;exact numP_len h.2.1 h.2.2.1 h.2.2.2
 ·rw[if_neg (by omega),if_pos e]at h ⊢;simp only[Bool.and_eq_true,decide_eq_true_eq,astB]at h;have:=name_len h.2.1.1;have:=of_len h.2.2.1 h.2.2.2;simp only[List.length_append,List.length_cons,List.length_nil];omega
 all_goals
  rw[if_neg (by omega),if_neg (by omega),if_pos (by omega)]at h;rw[if_neg (by omega),if_neg (by omega)];simp only[Bool.and_eq_true,decide_eq_true_eq,astB]at h;have:=name_len h.2.1.1;have ha:=h.2.2.1;have hb:=h.2.2.2.1;have hab:=h.2.2.2.2.1;have:=of_len ha (by omega);have:=of_len (n:=x.b) (by omega) hb;have hf:=leafH_len x.op;simp only[List.length_append,List.length_cons,List.length_nil];omega
theorem fnH_len(op:Int):(fnH op).length≤4:=by
 unfold fnH;split
 ·exact Nat.le_refl _
 ·split<;>decide
theorem pr_len:∀ {t:Tr},t.wf→okT t→(pr t).length≤140*t.flat.length
 | .t0 x,hw,ho=>by
  rw[pr0];exact leaf_len (ok_t0 ho) hw
 | .t1 x a,hw,ho=>by
  obtain⟨h1,h2⟩:=ok_t1 ho;have ih:=pr_len hw.2 h2;rw[pr1 (ops1 hw.1)];simp only[Tr.flat,List.length_append,List.length_cons,List.length_nil];omega
 | .t2 x a b,hw,ho=>by
  obtain⟨h1,h2,h3⟩:=ok_t2 ho;have iha:=pr_len hw.2.1 h2;have ihb:=pr_len hw.2.2 h3;have hf:=fnH_len x.op;by_cases h9:x.op≤9
  ·rw[pr2 (by rcases ops2 hw.1 with e|e|e|e|e|e<;>omega) h9];simp only[Tr.flat,List.length_append,List.length_cons,List.length_nil];omega
  ·rw[pr2f (by omega)];simp only[Tr.flat,List.length_append,List.length_cons,List.length_nil];omega
 | .t3 x a b c,hw,ho=>by
  obtain⟨h1,h2,h3,h4⟩:=ok_t3 ho;have iha:=pr_len hw.2.1 h2;have ihb:=pr_len hw.2.2.1 h3;have ihc:=pr_len hw.2.2.2 h4;rw[pr3 (ops3 hw.1)];simp only[Tr.flat,List.length_append,List.length_cons,List.length_nil];omega
def ps(st:List Tr):List (List UInt8):=st.map pr
theorem ps_len(st:List Tr):(ps st).length=st.length:=List.length_map ..
theorem pr_mk{x:Nd}{l:List Tr}(h:l.length≤3):pr (mkT x l)=if l=[] then leafP x else aboveP x.op (ps l):=by
 have k:pr (mkT x l)=prF x (ps l):=fold_mk prF h;rw[k];unfold prF;by_cases e:l=[]
 ·subst e;rfl
 ·rw[if_neg e];exact if_neg (fun c=>e (List.map_eq_nil_iff.1 c))
theorem print_yes{t:List Nd}{tr:Tr}(h:formB t=true)(ht:treeOf t=some tr)(ho:∀x∈t,okN x=true):printT t=pr tr:=by
 unfold printT;rw[ht];dsimp only;rw[if_pos];rw[h,List.all_eq_true.2 ho];rfl
theorem print_form{t:List Nd}(h:formB t=false):printT t=[]:=by
 unfold printT;split
 ·rw[h];rfl
 ·rfl
theorem print_bad{t:List Nd}{i:Nat}{x:Nd}(hx:t[i]?=some x)(h:okN x=false):printT t=[]:=by
 unfold printT;split
 ·rw[if_neg];intro k;simp only[Bool.and_eq_true,List.all_eq_true]at k;rw[k.2 x (List.mem_of_getElem? hx)]at h
  cases h
 ·rfl
theorem stk_ok{t:List Nd}{i:Nat}{st:List Tr}(h:stk t i=some st)(ho:∀j x,j<i→t[j]?=some x→okN x=true):∀s∈st,s.wf∧okT s:=fun s hs=>by
 obtain⟨h1,h2⟩:=stk_flat h;refine⟨h2 s hs,fun x hx=>?_⟩;have hm:x∈t.take i:=by
  rw[←h1];exact List.mem_flatten.2 ⟨s.flat,List.mem_map.2 ⟨s,hs,rfl⟩,hx⟩
 obtain⟨j,hj⟩:=List.getElem?_of_mem hm;rw[List.getElem?_take]at hj;split at hj
 ·next hlt=>exact ho j x hlt hj
 ·cases hj
end Tm
namespace Tm
theorem print_ne{t:List Nd}(h:printT t≠[]):∃tr:Tr,treeOf t=some tr∧tr.wf∧tr.flat=t∧okT tr∧printT t=pr tr:=by
 have hf:formB t=true:=by
  cases e:formB t with
  | true=>rfl
  | false=>exact absurd (print_form e) h
 obtain⟨tr,h1,h2,h3,h4⟩:=form_tree hf;have ho:∀x∈t,okN x=true:=fun x hx=>by
  cases e:okN x with
  | true=>rfl
  | false =>
   obtain⟨i,hi⟩:=List.getElem?_of_mem hx;exact absurd (print_bad hi e) h
 exact⟨tr,h3,h1,h2,fun x hx=>ho x (h2▸hx),print_yes hf h3 ho⟩
theorem check_iff(t:List Nd):decide (checkT t=0)=(!decide (printT t=[])&&(decide ((printT t).length≤20000)&&decide (depthT t≤150))):=by
 unfold checkT;by_cases h1:printT t=[]
 ·rw[if_pos (.inl h1),decide_eq_true h1];rfl
 by_cases h2:20000<(printT t).length
 ·rw[if_pos (.inr (.inl h2)),decide_eq_false h1,decide_eq_false (show ¬(printT t).length≤20000 by omega)];rfl
 by_cases h3:150<depthT t
 ·rw[if_pos (.inr (.inr h3)),decide_eq_false (show ¬depthT t≤150 by omega),Bool.and_false,Bool.and_false];rfl
 ·rw[if_neg (by rintro(h|h|h)<;>contradiction),decide_eq_false h1,decide_eq_true (show (printT t).length≤20000 by omega),decide_eq_true (show depthT t≤150 by omega)];rfl
theorem check_two(t:List Nd):checkT t=0∨checkT t=100:=by
 unfold checkT;split
 ·exact .inr rfl
 ·exact .inl rfl
def nodeX(op a b:Int):Nd:=Nd.mk op ([],[]) [120] a b
theorem ar_zero(op:Int):arN op=some 0↔0≤op∧op≤4:=by
 refine⟨fun h=>by rcases ops0 h with e|e|e|e|e<;>omega,fun h=>?_⟩;unfold arN;rw[if_neg (by omega),if_pos h.2]
def pxN:Nd:=Nd.mk 1 ([],[]) [120] 5 0
def nmN:Nd:=Nd.mk 0 ([51],[50]) [] 0 0
def thN:Nd:=Nd.mk 0 ([45,49],[51]) [] 0 0
def avN:Nd:=Nd.mk 2 ([],[]) [120] 1 3
def loN:Nd:=Nd.mk 4 ([],[]) [120] 0 60
def someT:List Nd:=[pxN,nmN,plainN 7]
def bothT:List Nd:=[pxN,nmN,plainN 7,thN,plainN 10]
end Tm
end Go.Proofs.YtghioekjghmdaaaGreatDoor
