/- Own work. -/
import Derived.Handed
import Derived.Lay
import Derived.Shelf.Vars
import Derived.Test.YtcebkcilkhebeaaGreatDoorOpenQ
import Derived.Test.YtcebkcilkhebeaaGreatDoorAllDec
set_option maxRecDepth 100000
namespace Go.Proofs.YtcebkcilkhebeaaGreatDoor
open Go.ChangeShapes Go.WideShapes Go.RowKit Go.Joins
section
variable {H : Type} {enc : TypeId × Value → H}
end
theorem gPow : Tryz.prog.globalNamed "debenture/decimal.powers" = some 1 := by kernel_rfl
theorem gPowType:(Tryz.prog.globals[1]?).map (·.type)=some 94:=by kernel_rfl
theorem cellsPow:Tryz.prog.cellsOf 94=8:=by kernel_rfl
theorem cellsPair:Tryz.prog.cellsOf 93=2:=by kernel_rfl
theorem cellsIntD:Tryz.prog.cellsOf 3=1:=by kernel_rfl
theorem pair_cells{W:World}{fuel:Nat}{a b:Value}{l:List UInt8}{z:Int}{x:DataW Unit×List MemPlace}(h:DataW.trod (fun _=>()) Tryz.prog W 0 (fun _=>true) false fuel 93 [a,b]=some x)(hx:x.1=.agg [.lit (.string l),.lit (.int .i64 z)]) :
  a=.string ⟨l.toArray⟩∧b=.int .i64 z:=by
 obtain⟨y0,y1,n,rfl,_,h0,h1⟩:=trod_struct2 Tryz.underlying93 h;rw[show Tryz.prog.cellsOf _=1 from cellsStr]at h0;rw[show Tryz.prog.cellsOf _=1 from cellsIntD]at h1;obtain⟨s,e0,rfl,_⟩:=DataW.trod_string Tryz.underlying9 h0;obtain⟨m,e1,rfl,_⟩:=DataW.trod_int Tryz.underlying3 h1;have f0:[a]=[Value.string s]:=e0;have f1:[b]=[Value.int .i64 m]:=e1;simp only[DataW.agg.injEq,List.cons.injEq,DataW.lit.injEq,Lit.string.injEq,Lit.int.injEq,and_true,true_and]at hx;obtain⟨hl,hz⟩:=hx;refine⟨?_,?_⟩
 ·rw[List.cons.inj f0 |>.1,← hl]
 ·rw[List.cons.inj f1 |>.1,hz]
theorem goodD_of {x0 : String × DataW Unit} {r : List (String × DataW Unit)} {W : World} (hL : laidMet Tryz.prog (x0 :: ("debenture/decimal.powers", Rows.laid_debenture_decimal_powers) :: r) W) (hS : W.ShapedOpen Tryz.prog) : GoodD W := by
 have hM:∃m,W.cell? ⟨2,0,none⟩=some (.int .i64 m):=cell_of_shapedOpen_int (zero:=#[.int .i64 0]) (t:=3) hS (of_decide_eq_true (by kernel_rfl)) (by kernel_rfl) rfl (by kernel_rfl) (by kernel_rfl) Tryz.underlying3;obtain⟨_,⟨g,t,cs,fuel,p,_,hg,ht,hv,hd,_,_⟩,_⟩:=hL.tail;obtain rfl:=Option.some.inj (gPow.symm.trans hg);obtain rfl:=Option.some.inj (gPowType.symm.trans ht);obtain⟨xs,m,_,hx,hl,hxl,hi⟩:=DataW.trod_array Tryz.underlying94 hd;rw[cellsPow]at hl;have h0:=hi 0 (by decide);have h1:=hi 1 (by decide);have h2:=hi 2 (by decide);have h3:=hi 3 (by decide);rw[cellsPair]at h0 h1 h2 h3;have hc:∀j,W.cell? ⟨1,j,none⟩=cs.toList[j]?:=fun j=>by
  rw[World.var?_cell gPow hv j,Array.getElem?_toList]
 have hlt:=var_lt gPow hv;generalize cs.toList=L at *
 match L,hl with
 | [a0,b0,a1,b1,a2,b2,a3,b3],_ =>
  match xs,hxl with
  | [y0,y1,y2,y3],_ =>
   have ha:=(Prod.mk.inj hx).1;have ha:Rows.laid_debenture_decimal_powers=DataW.agg [y0.1,y1.1,y2.1,y3.1]:=ha;unfold Rows.laid_debenture_decimal_powers at ha;simp only[DataW.agg.injEq,List.cons.injEq,and_true]at ha;obtain⟨k0,k1,k2,k3⟩:=ha;obtain⟨u0,v0⟩:=pair_cells h0 k0.symm;obtain⟨u1,v1⟩:=pair_cells h1 k1.symm;obtain⟨u2,v2⟩:=pair_cells h2 k2.symm;obtain⟨u3,v3⟩:=pair_cells h3 k3.symm;refine⟨hM,?_,?_,?_,?_,?_,?_,?_,?_,?_,hlt⟩
   ·rw[hc,u0];rfl
   ·rw[hc,v0];rfl
   ·rw[hc,u1];rfl
   ·rw[hc,v1];rfl
   ·rw[hc,u2];rfl
   ·rw[hc,v2];rfl
   ·rw[hc,u3];rfl
   ·rw[hc,v3];rfl
   ·obtain⟨m,hm⟩:=hM;exact World.block_lt_of_cell? W ⟨2,0,none⟩ hm
def Sch(_l:List Nat)(p:Prop):Prop:=p
theorem sch_in(l:List Nat){p:Prop}(h:Sch l p):p:=h
theorem sch_out{p:Prop}(h:p):Sch [] p:=h
section
variable {P : Program} {md : Region.Mode} {ops : Array Oper} {Q : Exit → Act → World → Prop} {S : World → Prop} {i : Nat} {r : List Nat} {oi : Oper} {v : Value} {fuel : Nat} {listed : Array Bool} {a : Act} {w : World}
theorem sch_take(hi:ops[i]?=some oi)(hs:(Region.noSelect ops&&(Region.free md ops listed i&&(Region.ready md ops listed).contains i))=true)
  (hQ:∀c a w,Q (.panic c) (a.put oi.dst v) w→Q (.panic c) a w) (hy:YieldsIf P ops S oi v a) (hS:S w)
  (h:Sch r (wpAnyH P md ops Q S fuel (listed.setIfInBounds i true) (a.put oi.dst v) w)):Sch (i::r) (wpAnyH P md ops Q S (fuel+1) listed a w):=by
 simp only[Bool.and_eq_true]at hs;exact wpAnyH_take hi hs.1 hs.2.1 hs.2.2 hQ hy hS h
theorem sch_yes(hi:ops[i]?=some oi)(hs:(Region.noSelect ops&&(Region.free md ops listed i&&(Region.ready md ops listed).contains i))=true)
  (hw:Region.wanted oi (yielded ops a.tmps)=true) (hy:∀w,S w→(execOp a.eval oi).run P w=.ok (.value v) w) (hS:S w)
  (h:Sch r (wpAnyH P md ops (NoPanic Q) S fuel (listed.setIfInBounds i true) (a.put oi.dst v) w)):Sch (i::r) (wpAnyH P md ops (NoPanic Q) S (fuel+1) listed a w) :=
 sch_take hi hs (fun _ _ _ h=>h) (.inl ⟨hw,hy⟩) hS h
end
end Go.Proofs.YtcebkcilkhebeaaGreatDoor
