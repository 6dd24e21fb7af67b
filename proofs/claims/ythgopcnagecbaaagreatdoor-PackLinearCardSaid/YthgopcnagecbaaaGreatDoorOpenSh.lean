/- Own work. -/
import Derived.Test.YthgopcnagecbaaaGreatDoorAllAc1
set_option maxRecDepth 100000
namespace Go.Proofs.YthgopcnagecbaaaGreatDoor
open Go.ChangeShapes Go.WideShapes Go.RowKit Go.Joins Go.Deep
theorem gSh : Tryz.prog.globalNamed "debenture/action.shapes" = some 0 := by kernel_rfl
theorem gShType:(Tryz.prog.globals[0]?).map (·.type)=some 83:=by kernel_rfl
theorem cellsSh:Tryz.prog.cellsOf 83=20:=by kernel_rfl
theorem cellsShape:Tryz.prog.cellsOf 82=4:=by kernel_rfl
theorem cellsBoolA:Tryz.prog.cellsOf 4=1:=by kernel_rfl
theorem shape_cells{W:World}{fuel:Nat}{a b c d:Value}{l:List UInt8}{o:Bool}{r m:Int}{x:DataW Unit×List MemPlace}(h:DataW.trod (fun _=>()) Tryz.prog W 0 (fun _=>true) false fuel 82 [a,b,c,d]=some x)(hx:x.1=.agg [.lit (.string l),.lit (.bool o),.lit (.int .i64 r),.lit (.int .i64 m)]) :
  a=.string ⟨l.toArray⟩∧b=.bool o∧c=.int .i64 r∧d=.int .i64 m:=by
 obtain⟨xs,n,_,rfl,_,hlen,hf⟩:=DataW.trod_struct Tryz.underlying82 h
 match xs,hlen with
 | [y0,y1,y2,y3],_ =>
  have h0:DataW.trod (fun _=>()) Tryz.prog W 0 (fun _=>true) false n 9 (([a,b,c,d].drop 0).take (Tryz.prog.cellsOf 9))=some y0:=hf 0 _ rfl;have h1:DataW.trod (fun _=>()) Tryz.prog W 0 (fun _=>true) false n 4 (([a,b,c,d].drop 1).take (Tryz.prog.cellsOf 4))=some y1:=hf 1 _ rfl;have h2:DataW.trod (fun _=>()) Tryz.prog W 0 (fun _=>true) false n 3 (([a,b,c,d].drop 2).take (Tryz.prog.cellsOf 3))=some y2:=hf 2 _ rfl;have h3:DataW.trod (fun _=>()) Tryz.prog W 0 (fun _=>true) false n 3 (([a,b,c,d].drop 3).take (Tryz.prog.cellsOf 3))=some y3:=hf 3 _ rfl;rw[cellsStr]at h0;rw[cellsBoolA]at h1;rw[show Tryz.prog.cellsOf _=1 from cellsInt]at h2 h3;obtain⟨s,e0,rfl,_⟩:=DataW.trod_string Tryz.underlying9 h0;obtain⟨q,e1,rfl⟩:=DataW.trod_bool Tryz.underlying4 h1;obtain⟨u,e2,rfl,_⟩:=DataW.trod_int Tryz.underlying3 h2;obtain⟨v,e3,rfl,_⟩:=DataW.trod_int Tryz.underlying3 h3;have f0:[a]=[Value.string s]:=e0;have f1:[b]=[Value.bool q]:=e1;have f2:[c]=[Value.int .i64 u]:=e2;have f3:[d]=[Value.int .i64 v]:=e3;simp only[List.map_cons,List.map_nil,DataW.agg.injEq,List.cons.injEq,DataW.lit.injEq,Lit.string.injEq,Lit.bool.injEq,Lit.int.injEq,and_true,true_and]at hx;obtain⟨g0,g1,g2,g3⟩:=hx;exact⟨by rw[(List.cons.inj f0).1,← g0],by rw[(List.cons.inj f1).1,g1],by rw[(List.cons.inj f2).1,g2],by rw[(List.cons.inj f3).1,g3]⟩
theorem shapes_of {r : List (String × DataW Unit)} {W : World} (hL : laidMet Tryz.prog (("debenture/action.shapes", Rows.laid_debenture_action_shapes) :: r) W) : ∀ (k : Nat) (v : Value), acL[k]? = some v → W.cell? ⟨0, k, none⟩ = some v := by
 obtain⟨_,⟨g,t,cs,fuel,p,_,hg,ht,hv,hd,_,_⟩,_⟩:=hL;obtain rfl:=Option.some.inj (gSh.symm.trans hg);obtain rfl:=Option.some.inj (gShType.symm.trans ht);obtain⟨xs,m,_,hx,hl,hxl,hi⟩:=DataW.trod_array Tryz.underlying83 hd;rw[cellsSh]at hl;have h0:=hi 0 (by decide);have h1:=hi 1 (by decide);have h2:=hi 2 (by decide);have h3:=hi 3 (by decide);have h4:=hi 4 (by decide);rw[cellsShape]at h0 h1 h2 h3 h4;have hc:∀j,W.cell? ⟨0,j,none⟩=cs.toList[j]?:=fun j=>by
  rw[World.var?_cell gSh hv j,Array.getElem?_toList]
 generalize cs.toList=L at *
 match L,hl with
 | [a0,b0,c0,d0,a1,b1,c1,d1,a2,b2,c2,d2,a3,b3,c3,d3,a4,b4,c4,d4],_ =>
  match xs,hxl with
  | [y0,y1,y2,y3,y4],_ =>
   have ha:=(Prod.mk.inj hx).1;have ha:Rows.laid_debenture_action_shapes=DataW.agg [y0.1,y1.1,y2.1,y3.1,y4.1]:=ha;unfold Rows.laid_debenture_action_shapes at ha;simp only[DataW.agg.injEq,List.cons.injEq,and_true]at ha;obtain⟨k0,k1,k2,k3,k4⟩:=ha;obtain⟨rfl,rfl,rfl,rfl⟩:=shape_cells h0 k0.symm;obtain⟨rfl,rfl,rfl,rfl⟩:=shape_cells h1 k1.symm;obtain⟨rfl,rfl,rfl,rfl⟩:=shape_cells h2 k2.symm;obtain⟨rfl,rfl,rfl,rfl⟩:=shape_cells h3 k3.symm;obtain⟨rfl,rfl,rfl,rfl⟩:=shape_cells h4 k4.symm;intro k v hv2;rw[hc];exact hv2
theorem goodA_of16 {x0 x1 x3 : String × DataW Unit} {r : List (String × DataW Unit)} {W : World} (hL : laidMet Tryz.prog (x0 :: x1 :: ("internal/strconv.uint64pow10", Rows.laid_internal_strconv_uint64pow10) :: x3 :: ("debenture/action.shapes", Rows.laid_debenture_action_shapes) :: r) W) : GoodA W :=
 ⟨goodT_of hL,shapes_of hL.tail.tail.tail.tail⟩
end Go.Proofs.YthgopcnagecbaaaGreatDoor
