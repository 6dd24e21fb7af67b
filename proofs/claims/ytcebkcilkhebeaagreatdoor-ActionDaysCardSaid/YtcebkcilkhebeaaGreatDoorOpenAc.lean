/- Own work. -/
import Derived.Test.YtcebkcilkhebeaaGreatDoorOpenAM
import Derived.Test.YtcebkcilkhebeaaGreatDoorActNum
set_option maxRecDepth 100000
namespace Go.Proofs.YtcebkcilkhebeaaGreatDoor
open Go.ChangeShapes Go.WideShapes Go.RowKit Go.Joins Go.Deep
section
variable {H : Type} {enc : TypeId × Value → H} {w : World} {base : Nat} {sp : Nat → Bool} {held : Bool}
theorem cellsAct:Tryz.prog.cellsOf 25=11:=by kernel_rfl
theorem array11{cs:Array Value}(h:cs.size=11):∃a b c d e f g i j k l,cs=#[a,b,c,d,e,f,g,i,j,k,l]:=by
 obtain⟨l⟩:=cs
 match l,h with
 | [a,b,c,d,e,f,g,i,j,k,l],_=>exact⟨a,b,c,d,e,f,g,i,j,k,l,rfl⟩
theorem str_part{n:Nat}{c:Value}{y:DataW H×List MemPlace}(h:DataW.trod enc Tryz.prog w base sp held n 9 [c]=some y):∃k:List UInt8,c=.string ⟨k.toArray⟩∧k.length∈y.1.weights Tryz.prog 9:=by
 obtain⟨s,e,hy,_⟩:=DataW.trod_string Tryz.underlying9 h;exact⟨s.data.toList,by rw[(List.cons.inj e).1,str_list],by rw[hy];simp[DataW.weights]⟩
theorem open_act{r:Reach}{b0:Nat}{v:Value}{d:DataW H}{p:List MemPlace}(hv:Value.okWide Tryz.prog w r b0 25 v)(h:DataW.Trod enc Tryz.prog w base sp held 25 v d p)(hw:∀n∈d.weights Tryz.prog 25,n≤reachBytes) :
  ∃a:Ac.Actn,v=.agg #[.string ⟨a.nm.toArray⟩,.int .i64 a.kind,.string ⟨a.ast.toArray⟩,.string ⟨a.oth.toArray⟩,.string ⟨a.ratio.1.toArray⟩,.string ⟨a.ratio.2.toArray⟩,.string ⟨a.cash.1.toArray⟩,.string ⟨a.cash.2.toArray⟩,.int .i64 a.ex,.int .i64 a.rc,.int .i64 a.pay]∧a.nm.length≤140737488355328∧a.ast.length≤140737488355328∧a.oth.length≤140737488355328:=by
 obtain⟨cs,rfl,hsz⟩:=okWide_struct Tryz.underlying25 hv;obtain⟨c0,c1,c2,c3,c4,c5,c6,c7,c8,c9,c10,rfl⟩:=array11 (hsz.trans cellsAct);obtain⟨fuel,h⟩:=h;obtain⟨xs,m,_,hdp,hl,hlen,hf⟩:=DataW.trod_struct Tryz.underlying25 h;obtain⟨rfl,rfl⟩:=Prod.mk.inj hdp
 match xs,hlen with
 | [y0,y1,y2,y3,y4,y5,y6,y7,y8],_ =>
  have h0:DataW.trod enc Tryz.prog w base sp held m 9 (([c0,c1,c2,c3,c4,c5,c6,c7,c8,c9,c10].drop 0).take (Tryz.prog.cellsOf 9))=some y0:=hf 0 _ rfl;have h1:DataW.trod enc Tryz.prog w base sp held m 3 (([c0,c1,c2,c3,c4,c5,c6,c7,c8,c9,c10].drop 1).take (Tryz.prog.cellsOf 3))=some y1:=hf 1 _ rfl;have h2:DataW.trod enc Tryz.prog w base sp held m 9 (([c0,c1,c2,c3,c4,c5,c6,c7,c8,c9,c10].drop 2).take (Tryz.prog.cellsOf 9))=some y2:=hf 2 _ rfl;have h3:DataW.trod enc Tryz.prog w base sp held m 9 (([c0,c1,c2,c3,c4,c5,c6,c7,c8,c9,c10].drop 3).take (Tryz.prog.cellsOf 9))=some y3:=hf 3 _ rfl;have h4:DataW.trod enc Tryz.prog w base sp held m 23 (([c0,c1,c2,c3,c4,c5,c6,c7,c8,c9,c10].drop 4).take (Tryz.prog.cellsOf 23))=some y4:=hf 4 _ rfl;have h5:DataW.trod enc Tryz.prog w base sp held m 23 (([c0,c1,c2,c3,c4,c5,c6,c7,c8,c9,c10].drop 6).take (Tryz.prog.cellsOf 23))=some y5:=hf 5 _ rfl;have h6:DataW.trod enc Tryz.prog w base sp held m 3 (([c0,c1,c2,c3,c4,c5,c6,c7,c8,c9,c10].drop 8).take (Tryz.prog.cellsOf 3))=some y6:=hf 6 _ rfl;have h7:DataW.trod enc Tryz.prog w base sp held m 3 (([c0,c1,c2,c3,c4,c5,c6,c7,c8,c9,c10].drop 9).take (Tryz.prog.cellsOf 3))=some y7:=hf 7 _ rfl;have h8:DataW.trod enc Tryz.prog w base sp held m 3 (([c0,c1,c2,c3,c4,c5,c6,c7,c8,c9,c10].drop 10).take (Tryz.prog.cellsOf 3))=some y8:=hf 8 _ rfl;rw[cellsStr]at h0 h2 h3;rw[cellsInt]at h1 h6 h7 h8;rw[cellsRat]at h4 h5;obtain⟨a0,rfl,w0⟩:=str_part h0;obtain⟨a1,rfl⟩:=one_int h1;obtain⟨a2,rfl,w2⟩:=str_part h2;obtain⟨a3,rfl,w3⟩:=str_part h3
  obtain⟨a4,rfl,rfl⟩:=one_rat h4;obtain⟨a5,rfl,rfl⟩:=one_rat h5;obtain⟨a6,rfl⟩:=one_int h6;obtain⟨a7,rfl⟩:=one_int h7;obtain⟨a8,rfl⟩:=one_int h8;have hin:∀ (j:Nat) (y:DataW H×List MemPlace) (n:Nat),[y0,y1,y2,y3,y4,y5,y6,y7,y8][j]?=some y→[9,3,9,9,23,23,3,3,3][j]?=some 9→n∈y.1.weights Tryz.prog 9→n≤140737488355328:=fun j y n hy ht hn=>by
   have k:=hw n (by
    simp only[DataW.weights,Tryz.underlying25];exact DataW.weights_mem_each (j:=j) (t:=9) (d:=y.1) ht (by rw[List.getElem?_map,hy];rfl) _ hn)
   simp only[reachBytes]at k;omega
  exact⟨⟨a0,a1,a2,a3,a4,a5,a6,a7,a8⟩,rfl,hin 0 y0 _ rfl rfl w0,hin 2 y2 _ rfl rfl w2,hin 3 y3 _ rfl rfl w3⟩
end
end Go.Proofs.YtcebkcilkhebeaaGreatDoor
