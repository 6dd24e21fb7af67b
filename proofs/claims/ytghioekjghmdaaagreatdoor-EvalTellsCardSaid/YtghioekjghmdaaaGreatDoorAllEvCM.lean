/- Own work. -/
import Derived.Test.YtghioekjghmdaaaGreatDoorSortL
import Derived.Lib.SliceRun
import Derived.Test.YtghioekjghmdaaaGreatDoorAllEv3M
set_option linter.unusedSimpArgs false
set_option linter.unusedVariables false
namespace Go.Proofs.YtghioekjghmdaaaGreatDoor
open Go.RowKit Go.Sort Go.Shelf
def cfF(x y:Fx.Fix):Int:=Fx.ordF x.1 y.1
theorem lt_cfF(x y:Fx.Fix):ltOf cfF x y=Fx.lessF x.1 y.1:=by
 unfold ltOf cfF
 cases h:Fx.lessF x.1 y.1 with
 | true=>exact decide_eq_true (Fx.ordF_neg.2 h)
 | false=>exact decide_eq_false fun k=>by rw[Fx.ordF_neg.1 k]at h;cases h
theorem swoF:SWO (ltOf cfF) where
 irrefl x:=by rw[lt_cfF];exact Fx.lt_irrefl _
 trans x y z h k:=by rw[lt_cfF]at *;exact Fx.lt_trans h k
 ntrans x y z h k:=by
  rw[lt_cfF]at *;rcases Fx.lt_cases x.1 y.1 with c|c|c
  ·rw[c]at h;cases h
  ·rw[c];exact k
  ·rcases Fx.lt_cases y.1 z.1 with c2|c2|c2
   ·rw[c2]at k;cases k
   ·rw[←c2];exact h
   ·exact Fx.lt_asym (Fx.lt_trans c2 c)
theorem cmpF(blk off size:Nat)(w:World):CmpLays Tryz.prog 63 #[] encFx 4 cfF blk off size w:=fun m os dk _ x y=>by
 obtain⟨⟨a,s⟩,⟨n,d⟩⟩:=x;obtain⟨⟨c,t⟩,⟨k,e⟩⟩:=y;refine(eorderG_any a s n d c t k e _).mono ?_;rintro e' w' ⟨rfl,q,ot,rfl⟩;exact⟨rfl,q,ot,rfl⟩
theorem isAggF(w:World):(isAgg 39).run Tryz.prog w=.ok true w:=by kernel_rfl
theorem sizeF(w:World):(Go.sizeOf 39).run Tryz.prog w=.ok 4 w:=by kernel_rfl
theorem enters_orderF:∀ (args:Array Value) (w:World),(callFunc 63 args).run Tryz.prog w=.ok (.enter 63 args) w:=enters_of Tryz.func63 (by kernel_rfl) rfl
theorem holdsG_of{α:Type}[Inhabited α]{enc:α→List Value}{k:Nat}(hk:∀x,(enc x).length=k)(h0:0<k){w:World}{g:Nat}{ls:List α}{cur:Array Value}{e:TypeId}(hg:w.heap[g]?=some (.cells cur e (0,0)))(h:RowsG enc k w (some ⟨g,0,none⟩) ls):HoldsK enc k w g 0 ls.toArray:=fun j hj=>by
 rw[size_flatK]at hj;have hj:j<ls.length*k:=hj;have hq:j / k<ls.length:=(Nat.div_lt_iff_lt_mul h0).2 hj;have hr:j % k<k:=Nat.mod_lt _ h0;obtain⟨b,o,hp,hl,c⟩:=h (j / k) _ (List.getElem?_eq_getElem hq)
 cases hp
 have e1:(ls.toArray)[j / k]! = ls[j / k]:=by rw[getElem!_pos ls.toArray (j / k) (by simpa using hq)];rfl
 rw[get_flatK _ _ _ _ (by simpa using hj),e1];refine⟨?_,by simp[World.frozen?,hg]⟩;have hx:(enc ls[j / k])[j % k]?=some ((enc ls[j / k])[j % k]!):=by
  rw[List.getElem!_eq_getElem?_getD,List.getElem?_eq_getElem (by rw[hk];exact hr)];rfl
 have:=c (j % k) _ hx;rw[Nat.zero_add]at this ⊢;rw[show j / k*k+j % k=j by rw[Nat.mul_comm];exact Nat.div_add_mod j k]at this;exact this
theorem sortW_own{blk off m:Nat}{α:Type}[Inhabited α]{enc:α→List Value}{k:Nat}{w:World}{d:Array α}{os:Array Obj}(hb:blk<w.heap.size):w.grownBy (sortWorldK enc k w blk off m d os) (some blk):=by
 refine⟨rfl,rfl,rfl,size_sortWorldK_c enc k w blk off m d os,fun j hk hne=>?_⟩;unfold sortWorldK putRowK putRow mapBlock Go.Sort.ahead grow;simp only[Array.getElem?_append,Array.size_modify,hk,if_true,Array.getElem?_modify];rw[if_neg (fun e=>hne (by rw[e]))]
theorem esort_any{B:Nat}(v:Value)(ls:List Fx.Fix)(w:World)(h:OwnX B w v ls)(hl:ls.length≤1000000) :
  Calls Tryz.prog 62 #[v,.func (.func 63) #[] #[]] w fun e w'=>e=.returned (.tuple #[]) ∧
   ((v=.slice none 0 0∧ls=[]∧w'=w)∨∃g c d,v=.slice (some ⟨g,0,none⟩) d.size c∧d.size≤c∧B≤g∧g<w'.heap.size∧d.toList.Perm ls∧d.toList.Pairwise (fun x y=>Fx.lessF y.1 x.1=false)∧HoldsK encFx 4 w' g 0 d∧w.grownBy w' (some g)):=by
 obtain⟨p,c,rfl,hc,hL,hf⟩:=ownG_rows (enc:=encFx) (k:=4) (fun _=>rfl) h;rcases h.2 with ⟨hv,h0⟩|⟨g,cap,cur,hv,k2,k3,k4,k5⟩
 ·have:ls=[]:=List.length_eq_zero_iff.1 h0;subst this;have k:=AnyF.slices_SortFunc_none Tryz.sortLn p c (.func (.func 63) #[] #[]) w
  change Calls Tryz.prog 62 _ _ _ at k
  refine k.mono ?_;rintro e w' ⟨rfl,rfl⟩;exact⟨rfl,.inl ⟨hv,rfl,rfl⟩⟩
 ·cases hv
  have hg:g<w.heap.size:=(Array.getElem?_eq_some_iff.1 k3).1;have hH:=holdsG_of (enc:=encFx) (k:=4) (fun _=>rfl) (by decide) k3 hL;have k:=AnyQ.slices_SortFunc Tryz.sortLn 4 (fun w=>isAggF w) (fun w=>sizeF w) encFx (fun _=>rfl) encFx_one cfF swoF 63 #[] g 0 c ls.toArray w enters_orderF (cmpF _ _ _ _) hH hg (by rw[List.size_toArray];omega)
  change Calls Tryz.prog 62 _ _ _ at k
  rw[List.size_toArray]at k;refine k.mono ?_;rintro e w' ⟨rfl,d,n,os,hp,hs,rfl⟩;have hsz:d.size=ls.length:=by rw[hp.1,List.size_toArray]
  have hperm:d.toList.Perm ls:=by
   have k:=hp.2.2;have e1:(d.extract 0 ls.length).toList=d.toList:=by rw[←hsz,Array.extract_size]
   have e2:(ls.toArray.extract 0 ls.length).toList=ls:=by simp
   rw[e1,e2]at k;exact k
  have hpw:d.toList.Pairwise (fun x y=>Fx.lessF y.1 x.1=false):=List.pairwise_iff_getElem.2 fun i j hi hj hij=>by
   have hi':i<d.size:=by simpa using hi
   have hj':j<d.size:=by simpa using hj
   have hs:SortedIn (ltOf cfF) 0 d.size d:=by rw[hsz];exact hs
   have k:=hs i j (Nat.zero_le _) hij hj';rw[lt_cfF,getElem!_pos d i hi',getElem!_pos d j hj']at k;exact k
  exact⟨rfl,.inr ⟨g,c,d,by rw[hsz],by rw[hsz];exact hc,k2,Nat.lt_of_lt_of_le hg (size_sortWorldK_c encFx 4 w g 0 n d os),hperm,hpw,holdsK_sortWorldK_c encFx 4 w g 0 ls.toArray d n os hH hg (by rw[hsz,List.size_toArray]),sortW_own hg⟩⟩
end Go.Proofs.YtghioekjghmdaaaGreatDoor
set_option maxHeartbeats 4000000
set_option maxRecDepth 100000
namespace Go.Proofs.YtghioekjghmdaaaGreatDoor
open Go.RowKit
open Go.Lib (keeps compactUpTo CompInv)
open Go.Sort Go.Shelf
structure RwC(g:Nat)(L:List Fx.Fix)(w:World):Prop where
 lt:g<w.heap.size
 c:∀ (j:Nat) (x:Fx.Fix) (r:Nat) (v:Value),L[j]?=some x→(encFx x)[r]?=some v→w.cell? ⟨g,j*4+r,none⟩=some v∧w.frozen? ⟨g,j*4+r,none⟩=false
theorem RwC.below{g:Nat}{L:List Fx.Fix}{w w':World}(h:RwC g L w)(hb:Below w.heap.size w w'):RwC g L w' :=
 ⟨Nat.lt_of_lt_of_le h.lt hb.size,fun j x r v h1 h2=>⟨(hb.cell (p:=⟨g,j*4+r,none⟩) h.lt).trans (h.c j x r v h1 h2).1,(hb.frozen (p:=⟨g,j*4+r,none⟩) h.lt).trans (h.c j x r v h1 h2).2⟩⟩
theorem RwC.rows{g:Nat}{L:List Fx.Fix}{w:World}(h:RwC g L w):Fxs w (some ⟨g,0,none⟩) L:=fun j x hx=>⟨g,0,rfl,h.lt,fun i v hv=>by rw[Nat.zero_add];exact(h.c j x i v hx hv).1⟩
theorem rwC_of{g:Nat}{d:Array Fx.Fix}{w:World}(h:HoldsK encFx 4 w g 0 d)(hg:g<w.heap.size):RwC g d.toList w:=⟨hg,fun j x r v hx hv=>by
 obtain⟨hj,e⟩:=List.getElem?_eq_some_iff.1 hx;have hj':j<d.size:=by simpa using hj
 have hr:r<4:=(List.getElem?_eq_some_iff.1 hv).1;have e1:d[j]! = x:=by rw[getElem!_pos d j hj'];rw[←e];rfl
 have c:=HoldsK.cell h hj' hr;rw[e1,List.getElem!_eq_getElem?_getD,hv,Nat.zero_add]at c;exact c⟩
theorem RwC.four{g:Nat}{L:List Fx.Fix}{w:World}(h:RwC g L w){j:Nat}{a n e:List UInt8}{d:Int}(hx:L[j]?=some ((a,d),(n,e))):w.cell? ⟨g,j*4,none⟩=some (.string ⟨a.toArray⟩)∧w.cell? ⟨g,j*4+1,none⟩=some (.int .i64 d)∧w.cell? ⟨g,j*4+2,none⟩=some (.string ⟨n.toArray⟩)∧w.cell? ⟨g,j*4+3,none⟩=some (.string ⟨e.toArray⟩) ∧
  w.frozen? ⟨g,j*4,none⟩=false∧w.frozen? ⟨g,j*4+1,none⟩=false∧w.frozen? ⟨g,j*4+2,none⟩=false∧w.frozen? ⟨g,j*4+3,none⟩=false :=
 ⟨(h.c j _ 0 _ hx rfl).1,(h.c j _ 1 _ hx rfl).1,(h.c j _ 2 _ hx rfl).1,(h.c j _ 3 _ hx rfl).1,(h.c j _ 0 _ hx rfl).2,(h.c j _ 1 _ hx rfl).2,(h.c j _ 2 _ hx rfl).2,(h.c j _ 3 _ hx rfl).2⟩
theorem RwC.any{g:Nat}{L:List Fx.Fix}{w:World}(h:RwC g L w){k:Nat}(hk:k<L.length*4):∃v,w.cell? ⟨g,k,none⟩=some v∧w.frozen? ⟨g,k,none⟩=false:=by
 have hj:k / 4<L.length:=by omega
 have hr:k % 4<(encFx L[k / 4]).length:=Nat.mod_lt _ (by decide);have:=h.c (k / 4) _ (k % 4) _ (List.getElem?_eq_getElem hj) (List.getElem?_eq_getElem hr);rw[show k / 4*4+k % 4=k by omega]at this;exact⟨_,this⟩
theorem RwC.set{g:Nat}{L:List Fx.Fix}{w:World}(h:RwC g L w){K:Nat}(hK:K<L.length)(a n e:List UInt8)(d:Int) :
  RwC g (L.set K ((a,d),(n,e))) ((((w.setCell ⟨g,K*4,none⟩ (.string ⟨a.toArray⟩)).setCell ⟨g,K*4+1,none⟩ (.int .i64 d)).setCell ⟨g,K*4+2,none⟩ (.string ⟨n.toArray⟩)).setCell ⟨g,K*4+3,none⟩ (.string ⟨e.toArray⟩)):=by
 obtain⟨⟨⟨a',d'⟩,⟨n',e'⟩⟩,hx⟩:∃x,L[K]?=some x:=⟨_,List.getElem?_eq_getElem hK⟩;obtain⟨c0,c1,c2,c3,_⟩:=h.four hx;refine⟨by simpa [World.setCell] using h.lt,fun j x r v hj hv=>⟨?_,?_⟩⟩
 ·have hr:r<4:=(List.getElem?_eq_some_iff.1 hv).1;by_cases hjk:K=j
  ·subst hjk;rw[List.getElem?_set_self hK]at hj;obtain rfl:=Option.some.inj hj;rcases(show r=0∨r=1∨r=2∨r=3 by omega) with rfl|rfl|rfl|rfl
   ·obtain rfl:=Option.some.inj hv;rw[cell?_setCell_ne _ _ _ _ _ (by omega),cell?_setCell_ne _ _ _ _ _ (by omega),cell?_setCell_ne _ _ _ _ _ (by omega)];exact World.cell?_setCell_same' _ _ _ (by rw[c0];rfl)
   ·obtain rfl:=Option.some.inj hv;rw[cell?_setCell_ne _ _ _ _ _ (by omega),cell?_setCell_ne _ _ _ _ _ (by omega)];exact World.cell?_setCell_same' _ _ _ (by rw[cell?_setCell_ne _ _ _ _ _ (by omega),c1];rfl)
   ·obtain rfl:=Option.some.inj hv;rw[cell?_setCell_ne _ _ _ _ _ (by omega)];exact World.cell?_setCell_same' _ _ _ (by rw[cell?_setCell_ne _ _ _ _ _ (by omega),cell?_setCell_ne _ _ _ _ _ (by omega),c2];rfl)
   ·obtain rfl:=Option.some.inj hv;exact World.cell?_setCell_same' _ _ _ (by rw[cell?_setCell_ne _ _ _ _ _ (by omega),cell?_setCell_ne _ _ _ _ _ (by omega),cell?_setCell_ne _ _ _ _ _ (by omega),c3];rfl)
  ·rw[List.getElem?_set_ne hjk]at hj;rw[cell?_setCell_ne _ _ _ _ _ (by omega),cell?_setCell_ne _ _ _ _ _ (by omega),cell?_setCell_ne _ _ _ _ _ (by omega),cell?_setCell_ne _ _ _ _ _ (by omega)];exact(h.c j x r v hj hv).1
 ·rw[World.frozen?_setCell,World.frozen?_setCell,World.frozen?_setCell,World.frozen?_setCell];by_cases hjk:K=j
  ·subst hjk;exact(h.c K _ r ((encFx ((a',d'),(n',e'))).getD r default) hx (by
    have hr:r<4:=(List.getElem?_eq_some_iff.1 hv).1;rw[List.getD_eq_getElem?_getD,List.getElem?_eq_getElem (show r<(encFx ((a',d'),(n',e'))).length from hr)];rfl)).2
  ·rw[List.getElem?_set_ne hjk]at hj;exact(h.c j x r v hj hv).2
theorem wrK(w:World)(b i j k m:Nat)(x y z u:Value):WrB [b] w ((((w.setCell ⟨b,i,none⟩ x).setCell ⟨b,j,none⟩ y).setCell ⟨b,k,none⟩ z).setCell ⟨b,m,none⟩ u) :=
 (((WrB.of_set w b i x (List.mem_singleton.2 rfl)).trans (WrB.of_set _ b j y (List.mem_singleton.2 rfl))).trans (WrB.of_set _ b k z (List.mem_singleton.2 rfl))).trans (WrB.of_set _ b m u (List.mem_singleton.2 rfl))
theorem wr_cells(b:Nat):∀ (vs:List Value) (o:Nat) (w:World),WrB [b] w (w.setCells b o vs)
 | [],_,w=>WrB.refl _ w
 | v::r,o,w=>(WrB.of_set w b o v (List.mem_singleton.2 rfl)).trans (wr_cells b r (o+1) _)
theorem run_clear_k{P:Program}(w:World)(t e ty:TypeId)(z:Value)(ht:P.underlying t=some (.slice e))(hv:∀w,(zeroValue e).run P w=.ok z w)(b o n c:Nat)(hn:0<n)(h1:∀v∈z.cells,v.oneCell'=true)(hz:0<z.cells.size)
  (hc:∀j,j<n*z.cells.size→(w.cell? ⟨b,o+j,none⟩).isSome=true) (hf:∀j,j<n*z.cells.size→w.frozen? ⟨b,o+j,none⟩=false) :
  (Builtin.clear_ #[t] ty #[.slice (some ⟨b,o,none⟩) n c]).run P w=.ok (.tuple #[]) (w.setCells b o (Builtin.zeroCells z.cells n).toList):=by
 have hl:(Builtin.zeroCells z.cells n).toList.length=n*z.cells.size:=by simp[Builtin.zeroCells]
 have hst:=run_storeCells_cells (P:=P) b o (Builtin.zeroCells z.cells n).toList 0 w (by rw[hl];simpa using hc) (by rw[hl];simpa using hf) (fun v hv'=>by
  have hv':v∈Builtin.zeroCells z.cells n:=by simpa using hv'
  unfold Builtin.zeroCells at hv';obtain⟨i,_,rfl⟩:=Array.mem_map.1 hv';have hi:i % z.cells.size<z.cells.size:=Nat.mod_lt _ hz;rw[getElem!_pos z.cells _ hi];exact h1 _ (Array.getElem_mem hi))
 simp only[Nat.add_zero]at hst;obtain⟨m,rfl⟩:∃m,n=m+1:=⟨n-1,by omega⟩;simp[Builtin.clear_,run_underlying ht,hv,hst]
theorem zero_fix(w:World):(zeroValue 39).run Tryz.prog w=.ok (.agg #[.string ⟨#[]⟩,.int .i64 0,.string ⟨#[]⟩,.string ⟨#[]⟩]) w:=by kernel_rfl
theorem arr_get{dk:Array Fx.Fix}{zs:List Fx.Fix}(hs:dk.size=zs.length){j:Nat}(h:dk[j]! = zs.toArray[j]!){x:Fx.Fix}(hx:zs[j]?=some x):dk.toList[j]?=some x:=by
 obtain⟨hj,e⟩:=List.getElem?_eq_some_iff.1 hx;have hj':j<dk.size:=by omega
 rw[getElem!_pos dk j hj',getElem!_pos zs.toArray j (by simpa using hj)]at h;rw[Array.getElem?_toList,Array.getElem?_eq_getElem hj',h]
 simpa using e
theorem getL{zs:List Fx.Fix}{j:Nat}{x:Fx.Fix}(h:zs[j]?=some x):zs.toArray[j]! = x:=by
 obtain⟨hj,e⟩:=List.getElem?_eq_some_iff.1 h;rw[getElem!_pos zs.toArray j (by simpa using hj)]
 simpa using e
theorem ecompact_any(g c:Nat)(zs:List Fx.Fix)(w:World)(hzr:∀x∈zs,x.2=Ev.zR)(hc:zs.length≤c)(hl:zs.length≤1000000)(h:RwC g zs w) :
  Calls Tryz.prog 64 #[.slice (some ⟨g,0,none⟩) zs.length c] w (fun e w'=>e=.returned (.slice (some ⟨g,0,none⟩) (Go.Lib.compact zs).length c)∧Fxs w' (some ⟨g,0,none⟩) (Go.Lib.compact zs)∧WrB [g] w w'):=by
 have HZ:=zh hzr;have HR:=zh h
 have HALL:Hid ((∀j,j<zs.length→keeps zs.toArray j=true)→Go.Lib.compact zs=zs):=zh (Go.Lib.compact_all zs);clear hzr h;by_cases h2:zs.length<2
 ·have h2i:(zs.length:Int)<2:=by omega
  have HC:=zh (HALL.out fun j hj=>Go.Lib.keeps_lt_one _ j (by omega));go_enter Tryz.func64,Tryz.ntmps64;go_wp2_with fail;go_ret;exact⟨by rw[HC.out];rfl,by rw[HC.out];exact HR.out.rows,WrB.refl _ _⟩
 ·have h2i:¬(zs.length:Int)<2:=by omega
  go_enter Tryz.func64,Tryz.ntmps64;go_wp2_with fail
  go_loopw [3] (fun iv wr=>∃K:Nat,K+1≤zs.length∧iv=.int .i64 ((K:Int)+1)∧Hid (∀j,j<K+1→keeps zs.toArray j=true)∧Below w.heap.size w wr) (fun iv _=>zs.length-(intOf iv).toNat)
  case atStart=>exact⟨0,by omega,rfl,zh (Go.Lib.keeps_lt_one _),Below.refl _ _⟩
  case round =>
   obtain⟨K,hK,rfl,HJ,hw⟩:=hrel;have HW:=zh hw;have HRw:=zh (HR.out.below hw);clear hw;by_cases hlt:K+1<zs.length
   ·obtain⟨⟨⟨a,d⟩,q⟩,hx⟩:∃x,zs[K+1]?=some x:=⟨_,List.getElem?_eq_getElem hlt⟩;obtain⟨⟨⟨a',d'⟩,q'⟩,hy⟩:∃x,zs[K]?=some x:=⟨_,List.getElem?_eq_getElem (by omega)⟩;obtain rfl:q=([],[]):=HZ.out _ (List.mem_of_getElem? hx);obtain rfl:q'=([],[]):=HZ.out _ (List.mem_of_getElem? hy);obtain⟨c0,c1,c2,c3,_⟩:=HRw.out.four hx;obtain⟨e0,e1,e2,e3,_⟩:=HRw.out.four hy;have hki:(K:Int)+1<(zs.length:Int):=by omega
    have hw1:IntKind.i64.wrap ((K:Int)+1-1)=(K:Int):=(IntWalk.i64_in _ (by omega)).trans (by omega);have hw2:IntKind.i64.wrap (K:Int)=(K:Int):=IntWalk.i64_in _ (by omega);have HG:=zh (And.intro (getL hx) (getL hy));clear hx hy;by_cases hdup:(a,d)=(a',d')
    ·obtain⟨rfl,rfl⟩:a=a'∧d=d':=⟨congrArg Prod.fst hdup,congrArg Prod.snd hdup⟩;clear hdup;go_wp2_with fail
     go_quiet (fail)
     go_wp2_with fail;have HST:Hid (CompInv zs.toArray (K+1+(0+1)) (K+1) zs.toArray):=zh (CompInv.start HJ.out (Go.Lib.keeps_neg (by omega) (by rw[HG.out.1,show K+1-1=K by omega,HG.out.2])));have HR0:=zh (HRw.out.below (Below.drewN (Below.refl _ _) nq));have HW0:=zh ((WrB.of_below HW.out [g]).trans (WrB.of_below (Below.drewN (Below.refl wr.heap.size wr) nq) [g]));clear c0 c1 c2 c3 e0 e1 e2 e3 hw1 hw2 hki HJ HRw HW HG;obtain⟨T,hT⟩:∃T,zs.length-(K+1)=T:=⟨_,rfl⟩;obtain⟨C,hC⟩:∃C,c-(K+1)=C:=⟨_,rfl⟩;rw[hT,hC];generalize hwg:wr.drewN nq=wg at *;clear hwg
     go_loopw [3,5] (fun kv jv wv=>∃ (kk m:Nat) (dk:Array Fx.Fix),kv=.int .i64 kk∧jv=.int .i64 ((m:Int)+1)∧K+1+(m+1)≤zs.length∧Hid (CompInv zs.toArray (K+1+(m+1)) kk dk∧RwC g dk.toList wv∧WrB [g] w wv)) (fun _ jv _=>zs.length-(K+1)-(intOf jv).toNat)
     case atStart=>exact⟨K+1,0,zs.toArray,by simp,rfl,by omega,zh ⟨HST.out,HR0.out,HW0.out⟩⟩
     case round =>
      obtain⟨kk,m,dk,rfl,rfl,hm,HI⟩:=hrel;have hkk:=HI.out.1.lt;have hds:dk.size=zs.length:=by have:=HI.out.1.size;simpa using this
      have hkl:kk<dk.toList.length:=by rw[Array.length_toList,hds];omega
      obtain⟨⟨⟨ao,do_⟩,⟨no,eo⟩⟩,ho⟩:∃x,dk.toList[kk]?=some x:=⟨_,List.getElem?_eq_getElem hkl⟩;obtain⟨o0,o1,o2,o3,f0,f1,f2,f3⟩:=HI.out.2.1.four ho;clear ho;by_cases hlt2:K+1+(m+1)<zs.length
      ·obtain⟨⟨⟨a,d⟩,q⟩,hx⟩:∃x,zs[K+1+(m+1)]?=some x:=⟨_,List.getElem?_eq_getElem hlt2⟩;obtain⟨⟨⟨a',d'⟩,q'⟩,hy⟩:∃x,zs[K+1+m]?=some x:=⟨_,List.getElem?_eq_getElem (by omega)⟩;obtain rfl:q=([],[]):=HZ.out _ (List.mem_of_getElem? hx);obtain rfl:q'=([],[]):=HZ.out _ (List.mem_of_getElem? hy);obtain⟨c0,c1,c2,c3,_⟩:=HI.out.2.1.four (arr_get hds (HI.out.1.high _ (by omega)) hx);obtain⟨e0,e1,e2,e3,_⟩:=HI.out.2.1.four (arr_get hds (HI.out.1.high _ (by omega)) hy);have HG:=zh (And.intro (getL hx) (getL hy));clear hx hy;rw[show (K+1+(m+1))*4=(K+1)*4+(m+1)*4 by omega]at c0 c1 c2 c3;rw[show (K+1+m)*4=(K+1)*4+m*4 by omega]at e0 e1 e2 e3;have hki:(m:Int)+1<(T:Int):=by omega
       have hk0:(0:Int)≤(m:Int)+1:=by omega
       have hk1:(m:Int)<(T:Int):=by omega
       have hw1:IntKind.i64.wrap ((m:Int)+1-1)=(m:Int):=(IntWalk.i64_in _ (by omega)).trans (by omega);have hw2:IntKind.i64.wrap (m:Int)=(m:Int):=IntWalk.i64_in _ (by omega);have hkz:(kk:Int)<(zs.length:Int):=by omega
       have hlt2':K+1+(m+1)<zs.toArray.size:=by simpa using hlt2
       have HI1:=zh HI.out.1;have HI2:=zh HI.out.2.1;have HI3:=zh HI.out.2.2
       clear HI;by_cases hdup:(a,d)=(a',d')
       ·obtain⟨rfl,rfl⟩:a=a'∧d=d':=⟨congrArg Prod.fst hdup,congrArg Prod.snd hdup⟩;clear hdup;go_wp2_with fail
        go_quiet (fail)
        go_wp2_with fail;go_roundw
        case rel=>exact⟨kk,m+1,dk,rfl,by go_num,by omega,zh ⟨HI1.out.skip (Go.Lib.keeps_neg (by omega) (by rw[HG.out.1,show K+1+(m+1)-1=K+1+m by omega,HG.out.2])),HI2.out.below (Below.drewN (Below.refl _ _) _),HI3.out.trans (WrB.of_below (Below.drewN (Below.refl _ _) _) _)⟩⟩
        case measure=>simp[intOf];omega
       ·have hne:((a==a')&&(d==d'))=false:=by
         cases e:((a==a')&&(d==d')) with
         | false=>rfl
         | true =>
          simp only[Bool.and_eq_true,beq_iff_eq]at e;exact absurd (Prod.ext e.1 e.2) hdup
        have HD:=zh hdup;clear hdup;by_cases ha:(a==a')=true
        ·have hd:(d==d')=false:=by rw[ha,Bool.true_and]at hne;exact hne
         have hdi:¬d=d':=fun e=>by rw[e]at hd;simp at hd
         clear hne;have hw3:IntKind.i64.wrap ((kk:Int)+1)=(kk:Int)+1:=IntWalk.i64_in _ (by omega);go_wp2_with fail
         go_quiet (fail)
         go_wp2_with fail;go_roundw
         case rel=>exact⟨kk+1,m+1,dk.setIfInBounds kk ((a,d),([],[])),by simp,by go_num,by omega,zh ⟨by have:=HI1.out.keep hlt2' (Go.Lib.keeps_pos (by rw[HG.out.1,show K+1+(m+1)-1=K+1+m by omega,HG.out.2];exact fun e=>HD.out (congrArg Prod.fst e)));rwa[HG.out.1]at this,by rw[Array.toList_setIfInBounds];exact(HI2.out.below (Below.drewN (Below.refl _ _) _)).set hkl a [] [] d,HI3.out.trans ((WrB.of_below (Below.drewN (Below.refl _ _) _) _).trans (wrK _ _ _ _ _ _ _ _ _ _))⟩⟩
         case measure=>simp[intOf];omega
        ·have ha:(a==a')=false:=by simpa using ha
         clear hne;have hw3:IntKind.i64.wrap ((kk:Int)+1)=(kk:Int)+1:=IntWalk.i64_in _ (by omega);go_wp2_with fail
         go_quiet (fail)
         go_wp2_with fail;go_roundw
         case rel=>exact⟨kk+1,m+1,dk.setIfInBounds kk ((a,d),([],[])),by simp,by go_num,by omega,zh ⟨by have:=HI1.out.keep hlt2' (Go.Lib.keeps_pos (by rw[HG.out.1,show K+1+(m+1)-1=K+1+m by omega,HG.out.2];exact fun e=>HD.out (congrArg Prod.fst e)));rwa[HG.out.1]at this,by rw[Array.toList_setIfInBounds];exact(HI2.out.below (Below.drewN (Below.refl _ _) _)).set hkl a [] [] d,HI3.out.trans ((WrB.of_below (Below.drewN (Below.refl _ _) _) _).trans (wrK _ _ _ _ _ _ _ _ _ _))⟩⟩
         case measure=>simp[intOf];omega
      ·obtain hend:K+1+(m+1)=zs.length:=by omega
       have hcl:∀ty,(Builtin.clear_ #[24] ty #[.slice (some ⟨g,kk*4,none⟩) (zs.length-kk) (c-kk)]).run Tryz.prog wr=.ok (.tuple #[]) (wr.setCells g (kk*4) (Builtin.zeroCells #[.string ⟨#[]⟩,.int .i64 0,.string ⟨#[]⟩,.string ⟨#[]⟩] (zs.length-kk)).toList) :=
        fun ty=>run_clear_k wr _ _ ty (.agg #[.string ⟨#[]⟩,.int .i64 0,.string ⟨#[]⟩,.string ⟨#[]⟩]) Tryz.underlying24 zero_fix g (kk*4) (zs.length-kk) (c-kk) (by omega) (by intro v hv;simp only[Value.cells]at hv;simp at hv;rcases hv with rfl|rfl|rfl<;>rfl) (by decide) (fun j hj=>by
         have hj:j<(zs.length-kk)*4:=hj;rw[(RwC.any HI.out.2.1 (k:=kk*4+j) (by rw[Array.length_toList,hds];omega)).choose_spec.1];rfl) (fun j hj=>by
         have hj:j<(zs.length-kk)*4:=hj;exact(RwC.any HI.out.2.1 (k:=kk*4+j) (by rw[Array.length_toList,hds];omega)).choose_spec.2)
       have HL:Hid ((Go.Lib.compact zs).length=kk):=zh (by
        have:=HI.out.1.len;rw[hend]at this;exact this)
       have HF:Hid (Fxs (wr.setCells g (kk*4) (Builtin.zeroCells #[.string ⟨#[]⟩,.int .i64 0,.string ⟨#[]⟩,.string ⟨#[]⟩] (zs.length-kk)).toList) (some ⟨g,0,none⟩) (Go.Lib.compact zs)):=zh fun j x hx=>by
        have hjk:j<kk:=by rw[←HL.out];exact(List.getElem?_eq_some_iff.1 hx).1
        have hlow:=HI.out.1.low j hjk;rw[hend]at hlow;have hx2:some x=some dk[j]! := hx.symm.trans hlow;have hj':j<dk.size:=by omega
        have hxd:dk.toList[j]?=some x:=by
         rw[Array.getElem?_toList,Array.getElem?_eq_getElem hj',Option.some.inj hx2,getElem!_pos dk j hj']
        refine⟨g,0,rfl,by have:=(wr_cells g (Builtin.zeroCells #[.string ⟨#[]⟩,.int .i64 0,.string ⟨#[]⟩,.string ⟨#[]⟩] (zs.length-kk)).toList (kk*4) wr).size;exact Nat.lt_of_lt_of_le HI.out.2.1.lt this,fun i v hv=>?_⟩;have hi:i<4:=(List.getElem?_eq_some_iff.1 hv).1;rw[World.cell?_setCells_out g _ _ _ _ (fun _ _=>.inl (by show 0+j*4+i<kk*4;omega)),Nat.zero_add];exact(HI.out.2.1.c j x i v hxd hv).1
       have HW:=zh (HI.out.2.2.trans (wr_cells g (Builtin.zeroCells #[.string ⟨#[]⟩,.int .i64 0,.string ⟨#[]⟩,.string ⟨#[]⟩] (zs.length-kk)).toList (kk*4) wr));have hck:¬c=kk:=by omega
       have i1:(kk:Int)≤(zs.length:Int):=by omega
       have i2:(zs.length:Int)≤(c:Int):=by omega
       have i3:kk≤zs.length:=by omega
       have i4:kk≤c:=by omega
       have i5:(kk:Int)≤(c:Int):=by omega
       have hki:¬(m:Int)+1<(T:Int):=by omega
       clear HI hkk hds hkl hT hC hm hend o0 o1 o2 o3 f0 f1 f2 f3;go_wp2_with fail;go_ret;exact⟨by rw[HL.out];rfl,HF.out,HW.out⟩
    ·have HD:=zh hdup;have hne:((a==a')&&(d==d'))=false:=by
      cases e:((a==a')&&(d==d')) with
      | false=>rfl
      | true =>
       simp only[Bool.and_eq_true,beq_iff_eq]at e;exact absurd (Prod.ext e.1 e.2) hdup
     clear hdup;by_cases ha:(a==a')=true
     ·have hd:(d==d')=false:=by rw[ha,Bool.true_and]at hne;exact hne
      have hdi:¬d=d':=fun e=>by rw[e]at hd;simp at hd
      clear hne;go_wp2_with fail
      go_quiet (fail)
      go_wp2_with fail;go_roundw
      case rel=>exact⟨K+1,by omega,by go_num,zh fun j hj=>by
       by_cases e:j=K+1
       ·subst e;exact Go.Lib.keeps_pos (by rw[HG.out.1,show K+1-1=K by omega,HG.out.2];exact fun e=>HD.out (congrArg Prod.fst e))
       ·exact HJ.out j (by omega),Below.more HW.out (Below.drewN (Below.refl _ _) _)⟩
      case measure=>simp[intOf];omega
     ·have ha:(a==a')=false:=by simpa using ha
      clear hne;go_wp2_with fail
      go_quiet (fail)
      go_wp2_with fail;go_roundw
      case rel=>exact⟨K+1,by omega,by go_num,zh fun j hj=>by
       by_cases e:j=K+1
       ·subst e;exact Go.Lib.keeps_pos (by rw[HG.out.1,show K+1-1=K by omega,HG.out.2];exact fun e=>HD.out (congrArg Prod.fst e))
       ·exact HJ.out j (by omega),Below.more HW.out (Below.drewN (Below.refl _ _) _)⟩
      case measure=>simp[intOf];omega
   ·have hki:¬(K:Int)+1<(zs.length:Int):=by omega
    have HC:=zh (HALL.out fun j hj=>HJ.out j (by omega));go_wp2_with fail;go_ret;exact⟨by rw[HC.out];rfl,by rw[HC.out];exact HRw.out.rows,WrB.of_below HW.out _⟩
end Go.Proofs.YtghioekjghmdaaaGreatDoor
