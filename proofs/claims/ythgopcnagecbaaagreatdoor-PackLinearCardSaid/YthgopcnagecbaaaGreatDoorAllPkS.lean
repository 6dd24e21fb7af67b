/- Own work. -/
import Derived.Test.YthgopcnagecbaaaGreatDoorSortL
import Derived.Test.YthgopcnagecbaaaGreatDoorAllPk1
set_option linter.unusedSimpArgs false
set_option linter.unusedVariables false
namespace Go.Proofs.YthgopcnagecbaaaGreatDoor
open Go.RowKit Go.Sort Go.Shelf
open Pk (Part Pack lessT)
def cfT(x y:Part):Int:=Lib.compareBytes x.1 y.1
theorem lt_cfT(x y:Part):ltOf cfT x y=lessT x y:=by
 unfold ltOf cfT lessT;rcases less_cases x.1 y.1 with h|h|h
 ·rw[cmp_lt h,h];rfl
 ·rw[h,cmp_self,less_irrefl];rfl
 ·rw[cmp_gt h];have:Op.bytesLess x.1 y.1=false:=by
   cases e:Op.bytesLess x.1 y.1 with
   | false=>rfl
   | true=>have:=less_trans e h;rw[less_irrefl]at this;cases this
  rw[this];rfl
theorem swoT:SWO (ltOf cfT) where
 irrefl x:=by rw[lt_cfT];exact less_irrefl _
 trans x y z h k:=by rw[lt_cfT]at *;exact less_trans h k
 ntrans x y z h k:=by
  rw[lt_cfT]at *;unfold lessT at *;rcases less_cases x.1 y.1 with c|c|c
  ·rw[c]at h;cases h
  ·rw[c];exact k
  ·rcases less_cases y.1 z.1 with c2|c2|c2
   ·rw[c2]at k;cases k
   ·rw[←c2];exact h
   ·cases e:Op.bytesLess x.1 z.1 with
    | false=>rfl
    | true=>have:=less_trans (less_trans e c2) c;rw[less_irrefl]at this;cases this
theorem cmpT(blk off size:Nat)(w:World):CmpLays Tryz.prog 43 #[] encPt 3 cfT blk off size w:=fun m os dk _ x y=>by
 obtain⟨a,⟨n,d⟩⟩:=x;obtain⟨c,⟨k,e⟩⟩:=y;refine(orderG_any a n d c k e _).mono ?_;rintro e' w' ⟨rfl,q,ot,rfl⟩;exact⟨rfl,q,ot,rfl⟩
theorem isAggT(w:World):(isAgg 45).run Tryz.prog w=.ok true w:=by kernel_rfl
theorem sizeT(w:World):(Go.sizeOf 45).run Tryz.prog w=.ok 3 w:=by kernel_rfl
theorem enters_orderT:∀ (args:Array Value) (w:World),(callFunc 43 args).run Tryz.prog w=.ok (.enter 43 args) w:=enters_of Tryz.func43 (by kernel_rfl) rfl
theorem holdsG_ofP{α:Type}[Inhabited α]{enc:α→List Value}{k:Nat}(hk:∀x,(enc x).length=k)(h0:0<k){w:World}{g:Nat}{ls:List α}{cur:Array Value}{e:TypeId}(hg:w.heap[g]?=some (.cells cur e (0,0)))(h:RowsG enc k w (some ⟨g,0,none⟩) ls):HoldsK enc k w g 0 ls.toArray:=fun j hj=>by
 rw[size_flatK]at hj;have hj:j<ls.length*k:=hj;have hq:j / k<ls.length:=(Nat.div_lt_iff_lt_mul h0).2 hj;have hr:j % k<k:=Nat.mod_lt _ h0;obtain⟨b,o,hp,hl,c⟩:=h (j / k) _ (List.getElem?_eq_getElem hq)
 cases hp
 have e1:(ls.toArray)[j / k]! = ls[j / k]:=by rw[getElem!_pos ls.toArray (j / k) (by simpa using hq)];rfl
 rw[get_flatK _ _ _ _ (by simpa using hj),e1];refine⟨?_,by simp[World.frozen?,hg]⟩;have hx:(enc ls[j / k])[j % k]?=some ((enc ls[j / k])[j % k]!):=by
  rw[List.getElem!_eq_getElem?_getD,List.getElem?_eq_getElem (by rw[hk];exact hr)];rfl
 have:=c (j % k) _ hx;rw[Nat.zero_add]at this ⊢;rw[show j / k*k+j % k=j by rw[Nat.mul_comm];exact Nat.div_add_mod j k]at this;exact this
theorem rows_ofGP{α:Type}[Inhabited α]{enc:α→List Value}{k:Nat}(hk:∀x,(enc x).length=k){w:World}{g:Nat}{d:Array α}(h:HoldsK enc k w g 0 d)(hg:g<w.heap.size):RowsG enc k w (some ⟨g,0,none⟩) d.toList:=fun j x hx=>by
 obtain⟨hj,e⟩:=List.getElem?_eq_some_iff.1 hx;have hj':j<d.size:=by simpa using hj
 have e1:d[j]! = x:=by rw[getElem!_pos d j hj'];rw[←e];rfl
 refine⟨g,0,rfl,hg,fun i v hv=>?_⟩;have hi:i<k:=by rw[←hk x];exact(List.getElem?_eq_some_iff.1 hv).1
 have c:=(HoldsK.cell h hj' hi).1;rw[e1,List.getElem!_eq_getElem?_getD,hv,Nat.zero_add]at c;rw[Nat.zero_add];exact c
theorem sortW_ownP{blk off m:Nat}{α:Type}[Inhabited α]{enc:α→List Value}{k:Nat}{w:World}{d:Array α}{os:Array Obj}(hb:blk<w.heap.size):w.grownBy (sortWorldK enc k w blk off m d os) (some blk):=by
 refine⟨rfl,rfl,rfl,size_sortWorldK_c enc k w blk off m d os,fun j hk hne=>?_⟩;unfold sortWorldK putRowK putRow mapBlock Go.Sort.ahead grow;simp only[Array.getElem?_append,Array.size_modify,hk,if_true,Array.getElem?_modify];rw[if_neg (fun e=>hne (by rw[e]))]
theorem psortT_any{B:Nat}(v:Value)(ls:List Part)(w:World)(h:OwnG encPt 3 45 B w v ls)(hl:ls.length≤1000000) :
  Calls Tryz.prog 75 #[v,.func (.func 43) #[] #[]] w fun e w'=>e=.returned (.tuple #[])∧(∃p c m,v=.slice p m.length c∧m.length≤c∧m.Perm ls∧m.Pairwise (fun x y=>lessT y x=false)∧Pts w' p m)∧w.grownBy w' v.ownBlock:=by
 obtain⟨p,c,rfl,hc,hL,hf⟩:=ownG_rows (enc:=encPt) (k:=3) (fun _=>rfl) h;rcases h.2 with ⟨hv,h0⟩|⟨g,cap,cur,hv,k2,k3,k4,k5⟩
 ·have:ls=[]:=List.length_eq_zero_iff.1 h0;subst this
  cases hv
  have k:=AnyF.slices_SortFunc_none Tryz.sortLn none 0 (.func (.func 43) #[] #[]) w
  change Calls Tryz.prog 75 _ _ _ at k
  refine k.mono ?_;rintro e w' ⟨rfl,rfl⟩;exact⟨rfl,⟨none,0,[],rfl,Nat.le_refl _,List.Perm.refl _,List.Pairwise.nil,RowsG.nil _ _⟩,⟨rfl,rfl,rfl,Nat.le_refl _,fun _ _ _=>rfl⟩⟩
 ·cases hv
  have hg:g<w.heap.size:=(Array.getElem?_eq_some_iff.1 k3).1;have hH:=holdsG_ofP (enc:=encPt) (k:=3) (fun _=>rfl) (by decide) k3 hL;have k:=AnyQ.slices_SortFunc Tryz.sortLn 3 (fun w=>isAggT w) (fun w=>sizeT w) encPt (fun _=>rfl) encPt_one cfT swoT 43 #[] g 0 c ls.toArray w enters_orderT (cmpT _ _ _ _) hH hg (by rw[List.size_toArray];omega)
  change Calls Tryz.prog 75 _ _ _ at k
  rw[List.size_toArray]at k;refine k.mono ?_;rintro e w' ⟨rfl,d,n,os,hp,hs,rfl⟩;have hsz:d.size=ls.length:=by rw[hp.1,List.size_toArray]
  have hperm:d.toList.Perm ls:=by
   have k:=hp.2.2;have e1:(d.extract 0 ls.length).toList=d.toList:=by rw[←hsz,Array.extract_size]
   have e2:(ls.toArray.extract 0 ls.length).toList=ls:=by simp
   rw[e1,e2]at k;exact k
  have hpw:d.toList.Pairwise (fun x y=>lessT y x=false):=List.pairwise_iff_getElem.2 fun i j hi hj hij=>by
   have hi':i<d.size:=by simpa using hi
   have hj':j<d.size:=by simpa using hj
   have hs:SortedIn (ltOf cfT) 0 d.size d:=by rw[hsz];exact hs
   have k:=hs i j (Nat.zero_le _) hij hj';rw[lt_cfT,getElem!_pos d i hi',getElem!_pos d j hj']at k;exact k
  have hN:=holdsK_sortWorldK_c encPt 3 w g 0 ls.toArray d n os hH hg (by rw[hsz,List.size_toArray]);have hlen:d.toList.length=ls.length:=by rw[Array.length_toList];exact hsz
  exact⟨rfl,⟨some ⟨g,0,none⟩,c,d.toList,by rw[hlen],by rw[hlen];exact hc,hperm,hpw,rows_ofGP (enc:=encPt) (k:=3) (fun _=>rfl) hN (Nat.lt_of_lt_of_le hg (size_sortWorldK_c encPt 3 w g 0 n d os))⟩,sortW_ownP hg⟩
end Go.Proofs.YthgopcnagecbaaaGreatDoor
