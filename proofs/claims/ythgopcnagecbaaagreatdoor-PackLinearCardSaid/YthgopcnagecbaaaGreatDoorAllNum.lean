/- Own work. -/
import Derived.Lib.Hide
import Derived.Lib.Bytealg
import Derived.Lib.ItoaNum
import Derived.Lib.AtoiAll
namespace Go.Proofs.YthgopcnagecbaaaGreatDoor
theorem zh{p:Prop}(h:p):Go.RowKit.Hid p:=h
theorem qA.{u}{α:Type u}{xs:List α}{i:Nat}(h:i<xs.toArray.size):xs.toArray[i]=xs[i]'h:=rfl
theorem qB.{u}{α:Type u}(a:α)(as:List α)(i:Nat)(h:i+1<(a::as).length):(a::as)[i+1]=as[i]'(Nat.lt_of_succ_lt_succ h):=rfl
theorem qC.{u}{α:Type u}(a:α)(as:List α)(h:0<(a::as).length):(a::as)[0]=a:=rfl
theorem qD.{u}{α:Type u}(l:List α)(i:Nat)(a:α):l.toArray.setIfInBounds i a=(l.set i a).toArray:=List.setIfInBounds_toArray l i a
theorem qE.{u}{α:Type u}{x:α}{xs:List α}{a:α}:(x::xs).set 0 a=a::xs:=rfl
theorem qF.{u}{α:Type u}{x:α}{xs:List α}{i:Nat}{a:α}:(x::xs).set (i+1) a=x::xs.set i a:=rfl
def Bp(k:Nat):Nat:=1000000000 ^ k
theorem Bp_zero:Bp 0=1:=rfl
theorem Bp_succ(k:Nat):Bp (k+1)=1000000000*Bp k:=by unfold Bp;rw[Nat.pow_succ,Nat.mul_comm]
theorem Bp_pos(k:Nat):0<Bp k:=Nat.pow_pos (by decide)
theorem Bp_add(i j:Nat):Bp (i+j)=Bp i*Bp j:=Nat.pow_add _ _ _
theorem Bp_mono{i j:Nat}(h:i≤j):Bp i≤Bp j:=Nat.pow_le_pow_right (by decide) h
def sumTo(f:Nat→Nat):Nat→Nat
 | 0=>0
 | k+1=>sumTo f k+f k*Bp k
def gl(xs:List Nat)(j:Nat):Nat:=xs[j]?.getD 0
def valL(xs:List Nat):Nat:=sumTo (gl xs) xs.length
def Small(xs:List Nat):Prop:=∀x∈xs,x<1000000000
def Norm(xs:List Nat):Prop:=xs≠[]→xs[xs.length-1]?.getD 0≠0
def top:Nat:=1073741824
theorem top_eq:top=1073741824:=rfl
structure Big(n:Nat):Prop where
 lt:n<Bp top
theorem gl_eq(xs:List Nat)(j:Nat):xs[j]?.getD 0=gl xs j:=rfl
theorem gl_beyond{xs:List Nat}{j:Nat}(h:xs.length≤j):gl xs j=0:=by unfold gl;rw[List.getElem?_eq_none h];rfl
theorem gl_set_same{xs:List Nat}{j v:Nat}(h:j<xs.length):gl (xs.set j v) j=v:=by unfold gl;simp[h]
theorem gl_set_other{xs:List Nat}{i j v:Nat}(h:i≠j):gl (xs.set i v) j=gl xs j:=by unfold gl;rw[List.getElem?_set_ne h]
theorem Small.gl{xs:List Nat}(h:Small xs)(j:Nat):gl xs j<1000000000:=by
 unfold Go.Proofs.YthgopcnagecbaaaGreatDoor.gl;by_cases hj:j<xs.length
 ·rw[List.getElem?_eq_getElem hj];exact h _ (List.getElem_mem hj)
 ·rw[List.getElem?_eq_none (by omega)];decide
theorem Small.nil:Small []:=fun _ h=>by cases h
theorem Small.of_gl{xs:List Nat}(h:∀j,j<xs.length→Go.Proofs.YthgopcnagecbaaaGreatDoor.gl xs j<1000000000):Small xs:=fun x hx=>by
 obtain⟨j,hj,rfl⟩:=List.mem_iff_getElem.1 hx;have:=h j hj;unfold Go.Proofs.YthgopcnagecbaaaGreatDoor.gl at this
 rwa[List.getElem?_eq_getElem hj]at this
theorem Small.set{xs:List Nat}(h:Small xs){i v:Nat}(hv:v<1000000000):Small (xs.set i v):=fun x hx=>by
 rcases List.mem_or_eq_of_mem_set hx with h1|rfl
 ·exact h _ h1
 ·exact hv
theorem Small.zeros(n:Nat):Small (List.replicate n 0):=fun x hx=>by rw[List.eq_of_mem_replicate hx];decide
theorem Small.take{xs:List Nat}(h:Small xs)(n:Nat):Small (xs.take n):=fun _ hx=>h _ (List.mem_of_mem_take hx)
theorem Small.drop{xs:List Nat}(h:Small xs)(n:Nat):Small (xs.drop n):=fun _ hx=>h _ (List.mem_of_mem_drop hx)
theorem gl_zeros(n j:Nat):gl (List.replicate n 0) j=0:=by
 unfold gl;by_cases h:j<n<;>simp[h]
theorem gl_take{xs:List Nat}{n j:Nat}(h:j<n):gl (xs.take n) j=gl xs j:=by unfold gl;rw[List.getElem?_take,if_pos h]
theorem gl_drop(xs:List Nat)(n j:Nat):gl (xs.drop n) j=gl xs (n+j):=by unfold gl;rw[List.getElem?_drop]
theorem sumTo_congr{f g:Nat→Nat}{k:Nat}(h:∀j,j<k→f j=g j):sumTo f k=sumTo g k:=by
 induction k with
 | zero=>rfl
 | succ k ih=>rw[sumTo,sumTo,ih (fun j hj=>h j (by omega)),h k (by omega)]
theorem sumTo_zero{f:Nat→Nat}{k:Nat}(h:∀j,j<k→f j=0):sumTo f k=0:=by
 induction k with
 | zero=>rfl
 | succ k ih=>rw[sumTo,ih (fun j hj=>h j (by omega)),h k (by omega)];simp
theorem sumTo_more{f:Nat→Nat}{n k:Nat}(h:n≤k)(hz:∀j,n≤j→f j=0):sumTo f k=sumTo f n:=by
 obtain⟨d,rfl⟩:=Nat.exists_eq_add_of_le h;clear h
 induction d with
 | zero=>rfl
 | succ d ih=>rw[←Nat.add_assoc,sumTo,ih,hz _ (by omega)];simp
theorem valL_to{xs:List Nat}{k:Nat}(h:xs.length≤k):sumTo (gl xs) k=valL xs:=sumTo_more h (fun _ hj=>gl_beyond hj)
theorem sumTo_set{xs:List Nat}{i k v:Nat}(h:k≤i):sumTo (gl (xs.set i v)) k=sumTo (gl xs) k :=
 sumTo_congr (fun j hj=>gl_set_other (by omega))
theorem sumTo_lt{f:Nat→Nat}{k:Nat}(h:∀j,j<k→f j<1000000000):sumTo f k<Bp k:=by
 induction k with
 | zero=>simp[sumTo,Bp_zero]
 | succ k ih =>
  rw[sumTo,Bp_succ];have h1:=ih (fun j hj=>h j (by omega));have h2:=h k (by omega);have h3:f k*Bp k≤999999999*Bp k:=Nat.mul_le_mul_right _ (by omega);omega
theorem valL_lt{xs:List Nat}(h:Small xs):valL xs<Bp xs.length:=sumTo_lt (fun j _=>h.gl j)
theorem valL_nil:valL []=0:=rfl
theorem sumTo_split(f:Nat→Nat)(i k:Nat):sumTo f (i+k)=sumTo f i+Bp i*sumTo (fun j=>f (i+j)) k:=by
 induction k with
 | zero=>simp[sumTo]
 | succ k ih =>
  rw[←Nat.add_assoc,sumTo,ih,sumTo,Bp_add,Nat.mul_add,Nat.add_assoc]
  congr 2
  rw[Nat.mul_comm (Bp i),Nat.mul_comm (Bp i),Nat.mul_assoc]
theorem sumTo_mono(f:Nat→Nat){i k:Nat}(h:i≤k):sumTo f i≤sumTo f k:=by
 obtain⟨d,rfl⟩:=Nat.exists_eq_add_of_le h;rw[sumTo_split];exact Nat.le_add_right _ _
theorem Norm.nil:Norm []:=fun h=>absurd rfl h
theorem Norm.ge{xs:List Nat}(h:Norm xs)(hn:xs≠[]):Bp (xs.length-1)≤valL xs:=by
 have hl:0<xs.length:=List.length_pos_iff.2 hn;have h1:=h hn;unfold valL;obtain⟨k,hk⟩:∃k,xs.length=k+1:=⟨xs.length-1,by omega⟩;rw[hk,sumTo];rw[hk]at h1;simp only[Nat.add_sub_cancel]at h1 ⊢;have h2:1*Bp k≤gl xs k*Bp k:=Nat.mul_le_mul_right _ (by rw[gl_eq]at h1;omega);omega
theorem Norm.len_le{xs:List Nat}(h:Norm xs){k:Nat}(hv:valL xs<Bp k):xs.length≤k:=by
 by_cases hn:xs=[]
 ·subst hn;simp
 ·have h1:=h.ge hn;rcases Nat.lt_or_ge k xs.length with h2|h2
  ·have:=Bp_mono (i:=k) (j:=xs.length-1) (by omega);omega
  ·exact h2
theorem Norm.big{xs:List Nat}(h:Norm xs)(hb:Big (valL xs)):xs.length≤1073741824:=h.len_le hb.lt
theorem lt_of_shorter{xs ys:List Nat}(hx:Small xs)(hy:Norm ys)(h:xs.length<ys.length):valL xs<valL ys:=by
 have h1:=valL_lt hx;have h2:=hy.ge (by intro e;rw[e]at h;simp at h);have:=Bp_mono (i:=xs.length) (j:=ys.length-1) (by omega);omega
theorem dm(n:Nat):n % 1000000000+1000000000*(n / 1000000000)=n:=Nat.mod_add_div _ _
theorem mod_b(n:Nat):n % 1000000000<1000000000:=Nat.mod_lt _ (by decide)
theorem cast_mod(n:Nat):((n % 1000000000:Nat):Int)=(n:Int) % 1000000000:=by omega
theorem cast_div(n:Nat):((n / 1000000000:Nat):Int)=(n:Int) / 1000000000:=by omega
def AddRel(xs ys:List Nat)(t:Nat)(zs:List Nat)(k cy:Nat):Prop :=
 zs.length=xs.length∧Small zs∧cy≤t∧sumTo (gl zs) k+cy*Bp k=sumTo (gl xs) k+t*sumTo (gl ys) k∧∀j,k≤j→gl zs j=gl xs j
theorem AddRel.start{xs:List Nat}(ys:List Nat)(t:Nat)(h:Small xs):AddRel xs ys t xs 0 0:=⟨rfl,h,by omega,by simp[sumTo],fun _ _=>rfl⟩
theorem AddRel.lt{xs ys:List Nat}{t:Nat}{zs:List Nat}{k cy:Nat}(h:AddRel xs ys t zs k cy)(hy:Small ys):gl ys k*t≤999999999*t∧gl zs k≤999999999∧cy≤t:=by
 have h1:=hy.gl k;have h2:=h.2.1.gl k;exact⟨Nat.mul_le_mul_right _ (by omega),by omega,h.2.2.1⟩
theorem AddRel.step{xs ys:List Nat}{t:Nat}{zs:List Nat}{k cy:Nat}(h:AddRel xs ys t zs k cy)(hy:Small ys)(hk:k<xs.length) :
  AddRel xs ys t (zs.set k ((gl zs k+gl ys k*t+cy) % 1000000000)) (k+1) ((gl zs k+gl ys k*t+cy) / 1000000000):=by
 obtain⟨b1,b2,b3⟩:=h.lt hy;obtain⟨h1,h2,h3,h4,h5⟩:=h;obtain⟨A,hA⟩:∃A,gl zs k+gl ys k*t+cy=A:=⟨_,rfl⟩;rw[hA];refine⟨by rw[List.length_set];exact h1,h2.set (mod_b _),by omega,?_,fun j hj=>?_⟩
 ·rw[sumTo,sumTo,sumTo,sumTo_set (Nat.le_refl k),gl_set_same (by omega),Bp_succ,Nat.mul_add,← Nat.add_assoc];have e1:A % 1000000000*Bp k+A / 1000000000*(1000000000*Bp k)=A*Bp k:=by
   rw[←Nat.mul_assoc,← Nat.add_mul]
   congr 1
   have:=dm A;omega
  have e2:A*Bp k=gl xs k*Bp k+t*(gl ys k*Bp k)+cy*Bp k:=by
   rw[←hA,← h5 k (Nat.le_refl k),Nat.add_mul,Nat.add_mul,Nat.mul_comm (gl ys k) t,Nat.mul_assoc]
  omega
 ·rw[gl_set_other (by omega),h5 j (by omega)]
theorem AddRel.done{xs ys:List Nat}{t:Nat}{zs:List Nat}{n cy:Nat}(h:AddRel xs ys t zs n cy)(hx:xs.length=n)(hy:ys.length=n) :
  zs.length=n∧Small zs∧cy≤t∧valL zs+cy*Bp n=valL xs+t*valL ys:=by
 obtain⟨h1,h2,h3,h4,_⟩:=h;refine⟨by omega,h2,h3,?_⟩;unfold valL;rw[h1,hx,hy];exact h4
def TakeRel(xs ys:List Nat)(t:Nat)(zs:List Nat)(k bw:Nat):Prop :=
 zs.length=xs.length∧Small zs∧bw≤t+1∧sumTo (gl zs) k+t*sumTo (gl ys) k=sumTo (gl xs) k+bw*Bp k∧∀j,k≤j→gl zs j=gl xs j
theorem TakeRel.start{xs:List Nat}(ys:List Nat)(t:Nat)(h:Small xs):TakeRel xs ys t xs 0 0:=⟨rfl,h,by omega,by simp[sumTo],fun _ _=>rfl⟩
theorem TakeRel.lt{xs ys:List Nat}{t:Nat}{zs:List Nat}{k bw:Nat}(h:TakeRel xs ys t zs k bw)(hy:Small ys):gl ys k*t≤999999999*t∧gl zs k≤999999999∧bw≤t+1:=by
 have h1:=hy.gl k;have h2:=h.2.1.gl k;exact⟨Nat.mul_le_mul_right _ (by omega),by omega,h.2.2.1⟩
theorem TakeRel.step{xs ys:List Nat}{t:Nat}{zs:List Nat}{k bw z c:Nat}(h:TakeRel xs ys t zs k bw)(hy:Small ys)(hk:k<xs.length)(hz:z<1000000000)
  (he:z+(gl ys k*t+bw)=gl zs k+1000000000*c):TakeRel xs ys t (zs.set k z) (k+1) c:=by
 obtain⟨b1,b2,b3⟩:=h.lt hy;obtain⟨h1,h2,h3,h4,h5⟩:=h;refine⟨by rw[List.length_set];exact h1,h2.set hz,by omega,?_,fun j hj=>?_⟩
 ·rw[sumTo,sumTo,sumTo,sumTo_set (Nat.le_refl k),gl_set_same (by omega),Bp_succ,Nat.mul_add,← h5 k (Nat.le_refl k)];have e1:(z+(gl ys k*t+bw))*Bp k=(gl zs k+1000000000*c)*Bp k:=by rw[he]
  rw[Nat.add_mul,Nat.add_mul,Nat.add_mul,Nat.mul_comm (gl ys k) t,Nat.mul_assoc t]at e1;have e2:c*(1000000000*Bp k)=1000000000*c*Bp k:=by rw[←Nat.mul_assoc,Nat.mul_comm c]
  omega
 ·rw[gl_set_other (by omega),h5 j (by omega)]
theorem TakeRel.done{xs ys:List Nat}{t:Nat}{zs:List Nat}{n bw:Nat}(h:TakeRel xs ys t zs n bw)(hx:xs.length=n)(hy:ys.length=n) :
  zs.length=n∧Small zs∧bw≤t+1∧valL zs+t*valL ys=valL xs+bw*Bp n:=by
 obtain⟨h1,h2,h3,h4,_⟩:=h;refine⟨by omega,h2,h3,?_⟩;unfold valL;rw[h1,hx,hy];exact h4
def SumRel(xs ys:List Nat)(n:Nat)(zs:List Nat)(k cy:Nat):Prop :=
 zs.length=n∧Small zs∧cy≤1∧sumTo (gl zs) k+cy*Bp k=sumTo (gl xs) k+sumTo (gl ys) k
theorem SumRel.start(xs ys:List Nat)(n:Nat):SumRel xs ys n (List.replicate n 0) 0 0:=⟨List.length_replicate,Small.zeros n,by omega,by simp[sumTo]⟩
theorem SumRel.step{xs ys:List Nat}{n:Nat}{zs:List Nat}{k cy:Nat}(h:SumRel xs ys n zs k cy)(hx:Small xs)(hy:Small ys)(hk:k<n) :
  SumRel xs ys n (zs.set k ((gl xs k+gl ys k+cy) % 1000000000)) (k+1) ((gl xs k+gl ys k+cy) / 1000000000):=by
 obtain⟨h1,h2,h3,h4⟩:=h;have b1:=hx.gl k;have b2:=hy.gl k;obtain⟨A,hA⟩:∃A,gl xs k+gl ys k+cy=A:=⟨_,rfl⟩;rw[hA];refine⟨by rw[List.length_set];exact h1,h2.set (mod_b _),by omega,?_⟩;rw[sumTo,sumTo,sumTo,sumTo_set (Nat.le_refl k),gl_set_same (by omega),Bp_succ];have e1:A % 1000000000*Bp k+A / 1000000000*(1000000000*Bp k)=A*Bp k:=by
  rw[←Nat.mul_assoc,← Nat.add_mul]
  congr 1
  have:=dm A;omega
 have e2:A*Bp k=gl xs k*Bp k+gl ys k*Bp k+cy*Bp k:=by rw[←hA,Nat.add_mul,Nat.add_mul]
 omega
theorem SumRel.done{xs ys:List Nat}{m:Nat}{zs:List Nat}{cy:Nat}(h:SumRel xs ys (m+1) zs (m+1) cy)(hx:Small xs)(hy:Small ys)(h1:xs.length≤m)(h2:ys.length≤m) :
  zs.length=m+1∧Small zs∧valL zs=valL xs+valL ys:=by
 obtain⟨l1,l2,l3,l4⟩:=h;rw[valL_to (xs:=zs) (by omega),valL_to (xs:=xs) (by omega),valL_to (xs:=ys) (by omega),Bp_succ]at l4;have b1:valL xs<Bp m:=Nat.lt_of_lt_of_le (valL_lt hx) (Bp_mono h1);have b2:valL ys<Bp m:=Nat.lt_of_lt_of_le (valL_lt hy) (Bp_mono h2);refine⟨l1,l2,?_⟩;rcases Nat.eq_zero_or_pos cy with rfl|hc
 ·omega
 ·obtain rfl:cy=1:=by omega
  omega
def DiffRel(xs ys:List Nat)(n:Nat)(zs:List Nat)(k bw:Nat):Prop :=
 zs.length=n∧Small zs∧bw≤1∧sumTo (gl zs) k+sumTo (gl ys) k+bw*Bp k=sumTo (gl xs) k+2*bw*Bp k
theorem DiffRel.start(xs ys:List Nat)(n:Nat):DiffRel xs ys n (List.replicate n 0) 0 0:=⟨List.length_replicate,Small.zeros n,by omega,by simp[sumTo]⟩
theorem DiffRel.step{xs ys:List Nat}{n:Nat}{zs:List Nat}{k bw:Nat}(h:DiffRel xs ys n zs k bw)(hx:Small xs)(hy:Small ys)(hk:k<n) :
  DiffRel xs ys n (zs.set k ((gl xs k+1000000000-gl ys k-bw) % 1000000000)) (k+1) (1-(gl xs k+1000000000-gl ys k-bw) / 1000000000):=by
 obtain⟨h1,h2,h3,h4⟩:=h;have b1:=hx.gl k;have b2:=hy.gl k;obtain⟨A,hA⟩:∃A,gl xs k+1000000000-gl ys k-bw=A:=⟨_,rfl⟩;rw[hA];refine⟨by rw[List.length_set];exact h1,h2.set (mod_b _),by omega,?_⟩;rw[sumTo,sumTo,sumTo,sumTo_set (Nat.le_refl k),gl_set_same (by omega),Bp_succ];have hq:A / 1000000000=0∨A / 1000000000=1:=by omega
 have e2:(A+gl ys k+bw)*Bp k=(gl xs k+1000000000)*Bp k:=by congr 1;omega
 rw[Nat.add_mul,Nat.add_mul,Nat.add_mul]at e2;have e3:2*bw*Bp k=2*(bw*Bp k):=Nat.mul_assoc _ _ _;rcases hq with hq|hq
 ·rw[hq,show A % 1000000000=A from by omega];omega
 ·rw[hq];have e1:A % 1000000000*Bp k+1000000000*Bp k=A*Bp k:=by rw[←Nat.add_mul];congr 1;omega
  omega
theorem DiffRel.done{xs ys:List Nat}{n:Nat}{zs:List Nat}{bw:Nat}(h:DiffRel xs ys n zs n bw)(h1:xs.length≤n)(h2:ys.length≤n)(hle:valL ys≤valL xs) :
  zs.length=n∧Small zs∧valL zs=valL xs-valL ys:=by
 obtain⟨l1,l2,l3,l4⟩:=h;rw[valL_to (xs:=zs) (by omega),valL_to (xs:=xs) (by omega),valL_to (xs:=ys) (by omega)]at l4;have hz:=valL_lt l2;rw[l1]at hz;refine⟨l1,l2,?_⟩;rcases Nat.eq_zero_or_pos bw with rfl|hc
 ·omega
 ·obtain rfl:bw=1:=by omega
  omega
def splice(zs:List Nat)(k:Nat)(ws:List Nat):List Nat:=zs.take k++ws++zs.drop (k+ws.length)
def window(zs:List Nat)(k n:Nat):List Nat:=(zs.drop k).take n
theorem window_length{zs:List Nat}{k n:Nat}(h:k+n≤zs.length):(window zs k n).length=n:=by
 unfold window;rw[List.length_take,List.length_drop];omega
theorem gl_window{zs:List Nat}{k n j:Nat}(h:j<n):gl (window zs k n) j=gl zs (k+j):=by
 unfold window;rw[gl_take h,gl_drop]
theorem Small.window{zs:List Nat}(h:Small zs)(k n:Nat):Small (window zs k n):=(h.drop k).take n
theorem splice_length{zs ws:List Nat}{k:Nat}(h:k+ws.length≤zs.length):(splice zs k ws).length=zs.length:=by
 unfold splice;rw[List.length_append,List.length_append,List.length_take,List.length_drop];omega
theorem gl_splice{zs ws:List Nat}{k:Nat}(h:k+ws.length≤zs.length)(j:Nat) :
  gl (splice zs k ws) j=if j<k then gl zs j else if j<k+ws.length then gl ws (j-k) else gl zs j:=by
 unfold splice gl;have h1:(zs.take k).length=k:=by rw[List.length_take];omega
 by_cases hj:j<k
 ·rw[if_pos hj,List.append_assoc,List.getElem?_append_left (by omega),List.getElem?_take,if_pos hj]
 ·rw[if_neg hj];by_cases hj2:j<k+ws.length
  ·rw[if_pos hj2,List.append_assoc,List.getElem?_append_right (by omega),h1,List.getElem?_append_left (by omega)]
  ·rw[if_neg hj2,List.getElem?_append_right (by rw[List.length_append];omega),List.length_append,h1,List.getElem?_drop]
   congr 2
   omega
theorem Small.splice{zs ws:List Nat}(h:Small zs)(hw:Small ws)(k:Nat):Small (splice zs k ws):=fun x hx=>by
 unfold Go.Proofs.YthgopcnagecbaaaGreatDoor.splice at hx;rcases List.mem_append.1 hx with h1|h1
 ·rcases List.mem_append.1 h1 with h2|h2
  ·exact h _ (List.mem_of_mem_take h2)
  ·exact hw _ h2
 ·exact h _ (List.mem_of_mem_drop h1)
theorem valL_parts{zs:List Nat}{k n:Nat}(h:k+n≤zs.length) :
  valL zs=sumTo (gl zs) k+Bp k*valL (window zs k n)+Bp (k+n)*sumTo (fun j=>gl zs (k+n+j)) (zs.length-(k+n)):=by
 unfold valL;rw[window_length h];obtain⟨d,hd⟩:=Nat.exists_eq_add_of_le h;rw[hd,Nat.add_sub_cancel_left,sumTo_split,sumTo_split];rw[sumTo_congr (f:=fun j=>gl zs (k+j)) (g:=gl (window zs k n)) (fun j hj=>(gl_window hj).symm)]
def ProdRel(xs ys:List Nat)(n:Nat)(zs:List Nat)(k:Nat):Prop :=
 zs.length=n∧Small zs∧valL zs=sumTo (gl xs) k*valL ys∧∀j,k+ys.length≤j→gl zs j=0
theorem ProdRel.start(xs ys:List Nat)(n:Nat):ProdRel xs ys n (List.replicate n 0) 0 :=
 ⟨List.length_replicate,Small.zeros n,by rw[show valL (List.replicate n 0)=0 from sumTo_zero (fun j _=>gl_zeros n j)];simp[sumTo],fun j _=>gl_zeros n j⟩
theorem ProdRel.step{xs ys:List Nat}{n:Nat}{zs:List Nat}{k cy:Nat}{ws:List Nat}(h:ProdRel xs ys n zs k)(hx:Small xs)(hk:k+ys.length<n)
  (hl:ws.length=ys.length) (hs:Small ws) (hc:cy≤gl xs k) (he:valL ws+cy*Bp ys.length=valL (window zs k ys.length)+gl xs k*valL ys) :
  ProdRel xs ys n ((splice zs k ws).set (k+ys.length) cy) (k+1):=by
 obtain⟨h1,h2,h3,h4⟩:=h;have b1:=hx.gl k;have l1:(splice zs k ws).length=n:=by rw[splice_length (by omega),h1]
 have g1:=gl_splice (zs:=zs) (ws:=ws) (k:=k) (by omega);refine⟨by rw[List.length_set,l1],(h2.splice hs k).set (by omega),?_,fun j hj=>?_⟩
 ·rw[valL_parts (k:=k) (n:=ys.length) (by rw[List.length_set,l1];omega)];rw[valL_parts (zs:=zs) (k:=k) (n:=ys.length) (by omega)]at h3;have hz:sumTo (fun j=>gl zs (k+ys.length+j)) (zs.length-(k+ys.length))=0:=sumTo_zero (fun j _=>h4 _ (by omega));rw[hz]at h3;have e1:sumTo (gl ((splice zs k ws).set (k+ys.length) cy)) k=sumTo (gl zs) k:=sumTo_congr (fun j hj=>by rw[gl_set_other (by omega),g1,if_pos hj]);have e2:valL (window ((splice zs k ws).set (k+ys.length) cy) k ys.length)=valL ws:=by
   unfold valL;rw[window_length (by rw[List.length_set,l1];omega),hl];refine sumTo_congr (fun j hj=>?_);rw[gl_window hj,gl_set_other (by omega),g1,if_neg (by omega),if_pos (by omega)]
   congr 1
   omega
  have e3:sumTo (fun j=>gl ((splice zs k ws).set (k+ys.length) cy) (k+ys.length+j)) (((splice zs k ws).set (k+ys.length) cy).length-(k+ys.length))=cy:=by
   rw[List.length_set,l1];rw[sumTo_more (n:=1) (by omega) (fun j hj=>?_)]
   ·simp[sumTo,Bp_zero];exact gl_set_same (by omega)
   ·rw[gl_set_other (by omega),g1,if_neg (by omega),if_neg (by omega)];exact h4 _ (by omega)
  have e4:Bp k*(valL ws+cy*Bp ys.length)=Bp k*(valL (window zs k ys.length)+gl xs k*valL ys):=by rw[he]
  rw[Nat.mul_add,Nat.mul_add]at e4;have e5:Bp (k+ys.length)*cy=Bp k*(cy*Bp ys.length):=by rw[Bp_add,Nat.mul_assoc,Nat.mul_comm cy]
  have e6:gl xs k*Bp k*valL ys=Bp k*(gl xs k*valL ys):=by rw[Nat.mul_comm (gl xs k),Nat.mul_assoc]
  rw[Nat.mul_zero]at h3;rw[e1,e2,e3,sumTo,Nat.add_mul,e5,e6];omega
 ·rw[gl_set_other (by omega),g1,if_neg (by omega),if_neg (by omega)];exact h4 _ (by omega)
theorem valL_top{xs:List Nat}{k:Nat}(h:xs.length=k+2)(hs:Small xs):∃lo,lo<Bp k∧valL xs=lo+(gl xs k+1000000000*gl xs (k+1))*Bp k:=by
 refine⟨sumTo (gl xs) k,sumTo_lt (fun j _=>hs.gl j),?_⟩;unfold valL;rw[h,sumTo,sumTo,Bp_succ,Nat.add_mul];have:gl xs (k+1)*(1000000000*Bp k)=1000000000*gl xs (k+1)*Bp k:=by rw[←Nat.mul_assoc,Nat.mul_comm (gl xs (k+1))]
 omega
structure Divi(ys:List Nat)(k:Nat):Prop where
 len:ys.length=k+2
 small:Small ys
 hi:gl ys (k+1)=0
 lo:250000000≤gl ys k
theorem Divi.ge{ys:List Nat}{k:Nat}(h:Divi ys k):gl ys k*Bp k≤valL ys:=by
 obtain⟨lo,_,h2⟩:=valL_top h.len h.small;rw[h2,h.hi];simp
theorem Divi.pos{ys:List Nat}{k:Nat}(h:Divi ys k):0<valL ys:=by
 have h1:=h.ge;have h2:0<gl ys k*Bp k:=Nat.mul_pos (by have:=h.lo;omega) (Bp_pos k);omega
theorem Divi.est{xs ys:List Nat}{k:Nat}(h:Divi ys k)(hx:xs.length=k+2)(hs:Small xs) :
  valL xs / valL ys≤(gl xs (k+1)*1000000000+gl xs k) / gl ys k∧(gl xs (k+1)*1000000000+gl xs k) / gl ys k≤4000000000:=by
 obtain⟨lo,h1,h2⟩:=valL_top hx hs;have hp:=h.pos;have hge:=h.ge;have hv:=h.lo;have b1:=hs.gl k;have b2:=hs.gl (k+1);refine⟨?_,?_⟩
 ·rw[Nat.le_div_iff_mul_le (by omega)];obtain⟨q,hq⟩:∃q,valL xs / valL ys=q:=⟨_,rfl⟩;have h3:q*valL ys≤valL xs:=by rw[←hq];exact Nat.div_mul_le_self _ _
  rw[hq];have h4:q*(gl ys k*Bp k)≤q*valL ys:=Nat.mul_le_mul_left _ hge;obtain⟨u,hu⟩:∃u,gl xs (k+1)*1000000000+gl xs k=u:=⟨_,rfl⟩;have h5:valL xs<(u+1)*Bp k:=by
   rw[h2,show gl xs k+1000000000*gl xs (k+1)=u from by omega,Nat.add_mul];omega
  have h6:q*gl ys k*Bp k<(u+1)*Bp k:=by rw[Nat.mul_assoc];omega
  have h7:=Nat.lt_of_mul_lt_mul_right h6;omega
 ·have:(gl xs (k+1)*1000000000+gl xs k) / gl ys k<4000000001:=by
   rw[Nat.div_lt_iff_lt_mul (by omega)];omega
  omega
def OutRel(xs ys:List Nat)(zs:List Nat)(n t bw:Nat):Prop :=
 zs.length=n∧Small zs∧t≤4000000000∧bw≤4000000001∧valL zs+t*valL ys=valL xs+bw*Bp n∧valL xs / valL ys≤t
theorem OutRel.start{xs ys zs:List Nat}{k n t bw:Nat}(h:Divi ys k)(hx:xs.length=n)(hn:n=k+2)(hs:Small xs)(ht:t=(gl xs (k+1)*1000000000+gl xs k) / gl ys k)
  (hz:zs.length=n) (hzs:Small zs) (hb:bw≤t+1) (he:valL zs+t*valL ys=valL xs+bw*Bp n):OutRel xs ys zs n t bw:=by
 obtain⟨h1,h2⟩:=h.est (by omega) hs;rw[←ht]at h1 h2;exact⟨hz,hzs,h2,by omega,he,h1⟩
theorem OutRel.pos{xs ys zs:List Nat}{n t bw:Nat}(h:OutRel xs ys zs n t bw)(hp:0<valL ys)(hb:0<bw):1≤t∧valL xs / valL ys≤t-1:=by
 obtain⟨h1,h2,h3,h4,h5,h6⟩:=h;have hz:=valL_lt h2;rw[h1]at hz;have hb2:1*Bp n≤bw*Bp n:=Nat.mul_le_mul_right _ hb;have hlt:valL xs<t*valL ys:=by omega
 have h7:valL xs / valL ys<t:=by rw[Nat.div_lt_iff_lt_mul hp];exact hlt
 exact⟨Nat.lt_of_le_of_lt (Nat.zero_le _) h7,Nat.le_sub_one_of_lt h7⟩
theorem OutRel.step{xs ys zs zs':List Nat}{n t bw cy:Nat}(h:OutRel xs ys zs n t bw)(hp:0<valL ys)(hb:0<bw)(hz:zs'.length=n)(hs:Small zs')(hc:cy≤1)
  (he:valL zs'+cy*Bp n=valL zs+1*valL ys):OutRel xs ys zs' n (t-1) (bw-cy):=by
 obtain⟨p1,p2⟩:=h.pos hp hb;obtain⟨h1,h2,h3,h4,h5,h6⟩:=h;refine⟨hz,hs,by omega,by omega,?_,p2⟩;obtain⟨t,rfl⟩:∃s,t=s+1:=⟨t-1,by omega⟩;obtain⟨b,rfl⟩:∃s,bw=s+cy:=⟨bw-cy,by omega⟩;rw[Nat.add_sub_cancel,Nat.add_sub_cancel];rw[Nat.add_mul,Nat.add_mul]at h5;omega
theorem OutRel.done{xs ys zs:List Nat}{n t:Nat}(h:OutRel xs ys zs n t 0)(hp:0<valL ys):t=valL xs / valL ys∧valL zs=valL xs % valL ys:=by
 obtain⟨h1,h2,h3,h4,h5,h6⟩:=h;have h7:t≤valL xs / valL ys:=by rw[Nat.le_div_iff_mul_le hp];omega
 have h8:t=valL xs / valL ys:=Nat.le_antisymm h7 h6;have h9:=Nat.mod_add_div (valL xs) (valL ys);rw[←h8,Nat.mul_comm]at h9;exact⟨h8,by omega⟩
def hiV(f:Nat→Nat)(m n:Nat):Nat:=sumTo (fun j=>f (m+j)) (n-m)
theorem hiV_end(f:Nat→Nat)(n:Nat):hiV f n n=0:=by unfold hiV;rw[Nat.sub_self];rfl
theorem hiV_step(f:Nat→Nat){m n:Nat}(h:m<n):hiV f m n=f m+1000000000*hiV f (m+1) n:=by
 unfold hiV;rw[show n-m=1+(n-(m+1)) from by omega,sumTo_split];simp only[sumTo,Bp_zero,Nat.zero_add,Nat.add_zero,Nat.mul_one,Bp_succ]
 congr 2
 exact sumTo_congr (fun j _=>by rw[Nat.add_assoc])
theorem hiV_zero(f:Nat→Nat)(n:Nat):hiV f 0 n=sumTo f n:=by
 unfold hiV;rw[Nat.sub_zero];exact sumTo_congr (fun j _=>by rw[Nat.zero_add])
theorem hiV_congr{f g:Nat→Nat}{m n:Nat}(h:∀j,m≤j→j<n→f j=g j):hiV f m n=hiV g m n:=by
 unfold hiV;exact sumTo_congr (fun j hj=>h _ (by omega) (by omega))
def unStep(t:Nat)(s:Nat×List Nat)(p:Nat×Nat):Nat×List Nat:=((s.1*1000000000+p.2) % t,s.2.set p.1 ((s.1*1000000000+p.2) / t))
def unSt(t n:Nat)(pre:List (Nat×Nat)):Nat×List Nat:=pre.foldl (unStep t) (0,List.replicate n 0)
theorem unSt_snoc(t n:Nat)(pre:List (Nat×Nat))(p:Nat×Nat):unSt t n (pre++[p])=unStep t (unSt t n pre) p:=by unfold unSt;rw[List.foldl_append];rfl
theorem unStep_ok{t n:Nat}{s:Nat×List Nat}{p:Nat×Nat}(ht:0<t)(h1:s.1<t)(h2:Small s.2)(h3:s.2.length=n)(hp:p.2<1000000000) :
  (unStep t s p).1<t∧Small (unStep t s p).2∧(unStep t s p).2.length=n:=by
 refine⟨Nat.mod_lt _ ht,h2.set ?_,by unfold unStep;rw[List.length_set];exact h3⟩;rw[Nat.div_lt_iff_lt_mul ht];have:(s.1+1)*1000000000≤t*1000000000:=Nat.mul_le_mul_right _ h1;omega
theorem unSt_ok{t n:Nat}(ht:0<t):∀ (k:Nat) (pre:List (Nat×Nat)),pre.length=k→(∀p∈pre,p.2<1000000000)→(unSt t n pre).1<t∧Small (unSt t n pre).2∧(unSt t n pre).2.length=n:=by
 intro k
 induction k with
 | zero =>
  intro pre hl _;rw[List.length_eq_zero_iff.1 hl];exact⟨ht,Small.zeros n,List.length_replicate⟩
 | succ k ih =>
  intro pre hl hp;obtain⟨ini,last,rfl⟩:∃ini last,pre=ini++[last]:=⟨pre.dropLast,pre.getLast (by intro e;rw[e]at hl;simp at hl),(List.dropLast_concat_getLast _).symm⟩;rw[unSt_snoc];obtain⟨a,b,c⟩:=ih ini (by simpa using hl) (fun p h=>hp p (List.mem_append_left _ h));exact unStep_ok ht a b c (hp last (by simp))
theorem unSt_val{t n:Nat}{f:Nat→Nat}(ht:0<t)(hf:∀j,f j<1000000000):∀ (k:Nat) (pre:List (Nat×Nat)),k≤n→pre.map (·.1)=(List.range k).map (fun j=>n-1-j)→(∀p∈pre,p.2=f p.1) →
  hiV (gl (unSt t n pre).2) (n-k) n*t+(unSt t n pre).1=hiV f (n-k) n:=by
 intro k
 induction k with
 | zero =>
  intro pre _ hm _;obtain rfl:pre=[]:=by simpa using hm
  rw[Nat.sub_zero,hiV_end,hiV_end];simp[unSt]
 | succ k ih =>
  intro pre hk hm hp;have hne:pre≠[]:=by intro e;rw[e]at hm;simp at hm
  obtain⟨ini,last,rfl⟩:∃ini last,pre=ini++[last]:=⟨pre.dropLast,pre.getLast hne,(List.dropLast_concat_getLast _).symm⟩;rw[List.range_succ,List.map_append,List.map_append]at hm;obtain⟨hm1,hm2⟩:=List.append_inj' hm rfl;have hi:last.1=n-1-k:=by simpa using hm2
  have hv:=hp last (by simp);have h:=ih ini (by omega) hm1 (fun p h=>hp p (List.mem_append_left _ h));have hlen:ini.length=k:=by have:=congrArg List.length hm1;simpa using this
  obtain⟨o1,o2,o3⟩:=unSt_ok (n:=n) ht ini.length ini rfl (fun p h=>by rw[hp p (List.mem_append_left _ h)];exact hf _);have e1:n-k=n-(k+1)+1:=by omega
  have e2:last.1=n-(k+1):=by omega
  rw[unSt_snoc];unfold unStep;rw[hv,e2];generalize unSt t n ini=s at *;rw[hiV_step _ (show n-(k+1)<n from by omega),hiV_step f (show n-(k+1)<n from by omega),← e1];simp only;rw[gl_set_same (by rw[o3];omega)];rw[hiV_congr (g:=gl s.2) (m:=n-k) (fun j h1 h2=>gl_set_other (by omega)),← h];obtain⟨A,hA⟩:∃A,s.1*1000000000+f (n-(k+1))=A:=⟨_,rfl⟩;rw[hA];have h9:=Nat.mod_add_div A t;rw[Nat.mul_comm]at h9;rw[Nat.add_mul,Nat.mul_assoc,Nat.mul_add];omega
theorem unSt_done{t n:Nat}{f:Nat→Nat}(ht:0<t)(hf:∀j,f j<1000000000){pre:List (Nat×Nat)}(hm:pre.map (·.1)=(List.range n).map (fun j=>n-1-j))(hp:∀p∈pre,p.2=f p.1) :
  valL (unSt t n pre).2=sumTo f n / t:=by
 have h:=unSt_val ht hf n pre (Nat.le_refl _) hm hp;obtain⟨o1,o2,o3⟩:=unSt_ok (n:=n) ht pre.length pre rfl (fun p h=>by rw[hp p h];exact hf _);rw[Nat.sub_self,hiV_zero,hiV_zero]at h;unfold valL;rw[o3,← h,Nat.add_comm,Nat.add_mul_div_right _ _ ht,Nat.div_eq_of_lt o1,Nat.zero_add]
theorem le_sumTo(f:Nat→Nat){j k:Nat}(h:j<k):f j*Bp j≤sumTo f k:=by
 have h1:=sumTo_mono f (show j+1≤k from h);rw[sumTo]at h1;omega
theorem hiV_zeros{f:Nat→Nat}{m n c:Nat}(h:hiV f m n<Bp c){j:Nat}(h1:m+c≤j)(h2:j<n):f j=0:=by
 rcases Nat.eq_zero_or_pos (f j) with h0|h0
 ·exact h0
 ·exfalso;unfold hiV at h;have h3:f (m+(j-m))*Bp (j-m)≤sumTo (fun i=>f (m+i)) (n-m):=le_sumTo (fun i=>f (m+i)) (j:=j-m) (k:=n-m) (by omega);rw[show m+(j-m)=j from by omega]at h3;have h4:=Bp_mono (i:=c) (j:=j-m) (by omega);have h5:1*Bp (j-m)≤f j*Bp (j-m):=Nat.mul_le_mul_right _ h0;omega
theorem sumTo_cut{g:Nat→Nat}{c k:Nat}(hc:c≤k)(hz:∀j,c≤j→j<k→g j=0):sumTo g k=sumTo g c:=by
 obtain⟨d,rfl⟩:=Nat.exists_eq_add_of_le hc;clear hc
 induction d with
 | zero=>rfl
 | succ d ih=>rw[←Nat.add_assoc,sumTo,ih (fun j h1 h2=>hz j h1 (by omega)),hz _ (by omega) (by omega)];simp
theorem hiV_cut{f:Nat→Nat}{m n c:Nat}(h:hiV f m n<Bp c)(hn:m+c≤n):hiV f m (m+c)=hiV f m n:=by
 unfold hiV;rw[Nat.add_sub_cancel_left];refine(sumTo_cut (by omega) (fun j h1 h2=>?_)).symm;exact hiV_zeros h (by omega) (by omega)
theorem valL_window(left:List Nat){i n:Nat}(h:i+n≤left.length):valL (window left i n)=hiV (gl left) i (i+n):=by
 unfold valL hiV;rw[window_length h,Nat.add_sub_cancel_left];exact sumTo_congr (fun j hj=>gl_window hj)
structure DvKey(ys left0:List Nat)(mq k:Nat)(left quot:List Nat):Prop where
 hi:hiV (gl left) (mq-k) left0.length<valL ys
 low:∀j,j<mq-k→gl left j=gl left0 j
 eq:hiV (gl left0) (mq-k) left0.length=hiV (gl quot) (mq-k) mq*valL ys+hiV (gl left) (mq-k) left0.length
 small:∀j,gl quot j<1000000000
theorem DvKey.step{ys left0:List Nat}{mq k nb:Nat}{left quot zs:List Nat}(h:DvKey ys left0 mq k left quot)(hk:k<mq)(hl0:left0.length=mq+nb)(hl:left.length=mq+nb)(hq:quot.length=mq)
  (hls:Small left) (hz:zs.length=nb+1) (hD:0<valL ys) (hDb:valL ys<Bp nb) (hv:valL zs=valL (window left (mq-1-k) (nb+1)) % valL ys) :
  DvKey ys left0 mq (k+1) (splice left (mq-1-k) zs) (quot.set (mq-1-k) (valL (window left (mq-1-k) (nb+1)) / valL ys)):=by
 obtain⟨h1,h2,h3,h4⟩:=h;obtain⟨m,hm⟩:∃m,mq-k=m+1:=⟨mq-k-1,by omega⟩;have hi:mq-1-k=m:=by omega
 have hk1:mq-(k+1)=m:=by omega
 rw[hm]at h1 h2 h3;rw[hi]at hv ⊢;have h1b:=Nat.lt_trans h1 hDb;have hcut:=hiV_cut h1b (by omega);have hwin:valL (window left m (nb+1))=gl left0 m+1000000000*hiV (gl left) (m+1) left0.length:=by
  rw[valL_window left (by omega),hiV_step _ (by omega),h2 m (by omega),← hcut,show m+(nb+1)=m+1+nb from by omega]
 obtain⟨T,hT⟩:∃T,hiV (gl left) (m+1) left0.length=T:=⟨_,rfl⟩;obtain⟨W,hW⟩:∃W,valL (window left m (nb+1))=W:=⟨_,rfl⟩;rw[hW]at hwin hv ⊢;rw[hT]at hwin h1 h3;have hql:W / valL ys<1000000000:=by
  rw[Nat.div_lt_iff_lt_mul hD];have:(T+1)*1000000000≤valL ys*1000000000:=Nat.mul_le_mul_right _ h1;have h5:gl left0 m<1000000000:=by
   rw[←h2 m (by omega)];exact hls.gl m
  omega
 have hsp:=gl_splice (zs:=left) (ws:=zs) (k:=m) (by omega);have hhi:hiV (gl (splice left m zs)) m left0.length=valL zs:=by
  have hzero:∀j,m+(nb+1)≤j→j<left0.length→gl (splice left m zs) j=0:=fun j g1 g2=>by
   rw[hsp,if_neg (by omega),if_neg (by omega)];exact hiV_zeros h1b (by omega) g2
  have hk9:nb+1≤left0.length-m:=by omega
  have e1:hiV (gl (splice left m zs)) m left0.length=sumTo (fun j=>gl (splice left m zs) (m+j)) (nb+1) :=
   sumTo_cut (g:=fun j=>gl (splice left m zs) (m+j)) (c:=nb+1) (k:=left0.length-m) hk9 (fun j g1 g2=>hzero (m+j) (by omega) (by omega))
  have e2:valL zs=sumTo (gl zs) (nb+1):=by unfold valL;rw[hz]
  rw[e1,e2];refine sumTo_congr (fun j hj=>?_);rw[hsp,if_neg (by omega),if_pos (by omega),Nat.add_sub_cancel_left]
 refine⟨?_,fun j hj=>?_,?_,fun j=>?_⟩
 ·rw[hk1,hhi,hv];exact Nat.mod_lt _ hD
 ·rw[hk1]at hj;rw[hsp,if_pos hj];exact h2 j (by omega)
 ·rw[hk1,hhi,hv,hiV_step (gl left0) (show m<left0.length from by omega),h3,hiV_step _ (show m<mq from by omega),gl_set_same (by omega)];rw[hiV_congr (f:=gl (quot.set m (W / valL ys))) (g:=gl quot) (fun j g1 g2=>gl_set_other (by omega))];have h9:=Nat.mod_add_div W (valL ys);rw[Nat.mul_comm]at h9;rw[Nat.add_mul,Nat.mul_add,Nat.mul_assoc];omega
 ·by_cases e:j=m
  ·subst e;rw[gl_set_same (by omega)];exact hql
  ·rw[gl_set_other (fun e'=>e e'.symm)];exact h4 j
theorem DvKey.done{ys left0:List Nat}{mq:Nat}{left quot:List Nat}(h:DvKey ys left0 mq mq left quot)(hl:left.length=left0.length)(hq:quot.length=mq)(hD:0<valL ys) :
  Small quot∧valL quot=valL left0 / valL ys∧valL left=valL left0 % valL ys:=by
 obtain⟨h1,h2,h3,h4⟩:=h;rw[Nat.sub_self,hiV_zero]at h1 h3;rw[hiV_zero,hiV_zero]at h3;have e1:sumTo (gl left0) left0.length=valL left0:=rfl;have e2:sumTo (gl left) left0.length=valL left:=by unfold valL;rw[hl]
 have e3:sumTo (gl quot) mq=valL quot:=by unfold valL;rw[hq]
 rw[e1,e2,e3]at h3;rw[e2]at h1;refine⟨Small.of_gl (fun j _=>h4 j),?_,?_⟩
 ·rw[h3,Nat.add_comm,Nat.add_mul_div_right _ _ hD,Nat.div_eq_of_lt h1,Nat.zero_add]
 ·rw[h3,Nat.add_comm,Nat.add_mul_mod_self_right,Nat.mod_eq_of_lt h1]
theorem DvKey.start{ys left0:List Nat}{mq:Nat}(h:hiV (gl left0) mq left0.length<valL ys):DvKey ys left0 mq 0 left0 (List.replicate mq 0):=by
 refine⟨by rw[Nat.sub_zero];exact h,fun _ _=>rfl,?_,fun j=>by rw[gl_zeros];decide⟩;rw[Nat.sub_zero,hiV_end];omega
theorem scale_ok{ys zs:List Nat}{nb t:Nat}(hn:Norm ys)(hs:Small ys)(hl:ys.length=nb+1)(ht:t=1000000000 / (gl ys nb+1))(hz:zs.length=nb+2)(hzs:Small zs)(hv:valL zs=t*valL ys) :
  0<t∧t≤999999999∧Divi zs nb∧valL zs<Bp (nb+1):=by
 have h0:gl ys nb≠0:=by
  have:=hn (by intro e;rw[e]at hl;simp at hl);rw[hl,Nat.add_sub_cancel]at this;exact this
 have h1:=hs.gl nb;have ht1:t*(gl ys nb+1)≤1000000000:=by rw[ht];exact Nat.div_mul_le_self _ _
 have ht2:1000000000<(t+1)*(gl ys nb+1):=by
  have e1:=Nat.div_add_mod 1000000000 (gl ys nb+1);have e2:=Nat.mod_lt 1000000000 (show 0<gl ys nb+1 from by omega);rw[←ht,Nat.mul_comm]at e1;rw[Nat.add_mul,Nat.one_mul];omega
 have htp:0<t:=by rw[ht];exact Nat.div_pos (by omega) (by omega)
 have htb:t≤500000000:=by
  have:t*2≤t*(gl ys nb+1):=Nat.mul_le_mul_left _ (by omega);omega
 have hlow:sumTo (gl ys) nb<Bp nb:=sumTo_lt (fun j _=>hs.gl j);have hval:valL ys=sumTo (gl ys) nb+gl ys nb*Bp nb:=by unfold valL;rw[hl,sumTo]
 have hlt:valL zs<Bp (nb+1):=by
  rw[hv,Bp_succ];have:t*(valL ys+1)≤t*((gl ys nb+1)*Bp nb):=Nat.mul_le_mul_left _ (by rw[hval,Nat.add_mul];omega);rw[←Nat.mul_assoc]at this;have h5:t*(gl ys nb+1)*Bp nb≤1000000000*Bp nb:=Nat.mul_le_mul_right _ ht1;rw[Nat.mul_add]at this;omega
 have hhi:gl zs (nb+1)=0:=by
  rcases Nat.eq_zero_or_pos (gl zs (nb+1)) with h|h
  ·exact h
  ·exfalso;have h3:=le_sumTo (gl zs) (j:=nb+1) (k:=nb+2) (by omega);have h4:sumTo (gl zs) (nb+2)=valL zs:=by unfold valL;rw[hz]
   have h5:1*Bp (nb+1)≤gl zs (nb+1)*Bp (nb+1):=Nat.mul_le_mul_right _ h;omega
 refine⟨htp,by omega,⟨hz,hzs,hhi,?_⟩,hlt⟩
 -- the limb below the highest one
 have hz2:valL zs=sumTo (gl zs) nb+gl zs nb*Bp nb:=by
  unfold valL;rw[hz,sumTo,hhi,Nat.zero_mul,Nat.add_zero,sumTo]
 have hzlow:sumTo (gl zs) nb<Bp nb:=sumTo_lt (fun j _=>hzs.gl j);have hge:t*gl ys nb*Bp nb≤valL zs:=by
  rw[hv,hval,Nat.mul_add,Nat.mul_assoc];omega
 have h6:t*gl ys nb*Bp nb<(gl zs nb+1)*Bp nb:=by
  rw[Nat.add_mul];omega
 have h7:=Nat.lt_of_mul_lt_mul_right h6;have h8:250000000≤t*gl ys nb:=by
  rw[Nat.add_mul]at ht2;rw[Nat.mul_add]at ht2;rcases Nat.lt_or_ge (gl ys nb+1) 500000000 with h9|h9
  ·have:t*1≤t*gl ys nb:=Nat.mul_le_mul_left _ (by omega);omega
  ·have:1*gl ys nb≤t*gl ys nb:=Nat.mul_le_mul_right _ htp;omega
 omega
theorem dv_first{xs ys left0 zs:List Nat}{mq nb t:Nat}(hx:Small xs)(hxl:xs.length+1=mq+(nb+1))(hy:Norm ys)(hyl:ys.length=nb+1)(htp:0<t)(hl:left0.length=mq+(nb+1))(hv:valL left0=t*valL xs)(hz:valL zs=t*valL ys) :
  hiV (gl left0) mq left0.length<valL zs:=by
 have h1:valL left0=sumTo (gl left0) mq+Bp mq*hiV (gl left0) mq left0.length:=by
  unfold valL hiV;rw[hl,Nat.add_sub_cancel_left,← sumTo_split]
 have h2:=valL_lt hx;have h3:=hy.ge (by intro e;rw[e]at hyl;simp at hyl);rw[hyl,Nat.add_sub_cancel]at h3;rw[show xs.length=mq+nb from by omega,Bp_add]at h2;have h4:t*valL xs<t*(Bp mq*Bp nb):=Nat.mul_lt_mul_of_pos_left h2 htp;have h5:t*Bp nb≤t*valL ys:=Nat.mul_le_mul_left _ h3;have h6:Bp mq*hiV (gl left0) mq left0.length<Bp mq*valL zs:=by
  rw[hz];have h7:Bp mq*(t*Bp nb)≤Bp mq*(t*valL ys):=Nat.mul_le_mul_left _ h5;have h8:t*(Bp mq*Bp nb)=Bp mq*(t*Bp nb):=by rw[←Nat.mul_assoc,Nat.mul_comm t,Nat.mul_assoc]
  omega
 exact Nat.lt_of_mul_lt_mul_left h6
def isDig(c:UInt8):Bool:=decide (48≤c.toNat)&&decide (c.toNat≤57)
def isNat(l:List UInt8):Bool:=!l.isEmpty&&!(l.head?==some 48&&decide (1<l.length))&&l.all isDig
def valS(l:List UInt8):Nat:=l.foldl (fun n c=>10*n+(c.toNat-48)) 0
theorem valS_snoc(l:List UInt8)(c:UInt8):valS (l++[c])=10*valS l+(c.toNat-48):=by simp[valS]
theorem valS_append(l r:List UInt8):valS (l++r)=valS l*10 ^ r.length+valS r:=by
 obtain⟨n,hn⟩:∃n,r.length=n:=⟨_,rfl⟩
 induction n generalizing r with
 | zero=>rw[List.length_eq_zero_iff.1 hn];simp[valS]
 | succ n ih =>
  obtain⟨ini,last,rfl⟩:∃ini last,r=ini++[last]:=⟨r.dropLast,r.getLast (by intro e;rw[e]at hn;simp at hn),(List.dropLast_concat_getLast _).symm⟩;have hi:ini.length=n:=by simpa using hn
  rw[←List.append_assoc,valS_snoc,valS_snoc,ih ini hi,List.length_append,List.length_singleton,Nat.pow_succ,Nat.mul_add];have:10*(valS l*10 ^ ini.length)=valS l*(10 ^ ini.length*10):=by rw[←Nat.mul_assoc,Nat.mul_comm 10,Nat.mul_assoc,Nat.mul_comm 10]
  omega
theorem valS_lt{l:List UInt8}(h:l.all isDig=true):valS l<10 ^ l.length:=by
 obtain⟨n,hn⟩:∃n,l.length=n:=⟨_,rfl⟩
 induction n generalizing l with
 | zero=>rw[List.length_eq_zero_iff.1 hn];decide
 | succ n ih =>
  obtain⟨ini,last,rfl⟩:∃ini last,l=ini++[last]:=⟨l.dropLast,l.getLast (by intro e;rw[e]at hn;simp at hn),(List.dropLast_concat_getLast _).symm⟩;rw[List.all_append,Bool.and_eq_true]at h;have h1:=ih h.1 (by simpa using hn);have h2:isDig last=true:=by simpa using h.2
  unfold isDig at h2;simp only[Bool.and_eq_true,decide_eq_true_eq]at h2;rw[valS_snoc,List.length_append,List.length_singleton,Nat.pow_succ];omega
def digN(n:Nat):UInt8:=UInt8.ofNat (48+n % 10)
def dig(n:Nat):List UInt8:=if _h:n<10 then [digN n] else dig (n / 10)++[digN n]
termination_by n
decreasing_by omega
theorem digN_toNat(n:Nat):(digN n).toNat=48+n % 10:=by
 unfold digN;rw[UInt8.toNat_ofNat'];omega
theorem dig_small{n:Nat}(h:n<10):dig n=[digN n]:=by rw[dig];simp[h]
theorem dig_big{n:Nat}(h:¬n<10):dig n=dig (n / 10)++[digN n]:=by rw[dig];simp[h]
theorem isDig_digN(n:Nat):isDig (digN n)=true:=by
 unfold isDig;rw[digN_toNat];simp only[Bool.and_eq_true,decide_eq_true_eq];omega
theorem dig_ne(n:Nat):dig n≠[]:=by
 by_cases h:n<10
 ·rw[dig_small h];simp
 ·rw[dig_big h];simp
theorem dig_all(n:Nat):(dig n).all isDig=true:=by
 induction n using Nat.strongRecOn with
 | _ n ih =>
  by_cases h:n<10
  ·rw[dig_small h];simp[isDig_digN]
  ·rw[dig_big h,List.all_append,ih (n / 10) (by omega)];simp[isDig_digN]
theorem valS_dig(n:Nat):valS (dig n)=n:=by
 induction n using Nat.strongRecOn with
 | _ n ih =>
  by_cases h:n<10
  ·rw[dig_small h];show 10*0+((digN n).toNat-48)=n;rw[digN_toNat];omega
  ·rw[dig_big h,valS_snoc,ih (n / 10) (by omega),digN_toNat];omega
theorem dig_head{n:Nat}(h:0<n):(dig n).head?≠some 48:=by
 induction n using Nat.strongRecOn with
 | _ n ih =>
  by_cases h10:n<10
  ·rw[dig_small h10];intro e;have e1:digN n=48:=by simpa using e
   have:=congrArg UInt8.toNat e1;rw[digN_toNat]at this;have h48:(48:UInt8).toNat=48:=rfl;omega
  ·rw[dig_big h10];have:=ih (n / 10) (by omega) (by omega);rw[List.head?_append]
   cases hd:(dig (n / 10)).head? with
   | none=>exact absurd (List.head?_eq_none_iff.1 hd) (dig_ne _)
   | some c=>rw[hd]at this;simpa using this
theorem isNat_dig(n:Nat):isNat (dig n)=true:=by
 unfold isNat;rw[dig_all,Bool.and_true,Bool.and_eq_true];refine⟨by simp[dig_ne],?_⟩;rcases Nat.eq_zero_or_pos n with rfl|h
 ·rw[dig_small (by omega)];simp
 ·have:=dig_head h;simp[this]
theorem dig_valS{l:List UInt8}(h:isNat l=true):dig (valS l)=l:=by
 obtain⟨n,hn⟩:∃n,l.length=n:=⟨_,rfl⟩
 induction n generalizing l with
 | zero=>rw[List.length_eq_zero_iff.1 hn]at h;cases h
 | succ n ih =>
  obtain⟨ini,last,rfl⟩:∃ini last,l=ini++[last]:=⟨l.dropLast,l.getLast (by intro e;rw[e]at hn;simp at hn),(List.dropLast_concat_getLast _).symm⟩;have hi:ini.length=n:=by simpa using hn
  unfold isNat at h;simp only[Bool.and_eq_true,List.all_append]at h;obtain⟨⟨_,h2⟩,h3,h4⟩:=h;have h5:isDig last=true:=by simpa using h4
  have h6:=h5;unfold isDig at h6;simp only[Bool.and_eq_true,decide_eq_true_eq]at h6;have hdl:digN (10*valS ini+(last.toNat-48))=last:=by
   apply UInt8.toNat_inj.1;rw[digN_toNat];omega
  rw[valS_snoc]
  cases ini with
  | nil =>
   have hs:10*valS []+(last.toNat-48)<10:=by show 10*0+_<10;omega
   rw[dig_small hs,hdl];rfl
  | cons c r =>
   have hnat:isNat (c::r)=true:=by
    unfold isNat;simp only[h3,Bool.and_true,Bool.and_eq_true];refine⟨by simp,?_⟩;have hc48:c≠48:=by intro e;simp[e]at h2
    simp[hc48]
   have hdi:=ih hnat hi;have hpos:0<valS (c::r):=by
    rcases Nat.eq_zero_or_pos (valS (c::r)) with h0|h0
    ·exfalso;rw[h0,dig_small (by omega)]at hdi;have hc:c=48:=by
      have:=(List.cons.inj hdi).1;rw[←this];rfl
     simp[hc]at h2
    ·exact h0
   rw[dig_big (by omega),hdl,show (10*valS (c::r)+(last.toNat-48)) / 10=valS (c::r) from by omega,hdi]
theorem all_drop{l:List UInt8}(h:l.all isDig=true)(n:Nat):(l.drop n).all isDig=true:=by
 rw[List.all_eq_true]at h ⊢;exact fun c hc=>h c (List.mem_of_mem_drop hc)
theorem all_take{l:List UInt8}(h:l.all isDig=true)(n:Nat):(l.take n).all isDig=true:=by
 rw[List.all_eq_true]at h ⊢;exact fun c hc=>h c (List.mem_of_mem_take hc)
theorem valS_lt9{l:List UInt8}(h:l.all isDig=true)(hl:l.length≤9):valS l<1000000000 :=
 Nat.lt_of_lt_of_le (valS_lt h) (Nat.le_trans (Nat.pow_le_pow_right (by decide) hl) (by decide))
theorem pow_nine(k:Nat):10 ^ (9*k)=Bp k:=by unfold Bp;rw[Nat.pow_mul]
def RdRel(l:List UInt8)(n:Nat)(zs:List Nat)(k:Nat):Prop :=
 zs.length=n∧Small zs∧sumTo (gl zs) k=valS (l.drop (l.length-9*k))∧∀j,k≤j→gl zs j=0
theorem RdRel.start(l:List UInt8)(n:Nat):RdRel l n (List.replicate n 0) 0 :=
 ⟨List.length_replicate,Small.zeros n,by rw[Nat.mul_zero,Nat.sub_zero,List.drop_length];rfl,fun j _=>gl_zeros n j⟩
theorem RdRel.step{l:List UInt8}{n:Nat}{zs:List Nat}{k lo m:Nat}(h:RdRel l n zs k)(hd:l.all isDig=true)(hk:k<n)(hlo:lo=l.length-(9*k+9))(hm:m=l.length-9*k-lo)(hkl:9*k≤l.length) :
  RdRel l n (zs.set k (valS ((l.drop lo).take m))) (k+1):=by
 obtain⟨h1,h2,h3,h4⟩:=h;have hx:valS ((l.drop lo).take m)<1000000000:=valS_lt9 (all_take (all_drop hd _) _) (by rw[List.length_take];omega);refine⟨by rw[List.length_set,h1],h2.set hx,?_,fun j hj=>?_⟩
 ·rw[sumTo,sumTo_set (Nat.le_refl k),gl_set_same (by omega),h3];have e1:l.drop (l.length-9*(k+1))=(l.drop lo).take m++l.drop (l.length-9*k):=by
   have e2:l.length-9*(k+1)=lo:=by omega
   have e3:l.drop (l.length-9*k)=(l.drop lo).drop m:=by rw[List.drop_drop];congr 1;omega
   rw[e2,e3,List.take_append_drop]
  rw[e1,valS_append,List.length_drop,show l.length-(l.length-9*k)=9*k from by omega,pow_nine];omega
 ·rw[gl_set_other (by omega)];exact h4 j (by omega)
theorem RdRel.done{l:List UInt8}{n:Nat}{zs:List Nat}(h:RdRel l n zs n)(hn:l.length≤9*n):zs.length=n∧Small zs∧valL zs=valS l:=by
 obtain⟨h1,h2,h3,_⟩:=h;refine⟨h1,h2,?_⟩;rw[show l.length-9*n=0 from by omega,List.drop_zero]at h3;unfold valL;rw[h1,h3]
def gb(l:List UInt8)(j:Nat):UInt8:=l[j]?.getD 0
theorem gb_dig{l:List UInt8}(h:l.all isDig=true){j:Nat}(hj:j<l.length):48≤(gb l j).toNat∧(gb l j).toNat≤57:=by
 unfold gb;rw[List.getElem?_eq_getElem hj];rw[List.all_eq_true]at h;have:=h _ (List.getElem_mem hj);unfold isDig at this
 simpa using this
theorem valS_take_succ(l:List UInt8){lo m j:Nat}(hj:j<m)(hl:lo+j<l.length):valS (((l.drop lo).take m).take (j+1))=valS (((l.drop lo).take m).take j)*10+((gb l (lo+j)).toNat-48):=by
 have h1:((l.drop lo).take m)[j]?=some (gb l (lo+j)):=by
  rw[List.getElem?_take,if_pos hj,List.getElem?_drop];unfold gb;rw[List.getElem?_eq_getElem hl]
  rfl
 rw[List.take_add_one,h1,Option.toList_some,valS_snoc,Nat.mul_comm]
def dgt(xs:List Nat)(q:Nat):Nat:=gl xs (q / 9) / 10 ^ (q % 9) % 10
theorem dgt_lt(xs:List Nat)(q:Nat):dgt xs q<10:=Nat.mod_lt _ (by decide)
theorem dgt_at(xs:List Nat){k p:Nat}(hp:p<9):dgt xs (9*k+p)=gl xs k / 10 ^ p % 10:=by
 unfold dgt;rw[show (9*k+p) / 9=k from by omega,show (9*k+p) % 9=p from by omega]
def txt(f:Nat→Nat):Nat→List UInt8
 | 0=>[]
 | n+1=>UInt8.ofNat (48+f n)::txt f n
theorem txt_length(f:Nat→Nat)(n:Nat):(txt f n).length=n:=by
 induction n with
 | zero=>rfl
 | succ n ih=>simp[txt,ih]
theorem gb_txt(f:Nat→Nat){n j:Nat}(hj:j<n):gb (txt f n) j=UInt8.ofNat (48+f (n-1-j)):=by
 induction n generalizing j with
 | zero=>omega
 | succ n ih =>
  cases j with
  | zero=>simp[txt,gb]
  | succ j =>
   have:=ih (j:=j) (by omega);rw[show n+1-1-(j+1)=n-1-j from by omega,← this];simp[txt,gb]
theorem toNat_dg{d:Nat}(h:d<10):(UInt8.ofNat (48+d)).toNat=48+d:=by
 rw[UInt8.toNat_ofNat'];omega
theorem txt_all{f:Nat→Nat}(hf:∀q,f q<10)(n:Nat):(txt f n).all isDig=true:=by
 induction n with
 | zero=>rfl
 | succ n ih =>
  have h:=hf n;rw[txt,List.all_cons,ih,Bool.and_true];unfold isDig;rw[toNat_dg h];simp only[Bool.and_eq_true,decide_eq_true_eq];omega
def dsum(f:Nat→Nat):Nat→Nat
 | 0=>0
 | n+1=>f n*10 ^ n+dsum f n
theorem valS_cons(c:UInt8)(r:List UInt8):valS (c::r)=(c.toNat-48)*10 ^ r.length+valS r:=by
 have h:=valS_append [c] r;have h1:valS [c]=c.toNat-48:=by show 10*0+(c.toNat-48)=_;omega
 rw[h1]at h;exact h
theorem valS_txt{f:Nat→Nat}(hf:∀q,f q<10)(n:Nat):valS (txt f n)=dsum f n:=by
 induction n with
 | zero=>rfl
 | succ n ih =>
  rw[txt,valS_cons,ih,txt_length,toNat_dg (hf n),dsum]
  congr 2
  omega
theorem nine_digits{x:Nat}(h:x<1000000000) :
  x / 100000000 % 10*100000000+(x / 10000000 % 10*10000000+(x / 1000000 % 10*1000000+(x / 100000 % 10*100000+(x / 10000 % 10*10000+(x / 1000 % 10*1000+(x / 100 % 10*100+(x / 10 % 10*10+x % 10)))))))=x:=by
 have e1:x / 100=x / 10 / 10:=by rw[Nat.div_div_eq_div_mul]
 have e2:x / 1000=x / 100 / 10:=by rw[Nat.div_div_eq_div_mul]
 have e3:x / 10000=x / 1000 / 10:=by rw[Nat.div_div_eq_div_mul]
 have e4:x / 100000=x / 10000 / 10:=by rw[Nat.div_div_eq_div_mul]
 have e5:x / 1000000=x / 100000 / 10:=by rw[Nat.div_div_eq_div_mul]
 have e6:x / 10000000=x / 1000000 / 10:=by rw[Nat.div_div_eq_div_mul]
 have e7:x / 100000000=x / 10000000 / 10:=by rw[Nat.div_div_eq_div_mul]
 have h7:x / 100000000<10:=by omega
 generalize x / 100000000=y8 at *;generalize x / 10000000=y7 at *;generalize x / 1000000=y6 at *;generalize x / 100000=y5 at *;generalize x / 10000=y4 at *;generalize x / 1000=y3 at *;generalize x / 100=y2 at *;generalize hy1:x / 10=y1 at *;omega
theorem dsum_limbs{xs:List Nat}(hs:Small xs)(k:Nat):dsum (dgt xs) (9*k)=sumTo (gl xs) k:=by
 induction k with
 | zero=>rfl
 | succ k ih =>
  have hx:=hs.gl k;have hp:∀p,10 ^ (9*k+p)=Bp k*10 ^ p:=fun p=>by rw[Nat.pow_add,pow_nine]
  have hd0:dgt xs (9*k)=gl xs k / 10 ^ 0 % 10:=dgt_at xs (p:=0) (by decide);have hp0:10 ^ (9*k)=Bp k*10 ^ 0:=hp 0;have h9:=nine_digits hx;rw[show 9*(k+1)=9*k+8+1 from by omega,dsum,dgt_at xs (by decide),hp,
   show 9*k+8=9*k+7+1 from rfl,dsum,dgt_at xs (by decide),hp,
   show 9*k+7=9*k+6+1 from rfl,dsum,dgt_at xs (by decide),hp,
   show 9*k+6=9*k+5+1 from rfl,dsum,dgt_at xs (by decide),hp,
   show 9*k+5=9*k+4+1 from rfl,dsum,dgt_at xs (by decide),hp,
   show 9*k+4=9*k+3+1 from rfl,dsum,dgt_at xs (by decide),hp,
   show 9*k+3=9*k+2+1 from rfl,dsum,dgt_at xs (by decide),hp,
   show 9*k+2=9*k+1+1 from rfl,dsum,dgt_at xs (by decide),hp,
   dsum,hd0,hp0,ih,sumTo]
  generalize gl xs k=x at *;generalize Bp k=B at *;generalize sumTo (gl xs) k=S at *;have e0:10 ^ 0=1:=rfl;have e1:10 ^ 1=10:=rfl;have e2:10 ^ 2=100:=rfl;have e3:10 ^ 3=1000:=rfl;have e4:10 ^ 4=10000:=rfl;have e5:10 ^ 5=100000:=rfl;have e6:10 ^ 6=1000000:=rfl;have e7:10 ^ 7=10000000:=rfl;have e8:10 ^ 8=100000000:=rfl;rw[e0,e1,e2,e3,e4,e5,e6,e7,e8,Nat.div_one];have hm:∀a t:Nat,a*(B*t)=B*(a*t):=fun a t=>Nat.mul_left_comm a B t;rw[hm,hm,hm,hm,hm,hm,hm,hm,hm,Nat.mul_one,Nat.mul_comm x B]
  conv=>rhs;rw[←h9]
  simp only[Nat.mul_add];omega
theorem valS_limbs{xs:List Nat}(hs:Small xs):valS (txt (dgt xs) (9*xs.length))=valL xs:=by
 rw[valS_txt (dgt_lt xs),dsum_limbs hs];rfl
theorem valS_dropZeros(l:List UInt8):valS (l.dropWhile (·==48))=valS l:=by
 induction l with
 | nil=>rfl
 | cons c r ih =>
  rw[List.dropWhile_cons];by_cases h:c=48
  ·subst h;rw[if_pos (by decide),ih,valS_cons];have:(48:UInt8).toNat-48=0:=rfl;rw[this];omega
  ·rw[if_neg (by simpa using h)]
theorem all_dropZeros{l:List UInt8}(h:l.all isDig=true):(l.dropWhile (·==48)).all isDig=true:=by
 rw[List.all_eq_true]at h ⊢;exact fun c hc=>h c ((List.dropWhile_sublist _).subset hc)
theorem head_dropZeros(l:List UInt8):(l.dropWhile (·==48)).head?≠some 48:=by
 induction l with
 | nil=>simp
 | cons c r ih =>
  rw[List.dropWhile_cons];by_cases h:c=48
  ·subst h;rw[if_pos (by decide)];exact ih
  ·rw[if_neg (by simpa using h)];simpa using h
theorem dropZeros_dig{l:List UInt8}(h:l.all isDig=true)(hv:0<valS l):l.dropWhile (·==48)=dig (valS l):=by
 have h1:=valS_dropZeros l;have h2:=all_dropZeros h;have h3:=head_dropZeros l;have hn:isNat (l.dropWhile (·==48))=true:=by
  unfold isNat;rw[h2,Bool.and_true,Bool.and_eq_true];refine⟨?_,?_⟩
  ·cases he:l.dropWhile (·==48) with
   | nil=>rw[he]at h1;have:valS []=0:=rfl;omega
   | cons c r=>rfl
  ·have:((l.dropWhile (·==48)).head?==some 48)=false:=by simpa using h3
   rw[this];rfl
 rw[←dig_valS hn,h1]
theorem mix{R p q u m n t:Int}(hR:0≤R)(hp:0≤p)(hpR:p≤R)(hq:0≤q)(hqR:q≤R)(hs:(0≤m∧n≤0)∨(m≤0∧0≤n))(h1:t≤u+m)(h2:t≤u+n) :
  t*R≤u*R+m*p+n*q:=by
 have e1:=Int.mul_le_mul_of_nonneg_right h1 hR;have e2:=Int.mul_le_mul_of_nonneg_right h2 hR;rw[Int.add_mul]at e1 e2;rcases hs with ⟨hm,hn⟩|⟨hm,hn⟩
 ·have a1:=Int.mul_nonneg hm hp;have a2:=Int.mul_le_mul_of_nonpos_left hn hqR;omega
 ·have a1:=Int.mul_nonneg hn hq;have a2:=Int.mul_le_mul_of_nonpos_left hm hpR;omega
structure Fo(A B x0 y0 a b c d x y:Int):Prop where
 ex:x=a*x0+b*y0
 ey:y=c*x0+d*y0
 sg:(0≤a∧b≤0∧c≤0∧0≤d∧a*d-b*c=1)∨(a≤0∧0≤b∧0≤c∧d≤0∧a*d-b*c=-1)
 ba:-1000000000<a∧a<1000000000
 bb:-1000000000<b∧b<1000000000
 bc:-1000000000<c∧c<1000000000
 bd:-1000000000<d∧d<1000000000
 bx:0≤x∧x<1000000000000000000
 bY:0≤y∧y<1000000000000000000
 pa:0≤x+a
 pb:0≤x+b
 pc:0≤y+c
 pd:0≤y+d
 nA:0≤a*A+b*B
 nB:0≤c*A+d*B
 tr:(a=1∧b=0∧c=0∧d=1)∨(a*A+b*B≤B∧c*A+d*B<B)
theorem Fo.start{A B x0 y0:Int}(hA:0≤A)(hB:0≤B)(hx:0≤x0∧x0<1000000000000000000)(hy:0≤y0∧y0<1000000000000000000):Fo A B x0 y0 1 0 0 1 x0 y0:=by
 refine⟨by omega,by omega,.inl ⟨by omega,by omega,by omega,by omega,by omega⟩,by omega,by omega,by omega,by omega,hx,hy,by omega,by omega,by omega,by omega,by omega,by omega,.inl ⟨rfl,rfl,rfl,rfl⟩⟩
theorem root_lt{v x z:Int}(h1:v≤x)(h2:v*x≤z)(h3:z<1000000000000000000):v<1000000000:=by
 rcases(by omega:v<1000000000∨1000000000≤v) with h|h
 ·exact h
 ·exfalso;have e1:1000000000*x≤v*x:=Int.mul_le_mul_of_nonneg_right h (by omega);have e2:(1000000000:Int)*1000000000≤1000000000*x:=by omega
  omega
theorem Fo.step{A B x0 y0 a b c d x y R p r q:Int}(h:Fo A B x0 y0 a b c d x y)(hA:A=x0*R+p)(hB:B=y0*R+r)(hR:1≤R)(hp:0≤p)(hpR:p≤R)(hr:0≤r)(hrR:r≤R)
  (hx0:x0<1000000000000000000) (hy0:y0<1000000000000000000) (hc:y+c≠0) (hd:y+d≠0) (hq1:q=(x+a) / (y+c)) (hq2:q=(x+b) / (y+d)) :
  Fo A B x0 y0 c d (a-q*c) (b-q*d) y (x-q*y)∧x-q*y<y∧0≤q∧(-1000000000<q*c∧q*c<1000000000)∧(-1000000000<q*d∧q*d<1000000000)∧0≤q*y∧q*y<1000000000000000000:=by
 obtain⟨ex,ey,sg,ba,bb,bc,bd,bx,bY,pa,pb,pc,pd,nA,nB,tr⟩:=h;have hq0:0≤q:=by rw[hq1];exact Int.ediv_nonneg pa pc
 have d1:=Int.mul_ediv_add_emod (x+a) (y+c);have d2:=Int.mul_ediv_add_emod (x+b) (y+d);have m1:=Int.emod_nonneg (x+a) hc;have m2:=Int.emod_nonneg (x+b) hd;have m3:=Int.emod_lt_of_pos (x+a) (show 0<y+c by omega);have m4:=Int.emod_lt_of_pos (x+b) (show 0<y+d by omega);rw[←hq1,Int.mul_comm,Int.mul_add]at d1;rw[←hq2,Int.mul_comm,Int.mul_add]at d2;generalize (x+a) % (y+c)=r1 at *;generalize (x+b) % (y+d)=r2 at *;clear hq1 hq2;have hqy:0≤q*y:=Int.mul_nonneg hq0 bY.1;have ec:y+c+0=y+c:=by omega
 have ident1:(a-q*c)*A+(b-q*d)*B=(x-q*y)*R+(a-q*c)*p+(b-q*d)*r:=by
  rw[hA,hB,ex,ey];grind
 have ident2:(c*A+d*B)-((a-q*c)*A+(b-q*d)*B)=(y-(x-q*y))*R+(c-(a-q*c))*p+(d-(b-q*d))*r:=by
  rw[ident1,hA,hB,ey];grind
 have ey':x-q*y=(a-q*c)*x0+(b-q*d)*y0:=by rw[ex,ey];grind
 have det':c*(b-q*d)-d*(a-q*c)=-(a*d-b*c):=by grind
 have x0e:(a*d-b*c)*x0=(b-q*d)*(-y)+d*(x-q*y):=by rw[ex,ey];grind
 have y0e:(a*d-b*c)*y0=(a-q*c)*y-c*(x-q*y):=by rw[ex,ey];grind
 have sgn:(0≤a∧b≤0∧c≤0∧0≤d∧q*c≤0∧0≤q*d∧a*d-b*c=1)∨(a≤0∧0≤b∧0≤c∧d≤0∧0≤q*c∧q*d≤0∧a*d-b*c=-1):=by
  rcases sg with ⟨s1,s2,s3,s4,s5⟩|⟨s1,s2,s3,s4,s5⟩
  ·exact .inl ⟨s1,s2,s3,s4,Int.mul_nonpos_of_nonneg_of_nonpos hq0 s3,Int.mul_nonneg hq0 s4,s5⟩
  ·exact .inr ⟨s1,s2,s3,s4,Int.mul_nonneg hq0 s3,Int.mul_nonpos_of_nonneg_of_nonpos hq0 s4,s5⟩
 clear sg;have key:-1000000000<a-q*c∧a-q*c<1000000000∧-1000000000<b-q*d∧b-q*d<1000000000:=by
  rcases sgn with ⟨s1,s2,s3,s4,s5,s6,s7⟩|⟨s1,s2,s3,s4,s5,s6,s7⟩
  ·rw[s7,Int.one_mul]at x0e y0e;have k1:0≤d*(x-q*y):=Int.mul_nonneg s4 (by omega);have k2:0≤-(c*(x-q*y)):=by
    have:=Int.mul_nonpos_of_nonpos_of_nonneg s3 (show 0≤x-q*y by omega);omega
   have k3:(b-q*d)*(-y)=(-(b-q*d))*y:=by grind
   have z1:=root_lt (v:=-(b-q*d)) (x:=y) (z:=x0) (by omega) (by omega) hx0;have z2:=root_lt (v:=a-q*c) (x:=y) (z:=y0) (by omega) (by omega) hy0;omega
  ·rw[s7]at x0e y0e;have k1:d*(x-q*y)≤0:=Int.mul_nonpos_of_nonpos_of_nonneg s4 (by omega);have k2:0≤c*(x-q*y):=Int.mul_nonneg s3 (by omega);have k3:(b-q*d)*(-y)=-((b-q*d)*y):=by grind
   have k4:(a-q*c)*y=-((-(a-q*c))*y):=by grind
   have z1:=root_lt (v:=b-q*d) (x:=y) (z:=x0) (by omega) (by omega) hx0;have z2:=root_lt (v:=-(a-q*c)) (x:=y) (z:=y0) (by omega) (by omega) hy0;omega
 have hnn:0≤(a-q*c)*A+(b-q*d)*B:=by
  have:=mix (t:=0) (R:=R) (p:=p) (q:=r) (u:=x-q*y) (m:=a-q*c) (n:=b-q*d) (by omega) hp hpR hr hrR (by rcases sgn with s|s<;>omega) (by omega) (by omega);rw[ident1];omega
 have hlt:(a-q*c)*A+(b-q*d)*B<c*A+d*B:=by
  have:=mix (t:=1) (R:=R) (p:=p) (q:=r) (u:=y-(x-q*y)) (m:=c-(a-q*c)) (n:=d-(b-q*d)) (by omega) hp hpR hr hrR (by rcases sgn with s|s<;>omega) (by omega) (by omega);omega
 have hyx:x-q*y<y:=by rcases sgn with s|s<;>omega
 have hyn:0≤x-q*y:=by rcases sgn with s|s<;>omega
 have hcB:c*A+d*B≤B:=by
  rcases tr with ⟨e1,e2,e3,e4⟩|⟨_,e⟩
  ·rw[e3,e4];omega
  ·omega
 refine⟨⟨ey,ey',?_,bc,bd,by omega,by omega,bY,by omega,pc,pd,by omega,by omega,nB,hnn,.inr ⟨hcB,by omega⟩⟩,hyx,hq0,by rcases sgn with s|s<;>omega,by rcases sgn with s|s<;>omega,hqy,by omega⟩;rcases sgn with s|s
 ·exact .inr (by omega)
 ·exact .inl (by omega)
theorem gcd_steps{A B A' B':Nat}{a b c d:Int}(hA:(A':Int)=a*A+b*B)(hB:(B':Int)=c*A+d*B)(hd:a*d-b*c=1∨a*d-b*c=-1):Nat.gcd A' B'=Nat.gcd A B:=by
 have div:∀ {m n x y:Int} {X Y Z:Nat},(Z:Int)=m*X+n*Y→Nat.gcd X Y∣Z:=fun {m n x y X Y Z} h=>by
  apply Int.natCast_dvd_natCast.1;rw[h];exact Int.dvd_add (Int.dvd_mul_of_dvd_right (Int.natCast_dvd_natCast.2 (Nat.gcd_dvd_left X Y))) (Int.dvd_mul_of_dvd_right (Int.natCast_dvd_natCast.2 (Nat.gcd_dvd_right X Y)))
 obtain⟨e,he,hee⟩:∃e:Int,e*(a*d-b*c)=1∧True:=by
  rcases hd with h|h
  ·exact⟨1,by rw[h];rfl,trivial⟩
  ·exact⟨-1,by rw[h];rfl,trivial⟩
 have iA:(A:Int)=(e*d)*A'+(-(e*b))*B':=by rw[hA,hB];grind
 have iB:(B:Int)=(-(e*c))*A'+(e*a)*B':=by rw[hA,hB];grind
 apply Nat.dvd_antisymm
 ·exact Nat.dvd_gcd (div (x:=0) (y:=0) iA) (div (x:=0) (y:=0) iB)
 ·exact Nat.dvd_gcd (div (x:=0) (y:=0) hA) (div (x:=0) (y:=0) hB)
theorem tm_hi(al:Int):al.tmod 1000000000<1000000000:=Int.tmod_lt_of_pos al (by omega)
theorem tm_lo(al:Int):-1000000000<al.tmod 1000000000:=by
 have:=Int.tmod_lt_of_pos (-al) (show (0:Int)<1000000000 by omega);rw[Int.neg_tmod]at this;omega
def CombRel(xs ys:List Nat)(m n:Int)(N:Nat)(zs:List Nat)(k:Nat)(cy:Int):Prop :=
 zs.length=N∧Small zs∧(-2000000000≤cy∧cy≤2000000000)∧(sumTo (gl zs) k:Int)+cy*Bp k=m*sumTo (gl xs) k+n*sumTo (gl ys) k
theorem CombRel.start(xs ys:List Nat)(m n:Int)(N:Nat):CombRel xs ys m n N (List.replicate N 0) 0 0 :=
 ⟨List.length_replicate,Small.zeros N,by omega,by simp[sumTo]⟩
theorem mul_small{m:Int}{x:Nat}(h1:-1000000000<m)(h2:m<1000000000)(hx:x<1000000000):-999999998000000001≤m*x∧m*x≤999999998000000001:=by
 rcases(by omega:0≤m∨m≤0) with h|h
 ·have e1:0≤m*(x:Int):=Int.mul_nonneg h (by omega);have e2:m*(x:Int)≤999999999*x:=Int.mul_le_mul_of_nonneg_right (by omega) (by omega);omega
 ·have e1:0≤(-m)*(x:Int):=Int.mul_nonneg (by omega) (by omega);have e2:(-m)*(x:Int)≤999999999*x:=Int.mul_le_mul_of_nonneg_right (by omega) (by omega);rw[Int.neg_mul]at e1 e2;omega
theorem CombRel.step{xs ys:List Nat}{m n:Int}{N:Nat}{zs:List Nat}{k:Nat}{cy cy':Int}{low:Nat}(h:CombRel xs ys m n N zs k cy)(hk:k<N)(hlow:low<1000000000)
  (hm:-1000000000<m∧m<1000000000) (hn:-1000000000<n∧n<1000000000) (hx:Small xs) (hy:Small ys)
  (e:m*gl xs k+n*gl ys k+cy=low+1000000000*cy'):CombRel xs ys m n N (zs.set k low) (k+1) cy':=by
 obtain⟨h1,h2,h3,h4⟩:=h;have b1:=mul_small hm.1 hm.2 (hx.gl k);have b2:=mul_small hn.1 hn.2 (hy.gl k);refine⟨by rw[List.length_set,h1],h2.set hlow,by omega,?_⟩;rw[sumTo,sumTo,sumTo,sumTo_set (Nat.le_refl k),gl_set_same (by omega),Bp_succ];have e':=congrArg (fun t:Int=>t*(Bp k:Int)) e;simp only[Int.add_mul]at e';generalize gl xs k=x at *;generalize gl ys k=y at *;generalize hB:Bp k=B at *;generalize sumTo (gl zs) k=S at *;generalize sumTo (gl xs) k=X at *;generalize sumTo (gl ys) k=Y at *;have c1:((S+low*B:Nat):Int)=S+low*B:=by simp
 have c2:((X+x*B:Nat):Int)=X+x*B:=by simp
 have c3:((Y+y*B:Nat):Int)=Y+y*B:=by simp
 have c4:((1000000000*B:Nat):Int)=1000000000*B:=by omega
 rw[c1,c2,c3,c4]
 grind
theorem CombRel.done{xs ys:List Nat}{m n:Int}{N:Nat}{zs:List Nat}{cy:Int}(h:CombRel xs ys m n N zs N cy)(h1:xs.length≤N)(h2:ys.length≤N){T:Nat}
  (hT:(T:Int)=m*valL xs+n*valL ys) (hb:T<Bp N):zs.length=N∧Small zs∧valL zs=T:=by
 obtain⟨g1,g2,g3,g4⟩:=h;rw[valL_to h1,valL_to h2,← hT]at g4;have e:valL zs=sumTo (gl zs) N:=by unfold valL;rw[g1]
 have hl:=valL_lt g2;rw[←e]at g4;rw[g1]at hl;refine⟨g1,g2,?_⟩;have hP:=Bp_pos N;generalize Bp N=P at *;generalize valL zs=V at *;rcases(by omega:cy≤-1∨cy=0∨1≤cy) with hc|hc|hc
 ·have:=Int.mul_le_mul_of_nonneg_right hc (show (0:Int)≤P by omega);omega
 ·rw[hc]at g4;omega
 ·have:=Int.mul_le_mul_of_nonneg_right hc (show (0:Int)≤P by omega);omega
def cmpN(m n:Nat):Int:=if m<n then -1 else if m=n then 0 else 1
theorem valS_head{c:UInt8}{r:List UInt8}(h:isNat (c::r)=true)(hr:r≠[]):10 ^ r.length≤valS (c::r):=by
 have hc:isDig c=true∧c≠48:=by
  unfold isNat at h;simp only[Bool.and_eq_true,List.all_cons]at h;obtain⟨⟨_,h2⟩,h3,_⟩:=h;refine⟨h3,fun e=>?_⟩;subst e;simp at h2;exact absurd h2 hr
 have hd:=hc.1;unfold isDig at hd;simp only[Bool.and_eq_true,decide_eq_true_eq]at hd;have h1:c.toNat≠48:=fun e=>hc.2 (UInt8.toNat_inj.1 (by rw[e];rfl));rw[valS_cons];have:1*10 ^ r.length≤(c.toNat-48)*10 ^ r.length:=Nat.mul_le_mul_right _ (by omega);omega
theorem shorter_lt{l r:List UInt8}(hl:isNat l=true)(hr:isNat r=true)(h:l.length<r.length):valS l<valS r:=by
 have hla:l.all isDig=true:=by unfold isNat at hl;simp only[Bool.and_eq_true]at hl;exact hl.2
 have hl0:0<l.length:=by cases l with
  | nil=>cases hl
  | cons c r=>simp
 cases r with
 | nil=>simp at h
 | cons c r =>
  have h1:=valS_head hr (by intro e;subst e;simp only[List.length_cons,List.length_nil]at h;omega);have h2:=valS_lt hla;have h3:10 ^ l.length≤10 ^ r.length:=Nat.pow_le_pow_right (by decide) (by simp only[List.length_cons]at h;omega);omega
theorem compare_same{l r:List UInt8}(hl:l.all isDig=true)(hr:r.all isDig=true)(h:l.length=r.length):Lib.compareBytes l r=cmpN (valS l) (valS r):=by
 induction l generalizing r with
 | nil =>
  obtain rfl:r=[]:=List.length_eq_zero_iff.1 (by simpa using h.symm)
  rfl
 | cons a l ih =>
  cases r with
  | nil=>simp at h
  | cons b r =>
   rw[List.all_cons,Bool.and_eq_true]at hl hr;have hlen:l.length=r.length:=by simpa using h
   have hi:=ih hl.2 hr.2 hlen;have v1:=valS_lt hl.2;have v2:=valS_lt hr.2;have d1:=hl.1;have d2:=hr.1;unfold isDig at d1 d2;simp only[Bool.and_eq_true,decide_eq_true_eq]at d1 d2;rw[valS_cons,valS_cons,hlen];rw[hlen]at v1;unfold Lib.compareBytes;generalize 10 ^ r.length=P at *;have key:∀x y m n:Nat,x<y→m<P→x*P+m<y*P+n:=fun x y m n hxy hm=>by
    have:(x+1)*P≤y*P:=Nat.mul_le_mul_right _ hxy;rw[Nat.add_mul,Nat.one_mul]at this;omega
   by_cases h1:a<b
   ·have h1':a.toNat<b.toNat:=h1;have:=key (a.toNat-48) (b.toNat-48) (valS l) (valS r) (by omega) v1;unfold cmpN;simp[h1,this]
   ·by_cases h2:b<a
    ·have h2':b.toNat<a.toNat:=h2;have:=key (b.toNat-48) (a.toNat-48) (valS r) (valS l) (by omega) v2;unfold cmpN;rw[if_neg h1,if_pos h2,if_neg (Nat.not_lt.2 (Nat.le_of_lt this)),if_neg (Nat.ne_of_gt this)]
    ·have e:a=b:=UInt8.toNat_inj.1 (by have h1':¬a.toNat<b.toNat:=h1;have h2':¬b.toNat<a.toNat:=h2;omega);subst e;simp only[h1,if_false];rw[hi];unfold cmpN;simp
theorem decDigits_dig(n:Nat):Lib.decDigits n=dig n:=by
 induction n using Nat.strongRecOn with
 | _ n ih =>
  rw[Lib.decDigits,dig];by_cases h:n<10
  ·rw[dif_pos h,dif_pos h];unfold digN;rw[Nat.mod_eq_of_lt h]
  ·rw[dif_neg h,dif_neg h,ih (n / 10) (by omega)]
   rfl
def dgS(l:List UInt8)(i:Nat):Nat:=if i<l.length then (gb l (l.length-1-i)).toNat-48 else 0
theorem dgS_beyond{l:List UInt8}{i:Nat}(h:l.length≤i):dgS l i=0:=by unfold dgS;rw[if_neg (by omega)]
theorem dgS_lt{l:List UInt8}(h:l.all isDig=true)(i:Nat):dgS l i<10:=by
 unfold dgS;split
 ·have:=gb_dig h (j:=l.length-1-i) (by omega);omega
 ·decide
theorem dgS_cons_lt(c:UInt8)(r:List UInt8){i:Nat}(h:i<r.length):dgS (c::r) i=dgS r i:=by
 unfold dgS;rw[if_pos h,if_pos (by rw[List.length_cons];omega)];have e:(c::r).length-1-i=(r.length-1-i)+1:=by rw[List.length_cons];omega
 rw[e];rfl
theorem dgS_cons_top(c:UInt8)(r:List UInt8):dgS (c::r) r.length=c.toNat-48:=by
 unfold dgS;rw[if_pos (by rw[List.length_cons];omega)];have e:(c::r).length-1-r.length=0:=by rw[List.length_cons];omega
 rw[e];rfl
theorem dsum_congr{f g:Nat→Nat}{n:Nat}(h:∀j,j<n→f j=g j):dsum f n=dsum g n:=by
 induction n with
 | zero=>rfl
 | succ n ih=>rw[dsum,dsum,h n (by omega),ih (fun j hj=>h j (by omega))]
theorem dsum_zero{f:Nat→Nat}{n:Nat}(h:∀j,j<n→f j=0):dsum f n=0:=by
 induction n with
 | zero=>rfl
 | succ n ih=>rw[dsum,ih (fun j hj=>h j (by omega)),h n (by omega),Nat.zero_mul]
theorem dsum_more{f:Nat→Nat}{n k:Nat}(h:n≤k)(hz:∀j,n≤j→f j=0):dsum f k=dsum f n:=by
 obtain⟨d,rfl⟩:=Nat.exists_eq_add_of_le h;clear h
 induction d with
 | zero=>rfl
 | succ d ih=>rw[←Nat.add_assoc,dsum,ih,hz _ (by omega),Nat.zero_mul,Nat.zero_add]
theorem dsum_self(l:List UInt8):dsum (dgS l) l.length=valS l:=by
 induction l with
 | nil=>rfl
 | cons c r ih =>
  rw[List.length_cons,dsum,dgS_cons_top,valS_cons,← ih]
  congr 1
  exact dsum_congr (fun j hj=>dgS_cons_lt c r hj)
theorem dsum_dgS{l:List UInt8}{n:Nat}(h:l.length≤n):dsum (dgS l) n=valS l :=
 (dsum_more h (fun _ hj=>dgS_beyond hj)).trans (dsum_self l)
theorem dsum_lt{f:Nat→Nat}{n:Nat}(h:∀j,j<n→f j<10):dsum f n<10 ^ n:=by
 induction n with
 | zero=>exact Nat.one_pos
 | succ n ih =>
  rw[dsum,Nat.pow_succ];have h1:=ih (fun j hj=>h j (by omega));have h2:f n*10 ^ n≤9*10 ^ n:=Nat.mul_le_mul_right _ (by have:=h n (by omega);omega);omega
def adC(f g:Nat→Nat):Nat→Nat
 | 0=>0
 | i+1=>(f i+g i+adC f g i) / 10
def adD(f g:Nat→Nat)(i:Nat):Nat:=(f i+g i+adC f g i) % 10
theorem adD_lt(f g:Nat→Nat)(i:Nat):adD f g i<10:=Nat.mod_lt _ (by decide)
theorem adC_le{f g:Nat→Nat}{B:Nat}(h:∀i,f i+g i≤9*B)(i:Nat):adC f g i≤B:=by
 induction i with
 | zero=>exact Nat.zero_le _
 | succ i ih=>have:=h i;rw[adC];omega
theorem ad_sum(f g:Nat→Nat)(n:Nat):dsum (adD f g) n+adC f g n*10 ^ n=dsum f n+dsum g n:=by
 induction n with
 | zero=>rfl
 | succ n ih =>
  rw[dsum,dsum,dsum,adC,adD,Nat.pow_succ];have h:(f n+g n+adC f g n) % 10*10 ^ n+(f n+g n+adC f g n) / 10*(10 ^ n*10)=f n*10 ^ n+g n*10 ^ n+adC f g n*10 ^ n:=by
   rw[←Nat.add_mul,← Nat.add_mul]
   conv=>rhs;rw[←Nat.mod_add_div (f n+g n+adC f g n) 10]
   rw[Nat.add_mul,Nat.mul_comm (10 ^ n) 10,← Nat.mul_assoc,Nat.mul_comm 10]
  omega
def sbC(f g:Nat→Nat):Nat→Nat
 | 0=>0
 | i+1=>if f i<g i+sbC f g i then 1 else 0
def sbD(f g:Nat→Nat)(i:Nat):Nat:=f i+10*sbC f g (i+1)-g i-sbC f g i
theorem sbC_le(f g:Nat→Nat)(i:Nat):sbC f g i≤1:=by
 cases i with
 | zero=>exact Nat.zero_le _
 | succ i=>rw[sbC];split<;>omega
theorem sb_one{f g:Nat→Nat}{i:Nat}(hg:g i<10):sbD f g i+g i+sbC f g i=f i+10*sbC f g (i+1):=by
 have:=sbC_le f g i;unfold sbD;rw[sbC];split<;>omega
theorem sbD_lt{f g:Nat→Nat}(hf:∀i,f i<10)(hg:∀i,g i<10)(i:Nat):sbD f g i<10:=by
 have h1:=sb_one (f:=f) (hg i);have h2:=hf i;have h3:f i<g i+sbC f g i∨sbC f g (i+1)=0:=by rw[sbC];split<;>omega
 have:=sbC_le f g (i+1);omega
theorem sb_sum{f g:Nat→Nat}(hg:∀i,g i<10)(n:Nat):dsum (sbD f g) n+dsum g n=dsum f n+sbC f g n*10 ^ n:=by
 induction n with
 | zero=>rfl
 | succ n ih =>
  have h:=congrArg (·*10 ^ n) (sb_one (f:=f) (hg n));simp only[Nat.add_mul]at h;rw[dsum,dsum,dsum,Nat.pow_succ];have e:sbC f g (n+1)*(10 ^ n*10)=10*sbC f g (n+1)*10 ^ n:=by
   rw[Nat.mul_comm (10 ^ n) 10,← Nat.mul_assoc,Nat.mul_comm _ 10]
  omega
def upd(z:Nat→Nat)(j v:Nat):Nat→Nat:=fun i=>if i=j then z i+v else z i
theorem dsum_upd(z:Nat→Nat){j n:Nat}(v:Nat)(h:j<n):dsum (upd z j v) n=dsum z n+v*10 ^ j:=by
 induction n with
 | zero=>omega
 | succ n ih =>
  rw[dsum,dsum];by_cases e:j=n
  ·subst e;have h1:upd z j v j=z j+v:=by unfold upd;rw[if_pos rfl]
   have h2:dsum (upd z j v) j=dsum z j:=dsum_congr (fun i hi=>by unfold upd;rw[if_neg (by omega)]);rw[h1,h2,Nat.add_mul];omega
  ·have h1:upd z j v n=z n:=by unfold upd;rw[if_neg (by omega)]
   rw[h1,ih (by omega)];omega
def MulRel(f g:Nat→Nat)(la lb:Nat)(z:Nat→Nat)(i k:Nat):Prop :=
 dsum z (la+lb)=dsum f i*dsum g lb+f i*10 ^ i*dsum g k∧(∀j,z j≤81*(i*lb+k))∧∀j,la+lb≤j+1→z j=0
theorem MulRel.start(f g:Nat→Nat)(la lb:Nat):MulRel f g la lb (fun _=>0) 0 0 :=
 ⟨by rw[dsum_zero (fun _ _=>rfl)];simp[dsum],fun _=>Nat.zero_le _,fun _ _=>rfl⟩
theorem MulRel.row{f g:Nat→Nat}{la lb:Nat}{z:Nat→Nat}{i:Nat}(h:MulRel f g la lb z i lb):MulRel f g la lb z (i+1) 0:=by
 obtain⟨h1,h2,h3⟩:=h;refine⟨?_,fun j=>?_,h3⟩
 ·rw[h1,dsum,dsum,Nat.mul_zero,Nat.add_zero,Nat.add_mul,Nat.add_comm]
 ·have:=h2 j;rw[Nat.add_mul,Nat.one_mul,Nat.add_zero];exact this
theorem MulRel.step{f g:Nat→Nat}{la lb:Nat}{z:Nat→Nat}{i k:Nat}(h:MulRel f g la lb z i k)(hf:f i<10)(hg:g k<10)(hi:i<la)(hk:k<lb) :
  MulRel f g la lb (upd z (i+k) (f i*g k)) i (k+1):=by
 obtain⟨h1,h2,h3⟩:=h;refine⟨?_,fun j=>?_,fun j hj=>?_⟩
 ·rw[dsum_upd z _ (by omega),h1,dsum,Nat.mul_add,Nat.pow_add];have e:f i*g k*(10 ^ i*10 ^ k)=f i*10 ^ i*(g k*10 ^ k):=by
   rw[Nat.mul_assoc,Nat.mul_assoc,Nat.mul_left_comm (g k)]
  omega
 ·have h81:f i*g k≤9*9:=Nat.mul_le_mul (by omega) (by omega);have:=h2 j;unfold upd;split<;>omega
 ·unfold upd;rw[if_neg (by omega)];exact h3 j hj
theorem ad_done{f g:Nat→Nat}{n m:Nat}(h:dsum f n+dsum g n=m)(hm:m<10 ^ n):dsum (adD f g) n=m:=by
 have h1:=ad_sum f g n;rcases Nat.eq_zero_or_pos (adC f g n) with h0|h0
 ·rw[h0]at h1;omega
 ·have:1*10 ^ n≤adC f g n*10 ^ n:=Nat.mul_le_mul_right _ h0;omega
theorem sb_done{f g:Nat→Nat}{n m:Nat}(hf:∀i,f i<10)(hg:∀i,g i<10)(h:dsum f n=m+dsum g n):dsum (sbD f g) n=m:=by
 have h1:=sb_sum (f:=f) hg n;have h2:=dsum_lt (n:=n) (fun j _=>sbD_lt hf hg j);rcases Nat.eq_zero_or_pos (sbC f g n) with h0|h0
 ·rw[h0]at h1;omega
 ·have:1*10 ^ n≤sbC f g n*10 ^ n:=Nat.mul_le_mul_right _ h0;omega
theorem drop_zeros{l:List UInt8}(h:l.all isDig=true){i:Nat}(hi:i<l.length)(hz:∀j,j<i→gb l j=48)(he:i+1=l.length∨gb l i≠48):l.drop i=dig (valS l):=by
 have hv:∀k,k≤i→valS (l.drop k)=valS l:=fun k=>by
  induction k with
  | zero=>intro _;rfl
  | succ k ih =>
   intro hk;rw[←ih (by omega)];have e:l.drop k=gb l k::l.drop (k+1):=by
    rw[List.drop_eq_getElem_cons (by omega)];unfold gb;rw[List.getElem?_eq_getElem (by omega)];rfl
   rw[e,valS_cons,hz k (by omega)];have:(48:UInt8).toNat-48=0:=rfl;rw[this];omega
 have hn:isNat (l.drop i)=true:=by
  unfold isNat;rw[all_drop h,Bool.and_true,Bool.and_eq_true];refine⟨?_,?_⟩
  ·rw[Bool.not_eq_true',List.isEmpty_eq_false_iff];intro e;have:=congrArg List.length e;rw[List.length_drop]at this;simp only[List.length_nil]at this;omega
  ·rw[Bool.not_eq_true',Bool.and_eq_false_iff];rcases he with he|he
   ·refine .inr ?_;rw[List.length_drop,decide_eq_false_iff_not];omega
   ·refine .inl ?_;rw[List.head?_drop,List.getElem?_eq_getElem hi];unfold gb at he;rw[List.getElem?_eq_getElem hi]at he
    simpa using he
 rw[←dig_valS hn,hv i (Nat.le_refl i)]
end Go.Proofs.YthgopcnagecbaaaGreatDoor
