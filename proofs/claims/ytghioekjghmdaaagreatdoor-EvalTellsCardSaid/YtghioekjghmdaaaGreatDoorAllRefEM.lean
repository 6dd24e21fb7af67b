/- Own work. -/
import Derived.Test.YtghioekjghmdaaaGreatDoorEvLiM
set_option linter.unusedVariables false
set_option linter.unusedSimpArgs false
namespace Go.Proofs.YtghioekjghmdaaaGreatDoor
namespace Ev
open Tm (Nd Tr okN)
open Fx (FK Fix GoodF rawF)
def Dg(k:Nat)(x:Rat):Prop:=(x.num.natAbs<10 ^ k∧x.den<10 ^ k)∧0<k
theorem Dg.mono{j k:Nat}{x:Rat}(h:Dg j x)(hk:j≤k):Dg k x:=⟨⟨Nat.lt_of_lt_of_le h.1.1 (Nat.pow_le_pow_right (by decide) hk),Nat.lt_of_lt_of_le h.1.2 (Nat.pow_le_pow_right (by decide) hk)⟩,Nat.lt_of_lt_of_le h.2 hk⟩
theorem Dg.divInt{n d:Int}{k:Nat}(h0:d≠0)(hn:n.natAbs<10 ^ k)(hd:d.natAbs<10 ^ k)(hp:0<k):Dg k (Rat.divInt n d):=by
 have h:=divInt_le (n:=n) h0;exact⟨⟨Nat.lt_of_le_of_lt h.1 hn,Nat.lt_of_le_of_lt h.2 hd⟩,hp⟩
section
variable {x y : Rat} {j k : Nat}
theorem dg_nd(hx:Dg j x)(hy:Dg k y):(x.num*(y.den:Int)).natAbs<10 ^ (j+k):=by
 rw[Int.natAbs_mul,Int.natAbs_natCast];exact mul_lt hx.1.1 hy.1.2
theorem dg_dd(hx:Dg j x)(hy:Dg k y):((x.den:Int)*(y.den:Int)).natAbs<10 ^ (j+k+1):=by
 rw[Int.natAbs_mul,Int.natAbs_natCast,Int.natAbs_natCast];exact pow_next (mul_lt hx.1.2 hy.1.2)
theorem Dg.add(hx:Dg j x)(hy:Dg k y):Dg (j+k+1) (x+y):=by
 rw[divInt_cross_add];have h2:=dg_nd hy hx;rw[Nat.add_comm k j]at h2;exact Dg.divInt (Int.ne_of_gt (den_mul_pos _ _)) (Nat.lt_of_le_of_lt (Int.natAbs_add_le _ _) (two_lt (dg_nd hx hy) h2)) (dg_dd hx hy) (Nat.succ_pos _)
theorem Dg.neg(hx:Dg k x):Dg k (-x):=by
 unfold Dg;rw[Rat.neg_num,Int.natAbs_neg,Rat.neg_den];exact hx
theorem Dg.sub(hx:Dg j x)(hy:Dg k y):Dg (j+k+1) (x-y):=by
 rw[Rat.sub_eq_add_neg];exact hx.add hy.neg
theorem Dg.mul(hx:Dg j x)(hy:Dg k y):Dg (j+k+1) (x*y):=by
 rw[divInt_cross_mul];refine Dg.divInt (Int.ne_of_gt (den_mul_pos _ _)) ?_ (dg_dd hx hy) (Nat.succ_pos _);rw[Int.natAbs_mul];exact pow_next (mul_lt hx.1.1 hy.1.1)
theorem Dg.div(hx:Dg j x)(hy:Dg k y)(h0:y≠0):Dg (j+k+1) (x / y):=by
 rw[divInt_cross_div];have hn:(x.den:Int)*y.num≠0:=fun e=>by
  rcases Int.mul_eq_zero.1 e with e|e
  ·exact absurd e (Int.ne_of_gt (den_pos _))
  ·exact num_ne h0 e
 refine Dg.divInt hn (pow_next (dg_nd hx hy)) ?_ (Nat.succ_pos _);rw[Int.natAbs_mul,Int.natAbs_natCast];exact pow_next (mul_lt hx.1.2 hy.1.1)
end
theorem sum_dg{D:Nat}:∀ (p:List Rat) (x:Rat) (m:Nat),x.num.natAbs≤m*10 ^ (D*m)→x.den≤10 ^ (D*m)→(∀y∈p,Dg D y) →
  (p.foldl (·+·) x).num.natAbs≤(m+p.length)*10 ^ (D*(m+p.length))∧(p.foldl (·+·) x).den≤10 ^ (D*(m+p.length))
 | [],x,m,hn,hd,_=>⟨hn,hd⟩
 | y::p,x,m,hn,hd,h=>by
  have hy:=h y (List.mem_cons_self ..);have e:10 ^ (D*(m+1))=10 ^ (D*m)*10 ^ D:=by rw[Nat.mul_add,Nat.mul_one,Nat.pow_add]
  have key:=divInt_le (n:=x.num*(y.den:Int)+y.num*(x.den:Int)) (Int.ne_of_gt (den_mul_pos x y));rw[←divInt_cross_add]at key;have h1:(x.num*(y.den:Int)).natAbs≤m*10 ^ (D*(m+1)):=by
   rw[Int.natAbs_mul,Int.natAbs_natCast,e,← Nat.mul_assoc];exact Nat.mul_le_mul hn (Nat.le_of_lt hy.1.2)
  have h2:(y.num*(x.den:Int)).natAbs≤10 ^ (D*(m+1)):=by
   rw[Int.natAbs_mul,Int.natAbs_natCast,e,Nat.mul_comm];exact Nat.mul_le_mul hd (Nat.le_of_lt hy.1.1)
  have h3:((x.den:Int)*(y.den:Int)).natAbs≤10 ^ (D*(m+1)):=by
   rw[Int.natAbs_mul,Int.natAbs_natCast,Int.natAbs_natCast,e];exact Nat.mul_le_mul hd (Nat.le_of_lt hy.1.2)
  have h4:=Int.natAbs_add_le (x.num*(y.den:Int)) (y.num*(x.den:Int));have r:=sum_dg p (x+y) (m+1) (Nat.le_trans key.1 (by rw[Nat.add_mul,Nat.one_mul];omega)) (Nat.le_trans key.2 h3) fun z hz=>h z (List.mem_cons_of_mem _ hz);rw[List.foldl_cons,List.length_cons,show m+(p.length+1)=m+1+p.length by omega];exact r
theorem avg_dg{D:Nat}(hD:0<D){p:List Rat}(h:∀y∈p,Dg D y)(hl:p.length≤60)(h0:p≠[]):Dg (60*D+4) (p.foldl (·+·) 0 / (p.length:Rat)):=by
 obtain⟨a,b⟩:=sum_dg (D:=D) p 0 0 (Nat.zero_le _) (Nat.le_of_eq rfl) h;rw[Nat.zero_add]at a b;have hp:10 ^ (D*p.length)≤10 ^ (60*D):=Nat.pow_le_pow_right (by decide) (by rw[Nat.mul_comm];exact Nat.mul_le_mul_right _ hl);have hs:Dg (60*D+2) (p.foldl (·+·) 0):=by
  have e:10 ^ (60*D+2)=10 ^ (60*D)*100:=by rw[Nat.pow_add]
  have q:0<10 ^ (60*D):=Nat.pow_pos (by decide);have m:=Nat.mul_le_mul hl hp;refine⟨⟨?_,?_⟩,by omega⟩<;>rw[e]<;>omega
 have hn:(p.length:Rat).num=(p.length:Int):=Rat.num_natCast ..;have hd:(p.length:Rat).den=1:=Rat.den_natCast ..;have hlp:p.length≠0:=fun e=>h0 (List.length_eq_zero_iff.1 e);have h1:(p.length:Rat)≠0:=fun e=>by
  have:=congrArg Rat.num e;rw[hn]at this;have:(p.length:Int)=0:=this;omega
 rw[divInt_cross_div,hn,hd];have e4:10 ^ (60*D+4)=10 ^ (60*D+2)*100:=by rw[show 60*D+4=60*D+2+2 by omega,Nat.pow_add]
 have z0:=hs.1.1;have z1:=hs.1.2
 have z2:0<(p.foldl (·+·) 0).den:=Nat.pos_of_ne_zero (Rat.den_nz _);refine Dg.divInt ?_ ?_ ?_ (by omega)
 ·exact Int.ne_of_gt (Int.mul_pos (by omega) (by omega))
 ·rw[Int.natAbs_mul,e4];exact Nat.lt_of_lt_of_le (by simpa using z0) (Nat.le_mul_of_pos_right _ (by decide))
 ·rw[Int.natAbs_mul,Int.natAbs_natCast,Int.natAbs_natCast,e4];have:=Nat.mul_le_mul (Nat.le_of_lt z1) hl;have:0<10 ^ (60*D+2):=Nat.pow_pos (by decide);omega
theorem hi_two(a b:Rat):hiQ a b=a∨hiQ a b=b:=by unfold hiQ;split;exact .inl rfl;exact .inr rfl
theorem lo_two(a b:Rat):loQ a b=a∨loQ a b=b:=by unfold loQ;split;exact .inl rfl;exact .inr rfl
theorem fold_in{f:Rat→Rat→Rat}(hf:∀a b,f a b=a∨f a b=b):∀ (p:List Rat) (q:Rat),p.foldl f q=q∨p.foldl f q∈p
 | [],q=>.inl rfl
 | y::p,q=>by
  rw[List.foldl_cons];rcases fold_in hf p (f q y) with e|e
  ·rw[e];rcases hf q y with e|e<;>rw[e]
   ·exact .inl rfl
   ·exact .inr (List.mem_cons_self ..)
  ·exact .inr (List.mem_cons_of_mem _ e)
theorem fold_dg{D:Nat}{f:Rat→Rat→Rat}(hf:∀a b,f a b=a∨f a b=b){p:List Rat}{q:Rat}(hq:Dg D q)(h:∀y∈p,Dg D y):Dg D (p.foldl f q):=by
 rcases fold_in hf p q with e|e
 ·rw[e];exact hq
 ·exact h _ e
theorem dg_text{q:Key}(h:isR q=true){k:Nat}(h1:q.1.length≤k)(h2:q.2.length≤k)(hk:k≤10000):Dg k (valR q):=by
 have:=Lq.of_text (n:=⟨q.1.toArray⟩) (d:=⟨q.2.toArray⟩) (k:=k) h (by rw[size_of];exact h1) (by rw[size_of];exact h2) hk;exact⟨⟨this.num,this.den⟩,this.pos⟩
def SzP(D:Nat)(l:List Fix):Prop:=∀x∈l,x.2.1.length≤D∧x.2.2.length≤D
theorem price_dg{D:Nat}(hD:0<D)(hk:D≤10000){l:List Fix}(hl:GoodF l)(hz:SzP D l)(k:FK):Dg D (priceK l k):=by
 unfold priceK
 cases e:rawF l k with
 | none =>
  have:1<10 ^ D:=Nat.one_lt_pow (by omega) (by decide);exact⟨⟨by show (0:Nat) < _;omega,this⟩,hD⟩
 | some q =>
  have hx:=Fx.raw_some e;have ho:=hl.1 _ hx;unfold Fx.okF at ho;simp only[Bool.and_eq_true]at ho;exact dg_text ho.2.2.2 (hz _ hx).1 (hz _ hx).2 hk
theorem num_dg{D:Nat}{l:List Fix}{x:Nd}(hx:okN x=true)(h:x.op=0):Dg (wN D x) (leafQ l x):=by
 unfold leafQ wN;rw[if_pos h,if_pos h];obtain⟨_,hr,h1,h2⟩:=Tm.ok_num hx h;have:=Tm.w_len (isR_isW hr);exact dg_text hr (Nat.le_max_left ..) (Nat.le_max_right ..) (by omega)
theorem leaf_dg{D:Nat}(hD:0<D)(hk:D≤10000){l:List Fix}(hl:GoodF l)(hz:SzP D l){x:Nd}(hx:okN x=true)(h0:Tm.arN x.op=some 0):Dg (wN D x) (leafQ l x):=by
 have hp:=price_dg hD hk hl hz;by_cases h:x.op=0
 ·exact num_dg hx h
 unfold leafQ wN;rw[if_neg h,if_neg h];have hm:∀y∈(spanN x).map (priceK l),Dg D y:=fun y hy=>by
  obtain⟨k,_,rfl⟩:=List.mem_map.1 hy;exact hp k
 have ho:=(Tm.ar_zero x.op).1 h0;unfold leafV;split
 ·exact(fold_dg hi_two (hp _) hm).mono (by omega)
 split
 ·exact(fold_dg lo_two (hp _) hm).mono (by omega)
 ·refine avg_dg hD hm (by rw[List.length_map];exact span_len hx) fun e=>?_;have:=span_first hx (by omega);rw[List.map_eq_nil_iff]at e;rw[e]at this
  cases this
theorem val_dg0{D:Nat}{l:List Fix}:∀ {t:Tr} {q:Rat},t.wf→(∀x∈t.flat,Tm.arN x.op=some 0→Dg (wN D x) (leafQ l x))→valT l t=some q→Dg (dgT D t) q
 | .t0 x,q,hw,ho,h=>by
  obtain rfl:leafQ l x=q:=Option.some.inj h;exact ho x (by simp[Tr.flat]) hw
 | .t1 x a,q,hw,ho,h=>by
  have ha:=fun (w:Rat) (k:valT l a=some w)=>val_dg0 (t:=a) (q:=w) hw.2 (fun y hy=>ho y (by simp[Tr.flat,hy])) k
  change (allS [valT l a]).bind (upQ x.op)=some q at h
  cases e:valT l a with
  | none=>rw[e]at h;cases h
  | some u =>
   rw[e]at h;obtain rfl:-u=q:=Option.some.inj h;exact(ha _ e).neg
 | .t2 x a b,q,hw,ho,h=>by
  have ha:=fun (w:Rat) (k:valT l a=some w)=>val_dg0 (t:=a) (q:=w) hw.2.1 (fun y hy=>ho y (by simp[Tr.flat,hy])) k;have hb:=fun (w:Rat) (k:valT l b=some w)=>val_dg0 (t:=b) (q:=w) hw.2.2 (fun y hy=>ho y (by simp[Tr.flat,hy])) k
  change (allS [valT l a,valT l b]).bind (upQ x.op)=some q at h
  cases e:valT l a with
  | none=>rw[e]at h;cases h
  | some u =>
  cases f:valT l b with
  | none=>rw[e,f]at h;cases h
  | some v =>
   rw[e,f]at h;have da:=ha _ e;have db:=hb _ f;show Dg (dgT D a+dgT D b+1) q
   change upQ x.op [u,v]=some q at h
   dsimp only[upQ]at h;split at h
   ·cases h;exact da.add db
   split at h
   ·cases h;exact da.sub db
   split at h
   ·cases h;exact da.mul db
   split at h
   ·split at h
    ·cases h
    ·rename_i h0;cases h;exact da.div db h0
   split at h<;>cases h
   ·rcases hi_two u v with k|k<;>rw[k]
    ·exact da.mono (by omega)
    ·exact db.mono (by omega)
   ·rcases lo_two u v with k|k<;>rw[k]
    ·exact da.mono (by omega)
    ·exact db.mono (by omega)
 | .t3 x a b c,q,hw,ho,h=>by
  have ha:=fun (w:Rat) (k:valT l a=some w)=>val_dg0 (t:=a) (q:=w) hw.2.1 (fun y hy=>ho y (by simp[Tr.flat,hy])) k;have hb:=fun (w:Rat) (k:valT l b=some w)=>val_dg0 (t:=b) (q:=w) hw.2.2.1 (fun y hy=>ho y (by simp[Tr.flat,hy])) k;have hc:=fun (w:Rat) (k:valT l c=some w)=>val_dg0 (t:=c) (q:=w) hw.2.2.2 (fun y hy=>ho y (by simp[Tr.flat,hy])) k
  change (allS [valT l a,valT l b,valT l c]).bind (upQ x.op)=some q at h
  cases e:valT l a with
  | none=>rw[e]at h;cases h
  | some u =>
  cases f:valT l b with
  | none=>rw[e,f]at h;cases h
  | some v =>
  cases g:valT l c with
  | none=>rw[e,f,g]at h;cases h
  | some z =>
   rw[e,f,g]at h;obtain rfl:(if 0<sgnQ u then v else z)=q:=Option.some.inj h;show Dg (max (dgT D a) (max (dgT D b) (dgT D c))) _;split
   ·exact(hb _ f).mono (by omega)
   ·exact(hc _ g).mono (by omega)
theorem Dg.len{k:Nat}{x:Rat}(h:Dg k x):(rd x).1.length≤k+1∧(rd x).2.length≤k:=⟨Nat.le_trans (wd_length x.num) (Nat.succ_le_succ (dig_length h.2 h.1.1)),dig_length h.2 h.1.2⟩
theorem rd_nat(n:Nat):rd ((n:Nat):Rat)=(wd (n:Int),[49]):=by
 have h1:((n:Nat):Rat).num=(n:Int):=Rat.num_natCast ..;have h2:((n:Nat):Rat).den=1:=Rat.den_natCast ..;unfold rd rdN rdD;rw[h1,h2,show dig 1=[49] by decide +kernel]
end Ev
end Go.Proofs.YtghioekjghmdaaaGreatDoor
namespace Go.Proofs.YtghioekjghmdaaaGreatDoor
namespace Ev
open Tm (Nd Tr okN checkT treeOf nodeX)
open Fx (FK Fix GoodF mayF rawF)
theorem hi_self(a:Rat):hiQ a a=a:=by unfold hiQ;split<;>rfl
theorem lo_self(a:Rat):loQ a a=a:=by unfold loQ;split<;>rfl
end Ev
end Go.Proofs.YtghioekjghmdaaaGreatDoor
namespace Go.Proofs.YtghioekjghmdaaaGreatDoor
open Go.RowKit
def encQ(x:Rat):List Value:=[.string ⟨(rd x).1.toArray⟩,.string ⟨(rd x).2.toArray⟩]
abbrev Qs(w:World)(p:Option Addr)(l:List Rat):Prop:=RowsG encQ 2 w p l
theorem q_rule{w:World}{p:Option Addr}{l:List Rat}(h:Qs w p l){k:Nat}{x:Rat}(hx:l[k]?=some x):∃b o,p=some ⟨b,o,none⟩∧(∀v,Below w.heap.size w v→v.cell? ⟨b,o+k*2,none⟩=some (.string ⟨(rd x).1.toArray⟩))∧(∀v,Below w.heap.size w v→v.cell? ⟨b,o+k*2+1,none⟩=some (.string ⟨(rd x).2.toArray⟩)):=by
 obtain⟨b,o,hp,hl,c⟩:=h k x hx;exact⟨b,o,hp,fun v hb=>(hb.cell (p:=⟨b,_,none⟩) hl).trans (c 0 _ rfl),fun v hb=>(hb.cell (p:=⟨b,_,none⟩) hl).trans (c 1 _ rfl)⟩
def ShQ(x:Rat):Prop:=(rd x).1.length≤19000∧(rd x).2.length≤19000
theorem ecmp{x y:Rat}(h1:(rd x).1.length≤19000∧(rd x).2.length≤19000)(h2:(rd y).1.length≤19000∧(rd y).2.length≤19000){s:Int}(hs:sgnQ (x-y)=s)(V:World):Calls Tryz.prog 22 #[.agg #[.string ⟨(rd x).1.toArray⟩,.string ⟨(rd x).2.toArray⟩],.agg #[.string ⟨(rd y).1.toArray⟩,.string ⟨(rd y).2.toArray⟩]] V (GiveI V s):=by
 have c:=rqcmp_any ⟨(rd x).1.toArray⟩ ⟨(rd x).2.toArray⟩ ⟨(rd y).1.toArray⟩ ⟨(rd y).2.toArray⟩ V (by rw[size_of];omega) (by rw[size_of];omega) (by rw[size_of];omega) (by rw[size_of];omega);have e:cmpR (rd x) (rd y)=s:=by unfold cmpR;rw[isR_rd,isR_rd,valR_rd,valR_rd];exact hs
 rw[←e];exact c
theorem eadd{x y:Rat}(hx:ShQ x)(hy:ShQ y)(V:World):Calls Tryz.prog 23 #[.agg #[.string ⟨(rd x).1.toArray⟩,.string ⟨(rd x).2.toArray⟩],.agg #[.string ⟨(rd y).1.toArray⟩,.string ⟨(rd y).2.toArray⟩]] V (GiveR V (rd (x+y))):=by
 have c:=rqadd_any ⟨(rd x).1.toArray⟩ ⟨(rd x).2.toArray⟩ ⟨(rd y).1.toArray⟩ ⟨(rd y).2.toArray⟩ V (by rw[size_of];have:=hx.1;omega) (by rw[size_of];have:=hx.2;omega) (by rw[size_of];have:=hy.1;omega) (by rw[size_of];have:=hy.2;omega);have e:addR (rd x) (rd y)=rd (x+y):=by unfold addR;rw[isR_rd,isR_rd,valR_rd,valR_rd];rfl
 rw[←e];exact c
theorem esub{x y:Rat}(hx:ShQ x)(hy:ShQ y)(V:World):Calls Tryz.prog 24 #[.agg #[.string ⟨(rd x).1.toArray⟩,.string ⟨(rd x).2.toArray⟩],.agg #[.string ⟨(rd y).1.toArray⟩,.string ⟨(rd y).2.toArray⟩]] V (GiveR V (rd (x-y))):=by
 have c:=rqsub_any ⟨(rd x).1.toArray⟩ ⟨(rd x).2.toArray⟩ ⟨(rd y).1.toArray⟩ ⟨(rd y).2.toArray⟩ V (by rw[size_of];have:=hx.1;omega) (by rw[size_of];have:=hx.2;omega) (by rw[size_of];have:=hy.1;omega) (by rw[size_of];have:=hy.2;omega);have e:subR (rd x) (rd y)=rd (x-y):=by unfold subR;rw[isR_rd,isR_rd,valR_rd,valR_rd];rfl
 rw[←e];exact c
theorem emul{x y:Rat}(hx:ShQ x)(hy:ShQ y)(V:World):Calls Tryz.prog 25 #[.agg #[.string ⟨(rd x).1.toArray⟩,.string ⟨(rd x).2.toArray⟩],.agg #[.string ⟨(rd y).1.toArray⟩,.string ⟨(rd y).2.toArray⟩]] V (GiveR V (rd (x*y))):=by
 have c:=rqmul_any ⟨(rd x).1.toArray⟩ ⟨(rd x).2.toArray⟩ ⟨(rd y).1.toArray⟩ ⟨(rd y).2.toArray⟩ V (by rw[size_of];have:=hx.1;omega) (by rw[size_of];have:=hx.2;omega) (by rw[size_of];have:=hy.1;omega) (by rw[size_of];have:=hy.2;omega);have e:mulR (rd x) (rd y)=rd (x*y):=by unfold mulR;rw[isR_rd,isR_rd,valR_rd,valR_rd];rfl
 rw[←e];exact c
theorem ediv{x y:Rat}(hx:ShQ x)(hy:ShQ y)(V:World)(h0:y≠0):Calls Tryz.prog 20 #[.agg #[.string ⟨(rd x).1.toArray⟩,.string ⟨(rd x).2.toArray⟩],.agg #[.string ⟨(rd y).1.toArray⟩,.string ⟨(rd y).2.toArray⟩]] V (GiveRB V ((rd (x / y),true))):=by
 have c:=rqdiv_any ⟨(rd x).1.toArray⟩ ⟨(rd x).2.toArray⟩ ⟨(rd y).1.toArray⟩ ⟨(rd y).2.toArray⟩ V (by rw[size_of];have:=hx.1;omega) (by rw[size_of];have:=hx.2;omega) (by rw[size_of];have:=hy.1;omega) (by rw[size_of];have:=hy.2;omega);have e:divR (rd x) (rd y)=(rd (x / y),true):=by unfold divR;rw[isR_rd,isR_rd,valR_rd,valR_rd,beq_false_of_ne h0];rfl
 rw[←e];exact c
theorem ediv0{x:Rat}(hx:ShQ x)(V:World):Calls Tryz.prog 20 #[.agg #[.string ⟨(rd x).1.toArray⟩,.string ⟨(rd x).2.toArray⟩],.agg #[.string ⟨(rd 0).1.toArray⟩,.string ⟨(rd 0).2.toArray⟩]] V (GiveRB V (([],[]),false)):=by
 have c:=rqdiv_any ⟨(rd x).1.toArray⟩ ⟨(rd x).2.toArray⟩ ⟨(rd 0).1.toArray⟩ ⟨(rd 0).2.toArray⟩ V (by rw[size_of];have:=hx.1;omega) (by rw[size_of];have:=hx.2;omega) (by rw[size_of];exact(by decide +kernel:(rd 0).1.length≤20000)) (by rw[size_of];exact(by decide +kernel:(rd 0).2.length≤20000));have e:divR (rd x) (rd 0)=(([],[]),false):=by unfold divR;rw[isR_rd,isR_rd,valR_rd,valR_rd,beq_self_eq_true];rfl
 rw[←e];exact c
theorem eneg{x:Rat}(hx:ShQ x)(V:World):Calls Tryz.prog 50 #[.agg #[.string ⟨(rd x).1.toArray⟩,.string ⟨(rd x).2.toArray⟩]] V (GiveR V (rd (-x))):=by
 have c:=rqneg_any ⟨(rd x).1.toArray⟩ ⟨(rd x).2.toArray⟩ V (by rw[size_of];have:=hx.1;omega) (by rw[size_of];have:=hx.2;omega);have e:negR (rd x)=rd (-x):=by unfold negR;rw[isR_rd,valR_rd];rfl
 rw[←e];exact c
theorem esign{x:Rat}(hx:ShQ x)(V:World):Calls Tryz.prog 21 #[.agg #[.string ⟨(rd x).1.toArray⟩,.string ⟨(rd x).2.toArray⟩]] V (GiveI V (sgnQ x)):=by
 have c:=rqsign_any ⟨(rd x).1.toArray⟩ ⟨(rd x).2.toArray⟩ V (by rw[size_of];have:=hx.1;omega) (by rw[size_of];have:=hx.2;omega);have e:sgnR (rd x)=sgnQ x:=by unfold sgnR;rw[isR_rd,valR_rd];rfl
 rw[←e];exact c
end Go.Proofs.YtghioekjghmdaaaGreatDoor
set_option maxHeartbeats 4000000
set_option maxRecDepth 100000
namespace Go.Proofs.YtghioekjghmdaaaGreatDoor
open Go.RowKit
open Tm (Nd Tr treeOf checkT plainN avN)
variable {G : World → Prop}
open Ev (hiQ loQ)
theorem raw_first{l:List Fx.Fix}{k:Nat}{key:Fx.FK}{q:Key}(h:∀ (j:Nat) (x:Fx.Fix),j<k→l[j]?=some x→¬x.1=key){y:Fx.Fix}(hx:l[k]?=some (y.1,q))(he:y.1=key):Fx.rawF l key=some q:=by
 unfold Fx.rawF;have hk:k<l.length:=(List.getElem?_eq_some_iff.1 hx).1;have e:l.find? (fun x=>x.1==key)=some (y.1,q):=by
  rw[List.find?_eq_some_iff_getElem];refine⟨by simpa using he,k,hk,(List.getElem?_eq_some_iff.1 hx).2,fun j hj=>?_⟩;have:=h j _ hj (List.getElem?_eq_getElem (by omega))
  simpa using this
 rw[e];rfl
theorem elast_any(op:Int)(n e s:List UInt8)(a b:Int)(w:World)(ha:0≤a)(ha':a≤9223372036854775807):Calls Tryz.prog 38 #[.agg #[.int .i64 op,.string ⟨n.toArray⟩,.string ⟨e.toArray⟩,.string ⟨s.toArray⟩,.int .i64 a,.int .i64 b]] w (GiveI w (Ev.lastN (Nd.mk op (n,e) s a b))):=by
 have hw:IntKind.i64.wrap (a-1)=a-1:=IntWalk.i64_in _ (by omega);have HV:=zh (show Ev.lastN (Nd.mk op (n,e) s a b)=if op=1 then a else if 2≤op∧op≤4 then b else a-1 from rfl);rcases(show op=1∨(¬op=1∧2≤op)∧op≤4∨(¬op=1∧2≤op)∧4<op∨¬op=1∧op<2 by omega) with rfl|⟨⟨h1,h2⟩,h3⟩|⟨⟨h1,h2⟩,h3⟩|⟨h1,h2⟩<;>(
  go_enter Tryz.func38,Tryz.ntmps38;go_wp2_with fail;go_ret;exact⟨by rw[HV.out];first|(simp;done)|(simp[*];done)|(simp[*];omega),Below.alloc (Below.refl w.heap.size w) (Nat.le_refl _) _⟩)
theorem egreater_any{x y:Rat}(hx:(rd x).1.length≤19000∧(rd x).2.length≤19000)(hy:(rd y).1.length≤19000∧(rd y).2.length≤19000)(w:World):Calls Tryz.prog 68 #[.agg #[.string ⟨(rd x).1.toArray⟩,.string ⟨(rd x).2.toArray⟩],.agg #[.string ⟨(rd y).1.toArray⟩,.string ⟨(rd y).2.toArray⟩]] w (GiveR w (rd (hiQ x y))):=by
 obtain⟨t,ht⟩:∃t,sgnQ (x-y)=t:=⟨_,rfl⟩;have HV:=zh (show hiQ x y=if 0≤t then x else y by unfold hiQ;rw[ht]);have CC:=zh (fun V=>ecmp hx hy ht V);clear hx hy ht;generalize hxv:rd x=p at *;generalize hyv:rd y=q at *;obtain⟨n,e⟩:=p;obtain⟨m,g⟩:=q;go_enter Tryz.func68,Tryz.ntmps68;go_wp2_with fail;obtain⟨W,hW,BW,sW,k0,k1,k2,k3,hz⟩:=box2r w (.string ⟨n.toArray⟩) (.string ⟨e.toArray⟩) (.string ⟨m.toArray⟩) (.string ⟨g.toArray⟩) (.string ⟨#[]⟩) (.string ⟨#[]⟩) 28 28 28;rw[hW];clear hW;refine(CC.out _).mono ?_;rintro r w1 ⟨rfl,b⟩;have b1:Below (w.heap.size+1+1) W w1:=b.mono (by omega);have hz1:=hz.below b;have z0:=hz1.c0;have z1:=hz1.c1;have z2:=hz1.f0;have z3:=hz1.f1
 have BB:=zh (Below.more BW b);clear hz hz1 b BW CC sW;by_cases ht0:0≤t
 ·go_wp2_with fail;refine bodyPost_ret (v:=.agg #[.string ⟨n.toArray⟩,.string ⟨e.toArray⟩]) (by simp[results,Tryz.results68,go_sem, *]) rfl ⟨by rw[HV.out,if_pos ht0,hxv],put2 BB.out (by omega) _ _⟩
 ·go_wp2_with fail;refine bodyPost_ret (v:=.agg #[.string ⟨m.toArray⟩,.string ⟨g.toArray⟩]) (by simp[results,Tryz.results68,go_sem, *]) rfl ⟨by rw[HV.out,if_neg (by omega),hyv],put2 BB.out (by omega) _ _⟩
theorem elesser_any{x y:Rat}(hx:(rd x).1.length≤19000∧(rd x).2.length≤19000)(hy:(rd y).1.length≤19000∧(rd y).2.length≤19000)(w:World):Calls Tryz.prog 69 #[.agg #[.string ⟨(rd x).1.toArray⟩,.string ⟨(rd x).2.toArray⟩],.agg #[.string ⟨(rd y).1.toArray⟩,.string ⟨(rd y).2.toArray⟩]] w (GiveR w (rd (loQ x y))):=by
 obtain⟨t,ht⟩:∃t,sgnQ (x-y)=t:=⟨_,rfl⟩;have HV:=zh (show loQ x y=if t≤0 then x else y by unfold loQ;rw[ht]);have CC:=zh (fun V=>ecmp hx hy ht V);clear hx hy ht;generalize hxv:rd x=p at *;generalize hyv:rd y=q at *;obtain⟨n,e⟩:=p;obtain⟨m,g⟩:=q;go_enter Tryz.func69,Tryz.ntmps69;go_wp2_with fail;obtain⟨W,hW,BW,sW,k0,k1,k2,k3,hz⟩:=box2r w (.string ⟨n.toArray⟩) (.string ⟨e.toArray⟩) (.string ⟨m.toArray⟩) (.string ⟨g.toArray⟩) (.string ⟨#[]⟩) (.string ⟨#[]⟩) 28 28 28;rw[hW];clear hW;refine(CC.out _).mono ?_;rintro r w1 ⟨rfl,b⟩;have b1:Below (w.heap.size+1+1) W w1:=b.mono (by omega);have hz1:=hz.below b;have z0:=hz1.c0;have z1:=hz1.c1;have z2:=hz1.f0;have z3:=hz1.f1
 have BB:=zh (Below.more BW b);clear hz hz1 b BW CC sW;by_cases ht0:t≤0
 ·go_wp2_with fail;refine bodyPost_ret (v:=.agg #[.string ⟨n.toArray⟩,.string ⟨e.toArray⟩]) (by simp[results,Tryz.results69,go_sem, *]) rfl ⟨by rw[HV.out,if_pos ht0,hxv],put2 BB.out (by omega) _ _⟩
 ·go_wp2_with fail;refine bodyPost_ret (v:=.agg #[.string ⟨m.toArray⟩,.string ⟨g.toArray⟩]) (by simp[results,Tryz.results69,go_sem, *]) rfl ⟨by rw[HV.out,if_neg (by omega),hyv],put2 BB.out (by omega) _ _⟩
theorem eprice_any(p:Option Addr)(c:Nat)(l:List Fx.Fix)(u:List UInt8)(t:Int)(w:World)(hl:l.length≤4611686018427387904)(h:Fxs w p l):Calls Tryz.prog 67 #[.slice p l.length c,.string ⟨u.toArray⟩,.int .i64 t] w (GiveR w ((Fx.rawF l (u,t)).getD ([48],[49]))):=by
 have HS:=zh h;clear h;go_enter Tryz.func67,Tryz.ntmps67;go_wp2_with fail;obtain⟨W,hW,BW,sW,hz⟩:∃W,w.alloc (.cells #[.string ⟨#[]⟩,.string ⟨#[]⟩] 28)=W∧Below w.heap.size w W∧W.heap.size=w.heap.size+1∧Zc w.heap.size (.string ⟨#[]⟩) (.string ⟨#[]⟩) W:=⟨_,rfl,Below.alloc (Below.refl _ _) (Nat.le_refl _) _,by simp,zc_new _ _ _ _⟩;rw[hW];clear hW;have HZ:=zh hz;have HBW:=zh BW
 clear hz BW sW
 go_loopw [7] (fun i wv=>∃k:Nat,k≤l.length∧i=.int .i64 k∧Hid (∀ (j:Nat) (x:Fx.Fix),j<k→l[j]?=some x→¬x.1=(u,t))∧wv=W) (fun i _=>l.length-(intOf i).toNat)
 case atStart=>exact⟨0,Nat.zero_le _,rfl,zh fun j x h=>absurd h (Nat.not_lt_zero j),rfl⟩
 case round =>
  obtain⟨k,hk,rfl,HJ,rfl⟩:=hrel;by_cases hlt:k<l.length
  ·have hki:(k:Int)<(l.length:Int):=by omega
   obtain⟨⟨⟨a,d⟩,⟨n,e⟩⟩,hx⟩:∃x,l[k]?=some x:=⟨_,List.getElem?_eq_getElem hlt⟩;obtain⟨b,o,rfl,k0,k1,k2,k3⟩:=fx_rule (HS.out.below HBW.out) hx;have HX:=zh hx;clear hx;have b0:=Below.refl wr.heap.size wr;by_cases h1:a=u<;>by_cases h2:d=t
   ·have HR:Hid (Fx.rawF l (u,t)=some (n,e)):=zh (raw_first (y:=((a,d),(n,e))) HJ.out HX.out (by rw[h1,h2]));have q1:(a==u)=true:=by rw[h1];exact beq_self_eq_true _
    have z0:=HZ.out.c0;have z1:=HZ.out.c1;have z2:=HZ.out.f0;have z3:=HZ.out.f1
    go_wp2_with fail;refine bodyPost_ret (v:=.agg #[.string ⟨n.toArray⟩,.string ⟨e.toArray⟩]) (by simp[results,Tryz.results67,go_sem, *]) rfl ⟨by rw[HR.out];rfl,put2 HBW.out (Nat.le_refl _) _ _⟩
   all_goals (
    have HN:Hid (¬((a,d):Fx.FK)=(u,t)):=zh (fun e=>by cases e;simp_all);have q1:(a==u)=decide (a=u):=by rw[Bool.eq_iff_iff];simp
    go_wp2_with fail;go_roundw
    case rel=>exact⟨k+1,hlt,by go_num,zh fun j x hj hx=>by
     by_cases e:j=k
     ·subst e;obtain rfl:=Option.some.inj (HX.out.symm.trans hx);exact HN.out
     ·exact HJ.out j x (by omega) hx,by first|rfl|trivial⟩
    case measure=>simp[intOf];omega)
  ·obtain rfl:k=l.length:=by omega
   have HR:Hid (Fx.rawF l (u,t)=none):=zh (Fx.raw_no fun x hx=>by
    obtain⟨j,hj,rfl⟩:=List.getElem_of_mem hx;exact HJ.out j _ hj (List.getElem?_eq_getElem hj))
   go_wp2_with fail;refine(kt_f 0 [48] (by decide +kernel) (by decide) (by decide) _).mono ?_;rintro r w1 ⟨rfl,b⟩;have hz1:=HZ.out.below b;have z0:=hz1.c0;have z1:=hz1.c1;have z2:=hz1.f0;have z3:=hz1.f1
   have BB:=zh (Below.more HBW.out b);clear b hz1;go_wp2_with fail;refine bodyPost_ret (v:=.agg #[.string ⟨#[48]⟩,.string ⟨#[49]⟩]) (by simp[results,Tryz.results67,go_sem, *]) rfl ⟨by rw[HR.out];rfl,put2 BB.out (Nat.le_refl _) _ _⟩
end Go.Proofs.YtghioekjghmdaaaGreatDoor
