/- Own work. -/
import Derived.Test.YtmllklfjngapiaaGreatDoorParNum6M
set_option linter.unusedSimpArgs false
set_option linter.unusedVariables false
namespace Go.Proofs.YtmllklfjngapiaaGreatDoor
namespace Pz
open Tm (Nd Tr plainN okN okT arN printT checkT depthT pr sepB sevN)
open Wd (Tk lexAt lexD ktT)
def nn(b:UInt8):Nd:=Nd.mk 0 ([b],[49]) [] 0 0
theorem nn_leaf{b:UInt8}(h:okN (nn b)=true)(hk:leafK (nn b)=[(1,[b])])(d:Nat)(r:List K)(t:List Nd):Par .minus d (.ok ((1,[b])::r) t) (.ok r (t++[nn b])):=by
 have k:=leaf_of (x:=nn b) h rfl r t;rw[hk]at k;exact at_minus (sg_no (by intro c;cases c) _) (.leaf _ _ _ _ k)
theorem n1(d:Nat)(r:List K)(t:List Nd):Par .minus d (.ok ((2,[45])::(1,[49])::r) t) (.ok r (t++[nn 49]++[plainN 5])):=Par.mgo _ _ _ _ (nn_leaf (by decide +kernel) (by decide +kernel) d r t)
theorem n2(d:Nat)(r:List K)(t:List Nd):Par .minus d (.ok ((1,[50])::r) t) (.ok r (t++[nn 50])):=nn_leaf (by decide +kernel) (by decide +kernel) d r t
theorem n3(d:Nat)(r:List K)(t:List Nd):Par .minus d (.ok ((1,[51])::r) t) (.ok r (t++[nn 51])):=nn_leaf (by decide +kernel) (by decide +kernel) d r t
end Pz
namespace Pz
open Tm (Nd Tr plainN okN okT arN printT checkT depthT pr sepB formB treeOf)
open Wd (Tk lexAt lexD ktT)
def numN(n:Int):Nd:=Nd.mk 0 (ofS n,[49]) [] 0 0
def in1000(l:List Int):Prop:=∀n∈l,0≤n∧n≤1000
theorem num_fin:∀m:Fin 1001,okN (numN (m.val:Int))=true∧leafK (numN (m.val:Int))=[(1,ofS (m.val:Int))]∧(ofS (m.val:Int)).length≤4:=by decide +kernel
theorem num_all{n:Int}(h0:0≤n)(h:n≤1000):okN (numN n)=true∧leafK (numN n)=[(1,ofS n)]∧(ofS n).length≤4:=by
 have k:=num_fin ⟨n.toNat,by omega⟩
 rwa[show (((⟨n.toNat,by omega⟩:Fin 1001).val:Nat):Int)=n from Int.toNat_of_nonneg h0]at k
def sumK:List Int→List K
 | []=>[]
 | n::r=>(2,[45])::(1,ofS n)::sumK r
def sumN:List Int→List Nd
 | []=>[]
 | n::r=>numN n::plainN 7::sumN r
def sumX:List Int→List UInt8
 | []=>[]
 | n::r=>[32,45,32]++(ofS n++sumX r)
def sumT:Tr→List Int→Tr
 | a,[]=>a
 | a,n::r=>sumT (.t2 (plainN 7) a (.t0 (numN n))) r
theorem sumT_flat:∀ (l:List Int) (a:Tr),(sumT a l).flat=a.flat++sumN l
 | [],a=>(List.append_nil _).symm
 | n::r,a=>by
  show (sumT (.t2 (plainN 7) a (.t0 (numN n))) r).flat=_;rw[sumT_flat r];show (a.flat++([numN n]++[plainN 7]))++sumN r=a.flat++(numN n::plainN 7::sumN r);rw[List.append_assoc];rfl
theorem sumT_wf:∀ (l:List Int) (a:Tr),a.wf→(sumT a l).wf
 | [],a,h=>h
 | n::r,a,h=>sumT_wf r _ ⟨rfl,h,rfl⟩
theorem sumN_len:∀l:List Int,(sumN l).length=2*l.length
 | []=>rfl
 | n::r=>by
  show (sumN r).length+1+1=2*(r.length+1);rw[sumN_len r];omega
theorem sumN_ok:∀ {l:List Int},in1000 l→∀x∈sumN l,okN x=true
 | [],_,x,hx=>by cases hx
 | n::r,h,x,hx=>by
  have hx:x∈numN n::plainN 7::sumN r:=hx;rcases List.mem_cons.1 hx with rfl|hx
  ·exact(num_all (h n (List.mem_cons_self ..)).1 (h n (List.mem_cons_self ..)).2).1
  ·rcases List.mem_cons.1 hx with rfl|hx
   ·decide
   ·exact sumN_ok (fun m hm=>h m (List.mem_cons_of_mem _ hm)) x hx
theorem sum_check{n:Int}{l:List Int}(h:in1000 (n::l))(hl:l.length<60):checkT (numN n::sumN l)=0:=by
 have hf:(sumT (.t0 (numN n)) l).flat=numN n::sumN l:=sumT_flat l _;have hw:(sumT (.t0 (numN n)) l).wf:=sumT_wf l _ rfl;have ho:∀x∈numN n::sumN l,okN x=true:=fun x hx=>by
  rcases List.mem_cons.1 hx with rfl|hx
  ·exact(num_all (h n (List.mem_cons_self ..)).1 (h n (List.mem_cons_self ..)).2).1
  ·exact sumN_ok (fun m hm=>h m (List.mem_cons_of_mem _ hm)) x hx
 have hlen:(numN n::sumN l).length=2*l.length+1:=congrArg (·+1) (sumN_len l);have ho':okT (sumT (.t0 (numN n)) l):=fun x hx=>ho x (hf▸hx);have hfm:formB (numN n::sumN l)=true:=hf▸Tm.form_flat hw (by rw[hf,hlen];omega);have ht:treeOf (numN n::sumN l)=some (sumT (.t0 (numN n)) l):=hf▸Tm.tree_flat hw;have hp:=Tm.print_yes hfm ht ho;have hne:=Tm.pr_ne hw ho';have h1:=Tm.pr_len hw ho';have h2:=Tm.dp_le (sumT (.t0 (numN n)) l);rw[hf,hlen]at h1 h2;have hd:=Tm.depth_of hfm ht;have k:=Tm.check_iff (numN n::sumN l);rw[hp,hd,decide_eq_false hne,decide_eq_true (show (pr (sumT (.t0 (numN n)) l)).length≤20000 by omega),decide_eq_true (show Tm.dp (sumT (.t0 (numN n)) l)≤150 by omega)]at k;exact of_decide_eq_true k
theorem num_minus{n:Int}(h0:0≤n)(h:n≤1000)(d:Nat)(r:List K)(t:List Nd):Par .minus d (.ok ((1,ofS n)::r) t) (.ok r (t++[numN n])):=by
 obtain⟨h1,h2,_⟩:=num_all h0 h;have k:=leaf_of h1 rfl r t;rw[h2]at k;exact at_minus (sg_no (by intro c;cases c) _) (.leaf _ _ _ _ k)
theorem sumK_op:∀l:List Int,opOf false (sumK l)=none
 | []=>rfl
 | _::_=>rfl
theorem sum_loop:∀ (l:List Int) (d:Nat) (t:List Nd),in1000 l→Par (.loop true) d (.ok (sumK l) t) (.ok [] (t++sumN l))
 | [],d,t,_=>by
  rw[show t++sumN []=t from List.append_nil t];exact .lend _ _ _ _ rfl
 | n::r,d,t,h=>by
  obtain⟨h0,h1⟩:=h n (List.mem_cons_self ..);have k1:=at_prod (num_minus h0 h1 d (sumK r) t) (sumK_op r);have k2:=sum_loop r d (t++[numN n]++[plainN 7]) (fun m hm=>h m (List.mem_cons_of_mem _ hm));have e:t++[numN n]++[plainN 7]++sumN r=t++sumN (n::r):=by
   rw[List.append_assoc,List.append_assoc];rfl
  rw[e]at k2;exact .lgo true _ _ _ _ 7 _ _ rfl k1 k2
theorem sum_par{n:Int}{l:List Int}(h:in1000 (n::l)):Par (.bin true) 0 (.ok ((1,ofS n)::sumK l) []) (.ok [] (numN n::sumN l)):=by
 obtain⟨h0,h1⟩:=h n (List.mem_cons_self ..);exact .bin true _ _ _ _ _ (at_prod (num_minus h0 h1 0 (sumK l) []) (sumK_op l)) (sum_loop l 0 _ (fun m hm=>h m (List.mem_cons_of_mem _ hm)))
theorem num_lex{n:Int}(h0:0≤n)(h:n≤1000){v:List UInt8}(hv:sepB v=true):Lx (ofS n) [(1,ofS n)] v:=by
 have hl:=(num_all h0 h).2.2;refine Lx.nat ?_ (by omega) hv;rw[Tm.ofS_pos h0];exact digs_dig _
theorem sumX_sep:∀l:List Int,sepB (sumX l)=true
 | []=>rfl
 | _::_=>rfl
theorem sum_lex:∀ (l:List Int),in1000 l→Lx (sumX l) (sumK l) []
 | [],_=>Lx.nil []
 | n::r,h=>by
  obtain⟨h0,h1⟩:=h n (List.mem_cons_self ..);have k0:=sum_lex r (fun m hm=>h m (List.mem_cons_of_mem _ hm));have k1:=(num_lex h0 h1 (v:=sumX r++[]) (by rw[List.append_nil];exact sumX_sep r)).join k0;have k2:=(Lx.blank _).join k1;have k3:=(Lx.sign (b:=45) rfl _).join k2;exact(Lx.blank _).join k3
theorem sumX_len:∀ {l:List Int},in1000 l→(sumX l).length≤7*l.length
 | [],_=>Nat.le_refl _
 | n::r,h=>by
  have k:=sumX_len (l:=r) (fun m hm=>h m (List.mem_cons_of_mem _ hm));have hl:=(num_all (h n (List.mem_cons_self ..)).1 (h n (List.mem_cons_self ..)).2).2.2;show ([32,45,32]++(ofS n++sumX r)).length≤7*(r.length+1);simp only[List.length_append,List.length_cons,List.length_nil];omega
theorem ps_sum{n:Int}{l:List Int}(h:in1000 (n::l))(hl:l.length<60):PsIs (ofS n++sumX l) (numN n::sumN l,0,0,0):=by
 obtain⟨h0,h1⟩:=h n (List.mem_cons_self ..);have hr:in1000 l:=fun m hm=>h m (List.mem_cons_of_mem _ hm);have k1:=(num_lex h0 h1 (v:=sumX l++[]) (by rw[List.append_nil];exact sumX_sep l)).join (sum_lex l hr);have hx:=sumX_len hr;have hn:=(num_all h0 h1).2.2;have k:=ps_of (s:=ofS n++sumX l) (by rw[List.length_append];omega) k1 (sum_par h);have e:outR (lexAt (ofS n++sumX l) 1 1).1 (endR (.ok [] (numN n::sumN l)))=(numN n::sumN l,0,0,0):=by
  show (if checkT (numN n::sumN l)=0 then (numN n::sumN l,(0:Int),0,0) else ([],100,1,1))=_;rw[if_pos (sum_check h hl)]
 rw[e]at k;exact k
theorem sumX_snoc:∀ (l:List Int) (n:Int),sumX (l++[n])=sumX l++[32,45,32]++ofS n
 | [],n=>by
  show [32,45,32]++(ofS n++[])=[]++[32,45,32]++ofS n;rw[List.append_nil];rfl
 | m::r,n=>by
  show [32,45,32]++(ofS m++sumX (r++[n]))=([32,45,32]++(ofS m++sumX r))++[32,45,32]++ofS n;rw[sumX_snoc r n];simp only[List.append_assoc]
theorem sumN_snoc:∀ (l:List Int) (n:Int),sumN (l++[n])=sumN l++[numN n]++[plainN 7]
 | [],_=>rfl
 | m::r,n=>by
  show numN m::plainN 7::sumN (r++[n])=(numN m::plainN 7::sumN r)++[numN n]++[plainN 7];rw[sumN_snoc r n];rfl
end Pz
namespace Pz
open Tm (Nd Tr plainN okN okT arN printT checkT depthT pr sepB formB treeOf)
open Wd (Tk lexAt lexD ktT kl run numL dotD)
end Pz
namespace Pz
open Tm (Nd Tr plainN okN okT arN printT checkT depthT pr sepB formB treeOf)
open Wd (Tk lexAt lexD ktT)
end Pz
namespace Pz
open Tm (Nd Tr plainN okN okT arN printT checkT depthT pr sepB formB treeOf)
open Wd (Tk lexAt lexD ktT kl)
theorem tk_four(x y:Tk):(x.kind=y.kind∧x.text=y.text∧x.line=y.line∧x.col=y.col)↔x=y:=⟨fun⟨h1,h2,h3,h4⟩=>by cases x;cases y;cases h1;cases h2;cases h3;cases h4;rfl,fun h=>by rw[h];exact⟨rfl,rfl,rfl,rfl⟩⟩
theorem nd_five(x y:Nd):(x.op=y.op∧x.num=y.num∧x.ast=y.ast∧x.a=y.a∧x.b=y.b)↔x=y:=⟨fun⟨h1,h2,h3,h4,h5⟩=>by cases x;cases y;cases h1;cases h2;cases h3;cases h4;cases h5;rfl,fun h=>by rw[h];exact⟨rfl,rfl,rfl,rfl,rfl⟩⟩
instance:DecidableEq Tk:=fun x y=>decidable_of_iff _ (tk_four x y)
instance:DecidableEq Nd:=fun x y=>decidable_of_iff _ (nd_five x y)
def lexF:Nat→List UInt8→Nat→Nat→Option (List Tk×Option (Nat×Nat))
 | 0,_,_,_=>none
 | _+1,[],_,_=>some ([],none)
 | n+1,x::r,ln,c =>
  if x=32 then lexF n r ln (c+1)
  else if x=10 then lexF n r (ln+1) 1
  else match kl (x::r) with
   | none=>some ([],some (ln,c))
   | some (kd,m)=>(lexF n ((x::r).drop m) ln (c+m)).map fun R=>(Tk.mk kd ((x::r).take m) ln c::R.1,R.2)
theorem lexF_ok:∀ (n:Nat) (l:List UInt8) (ln c:Nat) (R:List Tk×Option (Nat×Nat)),lexF n l ln c=some R→lexAt l ln c=R
 | 0,_,_,_,_,h=>by cases h
 | n+1,[],ln,c,R,h=>by rw[Wd.lex_nil];exact Option.some.inj h
 | n+1,x::r,ln,c,R,h=>by
  have h:(if x=32 then lexF n r ln (c+1) else if x=10 then lexF n r (ln+1) 1 else match kl (x::r) with
   | none=>some ([],some (ln,c))
   | some (kd,m)=>(lexF n ((x::r).drop m) ln (c+m)).map fun R=>(Tk.mk kd ((x::r).take m) ln c::R.1,R.2))=some R:=h
  by_cases h1:x=32
  ·subst h1;rw[if_pos rfl]at h;rw[Wd.lex_blank];exact lexF_ok n _ _ _ _ h
  rw[if_neg h1]at h;by_cases h2:x=10
  ·subst h2;rw[if_pos rfl]at h;rw[Wd.lex_line];exact lexF_ok n _ _ _ _ h
  rw[if_neg h2]at h
  cases e:kl (x::r) with
  | none =>
   rw[e]at h;rw[Wd.lex_bad ln c h1 h2 e];exact Option.some.inj h
  | some km =>
   obtain⟨kd,m⟩:=km;rw[e]at h;dsimp only at h
   cases e2:lexF n ((x::r).drop m) ln (c+m) with
   | none=>rw[e2]at h;cases h
   | some R' =>
    rw[e2]at h;rw[Wd.lex_tok ln c h1 h2 e,lexF_ok n _ _ _ _ e2];exact Option.some.inj h
def goF:Nat→G→Nat→Rs→Option Rs
 | 0,_,_,_=>none
 | _+1,_,_,.bad e k=>some (.bad e k)
 | n+1,.bin l,d,.ok r t=>(goF n (sub l) d (.ok r t)).bind fun a=>goF n (.loop l) d a
 | n+1,.loop l,d,.ok r t=>match opOf l r with
  | none=>some (.ok r t)
  | some o=>(goF n (sub l) d (.ok r.tail t)).bind fun a=>goF n (.loop l) d (pushR o a)
 | n+1,.minus,d,.ok r t=>match sg [45] r with
  | some r1=>(goF n .minus d (.ok r1 t)).map (pushR 5)
  | none=>goF n .atom d (.ok r t)
 | n+1,.atom,d,.ok r t=>match leafR r t with
  | some a=>some a
  | none=>match r with
   | []=>none
   | k::r1=>if k=(2,[40]) then (goF n (.bin true) (d+1) (openR d (.ok (k::r1) t))).map (signR [41]) else match callOp k with
    | none=>none
    | some op=>match arN op with
     | none=>none
     | some m=>(goF n (.args m) (d+1) (openR d (.ok r1 t))).map fun a=>pushR op (signR [41] a)
 | _+1,.args 0,_,.ok _ _=>none
 | n+1,.args 1,d,.ok r t=>goF n (.bin true) d (.ok r t)
 | n+1,.args (m+2),d,.ok r t=>(goF n (.bin true) d (.ok r t)).bind fun a=>goF n (.args (m+1)) d (signR [44] a)
theorem map_some{α β:Type}{o:Option α}{f:α→β}{y:β}(h:o.map f=some y):∃a,o=some a∧f a=y:=by
 cases o with
 | none=>cases h
 | some a=>exact⟨a,rfl,Option.some.inj h⟩
theorem bind_some{α β:Type}{o:Option α}{f:α→Option β}{y:β}(h:o.bind f=some y):∃a,o=some a∧f a=some y:=by
 cases o with
 | none=>cases h
 | some a=>exact⟨a,rfl,h⟩
theorem goF_ok:∀ (n:Nat) (g:G) (d:Nat) (x y:Rs),goF n g d x=some y→Par g d x y
 | 0,_,_,_,_,h=>by cases h
 | n+1,g,d,.bad e k,y,h=>by
  have:some (Rs.bad e k)=some y:=by cases g<;>exact h
  obtain rfl:=Option.some.inj this;exact .err _ _ _ _
 | n+1,.bin l,d,.ok r t,y,h=>by
  obtain⟨a,e1,e2⟩:=bind_some (o:=goF n (sub l) d (.ok r t)) h;exact .bin _ _ _ _ _ _ (goF_ok n _ _ _ _ e1) (goF_ok n _ _ _ _ e2)
 | n+1,.loop l,d,.ok r t,y,h=>by
  have h:(match opOf l r with
   | none=>some (.ok r t)
   | some o=>(goF n (sub l) d (.ok r.tail t)).bind fun a=>goF n (.loop l) d (pushR o a))=some y:=h
  cases e:opOf l r with
  | none =>
   rw[e]at h;obtain rfl:=Option.some.inj h;exact .lend _ _ _ _ e
  | some o =>
   rw[e]at h;obtain⟨a,e1,e2⟩:=bind_some h
   match r,e,e1 with
   | [],e,_=>cases e
   | k::r,e,e1=>exact .lgo _ _ _ _ _ _ _ _ e (goF_ok n _ _ _ _ e1) (goF_ok n _ _ _ _ e2)
 | n+1,.minus,d,.ok r t,y,h=>by
  have h:(match sg [45] r with
   | some r1=>(goF n .minus d (.ok r1 t)).map (pushR 5)
   | none=>goF n .atom d (.ok r t))=some y:=h
  cases e:sg [45] r with
  | none =>
   rw[e]at h;exact .mend _ _ _ _ e (goF_ok n _ _ _ _ h)
  | some r1 =>
   rw[e]at h;obtain⟨a,e1,rfl⟩:=map_some h
   match r,e with
   | [],e=>cases e
   | k::r,e =>
    rw[sg_cons]at e;split at e
    ·rename_i c
     subst c;obtain rfl:=Option.some.inj e;exact .mgo _ _ _ _ (goF_ok n _ _ _ _ e1)
    ·cases e
 | n+1,.atom,d,.ok r t,y,h=>by
  have h:(match leafR r t with
  | some a=>some a
  | none=>match (generalizing:=false) r with
   | []=>none
   | k::r1=>if k=(2,[40]) then (goF n (.bin true) (d+1) (openR d (.ok (k::r1) t))).map (signR [41]) else match callOp k with
    | none=>none
    | some op=>match arN op with
     | none=>none
     | some m=>(goF n (.args m) (d+1) (openR d (.ok r1 t))).map fun a=>pushR op (signR [41] a))=some y:=h
  cases e:leafR r t with
  | some a =>
   rw[e]at h;obtain rfl:=Option.some.inj h;exact .leaf _ _ _ _ e
  | none =>
   rw[e]at h
   match r with
   | []=>cases h
   | k::r1 =>
    dsimp only at h;split at h
    ·rename_i c
     subst c;obtain⟨a,e1,rfl⟩:=map_some h;exact .paren _ _ _ _ (goF_ok n _ _ _ _ e1)
    ·cases e2:callOp k with
     | none=>rw[e2]at h;cases h
     | some op =>
      rw[e2]at h;dsimp only at h
      cases e3:arN op with
      | none=>rw[e3]at h;cases h
      | some m =>
       rw[e3]at h;obtain⟨a,e1,rfl⟩:=map_some h;exact .call _ _ _ _ _ _ _ e2 e3 (goF_ok n _ _ _ _ e1)
 | n+1,.args 0,d,.ok r t,y,h=>by cases h
 | n+1,.args 1,d,.ok r t,y,h=>.one _ _ _ _ (goF_ok n _ _ _ _ h)
 | n+1,.args (m+2),d,.ok r t,y,h=>by
  obtain⟨a,e1,e2⟩:=bind_some (o:=goF n (.bin true) d (.ok r t)) h;exact .more _ _ _ _ _ _ (goF_ok n _ _ _ _ e1) (goF_ok n _ _ _ _ e2)
def psF(s:List UInt8):Option (List Nd×Int×Nat×Nat):=match lexF 100 s 1 1 with
 | some (ts,none)=>(goF 100 (.bin true) 0 (.ok (ts.map ktT) [])).map fun x=>outR ts (endR x)
 | some (_,some p)=>some ([],90,p.1,p.2)
 | none=>none
theorem psF_ok{s:List UInt8}{R:List Nd×Int×Nat×Nat}(hl:s.length≤20000)(h:psF s=some R):PsIs s R:=by
 unfold psF at h
 cases e:lexF 100 s 1 1 with
 | none=>rw[e]at h;cases h
 | some L =>
  obtain⟨ts,q⟩:=L;have e2:=lexF_ok _ _ _ _ _ e;rw[e]at h
  cases q with
  | none =>
   obtain⟨x,e1,rfl⟩:=map_some (o:=goF 100 (.bin true) 0 (.ok (ts.map ktT) [])) h;have k:=lexD_ok hl (by rw[e2]);rw[e2]at k;exact⟨ts,0,0,0,k,.inr ⟨rfl,x,goF_ok _ _ _ _ _ e1,rfl⟩⟩
  | some p =>
   have k:=lexD_no hl (p:=p) (by rw[e2]);exact⟨[],90,p.1,p.2,k,.inl ⟨by decide,(Option.some.inj h).symm⟩⟩
def fx1:List UInt8:=[112,120,40,120,44,32,53,41,32,45,32,50,32,42,32,45,40,49,32,43,32,109,97,120,40,121,49,44,32,50,41,41]
def fx2:List UInt8:=[112,120,40,120,44,32,53,41,32,45,32,50,32,42,32,45,49,46,53,48]
def fx3:List UInt8:=[112,120,40,120,44,32,53,41,32,45,32,50,32,42,32,45,121]
def fx4:List UInt8:=[40,49,32,43,10]
def fx2T:List Nd:=[Nd.mk 1 ([],[]) [120] 5 0,Nd.mk 0 ([50],[49]) [] 0 0,Nd.mk 0 ([51],[50]) [] 0 0,plainN 5,plainN 8,plainN 7]
theorem fx1_is:PsIs fx1 ([],110,1,26):=psF_ok (by decide) (by decide +kernel)
theorem fx2_is:PsIs fx2 (fx2T,0,0,0):=psF_ok (by decide) (by decide +kernel)
theorem fx3_is:PsIs fx3 ([],110,1,17):=psF_ok (by decide) (by decide +kernel)
theorem fx4_is:PsIs fx4 ([],110,1,5):=psF_ok (by decide) (by decide +kernel)
theorem fx5_is:PsIs [] ([],110,1,1):=psF_ok (by decide) (by decide +kernel)
theorem fx2_pr:printT fx2T=[40,112,120,40,120,44,32,53,41,32,45,32,40,50,32,42,32,40,45,49,46,53,41,41,41]:=by decide +kernel
end Pz
end Go.Proofs.YtmllklfjngapiaaGreatDoor
