/- Own work. -/
import Derived.Test.YtghioekjghmdaaaGreatDoorFxNumM
import Derived.Laws.AppendOwn
import Derived.Laws.OwnMore
import Derived.Deep.CutRange
set_option linter.unusedSimpArgs false
set_option linter.unusedVariables false
namespace Go.Proofs.YtghioekjghmdaaaGreatDoor
open Go.RowKit
def encFx(x:Fx.Fix):List Value:=[.string ⟨x.1.1.toArray⟩,.int .i64 x.1.2,.string ⟨x.2.1.toArray⟩,.string ⟨x.2.2.toArray⟩]
theorem encFx_one(x:Fx.Fix):∀v∈encFx x,v.oneCell'=true:=fun v hv=>by
 unfold encFx at hv;simp only[List.mem_cons,List.not_mem_nil,or_false]at hv;rcases hv with rfl|rfl|rfl|rfl<;>rfl
theorem fxInfo:(Tryz.prog.info? 39).map (fun i=>(i.zero,i.size,i.bytes))=some (some (.agg #[.string ⟨#[]⟩,.int .i64 0,.string ⟨#[]⟩,.string ⟨#[]⟩]),4,56):=by kernel_rfl
abbrev Fxs(w:World)(p:Option Addr)(l:List Fx.Fix):Prop:=RowsG encFx 4 w p l
abbrev OwnX(B:Nat)(w:World)(v:Value)(l:List Fx.Fix):Prop:=OwnG encFx 4 39 B w v l
theorem fx_rule{w:World}{p:Option Addr}{l:List Fx.Fix}(h:Fxs w p l){k:Nat}{a n e:List UInt8}{d:Int}(hx:l[k]?=some ((a,d),(n,e))):∃b o,p=some ⟨b,o,none⟩∧(∀v,Below w.heap.size w v→v.cell? ⟨b,o+k*4,none⟩=some (.string ⟨a.toArray⟩)) ∧
  (∀v,Below w.heap.size w v→v.cell? ⟨b,o+k*4+1,none⟩=some (.int .i64 d))∧(∀v,Below w.heap.size w v→v.cell? ⟨b,o+k*4+2,none⟩=some (.string ⟨n.toArray⟩))∧(∀v,Below w.heap.size w v→v.cell? ⟨b,o+k*4+3,none⟩=some (.string ⟨e.toArray⟩)):=by
 obtain⟨b,o,hp,hl,c⟩:=h k _ hx;exact⟨b,o,hp,fun v hb=>(hb.cell (p:=⟨b,_,none⟩) hl).trans (c 0 _ rfl),fun v hb=>(hb.cell (p:=⟨b,_,none⟩) hl).trans (c 1 _ rfl),fun v hb=>(hb.cell (p:=⟨b,_,none⟩) hl).trans (c 2 _ rfl),fun v hb=>(hb.cell (p:=⟨b,_,none⟩) hl).trans (c 3 _ rfl)⟩
def SzX(x:Fx.Fix):Prop:=x.1.1.length≤4611686018427387904∧x.2.1.length≤20000∧x.2.2.length≤20000
theorem moreK{l:List Fx.Fix}{P:Nat→Fx.Fix→Prop}{k:Nat}{z:Fx.Fix}(h:∀ (j:Nat) (x:Fx.Fix),j<k→l[j]?=some x→P j x)(hz:l[k]?=some z)(hp:P k z):∀ (j:Nat) (x:Fx.Fix),j<k+1→l[j]?=some x→P j x:=fun j x hj hx=>by
 by_cases e:j=k
 ·subst e;rw[hz]at hx;exact Option.some.inj hx▸hp
 ·exact h j x (by omega) hx
end Go.Proofs.YtghioekjghmdaaaGreatDoor
set_option maxRecDepth 100000
namespace Go.Proofs.YtghioekjghmdaaaGreatDoor
open Go.ChangeShapes Go.WideShapes Go.RowKit Go.Joins Go.Deep
section
variable {H : Type} {enc : TypeId × Value → H} {w : World} {base : Nat} {sp : Nat → Bool} {held : Bool}
theorem cellsFix:Tryz.prog.cellsOf 39=4:=by kernel_rfl
theorem bytesFix:Tryz.prog.bytesOf 39=56:=by kernel_rfl
theorem trod_fix{n:Nat}{c0 c1 c2 c3:Value}{x:DataW H×List MemPlace}(h:DataW.trod enc Tryz.prog w base sp held n 39 [c0,c1,c2,c3]=some x) :
  ∃z:Fx.Fix,c0=.string ⟨z.1.1.toArray⟩∧c1=.int .i64 z.1.2∧c2=.string ⟨z.2.1.toArray⟩∧c3=.string ⟨z.2.2.toArray⟩:=by
 obtain⟨xs,m,_,rfl,hl,hlen,hf⟩:=DataW.trod_struct Tryz.underlying39 h
 match xs,hlen with
 | [y0,y1,y2],_ =>
  have h0:DataW.trod enc Tryz.prog w base sp held m 9 (([c0,c1,c2,c3].drop 0).take (Tryz.prog.cellsOf 9))=some y0:=hf 0 _ rfl;have h1:DataW.trod enc Tryz.prog w base sp held m 3 (([c0,c1,c2,c3].drop 1).take (Tryz.prog.cellsOf 3))=some y1:=hf 1 _ rfl;have h2:DataW.trod enc Tryz.prog w base sp held m 28 (([c0,c1,c2,c3].drop 2).take (Tryz.prog.cellsOf 28))=some y2:=hf 2 _ rfl;rw[cellsStr]at h0;rw[cellsInt]at h1;rw[cellsRat]at h2;obtain⟨a0,rfl⟩:=one_str h0;obtain⟨a1,rfl⟩:=one_int h1;obtain⟨a2,rfl,rfl⟩:=one_rat h2;exact⟨((a0,a1),a2),rfl,rfl,rfl,rfl⟩
theorem open_fixes{v:Value}{d:DataW H}{p:List MemPlace}(hv:∃ (q:Option Addr) (l c:Nat),v=.slice q l c)(h:DataW.Trod enc Tryz.prog w 0 (fun _=>true) held 24 v d p) :
  ∃ (q:Option Addr) (c:Nat) (ls:List Fx.Fix),v=.slice q ls.length c∧ls.length≤c∧Fxs w q ls∧(d=.nil∧ls=[]∨∃es rest,d=.slice es rest∧es.length=ls.length):=by
 obtain⟨q0,l0,c0,rfl⟩:=hv;obtain⟨fuel,hf⟩:=h;have hf:DataW.trod enc Tryz.prog w 0 (fun _=>true) held fuel 24 [.slice q0 l0 c0]=some (d,p):=hf;rcases open_slice Tryz.underlying24 hf with ⟨hcs,hx⟩|⟨a,len,cap,m,n,D,Pl,hcs,_,hl,hm,hmm,hx,hel⟩
 ·simp only[List.cons.injEq,Value.slice.injEq,and_true]at hcs;obtain⟨rfl,rfl,rfl⟩:=hcs;exact⟨none,0,[],rfl,Nat.le_refl _,RowsG.nil _ _,.inl ⟨(Prod.mk.inj hx).1,rfl⟩⟩
 ·simp only[List.cons.injEq,Value.slice.injEq,and_true]at hcs;obtain⟨rfl,rfl,rfl⟩:=hcs;simp only[if_true]at hmm;subst hmm;rw[show Tryz.prog.cellsOf _=4 from cellsFix]at hel;have hline:∀i,i<l0→∃z:Fx.Fix,w.cell? (a.add (i*4))=some (.string ⟨z.1.1.toArray⟩)∧w.cell? ((a.add (i*4)).add 1)=some (.int .i64 z.1.2)∧w.cell? ((a.add (i*4)).add 2)=some (.string ⟨z.2.1.toArray⟩)∧w.cell? ((a.add (i*4)).add 3)=some (.string ⟨z.2.2.toArray⟩):=fun i hi=>by
   obtain⟨cs,h1,h2⟩:=hel i (by omega);obtain⟨_,hlen,hc⟩:=World.cells?_some h1
   match cs,hlen with
   | [x0,x1,x2,x3],_ =>
    obtain⟨z,rfl,rfl,rfl,rfl⟩:=trod_fix h2;exact⟨z,hc 0 (by decide),hc 1 (by decide),hc 2 (by decide),hc 3 (by decide)⟩
  obtain⟨L,hL⟩:=choose_lt (α:=Fx.Fix) hline;have hlen:((List.range l0).map L).length=l0:=by rw[List.length_map,List.length_range]
  refine⟨some a,_,(List.range l0).map L,by rw[hlen],by rw[hlen];exact hl,fun j x hx2=>?_,.inr ⟨_,_,(Prod.mk.inj hx).1,by rw[List.length_map,List.length_map]⟩⟩;have hj:j<l0:=by
   have:=(List.getElem?_eq_some_iff.1 hx2).1;rw[hlen]at this;exact this
  have hx3:x=L j:=by
   rw[List.getElem?_map,List.getElem?_range hj]at hx2;exact(Option.some.inj hx2).symm
  subst hx3;obtain⟨g0,g1,g2,g3⟩:=hL j hj;obtain⟨k0,_⟩:=hL 0 (by omega);have hs:a.spot=none:=by
   have:=World.cell?_spot k0
   simpa [Addr.add] using this
  obtain⟨b,o,s⟩:=a;obtain rfl:s=none:=hs;rw[Addr.add_lit]at g0;rw[Addr.add_lit,Addr.add_lit]at g1 g2 g3;refine⟨b,o,rfl,World.block_lt_of_cell? w ⟨b,o+j*4,none⟩ g0,fun i v hv=>?_⟩
  match i,hv with
  | 0,hv=>obtain rfl:=Option.some.inj hv;exact g0
  | 1,hv=>obtain rfl:=Option.some.inj hv;exact g1
  | 2,hv=>obtain rfl:=Option.some.inj hv;exact g2
  | 3,hv=>obtain rfl:=Option.some.inj hv;exact g3
end
end Go.Proofs.YtghioekjghmdaaaGreatDoor
namespace Go.Proofs.YtghioekjghmdaaaGreatDoor
namespace Ev
open Tm (Nd Tr arN treeOf checkT printT depthT joinT plainN okN okT pr dp mkT)
open Fx (FK Fix lessF mayF rawF)
def lastN(x:Nd):Int:=if x.op=1 then x.a else if 2≤x.op∧x.op≤4 then x.b else x.a-1
def spanN(x:Nd):List FK:=(List.range (lastN x+1-x.a).toNat).map fun (i:Nat)=>(x.ast,x.a+(i:Int))
def insK:List FK→FK→List FK
 | [],k=>[k]
 | x::l,k=>if lessF x k=true then x::insK l k else if x=k then x::l else k::x::l
def keysT(t:List Nd):List FK:=(t.flatMap spanN).foldl insK []
def needsK(t:List Nd):List FK:=if checkT t=0 then keysT t else []
def SortK(l:List FK):Prop:=l.Pairwise fun a b=>lessF a b=true
theorem insK_mem:∀ {l:List FK} {k y:FK},y∈insK l k↔y=k∨y∈l
 | [],k,y=>by simp[insK]
 | x::l,k,y=>by
  unfold insK;split
  ·rw[List.mem_cons,insK_mem,List.mem_cons];constructor<;>rintro(h|h|h)<;>simp[h]
  ·split
   ·rename_i e;subst e
    rw[List.mem_cons];constructor
    ·exact .inr
    ·rintro(h|h)
     ·exact .inl h
     ·exact h
   ·rw[List.mem_cons]
theorem insK_sort:∀ {l:List FK} {k:FK},SortK l→SortK (insK l k)
 | [],k,_=>List.pairwise_singleton ..
 | x::l,k,h=>by
  obtain⟨h1,h2⟩:=List.pairwise_cons.1 h;unfold insK;split
  ·rename_i hx
   refine List.pairwise_cons.2 ⟨fun y hy=>?_,insK_sort h2⟩;rcases insK_mem.1 hy with rfl|hy
   ·exact hx
   ·exact h1 y hy
  ·rename_i hx
   split
   ·exact h
   ·rename_i hn
    have hk:lessF k x=true:=by
     rcases Fx.lt_cases x k with c|c|c
     ·exact absurd c hx
     ·exact absurd c hn
     ·exact c
    refine List.pairwise_cons.2 ⟨fun y hy=>?_,h⟩;rcases List.mem_cons.1 hy with rfl|hy
    ·exact hk
    ·exact Fx.lt_trans hk (h1 y hy)
theorem fold_mem{m:List FK}:∀ {l:List FK} {y:FK},y∈m.foldl insK l↔y∈m∨y∈l:=by
 induction m with
 | nil=>intro l y;simp
 | cons k m ih =>
  intro l y;rw[List.foldl_cons,ih,insK_mem,List.mem_cons];constructor
  ·rintro(h|h|h)<;>simp[h]
  ·rintro((h|h)|h)<;>simp[h]
theorem fold_sort{m:List FK}:∀ {l:List FK},SortK l→SortK (m.foldl insK l):=by
 induction m with
 | nil=>exact fun h=>h
 | cons k m ih=>exact fun h=>ih (insK_sort h)
theorem keys_mem{t:List Nd}{k:FK}:k∈keysT t↔∃x∈t,k∈spanN x:=by
 unfold keysT;rw[fold_mem,List.mem_flatMap];simp
theorem keys_sort(t:List Nd):SortK (keysT t):=fold_sort List.Pairwise.nil
def zR:Key:=([],[])
def priceK(l:List Fix)(k:FK):Rat:=valR ((rawF l k).getD zR)
def hiQ(a b:Rat):Rat:=if 0≤sgnQ (a-b) then a else b
def loQ(a b:Rat):Rat:=if sgnQ (a-b)≤0 then a else b
def leafV(op:Int)(q:Rat)(p:List Rat):Rat:=if op=3 then p.foldl hiQ q else if op=4 then p.foldl loQ q else p.foldl (·+·) 0 / (p.length:Rat)
def leafQ(l:List Fix)(x:Nd):Rat:=if x.op=0 then valR x.num else leafV x.op (priceK l (x.ast,x.a)) ((spanN x).map (priceK l))
def upQ(op:Int):List Rat→Option Rat
 | [a]=>some (-a)
 | [a,b]=>if op=6 then some (a+b) else if op=7 then some (a-b) else if op=8 then some (a*b) else if op=9 then (if b=0 then none else some (a / b)) else if op=10 then some (hiQ a b) else some (loQ a b)
 | [a,b,c]=>some (if 0<sgnQ a then b else c)
 | _=>none
def allS:List (Option Rat)→Option (List Rat)
 | []=>some []
 | none::_=>none
 | some a::l=>(allS l).map (a::·)
def valF(l:List Fix)(x:Nd):List (Option Rat)→Option Rat
 | []=>some (leafQ l x)
 | v::vs=>(allS (v::vs)).bind (upQ x.op)
def valT(l:List Fix)(t:Tr):Option Rat:=t.fold (valF l)
def lackB(l:List Fix)(t:List Nd):Bool:=(keysT t).any fun k=>(rawF l k).isNone
def endQ:Option Rat→Key×Int
 | some q=>(rd q,0)
 | none=>(zR,131)
def evalE(t:List Nd)(l:List Fix):Key×Int :=
 if mayF l=false then (zR,1) else if checkT t≠0 then (zR,100) else if lackB l t=true then (zR,130) else match treeOf t with
 | some tr=>endQ (valT l tr)
 | none=>(zR,100)
def wN(D:Nat)(x:Nd):Nat:=if x.op=0 then max x.num.1.length x.num.2.length else 60*D+4
def dgF(D:Nat)(x:Nd):List Nat→Nat
 | []=>wN D x
 | [a]=>a
 | [a,b]=>a+b+1
 | a::b::c::_=>max a (max b c)
def dgT(D:Nat)(t:Tr):Nat:=t.fold (dgF D)
theorem dg_le{D:Nat}:∀ {t:Tr},(∀x∈t.flat,wN D x≤60*D+4)→2*(dgT D t+1)≤(60*D+5)*(t.flat.length+1)
 | .t0 x,h=>by
  have:=h x (by simp[Tr.flat]);show 2*(wN D x+1)≤(60*D+5)*2;omega
 | .t1 x a,h=>by
  have:=dg_le (t:=a) fun y hy=>h y (by simp[Tr.flat,hy]);show 2*(dgT D a+1)≤(60*D+5)*((a.flat++[x]).length+1);rw[List.length_append];exact Nat.le_trans this (Nat.mul_le_mul_left _ (by omega))
 | .t2 x a b,h=>by
  have ha:=dg_le (t:=a) fun y hy=>h y (by simp[Tr.flat,hy]);have hb:=dg_le (t:=b) fun y hy=>h y (by simp[Tr.flat,hy]);show 2*(dgT D a+dgT D b+1+1)≤(60*D+5)*((Tr.t2 x a b).flat.length+1);have e:(Tr.t2 x a b).flat.length+1=(a.flat.length+1)+(b.flat.length+1):=by simp[Tr.flat];omega
  rw[e,Nat.mul_add (60*D+5)];generalize (60*D+5)*(a.flat.length+1)=A at *;generalize (60*D+5)*(b.flat.length+1)=B at *;omega
 | .t3 x a b c,h=>by
  have ha:=dg_le (t:=a) fun y hy=>h y (by simp[Tr.flat,hy]);have hb:=dg_le (t:=b) fun y hy=>h y (by simp[Tr.flat,hy]);have hc:=dg_le (t:=c) fun y hy=>h y (by simp[Tr.flat,hy]);show 2*(max (dgT D a) (max (dgT D b) (dgT D c))+1)≤(60*D+5)*((Tr.t3 x a b c).flat.length+1);have e:∀s:Tr,s.flat.length≤(Tr.t3 x a b c).flat.length→(60*D+5)*(s.flat.length+1)≤(60*D+5)*((Tr.t3 x a b c).flat.length+1):=fun s hs=>Nat.mul_le_mul_left _ (by omega);have e1:=e a (by simp only[Tr.flat,List.length_append];omega);have e2:=e b (by simp only[Tr.flat,List.length_append];omega);have e3:=e c (by simp only[Tr.flat,List.length_append];omega);generalize (60*D+5)*((Tr.t3 x a b c).flat.length+1)=A at *;generalize (60*D+5)*(a.flat.length+1)=A1 at *;generalize (60*D+5)*(b.flat.length+1)=A2 at *;generalize (60*D+5)*(c.flat.length+1)=A3 at *;omega
theorem insK_len:∀ (l:List FK) (k:FK),(insK l k).length≤l.length+1
 | [],_=>Nat.le_refl _
 | x::l,k=>by
  unfold insK;have:=insK_len l k;split
  ·rw[List.length_cons,List.length_cons];omega
  ·split<;>simp only[List.length_cons]<;>omega
theorem fold_len{m:List FK}:∀ {l:List FK},(m.foldl insK l).length≤l.length+m.length:=by
 induction m with
 | nil=>exact fun {l}=>Nat.le_refl _
 | cons k m ih =>
  intro l;have:=ih (l:=insK l k);have:=insK_len l k;rw[List.foldl_cons,List.length_cons];omega
theorem span_len{x:Nd}(h:okN x=true):(spanN x).length≤60:=by
 unfold spanN;rw[List.length_map,List.length_range];by_cases h1:x.op=1
 ·unfold lastN;rw[if_pos h1];omega
 by_cases h2:2≤x.op∧x.op≤4
 ·obtain⟨_,_,_,_,_,hb⟩:=Tm.ok_avg h h2;unfold lastN;rw[if_neg h1,if_pos h2];omega
 ·unfold lastN;rw[if_neg h1,if_neg h2];omega
theorem spans_len:∀ {t:List Nd},(∀x∈t,okN x=true)→(t.flatMap spanN).length≤60*t.length
 | [],_=>Nat.le_refl _
 | x::t,h=>by
  have:=span_len (h x (List.mem_cons_self ..));have:=spans_len (t:=t) fun y hy=>h y (List.mem_cons_of_mem _ hy);rw[List.flatMap_cons,List.length_append,List.length_cons];omega
theorem keys_len{t:List Nd}(h:∀x∈t,okN x=true):(keysT t).length≤60*t.length:=by
 have:=fold_len (m:=t.flatMap spanN) (l:=[]);have:=spans_len h;unfold keysT;simp only[List.length_nil]at *;omega
theorem check_inv{t:List Nd}(h:checkT t=0):∃tr:Tr,treeOf t=some tr∧tr.wf∧tr.flat=t∧okT tr:=by
 have k:=Tm.check_iff t;rw[decide_eq_true h]at k;have hp:printT t≠[]:=fun e=>by rw[decide_eq_true e]at k;cases k
 obtain⟨tr,h1,h2,h3,h4,_⟩:=Tm.print_ne hp;exact⟨tr,h1,h2,h3,h4⟩
theorem check_tree{tr:Tr}(hw:tr.wf)(ho:okT tr)(hl:tr.flat.length≤2000)(hp:(pr tr).length≤20000)(hd:dp tr≤150):checkT tr.flat=0:=by
 have hf:=Tm.form_flat hw hl;have ht:=Tm.tree_flat hw;have e:=Tm.print_yes hf ht ho;have d:=Tm.depth_of hf ht;unfold checkT;rw[e,d,if_neg];rintro(h|h|h)
 ·exact Tm.pr_ne hw ho h
 ·omega
 ·omega
theorem join_flat(op:Int){L:List Tr}(h:L.length≤3):(mkT (plainN op) L).flat=joinT op (L.map Tr.flat):=Tm.flat_mk h
theorem plain_ok{op:Int}(h:5≤op):okN (plainN op)=true:=by
 unfold okN plainN;dsimp only;rw[if_neg (by omega),if_neg (by omega),if_neg (by omega)]
 rfl
theorem join_ok{op:Int}{L:List Tr}(ha:arN op=some L.length)(h5:5≤op)(hw:∀s∈L,s.wf∧okT s)(h3:L.length≤3)(hl:(mkT (plainN op) L).flat.length≤140) :
  checkT (joinT op (L.map Tr.flat))=0∧treeOf (joinT op (L.map Tr.flat))=some (mkT (plainN op) L):=by
 have w:(mkT (plainN op) L).wf:=Tm.wf_mk (x:=plainN op) ha fun s hs=>(hw s hs).1;have o:okT (mkT (plainN op) L):=fun x hx=>by
  rw[join_flat op h3,joinT,List.mem_append]at hx;rcases hx with hx|hx
  ·obtain⟨u,hu,hx⟩:=List.mem_flatten.1 hx;obtain⟨s,hs,rfl⟩:=List.mem_map.1 hu;exact(hw s hs).2 x hx
  ·rw[List.mem_singleton.1 hx];exact plain_ok h5
 have hp:=Tm.pr_len w o;rw[←join_flat op h3];exact⟨check_tree w o (by omega) (by omega) (Nat.le_trans (Tm.dp_le _) (by omega)),Tm.tree_flat w⟩
theorem span_plain{op:Int}(h5:5≤op):spanN (plainN op)=[]:=by
 unfold spanN lastN plainN;dsimp only;rw[if_neg (by omega),if_neg (by omega)]
 rfl
theorem keys_join{op:Int}{L:List (List Nd)}(h5:5≤op){k:FK}:k∈keysT (joinT op L)↔∃t∈L,k∈keysT t:=by
 have hs:=span_plain h5;rw[keys_mem];constructor
 ·rintro⟨x,hx,hk⟩;rw[joinT,List.mem_append]at hx;rcases hx with hx|hx
  ·obtain⟨u,hu,hx⟩:=List.mem_flatten.1 hx;exact⟨u,hu,keys_mem.2 ⟨x,hx,hk⟩⟩
  ·rw[List.mem_singleton.1 hx,hs]at hk;cases hk
 ·rintro⟨t,ht,hk⟩;obtain⟨x,hx,hk⟩:=keys_mem.1 hk;exact⟨x,List.mem_append.2 (.inl (List.mem_flatten.2 ⟨t,ht,hx⟩)),hk⟩
theorem lack_iff{l:List Fix}{t:List Nd}:lackB l t=true↔∃k∈keysT t,rawF l k=none:=by
 unfold lackB;rw[List.any_eq_true];constructor<;>rintro⟨k,hk,h⟩<;>exact⟨k,hk,by simpa using h⟩
theorem eval_may{t:List Nd}{l:List Fix}(hl:mayF l=true)(ht:checkT t=0):evalE t l=if lackB l t=true then (zR,130) else match treeOf t with
  | some tr=>endQ (valT l tr)
  | none=>(zR,100):=by
 unfold evalE;rw[if_neg (by rw[hl];exact fun h=>by cases h),if_neg (fun h=>h ht)]
theorem span_first{x:Nd}(h:okN x=true)(h1:1≤x.op∧x.op≤4):(x.ast,x.a)∈spanN x:=by
 have key:∀m:Int,lastN x=m→x.a≤m→(x.ast,x.a)∈spanN x:=fun m e h=>by
  unfold spanN;rw[e,List.mem_map];exact⟨0,List.mem_range.2 (by omega),by simp⟩
 by_cases h2:x.op=1
 ·exact key x.a (by unfold lastN;rw[if_pos h2]) (Int.le_refl _)
 ·obtain⟨_,_,_,_,hab,_⟩:=Tm.ok_avg h (by omega);exact key x.b (by unfold lastN;rw[if_neg h2,if_pos (by omega)]) hab
theorem eval_ok{t:List Nd}{l:List Fix}(hl:mayF l=true)(ht:checkT t=0){tr:Tr}(h:treeOf t=some tr):(evalE t l).2=0↔lackB l t=false∧∃q,valT l tr=some q∧evalE t l=(rd q,0):=by
 rw[eval_may hl ht,h]
 cases lackB l t with
 | true=>simp
 | false =>
  dsimp only
  cases valT l tr with
  | none=>simp[endQ]
  | some q=>simp[endQ]
theorem lack_join{l:List Fix}{op:Int}{L:List (List Nd)}(h5:5≤op):lackB l (joinT op L)=L.any (lackB l):=by
 rw[Bool.eq_iff_iff,lack_iff,List.any_eq_true];constructor
 ·rintro⟨k,hk,e⟩;obtain⟨t,ht,hk⟩:=(keys_join h5).1 hk;exact⟨t,ht,lack_iff.2 ⟨k,hk,e⟩⟩
 ·rintro⟨t,ht,e⟩;obtain⟨k,hk,e⟩:=lack_iff.1 e;exact⟨k,(keys_join h5).2 ⟨t,ht,hk⟩,e⟩
end Ev
end Go.Proofs.YtghioekjghmdaaaGreatDoor
namespace Go.Proofs.YtghioekjghmdaaaGreatDoor
open Go.RowKit
end Go.Proofs.YtghioekjghmdaaaGreatDoor
namespace Go.Proofs.YtghioekjghmdaaaGreatDoor
open Go.RowKit
end Go.Proofs.YtghioekjghmdaaaGreatDoor
namespace Go.Proofs.YtghioekjghmdaaaGreatDoor
open Go.RowKit
end Go.Proofs.YtghioekjghmdaaaGreatDoor
namespace Go.Proofs.YtghioekjghmdaaaGreatDoor
open Go.RowKit
theorem zc_put{b:Nat}{a c x y:Value}{v:World}(h:Zc b a c v):Zc b x y ((v.setCell ⟨b,0,none⟩ x).setCell ⟨b,1,none⟩ y):=by
 have e0:(v.setCell ⟨b,0,none⟩ x).cell? ⟨b,1,none⟩=some c:=by rw[cell?_setCell_ne _ _ _ _ _ (by omega)];exact h.c1
 refine⟨?_,?_,?_,?_,?_⟩
 ·rw[cell?_setCell_ne _ _ _ _ _ (by omega),World.cell?_setCell_same' _ _ _ (by rw[h.c0];rfl)]
 ·rw[World.cell?_setCell_same' _ _ _ (by rw[e0];rfl)]
 ·simpa using h.f0
 ·simpa using h.f1
 ·simpa using h.lt
end Go.Proofs.YtghioekjghmdaaaGreatDoor
namespace Go.Proofs.YtghioekjghmdaaaGreatDoor
open Go.RowKit
theorem zc_far{b c:Nat}{x y s t:Value}{v:World}(hn:b≠c)(h:Zc b x y v):Zc b x y ((v.setCell ⟨c,0,none⟩ s).setCell ⟨c,1,none⟩ t):=by
 have k:∀ (u:World) (i j:Nat) (z:Value),(u.setCell ⟨c,i,none⟩ z).cell? ⟨b,j,none⟩=u.cell? ⟨b,j,none⟩:=fun u i j z=>World.cell?_setCell_far _ _ _ _ (fun e=>hn e.symm);refine⟨?_,?_,?_,?_,?_⟩
 ·rw[k,k];exact h.c0
 ·rw[k,k];exact h.c1
 ·simpa using h.f0
 ·simpa using h.f1
 ·simpa using h.lt
end Go.Proofs.YtghioekjghmdaaaGreatDoor
namespace Go.Proofs.YtghioekjghmdaaaGreatDoor
open Go.RowKit
end Go.Proofs.YtghioekjghmdaaaGreatDoor
namespace Go.Proofs.YtghioekjghmdaaaGreatDoor
open Go.RowKit
end Go.Proofs.YtghioekjghmdaaaGreatDoor
set_option maxHeartbeats 4000000
set_option maxRecDepth 100000
namespace Go.Proofs.YtghioekjghmdaaaGreatDoor
open Go.RowKit
open Tm (Nd Tr treeOf checkT)
def liN(x:Nd):Bool:=decide (x.num.1.length≤20)&&(decide (x.num.2.length≤20)&&decide (x.ast.length≤100))
def liX(x:Fx.Fix):Bool:=decide (x.2.1.length≤10)&&(decide (x.2.2.length≤10)&&decide (x.1.1.length≤100))
def liT(t:List Nd)(l:List Fx.Fix):Bool:=t.all liN&&(l.all liX&&(decide (t.length≤60)&&decide (l.length≤60)))
theorem liN_iff{x:Nd}:liN x=true↔x.num.1.length≤20∧x.num.2.length≤20∧x.ast.length≤100:=by simp[liN]
theorem liX_iff{x:Fx.Fix}:liX x=true↔x.2.1.length≤10∧x.2.2.length≤10∧x.1.1.length≤100:=by simp[liX]
theorem li_badN{t:List Nd}{k:Nat}{x:Nd}(l:List Fx.Fix)(hx:t[k]?=some x):liN x=true∨liT t l=false:=by
  cases h:liN x with
  | true=>exact .inl rfl
  | false =>
    refine .inr ?_;unfold liT;rw[show t.all liN=false from List.all_eq_false.2 ⟨x,List.mem_of_getElem? hx,by rw[h];exact fun e=>by cases e⟩]
    rfl
theorem li_badX{l:List Fx.Fix}{k:Nat}{x:Fx.Fix}(t:List Nd)(hx:l[k]?=some x):liX x=true∨liT t l=false:=by
  cases h:liX x with
  | true=>exact .inl rfl
  | false =>
    refine .inr ?_;unfold liT;rw[show l.all liX=false from List.all_eq_false.2 ⟨x,List.mem_of_getElem? hx,by rw[h];exact fun e=>by cases e⟩,Bool.false_and,Bool.and_false]
theorem li_end{t:List Nd}{l:List Fx.Fix}(h:∀ (j:Nat) (x:Nd),j<t.length→t[j]?=some x→liN x=true)(k:∀ (j:Nat) (x:Fx.Fix),j<l.length→l[j]?=some x→liX x=true):liT t l=(decide (t.length≤60)&&decide (l.length≤60)):=by
  unfold liT;rw[List.all_eq_true.2 fun x hx=>by
    obtain⟨j,hj,rfl⟩:=List.getElem_of_mem hx;exact h j _ hj (List.getElem?_eq_getElem hj),List.all_eq_true.2 fun x hx=>by
    obtain⟨j,hj,rfl⟩:=List.getElem_of_mem hx;exact k j _ hj (List.getElem?_eq_getElem hj)]
  rfl
def GiveX(w:World)(l:List Fx.Fix)(e:Ending)(w':World):Prop:=(∃p c,e=.returned (.slice p l.length c)∧l.length≤c∧Fxs w' p l)∧Below w.heap.size w w'
structure EvalC(G:World→Prop):Prop where
  below:∀ {w w':World},G w→Below w.heap.size w w'→G w'
  needs:∀ (p:Option Addr) (c:Nat) (t:List Nd) (w:World),t.length≤c→t.length≤2000→(∀x∈t,SzN x)→Nds w p t→G w→Calls Tryz.prog 14 #[.slice p t.length c] w (GiveX w ((Ev.needsK t).map fun k=>(k,([],[]))))
  eval:∀ (D:Nat),D≤19000→∀ (p:Option Addr) (c:Nat) (t:List Nd) (q:Option Addr) (d:Nat) (l:List Fx.Fix) (w:World),t.length≤c→t.length≤2000→(∀x∈t,SzN x)→l.length≤d→l.length≤1000→(∀x∈l,x.2.1.length≤D∧x.2.2.length≤D∧x.1.1.length≤1000)→(∀tr,treeOf t=some tr→Ev.dgT D tr≤19000)→Nds w p t→Fxs w q l→G w →
    Calls Tryz.prog 11 #[.slice p t.length c,.slice q l.length d] w (GiveRE w (Ev.evalE t l))
theorem light_any(p:Option Addr)(c:Nat)(t:List Nd)(q:Option Addr)(d:Nat)(l:List Fx.Fix)(w:World)(ht:t.length≤4611686018427387904)(hl:l.length≤4611686018427387904)(h:Nds w p t)(g:Fxs w q l):Calls Tryz.prog 9 #[.slice p t.length c,.slice q l.length d] w (GiveB w (liT t l)):=by
  have HT:=zh h;have HS:=zh g;clear h g
  go_enter Tryz.func9,Tryz.ntmps9;go_wp2_with fail
  go_loopw [5] (fun i wv=>∃k:Nat,k≤t.length∧i=.int .i64 k∧Hid (∀ (j:Nat) (x:Nd),j<k→t[j]?=some x→liN x=true)∧Below w.heap.size w wv) (fun i _=>t.length-(intOf i).toNat)
  case atStart=>exact⟨0,Nat.zero_le _,rfl,zh fun j x h=>absurd h (Nat.not_lt_zero j),Below.refl _ _⟩
  case round =>
    obtain⟨k,hk,rfl,HJ,hw⟩:=hrel;have HW:=zh (hw);have HV:=zh hw
    clear hw;by_cases hlt:k<t.length
    · have hki:(k:Int)<(t.length:Int):=by omega
      obtain⟨⟨op,⟨n,e⟩,s,a,bb⟩,hx⟩:∃x,t[k]?=some x:=⟨_,List.getElem?_eq_getElem hlt⟩;obtain⟨b,o,rfl,k0,k1,k2,k3,k4,k5⟩:=nds_rule (HT.out.below HW.out) hx;dsimp only at k0 k1 k2 k3 k4 k5;have HX:=zh hx;have HO:=zh (li_badN l hx);clear hx k0 k4 k5;have b0:=Below.refl wr.heap.size wr;by_cases h1:(20:Int)<(n.length:Int)<;>by_cases h2:(20:Int)<(e.length:Int)<;>by_cases h3:(100:Int)<(s.length:Int)<;>(
        go_wp2_with fail
        first
        | (go_ret
           exact⟨ret_bool (by rw[HO.out.resolve_left fun h=>by have:=liN_iff.1 h;dsimp only at this;omega]),HW.out⟩)
        | (go_roundw
           case rel=>exact⟨k+1,hlt,by go_num,zh fun j x hj hx=>by
            by_cases e:j=k
            · subst e;obtain rfl:=Option.some.inj (HX.out.symm.trans hx);exact liN_iff.2 ⟨by dsimp only;omega,by dsimp only;omega,by dsimp only;omega⟩
            · exact HJ.out j x (by omega) hx,HV.out⟩
           case measure=>simp[intOf];omega))
    · obtain rfl:k=t.length:=by omega
      have HA:=HJ;have HU:=HW
      clear HJ HV HW;go_wp2_with fail
      go_loopw [6] (fun i wv=>∃k:Nat,k≤l.length∧i=.int .i64 k∧Hid (∀ (j:Nat) (x:Fx.Fix),j<k→l[j]?=some x→liX x=true)∧Below wr.heap.size wr wv) (fun i _=>l.length-(intOf i).toNat)
      case atStart=>exact⟨0,Nat.zero_le _,rfl,zh fun j x h=>absurd h (Nat.not_lt_zero j),Below.refl _ _⟩
      case round =>
        obtain⟨k,hk,rfl,HJ,hw⟩:=hrel;have HW:=zh (Below.more HU.out hw);have HV:=zh hw
        clear hw;by_cases hlt:k<l.length
        · have hki:(k:Int)<(l.length:Int):=by omega
          obtain⟨⟨⟨s,a⟩,⟨n,e⟩⟩,hx⟩:∃x,l[k]?=some x:=⟨_,List.getElem?_eq_getElem hlt⟩;obtain⟨b,o,rfl,k0,k1,k2,k3⟩:=fx_rule (HS.out.below HW.out) hx;have HX:=zh hx;have HO:=zh (li_badX t hx);clear hx k1;have b0:=Below.refl wr.heap.size wr;by_cases h1:(10:Int)<(n.length:Int)<;>by_cases h2:(10:Int)<(e.length:Int)<;>by_cases h3:(100:Int)<(s.length:Int)<;>(
            go_wp2_with fail
            first
            | (go_ret
               exact⟨ret_bool (by rw[HO.out.resolve_left fun h=>by have:=liX_iff.1 h;dsimp only at this;omega]),HW.out⟩)
            | (go_roundw
               case rel=>exact⟨k+1,hlt,by go_num,zh fun j x hj hx=>by
                by_cases e:j=k
                · subst e;obtain rfl:=Option.some.inj (HX.out.symm.trans hx);exact liX_iff.2 ⟨by dsimp only;omega,by dsimp only;omega,by dsimp only;omega⟩
                · exact HJ.out j x (by omega) hx,HV.out⟩
               case measure=>simp[intOf];omega))
        · obtain rfl:k=l.length:=by omega
          have HR:=zh (li_end HA.out HJ.out);by_cases h1:(t.length:Int)≤60<;>by_cases h2:(l.length:Int)≤60<;>(
            go_wp2_with fail;go_ret;exact⟨ret_bool (by rw[HR.out,Bool.eq_iff_iff];simp;omega),HW.out⟩)
end Go.Proofs.YtghioekjghmdaaaGreatDoor
namespace Go.Proofs.YtghioekjghmdaaaGreatDoor
open Go.RowKit
open Tm (Nd Tr treeOf checkT plainN avN)
variable {G : World → Prop}
theorem li_parts{t:List Nd}{l:List Fx.Fix}(h:liT t l=true):(∀x∈t,liN x=true)∧(∀x∈l,liX x=true)∧t.length≤60∧l.length≤60:=by
 unfold liT at h;simp only[Bool.and_eq_true,decide_eq_true_eq,List.all_eq_true]at h;exact⟨h.1,h.2.1,h.2.2⟩
theorem li_sz{t:List Nd}{l:List Fx.Fix}(h:liT t l=true)(hr:∀x∈t,RgN x):∀x∈t,SzN x:=fun x hx=>by
 have k:=liN_iff.1 ((li_parts h).1 x hx);exact⟨⟨by omega,by omega,k.2.2⟩,hr x hx⟩
theorem li_dg{t:List Nd}{l:List Fx.Fix}(h:liT t l=true):∀tr,treeOf t=some tr→Ev.dgT 10 tr≤19000:=fun tr ht=>by
 obtain⟨_,e⟩:=Tm.tree_inv ht;have k:=Ev.dg_le (D:=10) (t:=tr) fun x hx=>by
  have k:=liN_iff.1 ((li_parts h).1 x (e▸hx));unfold Ev.wN;split<;>omega
 have hl:=(li_parts h).2.2.1;rw[e]at k;omega
theorem eval_li(H:EvalC G){p:Option Addr}{c:Nat}{t:List Nd}{q:Option Addr}{d:Nat}{l:List Fx.Fix}{V:World}(hc:t.length≤c)(hd:l.length≤d)(hli:liT t l=true)(hr:∀x∈t,RgN x){r:Key×Int}(he:Ev.evalE t l=r)(h:Nds V p t)(g:Fxs V q l)(hg:G V) :
  Calls Tryz.prog 11 #[.slice p t.length c,.slice q l.length d] V (GiveRE V r):=by
 have hp:=li_parts hli;subst he;exact H.eval 10 (by decide) p c t q d l V hc (by omega) (li_sz hli hr) hd (by omega) (fun x hx=>by
  have k:=liX_iff.1 (hp.2.1 x hx);exact⟨k.1,k.2.1,by omega⟩) (li_dg hli) h g hg
def someF:List Fx.Fix:=[(([120],1),([49],[49])),(([120],2),([50],[49])),(([120],3),([54],[49]))]
def zeroT:List Nd:=[avN,Nd.mk 0 ([48],[49]) [] 0 0,plainN 9]
def pickT:List Nd:=[avN,Nd.mk 3 ([],[]) [120] 1 2,Nd.mk 0 ([57],[49]) [] 0 0,plainN 12]
theorem rg_c{t:List Nd}(h:t.all szB=true):∀x∈t,RgN x:=fun x hx=>(szN_c h x hx).2
theorem ke1(H:EvalC G){p q:Option Addr}{d:Nat}{V:World}(hd:3≤d)(h:Nds V p [avN])(g:Fxs V q someF)(hg:G V):Calls Tryz.prog 11 #[.slice p 1 1,.slice q 3 d] V (GiveRE V (([51],[49]),0)) :=
 eval_li H (t:=[avN]) (l:=someF) (Nat.le_refl _) hd (by decide) (rg_c (by decide)) (by decide +kernel) h g hg
theorem ke2(H:EvalC G){p q:Option Addr}{d:Nat}{V:World}(hd:2≤d)(h:Nds V p [avN])(g:Fxs V q (someF.drop 1))(hg:G V):Calls Tryz.prog 11 #[.slice p 1 1,.slice q 2 d] V (GiveRE V (([],[]),130)) :=
 eval_li H (t:=[avN]) (l:=someF.drop 1) (Nat.le_refl _) hd (by decide) (rg_c (by decide)) (by decide +kernel) h g hg
theorem ke3(H:EvalC G){p q:Option Addr}{c d:Nat}{V:World}(hc:3≤c)(hd:3≤d)(h:Nds V p zeroT)(g:Fxs V q someF)(hg:G V):Calls Tryz.prog 11 #[.slice p 3 c,.slice q 3 d] V (GiveRE V (([],[]),131)) :=
 eval_li H (t:=zeroT) (l:=someF) hc hd (by decide) (rg_c (by decide)) (by decide +kernel) h g hg
theorem ke4(H:EvalC G){q:Option Addr}{d:Nat}{V:World}(hd:3≤d)(g:Fxs V q someF)(hg:G V):Calls Tryz.prog 11 #[.slice none 0 0,.slice q 3 d] V (GiveRE V (([],[]),100)) :=
 eval_li H (t:=[]) (l:=someF) (Nat.le_refl _) hd (by decide) (rg_c (by decide)) (by decide +kernel) (RowsG.nil _ _) g hg
theorem ke5(H:EvalC G){p q:Option Addr}{c d:Nat}{V:World}(hc:4≤c)(hd:3≤d)(h:Nds V p pickT)(g:Fxs V q someF)(hg:G V):Calls Tryz.prog 11 #[.slice p 4 c,.slice q 3 d] V (GiveRE V (([50],[49]),0)) :=
 eval_li H (t:=pickT) (l:=someF) hc hd (by decide) (rg_c (by decide)) (by decide +kernel) h g hg
theorem ke6(H:EvalC G){p q:Option Addr}{V:World}(h:Nds V p [avN])(g:Fxs V q [(([],0),([],[]))])(hg:G V):Calls Tryz.prog 11 #[.slice p 1 1,.slice q 1 1] V (GiveRE V (([],[]),1)) :=
 eval_li H (t:=[avN]) (l:=[(([],0),([],[]))]) (Nat.le_refl _) (Nat.le_refl _) (by decide) (rg_c (by decide)) (by decide +kernel) h g hg
theorem ke7(H:EvalC G){p:Option Addr}{c:Nat}{V:World}(hc:4≤c)(h:Nds V p pickT)(hg:G V):Calls Tryz.prog 14 #[.slice p 4 c] V (fun e w'=>(∃p c,e=.returned (.slice p 3 c)∧3≤c∧True)∧Below V.heap.size V w') :=
 (H.needs p c pickT V hc (by decide) (szN_c (by decide)) h hg).mono fun e w' k=>by
  obtain⟨⟨p',c',he,hc',_⟩,hb⟩:=k;rw[List.length_map,show (Ev.needsK pickT).length=3 by decide +kernel]at he hc';exact⟨⟨p',c',he,hc',trivial⟩,hb⟩
end Go.Proofs.YtghioekjghmdaaaGreatDoor
