/- Own work. -/
import Derived.Test.YthgopcnagecbaaaGreatDoorGrwTM
set_option linter.unusedSimpArgs false
set_option linter.unusedVariables false
set_option maxRecDepth 100000
namespace Go.Proofs.YthgopcnagecbaaaGreatDoor
open Go.ChangeShapes Go.WideShapes Go.RowKit Go.Joins Go.Deep
section
variable {H : Type} {enc : TypeId × Value → H} {w : World} {base : Nat} {sp : Nat → Bool} {held : Bool}
theorem trod_ratw{n:Nat}{c0 c1:Value}{x:DataW H×List MemPlace}(h:DataW.trod enc Tryz.prog w base sp held n 23 [c0,c1]=some x) :
  ∃z:Key,c0=.string ⟨z.1.toArray⟩∧c1=.string ⟨z.2.toArray⟩∧z.1.length∈x.1.weights Tryz.prog 23∧z.2.length∈x.1.weights Tryz.prog 23:=by
 obtain⟨xs,m,_,rfl,hl,hlen,hf⟩:=DataW.trod_struct Tryz.underlying23 h
 match xs,hlen with
 | [y0,y1],_ =>
  have h0:DataW.trod enc Tryz.prog w base sp held m 9 (([c0,c1].drop 0).take (Tryz.prog.cellsOf 9))=some y0:=hf 0 _ rfl;have h1:DataW.trod enc Tryz.prog w base sp held m 9 (([c0,c1].drop 1).take (Tryz.prog.cellsOf 9))=some y1:=hf 1 _ rfl;rw[cellsStr]at h0 h1;obtain⟨s,e,hy,_⟩:=DataW.trod_string Tryz.underlying9 h0;obtain⟨t,f,hz,_⟩:=DataW.trod_string Tryz.underlying9 h1;refine⟨(s.data.toList,t.data.toList),by rw[(List.cons.inj e).1,str_list],by rw[(List.cons.inj f).1,str_list],?_,?_⟩
  ·simp only[DataW.weights,Tryz.underlying23];refine DataW.weights_mem_each (j:=0) (t:=9) (d:=.lit (.string s.data.toList)) rfl (by rw[List.map_cons,hy];rfl) _ (by simp[DataW.weights])
  ·simp only[DataW.weights,Tryz.underlying23];refine DataW.weights_mem_each (j:=1) (t:=9) (d:=.lit (.string t.data.toList)) rfl (by rw[List.map_cons,List.map_cons,hz];rfl) _ (by simp[DataW.weights])
theorem open_ratqw{v:Value}{d:DataW H}{p:List MemPlace}(hv:∃ (q:Option Addr) (l c:Nat),v=.slice q l c)(h:DataW.Trod enc Tryz.prog w 0 (fun _=>true) held 42 v d p)(hw:∀n∈d.weights Tryz.prog 42,n≤reachBytes) :
  ∃ (q:Option Addr) (c:Nat) (ls:List Key),v=.slice q ls.length c∧ls.length≤c∧ls.length≤4611686018427387904∧Kys w q ls∧∀x∈ls,x.1.length≤140737488355328∧x.2.length≤140737488355328:=by
 obtain⟨q0,l0,c0,rfl⟩:=hv;obtain⟨fuel,hf⟩:=h;have hf:DataW.trod enc Tryz.prog w 0 (fun _=>true) held fuel 42 [.slice q0 l0 c0]=some (d,p):=hf;rcases open_slice Tryz.underlying42 hf with ⟨hcs,hx⟩|⟨a,len,cap,m,n,D,Pl,hcs,_,hl,hm,hmm,hx,hel⟩
 ·simp only[List.cons.injEq,Value.slice.injEq,and_true]at hcs;obtain⟨rfl,rfl,rfl⟩:=hcs;exact⟨none,0,[],rfl,Nat.le_refl _,Nat.zero_le _,RowsG.nil _ _,fun x hx=>by cases hx⟩
 ·simp only[List.cons.injEq,Value.slice.injEq,and_true]at hcs;obtain⟨rfl,rfl,rfl⟩:=hcs;simp only[if_true]at hmm;subst hmm;rw[show Tryz.prog.cellsOf _=2 from cellsRatq]at hel;have hone:∀i,i<l0→∃z:Key,w.cell? (a.add (i*2))=some (.string ⟨z.1.toArray⟩)∧w.cell? ((a.add (i*2)).add 1)=some (.string ⟨z.2.toArray⟩)∧z.1.length∈(D i).weights Tryz.prog 23∧z.2.length∈(D i).weights Tryz.prog 23:=fun i hi=>by
   obtain⟨cs,h1,h2⟩:=hel i (by omega);obtain⟨_,hlen,hc⟩:=World.cells?_some h1
   match cs,hlen with
   | [x0,x1],_ =>
    obtain⟨z,rfl,rfl,w0,w1⟩:=trod_ratw h2;exact⟨z,hc 0 (by decide),hc 1 (by decide),w0,w1⟩
  obtain⟨L,hL⟩:=choose_lt (α:=Key) hone;have hlen:((List.range l0).map L).length=l0:=by rw[List.length_map,List.length_range]
  have hat:∀j u,((List.range l0).map L)[j]?=some u→j<l0∧u=L j:=fun j u hx2=>by
   have hj:j<l0:=by
    have:=(List.getElem?_eq_some_iff.1 hx2).1;rw[hlen]at this;exact this
   rw[List.getElem?_map,List.getElem?_range hj]at hx2;exact⟨hj,(Option.some.inj hx2).symm⟩
  obtain⟨hd,_⟩:=Prod.mk.inj hx;refine⟨some a,_,(List.range l0).map L,by rw[hlen],by rw[hlen];exact hl,?_,fun j x hx2=>?_,fun u hu=>?_⟩
  ·rw[hlen];have k:=hw ((((List.range l0).map D).length+_)*Tryz.prog.bytesOf 23) (by rw[hd];simp only[DataW.weights,Tryz.underlying42];exact List.mem_cons_self ..);rw[bytesRatq,List.length_map,List.length_range]at k;simp only[reachBytes]at k;omega
  ·obtain⟨hj,rfl⟩:=hat j x hx2;obtain⟨g0,g1,_,_⟩:=hL j hj;obtain⟨k0,_⟩:=hL 0 (by omega);have hs:a.spot=none:=by
    have:=World.cell?_spot k0
    simpa [Addr.add] using this
   obtain⟨b,o,s⟩:=a;obtain rfl:s=none:=hs;rw[Addr.add_lit]at g0;rw[Addr.add_lit,Addr.add_lit]at g1;refine⟨b,o,rfl,World.block_lt_of_cell? w ⟨b,o+j*2,none⟩ g0,fun i v hv=>?_⟩
   match i,hv with
   | 0,hv=>obtain rfl:=Option.some.inj hv;exact g0
   | 1,hv=>obtain rfl:=Option.some.inj hv;exact g1
  ·obtain⟨j,hx2⟩:=List.getElem?_of_mem hu;obtain⟨hj,rfl⟩:=hat j u hx2;have hin:∀n∈(D j).weights Tryz.prog 23,n≤reachBytes:=fun n hn=>hw n (by
    rw[hd];simp only[DataW.weights,Tryz.underlying42];refine List.mem_cons_of_mem _ (List.mem_append_left _ (weight_all (d:=D j) ?_ hn));exact List.mem_map.2 ⟨j,List.mem_range.2 hj,rfl⟩)
   have k0:=hin _ (hL j hj).2.2.1;have k1:=hin _ (hL j hj).2.2.2;simp only[reachBytes]at k0 k1;exact⟨by omega,by omega⟩
end
end Go.Proofs.YthgopcnagecbaaaGreatDoor
namespace Go.Proofs.YthgopcnagecbaaaGreatDoor
open Go.RowKit
open Pk (Part Pack keepsP)
end Go.Proofs.YthgopcnagecbaaaGreatDoor
set_option maxHeartbeats 8000000
set_option maxRecDepth 100000
namespace Go.Proofs.YthgopcnagecbaaaGreatDoor
open Go.RowKit
open Pk (Part Pack mayP valueP keepsP ofP)
theorem rowsLitK{α:Type}{enc:α→List Value}{k:Nat}(hk:∀x,(enc x).length=k)(w:World)(l:List α)(c:Array Value)(t:TypeId)(hc:c.toList=l.flatMap enc):RowsG enc k (w.alloc (.cells c t)) (some ⟨w.heap.size,0,none⟩) l:=fun j x hx=>by
 refine⟨w.heap.size,0,rfl,by simp,fun i v hv=>?_⟩;rw[Nat.zero_add];exact(cell_new w _ _ _ rfl _).trans (by rw[←Array.getElem?_toList,hc];exact flat_get hk hx hv)
def GiveW(w:World)(v:Value)(e:Ending)(w':World):Prop:=e=.returned v∧Below w.heap.size w w'
def spinA:Ac.Actn:=⟨[112,49],3,[120],[121],([49],[50]),([48],[49]),0,0,0⟩
def mergA:Ac.Actn:=⟨[112,49],4,[120],[121],([49],[50]),([50],[49]),0,0,0⟩
def spinP:Pack:=⟨[([120],([49],[49])),([121],([49],[50]))],([48],[49])⟩
def mergP:Pack:=⟨[([121],([49],[50]))],([50],[49])⟩
def oneF:List Fx.Fix:=[(([120],3),([56],[49]))]
def twoF:List Fx.Fix:=[(([120],3),([56],[49])),(([121],3),([52],[49]))]
theorem of_spin:ofP spinA=spinP:=by decide +kernel
theorem of_merg:ofP mergA=mergP:=by decide +kernel
theorem val_two:valueP spinP twoF 3=some ([49,48],[49]):=by decide +kernel
theorem val_one:valueP spinP oneF 3=none:=by decide +kernel
theorem keep_1:keepsP spinP [120]=true:=by decide +kernel
theorem keep_2:keepsP spinP [121]=false:=by decide +kernel
theorem keep_3:keepsP mergP [120]=false:=by decide +kernel
theorem may_1:mayP spinP=true:=by decide +kernel
theorem may_0:mayP ⟨[],([],[])⟩=false:=by decide +kernel
theorem pk_o{n:Int}{l:List UInt8}(h0:-9223372036854775808≤n)(h1:n≤9223372036854775807)(hl:wd n=l)(w:World):Calls Tryz.prog 23 #[.int .i64 n] w (GiveW w (.agg #[.string ⟨l.toArray⟩,.string ⟨#[49]⟩])):=by
 have h:=rqof_any n w h0 h1;rw[hl]at h;exact h
theorem pk_12(w:World):Calls Tryz.prog 62 #[.int .i64 1,.int .i64 2] w (GiveW w (.agg #[.string ⟨#[49]⟩,.string ⟨#[50]⟩])):=by
 have h:=rqone_any 1 2 w (by decide) (by decide) (by decide) (by decide);rw[one_c (q:=([49],[50])) (by decide +kernel)]at h;exact h
theorem spin_any(w:World):Calls Tryz.prog 28 #[] w (GiveW w (.agg #[.string ⟨#[112,49]⟩,.int .i64 3,.string ⟨#[120]⟩,.string ⟨#[121]⟩,.string ⟨#[49]⟩,.string ⟨#[50]⟩,.string ⟨#[48]⟩,.string ⟨#[49]⟩,.int .i64 0,.int .i64 0,.int .i64 0])):=by
 have C0:=zh (fun V=>pk_o (n:=0) (l:=[48]) (by decide) (by decide) (by decide +kernel) V);go_enter Tryz.func28,Tryz.ntmps28;go_wp2_with fail;have hX:=blk_new w #[.string ⟨#[]⟩,.int .i64 0,.string ⟨#[]⟩,.string ⟨#[]⟩,.string ⟨#[]⟩,.string ⟨#[]⟩,.string ⟨#[]⟩,.string ⟨#[]⟩,.int .i64 0,.int .i64 0,.int .i64 0] 25;have bX:Below w.heap.size w (w.alloc (.cells #[.string ⟨#[]⟩,.int .i64 0,.string ⟨#[]⟩,.string ⟨#[]⟩,.string ⟨#[]⟩,.string ⟨#[]⟩,.string ⟨#[]⟩,.string ⟨#[]⟩,.int .i64 0,.int .i64 0,.int .i64 0] 25)):=Below.alloc (Below.refl _ _) (Nat.le_refl _) _;refine(pk_12 _).mono ?_;rintro e1 w1 ⟨rfl,b⟩;replace hX:=hX.below b;have b1:=Below.more bX b;clear b bX;go_wp2_with fail;refine(C0.out _).mono ?_;rintro e2 w2 ⟨rfl,b⟩;replace hX:=hX.below b;have b2:=Below.more b1 b;clear b b1 C0;have y0:=hX.c 0 _ rfl;have y1:=hX.c 1 _ rfl;have y2:=hX.c 2 _ rfl;have y3:=hX.c 3 _ rfl;have y4:=hX.c 4 _ rfl;have y5:=hX.c 5 _ rfl;have y6:=hX.c 6 _ rfl;have y7:=hX.c 7 _ rfl;have y8:=hX.c 8 _ rfl;have y9:=hX.c 9 _ rfl;have y10:=hX.c 10 _ rfl
 have z0:=hX.f 0 (by simp);have z1:=hX.f 1 (by simp);have z2:=hX.f 2 (by simp);have z3:=hX.f 3 (by simp);have z4:=hX.f 4 (by simp);have z5:=hX.f 5 (by simp);have z6:=hX.f 6 (by simp);have z7:=hX.f 7 (by simp);have z8:=hX.f 8 (by simp);have z9:=hX.f 9 (by simp);have z10:=hX.f 10 (by simp)
 clear hX;go_wp2_with fail;refine bodyPost_ret (v:=.agg #[.string ⟨#[112,49]⟩,.int .i64 3,.string ⟨#[120]⟩,.string ⟨#[121]⟩,.string ⟨#[49]⟩,.string ⟨#[50]⟩,.string ⟨#[48]⟩,.string ⟨#[49]⟩,.int .i64 0,.int .i64 0,.int .i64 0]) (by simp[results,Tryz.results28,go_sem, *]) rfl ⟨rfl,?_⟩;exact Below.setCell (Below.setCell (Below.setCell (Below.setCell (Below.setCell (Below.setCell (Below.setCell (Below.setCell (Below.setCell (Below.setCell (Below.setCell (b2) (Nat.le_refl _) _) (Nat.le_refl _) _) (Nat.le_refl _) _) (Nat.le_refl _) _) (Nat.le_refl _) _) (Nat.le_refl _) _) (Nat.le_refl _) _) (Nat.le_refl _) _) (Nat.le_refl _) _) (Nat.le_refl _) _) (Nat.le_refl _) _
end Go.Proofs.YthgopcnagecbaaaGreatDoor
