/- Own work. -/
import Derived.Test.YtmllklfjngapiaaGreatDoorAllRefTd
import Derived.Test.YtmllklfjngapiaaGreatDoorOpenAM
import Derived.Lib.Repeat
import Derived.Lib.TrimByte
import Derived.Handed
import Derived.Lay
import Derived.Shelf.Vars
set_option linter.unusedSimpArgs false
set_option linter.unusedVariables false
namespace Go.Proofs.YtmllklfjngapiaaGreatDoor
open Go.RowKit
open Tm (Nd Tr arN arI formB joinT printT checkT depthT argsT plainN pxN nmN thN avN loN someT bothT)
variable {G : World → Prop}
def SzN(x:Nd):Prop:=(x.num.1.length≤100∧x.num.2.length≤100∧x.ast.length≤100)∧(-9223372036854775808≤x.op∧x.op≤9223372036854775807)∧(-9223372036854775808≤x.a∧x.a≤9223372036854775807)∧(-9223372036854775808≤x.b∧x.b≤9223372036854775807)
theorem small_len{t:List Nd}(h:smallT t=true):t.length≤200:=by
 unfold smallT at h;simp only[Bool.and_eq_true,decide_eq_true_eq]at h;exact h.2
def RgN(x:Nd):Prop:=(-9223372036854775808≤x.op∧x.op≤9223372036854775807)∧(-9223372036854775808≤x.a∧x.a≤9223372036854775807)∧(-9223372036854775808≤x.b∧x.b≤9223372036854775807)
theorem small_sz{t:List Nd}(h:smallT t=true)(hr:∀x∈t,RgN x):∀x∈t,SzN x:=fun x hx=>by
 unfold smallT at h;simp only[Bool.and_eq_true,decide_eq_true_eq,List.all_eq_true]at h;have k:=h.1 x hx;unfold smallN at k;simp only[Bool.and_eq_true,decide_eq_true_eq]at k;exact⟨⟨k.1.1,k.1.2,k.2⟩,hr x hx⟩
theorem rowsLit{α:Type}{enc:α→List Value}{k:Nat}(hk:∀x,(enc x).length=k)(w:World)(l:List α)(c:Array Value)(t:TypeId)(hc:c.toList=l.flatMap enc):RowsG enc k (w.alloc (.cells c t)) (some ⟨w.heap.size,0,none⟩) l:=fun j x hx =>
 ⟨_,_,rfl,by simp,fun i v hv=>by
  rw[Nat.zero_add];exact(cell_new w _ _ _ rfl (j*k+i)).trans (by rw[←Array.getElem?_toList,hc];exact flat_get hk hx hv)⟩
end Go.Proofs.YtmllklfjngapiaaGreatDoor
set_option maxRecDepth 100000
namespace Go.Proofs.YtmllklfjngapiaaGreatDoor
open Go.ChangeShapes Go.WideShapes Go.RowKit Go.Joins Go.Deep
open Tm (Nd)
section
variable {H : Type} {enc : TypeId × Value → H} {w : World} {base : Nat} {sp : Nat → Bool} {held : Bool}
theorem cellsNode:Tryz.prog.cellsOf 40=6:=by kernel_rfl
theorem bytesNode:Tryz.prog.bytesOf 40=72:=by kernel_rfl
theorem one_intR{n:Nat}{c:Value}{y:DataW H×List MemPlace}(h:DataW.trod enc Tryz.prog w base sp held n 3 [c]=some y):∃k:Int,c=.int .i64 k∧-9223372036854775808≤k∧k≤9223372036854775807:=by
 obtain⟨k,e,_,hw⟩:=DataW.trod_int Tryz.underlying3 h;have g:-9223372036854775808≤k∧k≤9223372036854775807:=by simpa [Lit.wf,IntKind.min,IntKind.max,IntKind.signed,IntKind.bits] using hw
 exact⟨k,(List.cons.inj e).1,g⟩
theorem trod_node{n:Nat}{c0 c1 c2 c3 c4 c5:Value}{x:DataW H×List MemPlace}(h:DataW.trod enc Tryz.prog w base sp held n 40 [c0,c1,c2,c3,c4,c5]=some x) :
  ∃z:Nd,RgN z∧c0=.int .i64 z.op∧c1=.string ⟨z.num.1.toArray⟩∧c2=.string ⟨z.num.2.toArray⟩∧c3=.string ⟨z.ast.toArray⟩∧c4=.int .i64 z.a∧c5=.int .i64 z.b:=by
 obtain⟨xs,m,_,rfl,hl,hlen,hf⟩:=DataW.trod_struct Tryz.underlying40 h
 match xs,hlen with
 | [y0,y1,y2,y3,y4],_ =>
  have h0:DataW.trod enc Tryz.prog w base sp held m 3 (([c0,c1,c2,c3,c4,c5].drop 0).take (Tryz.prog.cellsOf 3))=some y0:=hf 0 _ rfl;have h1:DataW.trod enc Tryz.prog w base sp held m 37 (([c0,c1,c2,c3,c4,c5].drop 1).take (Tryz.prog.cellsOf 37))=some y1:=hf 1 _ rfl;have h2:DataW.trod enc Tryz.prog w base sp held m 9 (([c0,c1,c2,c3,c4,c5].drop 3).take (Tryz.prog.cellsOf 9))=some y2:=hf 2 _ rfl;have h3:DataW.trod enc Tryz.prog w base sp held m 3 (([c0,c1,c2,c3,c4,c5].drop 4).take (Tryz.prog.cellsOf 3))=some y3:=hf 3 _ rfl;have h4:DataW.trod enc Tryz.prog w base sp held m 3 (([c0,c1,c2,c3,c4,c5].drop 5).take (Tryz.prog.cellsOf 3))=some y4:=hf 4 _ rfl;rw[cellsInt]at h0 h3 h4;rw[cellsStr]at h2;rw[cellsRat]at h1;obtain⟨a0,rfl,r0⟩:=one_intR h0;obtain⟨a1,rfl,rfl⟩:=one_rat h1;obtain⟨a2,rfl⟩:=one_str h2;obtain⟨a3,rfl,r3⟩:=one_intR h3;obtain⟨a4,rfl,r4⟩:=one_intR h4;exact⟨Nd.mk a0 a1 a2 a3 a4,⟨r0,r3,r4⟩,rfl,rfl,rfl,rfl,rfl,rfl⟩
theorem open_term{v:Value}{d:DataW H}{p:List MemPlace}(hv:∃ (q:Option Addr) (l c:Nat),v=.slice q l c)(h:DataW.Trod enc Tryz.prog w 0 (fun _=>true) held 24 v d p) :
  ∃ (q:Option Addr) (c:Nat) (t:List Nd),v=.slice q t.length c∧t.length≤c∧Nds w q t∧Hid (∀x∈t,RgN x)∧(d=.nil∧t=[]∨∃es rest,d=.slice es rest∧es.length=t.length):=by
 obtain⟨q0,l0,c0,rfl⟩:=hv;obtain⟨fuel,hf⟩:=h;have hf:DataW.trod enc Tryz.prog w 0 (fun _=>true) held fuel 24 [.slice q0 l0 c0]=some (d,p):=hf;rcases open_slice Tryz.underlying24 hf with ⟨hcs,hx⟩|⟨a,len,cap,m,n,D,Pl,hcs,_,hl,hm,hmm,hx,hel⟩
 ·simp only[List.cons.injEq,Value.slice.injEq,and_true]at hcs;obtain⟨rfl,rfl,rfl⟩:=hcs;exact⟨none,0,[],rfl,Nat.le_refl _,RowsG.nil _ _,zh (fun x h=>by cases h),.inl ⟨(Prod.mk.inj hx).1,rfl⟩⟩
 ·simp only[List.cons.injEq,Value.slice.injEq,and_true]at hcs;obtain⟨rfl,rfl,rfl⟩:=hcs;simp only[if_true]at hmm;subst hmm;rw[show Tryz.prog.cellsOf _=6 from cellsNode]at hel;have hline:∀i,i<l0→∃z:Nd,RgN z∧w.cell? (a.add (i*6))=some (.int .i64 z.op)∧w.cell? ((a.add (i*6)).add 1)=some (.string ⟨z.num.1.toArray⟩)∧w.cell? ((a.add (i*6)).add 2)=some (.string ⟨z.num.2.toArray⟩)∧w.cell? ((a.add (i*6)).add 3)=some (.string ⟨z.ast.toArray⟩)∧w.cell? ((a.add (i*6)).add 4)=some (.int .i64 z.a)∧w.cell? ((a.add (i*6)).add 5)=some (.int .i64 z.b):=fun i hi=>by
   obtain⟨cs,h1,h2⟩:=hel i (by omega);obtain⟨_,hlen,hc⟩:=World.cells?_some h1
   match cs,hlen with
   | [x0,x1,x2,x3,x4,x5],_ =>
    obtain⟨z,hz,rfl,rfl,rfl,rfl,rfl,rfl⟩:=trod_node h2;exact⟨z,hz,hc 0 (by decide),hc 1 (by decide),hc 2 (by decide),hc 3 (by decide),hc 4 (by decide),hc 5 (by decide)⟩
  obtain⟨L,hL⟩:=@choose_lt Nd ⟨Nd.mk 0 ([],[]) [] 0 0⟩ _ _ hline;have hlen:((List.range l0).map L).length=l0:=by rw[List.length_map,List.length_range]
  refine⟨some a,_,(List.range l0).map L,by rw[hlen],by rw[hlen];exact hl,fun j x hx2=>?_,zh fun x hx2=>?_,.inr ⟨_,_,(Prod.mk.inj hx).1,by rw[List.length_map,List.length_map]⟩⟩
  ·have hj:j<l0:=by
    have:=(List.getElem?_eq_some_iff.1 hx2).1;rw[hlen]at this;exact this
   have hx3:x=L j:=by
    rw[List.getElem?_map,List.getElem?_range hj]at hx2;exact(Option.some.inj hx2).symm
   subst hx3;obtain⟨_,g0,g1,g2,g3,g4,g5⟩:=hL j hj;obtain⟨_,k0,_⟩:=hL 0 (by omega);have hs:a.spot=none:=by
    have:=World.cell?_spot k0
    simpa [Addr.add] using this
   obtain⟨b,o,s⟩:=a;obtain rfl:s=none:=hs;rw[Addr.add_lit]at g0;rw[Addr.add_lit,Addr.add_lit]at g1 g2 g3 g4 g5;refine⟨b,o,rfl,World.block_lt_of_cell? w ⟨b,o+j*6,none⟩ g0,fun i v hv=>?_⟩
   match i,hv with
   | 0,hv=>cases hv;exact g0
   | 1,hv=>cases hv;exact g1
   | 2,hv=>cases hv;exact g2
   | 3,hv=>cases hv;exact g3
   | 4,hv=>cases hv;exact g4
   | 5,hv=>cases hv;exact g5
  ·obtain⟨i,hi,rfl⟩:=List.mem_map.1 hx2;exact(hL i (List.mem_range.1 hi)).1
end
end Go.Proofs.YtmllklfjngapiaaGreatDoor
set_option maxHeartbeats 1000000
set_option maxRecDepth 100000
namespace Go.Proofs.YtmllklfjngapiaaGreatDoor
open Go.RowKit
structure GoodD(w:World):Prop where
 max:∃m,w.cell? ⟨4,0,none⟩=some (.int .i64 m)
 p0:w.cell? ⟨5,0,none⟩=some (.string ⟨#[53,51,54,56,55,48,57,49,50]⟩)
 p1:w.cell? ⟨5,1,none⟩=some (.int .i64 29)
 p2:w.cell? ⟨5,2,none⟩=some (.string ⟨#[50]⟩)
 p3:w.cell? ⟨5,3,none⟩=some (.int .i64 1)
 p4:w.cell? ⟨5,4,none⟩=some (.string ⟨#[50,52,52,49,52,48,54,50,53]⟩)
 p5:w.cell? ⟨5,5,none⟩=some (.int .i64 12)
 p6:w.cell? ⟨5,6,none⟩=some (.string ⟨#[53]⟩)
 p7:w.cell? ⟨5,7,none⟩=some (.int .i64 1)
 lm:4<w.heap.size
 lp:5<w.heap.size
theorem GoodD.below{w w':World}(h:GoodD w)(hb:Below w.heap.size w w'):GoodD w' :=
 ⟨h.max.imp fun _ e=>(hb.cell (p:=⟨4,0,none⟩) h.lm).trans e,
  (hb.cell (p:=⟨5,0,none⟩) h.lp).trans h.p0,(hb.cell (p:=⟨5,1,none⟩) h.lp).trans h.p1,
  (hb.cell (p:=⟨5,2,none⟩) h.lp).trans h.p2,(hb.cell (p:=⟨5,3,none⟩) h.lp).trans h.p3,
  (hb.cell (p:=⟨5,4,none⟩) h.lp).trans h.p4,(hb.cell (p:=⟨5,5,none⟩) h.lp).trans h.p5,
  (hb.cell (p:=⟨5,6,none⟩) h.lp).trans h.p6,(hb.cell (p:=⟨5,7,none⟩) h.lp).trans h.p7,
  Nat.lt_of_lt_of_le h.lm hb.size,Nat.lt_of_lt_of_le h.lp hb.size⟩
theorem all_head{l:List UInt8}{c:UInt8}{r:List UInt8}(h:l.dropWhile (·==48)=c::r):∃k,l=List.replicate k 48++c::r:=by
 induction l with
 | nil=>cases h
 | cons a l ih =>
  by_cases e:a=48
  ·rw[List.dropWhile_cons_of_pos (by simp[e])]at h;obtain⟨k,hk⟩:=ih h;exact⟨k+1,by rw[hk,e];rfl⟩
  ·rw[List.dropWhile_cons_of_neg (by simpa using e)]at h;exact⟨0,h⟩
theorem drop_nil{l:List UInt8}(h:l.dropWhile (·==48)=[]):l.all isDig=true:=by
 induction l with
 | nil=>rfl
 | cons a l ih =>
  by_cases e:a=48
  ·rw[List.dropWhile_cons_of_pos (by simp[e])]at h;rw[List.all_cons,ih h,e];rfl
  ·rw[List.dropWhile_cons_of_neg (by simpa using e)]at h
   cases h
theorem drop_is{l:List UInt8}(h:digs l=false)(h0:l≠[]):isNat (l.dropWhile (·==48))=false∧l.dropWhile (·==48)≠[]:=by
 have hn:l.dropWhile (·==48)≠[]:=fun e=>by
  rw[digs_of (drop_nil e) h0]at h;cases h
 refine⟨?_,hn⟩
 cases e:isNat (l.dropWhile (·==48)) with
 | false=>rfl
 | true =>
  exfalso;obtain⟨c,r,hc⟩:=List.exists_cons_of_ne_nil hn;obtain⟨k,hk⟩:=all_head hc;have ha:=isNat_all e;rw[hc]at ha;have:l.all isDig=true:=by
   rw[hk,List.all_append,ha,Bool.and_true,List.all_eq_true];intro x hx;rw[(List.mem_replicate.1 hx).2];decide
  rw[digs_of this h0]at h;cases h
theorem zeros_nil{l:List UInt8}(ha:l.all isDig=true)(hv:valS l=0):l.dropWhile (·==48)=[]:=by
 cases e:l.dropWhile (·==48) with
 | nil=>rfl
 | cons c r =>
  exfalso;have h1:=valS_dropZeros l;have h2:=head_dropZeros l;have h3:=all_dropZeros ha;rw[e]at h1 h2 h3;rw[valS_cons]at h1;rw[List.all_cons,Bool.and_eq_true]at h3;have h4:48≤c.toNat:=by have:=h3.1;unfold isDig at this;rw[Bool.and_eq_true,decide_eq_true_eq]at this;exact this.1
  have h5:c.toNat≠48:=fun k=>h2 (by rw[show c=48 from UInt8.toNat_inj.1 k];rfl);have h6:0<(c.toNat-48)*10 ^ r.length:=Nat.mul_pos (by omega) (Nat.pow_pos (by decide));omega
theorem natural_any(s:ByteArray)(w:World)(hs:s.size≤1000000) :
  Calls Tryz.prog 135 #[.string s] w fun e w'=>e=.returned (.string ⟨(natD s.data.toList).toArray⟩)∧w=w':=by
 have c0:∀w,Calls Tryz.prog 173 #[.string s,.string ⟨#[48]⟩] w fun e w'=>e=.returned (.string ⟨(s.data.toList.dropWhile (·==48)).toArray⟩)∧w'=w:=fun w=>Tryz.strings_TrimLeft_one s 48 (by decide) w;have hsz:s.data.toList.length=s.size:=rfl;by_cases h0:s.data.toList=[]
 ·have e0:=eqB_true h0;have hr:natD s.data.toList=[]:=by rw[h0];rfl
  rw[hr];clear c0 h0 hr hsz;go_enter Tryz.func135,Tryz.ntmps135;go_wp2_with fail;go_ret;exact⟨rfl,rfl⟩
 ·have e0:=eqB_false h0
  cases hd:digs s.data.toList with
  | false =>
   obtain⟨hn,hne⟩:=drop_is hd h0;rw[natD_no hd];have c1:∀w,Calls Tryz.prog 146 #[.string ⟨(s.data.toList.dropWhile (·==48)).toArray⟩] w fun e w'=>e=.returned (.bool false)∧w=w':=fun w=>hn▸may_any ⟨(s.data.toList.dropWhile (·==48)).toArray⟩ w (by rw[size_of];have:=(List.dropWhile_suffix (·==48) (l:=s.data.toList)).length_le;omega);have e1:(s.data.toList.dropWhile (·==48) == [])=false:=beq_false_of_ne hne;generalize s.data.toList.dropWhile (·==48)=m at *;have C0:=zh c0;have C1:=zh c1
   clear c0 c1 hn hne hd h0 hsz;go_enter Tryz.func135,Tryz.ntmps135;go_wp2_with fail;refine(C0.out _).mono ?_;rintro e w' ⟨rfl,rfl⟩;go_wp2_with fail;refine(C1.out _).mono ?_;rintro e w' ⟨rfl,rfl⟩;go_wp2_with fail;go_ret;exact⟨rfl,rfl⟩
  | true =>
   rw[natD_yes hd];obtain⟨ha,_⟩:=digs_parts hd;by_cases hv:valS s.data.toList=0
   ·rw[zeros_nil ha hv]at c0;rw[hv,dig_nil];have C0:=zh c0;clear c0 hv hd ha h0 hsz;go_enter Tryz.func135,Tryz.ntmps135;go_wp2_with fail;refine(C0.out _).mono ?_;rintro e w' ⟨rfl,rfl⟩;go_wp2_with fail;go_ret;exact⟨rfl,rfl⟩
   ·rw[dropZeros_dig ha (by omega)]at c0;have hlen:(dig (valS s.data.toList)).length≤s.data.toList.length:=by have h:=natD_len (l:=s.data.toList);rwa[natD_yes hd]at h
    have c1:∀w,Calls Tryz.prog 146 #[.string ⟨(dig (valS s.data.toList)).toArray⟩] w fun e w'=>e=.returned (.bool true)∧w=w':=fun w=>by
     have c:=may_any ⟨(dig (valS s.data.toList)).toArray⟩ w (by rw[size_of];omega);have e:isNat (⟨(dig (valS s.data.toList)).toArray⟩:ByteArray).data.toList=true:=isNat_dig _;rw[e]at c;exact c
    have e1:(dig (valS s.data.toList) == [])=false:=beq_false_of_ne (dig_ne _);generalize dig (valS s.data.toList)=m at *;have C0:=zh c0;have C1:=zh c1
    clear c0 c1 hd h0 hsz hlen ha hv;go_enter Tryz.func135,Tryz.ntmps135;go_wp2_with fail;refine(C0.out _).mono ?_;rintro e w' ⟨rfl,rfl⟩;go_wp2_with fail;refine(C1.out _).mono ?_;rintro e w' ⟨rfl,rfl⟩;go_wp2_with fail;go_ret;exact⟨rfl,rfl⟩
theorem repeat_any(k:Nat)(w:World)(hk:k≤4000000) :
  Calls Tryz.prog 136 #[.string ⟨#[48]⟩,.int .i64 (k:Int)] w (GiveS w (List.replicate k 48)):=by
 have c:=Tryz.strings_Repeat ⟨#[48]⟩ k w (by omega) (by show 1*k≤_;omega);have e:Lib.repeatL (⟨#[48]⟩:ByteArray).data.toList k=List.replicate k 48:=by
  have h:=Lib.repeatL_replicate 48 1 k;rw[Nat.mul_one]at h;exact h
 rw[e]at c;exact c
theorem pad_text2(k:Nat)(l:List UInt8)(S:ByteArray)(hS:S.data.toList=l):((⟨(List.replicate (k+1-l.length) 48).toArray⟩:ByteArray)++S).data.toList=padD (k+1) l:=by
 rw[ba_append,hS];rfl
theorem pt_text2{S:ByteArray}{k M:Nat}{l:List UInt8}(hs:S.data.toList=l)(hm:S.size=M+k) :
  S.extract 0 M++(⟨#[46]⟩:ByteArray)++S.extract M S.size=⟨(ptD k l).toArray⟩:=by
 have h:=pt_text (S:=S) (sg:=⟨#[]⟩) (b:=false) hs hm rfl;have e:(⟨#[]⟩:ByteArray)++S.extract 0 M=S.extract 0 M:=bytes_eq (by rw[ba_append];rfl);rw[e]at h;exact h
theorem pointed_any(s:ByteArray)(k:Nat)(w:World)(hs:s.size≤1000000)(hk:k≤1000000) :
  Calls Tryz.prog 191 #[.string s,.int .i64 (k:Int)] w (GiveS w (bodyD k s.data.toList)):=by
 by_cases h0:k=0
 ·subst h0;have hr:bodyD 0 s.data.toList=s.data.toList:=rfl;rw[hr];go_enter Tryz.func191,Tryz.ntmps191;go_wp2_with fail;go_ret;exact⟨ret_str (same_text s),Below.refl _ _⟩
 ·have hr:bodyD k s.data.toList=ptD k (padD (k+1) s.data.toList):=by unfold bodyD;rw[if_neg h0]
  rw[hr];have hk':¬(k:Int)=0:=by omega
  have hmx:max (0:Int) ((k:Int)+1-(s.size:Int))=((k+1-s.size:Nat):Int):=by omega
  have c0:∀w,Calls Tryz.prog 136 #[.string ⟨#[48]⟩,.int .i64 ((k+1-s.size:Nat):Int)] w fun e w'=>e=.returned (.string ⟨(List.replicate (k+1-s.size) 48).toArray⟩)∧Below w.heap.size w w':=fun w=>repeat_any _ w (by omega);have hp:((⟨(List.replicate (k+1-s.size) 48).toArray⟩:ByteArray)++s).data.toList=padD (k+1) s.data.toList:=pad_text2 k s.data.toList s rfl;have hz:(⟨(List.replicate (k+1-s.size) 48).toArray⟩:ByteArray).size=k+1-s.size:=by rw[size_of,List.length_replicate]
  generalize (⟨(List.replicate (k+1-s.size) 48).toArray⟩:ByteArray)=Z at *;obtain⟨M,hm⟩:∃M,k+1-s.size+s.size=M+k:=⟨k+1-s.size+s.size-k,by omega⟩;have hzs:(Z++s).size=M+k:=by rw[ByteArray.size_append,hz,hm]
  have hr2:=pt_text2 (k:=k) hp hzs;have hMb:M≤2000000:=by omega
  have hmi:(Z.size:Int)+(s.size:Int)-(k:Int)=(M:Int):=by omega
  have hx2:¬9223372036854775807<Z.size+s.size:=by omega
  have hx3:Z.size+s.size=M+k:=by omega
  have C0:=zh c0;have HR:=zh hr2
  clear c0 hr2 hp hr h0 hz hm;go_enter Tryz.func191,Tryz.ntmps191;go_wp2_with fail;refine(C0.out _).mono ?_;rintro e w1 ⟨rfl,b⟩;clear hmx;go_wp2_with fail;clear hx3 hmi hx2;generalize Z++s=T at *
  go_quiet (fail)
  go_wp2_with fail;go_ret;exact⟨ret_str (by have:=HR.out;rw[hzs]at this;exact this),Below.drewN (by with_reducible assumption) _⟩
end Go.Proofs.YtmllklfjngapiaaGreatDoor
set_option maxRecDepth 100000
namespace Go.Proofs.YtmllklfjngapiaaGreatDoor
open Go.ChangeShapes Go.WideShapes Go.RowKit Go.Joins
section
variable {H : Type} {enc : TypeId × Value → H}
end
theorem gPow : Tryz.prog.globalNamed "debenture/decimal.powers" = some 5 := by kernel_rfl
theorem gPowType:(Tryz.prog.globals[5]?).map (·.type)=some 206:=by kernel_rfl
theorem cellsPow:Tryz.prog.cellsOf 206=8:=by kernel_rfl
theorem cellsPair:Tryz.prog.cellsOf 205=2:=by kernel_rfl
theorem cellsIntD:Tryz.prog.cellsOf 3=1:=by kernel_rfl
theorem pair_cells{W:World}{fuel:Nat}{a b:Value}{l:List UInt8}{z:Int}{x:DataW Unit×List MemPlace}(h:DataW.trod (fun _=>()) Tryz.prog W 0 (fun _=>true) false fuel 205 [a,b]=some x)(hx:x.1=.agg [.lit (.string l),.lit (.int .i64 z)]) :
  a=.string ⟨l.toArray⟩∧b=.int .i64 z:=by
 obtain⟨y0,y1,n,rfl,_,h0,h1⟩:=trod_struct2 Tryz.underlying205 h;rw[show Tryz.prog.cellsOf _=1 from cellsStr]at h0;rw[show Tryz.prog.cellsOf _=1 from cellsIntD]at h1;obtain⟨s,e0,rfl,_⟩:=DataW.trod_string Tryz.underlying9 h0;obtain⟨m,e1,rfl,_⟩:=DataW.trod_int Tryz.underlying3 h1;have f0:[a]=[Value.string s]:=e0;have f1:[b]=[Value.int .i64 m]:=e1;simp only[DataW.agg.injEq,List.cons.injEq,DataW.lit.injEq,Lit.string.injEq,Lit.int.injEq,and_true,true_and]at hx;obtain⟨hl,hz⟩:=hx;refine⟨?_,?_⟩
 ·rw[List.cons.inj f0 |>.1,← hl]
 ·rw[List.cons.inj f1 |>.1,hz]
theorem goodD_of {x0 : String × DataW Unit} {r : List (String × DataW Unit)} {W : World} (hL : laidMet Tryz.prog (x0 :: ("debenture/decimal.powers", Rows.laid_debenture_decimal_powers) :: r) W) (hS : W.ShapedOpen Tryz.prog) : GoodD W := by
 have hM:∃m,W.cell? ⟨4,0,none⟩=some (.int .i64 m):=cell_of_shapedOpen_int (zero:=#[.int .i64 0]) (t:=3) hS (of_decide_eq_true (by kernel_rfl)) (by kernel_rfl) rfl (by kernel_rfl) (by kernel_rfl) Tryz.underlying3;obtain⟨_,⟨g,t,cs,fuel,p,_,hg,ht,hv,hd,_,_⟩,_⟩:=hL.tail;obtain rfl:=Option.some.inj (gPow.symm.trans hg);obtain rfl:=Option.some.inj (gPowType.symm.trans ht);obtain⟨xs,m,_,hx,hl,hxl,hi⟩:=DataW.trod_array Tryz.underlying206 hd;rw[cellsPow]at hl;have h0:=hi 0 (by decide);have h1:=hi 1 (by decide);have h2:=hi 2 (by decide);have h3:=hi 3 (by decide);rw[cellsPair]at h0 h1 h2 h3;have hc:∀j,W.cell? ⟨5,j,none⟩=cs.toList[j]?:=fun j=>by
  rw[World.var?_cell gPow hv j,Array.getElem?_toList]
 have hlt:=var_lt gPow hv;generalize cs.toList=L at *
 match L,hl with
 | [a0,b0,a1,b1,a2,b2,a3,b3],_ =>
  match xs,hxl with
  | [y0,y1,y2,y3],_ =>
   have ha:=(Prod.mk.inj hx).1;have ha:Rows.laid_debenture_decimal_powers=DataW.agg [y0.1,y1.1,y2.1,y3.1]:=ha;unfold Rows.laid_debenture_decimal_powers at ha;simp only[DataW.agg.injEq,List.cons.injEq,and_true]at ha;obtain⟨k0,k1,k2,k3⟩:=ha;obtain⟨u0,v0⟩:=pair_cells h0 k0.symm;obtain⟨u1,v1⟩:=pair_cells h1 k1.symm;obtain⟨u2,v2⟩:=pair_cells h2 k2.symm;obtain⟨u3,v3⟩:=pair_cells h3 k3.symm;refine⟨hM,?_,?_,?_,?_,?_,?_,?_,?_,?_,hlt⟩
   ·rw[hc,u0];rfl
   ·rw[hc,v0];rfl
   ·rw[hc,u1];rfl
   ·rw[hc,v1];rfl
   ·rw[hc,u2];rfl
   ·rw[hc,v2];rfl
   ·rw[hc,u3];rfl
   ·rw[hc,v3];rfl
   ·obtain⟨m,hm⟩:=hM;exact World.block_lt_of_cell? W ⟨4,0,none⟩ hm
end Go.Proofs.YtmllklfjngapiaaGreatDoor
set_option maxHeartbeats 4000000
set_option maxRecDepth 100000
namespace Go.Proofs.YtmllklfjngapiaaGreatDoor
open Go.RowKit
theorem pow_bound{b n d D L:Nat}(hb:1<b)(hd:0<d)(h:b ^ n*d≤D)(hD:D<10 ^ L):n<4*L:=by
 have h1:2 ^ n≤b ^ n:=Nat.pow_le_pow_left hb n;have h2:d*2 ^ n≤D:=by
  refine Nat.le_trans ?_ h;rw[Nat.mul_comm d];exact Nat.mul_le_mul_right _ h1
 exact two_bound hd h2 hD
theorem on_bound{b e d L:Nat}(hb:1<b)(hd:0<d)(hD:d<10 ^ L):(onS b e d).2≤e*(4*L):=by
 obtain⟨h1,_,h3⟩:=on_spec (e:=e) hb hd;have h4:=pow_bound (n:=(strip b d).1) hb h3 (Nat.le_of_eq h1.symm) hD;exact Nat.mul_le_mul_left e (Nat.le_of_lt h4)
theorem div_step{d b t D:Nat}(hb:1<b)(h:d*2 ^ t≤D):d / b*2 ^ (t+1)≤D:=by
 have h1:d / b≤d / 2:=Nat.div_le_div_left hb (by decide);exact Nat.le_trans (Nat.mul_le_mul_right _ h1) (half_step h)
theorem n_div{d r b:Nat}(hl:(dig d).length≤100000)(hbl:(dig b).length≤100)(h0:0<b)(hr:d % b=r)(w:World) :
  Calls Tryz.prog 144 #[.string ⟨(dig d).toArray⟩,.string ⟨(dig b).toArray⟩] w (GiveSSB w (dig (d / b),dig r,true)):=by
 have c:=div_any ⟨(dig d).toArray⟩ ⟨(dig b).toArray⟩ w (by rw[size_dig];omega) (by rw[size_dig];omega);have e:divS (⟨(dig d).toArray⟩:ByteArray).data.toList (⟨(dig b).toArray⟩:ByteArray).data.toList=(dig (d / b),dig r,true):=by
  show divS (dig d) (dig b)=_;unfold divS;rw[isNat_dig,isNat_dig,valS_dig,valS_dig,decide_eq_true h0,hr];rfl
 rw[e]at c;exact c
theorem on_acc{b e d t D:Nat}(hb:1<b)(hd:0<d)(hr:d % b=0)(h:onS b e D=((onS b e d).1,e*t+(onS b e d).2)):onS b e D=((onS b e (d / b)).1,e*(t+1)+(onS b e (d / b)).2):=by
 rw[h,on_yes hb hd hr];exact Prod.ext rfl (by show e*t+(e+_)=e*(t+1)+_;rw[Nat.mul_succ,Nat.add_assoc])
theorem on_end{b e d t D:Nat}(hr:d % b≠0)(h:onS b e D=((onS b e d).1,e*t+(onS b e d).2)):onS b e D=(d,e*t):=by
 rw[h,on_no hr];rfl
def DivInv(w:World)(D b e:Nat)(a':Act)(w':World):Prop :=
 ∃ (d t:Nat) (q:Int) (u3 u4 u5 u9 u10 u11 u12 u13 u14 u15 u16 u17 u18 u19 u20 u21 u22 u23 u24 u25 u26:Value),a'={ tmps:=#[.string ⟨(dig d).toArray⟩,.string ⟨(dig b).toArray⟩,.int .i64 (e:Int),u3,u4,u5,.string ⟨#[]⟩,.int .i64 0,.int .i64 q,u9,u10,u11,u12,u13,u14,u15,u16,u17,u18,u19,u20,u21,u22,u23,u24,u25,u26],defers:=[] } ∧
  q=((e*t:Nat):Int)∧Hid (0<d∧(dig d).length≤100000∧d*2 ^ t≤D∧onS b e D=((onS b e d).1,e*t+(onS b e d).2))∧Below w.heap.size w w'
def DivPost(w:World)(D b e:Nat)(ev:Ending)(w':World):Prop:=ev=.returned (.tuple #[.string ⟨(dig (onS b e D).1).toArray⟩,.int .i64 ((onS b e D).2:Int)])∧Below w.heap.size w w'
theorem ret_si{a c:List UInt8}{b d:Int}(h1:a=c)(h2:b=d):Ending.returned (.tuple #[.string ⟨a.toArray⟩,.int .i64 b])=.returned (.tuple #[.string ⟨c.toArray⟩,.int .i64 d]):=by rw[h1,h2]
theorem divided_any(D b e:Nat)(w:World)(hD:0<D)(hl:(dig D).length≤100000)(hb:1<b)(hbl:(dig b).length≤100)(he:e≤100) :
  Calls Tryz.prog 225 #[.string ⟨(dig D).toArray⟩,.string ⟨(dig b).toArray⟩,.int .i64 (e:Int)] w (DivPost w D b e):=by
 have hDb:D<10 ^ (dig D).length:=by have:=valS_lt (dig_all D);rwa[valS_dig]at this
 have HDB:Hid (∀d t:Nat,0<d→d*2 ^ t≤D→e*t≤40000000):=zh fun d t h0 h=>by
  have h1:=two_bound h0 h hDb;have h2:e*t≤100*400000:=Nat.mul_le_mul he (by omega);omega
 have CD:Hid (∀ (d r:Nat),(dig d).length≤100000→d % b=r→∀w,Calls Tryz.prog 144 #[.string ⟨(dig d).toArray⟩,.string ⟨(dig b).toArray⟩] w (GiveSSB w (dig (d / b),dig r,true))):=zh fun d r h1 h2 w=>n_div h1 hbl (by omega) h2 w;have HB:=zh hb;have HD:=zh hD;have HL:=zh hl
 clear hDb hbl he hb hD hl;go_enter Tryz.func225,Tryz.ntmps225
 go_wp2
 refine wp_scope_jumps 0 (DivInv w D b e) (fun a' _=>numOf (a'.tmps.getD 0 undef)) rfl ?_ ?_
 ·have hbw:=Below.refl w.heap.size w;have HG:Hid (0<D∧(dig D).length≤100000∧D*2 ^ 0≤D∧onS b e D=((onS b e D).1,e*0+(onS b e D).2)):=zh ⟨HD.out,HL.out,by omega,by rw[Nat.mul_zero,Nat.zero_add]⟩;go_wp2_with fail
  go_step3
  by_cases hr:D % b=0
  ·have c:=CD.out D 0 HG.out.2.1 hr;have e0:=dig_nil;have hg:0<D / b:=Nat.div_pos (Nat.le_of_dvd HG.out.1 (Nat.dvd_of_mod_eq_zero hr)) (by have:=HB.out;omega);have hs:=div_step (t:=0) HB.out HG.out.2.2.1;have HN:Hid (0<D / b∧(dig (D / b)).length≤100000∧D / b*2 ^ (0+1)≤D∧onS b e D=((onS b e (D / b)).1,e*(0+1)+(onS b e (D / b)).2)):=zh ⟨hg,Nat.le_trans (dig_len_le (Nat.div_le_self D b)) HG.out.2.1,hs,on_acc HB.out HG.out.1 hr HG.out.2.2.2⟩;have hbd:=HDB.out _ _ hg hs;have hbe:e*(0+1)=e*0+e:=Nat.mul_succ e 0;have C:=zh c;clear c hg hs;go_wp2_with fail;refine(C.out _).mono ?_;rintro ev w3 ⟨rfl,b3⟩;go_wp2_with fail
   go_step3
   refine⟨rfl,D / b,0+1,_,_,_,_,_,_,_,_,_,_,_,_,_,_,_,_,_,_,_,_,_,_,rfl,?_,HN,hbw.trans (b3.mono hbw.size)⟩
   ·rw[hbe,Int.natCast_add,Int.natCast_mul];try simp
  ·have c:=CD.out D _ HG.out.2.1 rfl;have e0:=dig_ne48 hr;have e1:=dig_neB hr;have hv:=on_end hr HG.out.2.2.2;have hbd:=HDB.out _ _ HG.out.1 HG.out.2.2.1;have C:=zh c;have HV:=zh hv;clear c hr hv;go_wp2_with fail;refine(C.out _).mono ?_;rintro ev w3 ⟨rfl,b3⟩;go_wp2_with fail;simp only[Exit.jump]
   go_ret2
   exact⟨ret_si (by rw[HV.out]) (by rw[HV.out];simp),hbw.trans (b3.mono hbw.size)⟩
 ·rintro a' w2 ⟨d,t,q,u3,u4,u5,u9,u10,u11,u12,u13,u14,u15,u16,u17,u18,u19,u20,u21,u22,u23,u24,u25,u26,rfl,rfl,HG,hbw⟩;by_cases hr:d % b=0
  ·have c:=CD.out d 0 HG.out.2.1 hr;have e0:=dig_nil;have hg:0<d / b:=Nat.div_pos (Nat.le_of_dvd HG.out.1 (Nat.dvd_of_mod_eq_zero hr)) (by have:=HB.out;omega);have hs:=div_step (t:=t) HB.out HG.out.2.2.1;have HN:Hid (0<d / b∧(dig (d / b)).length≤100000∧d / b*2 ^ (t+1)≤D∧onS b e D=((onS b e (d / b)).1,e*(t+1)+(onS b e (d / b)).2)):=zh ⟨hg,Nat.le_trans (dig_len_le (Nat.div_le_self d b)) HG.out.2.1,hs,on_acc HB.out HG.out.1 hr HG.out.2.2.2⟩;have hbd:=HDB.out _ _ hg hs;have hbe:e*(t+1)=e*t+e:=Nat.mul_succ e t;have C:=zh c;clear c hg hs;go_wp2_with fail;refine(C.out _).mono ?_;rintro ev w3 ⟨rfl,b3⟩;go_wp2_with fail
   go_step3
   refine⟨rfl,⟨d / b,t+1,_,_,_,_,_,_,_,_,_,_,_,_,_,_,_,_,_,_,_,_,_,_,rfl,?_,HN,hbw.trans (b3.mono hbw.size)⟩,?_⟩
   ·rw[hbe,Int.natCast_add,Int.natCast_mul]
   ·show numOf (.string ⟨(dig (d / b)).toArray⟩)<numOf (.string ⟨(dig d).toArray⟩);rw[numOf_dig,numOf_dig];exact Nat.div_lt_self HG.out.1 HB.out
  ·have c:=CD.out d _ HG.out.2.1 rfl;have e0:=dig_ne48 hr;have e1:=dig_neB hr;have hv:=on_end hr HG.out.2.2.2;have hbd:=HDB.out _ _ HG.out.1 HG.out.2.2.1;have C:=zh c;have HV:=zh hv;clear c hr hv;go_wp2_with fail;refine(C.out _).mono ?_;rintro ev w3 ⟨rfl,b3⟩;go_wp2_with fail;simp only[Exit.jump]
   go_ret2
   exact⟨ret_si (by rw[HV.out]) (by rw[HV.out];simp),hbw.trans (b3.mono hbw.size)⟩
def powT:Nat→Nat×Nat
 | 0=>(536870912,29)
 | 1=>(2,1)
 | 2=>(244140625,12)
 | _=>(5,1)
def stT(d:Nat):Nat→Nat×Nat
 | 0=>onS 10 1 d
 | k+1=>((onS (powT k).1 (powT k).2 (stT d k).1).1,(stT d k).2+(onS (powT k).1 (powT k).2 (stT d k).1).2)
theorem stT_end(d:Nat):stT d 4=(leftS d,cntS d):=rfl
theorem powT_ok(k:Nat):1<(powT k).1∧(powT k).2≤29:=by
 unfold powT;split<;>decide
theorem stT_ok{d:Nat}(hd:0<d)(hl:(dig d).length≤100000)(k:Nat):0<(stT d k).1∧(stT d k).1≤d∧(stT d k).2≤(k+1)*12000000:=by
 obtain⟨L,hL,hD⟩:∃L,L≤100000∧d<10 ^ L:=⟨(dig d).length,hl,by have:=valS_lt (dig_all d);rwa[valS_dig]at this⟩
 induction k with
 | zero =>
  obtain⟨_,_,h3⟩:=on_spec (e:=1) (show 1<10 by decide) hd;have h4:=on_bound (e:=1) (show 1<10 by decide) hd hD;refine⟨h3,on_le (by decide) hd,?_⟩;show (onS 10 1 d).2≤_;omega
 | succ k ih =>
  obtain⟨i1,i2,i3⟩:=ih;obtain⟨p1,p2⟩:=powT_ok k;obtain⟨_,_,h3⟩:=on_spec (e:=(powT k).2) p1 i1;have h4:=on_bound (e:=(powT k).2) p1 i1 (Nat.lt_of_le_of_lt i2 hD);have h5:(powT k).2*(4*L)≤29*(4*L):=Nat.mul_le_mul_right _ p2;refine⟨h3,Nat.le_trans (on_le (e:=(powT k).2) p1 i1) i2,?_⟩;show (stT d k).2+(onS (powT k).1 (powT k).2 (stT d k).1).2≤_;omega
theorem dig_pow0:dig 536870912=[53,51,54,56,55,48,57,49,50]:=dig_valS (l:=[53,51,54,56,55,48,57,49,50]) (by decide)
theorem dig_pow1:dig 2=[50]:=dig_valS (l:=[50]) (by decide)
theorem dig_pow2:dig 244140625=[50,52,52,49,52,48,54,50,53]:=dig_valS (l:=[50,52,52,49,52,48,54,50,53]) (by decide)
theorem dig_pow3:dig 5=[53]:=dig_valS (l:=[53]) (by decide)
theorem divided_0(d:Nat)(w:World)(hd:0<d)(hl:(dig d).length≤100000) :
  Calls Tryz.prog 225 #[.string ⟨(dig d).toArray⟩,.string ⟨#[53,51,54,56,55,48,57,49,50]⟩,.int .i64 29] w (DivPost w d 536870912 29):=by
 have c:=divided_any d 536870912 29 w hd hl (by decide) (by rw[dig_pow0];decide) (by decide);rw[dig_pow0]at c;exact c
theorem divided_1(d:Nat)(w:World)(hd:0<d)(hl:(dig d).length≤100000) :
  Calls Tryz.prog 225 #[.string ⟨(dig d).toArray⟩,.string ⟨#[50]⟩,.int .i64 1] w (DivPost w d 2 1):=by
 have c:=divided_any d 2 1 w hd hl (by decide) (by rw[dig_pow1];decide) (by decide);rw[dig_pow1]at c;exact c
theorem divided_2(d:Nat)(w:World)(hd:0<d)(hl:(dig d).length≤100000) :
  Calls Tryz.prog 225 #[.string ⟨(dig d).toArray⟩,.string ⟨#[50,52,52,49,52,48,54,50,53]⟩,.int .i64 12] w (DivPost w d 244140625 12):=by
 have c:=divided_any d 244140625 12 w hd hl (by decide) (by rw[dig_pow2];decide) (by decide);rw[dig_pow2]at c;exact c
theorem divided_3(d:Nat)(w:World)(hd:0<d)(hl:(dig d).length≤100000) :
  Calls Tryz.prog 225 #[.string ⟨(dig d).toArray⟩,.string ⟨#[53]⟩,.int .i64 1] w (DivPost w d 5 1):=by
 have c:=divided_any d 5 1 w hd hl (by decide) (by rw[dig_pow3];decide) (by decide);rw[dig_pow3]at c;exact c
theorem idx_0(w:World):(Instr.index 206 (.agg #[.string ⟨#[53,51,54,56,55,48,57,49,50]⟩,.int .i64 29,.string ⟨#[50]⟩,.int .i64 1,.string ⟨#[50,52,52,49,52,48,54,50,53]⟩,.int .i64 12,.string ⟨#[53]⟩,.int .i64 1]) (.int .i64 0)).run Tryz.prog w=.ok (.agg #[.string ⟨#[53,51,54,56,55,48,57,49,50]⟩,.int .i64 29]) w:=by kernel_rfl
theorem idx_1(w:World):(Instr.index 206 (.agg #[.string ⟨#[53,51,54,56,55,48,57,49,50]⟩,.int .i64 29,.string ⟨#[50]⟩,.int .i64 1,.string ⟨#[50,52,52,49,52,48,54,50,53]⟩,.int .i64 12,.string ⟨#[53]⟩,.int .i64 1]) (.int .i64 1)).run Tryz.prog w=.ok (.agg #[.string ⟨#[50]⟩,.int .i64 1]) w:=by kernel_rfl
theorem idx_2(w:World):(Instr.index 206 (.agg #[.string ⟨#[53,51,54,56,55,48,57,49,50]⟩,.int .i64 29,.string ⟨#[50]⟩,.int .i64 1,.string ⟨#[50,52,52,49,52,48,54,50,53]⟩,.int .i64 12,.string ⟨#[53]⟩,.int .i64 1]) (.int .i64 2)).run Tryz.prog w=.ok (.agg #[.string ⟨#[50,52,52,49,52,48,54,50,53]⟩,.int .i64 12]) w:=by kernel_rfl
theorem idx_3(w:World):(Instr.index 206 (.agg #[.string ⟨#[53,51,54,56,55,48,57,49,50]⟩,.int .i64 29,.string ⟨#[50]⟩,.int .i64 1,.string ⟨#[50,52,52,49,52,48,54,50,53]⟩,.int .i64 12,.string ⟨#[53]⟩,.int .i64 1]) (.int .i64 3)).run Tryz.prog w=.ok (.agg #[.string ⟨#[53]⟩,.int .i64 1]) w:=by kernel_rfl
theorem places0_any(D:Nat)(w:World)(hd:0<D)(hl:(dig D).length≤100000)(hg:GoodD w) :
  Calls Tryz.prog 190 #[.string ⟨(dig D).toArray⟩] w (GiveIB w (plR (plc D))):=by
 obtain⟨t1,t2⟩:=trim_tens hd;have c0:∀w,Calls Tryz.prog 224 #[.string ⟨(dig D).toArray⟩,.string ⟨#[48]⟩] w fun e w'=>e=.returned (.string ⟨(dig (stT D 0).1).toArray⟩)∧w'=w:=fun w=>by
  have c:=Tryz.strings_TrimRight_one ⟨(dig D).toArray⟩ 48 (by decide) w (by rw[size_of];omega);have e:Lib.trimRightB (⟨(dig D).toArray⟩:ByteArray).data.toList 48=dig (stT D 0).1:=t1;rw[e]at c;exact c
 have hcnt:((dig D).length:Int)-((dig (stT D 0).1).length:Int)=((stT D 0).2:Int):=by
  rw[t2];show (((dig (stT D 0).1).length+(stT D 0).2:Nat):Int) - _=_;omega
 have hi:∀k,0<(stT D k).1∧(dig (stT D k).1).length≤100000∧(stT D k).2≤(k+1)*12000000:=fun k=>by
  obtain⟨h1,h2,h3⟩:=stT_ok hd hl k;exact⟨h1,Nat.le_trans (dig_len_le h2) hl,h3⟩
 have hw:=walk_is hd;have hi0:=(hi 0).2.1;have C0:=zh c0;have HI:=zh hi;have HW:=zh hw;have HE:=zh (stT_end D)
 obtain⟨_,p0,p1,p2,p3,p4,p5,p6,p7,_,_⟩:=hg;clear c0 hi hw t1 t2;go_enter Tryz.func190,Tryz.ntmps190;go_wp2_with fail;refine(C0.out _).mono ?_;rintro e w1 ⟨rfl,rfl⟩;go_wp2_with fail;clear p0 p1 p2 p3 p4 p5 p6 p7
 go_loopw [4,5,17] (fun a b i V=>∃k:Nat,k≤4∧a=.string ⟨(dig (stT D k).1).toArray⟩∧b=.int .i64 ((stT D k).2:Int)∧i=.int .i64 k∧Below w1.heap.size w1 V) (fun _ _ i _=>4-(intOf i).toNat)
 case atStart=>exact⟨0,Nat.zero_le _,rfl,(by first|rfl|(rw[hcnt])),rfl,Below.refl _ _⟩
 case round =>
  obtain⟨k,hk,rfl,rfl,rfl,hbw⟩:=hrel;clear hcnt;by_cases h4:k<4
  ·have hk':k=0∨k=1∨k=2∨k=3:=by omega
   clear hk h4;rcases hk' with rfl|rfl|rfl|rfl
   ·obtain⟨i1,i2,i3⟩:=HI.out 0;have i4:(stT D 0).2+(onS 536870912 29 (stT D 0).1).2≤24000000:=(HI.out 1).2.2;have c:=fun w=>divided_0 (stT D 0).1 w i1 i2;have C:=zh c;clear c i1 i2;go_wp2_with fail;rw[idx_0];go_wp2_with fail;refine(C.out _).mono ?_;rintro e w3 ⟨rfl,b3⟩;go_wp2_with fail;go_roundw
    case rel=>exact⟨1,by decide,rfl,(by first|rfl|go_num),rfl,(Below.alloc hbw hbw.size _).trans (b3.mono (Below.alloc hbw hbw.size _).size)⟩
    case measure=>simp[intOf]
   ·obtain⟨i1,i2,i3⟩:=HI.out 1;have i4:(stT D 1).2+(onS 2 1 (stT D 1).1).2≤36000000:=(HI.out 2).2.2;have c:=fun w=>divided_1 (stT D 1).1 w i1 i2;have C:=zh c;clear c i1 i2;go_wp2_with fail;rw[idx_1];go_wp2_with fail;refine(C.out _).mono ?_;rintro e w3 ⟨rfl,b3⟩;go_wp2_with fail;go_roundw
    case rel=>exact⟨2,by decide,rfl,(by first|rfl|go_num),rfl,(Below.alloc hbw hbw.size _).trans (b3.mono (Below.alloc hbw hbw.size _).size)⟩
    case measure=>simp[intOf]
   ·obtain⟨i1,i2,i3⟩:=HI.out 2;have i4:(stT D 2).2+(onS 244140625 12 (stT D 2).1).2≤48000000:=(HI.out 3).2.2;have c:=fun w=>divided_2 (stT D 2).1 w i1 i2;have C:=zh c;clear c i1 i2;go_wp2_with fail;rw[idx_2];go_wp2_with fail;refine(C.out _).mono ?_;rintro e w3 ⟨rfl,b3⟩;go_wp2_with fail;go_roundw
    case rel=>exact⟨3,by decide,rfl,(by first|rfl|go_num),rfl,(Below.alloc hbw hbw.size _).trans (b3.mono (Below.alloc hbw hbw.size _).size)⟩
    case measure=>simp[intOf]
   ·obtain⟨i1,i2,i3⟩:=HI.out 3;have i4:(stT D 3).2+(onS 5 1 (stT D 3).1).2≤60000000:=(HI.out 4).2.2;have c:=fun w=>divided_3 (stT D 3).1 w i1 i2;have C:=zh c;clear c i1 i2;go_wp2_with fail;rw[idx_3];go_wp2_with fail;refine(C.out _).mono ?_;rintro e w3 ⟨rfl,b3⟩;go_wp2_with fail;go_roundw
    case rel=>exact⟨4,by decide,rfl,(by first|rfl|go_num),rfl,(Below.alloc hbw hbw.size _).trans (b3.mono (Below.alloc hbw hbw.size _).size)⟩
    case measure=>simp[intOf]
  ·obtain rfl:k=4:=by omega
   clear hk h4;have i3:=(HI.out 4).2.2;by_cases h1:leftS D=1
   ·have hr:plR (plc D)=(((stT D 4).2:Int),true):=by rw[HW.out,if_pos h1,HE.out];rfl
    have e1:dig (stT D 4).1=[49]:=by rw[HE.out];show dig (leftS D)=_;rw[h1];exact dig_one
    have HR:=zh hr;clear hr h1;go_wp2_with fail
    go_ret2
    exact⟨by rw[HR.out]<;>rfl,hbw⟩
   ·have hr:plR (plc D)=(0,false):=by rw[HW.out,if_neg h1];rfl
    have e1:dig (stT D 4).1≠[49]:=by rw[HE.out];exact dig_ne49 h1
    have e2:(dig (stT D 4).1 == [49])=false:=beq_false_of_ne e1;have HR:=zh hr;clear hr h1;go_wp2_with fail
    go_ret2
    exact⟨by rw[HR.out]<;>rfl,hbw⟩
end Go.Proofs.YtmllklfjngapiaaGreatDoor
