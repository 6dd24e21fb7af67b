/- Own work. -/
import Derived.Laws.IdiomStrings
import Derived.Test.YthgopcnagecbaaaGreatDoorAllRefB3M
set_option linter.unusedSimpArgs false
set_option linter.unusedVariables false
set_option maxHeartbeats 2000000
set_option maxRecDepth 100000
namespace Go.Proofs.YthgopcnagecbaaaGreatDoor
open Go.RowKit
theorem mark_any(s:ByteArray)(w:World):Calls Tryz.prog 79 #[.string s,.string ⟨#[33]⟩] w fun e w'=>e=.returned (.string ⟨(noMark s.data.toList).toArray⟩)∧w=w':=by
 have k:=Tryz.strings_TrimPrefix s ⟨#[33]⟩ w;rw[show (⟨#[33]⟩:ByteArray).data.toList=[33] from rfl,trim_mark]at k;exact k.mono fun e w' ⟨h1,h2⟩=>⟨h1,h2.symm⟩
theorem scmp_any(a b:List UInt8)(w:World):Calls Tryz.prog 68 #[.string ⟨a.toArray⟩,.string ⟨b.toArray⟩] w (GiveI w (Lib.compareBytes a b)) :=
 (Tryz.strings_Compare ⟨a.toArray⟩ ⟨b.toArray⟩ w).mono fun e w' ⟨h1,h2⟩=>⟨h1,h2▸Below.refl _ _⟩
theorem nameC_iff{c:UInt8}:nameC c=true↔((97≤c.toNat∧c.toNat≤122)∨(48≤c.toNat∧c.toNat≤57)):=by
 unfold nameC;simp only[Bool.or_eq_true,Bool.and_eq_true,decide_eq_true_eq]
theorem all_more{l:List UInt8}{k:Nat}(hk:k<l.length)(h:(l.take k).all nameC=true)(ho:nameC (gb l k)=true):(l.take (k+1)).all nameC=true:=by
 have e:gb l k=l[k]:=by unfold gb;rw[List.getElem?_eq_getElem hk];rfl
 rw[List.take_add_one,List.getElem?_eq_getElem hk,List.all_append,h];rw[e]at ho;show (true&&(nameC l[k]&&true))=true;rw[ho];rfl
theorem all_stop{l:List UInt8}{k:Nat}(hk:k<l.length)(ho:nameC (gb l k)=false):l.all nameC=false:=by
 have e:gb l k=l[k]:=by unfold gb;rw[List.getElem?_eq_getElem hk];rfl
 rw[e]at ho;exact List.all_eq_false.2 ⟨l[k],List.getElem_mem hk,by rw[ho];decide⟩
theorem nameC_no{c:UInt8}(h:¬((97≤c.toNat∧c.toNat≤122)∨(48≤c.toNat∧c.toNat≤57))):nameC c=false:=by
 cases e:nameC c with
 | false=>rfl
 | true=>exact absurd (nameC_iff.1 e) h
theorem bname_any(s:ByteArray)(w:World) :
  Calls Tryz.prog 41 #[.string s] w (GiveB w (isName s.data.toList)):=by
 have hsl:=size_toList s;by_cases h0:s.size=0
 ·have he:s.toList.isEmpty=true:=by rw[toList_empty];simpa using h0
  have HO:Hid (isName s.data.toList=false):=zh (by unfold isName;rw[hsl,h0];simp);clear h0 hsl;go_enter Tryz.func41,Tryz.ntmps41;go_wp2_with fail;go_ret;exact⟨ret_bool (by rw[HO.out]),Below.refl _ _⟩
 ·have he:s.toList.isEmpty=false:=by rw[toList_empty];simpa using h0
  by_cases h20:(20:Int)<(s.size:Int)
  ·have HO:Hid (isName s.data.toList=false):=zh (by unfold isName;rw[hsl,decide_eq_false (show ¬s.size≤20 by omega),Bool.and_false,Bool.and_false]);clear h0 hsl;go_enter Tryz.func41,Tryz.ntmps41;go_wp2_with fail;go_ret;exact⟨ret_bool (by rw[HO.out]),Below.refl _ _⟩
  ·have HR:Hid (isName s.data.toList=(noMark s.data.toList).all nameC):=zh (by rw[name_mark,hsl,decide_eq_true (show s.size≤20 by omega),decide_eq_true (show 1≤s.size by omega)];simp);have ht:=noMark_len s.data.toList;rw[hsl]at ht;have ct:=fun w=>mark_any s w;generalize noMark s.data.toList=t at *;have ht2:t.length≤20:=by omega
   have hcv:=fun w s=>run_bytes_of_string (P:=Tryz.prog) w 9 89 5 s Tryz.underlying9 Tryz.underlying89 Tryz.underlying5;clear h0 hsl ht;go_enter Tryz.func41,Tryz.ntmps41;go_wp2_with fail;refine(ct _).mono ?_;rintro e w' ⟨rfl,rfl⟩;go_wp2_with fail;generalize grownCap w t.length 0 5=cap;obtain⟨Wc,hWc⟩:∃Wc,(w.alloc (.cells (bytesRow ⟨t.toArray⟩ cap) 5 ((bytesRow ⟨t.toArray⟩ cap).size,(bytesRow ⟨t.toArray⟩ cap).size+1))).drew=Wc:=⟨_,rfl⟩;rw[hWc];have hby:∀j,j<t.length→Wc.cell? ⟨w.heap.size,j,none⟩=some (.int .u8 ((gb t j).toNat:Int)):=fun j hj=>by
    rw[←hWc];exact bytes_new w ⟨t.toArray⟩ cap _ _ j (by rw[size_of];exact hj)
   have BW:Below w.heap.size w Wc:=by rw[←hWc];exact((Below.refl _ w).alloc (Nat.le_refl _) _).drew
   clear hWc hcv ct
   go_loop [16] (fun i=>∃k:Nat,k≤t.length∧i=.int .i64 k∧Hid ((t.take k).all nameC=true)) (fun i=>t.length-(intOf i).toNat)
   case atStart=>exact⟨0,Nat.zero_le _,rfl,rfl⟩
   case round =>
    obtain⟨k,hk,rfl,HJ⟩:=hrel;by_cases hlt:k<t.length
    ·have hb:=hby k hlt;by_cases a1:((gb t k).toNat:Int)<97
     ·by_cases a2:((gb t k).toNat:Int)<48
      ·have HO:Hid (t.all nameC=false):=zh (all_stop hlt (nameC_no (by omega)))
       go_wp2
       go_ret;exact⟨ret_bool (by rw[HR.out,HO.out]),BW⟩
      ·by_cases a3:57<((gb t k).toNat:Int)
       ·have HO:Hid (t.all nameC=false):=zh (all_stop hlt (nameC_no (by omega)))
        go_wp2
        go_ret;exact⟨ret_bool (by rw[HR.out,HO.out]),BW⟩
       ·have HO:Hid (nameC (gb t k)=true):=zh (nameC_iff.2 (by omega))
        go_wp2
        go_round
        case rel=>exact⟨k+1,hlt,by go_num,all_more hlt HJ.out HO.out⟩
        case measure=>simp[intOf];omega
     ·by_cases a2:122<((gb t k).toNat:Int)
      ·have f1:¬((gb t k).toNat:Int)<48:=by omega
       have f2:57<((gb t k).toNat:Int):=by omega
       have HO:Hid (t.all nameC=false):=zh (all_stop hlt (nameC_no (by omega)))
       go_wp2
       go_ret;exact⟨ret_bool (by rw[HR.out,HO.out]),BW⟩
      ·have HO:Hid (nameC (gb t k)=true):=zh (nameC_iff.2 (by omega))
       go_wp2
       go_round
       case rel=>exact⟨k+1,hlt,by go_num,all_more hlt HJ.out HO.out⟩
       case measure=>simp[intOf];omega
    ·obtain rfl:k=t.length:=by omega
     have HO:Hid (t.all nameC=true):=zh (by have:=HJ.out;rw[List.take_length]at this;exact this)
     go_wp2
     go_ret;exact⟨ret_bool (by rw[HR.out,HO.out]),BW⟩
theorem or_any(b:Nat)(x y:Int)(w:World)(h0:w.cell? ⟨b,0,none⟩=some (.int .i64 x))(h1:w.cell? ⟨b,1,none⟩=some (.int .i64 y)) :
  Calls Tryz.prog 95 #[.slice (some ⟨b,0,none⟩) 2 2] w (GiveI w (orZ x y)):=by
 go_enter Tryz.func95,Tryz.ntmps95
 go_wp2
 go_loop [8] (fun i=>∃k:Nat,i=.int .i64 k∧(k=0∨(k=1∧x=0)∨(k=2∧(x=0∧y=0)))) (fun i=>2-(intOf i).toNat)
 case atStart=>exact⟨0,rfl,.inl rfl⟩
 case round =>
  obtain⟨k,rfl,hk⟩:=hrel;rcases hk with rfl|⟨rfl,hx⟩|⟨rfl,hx,hy⟩
  ·by_cases hx:x=0
   ·go_wp2
    go_round
    case rel=>exact⟨1,by go_num,.inr (.inl ⟨rfl,hx⟩)⟩
    case measure=>simp[intOf]
   ·have HO:Hid (orZ x y=x):=zh (orZ_left hx)
    go_wp2
    go_ret;exact⟨ret_int (by first|rw[HO.out]|exact(orZ_right _).symm|rfl),Below.refl _ _⟩
  ·have HO:Hid (orZ x y=y):=zh (by rw[hx];exact orZ_right y);by_cases hy:y=0
   ·go_wp2
    go_round
    case rel=>exact⟨2,by go_num,.inr (.inr ⟨rfl,hx,hy⟩)⟩
    case measure=>simp[intOf]
   ·go_wp2
    go_ret;exact⟨ret_int (by first|rw[HO.out]|exact(orZ_right _).symm|rfl),Below.refl _ _⟩
  ·have HO:Hid (orZ x y=0):=zh (by rw[hx,hy];rfl)
   go_wp2
   go_ret;exact⟨ret_int (by first|rw[HO.out]|exact(orZ_right _).symm|rfl),Below.refl _ _⟩
theorem or_new(w:World)(x y:Int)(t:TypeId):Calls Tryz.prog 95 #[.slice (some ⟨w.heap.size,0,none⟩) 2 2] (w.alloc (.cells #[.int .i64 x,.int .i64 y] t)) (GiveI (w.alloc (.cells #[.int .i64 x,.int .i64 y] t)) (orZ x y)) :=
 or_any _ x y _ (cell_new _ _ _ _ rfl 0) (cell_new _ _ _ _ rfl 1)
end Go.Proofs.YthgopcnagecbaaaGreatDoor
namespace Go.Proofs.YthgopcnagecbaaaGreatDoor
open Go.RowKit
structure Blk(b:Nat)(xs:List Value)(w:World):Prop where
 lt:b<w.heap.size
 c:∀i x,xs[i]?=some x→w.cell? ⟨b,i,none⟩=some x
 f:∀i,i<xs.length→w.frozen? ⟨b,i,none⟩=false
theorem Blk.below{b:Nat}{xs:List Value}{w w':World}(h:Blk b xs w)(hb:Below w.heap.size w w'):Blk b xs w' :=
 ⟨Nat.lt_of_lt_of_le h.lt hb.size,fun i x e=>(hb.cell (p:=⟨b,i,none⟩) h.lt).trans (h.c i x e),fun i e=>(hb.frozen (p:=⟨b,i,none⟩) h.lt).trans (h.f i e)⟩
theorem blk_new(w:World)(cs:Array Value)(t:TypeId):Blk w.heap.size cs.toList (w.alloc (.cells cs t)) :=
 ⟨by simp,fun i x e=>(cell_new w _ _ _ rfl i).trans (by simpa using e),fun i _=>by rw[frozen?_alloc_cells];simp[World.frozen?]⟩
theorem Blk.set{b:Nat}{xs:List Value}{w:World}(h:Blk b xs w)(k:Nat)(hk:k<xs.length)(x:Value):Blk b (xs.set k x) (w.setCell ⟨b,k,none⟩ x):=by
 have old:∃y,w.cell? ⟨b,k,none⟩=some y:=⟨_,h.c k _ (List.getElem?_eq_getElem hk)⟩;refine⟨by rw[size_setCell];exact h.lt,fun i y e=>?_,fun i e=>by rw[World.frozen?_setCell];exact h.f i (by simpa using e)⟩;by_cases hi:k=i
 ·subst hi;rw[List.getElem?_set_self hk]at e;obtain⟨z,hz⟩:=old;rw[←Option.some.inj e];exact World.cell?_setCell_same' _ _ _ (by rw[hz];rfl)
 ·rw[List.getElem?_set_ne hi]at e;rw[cell?_setCell_ne _ _ _ _ _ hi];exact h.c i y e
theorem Blk.drew{B:Nat}{cs:List Value}{w:World}(h:Blk B cs w):Blk B cs w.drew:=h.below (Below.drew (Below.refl _ _))
theorem Blk.grown{B:Nat}{cs:List Value}{w w':World}{row:Option Nat}(h:Blk B cs w)(hg:w.grownBy w' row)(hr:row≠some B):Blk B cs w':=by
 have hb:w'.heap[B]?=w.heap[B]?:=hg.block B h.lt (fun e=>hr e.symm);exact⟨Nat.lt_of_lt_of_le h.lt hg.size,fun i x e=>(World.cell?_of_block (w:=w) (a:=⟨B,i,none⟩) hb).trans (h.c i x e),fun i e=>(World.frozen?_of_block (w:=w) (a:=⟨B,i,none⟩) hb).trans (h.f i e)⟩
structure WrB(Xs:List Nat)(w w':World):Prop where
 os:w'.os=w.os
 tape:w'.tape=w.tape
 output:w'.output=w.output
 size:w.heap.size≤w'.heap.size
 block:∀k,k<w.heap.size→k∉Xs→w'.heap[k]?=w.heap[k]?
theorem WrB.trans{Xs:List Nat}{a b c:World}(h:WrB Xs a b)(k:WrB Xs b c):WrB Xs a c :=
 ⟨k.os.trans h.os,k.tape.trans h.tape,k.output.trans h.output,Nat.le_trans h.size k.size,fun i hi hn=>(k.block i (Nat.lt_of_lt_of_le hi h.size) hn).trans (h.block i hi hn)⟩
theorem WrB.of_set(w:World)(b i:Nat)(x:Value){Xs:List Nat}(h:b∈Xs):WrB Xs w (w.setCell ⟨b,i,none⟩ x) :=
 ⟨rfl,rfl,rfl,by rw[size_setCell];exact Nat.le_refl _,fun k _ hn=>Below.heap_setCell w _ x k fun c=>hn (by rw[c];exact h)⟩
theorem RowsG.wr{α:Type}{enc:α→List Value}{k:Nat}{w w':World}{p:Option Addr}{l:List α}{Xs:List Nat}(h:RowsG enc k w p l)(hg:WrB Xs w w')(hp:∀a,p=some a→a.block∉Xs):RowsG enc k w' p l:=fun j x hx=>by
 obtain⟨b,o,e,hl,c⟩:=h j x hx;have hb:w'.heap[b]?=w.heap[b]?:=hg.block b hl (by have:=hp _ e;exact this);exact⟨b,o,e,Nat.lt_of_lt_of_le hl hg.size,fun i v hv=>(World.cell?_of_block (w:=w) (a:=⟨b,_,none⟩) hb).trans (c i v hv)⟩
theorem own_lt{α:Type}{enc:α→List Value}{k:Nat}{e:TypeId}{B:Nat}{w:World}{v:Value}{l:List α}(h:OwnG enc k e B w v l):∀g,v.ownBlock=some g→B≤g∧g<w.heap.size:=by
 rcases h.2 with ⟨rfl,_⟩|⟨g,cap,cur,rfl,k2,k3,_⟩
 ·exact fun g c=>by simp[Value.ownBlock]at c
 ·exact fun b c=>by
   have e:g=b:=Option.some.inj c;subst e;exact⟨k2,(Array.getElem?_eq_some_iff.1 k3).1⟩
end Go.Proofs.YthgopcnagecbaaaGreatDoor
