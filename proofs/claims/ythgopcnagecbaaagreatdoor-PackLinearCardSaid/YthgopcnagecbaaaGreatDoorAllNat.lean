/- Own work. -/
import Derived.Lib.AtoiErrMem
import Derived.Test.YthgopcnagecbaaaGreatDoorAllRead
import Derived.Test.YthgopcnagecbaaaGreatDoorShelf
set_option maxHeartbeats 400000
set_option maxRecDepth 100000
namespace Go.Proofs.YthgopcnagecbaaaGreatDoor
open Go.RowKit
def ByF(w:World)(b n:Nat):Prop:=∀j,j<n→(∃x,w.cell? ⟨b,j,none⟩=some (.int .u8 x))∧w.frozen? ⟨b,j,none⟩=false
def Tx(w:World)(b n:Nat)(f:Nat→Nat)(q:Nat):Prop:=∀j,j<n→n-1-j<q→w.cell? ⟨b,j,none⟩=some (.int .u8 ((48+f (n-1-j):Nat):Int))
structure MadeB(w w':World)(n:Nat):Prop where
 size:w'.heap.size=w.heap.size+1
 row:ByF w' w.heap.size n
 below:Below w.heap.size w w'
theorem madeB(w:World)(n t:Nat):MadeB w (w.alloc (.cells (madeCells #[.int .u8 0] n) t)) n:=by
 have hb:=World.alloc_heap_new w (.cells (madeCells #[.int .u8 0] n) t);have hl:(madeCells #[Value.int .u8 0] n).toList=List.replicate n (.int .u8 0):=toList_madeCells_one _ _;refine⟨by simp,fun j hj=>⟨⟨0,?_⟩,?_⟩,(Below.refl _ _).alloc (Nat.le_refl _) _⟩
 ·rw[cell_of_row _ _ _ _ _ _ hb,← Array.getElem?_toList,hl];simp[hj]
 ·unfold World.frozen?;rw[hb];simp
theorem info_u8:(Tryz.prog.info? 5).map (fun i=>(i.zero,i.size,i.bytes))=some (some (.int .u8 0),1,1):=by kernel_rfl
theorem wpList_make_bytes(w:World){ops:Array Oper}{rest:List Oper}{o:Oper}{a:Act}{Q:Exit→Act→World→Prop}
  (hg:o.guard=none) (l c:Operand) (hop:o.op=Op.makeSlice 89 l c) (kl kc:IntKind) (L C:Int) (n:Nat) (hl:a.eval l=.int kl L) (hc:a.eval c=.int kc C) (hL:L=(n:Int)) (hC:C=(n:Int))
  (h:n≤281474976710656) (hK:∀w',MadeB w w' n→wpList Tryz.prog ops Q rest (a.put o.dst (.slice (some ⟨w.heap.size,0,none⟩) n n)) w') :
  wpList Tryz.prog ops Q (o::rest) a w:=by
 obtain⟨i,hi,hz0,hz1,hz2⟩:=info_parts info_u8;subst hL;subst hC;exact wpList_make_row w hg l c 89 hop 5 i (.int .u8 0) Tryz.underlying89 hi hz0 hz1 rfl kl kc n hl hc (by rw[hz2];omega) (by omega) (hK _ (madeB w n 5))
theorem ByF.set{w:World}{b n:Nat}(h:ByF w b n){i:Nat}(x:Int)(hi:i<n):ByF (w.setCell ⟨b,i,none⟩ (.int .u8 x)) b n:=fun j hj=>by
 refine⟨?_,(World.frozen?_setCell _ _ _ _).trans (h j hj).2⟩;by_cases e:i=j
 ·subst e;obtain⟨y,hy⟩:=(h i hi).1;exact⟨x,World.cell?_setCell_same' _ _ _ (by rw[hy];rfl)⟩
 ·rw[cell?_setCell_ne _ _ _ _ _ e];exact(h j hj).1
theorem Tx.set{w:World}{b n:Nat}{f:Nat→Nat}{q i:Nat}(h:Tx w b n f q)(hb:ByF w b n)(hi:i<n)(hq:n-1-i=q):Tx (w.setCell ⟨b,i,none⟩ (.int .u8 ((48+f q:Nat):Int))) b n f (q+1):=fun j hj hjq=>by
 by_cases e:i=j
 ·subst e;obtain⟨y,hy⟩:=(hb i hi).1;rw[World.cell?_setCell_same' _ _ _ (by rw[hy];rfl),hq]
 ·rw[cell?_setCell_ne _ _ _ _ _ e];exact h j hj (by omega)
theorem addr_add(b j:Nat):(⟨b,0,none⟩:Addr).add j=⟨b,j,none⟩:=by
 unfold Addr.add;by_cases h:j=0
 ·subst h;rfl
 ·rw[if_neg h,Nat.zero_add]
theorem ret_str{a b:ByteArray}(h:a=b):Ending.returned (.string a)=.returned (.string b):=by rw[h]
theorem Tx.cells{w:World}{b n:Nat}{f:Nat→Nat}(hf:∀q,f q<10)(h:Tx w b n f n)(j:Nat)(hj:j<(txt f n).length) :
  w.cell? ((⟨b,0,none⟩:Addr).add j)=some (.int .u8 (((txt f n)[j]).toNat:Int)):=by
 have hj':j<n:=by rwa[txt_length]at hj
 have h1:=h j hj' (by omega);have h2:=gb_txt f hj';unfold gb at h2;rw[List.getElem?_eq_getElem hj]at h2;have h3:(txt f n)[j]=UInt8.ofNat (48+f (n-1-j)):=h2;rw[h3,toNat_dg (hf _)];rw[addr_add,h1]
theorem dig_zero:(dig 0).toArray=#[48]:=by rw[dig_small (by omega)];rfl
theorem digits_any(w:World)(v:Value)(n:Nat)(h:LimN w v n)(hb:Big n) :
  Calls Tryz.prog 112 #[v] w fun e w'=>e=.returned (.string ⟨(dig n).toArray⟩)∧Below w.heap.size w w':=by
 obtain⟨xs,la,na,rfl⟩:=h;have b1:=na.big hb;clear hb;have hsx:=la.1;by_cases hx:xs=[]
 ·subst hx;obtain⟨a,c,rfl⟩:=la.form;simp only[List.length_nil];go_enter Tryz.func112,Tryz.ntmps112
  go_wp2
  go_ret;exact⟨ret_str (by rw[valL_nil,dig_zero]),Below.refl _ _⟩
 ·have hpos:=na.ge hx;have hB:=Bp_pos (xs.length-1);have hv0:0<valL xs:=by omega
  have hL0:0<xs.length:=List.length_pos_iff.2 hx;have hfin:=dropZeros_dig (txt_all (dgt_lt xs) (9*xs.length)) (by rw[valS_limbs hsx];exact hv0);rw[valS_limbs hsx]at hfin;have HFIN:=zh hfin;clear hfin hpos hB hv0 hx na;rcases la with ⟨_,⟨rfl,rfl⟩|⟨b,off,cap,rfl,hcap,hcm,hbk,hax⟩⟩
  ·exact absurd hL0 (by decide)
  obtain⟨L,hL⟩:∃L,xs.length=L:=⟨_,rfl⟩;rw[hL]at b1 hcap HFIN hL0;have HL:=zh hL;obtain⟨N,hN⟩:∃N,N=9*L:=⟨_,rfl⟩;rw[←hN]at HFIN;have hNi:(L:Int)*9=(N:Int):=by omega
  have hne:¬(L:Int)=0:=by omega
  have hN0:N≤281474976710656:=by omega
  clear hN;generalize hf:dgt xs=f at HFIN;have HF:=zh hf;clear hf;go_enter Tryz.func112,Tryz.ntmps112;go_wp2_with (at_make;refine wpList_make_bytes _ rfl _ _ rfl _ _ _ _ N rfl rfl (by omega) (by omega) (by omega) ?_;intro w1 hmade);clear hL;have hms:=hmade.size;have hmr:=hmade.row;have hmb:=hmade.below;clear hmade
  go_loopw [17] (fun i W=>∃k:Nat,k≤L∧i=.int .i64 k∧ByF W w.heap.size N∧Tx W w.heap.size N f (9*k)∧Below w.heap.size w W) (fun i _=>L-(intOf i).toNat)
  case atStart=>exact⟨0,Nat.zero_le _,rfl,hmr,fun j _ h=>absurd h (by omega),hmb⟩
  case round =>
   obtain⟨k,hk,rfl,hrow,htx,hbw⟩:=hrel;by_cases hlt:k<L
   ·have c1:=hax.below hbw hbk k (by rw[HL.out];exact hlt);obtain⟨X,hX0,hXs,hXf,hXb⟩:∃X:Nat→Nat,X 0=gl xs k∧(∀p,X (p+1)=X p / 10)∧(∀p,p<9→f (9*k+p)=X p % 10)∧(∀p,X p<1000000000) :=
     ⟨fun p=>gl xs k / 10 ^ p,Nat.div_one _,fun p=>by show gl xs k / 10 ^ (p+1)=gl xs k / 10 ^ p / 10;rw[Nat.pow_succ,Nat.div_div_eq_div_mul],fun p hp=>by rw[←HF.out];exact dgt_at xs hp,
      fun p=>Nat.lt_of_le_of_lt (Nat.div_le_self _ _) (hsx.gl k)⟩
    rw[←hX0]at c1;have HX0:=zh hX0;have HXS:=zh hXs;have HXF:=zh hXf;have HXB:=zh hXb
    clear hX0 hXs hXf hXb
    go_wp2
    go_loopw [5,27] (fun lm pl W=>∃p:Nat,p≤9∧pl=.int .i64 p∧lm=.int .u64 (X p)∧ByF W w.heap.size N∧Tx W w.heap.size N f (9*k+p)∧Below w.heap.size w W) (fun _ pl _=>9-(intOf pl).toNat)
    case atStart=>exact⟨0,Nat.zero_le _,rfl,rfl,hrow,htx,hbw⟩
    case round =>
     obtain⟨p,hp,rfl,rfl,hrow,htx,hbw⟩:=hrel;by_cases hp9:p<9
     ·obtain⟨i,hi⟩:∃i,i=N-1-(9*k+p):=⟨_,rfl⟩;have hi1:i<N:=by omega
      have hi2:N-1-i=9*k+p:=by omega
      have hi3:(N:Int)-(k:Int)*9-1-(p:Int)=(i:Int):=by omega
      obtain⟨⟨y,hy⟩,hfr⟩:=hrow i hi1;have hxb:=HXB.out p;have hr2:=hrow.set ((48+f (9*k+p):Nat):Int) hi1;have ht2:=htx.set hrow hi1 hi2;rw[HXF.out p hp9]at hr2 ht2;have hc:((48+X p % 10:Nat):Int)=48+(X p:Int) % 10:=by omega
      rw[hc]at hr2 ht2;have HR2:=zh hr2;have HT2:=zh ht2;have HI1:=zh hi1
      clear hr2 ht2 hi2 hi hc
      go_wp2
      go_roundw
      case rel=>exact⟨p+1,by omega,by go_num,congrArg (Value.int .u64) (by rw[HXS.out p];omega),HR2.out,HT2.out,hbw.trans ((Wr.one wr w.heap.size i _).below (Nat.le_refl _) hbw.size)⟩
      case measure=>simp[intOf];omega
     ·obtain rfl:p=9:=by omega
      go_wp2
      go_roundw
      case rel=>exact⟨k+1,by omega,by go_num,hrow,htx,hbw⟩
      case measure=>simp[intOf];omega
   ·obtain rfl:k=L:=by omega
    rw[show 9*k=N from by omega]at htx;have hcv:=run_convert_bytes_back (P:=Tryz.prog) wr 89 9 5 ⟨w.heap.size,0,none⟩ N (txt f N) Tryz.underlying89 Tryz.underlying5 Tryz.underlying9 (htx.cells (fun q=>by rw[←HF.out];exact dgt_lt xs q));rw[txt_length]at hcv;go_wp2_with (refine(Tryz.strings_TrimLeft_one _ 48 (by decide) _).mono ?_;rintro e w' ⟨rfl,rfl⟩);go_ret;exact⟨ret_str (by show (⟨(Lib.trimLeftB (txt f N) 48).toArray⟩:ByteArray)=_;unfold Lib.trimLeftB;rw[HFIN.out]),hbw⟩
end Go.Proofs.YthgopcnagecbaaaGreatDoor
namespace Go.Proofs.YthgopcnagecbaaaGreatDoor
open Go.RowKit
theorem big_of_lt{n e:Nat}(h:n<10 ^ e)(he:e≤9663676416):Big n :=
 ⟨Nat.lt_of_lt_of_le h (by rw[←pow_nine];exact Nat.pow_le_pow_right (by decide) (by rw[top_eq];omega))⟩
theorem isNat_all{l:List UInt8}(h:isNat l=true):l.all isDig=true:=by
 unfold isNat at h;simp only[Bool.and_eq_true]at h;exact h.2
theorem isNat_pos{l:List UInt8}(h:isNat l=true):0<l.length:=by
 cases l with
 | nil=>cases h
 | cons c r=>simp
theorem nat_lt{s:ByteArray}(h:isNat s.data.toList=true):valS s.data.toList<10 ^ s.size:=valS_lt (isNat_all h)
theorem nat_size{s:ByteArray}(h:isNat s.data.toList=true):0<s.size:=isNat_pos h
theorem nat_big{s:ByteArray}(h:isNat s.data.toList=true)(hs:s.size≤1000000000):Big (valS s.data.toList):=big_of_lt (nat_lt h) (by omega)
theorem add_lt{m n a b:Nat}(h1:m<10 ^ a)(h2:n<10 ^ b):m+n<10 ^ (a+b+1):=by
 have e1:10 ^ a≤10 ^ (a+b):=Nat.pow_le_pow_right (by decide) (by omega);have e2:10 ^ b≤10 ^ (a+b):=Nat.pow_le_pow_right (by decide) (by omega);rw[Nat.pow_succ];omega
theorem mul_lt{m n a b:Nat}(h1:m<10 ^ a)(h2:n<10 ^ b):m*n<10 ^ (a+b):=by
 rw[Nat.pow_add];exact Nat.mul_lt_mul'' h1 h2
theorem gcd_lt{m n a b:Nat}(h1:m<10 ^ a)(h2:n<10 ^ b):Nat.gcd m n<10 ^ (a+b+1):=by
 have h3:=add_lt h1 h2;rcases Nat.eq_zero_or_pos m with h|h
 ·subst h;rw[Nat.gcd_zero_left];omega
 ·have:=Nat.le_of_dvd h (Nat.gcd_dvd_left m n);omega
def GiveS(w:World)(l:List UInt8)(e:Ending)(w':World):Prop:=e=.returned (.string ⟨l.toArray⟩)∧Below w.heap.size w w'
def addS(l r:List UInt8):List UInt8:=if isNat l&&isNat r then dig (valS l+valS r) else []
def mulS(l r:List UInt8):List UInt8:=if isNat l&&isNat r then dig (valS l*valS r) else []
def gcdS(l r:List UInt8):List UInt8:=if isNat l&&isNat r then dig (Nat.gcd (valS l) (valS r)) else []
theorem add_any(s t:ByteArray)(w:World)(hs:s.size≤1000000000)(ht:t.size≤1000000000) :
  Calls Tryz.prog 117 #[.string s,.string t] w (GiveS w (addS s.data.toList t.data.toList)):=by
 have c1:=fun w=>may_any s w (by omega);have c2:=fun w=>may_any t w (by omega)
 cases h1:isNat s.data.toList with
 | false =>
  have hr:addS s.data.toList t.data.toList=[]:=by unfold addS;rw[h1];rfl
  rw[hr];simp only[h1]at c1;clear hr h1 c2;go_enter Tryz.func117,Tryz.ntmps117;go_wp2_with fail;refine(c1 _).mono ?_;rintro e w' ⟨rfl,rfl⟩;go_wp2_with fail;go_ret;exact⟨rfl,Below.refl _ _⟩
 | true=>cases h2:isNat t.data.toList with
  | false =>
   have hr:addS s.data.toList t.data.toList=[]:=by unfold addS;rw[h1,h2];rfl
   rw[hr];simp only[h1]at c1;simp only[h2]at c2;clear hr h1 h2;go_enter Tryz.func117,Tryz.ntmps117;go_wp2_with fail;refine(c1 _).mono ?_;rintro e w' ⟨rfl,rfl⟩;go_wp2_with fail;refine(c2 _).mono ?_;rintro e w' ⟨rfl,rfl⟩;go_wp2_with fail;go_ret;exact⟨rfl,Below.refl _ _⟩
  | true =>
   have hr:addS s.data.toList t.data.toList=dig (valS s.data.toList+valS t.data.toList):=by unfold addS;rw[h1,h2];rfl
   rw[hr];have r1:=fun w=>read_any s w (by omega) (nat_size h1) (isNat_all h1);have r2:=fun w=>read_any t w (by omega) (nat_size h2) (isNat_all h2);have B1:=nat_big h1 hs;have B2:=nat_big h2 ht;have B3:Big (valS s.data.toList+valS t.data.toList):=big_of_lt (add_lt (nat_lt h1) (nat_lt h2)) (by omega);simp only[h1]at c1;simp only[h2]at c2;clear hr h1 h2;generalize valS s.data.toList=m at *;generalize valS t.data.toList=n at *;have HB:=zh (And.intro B1 (And.intro B2 B3));clear B1 B2 B3 hs ht;go_enter Tryz.func117,Tryz.ntmps117;go_wp2_with fail;refine(c1 _).mono ?_;rintro e w' ⟨rfl,rfl⟩;go_wp2_with fail;refine(c2 _).mono ?_;rintro e w' ⟨rfl,rfl⟩;go_wp2_with fail;refine(r1 _).mono ?_;rintro e w1 ⟨v1,rfl,l1,b1⟩;go_wp2_with fail;refine(r2 _).mono ?_;rintro e w2 ⟨v2,rfl,l2,b2⟩;go_wp2_with fail;refine(sum_any _ _ _ _ _ (l1.below b2) l2 HB.out.1 HB.out.2.1).mono ?_;rintro e w3 ⟨v3,rfl,l3,b3⟩;go_wp2_with fail;refine(digits_any _ _ _ l3 HB.out.2.2).mono ?_;rintro e w4 ⟨rfl,b4⟩;go_wp2_with fail;go_ret;have b12:=b1.trans (b2.mono b1.size);have b123:=b12.trans (b3.mono b12.size);exact⟨rfl,b123.trans (b4.mono b123.size)⟩
theorem mul_any(s t:ByteArray)(w:World)(hs:s.size≤1000000000)(ht:t.size≤1000000000) :
  Calls Tryz.prog 105 #[.string s,.string t] w (GiveS w (mulS s.data.toList t.data.toList)):=by
 have c1:=fun w=>may_any s w (by omega);have c2:=fun w=>may_any t w (by omega)
 cases h1:isNat s.data.toList with
 | false =>
  have hr:mulS s.data.toList t.data.toList=[]:=by unfold mulS;rw[h1];rfl
  rw[hr];simp only[h1]at c1;clear hr h1 c2;go_enter Tryz.func105,Tryz.ntmps105;go_wp2_with fail;refine(c1 _).mono ?_;rintro e w' ⟨rfl,rfl⟩;go_wp2_with fail;go_ret;exact⟨rfl,Below.refl _ _⟩
 | true=>cases h2:isNat t.data.toList with
  | false =>
   have hr:mulS s.data.toList t.data.toList=[]:=by unfold mulS;rw[h1,h2];rfl
   rw[hr];simp only[h1]at c1;simp only[h2]at c2;clear hr h1 h2;go_enter Tryz.func105,Tryz.ntmps105;go_wp2_with fail;refine(c1 _).mono ?_;rintro e w' ⟨rfl,rfl⟩;go_wp2_with fail;refine(c2 _).mono ?_;rintro e w' ⟨rfl,rfl⟩;go_wp2_with fail;go_ret;exact⟨rfl,Below.refl _ _⟩
  | true =>
   have hr:mulS s.data.toList t.data.toList=dig (valS s.data.toList*valS t.data.toList):=by unfold mulS;rw[h1,h2];rfl
   rw[hr];have r1:=fun w=>read_any s w (by omega) (nat_size h1) (isNat_all h1);have r2:=fun w=>read_any t w (by omega) (nat_size h2) (isNat_all h2);have B1:=nat_big h1 hs;have B2:=nat_big h2 ht;have B3:Big (valS s.data.toList*valS t.data.toList):=big_of_lt (mul_lt (nat_lt h1) (nat_lt h2)) (by omega);simp only[h1]at c1;simp only[h2]at c2;clear hr h1 h2;generalize valS s.data.toList=m at *;generalize valS t.data.toList=n at *;have HB:=zh (And.intro B1 (And.intro B2 B3));clear B1 B2 B3 hs ht;go_enter Tryz.func105,Tryz.ntmps105;go_wp2_with fail;refine(c1 _).mono ?_;rintro e w' ⟨rfl,rfl⟩;go_wp2_with fail;refine(c2 _).mono ?_;rintro e w' ⟨rfl,rfl⟩;go_wp2_with fail;refine(r1 _).mono ?_;rintro e w1 ⟨v1,rfl,l1,b1⟩;go_wp2_with fail;refine(r2 _).mono ?_;rintro e w2 ⟨v2,rfl,l2,b2⟩;go_wp2_with fail;refine(product_any _ _ _ _ _ (l1.below b2) l2 HB.out.1 HB.out.2.1).mono ?_;rintro e w3 ⟨v3,rfl,l3,b3⟩;go_wp2_with fail;refine(digits_any _ _ _ l3 HB.out.2.2).mono ?_;rintro e w4 ⟨rfl,b4⟩;go_wp2_with fail;go_ret;have b12:=b1.trans (b2.mono b1.size);have b123:=b12.trans (b3.mono b12.size);exact⟨rfl,b123.trans (b4.mono b123.size)⟩
theorem gcd_any(s t:ByteArray)(w:World)(hs:s.size≤1000000000)(ht:t.size≤1000000000) :
  Calls Tryz.prog 81 #[.string s,.string t] w (GiveS w (gcdS s.data.toList t.data.toList)):=by
 have c1:=fun w=>may_any s w (by omega);have c2:=fun w=>may_any t w (by omega)
 cases h1:isNat s.data.toList with
 | false =>
  have hr:gcdS s.data.toList t.data.toList=[]:=by unfold gcdS;rw[h1];rfl
  rw[hr];simp only[h1]at c1;clear hr h1 c2;go_enter Tryz.func81,Tryz.ntmps81;go_wp2_with fail;refine(c1 _).mono ?_;rintro e w' ⟨rfl,rfl⟩;go_wp2_with fail;go_ret;exact⟨rfl,Below.refl _ _⟩
 | true=>cases h2:isNat t.data.toList with
  | false =>
   have hr:gcdS s.data.toList t.data.toList=[]:=by unfold gcdS;rw[h1,h2];rfl
   rw[hr];simp only[h1]at c1;simp only[h2]at c2;clear hr h1 h2;go_enter Tryz.func81,Tryz.ntmps81;go_wp2_with fail;refine(c1 _).mono ?_;rintro e w' ⟨rfl,rfl⟩;go_wp2_with fail;refine(c2 _).mono ?_;rintro e w' ⟨rfl,rfl⟩;go_wp2_with fail;go_ret;exact⟨rfl,Below.refl _ _⟩
  | true =>
   have hr:gcdS s.data.toList t.data.toList=dig (Nat.gcd (valS s.data.toList) (valS t.data.toList)):=by unfold gcdS;rw[h1,h2];rfl
   rw[hr];have r1:=fun w=>read_any s w (by omega) (nat_size h1) (isNat_all h1);have r2:=fun w=>read_any t w (by omega) (nat_size h2) (isNat_all h2);have B1:=nat_big h1 hs;have B2:=nat_big h2 ht;have B3:Big (Nat.gcd (valS s.data.toList) (valS t.data.toList)):=big_of_lt (gcd_lt (nat_lt h1) (nat_lt h2)) (by omega);simp only[h1]at c1;simp only[h2]at c2;clear hr h1 h2;generalize valS s.data.toList=m at *;generalize valS t.data.toList=n at *;have HB:=zh (And.intro B1 (And.intro B2 B3));clear B1 B2 B3 hs ht;go_enter Tryz.func81,Tryz.ntmps81;go_wp2_with fail;refine(c1 _).mono ?_;rintro e w' ⟨rfl,rfl⟩;go_wp2_with fail;refine(c2 _).mono ?_;rintro e w' ⟨rfl,rfl⟩;go_wp2_with fail;refine(r1 _).mono ?_;rintro e w1 ⟨v1,rfl,l1,b1⟩;go_wp2_with fail;refine(r2 _).mono ?_;rintro e w2 ⟨v2,rfl,l2,b2⟩;go_wp2_with fail;refine(divisor_any _ _ _ _ _ (l1.below b2) l2 HB.out.1 HB.out.2.1).mono ?_;rintro e w3 ⟨v3,rfl,l3,b3⟩;go_wp2_with fail;refine(digits_any _ _ _ l3 HB.out.2.2).mono ?_;rintro e w4 ⟨rfl,b4⟩;go_wp2_with fail;go_ret;have b12:=b1.trans (b2.mono b1.size);have b123:=b12.trans (b3.mono b12.size);exact⟨rfl,b123.trans (b4.mono b123.size)⟩
end Go.Proofs.YthgopcnagecbaaaGreatDoor
namespace Go.Proofs.YthgopcnagecbaaaGreatDoor
open Go.RowKit
def cmpS(l r:List UInt8):Int:=if isNat l&&isNat r then cmpN (valS l) (valS r) else 0
theorem cmp_any(s t:ByteArray)(w:World)(hs:s.size≤1000000000)(ht:t.size≤1000000000) :
  Calls Tryz.prog 132 #[.string s,.string t] w fun e w'=>e=.returned (.int .i64 (cmpS s.data.toList t.data.toList))∧w=w':=by
 have c1:=fun w=>may_any s w (by omega);have c2:=fun w=>may_any t w (by omega)
 cases h1:isNat s.data.toList with
 | false =>
  have hr:cmpS s.data.toList t.data.toList=0:=by unfold cmpS;rw[h1];rfl
  rw[hr];simp only[h1]at c1;clear hr h1 c2;go_enter Tryz.func132,Tryz.ntmps132;go_wp2_with fail;refine(c1 _).mono ?_;rintro e w' ⟨rfl,rfl⟩;go_wp2_with fail;go_ret;exact⟨rfl,rfl⟩
 | true=>cases h2:isNat t.data.toList with
  | false =>
   have hr:cmpS s.data.toList t.data.toList=0:=by unfold cmpS;rw[h1,h2];rfl
   rw[hr];simp only[h1]at c1;simp only[h2]at c2;clear hr h1 h2;go_enter Tryz.func132,Tryz.ntmps132;go_wp2_with fail;refine(c1 _).mono ?_;rintro e w' ⟨rfl,rfl⟩;go_wp2_with fail;refine(c2 _).mono ?_;rintro e w' ⟨rfl,rfl⟩;go_wp2_with fail;go_ret;exact⟨rfl,rfl⟩
  | true =>
   have hr:cmpS s.data.toList t.data.toList=cmpN (valS s.data.toList) (valS t.data.toList):=by unfold cmpS;rw[h1,h2];rfl
   rw[hr];have q1:s.size<t.size→cmpN (valS s.data.toList) (valS t.data.toList)=-1:=fun h=>by
    unfold cmpN;rw[if_pos (shorter_lt h1 h2 h)]
   have q2:t.size<s.size→cmpN (valS s.data.toList) (valS t.data.toList)=1:=fun h=>by
    have:=shorter_lt h2 h1 h;unfold cmpN;rw[if_neg (by omega),if_neg (by omega)]
   have q3:s.size=t.size→Lib.compareBytes s.data.toList t.data.toList=cmpN (valS s.data.toList) (valS t.data.toList):=fun h=>compare_same (isNat_all h1) (isNat_all h2) h;simp only[h1]at c1;simp only[h2]at c2;clear hr h1 h2;generalize cmpN (valS s.data.toList) (valS t.data.toList)=z at *;rcases(by omega:s.size<t.size∨t.size<s.size∨s.size=t.size) with h|h|h
   ·obtain rfl:=q1 h;clear q1 q2 q3;go_enter Tryz.func132,Tryz.ntmps132;go_wp2_with fail;refine(c1 _).mono ?_;rintro e w' ⟨rfl,rfl⟩;go_wp2_with fail;refine(c2 _).mono ?_;rintro e w' ⟨rfl,rfl⟩;go_wp2_with fail;go_ret;exact⟨rfl,rfl⟩
   ·obtain rfl:=q2 h;clear q1 q2 q3;have h':¬s.size<t.size:=by omega
    go_enter Tryz.func132,Tryz.ntmps132;go_wp2_with fail;refine(c1 _).mono ?_;rintro e w' ⟨rfl,rfl⟩;go_wp2_with fail;refine(c2 _).mono ?_;rintro e w' ⟨rfl,rfl⟩;go_wp2_with fail;go_ret;exact⟨rfl,rfl⟩
   ·have hz:=q3 h;have c3:=fun w=>Tryz.strings_Compare s t w;rw[hz]at c3;clear q1 q2 q3 hz;have h':¬s.size<t.size:=by omega
    have h'':¬t.size<s.size:=by omega
    clear h;go_enter Tryz.func132,Tryz.ntmps132;go_wp2_with fail;refine(c1 _).mono ?_;rintro e w' ⟨rfl,rfl⟩;go_wp2_with fail;refine(c2 _).mono ?_;rintro e w' ⟨rfl,rfl⟩;go_wp2_with fail;refine(c3 _).mono ?_;rintro e w' ⟨rfl,rfl⟩;go_wp2_with fail;go_ret;exact⟨rfl,rfl⟩
def GiveSB(w:World)(x:List UInt8×Bool)(e:Ending)(w':World):Prop:=e=.returned (.tuple #[.string ⟨x.1.toArray⟩,.bool x.2])∧Below w.heap.size w w'
def subS(l r:List UInt8):List UInt8×Bool:=if (isNat l&&isNat r)&&decide (valS r≤valS l) then (dig (valS l-valS r),true) else ([],false)
def GiveSSB(w:World)(x:List UInt8×List UInt8×Bool)(e:Ending)(w':World):Prop:=e=.returned (.tuple #[.string ⟨x.1.toArray⟩,.string ⟨x.2.1.toArray⟩,.bool x.2.2])∧Below w.heap.size w w'
def divS(l r:List UInt8):List UInt8×List UInt8×Bool:=if (isNat l&&isNat r)&&decide (0<valS r) then (dig (valS l / valS r),dig (valS l % valS r),true) else ([],[],false)
theorem nat_zero{l:List UInt8}(h:isNat l=true)(h0:valS l=0):l=[48]:=by
 have:=dig_valS h;rw[h0,dig_small (by omega)]at this;exact this.symm
theorem cmpS_nat{l r:List UInt8}(h1:isNat l=true)(h2:isNat r=true):cmpS l r=cmpN (valS l) (valS r):=by unfold cmpS;rw[h1,h2];rfl
theorem sub_any(s t:ByteArray)(w:World)(hs:s.size≤1000000000)(ht:t.size≤1000000000) :
  Calls Tryz.prog 118 #[.string s,.string t] w (GiveSB w (subS s.data.toList t.data.toList)):=by
 have c1:=fun w=>may_any s w (by omega);have c2:=fun w=>may_any t w (by omega);have c3:=fun w=>cmp_any s t w hs ht
 cases h1:isNat s.data.toList with
 | false =>
  have hr:subS s.data.toList t.data.toList=([],false):=by unfold subS;rw[h1];rfl
  rw[hr];simp only[h1]at c1;clear hr h1 c2 c3;go_enter Tryz.func118,Tryz.ntmps118;go_wp2_with fail;refine(c1 _).mono ?_;rintro e w' ⟨rfl,rfl⟩;go_wp2_with fail
  go_ret2
  exact⟨rfl,Below.refl _ _⟩
 | true=>cases h2:isNat t.data.toList with
  | false =>
   have hr:subS s.data.toList t.data.toList=([],false):=by unfold subS;rw[h1,h2];rfl
   rw[hr];simp only[h1]at c1;simp only[h2]at c2;clear hr h1 h2 c3;go_enter Tryz.func118,Tryz.ntmps118;go_wp2_with fail;refine(c1 _).mono ?_;rintro e w' ⟨rfl,rfl⟩;go_wp2_with fail;refine(c2 _).mono ?_;rintro e w' ⟨rfl,rfl⟩;go_wp2_with fail
   go_ret2
   exact⟨rfl,Below.refl _ _⟩
  | true =>
   rw[cmpS_nat h1 h2]at c3;by_cases hlt:valS s.data.toList<valS t.data.toList
   ·have hr:subS s.data.toList t.data.toList=([],false):=by
     unfold subS;rw[h1,h2];have:decide (valS t.data.toList≤valS s.data.toList)=false:=by simp;omega
     rw[this];rfl
    rw[hr];have hz:cmpN (valS s.data.toList) (valS t.data.toList)=-1:=by unfold cmpN;rw[if_pos hlt]
    rw[hz]at c3;simp only[h1]at c1;simp only[h2]at c2;clear hr h1 h2 hz hlt;go_enter Tryz.func118,Tryz.ntmps118;go_wp2_with fail;refine(c1 _).mono ?_;rintro e w' ⟨rfl,rfl⟩;go_wp2_with fail;refine(c2 _).mono ?_;rintro e w' ⟨rfl,rfl⟩;go_wp2_with fail;refine(c3 _).mono ?_;rintro e w' ⟨rfl,rfl⟩;go_wp2_with fail
    go_ret2
    exact⟨rfl,Below.refl _ _⟩
   ·have hle:valS t.data.toList≤valS s.data.toList:=by omega
    have hr:subS s.data.toList t.data.toList=(dig (valS s.data.toList-valS t.data.toList),true):=by
     unfold subS;rw[h1,h2];have:decide (valS t.data.toList≤valS s.data.toList)=true:=by simpa using hle
     rw[this];rfl
    rw[hr];have hz:¬cmpN (valS s.data.toList) (valS t.data.toList)<0:=by
     unfold cmpN;rw[if_neg hlt];split<;>omega
    have r1:=fun w=>read_any s w (by omega) (nat_size h1) (isNat_all h1);have r2:=fun w=>read_any t w (by omega) (nat_size h2) (isNat_all h2);have B1:=nat_big h1 hs;have B3:Big (valS s.data.toList-valS t.data.toList):=B1.le (Nat.sub_le _ _);simp only[h1]at c1;simp only[h2]at c2;clear hr h1 h2 hlt;generalize cmpN (valS s.data.toList) (valS t.data.toList)=z at *;generalize valS s.data.toList=m at *;generalize valS t.data.toList=n at *;have HB:=zh (And.intro B1 (And.intro hle B3));clear B1 B3 hle hs ht;go_enter Tryz.func118,Tryz.ntmps118;go_wp2_with fail;refine(c1 _).mono ?_;rintro e w' ⟨rfl,rfl⟩;go_wp2_with fail;refine(c2 _).mono ?_;rintro e w' ⟨rfl,rfl⟩;go_wp2_with fail;refine(c3 _).mono ?_;rintro e w' ⟨rfl,rfl⟩;go_wp2_with fail;refine(r1 _).mono ?_;rintro e w1 ⟨v1,rfl,l1,b1⟩;go_wp2_with fail;refine(r2 _).mono ?_;rintro e w2 ⟨v2,rfl,l2,b2⟩;go_wp2_with fail;refine(difference_any _ _ _ _ _ (l1.below b2) l2 HB.out.1 HB.out.2.1).mono ?_;rintro e w3 ⟨v3,rfl,l3,b3⟩;go_wp2_with fail;refine(digits_any _ _ _ l3 HB.out.2.2).mono ?_;rintro e w4 ⟨rfl,b4⟩;go_wp2_with fail
    go_ret2
    have b12:=b1.trans (b2.mono b1.size);have b123:=b12.trans (b3.mono b12.size);exact⟨rfl,b123.trans (b4.mono b123.size)⟩
end Go.Proofs.YthgopcnagecbaaaGreatDoor
namespace Go.Proofs.YthgopcnagecbaaaGreatDoor
open Go.RowKit
theorem div_any(s t:ByteArray)(w:World)(hs:s.size≤1000000000)(ht:t.size≤1000000000) :
  Calls Tryz.prog 102 #[.string s,.string t] w (GiveSSB w (divS s.data.toList t.data.toList)):=by
 have c1:=fun w=>may_any s w (by omega);have c2:=fun w=>may_any t w (by omega)
 cases h1:isNat s.data.toList with
 | false =>
  have hr:divS s.data.toList t.data.toList=([],[],false):=by unfold divS;rw[h1];rfl
  rw[hr];simp only[h1]at c1;clear hr h1 c2;go_enter Tryz.func102,Tryz.ntmps102;go_wp2_with fail;refine(c1 _).mono ?_;rintro e w' ⟨rfl,rfl⟩;go_wp2_with fail
  go_ret3
  exact⟨rfl,Below.refl _ _⟩
 | true=>cases h2:isNat t.data.toList with
  | false =>
   have hr:divS s.data.toList t.data.toList=([],[],false):=by unfold divS;rw[h1,h2];rfl
   rw[hr];simp only[h1]at c1;simp only[h2]at c2;clear hr h1 h2;go_enter Tryz.func102,Tryz.ntmps102;go_wp2_with fail;refine(c1 _).mono ?_;rintro e w' ⟨rfl,rfl⟩;go_wp2_with fail;refine(c2 _).mono ?_;rintro e w' ⟨rfl,rfl⟩;go_wp2_with fail
   go_ret3
   exact⟨rfl,Below.refl _ _⟩
  | true =>
   by_cases h0:valS t.data.toList=0
   ·have hr:divS s.data.toList t.data.toList=([],[],false):=by
     unfold divS;rw[h1,h2,h0];rfl
    rw[hr];have ht0:t=⟨#[48]⟩:=by
     have:=nat_zero h2 h0;have e:t.data=#[48]:=by rw[←Array.toArray_toList (xs:=t.data),this]
     cases t;simp only at e;rw[e]
    simp only[h1]at c1;simp only[h2]at c2;clear hr h1 h2 h0;subst ht0;go_enter Tryz.func102,Tryz.ntmps102;go_wp2_with fail;refine(c1 _).mono ?_;rintro e w' ⟨rfl,rfl⟩;go_wp2_with fail;refine(c2 _).mono ?_;rintro e w' ⟨rfl,rfl⟩;go_wp2_with fail
    go_ret3
    exact⟨rfl,Below.refl _ _⟩
   ·have h0':0<valS t.data.toList:=by omega
    have hr:divS s.data.toList t.data.toList=(dig (valS s.data.toList / valS t.data.toList),dig (valS s.data.toList % valS t.data.toList),true):=by
     unfold divS;rw[h1,h2];have:decide (0<valS t.data.toList)=true:=by simpa using h0'
     rw[this];rfl
    rw[hr];have hne:¬t.data.toList=[48]:=fun e=>h0 (by rw[e];rfl);have hnb:(t.toList == [48])=false:=by rw[ByteArray.toList_eq];simpa using hne
    have hn2:¬t.toList=[48]:=by rw[ByteArray.toList_eq];exact hne
    clear hne;have r1:=fun w=>read_any s w (by omega) (nat_size h1) (isNat_all h1);have r2:=fun w=>read_any t w (by omega) (nat_size h2) (isNat_all h2);have B1:=nat_big h1 hs;have B2:=nat_big h2 ht;have B3:Big (valS s.data.toList / valS t.data.toList):=B1.le (Nat.div_le_self _ _);have B4:Big (valS s.data.toList % valS t.data.toList):=B1.le (Nat.mod_le _ _);simp only[h1]at c1;simp only[h2]at c2;clear hr h1 h2 h0;generalize valS s.data.toList=m at *;generalize valS t.data.toList=n at *;have HB:=zh (And.intro B1 (And.intro B2 (And.intro h0' (And.intro B3 B4))));clear B1 B2 B3 B4 h0' hs ht;go_enter Tryz.func102,Tryz.ntmps102;go_wp2_with fail;refine(c1 _).mono ?_;rintro e w' ⟨rfl,rfl⟩;go_wp2_with fail;refine(c2 _).mono ?_;rintro e w' ⟨rfl,rfl⟩;go_wp2_with fail;refine(r1 _).mono ?_;rintro e w1 ⟨v1,rfl,l1,b1⟩;go_wp2_with fail;refine(r2 _).mono ?_;rintro e w2 ⟨v2,rfl,l2,b2⟩;go_wp2_with fail;refine(divide_any _ _ _ _ _ (l1.below b2) l2 HB.out.1 HB.out.2.1 HB.out.2.2.1).mono ?_;rintro e w3 ⟨v3,v4,rfl,l3,l4,b3⟩;go_wp2_with fail;refine(digits_any _ _ _ l3 HB.out.2.2.2.1).mono ?_;rintro e w4 ⟨rfl,b4⟩;go_wp2_with fail;refine(digits_any _ _ _ (l4.below b4) HB.out.2.2.2.2).mono ?_;rintro e w5 ⟨rfl,b5⟩;go_wp2_with fail
    go_ret3
    have b12:=b1.trans (b2.mono b1.size);have b123:=b12.trans (b3.mono b12.size);have b1234:=b123.trans (b4.mono b123.size);exact⟨rfl,b1234.trans (b5.mono b1234.size)⟩
end Go.Proofs.YthgopcnagecbaaaGreatDoor
namespace Go.Proofs.YthgopcnagecbaaaGreatDoor
open Go.RowKit
def ofS(n:Int):List UInt8:=if n<0 then [] else dig n.toNat
end Go.Proofs.YthgopcnagecbaaaGreatDoor
