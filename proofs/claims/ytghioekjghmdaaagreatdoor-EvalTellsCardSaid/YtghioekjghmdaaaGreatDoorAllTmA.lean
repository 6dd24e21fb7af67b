/- Own work. -/
import Derived.Laws.StructEq
import Derived.Test.YtghioekjghmdaaaGreatDoorAllRefT8
import Derived.Test.YtghioekjghmdaaaGreatDoorAllBk1M
set_option linter.unusedSimpArgs false
set_option linter.unusedVariables false
set_option maxHeartbeats 4000000
set_option maxRecDepth 100000
namespace Go.Proofs.YtghioekjghmdaaaGreatDoor
open Go.RowKit
open Tm (Nd Tr arN arI astB okN)
def arL:List Int:=[0,0,0,0,0,1,2,2,2,2,2,2,3]
def wdL:List (List UInt8):=[[110,117,109],[112,120],[97,118,103],[104,105],[108,111],[45],[43],[45],[42],[47],[109,97,120],[109,105,110],[105,102]]
structure GoodX(w:World):Prop where
 tab:GoodT w
 dec:GoodD w
 ar:∀ (k:Nat) (x:Int),arL[k]?=some x→w.cell? ⟨0,k,none⟩=some (.int .i64 x)
 wd:∀ (k:Nat) (x:List UInt8),wdL[k]?=some x→w.cell? ⟨1,k,none⟩=some (.string ⟨x.toArray⟩)
theorem GoodX.below{w w':World}(h:GoodX w)(hb:Below w.heap.size w w'):GoodX w':=by
 have la:0<w.heap.size:=World.block_lt_of_cell? w ⟨0,0,none⟩ (h.ar 0 _ rfl);have lw:1<w.heap.size:=World.block_lt_of_cell? w ⟨1,0,none⟩ (h.wd 0 _ rfl);exact⟨h.tab.below hb,h.dec.below hb,fun k x e=>(hb.cell (p:=⟨0,k,none⟩) la).trans (h.ar k x e),fun k x e=>(hb.cell (p:=⟨1,k,none⟩) lw).trans (h.wd k x e)⟩
theorem retB{a b:Bool}(h:a=b):Ending.returned (.bool a)=.returned (.bool b):=by rw[h]
theorem tarity_0(w:World)(hg:GoodX w):Calls Tryz.prog 65 #[.int .i64 0] w (GiveI w 0):=by
 have c:w.cell? ⟨0,0,none⟩=some (.int .i64 0):=hg.ar 0 0 rfl;clear hg;go_enter Tryz.func65,Tryz.ntmps65;go_wp2_with fail;go_ret;exact⟨rfl,Below.refl _ _⟩
theorem tarity_1(w:World)(hg:GoodX w):Calls Tryz.prog 65 #[.int .i64 1] w (GiveI w 0):=by
 have c:w.cell? ⟨0,1,none⟩=some (.int .i64 0):=hg.ar 1 0 rfl;clear hg;go_enter Tryz.func65,Tryz.ntmps65;go_wp2_with fail;go_ret;exact⟨rfl,Below.refl _ _⟩
theorem tarity_2(w:World)(hg:GoodX w):Calls Tryz.prog 65 #[.int .i64 2] w (GiveI w 0):=by
 have c:w.cell? ⟨0,2,none⟩=some (.int .i64 0):=hg.ar 2 0 rfl;clear hg;go_enter Tryz.func65,Tryz.ntmps65;go_wp2_with fail;go_ret;exact⟨rfl,Below.refl _ _⟩
theorem tarity_3(w:World)(hg:GoodX w):Calls Tryz.prog 65 #[.int .i64 3] w (GiveI w 0):=by
 have c:w.cell? ⟨0,3,none⟩=some (.int .i64 0):=hg.ar 3 0 rfl;clear hg;go_enter Tryz.func65,Tryz.ntmps65;go_wp2_with fail;go_ret;exact⟨rfl,Below.refl _ _⟩
theorem tarity_4(w:World)(hg:GoodX w):Calls Tryz.prog 65 #[.int .i64 4] w (GiveI w 0):=by
 have c:w.cell? ⟨0,4,none⟩=some (.int .i64 0):=hg.ar 4 0 rfl;clear hg;go_enter Tryz.func65,Tryz.ntmps65;go_wp2_with fail;go_ret;exact⟨rfl,Below.refl _ _⟩
theorem tarity_5(w:World)(hg:GoodX w):Calls Tryz.prog 65 #[.int .i64 5] w (GiveI w 1):=by
 have c:w.cell? ⟨0,5,none⟩=some (.int .i64 1):=hg.ar 5 1 rfl;clear hg;go_enter Tryz.func65,Tryz.ntmps65;go_wp2_with fail;go_ret;exact⟨rfl,Below.refl _ _⟩
theorem tarity_6(w:World)(hg:GoodX w):Calls Tryz.prog 65 #[.int .i64 6] w (GiveI w 2):=by
 have c:w.cell? ⟨0,6,none⟩=some (.int .i64 2):=hg.ar 6 2 rfl;clear hg;go_enter Tryz.func65,Tryz.ntmps65;go_wp2_with fail;go_ret;exact⟨rfl,Below.refl _ _⟩
theorem tarity_7(w:World)(hg:GoodX w):Calls Tryz.prog 65 #[.int .i64 7] w (GiveI w 2):=by
 have c:w.cell? ⟨0,7,none⟩=some (.int .i64 2):=hg.ar 7 2 rfl;clear hg;go_enter Tryz.func65,Tryz.ntmps65;go_wp2_with fail;go_ret;exact⟨rfl,Below.refl _ _⟩
theorem tarity_8(w:World)(hg:GoodX w):Calls Tryz.prog 65 #[.int .i64 8] w (GiveI w 2):=by
 have c:w.cell? ⟨0,8,none⟩=some (.int .i64 2):=hg.ar 8 2 rfl;clear hg;go_enter Tryz.func65,Tryz.ntmps65;go_wp2_with fail;go_ret;exact⟨rfl,Below.refl _ _⟩
theorem tarity_9(w:World)(hg:GoodX w):Calls Tryz.prog 65 #[.int .i64 9] w (GiveI w 2):=by
 have c:w.cell? ⟨0,9,none⟩=some (.int .i64 2):=hg.ar 9 2 rfl;clear hg;go_enter Tryz.func65,Tryz.ntmps65;go_wp2_with fail;go_ret;exact⟨rfl,Below.refl _ _⟩
theorem tarity_10(w:World)(hg:GoodX w):Calls Tryz.prog 65 #[.int .i64 10] w (GiveI w 2):=by
 have c:w.cell? ⟨0,10,none⟩=some (.int .i64 2):=hg.ar 10 2 rfl;clear hg;go_enter Tryz.func65,Tryz.ntmps65;go_wp2_with fail;go_ret;exact⟨rfl,Below.refl _ _⟩
theorem tarity_11(w:World)(hg:GoodX w):Calls Tryz.prog 65 #[.int .i64 11] w (GiveI w 2):=by
 have c:w.cell? ⟨0,11,none⟩=some (.int .i64 2):=hg.ar 11 2 rfl;clear hg;go_enter Tryz.func65,Tryz.ntmps65;go_wp2_with fail;go_ret;exact⟨rfl,Below.refl _ _⟩
theorem tarity_12(w:World)(hg:GoodX w):Calls Tryz.prog 65 #[.int .i64 12] w (GiveI w 3):=by
 have c:w.cell? ⟨0,12,none⟩=some (.int .i64 3):=hg.ar 12 3 rfl;clear hg;go_enter Tryz.func65,Tryz.ntmps65;go_wp2_with fail;go_ret;exact⟨rfl,Below.refl _ _⟩
theorem tarity_no(op:Int)(w:World)(h:op<0∨12<op):Calls Tryz.prog 65 #[.int .i64 op] w (GiveI w (-1)):=by
 by_cases h1:op<0
 ·go_enter Tryz.func65,Tryz.ntmps65;go_wp2_with fail;go_ret;exact⟨rfl,Below.refl _ _⟩
 ·have h2:13≤op:=by omega
  clear h;go_enter Tryz.func65,Tryz.ntmps65;go_wp2_with fail;go_ret;exact⟨rfl,Below.refl _ _⟩
theorem tarity_any(op:Int)(w:World)(hg:GoodX w):Calls Tryz.prog 65 #[.int .i64 op] w (GiveI w (arI op)):=by
 by_cases h:op<0∨12<op
 ·have e:arI op=-1:=by unfold arI arN;rw[if_pos h]
  rw[e];exact tarity_no op w h
 ·have h:op=0∨op=1∨op=2∨op=3∨op=4∨op=5∨op=6∨op=7∨op=8∨op=9∨op=10∨op=11∨op=12:=by omega
  rcases h with rfl|rfl|rfl|rfl|rfl|rfl|rfl|rfl|rfl|rfl|rfl|rfl|rfl
  ·exact tarity_0 w hg
  ·exact tarity_1 w hg
  ·exact tarity_2 w hg
  ·exact tarity_3 w hg
  ·exact tarity_4 w hg
  ·exact tarity_5 w hg
  ·exact tarity_6 w hg
  ·exact tarity_7 w hg
  ·exact tarity_8 w hg
  ·exact tarity_9 w hg
  ·exact tarity_10 w hg
  ·exact tarity_11 w hg
  ·exact tarity_12 w hg
def dayI(n:Int):Bool:=decide (0≤n)&&decide (n≤9999)
def spI(a b:Int):Bool:=(dayI a&&dayI b)&&(decide (a≤b)&&decide (b-a<60))
theorem tday_any(n:Int)(w:World):Calls Tryz.prog 121 #[.int .i64 n] w (GiveB w (dayI n)):=by
 by_cases h1:0≤n
 ·by_cases h2:n≤9999
  ·have HR:Hid (dayI n=true):=zh (by unfold dayI;rw[decide_eq_true h1,decide_eq_true h2];rfl);go_enter Tryz.func121,Tryz.ntmps121
   go_wp2
   go_ret;exact⟨retB (by rw[HR.out]),Below.refl _ _⟩
  ·have HR:Hid (dayI n=false):=zh (by unfold dayI;rw[decide_eq_false h2,Bool.and_false]);go_enter Tryz.func121,Tryz.ntmps121
   go_wp2
   go_ret;exact⟨retB (by rw[HR.out]<;>simp[h2]),Below.refl _ _⟩
 ·have HR:Hid (dayI n=false):=zh (by unfold dayI;rw[decide_eq_false h1];rfl);go_enter Tryz.func121,Tryz.ntmps121
  go_wp2
  go_ret;exact⟨retB (by rw[HR.out]),Below.refl _ _⟩
theorem dayI_in{n:Int}(h:dayI n=true):0≤n∧n≤9999:=by
 unfold dayI at h
 simpa using h
theorem tspan_any(a b:Int)(w:World):Calls Tryz.prog 122 #[.int .i64 a,.int .i64 b] w (GiveB w (spI a b)):=by
 have ca:=fun w=>tday_any a w;have cb:=fun w=>tday_any b w;have b0:=Below.refl w.heap.size w
 cases ha:dayI a with
 | false =>
  have HR:Hid (spI a b=false):=zh (by unfold spI;rw[ha];rfl);rw[ha]at ca;have CA:=zh ca;clear ha ca cb;go_enter Tryz.func122,Tryz.ntmps122;go_wp2_with fail;refine(CA.out _).mono ?_;rintro e w1 ⟨rfl,b1⟩;go_wp2_with fail;go_ret;exact⟨retB (by rw[HR.out]),Below.more b0 b1⟩
 | true =>
  rw[ha]at ca;have CA:=zh ca
  cases hb:dayI b with
  | false =>
   have HR:Hid (spI a b=false):=zh (by unfold spI;rw[ha,hb];rfl);rw[hb]at cb;have CB:=zh cb;clear ha hb ca cb;go_enter Tryz.func122,Tryz.ntmps122;go_wp2_with fail;refine(CA.out _).mono ?_;rintro e w1 ⟨rfl,b1⟩;go_wp2_with fail;refine(CB.out _).mono ?_;rintro e w2 ⟨rfl,b2⟩;go_wp2_with fail;go_ret;exact⟨retB (by rw[HR.out]),Below.more (Below.more b0 b1) b2⟩
  | true =>
   obtain⟨h0,h1⟩:=dayI_in ha;obtain⟨h2,h3⟩:=dayI_in hb;have hr:spI a b=(decide (a≤b)&&decide (b-a<60)):=by unfold spI;rw[ha,hb];rfl
   rw[hb]at cb;have CB:=zh cb;clear ha hb ca cb;have hw:wrap64 (b-a)=b-a:=IntWalk.wrap64_in _ ⟨by omega,by omega⟩;have hw2:IntKind.i64.wrap (b-a)=b-a:=IntWalk.i64_in _ (by omega);by_cases h:a≤b
   ·have HR:Hid (spI a b=decide (b-a<60)):=zh (by rw[hr,decide_eq_true h,Bool.true_and]);clear hr;go_enter Tryz.func122,Tryz.ntmps122;go_wp2_with fail;refine(CA.out _).mono ?_;rintro e w1 ⟨rfl,b1⟩;go_wp2_with fail;refine(CB.out _).mono ?_;rintro e w2 ⟨rfl,b2⟩;go_wp2_with fail;go_ret;exact⟨retB (by rw[HR.out]<;>first|rfl|simp[hw,hw2]),Below.more (Below.more b0 b1) b2⟩
   ·have HR:Hid (spI a b=false):=zh (by rw[hr,decide_eq_false h,Bool.false_and]);clear hr;go_enter Tryz.func122,Tryz.ntmps122;go_wp2_with fail;refine(CA.out _).mono ?_;rintro e w1 ⟨rfl,b1⟩;go_wp2_with fail;refine(CB.out _).mono ?_;rintro e w2 ⟨rfl,b2⟩;go_wp2_with fail;go_ret;exact⟨retB (by rw[HR.out]),Below.more (Below.more b0 b1) b2⟩
theorem ast_head{l:List UInt8}(h:isName l=true):∃c r,l=c::r∧astB l=(decide ((97:Int)≤(c.toNat:Int))&&decide ((c.toNat:Int)≤122)):=by
 have h':=h;unfold isName at h;simp only[Bool.and_eq_true,decide_eq_true_eq]at h
 match l,h,h' with
 | [],h,_=>simp at h
 | c::r,h,h' =>
  refine⟨c,r,rfl,?_⟩;have k:okB 0 c=true:=by
   have k:okB 0 c=true∧nmFrom 1 r=true:=by simpa [nmFrom] using h.1
   exact k.1
  unfold astB;rw[h',Bool.true_and];show (!(some c==some 33)&&!(isDig c))=_;have e1:(some c==some (33:UInt8))=decide (c.toNat=33):=by
   by_cases e:c=33
   ·subst e;rfl
   ·have:¬c.toNat=33:=fun k=>e (UInt8.toNat_inj.1 (by rw[k];rfl));rw[decide_eq_false this]
    simpa using e
  rw[e1];unfold okB nameC at k;unfold isDig;simp only[Bool.or_eq_true,Bool.and_eq_true,decide_eq_true_eq]at k;by_cases a1:97≤c.toNat
  ·by_cases a2:c.toNat≤122
   ·have:¬c.toNat=33:=by omega
    have:¬c.toNat≤57:=by omega
    have:(97:Int)≤(c.toNat:Int):=by omega
    have:(c.toNat:Int)≤122:=by omega
    simp[*]
   ·exfalso;rcases k with ⟨_,_⟩|⟨_,_⟩<;>omega
  ·have n1:¬(97:Int)≤(c.toNat:Int):=by omega
   rw[decide_eq_false n1,Bool.false_and];by_cases a3:c.toNat=33
   ·rw[decide_eq_true a3];rfl
   ·rcases k with k|k
    ·rcases k with ⟨_,_⟩|⟨k1,k2⟩
     ·omega
     ·rw[decide_eq_true k1,decide_eq_true k2];simp
    ·exact absurd k.1 a3
theorem astNo{l:List UInt8}(h:isName l=false):astB l=false:=by unfold astB;rw[h];rfl
theorem tasset_any(l:List UInt8)(w:World):Calls Tryz.prog 120 #[.string ⟨l.toArray⟩] w (GiveB w (astB l)):=by
 have cn:=fun w=>bname_any ⟨l.toArray⟩ w;rw[show (⟨l.toArray⟩:ByteArray).data.toList=l from rfl]at cn;have b0:=Below.refl w.heap.size w
 cases hn:isName l with
 | false =>
  have HR:=zh (astNo hn);rw[hn]at cn;have CN:=zh cn;clear hn cn;go_enter Tryz.func120,Tryz.ntmps120;go_wp2_with fail;refine(CN.out _).mono ?_;rintro e w1 ⟨rfl,b1⟩;go_wp2_with fail;go_ret;exact⟨retB (by rw[HR.out]),Below.more b0 b1⟩
 | true =>
  obtain⟨c,r,rfl,hr⟩:=ast_head hn;rw[hn]at cn;have CN:=zh cn;clear hn cn;by_cases h1:(97:Int)≤(c.toNat:Int)
  ·have h1':(97:Int)≤(((⟨(c::r).toArray⟩:ByteArray)[0]'(by show 0<(c::r).toArray.size;simp)).toNat:Int):=h1;by_cases h2:(c.toNat:Int)≤122
   ·have h2':(((⟨(c::r).toArray⟩:ByteArray)[0]'(by show 0<(c::r).toArray.size;simp)).toNat:Int)≤122:=h2;have HR:Hid (astB (c::r)=true):=zh (by rw[hr,decide_eq_true h1,decide_eq_true h2];rfl);clear hr h1 h2;go_enter Tryz.func120,Tryz.ntmps120;go_wp2_with fail;refine(CN.out _).mono ?_;rintro e w1 ⟨rfl,b1⟩;go_wp2_with fail;go_ret;exact⟨retB (by rw[HR.out]),Below.more b0 b1⟩
   ·have h2':¬(((⟨(c::r).toArray⟩:ByteArray)[0]'(by show 0<(c::r).toArray.size;simp)).toNat:Int)≤122:=h2;have HR:Hid (astB (c::r)=false):=zh (by rw[hr,decide_eq_false h2,Bool.and_false]);clear hr h1 h2;go_enter Tryz.func120,Tryz.ntmps120;go_wp2_with fail;refine(CN.out _).mono ?_;rintro e w1 ⟨rfl,b1⟩;go_wp2_with fail;go_ret;exact⟨retB (by rw[HR.out]<;>first|rfl|simp[h2']),Below.more b0 b1⟩
  ·have h1':¬(97:Int)≤(((⟨(c::r).toArray⟩:ByteArray)[0]'(by show 0<(c::r).toArray.size;simp)).toNat:Int):=h1;have HR:Hid (astB (c::r)=false):=zh (by rw[hr,decide_eq_false h1,Bool.false_and]);clear hr h1;go_enter Tryz.func120,Tryz.ntmps120;go_wp2_with fail;refine(CN.out _).mono ?_;rintro e w1 ⟨rfl,b1⟩;go_wp2_with fail;go_ret;exact⟨retB (by rw[HR.out]),Below.more b0 b1⟩
def shB(n d:List UInt8):Bool:=(decide ((absW n).length≤60)&&decide (d.length≤60))&&isR (n,d)
theorem tshort_any(n d:List UInt8)(w:World)(hn:n.length≤100000)(hd:d.length≤100000):Calls Tryz.prog 119 #[.agg #[.string ⟨n.toArray⟩,.string ⟨d.toArray⟩]] w (GiveB w (shB n d)):=by
 have ca:=fun w=>wabs_any ⟨n.toArray⟩ w (by show n.toArray.size≤400000;rw[List.size_toArray];omega);have cm:=fun w=>qmay_any ⟨n.toArray⟩ ⟨d.toArray⟩ w (by show n.toArray.size≤100000;rw[List.size_toArray];omega) (by show d.toArray.size≤100000;rw[List.size_toArray];omega);rw[show (⟨n.toArray⟩:ByteArray).data.toList=n from rfl]at ca cm;rw[show (⟨d.toArray⟩:ByteArray).data.toList=d from rfl]at cm;unfold shB;generalize absW n=A at *;generalize isR (n,d)=R at *;have CA:=zh ca;have CM:=zh cm;clear ca cm;obtain⟨U,hU,bU,s1,r0,r1⟩:=box1 w (.string ⟨n.toArray⟩) (.string ⟨d.toArray⟩) 28;have b1:=Below.refl U.heap.size U;clear s1;by_cases h1:(A.length:Int)≤60
 ·rw[decide_eq_true (show A.length≤60 by omega),Bool.true_and];by_cases h2:(d.length:Int)≤60
  ·rw[decide_eq_true (show d.length≤60 by omega),Bool.true_and];go_enter Tryz.func119,Tryz.ntmps119;go_wp2_with fail;refine(CA.out _).mono ?_;rintro e w' ⟨rfl,rfl⟩;go_wp2_with fail;refine(CM.out _).mono ?_;rintro e w2 ⟨rfl,b2⟩;go_wp2_with fail;go_ret;exact⟨rfl,Below.more bU b2⟩
  ·rw[decide_eq_false (show ¬d.length≤60 by omega),Bool.false_and];go_enter Tryz.func119,Tryz.ntmps119;go_wp2_with fail;refine(CA.out _).mono ?_;rintro e w' ⟨rfl,rfl⟩;go_wp2_with fail;go_ret;exact⟨rfl,bU⟩
 ·rw[decide_eq_false (show ¬A.length≤60 by omega),Bool.false_and,Bool.false_and];go_enter Tryz.func119,Tryz.ntmps119;go_wp2_with fail;refine(CA.out _).mono ?_;rintro e w' ⟨rfl,rfl⟩;go_wp2_with fail;go_ret;exact⟨rfl,bU⟩
theorem tmay_0s{a b:Int}{n d:List UInt8}{c:UInt8}{r:List UInt8}(w:World)  : Calls Tryz.prog 97 #[.agg #[.int .i64 0,.string ⟨(n:List UInt8).toArray⟩,.string ⟨(d:List UInt8).toArray⟩,.string ⟨(c::r:List UInt8).toArray⟩,.int .i64 a,.int .i64 b]] w (GiveB w true):=by
 go_enter Tryz.func97,Tryz.ntmps97;go_wp2_with fail;have BW:=Below.refl w.heap.size w;obtain⟨U1,hU,bU,s1,rx0,rx1,rx2,rx3,rx4,rx5⟩:=lay6 BW (.int .i64 0) (.string ⟨(n:List UInt8).toArray⟩) (.string ⟨(d:List UInt8).toArray⟩) (.string ⟨(c::r:List UInt8).toArray⟩) (.int .i64 a) (.int .i64 b) 55;rw[hU];clear hU s1;have b1:=Below.refl U1.heap.size U1;go_wp2_with fail;go_ret;exact⟨retB (by first|rfl|simp[*]),Below.more bU b1⟩
theorem tmay_0a{a b:Int}{n d:List UInt8}(w:World)(ea:¬a=0)(fa:(a==0)=false):Calls Tryz.prog 97 #[.agg #[.int .i64 0,.string ⟨(n:List UInt8).toArray⟩,.string ⟨(d:List UInt8).toArray⟩,.string ⟨#[]⟩,.int .i64 a,.int .i64 b]] w (GiveB w true):=by
 go_enter Tryz.func97,Tryz.ntmps97;go_wp2_with fail;have BW:=Below.refl w.heap.size w;obtain⟨U1,hU,bU,s1,rx0,rx1,rx2,rx3,rx4,rx5⟩:=lay6 BW (.int .i64 0) (.string ⟨(n:List UInt8).toArray⟩) (.string ⟨(d:List UInt8).toArray⟩) (.string ⟨#[]⟩) (.int .i64 a) (.int .i64 b) 55;rw[hU];clear hU s1;have b1:=Below.refl U1.heap.size U1;go_wp2_with fail;go_ret;exact⟨retB (by first|rfl|simp[*]),Below.more bU b1⟩
theorem tmay_0b{b:Int}{n d:List UInt8}(w:World)(eb:¬b=0)(fb:(b==0)=false):Calls Tryz.prog 97 #[.agg #[.int .i64 0,.string ⟨(n:List UInt8).toArray⟩,.string ⟨(d:List UInt8).toArray⟩,.string ⟨#[]⟩,.int .i64 0,.int .i64 b]] w (GiveB w true):=by
 go_enter Tryz.func97,Tryz.ntmps97;go_wp2_with fail;have BW:=Below.refl w.heap.size w;obtain⟨U1,hU,bU,s1,rx0,rx1,rx2,rx3,rx4,rx5⟩:=lay6 BW (.int .i64 0) (.string ⟨(n:List UInt8).toArray⟩) (.string ⟨(d:List UInt8).toArray⟩) (.string ⟨#[]⟩) (.int .i64 0) (.int .i64 b) 55;rw[hU];clear hU s1;have b1:=Below.refl U1.heap.size U1;go_wp2_with fail;go_ret;exact⟨retB (by first|rfl|simp[*]),Below.more bU b1⟩
theorem tmay_0m{n d:List UInt8}(w:World){g:Bool}(CS:Hid (∀w,Calls Tryz.prog 119 #[.agg #[.string ⟨(n:List UInt8).toArray⟩,.string ⟨(d:List UInt8).toArray⟩]] w (GiveB w g))):Calls Tryz.prog 97 #[.agg #[.int .i64 0,.string ⟨(n:List UInt8).toArray⟩,.string ⟨(d:List UInt8).toArray⟩,.string ⟨#[]⟩,.int .i64 0,.int .i64 0]] w (GiveB w (!g)):=by
 go_enter Tryz.func97,Tryz.ntmps97;go_wp2_with fail;have BW:=Below.refl w.heap.size w;obtain⟨U1,hU,bU,s1,rx0,rx1,rx2,rx3,rx4,rx5⟩:=lay6 BW (.int .i64 0) (.string ⟨(n:List UInt8).toArray⟩) (.string ⟨(d:List UInt8).toArray⟩) (.string ⟨#[]⟩) (.int .i64 0) (.int .i64 0) 55;rw[hU];clear hU s1;have b1:=Below.refl U1.heap.size U1;go_wp2_with fail;refine(CS.out _).mono ?_;rintro e w2 ⟨rfl,b'⟩;have b2:=Below.more b1 b';clear b';go_wp2_with fail;go_ret;exact⟨retB (by first|rfl|simp[*]),Below.more bU b2⟩
theorem tmay_1n{a b:Int}{d s:List UInt8}{c:UInt8}{r:List UInt8}(w:World)  : Calls Tryz.prog 97 #[.agg #[.int .i64 1,.string ⟨(c::r:List UInt8).toArray⟩,.string ⟨(d:List UInt8).toArray⟩,.string ⟨(s:List UInt8).toArray⟩,.int .i64 a,.int .i64 b]] w (GiveB w true):=by
 go_enter Tryz.func97,Tryz.ntmps97;go_wp2_with fail;have BW:=Below.refl w.heap.size w;obtain⟨U1,hU,bU,s1,rx0,rx1,rx2,rx3,rx4,rx5⟩:=lay6 BW (.int .i64 1) (.string ⟨(c::r:List UInt8).toArray⟩) (.string ⟨(d:List UInt8).toArray⟩) (.string ⟨(s:List UInt8).toArray⟩) (.int .i64 a) (.int .i64 b) 55;rw[hU];clear hU s1;have b1:=Below.refl U1.heap.size U1;go_wp2_with fail;go_ret;exact⟨retB (by first|rfl|simp[*]),Below.more bU b1⟩
theorem tmay_1d{a b:Int}{s:List UInt8}{c:UInt8}{r:List UInt8}(w:World)  : Calls Tryz.prog 97 #[.agg #[.int .i64 1,.string ⟨#[]⟩,.string ⟨(c::r:List UInt8).toArray⟩,.string ⟨(s:List UInt8).toArray⟩,.int .i64 a,.int .i64 b]] w (GiveB w true):=by
 go_enter Tryz.func97,Tryz.ntmps97;go_wp2_with fail;have BW:=Below.refl w.heap.size w;obtain⟨U1,hU,bU,s1,rx0,rx1,rx2,rx3,rx4,rx5⟩:=lay6 BW (.int .i64 1) (.string ⟨#[]⟩) (.string ⟨(c::r:List UInt8).toArray⟩) (.string ⟨(s:List UInt8).toArray⟩) (.int .i64 a) (.int .i64 b) 55;rw[hU];clear hU s1;have b1:=Below.refl U1.heap.size U1;go_wp2_with fail;go_ret;exact⟨retB (by first|rfl|simp[*]),Below.more bU b1⟩
theorem tmay_1b{a b:Int}{s:List UInt8}(w:World)(eb:¬b=0)(fb:(b==0)=false):Calls Tryz.prog 97 #[.agg #[.int .i64 1,.string ⟨#[]⟩,.string ⟨#[]⟩,.string ⟨(s:List UInt8).toArray⟩,.int .i64 a,.int .i64 b]] w (GiveB w true):=by
 go_enter Tryz.func97,Tryz.ntmps97;go_wp2_with fail;have BW:=Below.refl w.heap.size w;obtain⟨U1,hU,bU,s1,rx0,rx1,rx2,rx3,rx4,rx5⟩:=lay6 BW (.int .i64 1) (.string ⟨#[]⟩) (.string ⟨#[]⟩) (.string ⟨(s:List UInt8).toArray⟩) (.int .i64 a) (.int .i64 b) 55;rw[hU];clear hU s1;have b1:=Below.refl U1.heap.size U1;go_wp2_with fail;go_ret;exact⟨retB (by first|rfl|simp[*]),Below.more bU b1⟩
theorem tmay_1s{a:Int}{s:List UInt8}(w:World)(CA:Hid (∀w,Calls Tryz.prog 120 #[.string ⟨(s:List UInt8).toArray⟩] w (GiveB w false))):Calls Tryz.prog 97 #[.agg #[.int .i64 1,.string ⟨#[]⟩,.string ⟨#[]⟩,.string ⟨(s:List UInt8).toArray⟩,.int .i64 a,.int .i64 0]] w (GiveB w true):=by
 go_enter Tryz.func97,Tryz.ntmps97;go_wp2_with fail;have BW:=Below.refl w.heap.size w;obtain⟨U1,hU,bU,s1,rx0,rx1,rx2,rx3,rx4,rx5⟩:=lay6 BW (.int .i64 1) (.string ⟨#[]⟩) (.string ⟨#[]⟩) (.string ⟨(s:List UInt8).toArray⟩) (.int .i64 a) (.int .i64 0) 55;rw[hU];clear hU s1;have b1:=Below.refl U1.heap.size U1;go_wp2_with fail;refine(CA.out _).mono ?_;rintro e w2 ⟨rfl,b'⟩;have b2:=Below.more b1 b';clear b';go_wp2_with fail;go_ret;exact⟨retB (by first|rfl|simp[*]),Below.more bU b2⟩
theorem tmay_1m{a:Int}{s:List UInt8}(w:World)(CA:Hid (∀w,Calls Tryz.prog 120 #[.string ⟨(s:List UInt8).toArray⟩] w (GiveB w true))){g:Bool}(CD:Hid (∀w,Calls Tryz.prog 121 #[.int .i64 a] w (GiveB w g))):Calls Tryz.prog 97 #[.agg #[.int .i64 1,.string ⟨#[]⟩,.string ⟨#[]⟩,.string ⟨(s:List UInt8).toArray⟩,.int .i64 a,.int .i64 0]] w (GiveB w (!g)):=by
 go_enter Tryz.func97,Tryz.ntmps97;go_wp2_with fail;have BW:=Below.refl w.heap.size w;obtain⟨U1,hU,bU,s1,rx0,rx1,rx2,rx3,rx4,rx5⟩:=lay6 BW (.int .i64 1) (.string ⟨#[]⟩) (.string ⟨#[]⟩) (.string ⟨(s:List UInt8).toArray⟩) (.int .i64 a) (.int .i64 0) 55;rw[hU];clear hU s1;have b1:=Below.refl U1.heap.size U1;go_wp2_with fail;refine(CA.out _).mono ?_;rintro e w2 ⟨rfl,b'⟩;have b2:=Below.more b1 b';clear b';go_wp2_with fail;refine(CD.out _).mono ?_;rintro e w3 ⟨rfl,b'⟩;have b3:=Below.more b2 b';clear b';go_wp2_with fail;go_ret;exact⟨retB (by first|rfl|simp[*]),Below.more bU b3⟩
theorem tmay_2n{a b:Int}{d s:List UInt8}{c:UInt8}{r:List UInt8}(w:World)  : Calls Tryz.prog 97 #[.agg #[.int .i64 2,.string ⟨(c::r:List UInt8).toArray⟩,.string ⟨(d:List UInt8).toArray⟩,.string ⟨(s:List UInt8).toArray⟩,.int .i64 a,.int .i64 b]] w (GiveB w true):=by
 go_enter Tryz.func97,Tryz.ntmps97;go_wp2_with fail;have BW:=Below.refl w.heap.size w;obtain⟨U1,hU,bU,s1,rx0,rx1,rx2,rx3,rx4,rx5⟩:=lay6 BW (.int .i64 2) (.string ⟨(c::r:List UInt8).toArray⟩) (.string ⟨(d:List UInt8).toArray⟩) (.string ⟨(s:List UInt8).toArray⟩) (.int .i64 a) (.int .i64 b) 55;rw[hU];clear hU s1;have b1:=Below.refl U1.heap.size U1;go_wp2_with fail;go_ret;exact⟨retB (by first|rfl|simp[*]),Below.more bU b1⟩
theorem tmay_2d{a b:Int}{s:List UInt8}{c:UInt8}{r:List UInt8}(w:World)  : Calls Tryz.prog 97 #[.agg #[.int .i64 2,.string ⟨#[]⟩,.string ⟨(c::r:List UInt8).toArray⟩,.string ⟨(s:List UInt8).toArray⟩,.int .i64 a,.int .i64 b]] w (GiveB w true):=by
 go_enter Tryz.func97,Tryz.ntmps97;go_wp2_with fail;have BW:=Below.refl w.heap.size w;obtain⟨U1,hU,bU,s1,rx0,rx1,rx2,rx3,rx4,rx5⟩:=lay6 BW (.int .i64 2) (.string ⟨#[]⟩) (.string ⟨(c::r:List UInt8).toArray⟩) (.string ⟨(s:List UInt8).toArray⟩) (.int .i64 a) (.int .i64 b) 55;rw[hU];clear hU s1;have b1:=Below.refl U1.heap.size U1;go_wp2_with fail;go_ret;exact⟨retB (by first|rfl|simp[*]),Below.more bU b1⟩
theorem tmay_2s{a b:Int}{s:List UInt8}(w:World)(CA:Hid (∀w,Calls Tryz.prog 120 #[.string ⟨(s:List UInt8).toArray⟩] w (GiveB w false))):Calls Tryz.prog 97 #[.agg #[.int .i64 2,.string ⟨#[]⟩,.string ⟨#[]⟩,.string ⟨(s:List UInt8).toArray⟩,.int .i64 a,.int .i64 b]] w (GiveB w true):=by
 go_enter Tryz.func97,Tryz.ntmps97;go_wp2_with fail;have BW:=Below.refl w.heap.size w;obtain⟨U1,hU,bU,s1,rx0,rx1,rx2,rx3,rx4,rx5⟩:=lay6 BW (.int .i64 2) (.string ⟨#[]⟩) (.string ⟨#[]⟩) (.string ⟨(s:List UInt8).toArray⟩) (.int .i64 a) (.int .i64 b) 55;rw[hU];clear hU s1;have b1:=Below.refl U1.heap.size U1;go_wp2_with fail;refine(CA.out _).mono ?_;rintro e w2 ⟨rfl,b'⟩;have b2:=Below.more b1 b';clear b';go_wp2_with fail;go_ret;exact⟨retB (by first|rfl|simp[*]),Below.more bU b2⟩
theorem tmay_2m{a b:Int}{s:List UInt8}(w:World)(CA:Hid (∀w,Calls Tryz.prog 120 #[.string ⟨(s:List UInt8).toArray⟩] w (GiveB w true))){g:Bool}(CD:Hid (∀w,Calls Tryz.prog 122 #[.int .i64 a,.int .i64 b] w (GiveB w g))):Calls Tryz.prog 97 #[.agg #[.int .i64 2,.string ⟨#[]⟩,.string ⟨#[]⟩,.string ⟨(s:List UInt8).toArray⟩,.int .i64 a,.int .i64 b]] w (GiveB w (!g)):=by
 go_enter Tryz.func97,Tryz.ntmps97;go_wp2_with fail;have BW:=Below.refl w.heap.size w;obtain⟨U1,hU,bU,s1,rx0,rx1,rx2,rx3,rx4,rx5⟩:=lay6 BW (.int .i64 2) (.string ⟨#[]⟩) (.string ⟨#[]⟩) (.string ⟨(s:List UInt8).toArray⟩) (.int .i64 a) (.int .i64 b) 55;rw[hU];clear hU s1;have b1:=Below.refl U1.heap.size U1;go_wp2_with fail;refine(CA.out _).mono ?_;rintro e w2 ⟨rfl,b'⟩;have b2:=Below.more b1 b';clear b';go_wp2_with fail;refine(CD.out _).mono ?_;rintro e w3 ⟨rfl,b'⟩;have b3:=Below.more b2 b';clear b';go_wp2_with fail;go_ret;exact⟨retB (by first|rfl|simp[*]),Below.more bU b3⟩
theorem tmay_3n{a b:Int}{d s:List UInt8}{c:UInt8}{r:List UInt8}(w:World)  : Calls Tryz.prog 97 #[.agg #[.int .i64 3,.string ⟨(c::r:List UInt8).toArray⟩,.string ⟨(d:List UInt8).toArray⟩,.string ⟨(s:List UInt8).toArray⟩,.int .i64 a,.int .i64 b]] w (GiveB w true):=by
 go_enter Tryz.func97,Tryz.ntmps97;go_wp2_with fail;have BW:=Below.refl w.heap.size w;obtain⟨U1,hU,bU,s1,rx0,rx1,rx2,rx3,rx4,rx5⟩:=lay6 BW (.int .i64 3) (.string ⟨(c::r:List UInt8).toArray⟩) (.string ⟨(d:List UInt8).toArray⟩) (.string ⟨(s:List UInt8).toArray⟩) (.int .i64 a) (.int .i64 b) 55;rw[hU];clear hU s1;have b1:=Below.refl U1.heap.size U1;go_wp2_with fail;go_ret;exact⟨retB (by first|rfl|simp[*]),Below.more bU b1⟩
theorem tmay_3d{a b:Int}{s:List UInt8}{c:UInt8}{r:List UInt8}(w:World)  : Calls Tryz.prog 97 #[.agg #[.int .i64 3,.string ⟨#[]⟩,.string ⟨(c::r:List UInt8).toArray⟩,.string ⟨(s:List UInt8).toArray⟩,.int .i64 a,.int .i64 b]] w (GiveB w true):=by
 go_enter Tryz.func97,Tryz.ntmps97;go_wp2_with fail;have BW:=Below.refl w.heap.size w;obtain⟨U1,hU,bU,s1,rx0,rx1,rx2,rx3,rx4,rx5⟩:=lay6 BW (.int .i64 3) (.string ⟨#[]⟩) (.string ⟨(c::r:List UInt8).toArray⟩) (.string ⟨(s:List UInt8).toArray⟩) (.int .i64 a) (.int .i64 b) 55;rw[hU];clear hU s1;have b1:=Below.refl U1.heap.size U1;go_wp2_with fail;go_ret;exact⟨retB (by first|rfl|simp[*]),Below.more bU b1⟩
theorem tmay_3s{a b:Int}{s:List UInt8}(w:World)(CA:Hid (∀w,Calls Tryz.prog 120 #[.string ⟨(s:List UInt8).toArray⟩] w (GiveB w false))):Calls Tryz.prog 97 #[.agg #[.int .i64 3,.string ⟨#[]⟩,.string ⟨#[]⟩,.string ⟨(s:List UInt8).toArray⟩,.int .i64 a,.int .i64 b]] w (GiveB w true):=by
 go_enter Tryz.func97,Tryz.ntmps97;go_wp2_with fail;have BW:=Below.refl w.heap.size w;obtain⟨U1,hU,bU,s1,rx0,rx1,rx2,rx3,rx4,rx5⟩:=lay6 BW (.int .i64 3) (.string ⟨#[]⟩) (.string ⟨#[]⟩) (.string ⟨(s:List UInt8).toArray⟩) (.int .i64 a) (.int .i64 b) 55;rw[hU];clear hU s1;have b1:=Below.refl U1.heap.size U1;go_wp2_with fail;refine(CA.out _).mono ?_;rintro e w2 ⟨rfl,b'⟩;have b2:=Below.more b1 b';clear b';go_wp2_with fail;go_ret;exact⟨retB (by first|rfl|simp[*]),Below.more bU b2⟩
theorem tmay_3m{a b:Int}{s:List UInt8}(w:World)(CA:Hid (∀w,Calls Tryz.prog 120 #[.string ⟨(s:List UInt8).toArray⟩] w (GiveB w true))){g:Bool}(CD:Hid (∀w,Calls Tryz.prog 122 #[.int .i64 a,.int .i64 b] w (GiveB w g))):Calls Tryz.prog 97 #[.agg #[.int .i64 3,.string ⟨#[]⟩,.string ⟨#[]⟩,.string ⟨(s:List UInt8).toArray⟩,.int .i64 a,.int .i64 b]] w (GiveB w (!g)):=by
 go_enter Tryz.func97,Tryz.ntmps97;go_wp2_with fail;have BW:=Below.refl w.heap.size w;obtain⟨U1,hU,bU,s1,rx0,rx1,rx2,rx3,rx4,rx5⟩:=lay6 BW (.int .i64 3) (.string ⟨#[]⟩) (.string ⟨#[]⟩) (.string ⟨(s:List UInt8).toArray⟩) (.int .i64 a) (.int .i64 b) 55;rw[hU];clear hU s1;have b1:=Below.refl U1.heap.size U1;go_wp2_with fail;refine(CA.out _).mono ?_;rintro e w2 ⟨rfl,b'⟩;have b2:=Below.more b1 b';clear b';go_wp2_with fail;refine(CD.out _).mono ?_;rintro e w3 ⟨rfl,b'⟩;have b3:=Below.more b2 b';clear b';go_wp2_with fail;go_ret;exact⟨retB (by first|rfl|simp[*]),Below.more bU b3⟩
theorem tmay_4n{a b:Int}{d s:List UInt8}{c:UInt8}{r:List UInt8}(w:World)  : Calls Tryz.prog 97 #[.agg #[.int .i64 4,.string ⟨(c::r:List UInt8).toArray⟩,.string ⟨(d:List UInt8).toArray⟩,.string ⟨(s:List UInt8).toArray⟩,.int .i64 a,.int .i64 b]] w (GiveB w true):=by
 go_enter Tryz.func97,Tryz.ntmps97;go_wp2_with fail;have BW:=Below.refl w.heap.size w;obtain⟨U1,hU,bU,s1,rx0,rx1,rx2,rx3,rx4,rx5⟩:=lay6 BW (.int .i64 4) (.string ⟨(c::r:List UInt8).toArray⟩) (.string ⟨(d:List UInt8).toArray⟩) (.string ⟨(s:List UInt8).toArray⟩) (.int .i64 a) (.int .i64 b) 55;rw[hU];clear hU s1;have b1:=Below.refl U1.heap.size U1;go_wp2_with fail;go_ret;exact⟨retB (by first|rfl|simp[*]),Below.more bU b1⟩
theorem tmay_4d{a b:Int}{s:List UInt8}{c:UInt8}{r:List UInt8}(w:World)  : Calls Tryz.prog 97 #[.agg #[.int .i64 4,.string ⟨#[]⟩,.string ⟨(c::r:List UInt8).toArray⟩,.string ⟨(s:List UInt8).toArray⟩,.int .i64 a,.int .i64 b]] w (GiveB w true):=by
 go_enter Tryz.func97,Tryz.ntmps97;go_wp2_with fail;have BW:=Below.refl w.heap.size w;obtain⟨U1,hU,bU,s1,rx0,rx1,rx2,rx3,rx4,rx5⟩:=lay6 BW (.int .i64 4) (.string ⟨#[]⟩) (.string ⟨(c::r:List UInt8).toArray⟩) (.string ⟨(s:List UInt8).toArray⟩) (.int .i64 a) (.int .i64 b) 55;rw[hU];clear hU s1;have b1:=Below.refl U1.heap.size U1;go_wp2_with fail;go_ret;exact⟨retB (by first|rfl|simp[*]),Below.more bU b1⟩
theorem tmay_4s{a b:Int}{s:List UInt8}(w:World)(CA:Hid (∀w,Calls Tryz.prog 120 #[.string ⟨(s:List UInt8).toArray⟩] w (GiveB w false))):Calls Tryz.prog 97 #[.agg #[.int .i64 4,.string ⟨#[]⟩,.string ⟨#[]⟩,.string ⟨(s:List UInt8).toArray⟩,.int .i64 a,.int .i64 b]] w (GiveB w true):=by
 go_enter Tryz.func97,Tryz.ntmps97;go_wp2_with fail;have BW:=Below.refl w.heap.size w;obtain⟨U1,hU,bU,s1,rx0,rx1,rx2,rx3,rx4,rx5⟩:=lay6 BW (.int .i64 4) (.string ⟨#[]⟩) (.string ⟨#[]⟩) (.string ⟨(s:List UInt8).toArray⟩) (.int .i64 a) (.int .i64 b) 55;rw[hU];clear hU s1;have b1:=Below.refl U1.heap.size U1;go_wp2_with fail;refine(CA.out _).mono ?_;rintro e w2 ⟨rfl,b'⟩;have b2:=Below.more b1 b';clear b';go_wp2_with fail;go_ret;exact⟨retB (by first|rfl|simp[*]),Below.more bU b2⟩
theorem tmay_4m{a b:Int}{s:List UInt8}(w:World)(CA:Hid (∀w,Calls Tryz.prog 120 #[.string ⟨(s:List UInt8).toArray⟩] w (GiveB w true))){g:Bool}(CD:Hid (∀w,Calls Tryz.prog 122 #[.int .i64 a,.int .i64 b] w (GiveB w g))):Calls Tryz.prog 97 #[.agg #[.int .i64 4,.string ⟨#[]⟩,.string ⟨#[]⟩,.string ⟨(s:List UInt8).toArray⟩,.int .i64 a,.int .i64 b]] w (GiveB w (!g)):=by
 go_enter Tryz.func97,Tryz.ntmps97;go_wp2_with fail;have BW:=Below.refl w.heap.size w;obtain⟨U1,hU,bU,s1,rx0,rx1,rx2,rx3,rx4,rx5⟩:=lay6 BW (.int .i64 4) (.string ⟨#[]⟩) (.string ⟨#[]⟩) (.string ⟨(s:List UInt8).toArray⟩) (.int .i64 a) (.int .i64 b) 55;rw[hU];clear hU s1;have b1:=Below.refl U1.heap.size U1;go_wp2_with fail;refine(CA.out _).mono ?_;rintro e w2 ⟨rfl,b'⟩;have b2:=Below.more b1 b';clear b';go_wp2_with fail;refine(CD.out _).mono ?_;rintro e w3 ⟨rfl,b'⟩;have b3:=Below.more b2 b';clear b';go_wp2_with fail;go_ret;exact⟨retB (by first|rfl|simp[*]),Below.more bU b3⟩
theorem tmay_xn{op a b:Int}{d s:List UInt8}{c:UInt8}{r:List UInt8}(w:World)(h0:¬op=0)(g0:(op==0)=false)(h1:¬op=1)(g1:(op==1)=false)(h2:¬op=2)(g2:(op==2)=false)(h3:¬op=3)(g3:(op==3)=false)(h4:¬op=4)(g4:(op==4)=false):Calls Tryz.prog 97 #[.agg #[.int .i64 op,.string ⟨(c::r:List UInt8).toArray⟩,.string ⟨(d:List UInt8).toArray⟩,.string ⟨(s:List UInt8).toArray⟩,.int .i64 a,.int .i64 b]] w (GiveB w true):=by
 go_enter Tryz.func97,Tryz.ntmps97;go_wp2_with fail;have BW:=Below.refl w.heap.size w;obtain⟨U1,hU,bU,s1,rx0,rx1,rx2,rx3,rx4,rx5⟩:=lay6 BW (.int .i64 op) (.string ⟨(c::r:List UInt8).toArray⟩) (.string ⟨(d:List UInt8).toArray⟩) (.string ⟨(s:List UInt8).toArray⟩) (.int .i64 a) (.int .i64 b) 55;rw[hU];clear hU s1;have b1:=Below.refl U1.heap.size U1;go_wp2_with fail;go_ret;exact⟨retB (by first|rfl|simp[*]),Below.more bU b1⟩
theorem tmay_xd{op a b:Int}{s:List UInt8}{c:UInt8}{r:List UInt8}(w:World)(h0:¬op=0)(g0:(op==0)=false)(h1:¬op=1)(g1:(op==1)=false)(h2:¬op=2)(g2:(op==2)=false)(h3:¬op=3)(g3:(op==3)=false)(h4:¬op=4)(g4:(op==4)=false):Calls Tryz.prog 97 #[.agg #[.int .i64 op,.string ⟨#[]⟩,.string ⟨(c::r:List UInt8).toArray⟩,.string ⟨(s:List UInt8).toArray⟩,.int .i64 a,.int .i64 b]] w (GiveB w true):=by
 go_enter Tryz.func97,Tryz.ntmps97;go_wp2_with fail;have BW:=Below.refl w.heap.size w;obtain⟨U1,hU,bU,s1,rx0,rx1,rx2,rx3,rx4,rx5⟩:=lay6 BW (.int .i64 op) (.string ⟨#[]⟩) (.string ⟨(c::r:List UInt8).toArray⟩) (.string ⟨(s:List UInt8).toArray⟩) (.int .i64 a) (.int .i64 b) 55;rw[hU];clear hU s1;have b1:=Below.refl U1.heap.size U1;go_wp2_with fail;go_ret;exact⟨retB (by first|rfl|simp[*]),Below.more bU b1⟩
theorem tmay_xs{op a b:Int}{c:UInt8}{r:List UInt8}(w:World)(h0:¬op=0)(g0:(op==0)=false)(h1:¬op=1)(g1:(op==1)=false)(h2:¬op=2)(g2:(op==2)=false)(h3:¬op=3)(g3:(op==3)=false)(h4:¬op=4)(g4:(op==4)=false):Calls Tryz.prog 97 #[.agg #[.int .i64 op,.string ⟨#[]⟩,.string ⟨#[]⟩,.string ⟨(c::r:List UInt8).toArray⟩,.int .i64 a,.int .i64 b]] w (GiveB w true):=by
 go_enter Tryz.func97,Tryz.ntmps97;go_wp2_with fail;have BW:=Below.refl w.heap.size w;obtain⟨U1,hU,bU,s1,rx0,rx1,rx2,rx3,rx4,rx5⟩:=lay6 BW (.int .i64 op) (.string ⟨#[]⟩) (.string ⟨#[]⟩) (.string ⟨(c::r:List UInt8).toArray⟩) (.int .i64 a) (.int .i64 b) 55;rw[hU];clear hU s1;have b1:=Below.refl U1.heap.size U1;go_wp2_with fail;go_ret;exact⟨retB (by first|rfl|simp[*]),Below.more bU b1⟩
theorem tmay_xa{op a b:Int}(w:World)(h0:¬op=0)(g0:(op==0)=false)(h1:¬op=1)(g1:(op==1)=false)(h2:¬op=2)(g2:(op==2)=false)(h3:¬op=3)(g3:(op==3)=false)(h4:¬op=4)(g4:(op==4)=false)(ea:¬a=0)(fa:(a==0)=false):Calls Tryz.prog 97 #[.agg #[.int .i64 op,.string ⟨#[]⟩,.string ⟨#[]⟩,.string ⟨#[]⟩,.int .i64 a,.int .i64 b]] w (GiveB w true):=by
 go_enter Tryz.func97,Tryz.ntmps97;go_wp2_with fail;have BW:=Below.refl w.heap.size w;obtain⟨U1,hU,bU,s1,rx0,rx1,rx2,rx3,rx4,rx5⟩:=lay6 BW (.int .i64 op) (.string ⟨#[]⟩) (.string ⟨#[]⟩) (.string ⟨#[]⟩) (.int .i64 a) (.int .i64 b) 55;rw[hU];clear hU s1;have b1:=Below.refl U1.heap.size U1;go_wp2_with fail;go_ret;exact⟨retB (by first|rfl|simp[*]),Below.more bU b1⟩
theorem tmay_xb{op b:Int}(w:World)(h0:¬op=0)(g0:(op==0)=false)(h1:¬op=1)(g1:(op==1)=false)(h2:¬op=2)(g2:(op==2)=false)(h3:¬op=3)(g3:(op==3)=false)(h4:¬op=4)(g4:(op==4)=false)(eb:¬b=0)(fb:(b==0)=false):Calls Tryz.prog 97 #[.agg #[.int .i64 op,.string ⟨#[]⟩,.string ⟨#[]⟩,.string ⟨#[]⟩,.int .i64 0,.int .i64 b]] w (GiveB w true):=by
 go_enter Tryz.func97,Tryz.ntmps97;go_wp2_with fail;have BW:=Below.refl w.heap.size w;obtain⟨U1,hU,bU,s1,rx0,rx1,rx2,rx3,rx4,rx5⟩:=lay6 BW (.int .i64 op) (.string ⟨#[]⟩) (.string ⟨#[]⟩) (.string ⟨#[]⟩) (.int .i64 0) (.int .i64 b) 55;rw[hU];clear hU s1;have b1:=Below.refl U1.heap.size U1;go_wp2_with fail;go_ret;exact⟨retB (by first|rfl|simp[*]),Below.more bU b1⟩
theorem tmay_xm{op:Int}(w:World)(h0:¬op=0)(g0:(op==0)=false)(h1:¬op=1)(g1:(op==1)=false)(h2:¬op=2)(g2:(op==2)=false)(h3:¬op=3)(g3:(op==3)=false)(h4:¬op=4)(g4:(op==4)=false):Calls Tryz.prog 97 #[.agg #[.int .i64 op,.string ⟨#[]⟩,.string ⟨#[]⟩,.string ⟨#[]⟩,.int .i64 0,.int .i64 0]] w (GiveB w false):=by
 go_enter Tryz.func97,Tryz.ntmps97;go_wp2_with fail;have BW:=Below.refl w.heap.size w;obtain⟨U1,hU,bU,s1,rx0,rx1,rx2,rx3,rx4,rx5⟩:=lay6 BW (.int .i64 op) (.string ⟨#[]⟩) (.string ⟨#[]⟩) (.string ⟨#[]⟩) (.int .i64 0) (.int .i64 0) 55;rw[hU];clear hU s1;have b1:=Below.refl U1.heap.size U1;go_wp2_with fail;go_ret;exact⟨retB (by first|rfl|simp[*]),Below.more bU b1⟩
theorem ok_0{n d s:List UInt8}{a b:Int}:okN (Nd.mk 0 (n,d) s a b)=((s == []&&(a==0&&b==0))&&shB n d):=by
 unfold okN shB;rw[if_pos rfl]
 cases isR (n,d)<;>simp
theorem ok_1{n d s:List UInt8}{a b:Int}:okN (Nd.mk 1 (n,d) s a b)=((((n,d):Key)==([],[])&&b==0)&&(astB s&&dayI a)):=by
 unfold okN dayI;rw[if_neg (show ¬(1:Int)=0 by decide),if_pos rfl]
theorem ok_2{op:Int}(h:2≤op∧op≤4){n d s:List UInt8}{a b:Int}:okN (Nd.mk op (n,d) s a b)=(((n,d):Key)==([],[])&&(astB s&&spI a b)):=by
 unfold okN;rw[if_neg (by dsimp only;omega),if_neg (by dsimp only;omega),if_pos h];have e:spI a b=(decide (0≤a)&&(decide (b≤9999)&&(decide (a≤b)&&decide (b-a<60)))):=by
  unfold spI dayI;rw[Bool.eq_iff_iff];simp only[Bool.and_eq_true,decide_eq_true_eq];omega
 rw[e]
theorem ok_x{op:Int}(h:op<0∨5≤op){n d s:List UInt8}{a b:Int}:okN (Nd.mk op (n,d) s a b)=((((n,d):Key)==([],[])&&s == [])&&(a==0&&b==0)):=by
 unfold okN;rw[if_neg (by dsimp only;omega),if_neg (by dsimp only;omega),if_neg (by dsimp only;omega)]
theorem key_n{c:UInt8}{r d:List UInt8}:(((c::r,d):Key)==([],[]))=false:=by simp
theorem key_d{c:UInt8}{r:List UInt8}:((([],c::r):Key)==([],[]))=false:=by simp
theorem key_0:((([],[]):Key)==([],[]))=true:=rfl
theorem giveB_of{w w':World}{a b:Bool}(h:a=b){e:Ending}(k:GiveB w a e w'):GiveB w b e w':=h▸k
theorem tmay_any(x:Nd)(w:World)(hn:x.num.1.length≤100000)(hd:x.num.2.length≤100000):Calls Tryz.prog 97 #[.agg #[.int .i64 x.op,.string ⟨x.num.1.toArray⟩,.string ⟨x.num.2.toArray⟩,.string ⟨x.ast.toArray⟩,.int .i64 x.a,.int .i64 x.b]] w (GiveB w (!(okN x))):=by
 obtain⟨op,⟨n,d⟩,s,a,b⟩:=x;dsimp only at hn hd ⊢;by_cases h0:op=0
 ·subst h0;rw[ok_0]
  match s with
  | c::r=>exact(tmay_0s w).mono fun _ _ k=>giveB_of (by simp) k
  | [] =>
   by_cases ea:a=0
   ·subst ea;by_cases eb:b=0
    ·subst eb;exact(tmay_0m w (zh fun w=>tshort_any n d w hn hd)).mono fun _ _ k=>giveB_of (by simp) k
    ·exact(tmay_0b w eb (beq_false_of_ne eb)).mono fun _ _ k=>giveB_of (by rw[beq_false_of_ne eb];simp) k
   ·exact(tmay_0a w ea (beq_false_of_ne ea)).mono fun _ _ k=>giveB_of (by rw[beq_false_of_ne ea];simp) k
 by_cases h1:op=1
 ·subst h1;rw[ok_1]
  match n,d with
  | c::r,d=>exact(tmay_1n w).mono fun _ _ k=>giveB_of (by rw[key_n];rfl) k
  | [],c::r=>exact(tmay_1d w).mono fun _ _ k=>giveB_of (by rw[key_d];rfl) k
  | [],[] =>
   rw[key_0];by_cases eb:b=0
   ·subst eb;have ca:=fun w=>tasset_any s w
    cases hs:astB s with
    | false =>
     rw[hs]at ca;exact(tmay_1s w (zh ca)).mono fun _ _ k=>giveB_of (by simp) k
    | true =>
     rw[hs]at ca;exact(tmay_1m w (zh ca) (zh fun w=>tday_any a w)).mono fun _ _ k=>giveB_of (by simp) k
   ·exact(tmay_1b w eb (beq_false_of_ne eb)).mono fun _ _ k=>giveB_of (by rw[beq_false_of_ne eb];simp) k
 by_cases h2:op=2
 ·subst h2;rw[ok_2 (by decide)]
  match n,d with
  | c::r,d=>exact(tmay_2n w).mono fun _ _ k=>giveB_of (by rw[key_n];rfl) k
  | [],c::r=>exact(tmay_2d w).mono fun _ _ k=>giveB_of (by rw[key_d];rfl) k
  | [],[] =>
   rw[key_0];have ca:=fun w=>tasset_any s w
   cases hs:astB s with
   | false =>
    rw[hs]at ca;exact(tmay_2s w (zh ca)).mono fun _ _ k=>giveB_of (by simp) k
   | true =>
    rw[hs]at ca;exact(tmay_2m w (zh ca) (zh fun w=>tspan_any a b w)).mono fun _ _ k=>giveB_of (by simp) k
 by_cases h3:op=3
 ·subst h3;rw[ok_2 (by decide)]
  match n,d with
  | c::r,d=>exact(tmay_3n w).mono fun _ _ k=>giveB_of (by rw[key_n];rfl) k
  | [],c::r=>exact(tmay_3d w).mono fun _ _ k=>giveB_of (by rw[key_d];rfl) k
  | [],[] =>
   rw[key_0];have ca:=fun w=>tasset_any s w
   cases hs:astB s with
   | false =>
    rw[hs]at ca;exact(tmay_3s w (zh ca)).mono fun _ _ k=>giveB_of (by simp) k
   | true =>
    rw[hs]at ca;exact(tmay_3m w (zh ca) (zh fun w=>tspan_any a b w)).mono fun _ _ k=>giveB_of (by simp) k
 by_cases h4:op=4
 ·subst h4;rw[ok_2 (by decide)]
  match n,d with
  | c::r,d=>exact(tmay_4n w).mono fun _ _ k=>giveB_of (by rw[key_n];rfl) k
  | [],c::r=>exact(tmay_4d w).mono fun _ _ k=>giveB_of (by rw[key_d];rfl) k
  | [],[] =>
   rw[key_0];have ca:=fun w=>tasset_any s w
   cases hs:astB s with
   | false =>
    rw[hs]at ca;exact(tmay_4s w (zh ca)).mono fun _ _ k=>giveB_of (by simp) k
   | true =>
    rw[hs]at ca;exact(tmay_4m w (zh ca) (zh fun w=>tspan_any a b w)).mono fun _ _ k=>giveB_of (by simp) k
 rw[ok_x (by omega)]
 match n,d with
 | c::r,d=>exact(tmay_xn w h0 (beq_false_of_ne h0) h1 (beq_false_of_ne h1) h2 (beq_false_of_ne h2) h3 (beq_false_of_ne h3) h4 (beq_false_of_ne h4)).mono fun _ _ k=>giveB_of (by rw[key_n];rfl) k
 | [],c::r=>exact(tmay_xd w h0 (beq_false_of_ne h0) h1 (beq_false_of_ne h1) h2 (beq_false_of_ne h2) h3 (beq_false_of_ne h3) h4 (beq_false_of_ne h4)).mono fun _ _ k=>giveB_of (by rw[key_d];rfl) k
 | [],[] =>
  rw[key_0]
  match s with
  | c::r=>exact(tmay_xs w h0 (beq_false_of_ne h0) h1 (beq_false_of_ne h1) h2 (beq_false_of_ne h2) h3 (beq_false_of_ne h3) h4 (beq_false_of_ne h4)).mono fun _ _ k=>giveB_of (by simp) k
  | [] =>
   by_cases ea:a=0
   ·subst ea;by_cases eb:b=0
    ·subst eb;exact(tmay_xm w h0 (beq_false_of_ne h0) h1 (beq_false_of_ne h1) h2 (beq_false_of_ne h2) h3 (beq_false_of_ne h3) h4 (beq_false_of_ne h4)).mono fun _ _ k=>giveB_of (by simp) k
    ·exact(tmay_xb w h0 (beq_false_of_ne h0) h1 (beq_false_of_ne h1) h2 (beq_false_of_ne h2) h3 (beq_false_of_ne h3) h4 (beq_false_of_ne h4) eb (beq_false_of_ne eb)).mono fun _ _ k=>giveB_of (by rw[beq_false_of_ne eb];simp) k
   ·exact(tmay_xa w h0 (beq_false_of_ne h0) h1 (beq_false_of_ne h1) h2 (beq_false_of_ne h2) h3 (beq_false_of_ne h3) h4 (beq_false_of_ne h4) ea (beq_false_of_ne ea)).mono fun _ _ k=>giveB_of (by rw[beq_false_of_ne ea];simp) k
end Go.Proofs.YtghioekjghmdaaaGreatDoor
