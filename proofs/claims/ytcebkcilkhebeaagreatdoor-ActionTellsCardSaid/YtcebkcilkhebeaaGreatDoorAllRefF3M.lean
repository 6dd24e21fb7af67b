/- Own work. -/
import Derived.Test.YtcebkcilkhebeaaGreatDoorOpenAM
import Derived.Laws.AppendOwn
import Derived.Laws.OwnMore
import Derived.Deep.CutRange
set_option linter.unusedVariables false
set_option linter.unusedSimpArgs false
namespace Go.Proofs.YtcebkcilkhebeaaGreatDoor
namespace Ac
def cutB:List UInt8→Option (List UInt8×List UInt8)
 | []=>none
 | c::r=>if c=32 then some ([],r) else match cutB r with|none=>none|some (a,b)=>some (c::a,b)
def words:Nat→List UInt8→List (List UInt8)
 | 0,s=>[s]
 | k+1,s=>match cutB s with|none=>[s]|some (a,b)=>a::words k b
def joinW:List (List UInt8)→List UInt8
 | []=>[]
 | [w]=>w
 | w::v::r=>w++32::joinW (v::r)
def noB(w:List UInt8):Prop:=∀c∈w,c≠32
theorem cutB_none:∀ {w:List UInt8},noB w→cutB w=none
 | [],_=>rfl
 | c::r,h=>by
  unfold cutB;rw[if_neg (h c (List.mem_cons_self ..)),cutB_none fun d hd=>h d (List.mem_cons_of_mem _ hd)]
theorem cutB_some:∀ {w:List UInt8},noB w→∀r,cutB (w++32::r)=some (w,r)
 | [],_,r=>rfl
 | c::w,h,r=>by
  rw[List.cons_append];unfold cutB;rw[if_neg (h c (List.mem_cons_self ..)),cutB_some fun d hd=>h d (List.mem_cons_of_mem _ hd)]
theorem cutB_inv:∀ {s a b:List UInt8},cutB s=some (a,b)→s=a++32::b∧noB a
 | [],a,b,h=>by cases h
 | c::r,a,b,h=>by
  unfold cutB at h;split at h
  ·rename_i e;cases h;rw[e];exact⟨rfl,fun d hd=>by cases hd⟩
  ·rename_i e
   cases k:cutB r with
   | none=>rw[k]at h;cases h
   | some p =>
    obtain⟨u,v⟩:=p;rw[k]at h
    cases h
    obtain⟨h1,h2⟩:=cutB_inv k;refine⟨by rw[h1];rfl,fun d hd=>?_⟩;rcases List.mem_cons.1 hd with rfl|hd
    ·exact e
    ·exact h2 d hd
theorem words_ne:∀ (k:Nat) (s:List UInt8),words k s≠[]
 | 0,s,h=>by cases h
 | k+1,s,h=>by
  unfold words at h;split at h<;>cases h
theorem join_words:∀ (k:Nat) (s:List UInt8),joinW (words k s)=s
 | 0,s=>rfl
 | k+1,s=>by
  unfold words
  cases h:cutB s with
  | none=>rfl
  | some p =>
   obtain⟨a,b⟩:=p;show joinW (a::words k b)=s
   cases e:words k b with
   | nil=>exact absurd e (words_ne k b)
   | cons v r =>
    show a++32::joinW (v::r)=s;rw[←e,join_words k b,← (cutB_inv h).1]
theorem words_len:∀ (k:Nat) (s:List UInt8),(words k s).length≤k+1
 | 0,s=>Nat.le_refl _
 | k+1,s=>by
  unfold words;split
  ·simp
  ·rename_i a b _
   rw[List.length_cons];have:=words_len k b;omega
structure Actn where
 nm:List UInt8
 kind:Int
 ast:List UInt8
 oth:List UInt8
 ratio:Key
 cash:Key
 ex:Int
 rc:Int
 pay:Int
 deriving DecidableEq
def oB(k:Int):Bool:=decide (3≤k)
def rB(k:Int):Bool:=!decide (k=2)
def cB(k:Int):Bool:=decide (k=2)||decide (k=4)
def digH(s:List UInt8):Bool:=match s with|[]=>false|c::_=>isDig c
def assetB(s:List UInt8):Bool:=isName s&&(!(s.head?==some 33)&&(!digH s&&!(s == [99,97,115,104])))
def numB(x:Key)(named:Bool)(least:Int):Bool:=if named then isR x&&(decide (least≤sgnR x)&&(decide (x.1.length≤20)&&decide (x.2.length≤20))) else x==([48],[49])
def leastC(k:Int):Int:=if k=4 then 0 else 1
def mayA(a:Actn):Bool :=
 isName a.nm&&(assetB a.ast&&(decide (0≤a.kind)&&(decide (a.kind≤4)&&(decide (0≤a.ex)&&(decide (a.ex≤a.rc)&&(decide (a.rc≤a.pay)&&(decide (a.pay≤9999) &&
  ((if oB a.kind then assetB a.oth&&!(a.oth==a.ast) else a.oth == [])&&(numB a.ratio (rB a.kind) 1&&numB a.cash (cB a.kind) (leastC a.kind))))))))))
def wordK(k:Int):List UInt8:=if k=0 then [115,112,108,105,116] else if k=1 then [115,116,111,99,107] else if k=2 then [99,97,115,104] else if k=3 then [115,112,105,110] else [109,101,114,103,101,114]
def moreA(a:Actn):List (List UInt8):=(if oB a.kind then [a.oth] else [])++((if rB a.kind then [prS a.ratio] else [])++(if cB a.kind then [prS a.cash] else []))
def wordsA(a:Actn):List (List UInt8):=wordK a.kind::a.nm::a.ast::wd a.ex::wd a.rc::wd a.pay::moreA a
def printA(a:Actn):List UInt8:=if mayA a then joinW (wordsA a) else []
def kindW(w:List UInt8):Int:=if w=wordK 0 then 0 else if w=wordK 1 then 1 else if w=wordK 2 then 2 else if w=wordK 3 then 3 else if w=wordK 4 then 4 else -1
def noneA:Actn:=⟨[],0,[],[],([],[]),([],[]),0,0,0⟩
def takeO(b:Bool)(l:List (List UInt8)):Option (List UInt8×List (List UInt8)):=if b then (match l with|[]=>none|w::r=>some (w,r)) else some ([],l)
def takeN(b:Bool)(l:List (List UInt8)):Option ((Key×Bool)×List (List UInt8)):=if b then (match l with|[]=>none|w::r=>some (((parS w).1,decide ((parS w).2=0)),r)) else some ((([48],[49]),true),l)
def partsA(k:Int)(l:List (List UInt8)):Option ((List UInt8×Key×Key)×Bool) :=
 (takeO (oB k) l).bind fun o=>(takeN (rB k) o.2).bind fun q=>(takeN (cB k) q.2).bind fun c=>if c.2=[] then some ((o.1,q.1.1,c.1.1),q.1.2&&c.1.2) else none
def parseL:List (List UInt8)→Option Actn
 | k::n::a::x::y::z::r=>if kindW k<0 then none else
  (partsA (kindW k) r).bind fun p=>if (smallS x).2=true∧(smallS y).2=true∧(smallS z).2=true∧p.2=true∧mayA ⟨n,kindW k,a,p.1.1,p.1.2.1,p.1.2.2,(smallS x).1,(smallS y).1,(smallS z).1⟩=true then
   some ⟨n,kindW k,a,p.1.1,p.1.2.1,p.1.2.2,(smallS x).1,(smallS y).1,(smallS z).1⟩ else none
 | _=>none
def ansA:Option Actn→Actn×Int
 | some a=>(a,0)
 | none=>(noneA,150)
def parseA(s:List UInt8):Actn×Int:=ansA (parseL (words 11 s))
theorem pow_le_of{p a m N:Nat}(hp:2≤p)(h:p ^ a*m<2 ^ N)(hm:0<m):a<N:=by
 refine Nat.lt_of_not_le fun hN=>?_;have h1:2 ^ N≤2 ^ a:=Nat.pow_le_pow_right (by decide) hN;have h2:2 ^ a≤p ^ a:=Nat.pow_le_pow_left hp a;have h3:=Nat.le_mul_of_pos_right (p ^ a) hm;omega
theorem plc_small{d k:Nat}(hd:0<d)(h:d<10 ^ 20)(hp:plc d=some k):k≤66:=by
 obtain⟨a,b,r,e,_,_,hr,h2⟩:=plc_parts d hd;rw[h2]at hp;split at hp
 ·rename_i h1
  subst h1;have hN:d<2 ^ 67:=Nat.lt_of_lt_of_le h (by decide);have h5:0<5 ^ b*1:=Nat.mul_pos (Nat.pow_pos (by decide)) (by decide);have ha:a<67:=pow_le_of (p:=2) (m:=5 ^ b*1) (Nat.le_refl _) (by rw[←e];exact hN) h5;have hb:b<67:=pow_le_of (p:=5) (m:=2 ^ a) (by decide) (by rw[Nat.mul_comm,show 2 ^ a*5 ^ b=d by rw[e,Nat.mul_one]];exact hN) (Nat.pow_pos (by decide));have:=Option.some.inj hp;omega
 ·cases hp
theorem prS_len{q:Key}(h:isR q=true)(h1:q.1.length≤20)(h2:q.2.length≤20):(prS q).length≤200:=by
 have L:=Lq.of_text (n:=⟨q.1.toArray⟩) (d:=⟨q.2.toArray⟩) (k:=20) h (by rw[size_of];exact h1) (by rw[size_of];exact h2) (by decide);rw[prS_yes h];have hn:(valR q).num.natAbs<10 ^ 20:=L.num;have hd:(valR q).den<10 ^ 20:=L.den;have hz:0<(valR q).den:=Nat.pos_of_ne_zero (valR q).den_nz
 cases hp:plc (valR q).den with
 | none =>
  rw[prD_none hp,List.length_append,List.length_cons];have:=wd_length (valR q).num;have:=dig_length (k:=20) (by decide) hn;have:=dig_length (k:=20) (by decide) hd;omega
 | some k =>
  have hk:=plc_small hz hd hp;rw[prD_body hp];have hm:(valR q).num.natAbs*(10 ^ k / (valR q).den)<10 ^ 86:=by
   have h3:10 ^ k / (valR q).den≤10 ^ 66:=Nat.le_trans (Nat.div_le_self _ _) (Nat.pow_le_pow_right (by decide) hk);have h4:10 ^ 86=10 ^ 20*10 ^ 66:=by rw[←Nat.pow_add]
   rw[h4];exact Nat.lt_of_le_of_lt (Nat.mul_le_mul_left _ h3) (Nat.mul_lt_mul_of_pos_right hn (Nat.pow_pos (by decide)))
  have hl:=dig_length (k:=86) (by decide) hm;generalize dig ((valR q).num.natAbs*(10 ^ k / (valR q).den))=D at *;have hb:(bodyD k D).length≤160:=by
   unfold bodyD;split
   ·omega
   ·unfold ptD padD;simp only[List.length_append,List.length_cons,List.length_take,List.length_drop,List.length_replicate];omega
  unfold sgnD;split
  ·rw[List.length_cons];omega
  ·omega
def dayA(ex rc pay:Int):Actn:=⟨[115,49],0,[120],[],([50],[49]),([48],[49]),ex,rc,pay⟩
def kindA(k:Int)(o r c:Bool):Actn:=⟨[97,49],k,[120],if o then [121] else [],([if r then 50 else 48],[49]),([if c then 51 else 48],[49]),0,0,0⟩
theorem kinds_no{k:Int}(h:k<0∨4<k)(a:Actn)(he:a.kind=k):mayA a=false:=by
 unfold mayA;rw[he];rcases h with h|h
 ·rw[decide_eq_false (show ¬0≤k by omega)];simp
 ·rw[decide_eq_false (show ¬k≤4 by omega)];simp
end Ac
end Go.Proofs.YtcebkcilkhebeaaGreatDoor
set_option maxRecDepth 100000
namespace Go.Proofs.YtcebkcilkhebeaaGreatDoor
open Go.ChangeShapes Go.WideShapes Go.RowKit Go.Joins Go.Deep
section
variable {H : Type} {enc : TypeId × Value → H} {w : World} {base : Nat} {sp : Nat → Bool} {held : Bool}
theorem cellsAct:Tryz.prog.cellsOf 25=11:=by kernel_rfl
theorem array11{cs:Array Value}(h:cs.size=11):∃a b c d e f g i j k l,cs=#[a,b,c,d,e,f,g,i,j,k,l]:=by
 obtain⟨l⟩:=cs
 match l,h with
 | [a,b,c,d,e,f,g,i,j,k,l],_=>exact⟨a,b,c,d,e,f,g,i,j,k,l,rfl⟩
theorem str_part{n:Nat}{c:Value}{y:DataW H×List MemPlace}(h:DataW.trod enc Tryz.prog w base sp held n 9 [c]=some y):∃k:List UInt8,c=.string ⟨k.toArray⟩∧k.length∈y.1.weights Tryz.prog 9:=by
 obtain⟨s,e,hy,_⟩:=DataW.trod_string Tryz.underlying9 h;exact⟨s.data.toList,by rw[(List.cons.inj e).1,str_list],by rw[hy];simp[DataW.weights]⟩
theorem open_act{r:Reach}{b0:Nat}{v:Value}{d:DataW H}{p:List MemPlace}(hv:Value.okWide Tryz.prog w r b0 25 v)(h:DataW.Trod enc Tryz.prog w base sp held 25 v d p)(hw:∀n∈d.weights Tryz.prog 25,n≤reachBytes) :
  ∃a:Ac.Actn,v=.agg #[.string ⟨a.nm.toArray⟩,.int .i64 a.kind,.string ⟨a.ast.toArray⟩,.string ⟨a.oth.toArray⟩,.string ⟨a.ratio.1.toArray⟩,.string ⟨a.ratio.2.toArray⟩,.string ⟨a.cash.1.toArray⟩,.string ⟨a.cash.2.toArray⟩,.int .i64 a.ex,.int .i64 a.rc,.int .i64 a.pay]∧a.nm.length≤140737488355328∧a.ast.length≤140737488355328∧a.oth.length≤140737488355328:=by
 obtain⟨cs,rfl,hsz⟩:=okWide_struct Tryz.underlying25 hv;obtain⟨c0,c1,c2,c3,c4,c5,c6,c7,c8,c9,c10,rfl⟩:=array11 (hsz.trans cellsAct);obtain⟨fuel,h⟩:=h;obtain⟨xs,m,_,hdp,hl,hlen,hf⟩:=DataW.trod_struct Tryz.underlying25 h;obtain⟨rfl,rfl⟩:=Prod.mk.inj hdp
 match xs,hlen with
 | [y0,y1,y2,y3,y4,y5,y6,y7,y8],_ =>
  have h0:DataW.trod enc Tryz.prog w base sp held m 9 (([c0,c1,c2,c3,c4,c5,c6,c7,c8,c9,c10].drop 0).take (Tryz.prog.cellsOf 9))=some y0:=hf 0 _ rfl;have h1:DataW.trod enc Tryz.prog w base sp held m 3 (([c0,c1,c2,c3,c4,c5,c6,c7,c8,c9,c10].drop 1).take (Tryz.prog.cellsOf 3))=some y1:=hf 1 _ rfl;have h2:DataW.trod enc Tryz.prog w base sp held m 9 (([c0,c1,c2,c3,c4,c5,c6,c7,c8,c9,c10].drop 2).take (Tryz.prog.cellsOf 9))=some y2:=hf 2 _ rfl;have h3:DataW.trod enc Tryz.prog w base sp held m 9 (([c0,c1,c2,c3,c4,c5,c6,c7,c8,c9,c10].drop 3).take (Tryz.prog.cellsOf 9))=some y3:=hf 3 _ rfl;have h4:DataW.trod enc Tryz.prog w base sp held m 23 (([c0,c1,c2,c3,c4,c5,c6,c7,c8,c9,c10].drop 4).take (Tryz.prog.cellsOf 23))=some y4:=hf 4 _ rfl;have h5:DataW.trod enc Tryz.prog w base sp held m 23 (([c0,c1,c2,c3,c4,c5,c6,c7,c8,c9,c10].drop 6).take (Tryz.prog.cellsOf 23))=some y5:=hf 5 _ rfl;have h6:DataW.trod enc Tryz.prog w base sp held m 3 (([c0,c1,c2,c3,c4,c5,c6,c7,c8,c9,c10].drop 8).take (Tryz.prog.cellsOf 3))=some y6:=hf 6 _ rfl;have h7:DataW.trod enc Tryz.prog w base sp held m 3 (([c0,c1,c2,c3,c4,c5,c6,c7,c8,c9,c10].drop 9).take (Tryz.prog.cellsOf 3))=some y7:=hf 7 _ rfl;have h8:DataW.trod enc Tryz.prog w base sp held m 3 (([c0,c1,c2,c3,c4,c5,c6,c7,c8,c9,c10].drop 10).take (Tryz.prog.cellsOf 3))=some y8:=hf 8 _ rfl;rw[cellsStr]at h0 h2 h3;rw[cellsInt]at h1 h6 h7 h8;rw[cellsRat]at h4 h5;obtain⟨a0,rfl,w0⟩:=str_part h0;obtain⟨a1,rfl⟩:=one_int h1;obtain⟨a2,rfl,w2⟩:=str_part h2;obtain⟨a3,rfl,w3⟩:=str_part h3
  obtain⟨a4,rfl,rfl⟩:=one_rat h4;obtain⟨a5,rfl,rfl⟩:=one_rat h5;obtain⟨a6,rfl⟩:=one_int h6;obtain⟨a7,rfl⟩:=one_int h7;obtain⟨a8,rfl⟩:=one_int h8;have hin:∀ (j:Nat) (y:DataW H×List MemPlace) (n:Nat),[y0,y1,y2,y3,y4,y5,y6,y7,y8][j]?=some y→[9,3,9,9,23,23,3,3,3][j]?=some 9→n∈y.1.weights Tryz.prog 9→n≤140737488355328:=fun j y n hy ht hn=>by
   have k:=hw n (by
    simp only[DataW.weights,Tryz.underlying25];exact DataW.weights_mem_each (j:=j) (t:=9) (d:=y.1) ht (by rw[List.getElem?_map,hy];rfl) _ hn)
   simp only[reachBytes]at k;omega
  exact⟨⟨a0,a1,a2,a3,a4,a5,a6,a7,a8⟩,rfl,hin 0 y0 _ rfl rfl w0,hin 2 y2 _ rfl rfl w2,hin 3 y3 _ rfl rfl w3⟩
end
end Go.Proofs.YtcebkcilkhebeaaGreatDoor
namespace Go.Proofs.YtcebkcilkhebeaaGreatDoor
open Go.RowKit
namespace Fx
end Fx
end Go.Proofs.YtcebkcilkhebeaaGreatDoor
namespace Go.Proofs.YtcebkcilkhebeaaGreatDoor
open Go.RowKit
end Go.Proofs.YtcebkcilkhebeaaGreatDoor
namespace Go.Proofs.YtcebkcilkhebeaaGreatDoor
open Go.RowKit
end Go.Proofs.YtcebkcilkhebeaaGreatDoor
namespace Go.Proofs.YtcebkcilkhebeaaGreatDoor
open Go.RowKit
end Go.Proofs.YtcebkcilkhebeaaGreatDoor
namespace Go.Proofs.YtcebkcilkhebeaaGreatDoor
open Go.RowKit
end Go.Proofs.YtcebkcilkhebeaaGreatDoor
namespace Go.Proofs.YtcebkcilkhebeaaGreatDoor
open Go.RowKit
end Go.Proofs.YtcebkcilkhebeaaGreatDoor
namespace Go.Proofs.YtcebkcilkhebeaaGreatDoor
open Go.RowKit
end Go.Proofs.YtcebkcilkhebeaaGreatDoor
namespace Go.Proofs.YtcebkcilkhebeaaGreatDoor
open Go.RowKit
end Go.Proofs.YtcebkcilkhebeaaGreatDoor
namespace Go.Proofs.YtcebkcilkhebeaaGreatDoor
open Go.RowKit
end Go.Proofs.YtcebkcilkhebeaaGreatDoor
