/- Own work. -/
import Derived.Test.YtcebkcilkhebeaaGreatDoorAllRefT8M
set_option linter.unusedVariables false
namespace Go.Proofs.YtcebkcilkhebeaaGreatDoor
namespace Ac
def cutB:List UInt8→Option (List UInt8×List UInt8)
 | []=>none
 | c::r=>if c=32 then some ([],r) else match cutB r with|none=>none|some (a,b)=>some (c::a,b)
def words:Nat→List UInt8→List (List UInt8)
 | 0,s=>[s]
 | k+1,s=>match cutB s with|none=>[s]|some (a,b)=>a::words k b
def joinW:List (List UInt8)→List UInt8
 | []=>[]
 | [w]=>w
 | w::v::r=>w++32::joinW (v::r)
def noB(w:List UInt8):Prop:=∀c∈w,c≠32
theorem cutB_none:∀ {w:List UInt8},noB w→cutB w=none
 | [],_=>rfl
 | c::r,h=>by
  unfold cutB;rw[if_neg (h c (List.mem_cons_self ..)),cutB_none fun d hd=>h d (List.mem_cons_of_mem _ hd)]
theorem cutB_some:∀ {w:List UInt8},noB w→∀r,cutB (w++32::r)=some (w,r)
 | [],_,r=>rfl
 | c::w,h,r=>by
  rw[List.cons_append];unfold cutB;rw[if_neg (h c (List.mem_cons_self ..)),cutB_some fun d hd=>h d (List.mem_cons_of_mem _ hd)]
theorem cutB_inv:∀ {s a b:List UInt8},cutB s=some (a,b)→s=a++32::b∧noB a
 | [],a,b,h=>by cases h
 | c::r,a,b,h=>by
  unfold cutB at h;split at h
  ·rename_i e;cases h;rw[e];exact⟨rfl,fun d hd=>by cases hd⟩
  ·rename_i e
   cases k:cutB r with
   | none=>rw[k]at h;cases h
   | some p =>
    obtain⟨u,v⟩:=p;rw[k]at h
    cases h
    obtain⟨h1,h2⟩:=cutB_inv k;refine⟨by rw[h1];rfl,fun d hd=>?_⟩;rcases List.mem_cons.1 hd with rfl|hd
    ·exact e
    ·exact h2 d hd
theorem words_join:∀ (L:List (List UInt8)) (k:Nat),L≠[]→(∀w∈L,noB w)→L.length≤k+1→words k (joinW L)=L
 | [],_,h,_,_=>absurd rfl h
 | [w],k,_,hb,_=>by
  cases k with
  | zero=>rfl
  | succ k=>show (match cutB w with|none=>[w]|some (a,b)=>a::words k b)=_;rw[cutB_none (hb w (List.mem_cons_self ..))]
 | w::v::r,0,_,_,hl=>by simp only[List.length_cons]at hl;omega
 | w::v::r,k+1,_,hb,hl=>by
  show (match cutB (w++32::joinW (v::r)) with|none=>_|some (a,b)=>a::words k b)=_;rw[cutB_some (hb w (List.mem_cons_self ..))];show w::words k (joinW (v::r))=_;rw[words_join (v::r) k (fun h=>by cases h) (fun x hx=>hb x (List.mem_cons_of_mem _ hx)) (by simp only[List.length_cons]at hl ⊢;omega)]
theorem words_ne:∀ (k:Nat) (s:List UInt8),words k s≠[]
 | 0,s,h=>by cases h
 | k+1,s,h=>by
  unfold words at h;split at h<;>cases h
theorem words_len:∀ (k:Nat) (s:List UInt8),(words k s).length≤k+1
 | 0,s=>Nat.le_refl _
 | k+1,s=>by
  unfold words;split
  ·simp
  ·rename_i a b _
   rw[List.length_cons];have:=words_len k b;omega
structure Actn where
 nm:List UInt8
 kind:Int
 ast:List UInt8
 oth:List UInt8
 ratio:Key
 cash:Key
 ex:Int
 rc:Int
 pay:Int
 deriving DecidableEq
def oB(k:Int):Bool:=decide (3≤k)
def rB(k:Int):Bool:=!decide (k=2)
def cB(k:Int):Bool:=decide (k=2)||decide (k=4)
def digH(s:List UInt8):Bool:=match s with|[]=>false|c::_=>isDig c
def assetB(s:List UInt8):Bool:=isName s&&(!(s.head?==some 33)&&(!digH s&&!(s == [99,97,115,104])))
def numB(x:Key)(named:Bool)(least:Int):Bool:=if named then isR x&&(decide (least≤sgnR x)&&(decide (x.1.length≤20)&&decide (x.2.length≤20))) else x==([48],[49])
def leastC(k:Int):Int:=if k=4 then 0 else 1
def mayA(a:Actn):Bool :=
 isName a.nm&&(assetB a.ast&&(decide (0≤a.kind)&&(decide (a.kind≤4)&&(decide (0≤a.ex)&&(decide (a.ex≤a.rc)&&(decide (a.rc≤a.pay)&&(decide (a.pay≤9999) &&
  ((if oB a.kind then assetB a.oth&&!(a.oth==a.ast) else a.oth == [])&&(numB a.ratio (rB a.kind) 1&&numB a.cash (cB a.kind) (leastC a.kind))))))))))
def wordK(k:Int):List UInt8:=if k=0 then [115,112,108,105,116] else if k=1 then [115,116,111,99,107] else if k=2 then [99,97,115,104] else if k=3 then [115,112,105,110] else [109,101,114,103,101,114]
def moreA(a:Actn):List (List UInt8):=(if oB a.kind then [a.oth] else [])++((if rB a.kind then [prS a.ratio] else [])++(if cB a.kind then [prS a.cash] else []))
def wordsA(a:Actn):List (List UInt8):=wordK a.kind::a.nm::a.ast::wd a.ex::wd a.rc::wd a.pay::moreA a
def printA(a:Actn):List UInt8:=if mayA a then joinW (wordsA a) else []
def kindW(w:List UInt8):Int:=if w=wordK 0 then 0 else if w=wordK 1 then 1 else if w=wordK 2 then 2 else if w=wordK 3 then 3 else if w=wordK 4 then 4 else -1
def noneA:Actn:=⟨[],0,[],[],([],[]),([],[]),0,0,0⟩
def takeO(b:Bool)(l:List (List UInt8)):Option (List UInt8×List (List UInt8)):=if b then (match l with|[]=>none|w::r=>some (w,r)) else some ([],l)
def takeN(b:Bool)(l:List (List UInt8)):Option ((Key×Bool)×List (List UInt8)):=if b then (match l with|[]=>none|w::r=>some (((parS w).1,decide ((parS w).2=0)),r)) else some ((([48],[49]),true),l)
def partsA(k:Int)(l:List (List UInt8)):Option ((List UInt8×Key×Key)×Bool) :=
 (takeO (oB k) l).bind fun o=>(takeN (rB k) o.2).bind fun q=>(takeN (cB k) q.2).bind fun c=>if c.2=[] then some ((o.1,q.1.1,c.1.1),q.1.2&&c.1.2) else none
def parseL:List (List UInt8)→Option Actn
 | k::n::a::x::y::z::r=>if kindW k<0 then none else
  (partsA (kindW k) r).bind fun p=>if (smallS x).2=true∧(smallS y).2=true∧(smallS z).2=true∧p.2=true∧mayA ⟨n,kindW k,a,p.1.1,p.1.2.1,p.1.2.2,(smallS x).1,(smallS y).1,(smallS z).1⟩=true then
   some ⟨n,kindW k,a,p.1.1,p.1.2.1,p.1.2.2,(smallS x).1,(smallS y).1,(smallS z).1⟩ else none
 | _=>none
def ansA:Option Actn→Actn×Int
 | some a=>(a,0)
 | none=>(noneA,150)
def parseA(s:List UInt8):Actn×Int:=ansA (parseL (words 11 s))
theorem parse_may{s:List UInt8}{a:Actn}(h:parseA s=(a,0)):mayA a=true:=by
 unfold parseA at h
 cases e:parseL (words 11 s) with
 | none=>rw[e]at h;cases congrArg Prod.snd h
 | some b =>
  rw[e]at h;obtain rfl:b=a:=congrArg Prod.fst h;unfold parseL at e;split at e
  ·split at e
   ·cases e
   ·rename_i k n u x y z r _ _
    cases hp:partsA (kindW k) r with
    | none=>rw[hp]at e;cases e
    | some p =>
     rw[hp]at e
     change (if _ then _ else _)=some b at e
     split at e
     ·rename_i hk
      cases e
      exact hk.2.2.2.2
     ·cases e
  ·cases e
theorem noB_dig(n:Nat):noB (dig n):=fun c hc e=>by
 have h:=Tm.dig_pt n c hc;rw[e]at h;cases h
theorem noB_wd(z:Int):noB (wd z):=fun c hc e=>by
 unfold wd at hc;split at hc
 ·rcases List.mem_cons.1 hc with h|h
  ·rw[e]at h;cases h
  ·exact noB_dig _ c h e
 ·exact noB_dig _ c hc e
theorem noB_from:∀ {k:Nat} {l:List UInt8},nmFrom k l=true→noB l
 | _,[],_=>fun c hc=>by cases hc
 | k,c::r,h=>fun d hd e=>by
  simp only[nmFrom,Bool.and_eq_true]at h;rcases List.mem_cons.1 hd with rfl|hd
  ·rw[e]at h;have h1:=h.1;unfold okB nameC at h1;simp at h1
  ·exact noB_from h.2 d hd e
theorem noB_name{l:List UInt8}(h:isName l=true):noB l:=by
 unfold isName at h;simp only[Bool.and_eq_true]at h;exact noB_from h.1
theorem noB_asset{l:List UInt8}(h:assetB l=true):noB l:=by
 unfold assetB at h;simp only[Bool.and_eq_true]at h;exact noB_name h.1
theorem noB_word(k:Int):noB (wordK k):=fun c hc e=>by
 subst e;unfold wordK at hc
 revert hc
 split
 ·decide
 split
 ·decide
 split
 ·decide
 split
 ·decide
 ·decide
theorem noB_sgn{b:Bool}{l:List UInt8}(h:noB l):noB (sgnD b l):=fun c hc=>by
 unfold sgnD at hc;split at hc
 ·rcases List.mem_cons.1 hc with e|e
  ·rw[e];decide
  ·exact h c e
 ·exact h c hc
theorem noB_prD(q:Rat):noB (prD q):=by
 cases h:plc q.den with
 | none =>
  rw[prD_none h];intro c hc;rcases List.mem_append.1 hc with k|k
  ·exact noB_wd _ c k
  ·rcases List.mem_cons.1 k with k|k
   ·rw[k];decide
   ·exact noB_dig _ c k
 | some k =>
  rw[prD_body h];refine noB_sgn ?_;unfold bodyD;split
  ·exact noB_dig _
  ·unfold ptD padD;have key:∀c∈List.replicate (k+1-(dig (q.num.natAbs*(10 ^ k / q.den))).length) (48:UInt8)++dig (q.num.natAbs*(10 ^ k / q.den)),c≠32:=fun c hc=>by
    rcases List.mem_append.1 hc with h|h
    ·rw[(List.mem_replicate.1 h).2];decide
    ·exact noB_dig _ c h
   intro c hc;rcases List.mem_append.1 hc with h|h
   ·exact key c (List.mem_of_mem_take h)
   ·rcases List.mem_cons.1 h with rfl|h
    ·decide
    ·exact key c (List.mem_of_mem_drop h)
theorem noB_prS(q:Key):noB (prS q):=by
 unfold prS;split
 ·exact noB_prD _
 ·exact fun c hc=>by cases hc
theorem pow_le_of{p a m N:Nat}(hp:2≤p)(h:p ^ a*m<2 ^ N)(hm:0<m):a<N:=by
 refine Nat.lt_of_not_le fun hN=>?_;have h1:2 ^ N≤2 ^ a:=Nat.pow_le_pow_right (by decide) hN;have h2:2 ^ a≤p ^ a:=Nat.pow_le_pow_left hp a;have h3:=Nat.le_mul_of_pos_right (p ^ a) hm;omega
theorem plc_small{d k:Nat}(hd:0<d)(h:d<10 ^ 20)(hp:plc d=some k):k≤66:=by
 obtain⟨a,b,r,e,_,_,hr,h2⟩:=plc_parts d hd;rw[h2]at hp;split at hp
 ·rename_i h1
  subst h1;have hN:d<2 ^ 67:=Nat.lt_of_lt_of_le h (by decide);have h5:0<5 ^ b*1:=Nat.mul_pos (Nat.pow_pos (by decide)) (by decide);have ha:a<67:=pow_le_of (p:=2) (m:=5 ^ b*1) (Nat.le_refl _) (by rw[←e];exact hN) h5;have hb:b<67:=pow_le_of (p:=5) (m:=2 ^ a) (by decide) (by rw[Nat.mul_comm,show 2 ^ a*5 ^ b=d by rw[e,Nat.mul_one]];exact hN) (Nat.pow_pos (by decide));have:=Option.some.inj hp;omega
 ·cases hp
theorem prS_len{q:Key}(h:isR q=true)(h1:q.1.length≤20)(h2:q.2.length≤20):(prS q).length≤200:=by
 have L:=Lq.of_text (n:=⟨q.1.toArray⟩) (d:=⟨q.2.toArray⟩) (k:=20) h (by rw[size_of];exact h1) (by rw[size_of];exact h2) (by decide);rw[prS_yes h];have hn:(valR q).num.natAbs<10 ^ 20:=L.num;have hd:(valR q).den<10 ^ 20:=L.den;have hz:0<(valR q).den:=Nat.pos_of_ne_zero (valR q).den_nz
 cases hp:plc (valR q).den with
 | none =>
  rw[prD_none hp,List.length_append,List.length_cons];have:=wd_length (valR q).num;have:=dig_length (k:=20) (by decide) hn;have:=dig_length (k:=20) (by decide) hd;omega
 | some k =>
  have hk:=plc_small hz hd hp;rw[prD_body hp];have hm:(valR q).num.natAbs*(10 ^ k / (valR q).den)<10 ^ 86:=by
   have h3:10 ^ k / (valR q).den≤10 ^ 66:=Nat.le_trans (Nat.div_le_self _ _) (Nat.pow_le_pow_right (by decide) hk);have h4:10 ^ 86=10 ^ 20*10 ^ 66:=by rw[←Nat.pow_add]
   rw[h4];exact Nat.lt_of_le_of_lt (Nat.mul_le_mul_left _ h3) (Nat.mul_lt_mul_of_pos_right hn (Nat.pow_pos (by decide)))
  have hl:=dig_length (k:=86) (by decide) hm;generalize dig ((valR q).num.natAbs*(10 ^ k / (valR q).den))=D at *;have hb:(bodyD k D).length≤160:=by
   unfold bodyD;split
   ·omega
   ·unfold ptD padD;simp only[List.length_append,List.length_cons,List.length_take,List.length_drop,List.length_replicate];omega
  unfold sgnD;split
  ·rw[List.length_cons];omega
  ·omega
theorem parS_prS{q:Key}(h:isR q=true)(h1:q.1.length≤20)(h2:q.2.length≤20):parS (prS q)=(q,0):=by
 have hl:=prS_len h h1 h2;rw[prS_yes h]at hl ⊢;rw[parS_some (by omega) (back_u _),rd_valR h]
theorem small_wd{n:Int}(h:0≤n)(h2:n≤9999):smallS (wd n)=(n,true):=by
 have e:wd n=dig n.natAbs:=by unfold wd;rw[if_neg (by omega)]
 unfold smallS;rw[e,isNat_dig,valS_dig,decide_eq_true (show n.natAbs≤9223372036854775807 by omega),Bool.and_self,if_pos rfl];exact Prod.ext (by show (n.natAbs:Int)=n;omega) rfl
theorem kind_word{k:Int}(h:0≤k)(h2:k≤4):kindW (wordK k)=k:=by
 rcases(show k=0∨k=1∨k=2∨k=3∨k=4 by omega) with rfl|rfl|rfl|rfl|rfl<;>decide
theorem numB_take{x:Key}{b:Bool}{m:Int}(h:numB x b m=true)(l:List (List UInt8)):takeN b ((if b then [prS x] else [])++l)=some ((x,true),l):=by
 unfold numB at h
 cases b with
 | true =>
  rw[if_pos rfl]at h;simp only[Bool.and_eq_true,decide_eq_true_eq]at h;unfold takeN;rw[if_pos rfl,if_pos rfl];show some (((parS (prS x)).1,decide ((parS (prS x)).2=0)),l)=_;rw[parS_prS h.1 h.2.2.1 h.2.2.2];rfl
 | false =>
  rw[if_neg (by decide)]at h;have e:=beq_iff_eq.1 h;rw[e];rfl
theorem parts_print{a:Actn}(ho:(if oB a.kind then assetB a.oth&&!(a.oth==a.ast) else a.oth == [])=true)(hr:numB a.ratio (rB a.kind) 1=true)(hc:numB a.cash (cB a.kind) (leastC a.kind)=true):partsA a.kind (moreA a)=some ((a.oth,a.ratio,a.cash),true):=by
 have h1:takeO (oB a.kind) (moreA a)=some (a.oth,(if rB a.kind then [prS a.ratio] else [])++(if cB a.kind then [prS a.cash] else [])):=by
  unfold takeO moreA
  cases hb:oB a.kind with
  | true=>rfl
  | false =>
   rw[hb,if_neg (by decide)]at ho;rw[beq_iff_eq.1 ho];rfl
 unfold partsA;rw[h1,Option.bind_some,numB_take hr,Option.bind_some];have h3:=numB_take hc [];rw[List.append_nil]at h3;rw[h3]
 rfl
theorem parse_print{a:Actn}(h:mayA a=true):parseA (printA a)=(a,0):=by
 have hm:=h;unfold mayA at h;simp only[Bool.and_eq_true,decide_eq_true_eq]at h;obtain⟨h1,h2,h3,h4,h5,h6,h7,h8,h9,h10,h11⟩:=h;have hnb:∀w∈wordsA a,noB w:=fun w hw=>by
  unfold wordsA at hw;rcases List.mem_cons.1 hw with rfl|hw;· exact noB_word _
  rcases List.mem_cons.1 hw with rfl|hw;· exact noB_name h1
  rcases List.mem_cons.1 hw with rfl|hw;· exact noB_asset h2
  rcases List.mem_cons.1 hw with rfl|hw;· exact noB_wd _
  rcases List.mem_cons.1 hw with rfl|hw;· exact noB_wd _
  rcases List.mem_cons.1 hw with rfl|hw;· exact noB_wd _
  unfold moreA at hw;rcases List.mem_append.1 hw with hw|hw
  ·split at hw
   ·rename_i hb
    rw[if_pos hb]at h9;simp only[Bool.and_eq_true]at h9;rw[List.mem_singleton.1 hw];exact noB_asset h9.1
   ·cases hw
  rcases List.mem_append.1 hw with hw|hw<;>split at hw
  ·rw[List.mem_singleton.1 hw];exact noB_prS _
  ·cases hw
  ·rw[List.mem_singleton.1 hw];exact noB_prS _
  ·cases hw
 have hl:(wordsA a).length≤11+1:=by
  unfold wordsA moreA;simp only[List.length_cons,List.length_append];have e:∀ (b:Bool) (w:List UInt8),(if b=true then [w] else []).length≤1:=fun b w=>by cases b<;>simp
  have:=e (oB a.kind) a.oth;have:=e (rB a.kind) (prS a.ratio);have:=e (cB a.kind) (prS a.cash);omega
 unfold parseA printA;rw[if_pos hm,words_join _ 11 (fun e=>by cases e) hnb hl];have hs:parseL (wordsA a)=some a:=by
  unfold wordsA parseL;dsimp only;rw[kind_word h3 h4,if_neg (by omega),parts_print h9 h10 h11,Option.bind_some,small_wd h5 (by omega),small_wd (by omega) (by omega),small_wd (by omega) (by omega)];exact if_pos ⟨rfl,rfl,rfl,rfl,hm⟩
 rw[hs];rfl
theorem print_ne{a:Actn}(h:mayA a=true):printA a≠[]:=fun e=>by
 have k:=parse_print h;rw[e]at k;have:parseA []=(noneA,150):=by decide
 rw[this]at k
 cases congrArg Prod.snd k
theorem print_inj{a b:Actn}(ha:mayA a=true)(hb:mayA b=true)(h:printA a=printA b):a=b:=by
 have k:=parse_print ha;rw[h,parse_print hb]at k;exact(congrArg Prod.fst k).symm
def dayA(ex rc pay:Int):Actn:=⟨[115,49],0,[120],[],([50],[49]),([48],[49]),ex,rc,pay⟩
theorem days_may(ex rc pay:Int):mayA (dayA ex rc pay)=(decide (0≤ex)&&(decide (ex≤rc)&&(decide (rc≤pay)&&decide (pay≤9999)))):=by
 have h1:isName [115,49]=true:=by decide
 have h2:assetB [120]=true:=by decide
 have h3:numB (([50],[49]):Key) true 1=true:=by decide +kernel
 have h4:numB (([48],[49]):Key) false 1=true:=by decide +kernel
 show (isName [115,49]&&(assetB [120]&&(true&&(true&&(decide (0≤ex)&&(decide (ex≤rc)&&(decide (rc≤pay)&&(decide (pay≤9999)&&(true&&(numB ([50],[49]) true 1&&numB ([48],[49]) false 1))))))))))=_;rw[h1,h2,h3,h4];simp only[Bool.true_and,Bool.and_true]
def kindA(k:Int)(o r c:Bool):Actn:=⟨[97,49],k,[120],if o then [121] else [],([if r then 50 else 48],[49]),([if c then 51 else 48],[49]),0,0,0⟩
theorem kinds_may{k:Int}(h:0≤k)(h2:k≤4)(o r c:Bool):mayA (kindA k o r c)=((o==oB k)&&((r==rB k)&&(decide (k=4)||c==decide (k=2)))):=by
 rcases(show k=0∨k=1∨k=2∨k=3∨k=4 by omega) with rfl|rfl|rfl|rfl|rfl<;>cases o<;>cases r<;>cases c<;>decide +kernel
theorem kinds_no{k:Int}(h:k<0∨4<k)(a:Actn)(he:a.kind=k):mayA a=false:=by
 unfold mayA;rw[he];rcases h with h|h
 ·rw[decide_eq_false (show ¬0≤k by omega)];simp
 ·rw[decide_eq_false (show ¬k≤4 by omega)];simp
theorem parse_back{s:List UInt8}{a:Actn}(h:parseA s=(a,0)):parseA (printA a)=(a,0):=parse_print (parse_may h)
end Ac
end Go.Proofs.YtcebkcilkhebeaaGreatDoor
