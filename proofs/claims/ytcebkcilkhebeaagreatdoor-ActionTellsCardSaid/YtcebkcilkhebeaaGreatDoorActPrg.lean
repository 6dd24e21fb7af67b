/- Own work. -/
import Derived.Test.YtcebkcilkhebeaaGreatDoorAllRefF3M
import Derived.Lib.Split
set_option linter.unusedVariables false
namespace Go.Proofs.YtcebkcilkhebeaaGreatDoor
namespace Ac
theorem ib_cut:∀s:List UInt8,(cutB s=none∧Lib.indexByte s 32=-1)∨∃i:Nat,Lib.indexByte s 32=i∧cutB s=some (s.take i,s.drop (i+1))
 | []=>.inl ⟨rfl,rfl⟩
 | c::r=>by
  unfold cutB Lib.indexByte;by_cases h:c=32
  ·subst h;exact .inr ⟨0,rfl,rfl⟩
  ·rw[if_neg h,if_neg (show ¬(c==32)=true from fun e=>h (beq_iff_eq.1 e))];rcases ib_cut r with ⟨h1,h2⟩|⟨i,h1,h2⟩
   ·rw[h1,h2];exact .inl ⟨rfl,rfl⟩
   ·rw[h1,h2];exact .inr ⟨i+1,by rw[if_neg (by simp;try omega)];omega,rfl⟩
theorem split_words:∀ (k:Nat) (s:List UInt8),Lib.splitK [32] 0 k s=words k s
 | 0,s=>rfl
 | k+1,s=>by
  unfold Lib.splitK words;rw[Lib.index_one];rcases ib_cut s with ⟨h1,h2⟩|⟨i,h1,h2⟩
  ·rw[h1,h2];rfl
  ·rw[h1,h2,if_neg (by simp;try omega)];show s.take (((i:Int)).toNat+0)::_=s.take i::_;rw[split_words k,Int.toNat_natCast];rfl
theorem words_more:∀ (k m:Nat) (s:List UInt8),(words k s).length≤k→words (k+m) s=words k s
 | 0,m,s,h=>by have:(words 0 s).length=1:=rfl;omega
 | k+1,m,s,h=>by
  rw[Nat.add_right_comm k 1 m];unfold words at h ⊢
  cases e:cutB s with
  | none=>rfl
  | some p =>
   obtain⟨a,b⟩:=p;rw[e]at h;show a::words (k+m) b=a::words k b;rw[words_more k m b (by simp only[List.length_cons]at h;omega)]
theorem words_long:∀ (k m:Nat) (s:List UInt8),(words k s).length=k+1→k+1≤(words (k+m) s).length
 | 0,m,s,h=>by
  have:=words_ne (0+m) s
  cases e:words (0+m) s with
  | nil=>exact absurd e this
  | cons a b=>simp
 | k+1,m,s,h=>by
  rw[Nat.add_right_comm k 1 m];unfold words at h;show _≤(match cutB s with|none=>[s]|some (a,b)=>a::words (k+m) b).length
  cases e:cutB s with
  | none=>rw[e]at h;simp at h
  | some p =>
   obtain⟨a,b⟩:=p;rw[e]at h;show k+1+1≤(a::words (k+m) b).length;have:=words_long k m b (by simp only[List.length_cons]at h;omega);simp only[List.length_cons];omega
theorem words_short:∀ (k:Nat) (s:List UInt8),s.length≤k→∀m,words (k+m) s=words k s
 | 0,s,h,m=>by
  rw[List.eq_nil_of_length_eq_zero (Nat.le_zero.1 h)]
  cases m<;>rfl
 | k+1,s,h,m=>by
  rw[Nat.add_right_comm k 1 m];unfold words
  cases e:cutB s with
  | none=>rfl
  | some p =>
   obtain⟨a,b⟩:=p;show a::words (k+m) b=a::words k b;have:=(cutB_inv e).1;rw[words_short k b (by rw[this]at h;simp only[List.length_append,List.length_cons]at h;omega)]
theorem words_min(s:List UInt8):words (min 10 (s.length+1)-1) s=words 9 s:=by
 by_cases h:9≤s.length
 ·rw[show min 10 (s.length+1)-1=9 by omega]
 ·have:=words_short s.length s (Nat.le_refl _) (9-s.length);rw[show s.length+(9-s.length)=9 by omega]at this;rw[show min 10 (s.length+1)-1=s.length by omega,this]
def hdW(l:List (List UInt8)):List UInt8:=l.headD []
def dyW(w:List UInt8):Int:=if (smallS w).2 then (smallS w).1 else -1
def otO(b:Bool)(l:List (List UInt8)):List UInt8×List (List UInt8):=if b then (hdW l,l.tail) else ([],l)
def otN(b:Bool)(l:List (List UInt8)):Key×List (List UInt8):=if b then ((parS (hdW l)).1,l.tail) else (([48],[49]),l)
def takenQ(k:Int)(l:List (List UInt8)):Actn×List (List UInt8) :=
 let o:=otO (oB k) l.tail.tail.tail.tail.tail
 let r:=otN (rB k) o.2
 let c:=otN (cB k) r.2
 (⟨hdW l,k,hdW l.tail,o.1,r.1,c.1,dyW (hdW l.tail.tail),dyW (hdW l.tail.tail.tail),dyW (hdW l.tail.tail.tail.tail)⟩,c.2)
def parseQ(l:List (List UInt8)):Option Actn :=
 if kindW (hdW l)<0 then none else if (takenQ (kindW (hdW l)) l.tail).2=[]∧mayA (takenQ (kindW (hdW l)) l.tail).1=true then some (takenQ (kindW (hdW l)) l.tail).1 else none
theorem parS_cases(w:List UInt8):(∃q,parS w=(q,0))∨parS w=(([],[]),40):=by
 unfold parS;split
 ·exact .inr rfl
 ·split
  ·exact .inl ⟨_,rfl⟩
  ·exact .inr rfl
theorem numB_nil(m:Int):numB ([],[]) true m=false:=by
 unfold numB;rw[if_pos rfl,show isR ([],[])=false by decide,Bool.false_and]
theorem may_days{a:Actn}(h:mayA a=true):0≤a.ex∧0≤a.rc∧0≤a.pay:=by
 unfold mayA at h;simp only[Bool.and_eq_true,decide_eq_true_eq]at h;obtain⟨_,_,_,_,h5,h6,h7,_⟩:=h;exact⟨h5,by omega,by omega⟩
theorem may_o{a:Actn}(h:mayA a=true)(hb:oB a.kind=true):a.oth≠[]:=fun e=>by
 unfold mayA at h;simp only[Bool.and_eq_true,decide_eq_true_eq]at h;obtain⟨_,_,_,_,_,_,_,_,h9,_⟩:=h;rw[if_pos hb,e]at h9
 revert h9
 rw[show assetB []=false by decide,Bool.false_and];exact fun c=>by cases c
theorem may_r{a:Actn}(h:mayA a=true)(hb:rB a.kind=true):a.ratio≠([],[]):=fun e=>by
 unfold mayA at h;simp only[Bool.and_eq_true,decide_eq_true_eq]at h;obtain⟨_,_,_,_,_,_,_,_,_,h10,_⟩:=h;rw[hb,e,numB_nil]at h10
 cases h10
theorem may_c{a:Actn}(h:mayA a=true)(hb:cB a.kind=true):a.cash≠([],[]):=fun e=>by
 unfold mayA at h;simp only[Bool.and_eq_true,decide_eq_true_eq]at h;obtain⟨_,_,_,_,_,_,_,_,_,_,h11⟩:=h;rw[hb,e,numB_nil]at h11
 cases h11
theorem parS_ok{w:List UInt8}(h:(parS w).1≠([],[])):(parS w).2=0:=by
 rcases parS_cases w with ⟨q,e⟩|e
 ·rw[e]
 ·rw[e]at h;exact absurd rfl h
theorem hd_ne{l:List (List UInt8)}{f:List UInt8→Key}(h:f (hdW l)≠([],[]))(h0:f []=([],[])):∃w r,l=w::r:=by
 cases l with
 | nil=>exact absurd h0 h
 | cons w r=>exact⟨w,r,rfl⟩
theorem parS_e:(parS []).1=([],[]):=by decide
theorem dyW_ok{w:List UInt8}(h:0≤dyW w):(smallS w).2=true∧dyW w=(smallS w).1:=by
 unfold dyW at h ⊢;split at h
 ·rename_i k;exact⟨k,by rw[if_pos k]⟩
 ·omega
theorem dy_ne{l:List (List UInt8)}(h:0≤dyW (hdW l)):∃w r,l=w::r:=by
 cases l with
 | nil=>exact absurd h (by decide)
 | cons w r=>exact⟨w,r,rfl⟩
theorem take_of(b:Bool)(l:List (List UInt8))(h:b=true→(otN b l).1≠([],[])):takeN b l=some (((otN b l).1,true),(otN b l).2):=by
 cases b with
 | false=>rfl
 | true =>
  have h1:(parS (hdW l)).1≠([],[]):=h rfl;obtain⟨w,r,rfl⟩:=hd_ne (f:=fun w=>(parS w).1) h1 parS_e;have h2:=parS_ok h1;show some (((parS w).1,decide ((parS w).2=0)),r)=some (((parS w).1,true),r);rw[show (parS w).2=0 from h2];rfl
theorem parse_yes{k:Int}(hk:0≤k){w0:List UInt8}(h0:kindW w0=k){l:List (List UInt8)}(he:(takenQ k l).2=[])(hm:mayA (takenQ k l).1=true):parseL (w0::l)=some (takenQ k l).1:=by
 obtain⟨d1,d2,d3⟩:=may_days hm;have ho:=may_o hm;have hr:=may_r hm;have hc:=may_c hm
 have hm0:=hm;unfold takenQ at d1 d2 d3 ho hr hc he hm ⊢;dsimp only at d1 d2 d3 ho hr hc he hm ⊢;obtain⟨n,l,rfl⟩:∃w r,l=w::r:=by
  cases l with
  | nil=>exact absurd d1 (by decide)
  | cons w r=>exact⟨w,r,rfl⟩
 obtain⟨u,l,rfl⟩:∃w r,l=w::r:=by
  cases l with
  | nil =>
   have d1:0≤dyW []:=d1;exact absurd d1 (by decide)
  | cons w r=>exact⟨w,r,rfl⟩
 dsimp only[List.tail_cons]at *;obtain⟨x,l,rfl⟩:=dy_ne d1;dsimp only[List.tail_cons]at *;obtain⟨y,l,rfl⟩:=dy_ne d2;dsimp only[List.tail_cons]at *;obtain⟨z,l,rfl⟩:=dy_ne d3;dsimp only[List.tail_cons]at *;obtain⟨s1,e1⟩:=dyW_ok d1;obtain⟨s2,e2⟩:=dyW_ok d2;obtain⟨s3,e3⟩:=dyW_ok d3;have ho2:takeO (oB k) l=some (otO (oB k) l):=by
  cases hb:oB k with
  | false=>rfl
  | true =>
   have h1:=ho hb;rw[hb]at h1
   cases l with
   | nil=>exact absurd rfl h1
   | cons w r=>rfl
 unfold parseL;dsimp only;rw[h0,if_neg (by omega)];have hp:partsA k l=some (((otO (oB k) l).1,(otN (rB k) (otO (oB k) l).2).1,(otN (cB k) (otN (rB k) (otO (oB k) l).2).2).1),true):=by
  unfold partsA;rw[ho2,Option.bind_some,take_of _ _ fun hb=>hr hb,Option.bind_some,take_of _ _ fun hb=>hc hb,Option.bind_some];exact if_pos he
 rw[hp,Option.bind_some]
 change dyW x=_ at e1;change dyW y=_ at e2;change dyW z=_ at e3
 have s1:(smallS x).2=true:=s1;have s2:(smallS y).2=true:=s2;have s3:(smallS z).2=true:=s3;show (if (smallS x).2=true∧(smallS y).2=true∧(smallS z).2=true∧true=true∧_ then some _ else none)=some (⟨n,k,u,_,_,_,dyW x,dyW y,dyW z⟩:Actn)
 change mayA ⟨n,k,u,_,_,_,dyW x,dyW y,dyW z⟩=true at hm
 rw[e1,e2,e3]at hm ⊢;exact if_pos ⟨s1,s2,s3,rfl,hm⟩
theorem take_to{b:Bool}{l:List (List UInt8)}{p:(Key×Bool)×List (List UInt8)}(h:takeN b l=some p):otN b l=(p.1.1,p.2):=by
 cases b with
 | false=>cases h;rfl
 | true =>
  cases l with
  | nil=>cases h
  | cons w r=>cases h;rfl
theorem takeO_to{b:Bool}{l:List (List UInt8)}{p:List UInt8×List (List UInt8)}(h:takeO b l=some p):otO b l=p:=by
 cases b with
 | false=>cases h;rfl
 | true =>
  cases l with
  | nil=>cases h
  | cons w r=>cases h;rfl
theorem parse_to{l:List (List UInt8)}{a:Actn}(h:parseL l=some a):parseQ l=some a:=by
 unfold parseL at h;split at h
 ·split at h
  ·cases h
  ·rename_i k n u x y z r hk
   cases hp:partsA (kindW k) r with
   | none=>rw[hp]at h;cases h
   | some p =>
    rw[hp]at h
    change (if _ then _ else _)=some a at h
    split at h
    ·rename_i hc
     cases h
     obtain⟨h1,h2,h3,h4,h5⟩:=hc;unfold partsA at hp
     cases e1:takeO (oB (kindW k)) r with
     | none=>rw[e1]at hp;cases hp
     | some o =>
      rw[e1,Option.bind_some]at hp
      cases e2:takeN (rB (kindW k)) o.2 with
      | none=>rw[e2]at hp;cases hp
      | some q =>
       rw[e2,Option.bind_some]at hp
       cases e3:takeN (cB (kindW k)) q.2 with
       | none=>rw[e3]at hp;cases hp
       | some c =>
        rw[e3,Option.bind_some]at hp;split at hp
        ·rename_i hn
         have hp:=Option.some.inj hp;subst hp;have t1:=takeO_to e1;have t2:=take_to e2;have t3:=take_to e3
         have ht:takenQ (kindW k) (n::u::x::y::z::r)=(⟨n,kindW k,u,o.1,q.1.1,c.1.1,(smallS x).1,(smallS y).1,(smallS z).1⟩,c.2):=by
          unfold takenQ;dsimp only[List.tail_cons];rw[t1,t2];dsimp only;rw[t3];show ((⟨n,_,u,_,_,_,dyW x,dyW y,dyW z⟩:Actn),_)=_;unfold dyW;rw[if_pos h1,if_pos h2,if_pos h3]
         show (if kindW k<0 then none else if (takenQ (kindW k) (n::u::x::y::z::r)).2=[]∧mayA (takenQ (kindW k) (n::u::x::y::z::r)).1=true then some (takenQ (kindW k) (n::u::x::y::z::r)).1 else none)=_;rw[ht,if_neg hk,if_pos ⟨hn,h5⟩]
        ·cases hp
    ·cases h
 ·cases h
theorem parseQ_eq{l:List (List UInt8)}(hl:l≠[]):parseQ l=parseL l:=by
 cases h:parseL l with
 | some a=>exact parse_to h
 | none =>
  unfold parseQ;split
  ·rfl
  split
  ·rename_i h1 h2
   cases l with
   | nil=>exact absurd rfl hl
   | cons w r =>
    have k:=parse_yes (w0:=w) (l:=r) (Int.not_lt.1 h1) rfl h2.1 h2.2;rw[k]at h;cases h
  ·rfl
theorem parseQ_long{l:List (List UInt8)}(h:10≤l.length):parseQ l=none:=by
 unfold parseQ;split
 ·rfl
 refine if_neg fun c=>?_;have e:=c.1;have hN:∀b (m:List (List UInt8)),m.length≤(otN b m).2.length+1:=fun b m=>by unfold otN;split<;>simp<;>omega
 have hO:∀b (m:List (List UInt8)),m.length≤(otO b m).2.length+1:=fun b m=>by unfold otO;split<;>simp<;>omega
 unfold takenQ at e;dsimp only at e;generalize kindW (hdW l)=k at *;have a1:=hO (oB k) l.tail.tail.tail.tail.tail.tail;have a2:=hN (rB k) (otO (oB k) l.tail.tail.tail.tail.tail.tail).2;have a3:=hN (cB k) (otN (rB k) (otO (oB k) l.tail.tail.tail.tail.tail.tail).2).2;rw[e]at a3;simp only[List.length_tail,List.length_nil]at a1 a2 a3;omega
theorem parse_is(s:List UInt8):ansA (parseQ (words 9 s))=parseA s:=by
 unfold parseA
 congr 1
 have hn:=words_len 9 s;by_cases h:(words 9 s).length≤9
 ·rw[show (11:Nat)=9+2 from rfl,words_more 9 2 s h];exact parseQ_eq (words_ne 9 s)
 ·have h1:(words 9 s).length=10:=by omega
  have h2:=words_long 9 2 s h1;rw[parseQ_long (by omega)]
  cases e:parseL (words 11 s) with
  | none=>rfl
  | some a =>
   have:=parse_to e;rw[parseQ_long h2]at this
   cases this
end Ac
end Go.Proofs.YtcebkcilkhebeaaGreatDoor
