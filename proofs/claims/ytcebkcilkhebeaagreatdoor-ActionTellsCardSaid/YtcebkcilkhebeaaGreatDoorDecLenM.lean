/- Own work. -/
import Derived.Test.YtcebkcilkhebeaaGreatDoorFixA
set_option linter.unusedSimpArgs false
set_option linter.unusedVariables false
set_option maxHeartbeats 4000000
set_option maxRecDepth 100000
namespace Go.Proofs.YtcebkcilkhebeaaGreatDoor
open Go.RowKit
open Ac (parseA noneA printA mayA Actn oB rB cB assetB moreA wordsA joinW)
theorem aclight_y(nm ast oth rn rd' cn cd:List UInt8)(k ex rc pay:Int)(w:World)(h:nm.length+ast.length+oth.length≤4611686018427387904):Calls Tryz.prog 7 #[.agg #[.string ⟨nm.toArray⟩,.int .i64 k,.string ⟨ast.toArray⟩,.string ⟨oth.toArray⟩,.string ⟨rn.toArray⟩,.string ⟨rd'.toArray⟩,.string ⟨cn.toArray⟩,.string ⟨cd.toArray⟩,.int .i64 ex,.int .i64 rc,.int .i64 pay]] w (GiveB w (lightA ⟨nm,k,ast,oth,(rn,rd'),(cn,cd),ex,rc,pay⟩)):=by
 have HE:=zh (show lightA ⟨nm,k,ast,oth,(rn,rd'),(cn,cd),ex,rc,pay⟩=(decide (rn.length≤30)&&(decide (rd'.length≤30)&&(decide (cn.length≤30)&&(decide (cd.length≤30)&&decide (nm.length+ast.length+oth.length≤200))))) from rfl);have q1:IntKind.i64.wrap ((nm.length:Int)+(ast.length:Int))=((nm.length:Int)+(ast.length:Int)):=IntWalk.i64_in _ (by omega);have q2:IntKind.i64.wrap ((nm.length:Int)+(ast.length:Int)+(oth.length:Int))=((nm.length:Int)+(ast.length:Int)+(oth.length:Int)):=IntWalk.i64_in _ (by omega);rcases(show ¬(rn.length:Int)≤30∨(rn.length:Int)≤30∧¬(rd'.length:Int)≤30∨(rn.length:Int)≤30∧(rd'.length:Int)≤30∧¬(cn.length:Int)≤30∨(rn.length:Int)≤30∧(rd'.length:Int)≤30∧(cn.length:Int)≤30∧¬(cd.length:Int)≤30∨(rn.length:Int)≤30∧(rd'.length:Int)≤30∧(cn.length:Int)≤30∧(cd.length:Int)≤30∧¬(nm.length:Int)+(ast.length:Int)+(oth.length:Int)≤200∨(rn.length:Int)≤30∧(rd'.length:Int)≤30∧(cn.length:Int)≤30∧(cd.length:Int)≤30∧(nm.length:Int)+(ast.length:Int)+(oth.length:Int)≤200 by omega) with c1|⟨c1,c2⟩|⟨c1,c2,c3⟩|⟨c1,c2,c3,c4⟩|⟨c1,c2,c3,c4,c5⟩|⟨c1,c2,c3,c4,c5⟩
 all_goals (
  go_enter Tryz.func7,Tryz.ntmps7;go_wp2_with fail;obtain⟨W,hW,BW,_,kk⟩:=layN (Below.refl w.heap.size w) #[.string ⟨nm.toArray⟩,.int .i64 k,.string ⟨ast.toArray⟩,.string ⟨oth.toArray⟩,.string ⟨rn.toArray⟩,.string ⟨rd'.toArray⟩,.string ⟨cn.toArray⟩,.string ⟨cd.toArray⟩,.int .i64 ex,.int .i64 rc,.int .i64 pay] 25;rw[hW];clear hW;have b0:=Below.refl W.heap.size W;have k0:=kk 0 _ rfl;have k1:=kk 1 _ rfl;have k2:=kk 2 _ rfl;have k3:=kk 3 _ rfl;have k4:=kk 4 _ rfl;have k5:=kk 5 _ rfl;have k6:=kk 6 _ rfl;have k7:=kk 7 _ rfl;have k8:=kk 8 _ rfl;have k9:=kk 9 _ rfl;have k10:=kk 10 _ rfl
  clear kk;go_wp2_with fail;go_ret;exact⟨ret_bool (by rw[HE.out,Bool.eq_iff_iff];simp;omega),Below.more BW b0⟩)
namespace Ac
def dO(b:Bool)(l:List (List UInt8)):List UInt8×List (List UInt8):=if b then (hdW l,l.tail) else ([],l)
def dN(b:Bool)(l:List (List UInt8)):(Key×Bool)×List (List UInt8):=if b then (match l with|[]=>((([48],[49]),true),[])|w::r=>(((parS w).1,decide ((parS w).2=0)),r)) else ((([48],[49]),true),l)
def bN(b:Bool):Nat:=if b then 1 else 0
def actD(k:Int)(n a x y z:List UInt8)(r:List (List UInt8)):Actn:=⟨n,k,a,(dO (oB k) r).1,(dN (rB k) (dO (oB k) r).2).1.1,(dN (cB k) (dN (rB k) (dO (oB k) r).2).2).1.1,(smallS x).1,(smallS y).1,(smallS z).1⟩
theorem takeN_d(b:Bool)(l:List (List UInt8))(h:bN b≤l.length):takeN b l=some ((dN b l).1,(dN b l).2):=by
 cases b with
 | false=>rfl
 | true =>
  cases l with
  | nil=>exact absurd h (by decide)
  | cons w r=>rfl
theorem takeO_d(b:Bool)(l:List (List UInt8))(h:bN b≤l.length):takeO b l=some (dO b l):=by
 cases b with
 | false=>rfl
 | true =>
  cases l with
  | nil=>exact absurd h (by decide)
  | cons w r=>rfl
theorem dO_len(b:Bool)(l:List (List UInt8)):(dO b l).2.length=l.length-bN b:=by cases b<;>simp[dO,bN]
theorem dN_len(b:Bool)(l:List (List UInt8)):(dN b l).2.length=l.length-bN b:=by
 cases b with
 | false=>rfl
 | true=>cases l<;>simp[dN,bN]
theorem partsA_d(k:Int)(r:List (List UInt8))(h:r.length=bN (oB k)+bN (rB k)+bN (cB k)) :
  partsA k r=some (((dO (oB k) r).1,(dN (rB k) (dO (oB k) r).2).1.1,(dN (cB k) (dN (rB k) (dO (oB k) r).2).2).1.1),(dN (rB k) (dO (oB k) r).2).1.2&&(dN (cB k) (dN (rB k) (dO (oB k) r).2).2).1.2):=by
 have h1:=dO_len (oB k) r;have h2:=dN_len (rB k) (dO (oB k) r).2;have h3:=dN_len (cB k) (dN (rB k) (dO (oB k) r).2).2;unfold partsA;have g1:bN (oB k)≤r.length:=by omega
 have g2:bN (rB k)≤(dO (oB k) r).2.length:=by omega
 have g3:bN (cB k)≤(dN (rB k) (dO (oB k) r).2).2.length:=by omega
 rw[takeO_d _ _ g1,Option.bind_some,takeN_d _ _ g2,Option.bind_some];dsimp only;rw[takeN_d _ _ g3,Option.bind_some];refine if_pos (List.length_eq_zero_iff.1 ?_);rw[h3,h2,h1];omega
theorem partsA_len(k:Int)(r:List (List UInt8))(p:_)(h:partsA k r=some p):r.length=bN (oB k)+bN (rB k)+bN (cB k):=by
 unfold partsA at h;have kO:∀b (l:List (List UInt8)) o,takeO b l=some o→l.length=o.2.length+bN b:=fun b l o e=>by
  unfold takeO at e
  cases b with
  | false=>cases e;rfl
  | true=>cases l with
   | nil=>cases e
   | cons w r=>cases e;rfl
 have kN:∀b (l:List (List UInt8)) o,takeN b l=some o→l.length=o.2.length+bN b:=fun b l o e=>by
  unfold takeN at e
  cases b with
  | false=>cases e;rfl
  | true=>cases l with
   | nil=>cases e
   | cons w r=>cases e;rfl
 cases e1:takeO (oB k) r with
 | none=>rw[e1]at h;cases h
 | some o =>
  rw[e1,Option.bind_some]at h
  cases e2:takeN (rB k) o.2 with
  | none=>rw[e2]at h;cases h
  | some q =>
   rw[e2,Option.bind_some]at h
   cases e3:takeN (cB k) q.2 with
   | none=>rw[e3]at h;cases h
   | some c =>
    rw[e3,Option.bind_some]at h;split at h
    ·rename_i hc
     have a:=kO _ _ _ e1;have b:=kN _ _ _ e2;have d:=kN _ _ _ e3
     rw[hc]at d;simp only[List.length_nil]at d;omega
    ·cases h
theorem parseL_d(w0 n a x y z:List UInt8)(r:List (List UInt8))(hk:0≤kindW w0) :
  parseL (w0::n::a::x::y::z::r)=if r.length=bN (oB (kindW w0))+bN (rB (kindW w0))+bN (cB (kindW w0))∧((smallS x).2=true∧(smallS y).2=true∧((smallS z).2&&(dN (rB (kindW w0)) (dO (oB (kindW w0)) r).2).1.2&&(dN (cB (kindW w0)) (dN (rB (kindW w0)) (dO (oB (kindW w0)) r).2).2).1.2)=true)∧mayA (actD (kindW w0) n a x y z r)=true then some (actD (kindW w0) n a x y z r) else none:=by
 unfold parseL;dsimp only;rw[if_neg (by omega)];by_cases hl:r.length=bN (oB (kindW w0))+bN (rB (kindW w0))+bN (cB (kindW w0))
 ·rw[partsA_d _ _ hl,Option.bind_some];show (if _ then some (actD (kindW w0) n a x y z r) else none)=_;by_cases hc:r.length=bN (oB (kindW w0))+bN (rB (kindW w0))+bN (cB (kindW w0))∧((smallS x).2=true∧(smallS y).2=true∧((smallS z).2&&(dN (rB (kindW w0)) (dO (oB (kindW w0)) r).2).1.2&&(dN (cB (kindW w0)) (dN (rB (kindW w0)) (dO (oB (kindW w0)) r).2).2).1.2)=true)∧mayA (actD (kindW w0) n a x y z r)=true
  ·rw[if_pos hc];obtain⟨_,⟨h1,h2,h3⟩,h4⟩:=hc;simp only[Bool.and_eq_true]at h3;exact if_pos ⟨h1,h2,h3.1.1,by rw[h3.1.2,h3.2];rfl,h4⟩
  ·rw[if_neg hc];refine if_neg fun c=>hc ?_;obtain⟨h1,h2,h3,h4,h5⟩:=c;simp only[Bool.and_eq_true]at h4;exact⟨hl,⟨h1,h2,by rw[h3,h4.1,h4.2];rfl⟩,h5⟩
 ·rw[if_neg fun c=>hl c.1]
  cases hp:partsA (kindW w0) r with
  | none=>rfl
  | some p=>exact absurd (partsA_len _ _ _ hp) hl
theorem parseL_six{l:List (List UInt8)}(h:l.length<7):parseL l=none:=by
 unfold parseL;split
 ·split
  ·rfl
  ·rename_i k n a x y z r _
   have hr:r=[]:=List.eq_nil_of_length_eq_zero (by simp only[List.length_cons]at h;omega);subst hr
   cases hp:partsA (kindW k) [] with
   | none=>rfl
   | some p =>
    have:=partsA_len _ _ _ hp;have hb:1≤bN (rB (kindW k))+bN (cB (kindW k)):=by
     by_cases h2:kindW k=2
     ·rw[h2];decide
     ·have:rB (kindW k)=true:=by unfold rB;rw[decide_eq_false h2];rfl
      rw[this];unfold bN;rw[if_pos rfl];omega
    rw[List.length_nil]at this;omega
 ·rfl
theorem parseL_kind{w0:List UInt8}{r:List (List UInt8)}(h:kindW w0<0):parseL (w0::r)=none:=by
 unfold parseL;split
 ·rename_i e;cases e;rw[if_pos h]
 ·rfl
def kdF(x:List UInt8)(i:Nat):Int:=if 0≤kindW x∧kindW x<(i:Int) then kindW x else -1
theorem kdF_0(x:List UInt8):kdF x 0=-1:=if_neg fun c=>by have:=c.1;have:=c.2;omega
theorem kdF_hit{x:List UInt8}{i:Nat}(hi:i<5)(h:x=wordK i):kdF x (i+1)=i:=by
 subst h;rcases(show i=0∨i=1∨i=2∨i=3∨i=4 by omega) with rfl|rfl|rfl|rfl|rfl<;>decide
theorem kdF_miss{x:List UInt8}{i:Nat}(hi:i<5)(h:x≠wordK i):kdF x (i+1)=kdF x i:=by
 have hk:kindW x≠(i:Int):=fun e=>h (by
  unfold kindW at e;split at e
  ·rename_i c;rw[c];congr 1
  split at e
  ·rename_i c;rw[c];congr 1
  split at e
  ·rename_i c;rw[c];congr 1
  split at e
  ·rename_i c;rw[c];congr 1
  split at e
  ·rename_i c;rw[c];congr 1
  ·omega)
 unfold kdF;by_cases c:0≤kindW x∧kindW x<(i:Int)
 ·rw[if_pos c,if_pos ⟨c.1,by have:=c.2;omega⟩]
 ·rw[if_neg c,if_neg fun d=>c ⟨d.1,by have:=d.2;omega⟩]
theorem kdF_5(x:List UInt8):kdF x 5=kindW x:=by
 unfold kdF;split
 ·rfl
 ·rename_i h
  unfold kindW at h ⊢
  repeat' split
  all_goals first
   | rfl
   | (exfalso;apply h;simp_all)
end Ac
namespace Ac
theorem mk_le(n:Nat){d:Nat}(hd:d≠0)(b:Bool):(sq b (mkRat (n:Int) d)).num.natAbs≤n∧(sq b (mkRat (n:Int) d)).den≤d:=by
 have e:=divInt_pos (n:=(n:Int)) (d:=(d:Int)) (by omega);rw[Rat.divInt_ofNat]at e;have h1:(mkRat (n:Int) d).num.natAbs≤n:=by
  rw[e.1];exact natAbs_ediv _ _
 have h2:(mkRat (n:Int) d).den≤d:=by
  have h3:(d:Int) / (Nat.gcd (n:Int).natAbs (d:Int).natAbs:Int)≤d:=Int.ediv_le_self _ (by omega);omega
 cases b with
 | false=>exact⟨h1,h2⟩
 | true =>
  show (-(mkRat (n:Int) d)).num.natAbs≤n∧(-(mkRat (n:Int) d)).den≤d;rw[Rat.neg_num,Rat.neg_den,Int.natAbs_neg];exact⟨h1,h2⟩
theorem partsT_of{t:List UInt8}{n d:Nat}(h:partsD t=some (n,d)):partsT t=(dig n,dig d)∧d≠0:=by
 unfold partsD at h;unfold partsT;by_cases h1:t.idxOf 47<t.length
 ·rw[if_pos h1]at h ⊢
  cases ha:digs (t.take (t.idxOf 47))&&(digs (t.drop (t.idxOf 47+1))&&!(valS (t.drop (t.idxOf 47+1))==0)) with
  | false=>rw[ha]at h;cases h
  | true =>
   rw[ha]at h
   cases h
   rw[Bool.and_eq_true,Bool.and_eq_true]at ha;exact⟨by rw[natD_yes ha.1,natD_yes ha.2.1],fun e=>by have:=ha.2.2;rw[e]at this;cases this⟩
 ·rw[if_neg h1]at h ⊢;by_cases h2:t.idxOf 46<t.length
  ·rw[if_pos h2]at h ⊢
   cases ha:digs (t.take (t.idxOf 46))&&digs (t.drop (t.idxOf 46+1)) with
   | false=>rw[ha]at h;cases h
   | true =>
    rw[ha]at h
    cases h
    exact⟨rfl,ten_ne _⟩
  ·rw[if_neg h2]at h ⊢
   cases ha:digs t with
   | false=>rw[ha]at h;cases h
   | true =>
    rw[ha]at h
    cases h
    exact⟨by rw[natD_yes ha,dig_1],by decide⟩
theorem parU_len{l:List UInt8}{Z:Rat}(h:parU l=some Z):(rdN Z).length≤l.length+1∧(rdD Z).length≤l.length+1:=by
 unfold parU at h
 cases hp:partsD (unD l).2 with
 | none=>rw[hp]at h;cases h
 | some p =>
  obtain⟨n,d⟩:=p;rw[hp]at h;have h:some (sq (unD l).1 (mkRat (n:Int) d))=some Z:=h
  cases h
  obtain⟨e1,e2⟩:=partsT_of hp;obtain⟨l1,l2⟩:=partsT_len (unD l).2;rw[e1]at l1 l2;have l1:(dig n).length≤(unD l).2.length:=l1;have l2:(dig d).length≤(unD l).2.length+1:=l2;have l3:=unD_len l;obtain⟨m1,m2⟩:=mk_le n e2 (unD l).1;have k1:=dig_len_le m1;have k2:=dig_len_le m2;refine⟨?_,?_⟩
  ·refine Nat.le_trans (wd_length _) ?_;omega
  ·show (dig _).length≤_;omega
end Ac
end Go.Proofs.YtcebkcilkhebeaaGreatDoor
