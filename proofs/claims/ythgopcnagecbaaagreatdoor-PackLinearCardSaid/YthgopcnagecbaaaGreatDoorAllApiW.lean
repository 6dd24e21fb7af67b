/- Own work. -/
import Derived.Test.YthgopcnagecbaaaGreatDoorAllRefW
namespace Go.Proofs.YthgopcnagecbaaaGreatDoor
open Go.RowKit
structure Ltw(a:Int)(k:Nat):Prop where
 len:(wd a).length≤k
 le:k≤100000
theorem Ltw.size{a:Int}{k:Nat}(h:Ltw a k):(⟨(wd a).toArray⟩:ByteArray).size≤100000:=by show (wd a).toArray.size≤_;rw[List.size_toArray];exact Nat.le_trans h.len h.le
theorem str_wd{s:ByteArray}(h:isW s.data.toList=true):s=⟨(wd (valW s.data.toList)).toArray⟩:=bytes_eq (wd_valW h).symm
theorem Ltw.of_text{s:ByteArray}{k:Nat}(h:isW s.data.toList=true)(hs:s.size≤k)(hk:k≤100000):Ltw (valW s.data.toList) k:=⟨by rw[wd_valW h];exact hs,hk⟩
theorem wd_abs_len(a:Int):(dig a.natAbs).length≤(wd a).length:=by
 unfold wd;split
 ·rw[List.length_cons];omega
 ·exact Nat.le_refl _
theorem Ltw.abs{a:Int}{k:Nat}(h:Ltw a k):a.natAbs<10 ^ k:=by
 have h1:=valS_lt (dig_all a.natAbs);rw[valS_dig]at h1;exact Nat.lt_of_lt_of_le h1 (Nat.pow_le_pow_right (by decide) (Nat.le_trans (wd_abs_len a) h.len))
theorem Ltw.mk'{a:Int}{k:Nat}(h:a.natAbs<10 ^ k)(h0:0<k)(hk:k+1≤100000):Ltw a (k+1) :=
 ⟨Nat.le_trans (wd_length a) (Nat.succ_le_succ (dig_length h0 h)),hk⟩
theorem Ltw.add{a b:Int}{j k:Nat}(ha:Ltw a j)(hb:Ltw b k)(h:j+k+2≤100000):Ltw (a+b) (j+k+2) :=
 Ltw.mk' (Nat.lt_of_le_of_lt (Int.natAbs_add_le a b) (add_lt ha.abs hb.abs)) (Nat.succ_pos _) h
theorem Ltw.neg{a:Int}{k:Nat}(ha:Ltw a k)(h:k+1≤100000)(h0:0<k):Ltw (-a) (k+1):=Ltw.mk' (by rw[Int.natAbs_neg];exact ha.abs) h0 h
theorem Ltw.mul{a b:Int}{j k:Nat}(ha:Ltw a j)(hb:Ltw b k)(h:j+k+1≤100000)(h0:0<j):Ltw (a*b) (j+k+1) :=
 Ltw.mk' (by rw[Int.natAbs_mul];exact mul_lt ha.abs hb.abs) (Nat.add_pos_left h0 _) h
section
variable {a b : Int} {j k : Nat}
theorem zDiv{q r:Int}(ha:Ltw a j)(hb:Ltw b k)(h0:b≠0)(hq:a / b=q)(hr:a % b=r)(w:World) :
  Calls Tryz.prog 101 #[.string ⟨(wd a).toArray⟩,.string ⟨(wd b).toArray⟩] w (GiveSSB w (wd q,wd r,true)):=by
 have c:=wdiv_any ⟨(wd a).toArray⟩ ⟨(wd b).toArray⟩ w (Nat.le_trans ha.size (by decide)) (Nat.le_trans hb.size (by decide));have e:divW (⟨(wd a).toArray⟩:ByteArray).data.toList (⟨(wd b).toArray⟩:ByteArray).data.toList=(wd q,wd r,true):=by
  show divW (wd a) (wd b)=_;unfold divW;rw[isW_wd,isW_wd,valW_wd,valW_wd,beq_false_of_ne h0,hq,hr];rfl
 rw[e]at c;exact c
theorem zNeg{x:Int}(ha:Ltw a j)(h:-a=x)(w:World) :
  Calls Tryz.prog 100 #[.string ⟨(wd a).toArray⟩] w fun e w'=>e=.returned (.string ⟨(wd x).toArray⟩)∧w=w':=by
 have c:=wneg_any ⟨(wd a).toArray⟩ w (Nat.le_trans ha.size (by decide));have e:negW (⟨(wd a).toArray⟩:ByteArray).data.toList=wd x:=by
  show negW (wd a)=_;unfold negW;rw[isW_wd,valW_wd,h];rfl
 rw[e]at c;exact c
theorem zAbs{x:Int}(ha:Ltw a j)(h:(a.natAbs:Int)=x)(w:World) :
  Calls Tryz.prog 82 #[.string ⟨(wd a).toArray⟩] w fun e w'=>e=.returned (.string ⟨(wd x).toArray⟩)∧w=w':=by
 have c:=wabs_any ⟨(wd a).toArray⟩ w (Nat.le_trans ha.size (by decide));have e:absW (⟨(wd a).toArray⟩:ByteArray).data.toList=wd x:=by
  show absW (wd a)=_;unfold absW;rw[isW_wd,valW_wd,← h,wd_nat];rfl
 rw[e]at c;exact c
end
theorem wd_0:wd 0=[48]:=by rw[wd_pos (by decide)];exact dig_0
theorem wd_ne48{a:Int}(h:a≠0):¬wd a=[48]:=fun e=>h (wd_inj (e.trans wd_0.symm))
theorem wd_neB{a:Int}(h:a≠0):(wd a == [48])=false:=beq_false_of_ne (wd_ne48 h)
theorem emod_lt'(a:Int){b:Int}(h:b≠0):a % b<(b.natAbs:Int):=by
 rcases Int.lt_or_le b 0 with hb|hb
 ·have h2:b=-(-b):=by omega
  have h3:=Int.emod_lt_of_pos a (show 0 < -b by omega);rw[h2,Int.emod_neg];omega
 ·have h3:=Int.emod_lt_of_pos a (show 0<b by omega);omega
theorem natAbs_ediv(a b:Int):(a / b).natAbs≤a.natAbs:=by
 by_cases hb:b=0
 ·subst hb;rw[Int.ediv_zero];exact Nat.zero_le _
 ·have h1:=Int.mul_ediv_add_emod a b;have h2:=Int.emod_nonneg a hb;have h3:=emod_lt' a hb;generalize a / b=q at *;generalize a % b=r at *;by_cases hq:q=0
  ·subst hq;exact Nat.zero_le _
  ·rcases Int.lt_or_le a 0 with ha|ha
   ·have e:(b*q).natAbs=b.natAbs*q.natAbs:=Int.natAbs_mul b q;have k1:q.natAbs≤b.natAbs*q.natAbs-(b.natAbs-1):=by
     have hb1:1≤b.natAbs:=by omega
     have hq1:1≤q.natAbs:=by omega
     generalize b.natAbs=B at *;generalize q.natAbs=Q at *;have:B-1≤(B-1)*Q:=Nat.le_mul_of_pos_right _ hq1;have e2:B*Q=(B-1)*Q+Q:=by
      rw[←Nat.succ_mul];congr 1;omega
     omega
    have k2:b*q≤0:=by omega
    omega
   ·have e:(b*q).natAbs=b.natAbs*q.natAbs:=Int.natAbs_mul b q;have k1:q.natAbs≤b.natAbs*q.natAbs:=Nat.le_mul_of_pos_left _ (by omega);by_cases h4:0≤b*q
    ·omega
    ·exfalso;have:b.natAbs≤b.natAbs*q.natAbs:=Nat.le_mul_of_pos_right _ (by omega);omega
end Go.Proofs.YthgopcnagecbaaaGreatDoor
