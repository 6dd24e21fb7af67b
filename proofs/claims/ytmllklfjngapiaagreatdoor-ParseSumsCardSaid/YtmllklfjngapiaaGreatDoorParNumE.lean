/- Own work. -/
import Derived.Test.YtmllklfjngapiaaGreatDoorParNumDM
set_option linter.unusedSimpArgs false
set_option linter.unusedVariables false
namespace Go.Proofs.YtmllklfjngapiaaGreatDoor
namespace Pz
open Tm (Nd Tr plainN)
open Wd (okT kl)
section
variable {σ : Type}
abbrev Ms(σ:Type):=σ→Pz.K→Bool×σ
def takeF(f:Ms σ)(s:σ):List Pz.K→Bool×σ×List Pz.K
 | []=>(false,s,[])
 | k::r=>if (f s k).1=true then (true,(f s k).2,r) else (false,(f s k).2,k::r)
def rowF:List (Ms σ)→σ→List Pz.K→Bool×σ×List Pz.K
 | [],s,r=>(true,s,r)
 | f::fs,s,r=>if (takeF f s r).1=true then rowF fs (takeF f s r).2.1 (takeF f s r).2.2 else takeF f s r
theorem row_cons_yes{f:Ms σ}{fs:List (Ms σ)}{s:σ}{r:List Pz.K}(h:(takeF f s r).1=true):rowF (f::fs) s r=rowF fs (takeF f s r).2.1 (takeF f s r).2.2:=by
 show (if _ then _ else _)=_;rw[if_pos h]
theorem row_cons_no{f:Ms σ}{fs:List (Ms σ)}{s:σ}{r:List Pz.K}(h:(takeF f s r).1=false):rowF (f::fs) s r=takeF f s r:=by
 show (if _ then _ else _)=_;rw[if_neg (by rw[h];decide)]
theorem take_yes{f:Ms σ}{s:σ}{k:Pz.K}{r:List Pz.K}(h:(f s k).1=true):takeF f s (k::r)=(true,(f s k).2,r):=by
 show (if _ then _ else _)=_;rw[if_pos h]
theorem take_no{f:Ms σ}{s:σ}{k:Pz.K}{r:List Pz.K}(h:(f s k).1=false):takeF f s (k::r)=(false,(f s k).2,k::r):=by
 show (if _ then _ else _)=_;rw[if_neg (by rw[h];decide)]
theorem take_suf(f:Ms σ)(s:σ)(r:List Pz.K):∃u,r=u++(takeF f s r).2.2:=by
 cases r with
 | nil=>exact⟨[],rfl⟩
 | cons k r =>
  cases h:(f s k).1 with
  | true=>rw[take_yes h];exact⟨[k],rfl⟩
  | false=>rw[take_no h];exact⟨[],rfl⟩
def sgF(b:UInt8):Ms σ:=fun s k=>(decide (k.2=[b]),s)
theorem sg_take(b:UInt8)(hb:Wd.isSgn b=true)(s:σ)(r:List Pz.K)(hr:∀k∈r,okT k):takeF (sgF b) s r=match sg [b] r with
  | some r1=>(true,s,r1)
  | none=>(false,s,r):=by
 cases r with
 | nil=>rfl
 | cons k r =>
  have h:=ok_sign (hr k List.mem_cons_self) hb;by_cases e:k.2=[b]
  ·rw[take_yes (show (sgF b s k).1=true from decide_eq_true e),sg_cons,if_pos (h.1 e)]
   rfl
  ·rw[take_no (show (sgF b s k).1=false from decide_eq_false e),sg_cons,if_neg (fun c=>e (h.2 c))]
   rfl
end
abbrev Px:=List UInt8×Int×Int
def nmF:Ms Px:=fun s k=>(decide (k.1=0),k.2,s.2)
def dyF:Ms Px:=fun s k=>((smallS k.2).2&&decide ((smallS k.2).1≤9999),s.1,(smallS k.2).1,s.2.2)
def frF:Ms Px:=fun s k=>(((smallS k.2).2&&decide ((smallS k.2).1≤9999))&&(decide (s.2.1≤(smallS k.2).1)&&decide ((smallS k.2).1-s.2.1<60)),s.1,s.2.1,(smallS k.2).1)
theorem nm_take(s:Px)(r:List Pz.K):(∀a r1,nameR r=some (a,r1)→takeF nmF s r=(true,(a,s.2),r1))∧(nameR r=none→∃s',takeF nmF s r=(false,s',r)):=by
 cases r with
 | nil=>exact⟨fun a r1 h=>(by cases h),fun _=>⟨_,rfl⟩⟩
 | cons k r =>
  by_cases h:k.1=0
  ·have e:nameR (k::r)=some (k.2,r):=by show (if _ then _ else _)=_;rw[if_pos h]
   rw[e,take_yes (show (nmF s k).1=true from decide_eq_true h)];exact⟨fun a r1 h=>by cases h;rfl,fun h=>by cases h⟩
  ·have e:nameR (k::r)=none:=by show (if _ then _ else _)=_;rw[if_neg h]
   rw[e,take_no (show (nmF s k).1=false from decide_eq_false h)];exact⟨fun a r1 h=>(by cases h),fun _=>⟨_,rfl⟩⟩
theorem small_nn(l:List UInt8):0≤(smallS l).1:=by
 unfold smallS;split
 ·exact Int.natCast_nonneg _
 ·exact Int.le_refl _
theorem day_cons(lo hi:Int)(k:Pz.K)(r:List Pz.K):dayR lo hi (k::r)=if k.1=1∧(smallS k.2).2=true∧lo≤(smallS k.2).1∧(smallS k.2).1≤hi∧(smallS k.2).1≤9999 then some ((smallS k.2).1,r) else none:=rfl
theorem dy_take(s:Px)(r:List Pz.K)(hr:∀k∈r,okT k):(∀x r1,dayR 0 9999 r=some (x,r1)→takeF dyF s r=(true,(s.1,x,s.2.2),r1))∧(dayR 0 9999 r=none→∃s',takeF dyF s r=(false,s',r)):=by
 cases r with
 | nil=>exact⟨fun a r1 h=>(by cases h),fun _=>⟨_,rfl⟩⟩
 | cons k r =>
  by_cases h:(smallS k.2).2=true∧(smallS k.2).1≤9999
  ·have e:dayR 0 9999 (k::r)=some ((smallS k.2).1,r):=by
    rw[day_cons,if_pos ⟨small_kind (hr k List.mem_cons_self) h.1,h.1,small_nn _,h.2,h.2⟩]
   rw[e,take_yes (show (dyF s k).1=true by show ((smallS k.2).2&&decide ((smallS k.2).1≤9999))=true;rw[h.1,decide_eq_true h.2];rfl)];exact⟨fun a r1 h=>by cases h;rfl,fun h=>by cases h⟩
  ·have e:dayR 0 9999 (k::r)=none:=by
    rw[day_cons,if_neg (fun c=>h ⟨c.2.1,c.2.2.2.2⟩)]
   rw[e,take_no (show (dyF s k).1=false from by
    show ((smallS k.2).2&&decide ((smallS k.2).1≤9999))=false
    cases e1:(smallS k.2).2 with
    | false=>rfl
    | true=>rw[decide_eq_false (fun c=>h ⟨e1,c⟩)];rfl)]
   exact⟨fun a r1 h=>(by cases h),fun _=>⟨_,rfl⟩⟩
theorem fr_take(s:Px)(r:List Pz.K)(hr:∀k∈r,okT k):(∀x r1,dayR s.2.1 (s.2.1+59) r=some (x,r1)→takeF frF s r=(true,(s.1,s.2.1,x),r1))∧(dayR s.2.1 (s.2.1+59) r=none→∃s',takeF frF s r=(false,s',r)):=by
 cases r with
 | nil=>exact⟨fun a r1 h=>(by cases h),fun _=>⟨_,rfl⟩⟩
 | cons k r =>
  by_cases h:((smallS k.2).2=true∧(smallS k.2).1≤9999)∧s.2.1≤(smallS k.2).1∧(smallS k.2).1-s.2.1<60
  ·have e:dayR s.2.1 (s.2.1+59) (k::r)=some ((smallS k.2).1,r):=by
    rw[day_cons,if_pos ⟨small_kind (hr k List.mem_cons_self) h.1.1,h.1.1,h.2.1,by omega,h.1.2⟩]
   rw[e,take_yes (show (frF s k).1=true by
    show (((smallS k.2).2&&decide ((smallS k.2).1≤9999))&&(decide (s.2.1≤(smallS k.2).1)&&decide ((smallS k.2).1-s.2.1<60)))=true;rw[h.1.1,decide_eq_true h.1.2,decide_eq_true h.2.1,decide_eq_true h.2.2];rfl)]
   exact⟨fun a r1 h=>by cases h;rfl,fun h=>by cases h⟩
  ·have e:dayR s.2.1 (s.2.1+59) (k::r)=none:=by
    rw[day_cons,if_neg (fun c=>h ⟨⟨c.2.1,c.2.2.2.2⟩,c.2.2.1,by omega⟩)]
   rw[e,take_no (show (frF s k).1=false from by
    show (((smallS k.2).2&&decide ((smallS k.2).1≤9999))&&(decide (s.2.1≤(smallS k.2).1)&&decide ((smallS k.2).1-s.2.1<60)))=false
    cases e1:(smallS k.2).2 with
    | false=>rfl
    | true =>
     by_cases h2:(smallS k.2).1≤9999
     ·by_cases h3:s.2.1≤(smallS k.2).1
      ·rw[decide_eq_false (fun c=>h ⟨⟨e1,h2⟩,h3,c⟩)];simp
      ·rw[decide_eq_false h3];simp
     ·rw[decide_eq_false h2];simp)]
   exact⟨fun a r1 h=>(by cases h),fun _=>⟨_,rfl⟩⟩
def pxL(op:Int):List (Ms Px):=if op≤1 then [sgF 40,nmF,sgF 44,dyF,sgF 41] else [sgF 40,nmF,sgF 44,dyF,sgF 44,frF,sgF 41]
def pxO(op:Int)(t:List Nd)(R:Bool×Px×List Pz.K):Rs:=if R.1=true then .ok R.2.2 (t++[Nd.mk op ([],[]) R.2.1.1 R.2.1.2.1 R.2.1.2.2]) else .bad 110 R.2.2.length
section
variable {σ : Type}
theorem rowSg{b:UInt8}(hb:Wd.isSgn b=true)(fs:List (Ms σ))(s:σ)(r:List Pz.K)(hr:∀k∈r,okT k):(∃r1,sg [b] r=some r1∧rowF (sgF b::fs) s r=rowF fs s r1∧∀k∈r1,okT k)∨(sg [b] r=none∧rowF (sgF b::fs) s r=(false,s,r)):=by
 have k:=sg_take b hb s r hr
 cases e:sg [b] r with
 | some r1 =>
  rw[e]at k;refine .inl ⟨r1,rfl,by rw[row_cons_yes (by rw[k]),k],?_⟩;obtain⟨u,hu⟩:=take_suf (sgF b) s r;rw[k]at hu;exact fun x hx=>hr x (by rw[hu];exact List.mem_append_right u hx)
 | none=>rw[e]at k;exact .inr ⟨rfl,by rw[row_cons_no (by rw[k]),k]⟩
end
theorem suf_ok{σ:Type}{f:Ms σ}{s s':σ}{r r1:List Pz.K}{b:Bool}(h:takeF f s r=(b,s',r1))(hr:∀k∈r,okT k):∀k∈r1,okT k:=by
 obtain⟨u,hu⟩:=take_suf f s r;rw[h]at hu;exact fun x hx=>hr x (by rw[hu];exact List.mem_append_right u hx)
theorem price_row(op:Int)(r:List Pz.K)(t:List Nd)(hr:∀k∈r,okT k):priceR op r t=pxO op t (rowF (pxL op) ([],0,0) r):=by
 have fin:∀ (s:Px) (r:List Pz.K),(∀k∈r,okT k)→thenR r (sg [41] r) (fun r5=>.ok r5 (t++[Nd.mk op ([],[]) s.1 s.2.1 s.2.2]))=pxO op t (rowF [sgF 41] s r):=fun s r hr=>by
  rcases rowSg (b:=41) rfl [] s r hr with ⟨r1,e,k,_⟩|⟨e,k⟩
  ·rw[e,k];rfl
  ·rw[e,k];rfl
 have mid:∀ (fs:List (Ms Px)) (f:Int→List Pz.K→Rs),(∀a x r,(∀k∈r,okT k)→f x r=pxO op t (rowF fs (a,x,0) r))→True:=fun _ _ _=>trivial;unfold priceR pxL;by_cases ho:op≤1
 ·rw[if_pos ho];rcases rowSg (b:=40) rfl [nmF,sgF 44,dyF,sgF 41] (([],0,0):Px) r hr with ⟨r1,e,k,h1⟩|⟨e,k⟩
  ·rw[e,k];dsimp only[thenR]
   cases e2:nameR r1 with
   | none =>
    obtain⟨s',hs⟩:=(nm_take ([],0,0) r1).2 e2;rw[row_cons_no (by rw[hs]),hs];rfl
   | some q =>
    obtain⟨a,r2⟩:=q;have hs:=(nm_take ([],0,0) r1).1 a r2 e2;rw[row_cons_yes (by rw[hs]),hs];have h2:=suf_ok hs h1;dsimp only;rcases rowSg (b:=44) rfl [dyF,sgF 41] ((a,0,0):Px) r2 h2 with ⟨r3,e3,k3,h3⟩|⟨e3,k3⟩
    ·rw[e3,k3];dsimp only
     cases e4:dayR 0 9999 r3 with
     | none =>
      obtain⟨s',hs⟩:=(dy_take (a,0,0) r3 h3).2 e4;rw[row_cons_no (by rw[hs]),hs];rfl
     | some q =>
      obtain⟨x,r4⟩:=q;have hs:=(dy_take (a,0,0) r3 h3).1 x r4 e4;rw[row_cons_yes (by rw[hs]),hs];dsimp only;rw[if_pos ho];exact fin (a,x,0) r4 (suf_ok hs h3)
    ·rw[e3,k3];rfl
  ·rw[e,k];rfl
 ·rw[if_neg ho];rcases rowSg (b:=40) rfl [nmF,sgF 44,dyF,sgF 44,frF,sgF 41] (([],0,0):Px) r hr with ⟨r1,e,k,h1⟩|⟨e,k⟩
  ·rw[e,k];dsimp only[thenR]
   cases e2:nameR r1 with
   | none =>
    obtain⟨s',hs⟩:=(nm_take ([],0,0) r1).2 e2;rw[row_cons_no (by rw[hs]),hs];rfl
   | some q =>
    obtain⟨a,r2⟩:=q;have hs:=(nm_take ([],0,0) r1).1 a r2 e2;rw[row_cons_yes (by rw[hs]),hs];have h2:=suf_ok hs h1;dsimp only;rcases rowSg (b:=44) rfl [dyF,sgF 44,frF,sgF 41] ((a,0,0):Px) r2 h2 with ⟨r3,e3,k3,h3⟩|⟨e3,k3⟩
    ·rw[e3,k3];dsimp only
     cases e4:dayR 0 9999 r3 with
     | none =>
      obtain⟨s',hs⟩:=(dy_take (a,0,0) r3 h3).2 e4;rw[row_cons_no (by rw[hs]),hs];rfl
     | some q =>
      obtain⟨x,r4⟩:=q;have hs:=(dy_take (a,0,0) r3 h3).1 x r4 e4;rw[row_cons_yes (by rw[hs]),hs];dsimp only;rw[if_neg ho];have h4:=suf_ok hs h3;rcases rowSg (b:=44) rfl [frF,sgF 41] ((a,x,0):Px) r4 h4 with ⟨r5,e5,k5,h5⟩|⟨e5,k5⟩
      ·rw[e5,k5];dsimp only
       cases e6:dayR x (x+59) r5 with
       | none =>
        obtain⟨s',hs⟩:=(fr_take (a,x,0) r5 h5).2 e6;rw[row_cons_no (by rw[hs]),hs];rfl
       | some q =>
        obtain⟨y,r6⟩:=q;have hs:=(fr_take (a,x,0) r5 h5).1 y r6 e6;rw[row_cons_yes (by rw[hs]),hs];dsimp only;exact fin (a,x,y) r6 (suf_ok hs h5)
      ·rw[e5,k5];rfl
    ·rw[e3,k3];rfl
  ·rw[e,k];rfl
abbrev Nm:=List UInt8×List UInt8
def naF:Ms Nm:=fun s k=>(isNat k.2&&decide (k.2.length≤60),k.2,s.2)
def abF:Ms Nm:=fun s k=>((isNat k.2&&decide (k.2.length≤60))&&!(k.2 == [48]),s.1,k.2)
theorem nat_cons(z:Bool)(k:Pz.K)(r:List Pz.K):natR z (k::r)=if k.1=1∧isNat k.2=true∧k.2.length≤60∧(z=true∨k.2≠[48]) then some (k.2,r) else none:=rfl
theorem na_take(s:Nm)(r:List Pz.K)(hr:∀k∈r,okT k):(∀x r1,natR true r=some (x,r1)→takeF naF s r=(true,(x,s.2),r1))∧(natR true r=none→∃s',takeF naF s r=(false,s',r)):=by
 cases r with
 | nil=>exact⟨fun a r1 h=>(by cases h),fun _=>⟨_,rfl⟩⟩
 | cons k r =>
  by_cases h:isNat k.2=true∧k.2.length≤60
  ·have e:natR true (k::r)=some (k.2,r):=by
    rw[nat_cons,if_pos ⟨nat_kind (hr k List.mem_cons_self) h.1,h.1,h.2,.inl rfl⟩]
   rw[e,take_yes (show (naF s k).1=true by show (isNat k.2&&decide (k.2.length≤60))=true;rw[h.1,decide_eq_true h.2];rfl)];exact⟨fun a r1 h=>by cases h;rfl,fun h=>by cases h⟩
  ·have e:natR true (k::r)=none:=by
    rw[nat_cons,if_neg (fun c=>h ⟨c.2.1,c.2.2.1⟩)]
   rw[e,take_no (show (naF s k).1=false from by
    show (isNat k.2&&decide (k.2.length≤60))=false
    cases e1:isNat k.2 with
    | false=>rfl
    | true=>rw[decide_eq_false (fun c=>h ⟨e1,c⟩)];rfl)]
   exact⟨fun a r1 h=>(by cases h),fun _=>⟨_,rfl⟩⟩
theorem ab_take(s:Nm)(r:List Pz.K)(hr:∀k∈r,okT k):(∀x r1,natR false r=some (x,r1)→takeF abF s r=(true,(s.1,x),r1))∧(natR false r=none→∃s',takeF abF s r=(false,s',r)):=by
 cases r with
 | nil=>exact⟨fun a r1 h=>(by cases h),fun _=>⟨_,rfl⟩⟩
 | cons k r =>
  by_cases h:(isNat k.2=true∧k.2.length≤60)∧k.2≠[48]
  ·have e:natR false (k::r)=some (k.2,r):=by
    rw[nat_cons,if_pos ⟨nat_kind (hr k List.mem_cons_self) h.1.1,h.1.1,h.1.2,.inr h.2⟩]
   rw[e,take_yes (show (abF s k).1=true by show ((isNat k.2&&decide (k.2.length≤60))&&!(k.2 == [48]))=true;rw[h.1.1,decide_eq_true h.1.2,beq_false_of_ne h.2];rfl)];exact⟨fun a r1 h=>by cases h;rfl,fun h=>by cases h⟩
  ·have e:natR false (k::r)=none:=by
    rw[nat_cons,if_neg (fun c=>h ⟨⟨c.2.1,c.2.2.1⟩,c.2.2.2.resolve_left (by decide)⟩)]
   rw[e,take_no (show (abF s k).1=false from by
    show ((isNat k.2&&decide (k.2.length≤60))&&!(k.2 == [48]))=false
    cases e1:isNat k.2 with
    | false=>rfl
    | true =>
     by_cases h2:k.2.length≤60
     ·by_cases h3:k.2=[48]
      ·rw[h3];rfl
      ·exact absurd ⟨⟨e1,h2⟩,h3⟩ h
     ·rw[decide_eq_false h2];rfl)]
   exact⟨fun a r1 h=>(by cases h),fun _=>⟨_,rfl⟩⟩
def nuL:List (Ms Nm):=[naF,sgF 44,abF,sgF 41]
def nuO(m:Bool)(t:List Nd)(R:Bool×Nm×List Pz.K):Rs:=if R.1=true then .ok R.2.2 (t++[Nd.mk 0 (if m then negR (makeR R.2.1.1 R.2.1.2).1 else (makeR R.2.1.1 R.2.1.2).1) [] 0 0]) else .bad 110 R.2.2.length
theorem nat_inv{z:Bool}{r r1:List Pz.K}{a:List UInt8}(h:natR z r=some (a,r1)):isNat a=true∧a.length≤60∧(z=true∨a≠[48]):=by
 cases r with
 | nil=>cases h
 | cons k r =>
  rw[nat_cons]at h;split at h
  ·rename_i c
   cases h
   exact⟨c.2.1,c.2.2.1,c.2.2.2⟩
  ·cases h
theorem num_row(r:List Pz.K)(t:List Nd)(hr:∀k∈r,okT k):numR r t=match sg [40] r with
  | some r1=>nuO (minusR r1).1 t (rowF nuL ([],[]) (minusR r1).2)
  | none=>.bad 110 r.length:=by
 unfold numR
 cases e:sg [40] r with
 | none=>rfl
 | some r1 =>
  dsimp only[thenR];have h1:∀k∈r1,okT k:=by
   rcases rowSg (b:=40) rfl [] (([],[]):Nm) r hr with ⟨q,e1,_,hq⟩|⟨e1,_⟩
   ·rw[e]at e1;cases e1;exact hq
   ·rw[e]at e1;cases e1
  have h2:∀k∈(minusR r1).2,okT k:=by
   unfold minusR
   cases e1:sg [45] r1 with
   | none=>exact h1
   | some q =>
    rcases rowSg (b:=45) rfl [] (([],[]):Nm) r1 h1 with ⟨q',e2,_,hq⟩|⟨e2,_⟩
    ·rw[e1]at e2;cases e2;exact hq
    ·rw[e1]at e2;cases e2
  generalize (minusR r1).2=r2 at *;generalize (minusR r1).1=m at *;unfold nuL
  cases e3:natR true r2 with
  | none =>
   obtain⟨s',hs⟩:=(na_take ([],[]) r2 h2).2 e3;rw[row_cons_no (by rw[hs]),hs];rfl
  | some q =>
   obtain⟨a,r3⟩:=q;have hs:=(na_take ([],[]) r2 h2).1 a r3 e3;have ha:=nat_inv e3;rw[row_cons_yes (by rw[hs]),hs];have h3:=suf_ok hs h2;dsimp only;rcases rowSg (b:=44) rfl [abF,sgF 41] ((a,[]):Nm) r3 h3 with ⟨r4,e4,k4,h4⟩|⟨e4,k4⟩
   ·rw[e4,k4];dsimp only
    cases e5:natR false r4 with
    | none =>
     obtain⟨s',hs⟩:=(ab_take (a,[]) r4 h4).2 e5;rw[row_cons_no (by rw[hs]),hs];rfl
    | some q =>
     obtain⟨b,r5⟩:=q;have hs:=(ab_take (a,[]) r4 h4).1 b r5 e5;have hb:=nat_inv e5;rw[row_cons_yes (by rw[hs]),hs];have h5:=suf_ok hs h4;dsimp only;rcases rowSg (b:=41) rfl [] ((a,b):Nm) r5 h5 with ⟨r6,e6,k6,h6⟩|⟨e6,k6⟩
     ·rw[e6,k6];dsimp only;show Rs.ok r6 (t++[Nd.mk 0 (makeR (if m=true then negW a else a) b).1 [] 0 0])=Rs.ok r6 (t++[Nd.mk 0 (if m=true then negR (makeR a b).1 else (makeR a b).1) [] 0 0])
      cases m with
      | false=>rfl
      | true=>rw[if_pos rfl,if_pos rfl,neg_make ha.1 hb.1 (hb.2.2.resolve_left (by decide))]
     ·rw[e6,k6];rfl
   ·rw[e4,k4];rfl
end Pz
end Go.Proofs.YtmllklfjngapiaaGreatDoor
