/- Own work. -/
import Derived.Test.YtmllklfjngapiaaGreatDoorAllPaMM
set_option linter.unusedSimpArgs false
set_option linter.unusedVariables false
set_option maxHeartbeats 4000000
set_option maxRecDepth 100000
namespace Go.Proofs.YtmllklfjngapiaaGreatDoor
open Go.RowKit
open Wd (Tk okT ktT)
open Tm (Nd plainN arI arN)
open Pz (Wt tgt settleF)
open Pz (Ms takeF sg numR priceR lfR Rs opName)
def ExitMany(L:Nat→Prop)(J:Nat→Act→World→Prop)(Q:Exit→Act→World→Prop):Exit→Act→World→Prop
 | .goto l,a,w=>L l∧J l a w
 | e,a,w=>Q e a w
theorem wp_scope_many{P:Program}{a:Act}{w:World}{Q:Exit→Act→World→Prop}{c:Code}(L:Nat→Prop)(rest:Nat→Code)(J:Nat→Act→World→Prop)(μ:Act→World→Nat)(hf:∀l,L l→findLabel c l=some (rest l))
  (first:c.wp P (ExitMany L J Q) a w)
  (pass:∀l,L l→∀a w,J l a w→(rest l).wp P (ExitMany L (fun l' a' w'=>J l' a' w'∧μ a' w' < μ a w) Q) a w):(Code.scope c).wp P Q a w:=by
 intro b k cs;have hg:∀l,L l→gotoIn l (.inScope c::k)=some (.code (rest l)::.inScope c::k):=fun l hl=>by simp[gotoIn,hf l hl]
 have key:∀n l a w,L l→μ a w=n→J l a w→∃e a' w',Q e a' w'∧Arrives P (lone (b.at a (.code (rest l)::.inScope c::k)) cs w) b k cs e a' w':=by
  intro n
  induction n using Nat.strongRecOn with
  | _ n ih =>
   intro l a w hl hn hJ;obtain⟨e,a₁,w₁,hq,harr⟩:=pass l hl a w hJ b (.inScope c::k) cs
   cases e with
   | normal=>exact⟨.normal,a₁,w₁,hq,Steps.trans harr (.one step_inScope)⟩
   | exit id=>exact⟨.exit id,a₁,w₁,hq,fun k' hk=>harr k' (by simp[exitTo,hk])⟩
   | goto l' =>
    obtain⟨hl',hJ',hlt⟩:=hq;obtain⟨e₂,a₂,w₂,hq₂,harr₂⟩:=ih _ (by omega) l' a₁ w₁ hl' rfl hJ';exact⟨e₂,a₂,w₂,hq₂,.of_steps (harr _ (hg l' hl')) harr₂⟩
   | ret=>exact⟨_,a₁,w₁,hq,harr⟩
   | panic ch=>exact⟨_,a₁,w₁,hq,harr⟩
   | outgrown=>exact⟨_,a₁,w₁,hq,harr⟩
 obtain⟨e,a₁,w₁,hq,harr⟩:=first b (.inScope c::k) cs
 cases e with
 | normal=>exact⟨.normal,a₁,w₁,hq,.head step_scope (Steps.trans harr (.one step_inScope))⟩
 | exit id=>exact⟨.exit id,a₁,w₁,hq,fun k' hk=>.head step_scope (harr k' (by simp[exitTo,hk]))⟩
 | goto l' =>
  obtain⟨hl',hJ'⟩:=hq;obtain⟨e₂,a₂,w₂,hq₂,harr₂⟩:=key _ l' a₁ w₁ hl' rfl hJ';exact⟨e₂,a₂,w₂,hq₂,.of_steps (.head step_scope (harr _ (hg l' hl'))) harr₂⟩
 | ret=>exact⟨_,a₁,w₁,hq,.of_steps (.one step_scope) harr⟩
 | panic ch=>exact⟨_,a₁,w₁,hq,.of_steps (.one step_scope) harr⟩
 | outgrown=>exact⟨_,a₁,w₁,hq,.of_steps (.one step_scope) harr⟩
variable {R : Nat} {Z : List Nat} {p : Option Addr} {c : Nat} {mv wv ov : Value} {l : List Tk} {k d : Nat} {K : List Wt} {t : List Nd} {w : World}
theorem none_of{α:Type}{x:Option α}(h:x.isSome=false):x=none:=by
 cases x with
 | none=>rfl
 | some y=>cases h
theorem pleaf_any(h:RdS R Z p c mv l k d K t wv ov w)(E:PEn R p l w)(hk:k≤l.length)(ht:t.length≤2000000)(op:Int)(hop:0≤op) :
  Calls Tryz.prog 44 #[.pointer (some ⟨R,0,none⟩),.int .i64 op] w (LeafG R Z p c mv l d K t w (lfR op (rsK l k) t)):=by
 by_cases h0:op=0
 ·subst h0;have CF:=zh (pfrac_any h E hk ht);show Calls Tryz.prog 44 #[.pointer (some ⟨R,0,none⟩),.int .i64 0] w (LeafG R Z p c mv l d K t w (numR (rsK l k) t));clear h E;go_enter Tryz.func44,Tryz.ntmps44;go_wp2_with fail;refine CF.out.mono ?_;rintro r w' (⟨k',t',wv',ov',e1,e2,rfl,e3,e4⟩|⟨k',wv',ov',e1,e2,rfl,e3,e4⟩)
  ·have H1:=zh e1;have H2:=zh e2;have H3:=zh e3;have H4:=zh e4
   clear e1 e2 e3 e4 CF;go_wp2_with fail;go_ret;exact .inl ⟨k',t',wv',ov',H1.out,H2.out,rfl,H3.out,H4.out⟩
  ·have H1:=zh e1;have H2:=zh e2;have H3:=zh e3;have H4:=zh e4
   clear e1 e2 e3 e4 CF;go_wp2_with fail;go_ret;exact .inr ⟨k',wv',ov',H1.out,H2.out,rfl,H3.out,H4.out⟩
 ·have e:lfR op (rsK l k) t=priceR op (rsK l k) t:=if_neg h0;rw[e];by_cases h1:op=1
  ·exact pleaf_px h E hk ht op h1
  ·exact pleaf_av h E hk ht op (by omega)
def BegG(R:Nat)(Z:List Nat)(p:Option Addr)(c:Nat)(mv:Value)(l:List Tk)(k d:Nat)(K:List Wt)(t:List Nd)(w:World)(op:Int)(a:Nat)(r:Ending)(w':World):Prop :=
 ∃wv ov,((r=.returned (.int .i64 0)∧d<200∧(sg [40] (rsK l k)).isSome=true∧RdS R Z p c mv l (k+1) (d+1) ((op,a)::K) t wv ov w')∨(r=.returned (.int .i64 110)∧sg [40] (rsK l k)=none∧RdS R Z p c mv l k d K t wv ov w') ∨
  (r=.returned (.int .i64 111)∧d=200∧(sg [40] (rsK l k)).isSome=true∧RdS R Z p c mv l k d K t wv ov w'))∧Kept R Z w w'
theorem pbegin_any(op:Int)(a:Nat)(h:RdS R Z p c mv l k d K t wv ov w)(E:PEn R p l w)(hk:k≤l.length)(hd:d≤200)(hKl:K.length≤1000000)(ha:arI op-1=(a:Int)∨(a=0∧arI op-1≤0))(ha3:-1≤arI op∧arI op≤100) :
  Calls Tryz.prog 45 #[.pointer (some ⟨R,0,none⟩),.int .i64 op] w (BegG R Z p c mv l k d K t w op a):=by
 cases hs:(sg [40] (rsK l k)).isSome with
 | false=>exact(pbegin_no op h E hk (none_of hs)).mono fun r w' ⟨wv',ov',a1,a2,a3⟩=>⟨wv',ov',.inr (.inl ⟨a1,none_of hs,a2⟩),a3⟩
 | true =>
  by_cases h2:d=200
  ·subst h2;exact(pbegin_deep op h E hs).mono fun r w' ⟨wv',ov',a1,a2,a3⟩=>⟨wv',ov',.inr (.inr ⟨a1,rfl,hs,a2⟩),a3⟩
  ·exact(pbegin_yes op a h E hk hs (by omega) hKl ha ha3).mono fun r w' ⟨wv',ov',a1,a2,a3⟩=>⟨wv',ov',.inl ⟨a1,by omega,hs,a2⟩,a3⟩
def PartG(R:Nat)(Z:List Nat)(p:Option Addr)(c:Nat)(mv:Value)(l:List Tk)(k d:Nat)(K:List Wt)(t:List Nd)(w:World)(r:Ending)(w':World):Prop :=
 ∃wv ov,((r=.returned (.bool true)∧∃op cm K1,K=(op,cm+1)::K1∧(sg [44] (rsK l k)).isSome=true∧RdS R Z p c mv l (k+1) d ((op,cm)::K1) t wv ov w') ∨
  (r=.returned (.bool false)∧(∀op cm K1,K=(op,cm)::K1→cm≠0→sg [44] (rsK l k)=none)∧RdS R Z p c mv l k d K t wv ov w'))∧Kept R Z w w'
theorem ppart_any(h:RdS R Z p c mv l k d K t wv ov w)(E:PEn R p l w)(hk:k≤l.length)(hK:K.length≤1000000)(hcm:∀x∈K,x.2≤100) :
  Calls Tryz.prog 49 #[.pointer (some ⟨R,0,none⟩)] w (PartG R Z p c mv l k d K t w):=by
 have keep:∀ (r:Ending) (w':World),GiveB w false r w'→(∀op cm K1,K=(op,cm)::K1→cm≠0→sg [44] (rsK l k)=none)→PartG R Z p c mv l k d K t w r w':=fun r w' ⟨e,b⟩ hh=>⟨wv,ov,.inr ⟨e,hh,h.below b⟩,Kept.of_below b h.zlt (Nat.le_of_lt h.blk.lt)⟩
 match K,h,hK,hcm,keep with
 | [],h,hK,hcm,keep=>exact(ppart_nil h).mono fun r w' hb=>keep r w' hb fun _ _ _ e=>by cases e
 | (op,0)::K1,h,hK,hcm,keep=>exact(ppart_not op 0 K1 h (by have:K1.length+1≤1000000:=hK;omega) rfl).mono fun r w' hb=>keep r w' hb fun _ _ _ e h0=>by cases e;exact absurd rfl h0
 | (op,cm+1)::K1,h,hK,hcm,keep =>
  have hK1:K1.length≤1000000:=by have:K1.length+1≤1000000:=hK;omega
  have hcm1:cm≤100:=by have:=hcm (op,cm+1) List.mem_cons_self;dsimp only at this;omega
  cases hs:(sg [44] (rsK l k)).isSome with
  | false=>exact(ppart_else op (cm+1) K1 h E hk hK1 (by omega) (none_of hs)).mono fun r w' ⟨wv',ov',a1,a2,a3⟩=>⟨wv',ov',.inr ⟨a1,fun _ _ _ _ _=>none_of hs,a2⟩,a3⟩
  | true=>exact(ppart_yes op cm K1 h E hk hK1 hcm1 hs).mono fun r w' ⟨wv',ov',a1,a2,a3⟩=>⟨wv',ov',.inl ⟨a1,op,cm,K1,rfl,hs,a2⟩,a3⟩
def EndG(R:Nat)(Z:List Nat)(p:Option Addr)(c:Nat)(mv:Value)(l:List Tk)(k d:Nat)(K:List Wt)(t:List Nd)(w:World)(r:Ending)(w':World):Prop :=
 ∃wv ov,((r=.returned (.bool true)∧∃op K1,K=(op,0)::K1∧(sg [41] (rsK l k)).isSome=true∧RdS R Z p c mv l (k+1) (d-1) K1 (if op=13 then t else t++[plainN op]) wv ov w') ∨
  (r=.returned (.bool false)∧(∀op cm K1,K=(op,cm)::K1→cm=0→sg [41] (rsK l k)=none)∧RdS R Z p c mv l k d K t wv ov w'))∧Kept R Z w w'
theorem pend_any(h:RdS R Z p c mv l k d K t wv ov w)(E:PEn R p l w)(hk:k≤l.length)(hK:K.length≤1000000)(ht:t.length≤2000000)(hd:d≤1000000)(hdK:K≠[]→1≤d) :
  Calls Tryz.prog 50 #[.pointer (some ⟨R,0,none⟩)] w (EndG R Z p c mv l k d K t w):=by
 have keep:∀ (r:Ending) (w':World),GiveB w false r w'→(∀op cm K1,K=(op,cm)::K1→cm=0→sg [41] (rsK l k)=none)→EndG R Z p c mv l k d K t w r w':=fun r w' ⟨e,b⟩ hh=>⟨wv,ov,.inr ⟨e,hh,h.below b⟩,Kept.of_below b h.zlt (Nat.le_of_lt h.blk.lt)⟩
 match K,h,hK,hdK,keep with
 | [],h,hK,hdK,keep=>exact(pend_nil h).mono fun r w' hb=>keep r w' hb fun _ _ _ e=>by cases e
 | (op,cm+1)::K1,h,hK,hdK,keep=>exact(pend_not op (cm+1) K1 h (by have:K1.length+1≤1000000:=hK;omega) (by omega)).mono fun r w' hb=>keep r w' hb fun _ _ _ e h0=>by cases e;cases h0
 | (op,0)::K1,h,hK,hdK,keep =>
  have hK1:K1.length≤1000000:=by have:K1.length+1≤1000000:=hK;omega
  cases hs:(sg [41] (rsK l k)).isSome with
  | false=>exact(pend_else op 0 K1 h E hk hK1 rfl (none_of hs)).mono fun r w' ⟨wv',ov',a1,a2,a3⟩=>⟨wv',ov',.inr ⟨a1,fun _ _ _ _ _=>none_of hs,a2⟩,a3⟩
  | true =>
   obtain⟨d',rfl⟩:∃d',d=d'+1:=⟨d-1,by have:=hdK (by simp);omega⟩;by_cases ho:op=13
   ·exact(pend_grp op K1 h E hk hK1 (by omega) ht hs ho).mono fun r w' ⟨wv',ov',a1,a2,a3⟩=>⟨wv',ov',.inl ⟨a1,op,K1,rfl,hs,by rw[if_pos ho];exact a2⟩,a3⟩
   ·exact(pend_op op K1 h E hk hK1 (by omega) ht hs ho).mono fun r w' ⟨wv',ov',a1,a2,a3⟩=>⟨wv',ov',.inl ⟨a1,op,K1,rfl,hs,by rw[if_neg ho];exact a2⟩,a3⟩
theorem ptake_known{To mb:Nat}{q:Int}{u1:World}(h:RdS R Z p c mv l k d K t wv ov w)(E:PEn R p l w)(hk:k≤l.length)(hT:Blk To [.int .i64 q] w)(hTo:To∈Z)(hTR:R<To)(hmb:mb<w.heap.size)(hmbT:mb≠To)(hN:NamesM mb w)
  (hu:u1=(w.alloc (.cells #[.map (some mb)] 45)).alloc (.cells #[.pointer (some ⟨To,0,none⟩)] 86)) :
  Calls Tryz.prog 37 #[.pointer (some ⟨R,0,none⟩),.func (.func 75) #[] #[.pointer (some ⟨w.heap.size,0,none⟩),.pointer (some ⟨w.heap.size+1,0,none⟩)]] u1
   (fun r w'=>∃b q' k',takeF knF q (rsK l k)=(b,q',rsK l k')∧r=.returned (.bool b)∧k'≤l.length∧Blk To [.int .i64 q'] w'∧RdS R Z p c mv l k' d K t wv ov w'∧WrB [R,To] w w'):=by
 have b1:Below w.heap.size w (w.alloc (.cells #[.map (some mb)] 45)):=Below.alloc (Below.refl _ _) (Nat.le_refl _) _;have s1:(w.alloc (.cells #[.map (some mb)] 45)).heap.size=w.heap.size+1:=by simp
 have b2:Below (w.alloc (.cells #[.map (some mb)] 45)).heap.size (w.alloc (.cells #[.map (some mb)] 45)) u1:=by rw[hu];exact Below.alloc (Below.refl _ _) (Nat.le_refl _) _
 have bb:=Below.more b1 b2;have c1:=((blk_new w #[.map (some mb)] 45).below b2).c 0 _ rfl;have c2:u1.cell? ⟨w.heap.size+1,0,none⟩=some (.pointer (some ⟨To,0,none⟩)):=by
  have k:=(blk_new (w.alloc (.cells #[.map (some mb)] 45)) #[.pointer (some ⟨To,0,none⟩)] 86).c 0 _ rfl;rw[s1,← hu]at k;exact k
 have h2:=h.below bb;have E2:=E.below (bb.mono (Nat.le_of_lt h.blk.lt));have hT2:=hT.below bb;have bd:Below u1.heap.size u1 u1.drew:=Below.drew (Below.refl _ _)
 cases hx:l[k]? with
 | none =>
  refine(ptake_end _ k l u1 h2.blk hx).mono ?_;rintro r w' ⟨rfl,b⟩;exact⟨false,q,k,by rw[rsK_end hx];rfl,rfl,hk,hT2.below b,h2.below b,WrB.of_below (Below.more bb b) _⟩
 | some t0 =>
  have hm:=E.ok.2 t0 (List.mem_of_getElem? hx);have hlt:k<l.length:=(List.getElem?_eq_some_iff.1 hx).1;have hNd:NamesM mb u1.drew:=World.ownsMap.kept hN (row:=none) ⟨(Below.more bb bd).os,(Below.more bb bd).tape,(Below.more bb bd).output,(Below.more bb bd).size,fun j hj _=>(Below.more bb bd).block j hj⟩ (by simp);have hc:=mknown_any t0 w.heap.size (w.heap.size+1) To mb q u1.drew (by have:=hm.2;omega) hNd c1 c2 (hT2.below bd);have htp:∀a,p=some a→a.block∉[To]:=fun a e c=>by have:=E.low a e;have:=List.mem_singleton.1 c;omega
  refine(ptake_at (Q:=fun b w'=>b=(opName t0.text).isSome∧Blk To [.int .i64 ((opName t0.text).getD q)] w'∧WrB [To] u1 w') _ enters_known #[.pointer (some ⟨w.heap.size,0,none⟩),.pointer (some ⟨w.heap.size+1,0,none⟩)] k l t0 u1 E2.tk h2.blk hx E.ok.1 (hc.mono ?_) ?_).mono ?_
  ·rintro r w' ⟨rfl,a,b⟩;exact⟨_,rfl,rfl,a,(WrB.of_below bd _).trans b⟩
  ·rintro b w' ⟨_,_,b⟩;exact⟨h2.blk.wr b (fun c=>by have:=List.mem_singleton.1 c;omega),E2.tk.wr b htp⟩
  ·have e0:(knF q (ktT t0))=((opName t0.text).isSome,(opName t0.text).getD q):=rfl;rintro r w' (⟨rfl,e,i,b⟩|⟨w1,rfl,⟨e,i,b⟩,rfl⟩)
   ·refine⟨false,(opName t0.text).getD q,k,?_,rfl,hk,i,h2.wr b (fun x c=>by have:=List.mem_singleton.1 c;subst this;exact hTo),(WrB.of_below bb _).trans (b.mono fun x hx=>List.mem_cons_of_mem _ hx)⟩;rw[rsK_at hx,Pz.take_no (by rw[e0];exact e.symm),e0]
   ·have hw1:=h2.wr b (fun x c=>by have:=List.mem_singleton.1 c;subst this;exact hTo);have hs:WrB [R] w1 (w1.setCell ⟨R,1,none⟩ (.int .i64 ((k:Int)+1))):=WrB.of_set w1 R 1 _ List.mem_cons_self;refine⟨true,(opName t0.text).getD q,k+1,?_,rfl,hlt,i.wr hs (fun c=>by have:=List.mem_singleton.1 c;omega),hw1.cell1 ?_ hs,((WrB.of_below bb _).trans (b.mono fun x hx=>List.mem_cons_of_mem _ hx)).trans (hs.mono fun x hx=>by have:=List.mem_singleton.1 hx;subst this;exact List.mem_cons_self)⟩
    ·rw[rsK_at hx,Pz.take_yes (by rw[e0];exact e.symm),e0]
    ·have k1:=hw1.blk.set 1 (by simp) (.int .i64 ((k:Int)+1));rw[Int.natCast_succ];exact k1
end Go.Proofs.YtmllklfjngapiaaGreatDoor
namespace Go.Proofs.YtmllklfjngapiaaGreatDoor
open Go.RowKit
open Wd (Tk okT ktT)
open Tm (Nd plainN arI arN)
open Pz (Wt tgt settleF Loose cntO DenOp Con Par Rs sg leafR callOp opName lfR numberR priceR numR openR endR takeF opOf idx4 LfN lf_sz G)
theorem take_true{σ:Type}{f:Pz.Ms σ}{s s':σ}{r r':List Pz.K}(h:takeF f s r=(true,s',r')):∃x,r=x::r'∧(f s x).1=true∧s'=(f s x).2:=by
 cases r with
 | nil=>cases h
 | cons x r =>
  cases e:(f s x).1 with
  | true =>
   rw[Pz.take_yes e]at h;obtain⟨_,h2⟩:=Prod.mk.inj h;obtain⟨h3,h4⟩:=Prod.mk.inj h2;exact⟨x,by rw[h4],e,h3.symm⟩
  | false=>rw[Pz.take_no e]at h;cases h
theorem take_false{σ:Type}{f:Pz.Ms σ}{s s':σ}{r r':List Pz.K}(h:takeF f s r=(false,s',r')):r'=r∧∀x r1,r=x::r1→(f s x).1=false∧s'=(f s x).2:=by
 cases r with
 | nil =>
  have h:(false,s,([]:List Pz.K))=(false,s',r'):=h;obtain⟨_,h2⟩:=Prod.mk.inj h;exact⟨(Prod.mk.inj h2).2.symm,fun x r1 e=>by cases e⟩
 | cons x r =>
  cases e:(f s x).1 with
  | true=>rw[Pz.take_yes e]at h;cases h
  | false =>
   rw[Pz.take_no e]at h;obtain⟨_,h2⟩:=Prod.mk.inj h;obtain⟨h3,h4⟩:=Prod.mk.inj h2;exact⟨h4.symm,fun y r1 e1=>by cases e1;exact⟨e,h3.symm⟩⟩
theorem szN_lf{x:Nd}(h:LfN x):SzN x:=⟨⟨by have:=h.2.1;omega,by have:=h.2.2.1;omega,h.2.2.2.1⟩,⟨by have:=h.1;omega,by have:=h.1;omega⟩,⟨by have:=h.2.2.2.2.1;omega,by have:=h.2.2.2.2.1;omega⟩,by have:=h.2.2.2.2.2;omega,by have:=h.2.2.2.2.2;omega⟩
theorem szN_plainP{o:Int}(h:0≤o∧o≤13):SzN (plainN o):=⟨⟨Nat.zero_le _,Nat.zero_le _,Nat.zero_le _⟩,⟨by show (-9223372036854775808:Int)≤o;omega,by show o≤9223372036854775807;omega⟩,⟨(by decide:(-9223372036854775808:Int)≤0),(by decide:(0:Int)≤9223372036854775807)⟩,(by decide:(-9223372036854775808:Int)≤0),(by decide:(0:Int)≤9223372036854775807)⟩
structure PSt(l:List Tk)(lab k d:Nat)(K:List Wt)(t:List Nd):Prop where
 kl:k≤l.length
 d200:d≤200
 cnt:cntO K=d
 ops:OpsOk K
 cm:∀x∈K,x.2≤100
 len:K.length+t.length≤k
 sz:∀x∈t,SzN x
 den:∀y,(if lab=0 then DenOp K d (rsK l k) t y else if lab=1 then Con K d 3 (.ok (rsK l k) t) y else Con K d 0 (.ok (rsK l k) t) y)→Par (.bin true) 0 (.ok (rsK l 0) []) y
def PFin(l:List Tk)(k:Nat)(t:List Nd)(e:Int):Prop :=
 (e=0∧Par (.bin true) 0 (.ok (rsK l 0) []) (.ok [] t))∨(e≠0∧∃y,Par (.bin true) 0 (.ok (rsK l 0) []) y∧endR y=.bad e (rsK l k).length)
variable {l : List Tk} {k d : Nat} {K : List Wt} {t : List Nd}
theorem PSt.start:PSt l 0 0 0 [] []:=⟨Nat.zero_le _,Nat.zero_le _,rfl,fun _ h=>absurd h (by simp),fun _ h=>absurd h (by simp),Nat.le_refl _,fun _ h=>absurd h (by simp),fun y h=>Pz.go_first h⟩
theorem PSt.den0(h:PSt l 0 k d K t){y:Rs}(hy:DenOp K d (rsK l k) t y):Par (.bin true) 0 (.ok (rsK l 0) []) y:=h.den y (by rw[if_pos rfl];exact hy)
theorem PSt.den1(h:PSt l 1 k d K t){y:Rs}(hy:Con K d 3 (.ok (rsK l k) t) y):Par (.bin true) 0 (.ok (rsK l 0) []) y:=h.den y (by rw[if_neg (by decide),if_pos rfl];exact hy)
theorem PSt.den2(h:PSt l 2 k d K t){y:Rs}(hy:Con K d 0 (.ok (rsK l k) t) y):Par (.bin true) 0 (.ok (rsK l 0) []) y:=h.den y (by rw[if_neg (by decide),if_neg (by decide)];exact hy)
theorem mk0(kl:k≤l.length)(d200:d≤200)(cnt:cntO K=d)(ops:OpsOk K)(cm:∀x∈K,x.2≤100)(len:K.length+t.length≤k)(sz:∀x∈t,SzN x)(den:∀y,DenOp K d (rsK l k) t y→Par (.bin true) 0 (.ok (rsK l 0) []) y):PSt l 0 k d K t :=
 ⟨kl,d200,cnt,ops,cm,len,sz,fun y h=>den y (by rw[if_pos rfl]at h;exact h)⟩
theorem mk1(kl:k≤l.length)(d200:d≤200)(cnt:cntO K=d)(ops:OpsOk K)(cm:∀x∈K,x.2≤100)(len:K.length+t.length≤k)(sz:∀x∈t,SzN x)(den:∀y,Con K d 3 (.ok (rsK l k) t) y→Par (.bin true) 0 (.ok (rsK l 0) []) y):PSt l 1 k d K t :=
 ⟨kl,d200,cnt,ops,cm,len,sz,fun y h=>den y (by rw[if_neg (by decide),if_pos rfl]at h;exact h)⟩
theorem mk2(kl:k≤l.length)(d200:d≤200)(cnt:cntO K=d)(ops:OpsOk K)(cm:∀x∈K,x.2≤100)(len:K.length+t.length≤k)(sz:∀x∈t,SzN x)(den:∀y,Con K d 0 (.ok (rsK l k) t) y→Par (.bin true) 0 (.ok (rsK l 0) []) y):PSt l 2 k d K t :=
 ⟨kl,d200,cnt,ops,cm,len,sz,fun y h=>den y (by rw[if_neg (by decide),if_neg (by decide)]at h;exact h)⟩
theorem cm_push{o:Int}{a:Nat}(h:∀x∈K,x.2≤100)(ha:a≤100):∀x∈(o,a)::K,x.2≤100:=fun x hx=>by
 rcases List.mem_cons.1 hx with rfl|hx
 ·exact ha
 ·exact h x hx
theorem ops_push{o:Int}{a:Nat}(h:OpsOk K)(ho:0≤o∧o≤13):OpsOk ((o,a)::K):=fun x hx=>by
 rcases List.mem_cons.1 hx with rfl|hx
 ·exact ho
 ·exact h x hx
theorem sz_push{x:Nd}(h:∀y∈t,SzN y)(hx:SzN x):∀y∈t++[x],SzN y:=fun y hy=>by
 rcases List.mem_append.1 hy with hy|hy
 ·exact h y hy
 ·rw[List.mem_singleton.1 hy];exact hx
theorem PSt.neg(h:PSt l 0 k d K t)(hs:(sg [45] (rsK l k)).isSome=true):PSt l 0 (k+1) d ((5,0)::K) t:=by
 obtain⟨_,e,hlt⟩:=sg_rs hs;refine mk0 hlt h.d200 ?_ (ops_push h.ops (by decide)) (cm_push h.cm (by decide)) (by have:=h.len;rw[List.length_cons];omega) h.sz fun y hy=>h.den0 (by rw[e];exact Pz.go_neg hy);show (if tgt 5=0 then 1 else 0)+cntO K=d;rw[if_neg (by decide),h.cnt,Nat.zero_add]
theorem PSt.num(h:PSt l 0 k d K t)(hl:TokOk l)(hm:sg [45] (rsK l k)=none){s s':Pz.Nm}{k':Nat}(hk':k'≤l.length)(hF:takeF numF s (rsK l k)=(true,s',rsK l k')):PSt l 1 k' d K (t++[Nd.mk 0 s' [] 0 0]):=by
 obtain⟨x,e,hx,hs⟩:=take_true hF;have hok:=rsK_ok (fun t ht=>(hl.2 t ht).1) k x (by rw[e];exact List.mem_cons_self);obtain⟨hlt,hr⟩:=rsK_lt e;have hkk:=rsK_inj hr hk' hlt;subst hkk;have hp:(parS x.2).2=0∧(parS x.2).1.1.length≤60∧(parS x.2).1.2.length≤60:=of_decide_eq_true hx;have hs:s'=(parS x.2).1:=hs;have hk1:=Pz.num_kind hok hp.1;have hlf:leafR (rsK l k) t=some (.ok (rsK l (k+1)) (t++[Nd.mk 0 s' [] 0 0])):=by
  rw[e,Pz.leafR_cons,if_pos hk1];unfold numberR;rw[if_pos hp,hs]
 have hnd:LfN (Nd.mk 0 s' [] 0 0):=by
  rw[hs];exact⟨(by decide:(0:Int)≤0∧(0:Int)≤4),Nat.le_succ_of_le hp.2.1,hp.2.2,Nat.zero_le _,(by decide:(0:Int)≤0∧(0:Int)≤9999),(by decide:(0:Int)≤0∧(0:Int)≤9999)⟩
 exact mk1 hlt h.d200 h.cnt h.ops h.cm (by have:=h.len;rw[List.length_append,List.length_singleton];omega) (sz_push h.sz (szN_lf hnd)) fun y hy=>h.den0 (Pz.go_leaf hm hlf hy)
theorem kn_yes(hl:TokOk l){q q':Int}{k':Nat}(hk':k'≤l.length)(hF:takeF knF q (rsK l k)=(true,q',rsK l k')):k'=k+1∧k<l.length∧∃x,rsK l k=x::rsK l (k+1)∧x.1=0∧opName x.2=some q':=by
 obtain⟨x,e,hx,hs⟩:=take_true hF;have hok:=rsK_ok (fun t ht=>(hl.2 t ht).1) k x (by rw[e];exact List.mem_cons_self);obtain⟨hlt,hr⟩:=rsK_lt e;have hkk:=rsK_inj hr hk' hlt;subst hkk;have hx:(opName x.2).isSome=true:=hx;have hs:q'=(opName x.2).getD q:=hs
 cases ho:opName x.2 with
 | none=>rw[ho]at hx;cases hx
 | some v =>
  rw[ho]at hs;have hs:q'=v:=hs;subst hs;exact⟨rfl,hlt,x,e,Pz.op_kind hok ho,ho⟩
theorem leaf_of_name{x:Pz.K}{r:List Pz.K}{op:Int}(h0:x.1=0)(ho:opName x.2=some op)(h4:op≤4):leafR (x::r) t=some (lfR op r t):=by
 rw[Pz.leafR_cons,if_neg (by omega),if_pos h0,ho];dsimp only;unfold lfR;by_cases hz:op=0
 ·rw[if_pos hz,if_pos hz]
 ·rw[if_neg hz,if_neg hz,if_pos h4]
theorem not_minus{x:Pz.K}{r:List Pz.K}(h0:x.1=0):sg [45] (x::r)=none:=by
 rw[Pz.sg_cons,if_neg (fun e=>by rw[e]at h0;cases h0)]
theorem PSt.leaf(h:PSt l 0 k d K t)(hl:TokOk l){x:Pz.K}(e:rsK l k=x::rsK l (k+1))(h0:x.1=0){op:Int}(ho:opName x.2=some op)(h4:0≤op∧op≤4){k':Nat}{t':List Nd}(hk':k'≤l.length)(hF:lfR op (rsK l (k+1)) t=.ok (rsK l k') t'):PSt l 1 k' d K t'∧k<k':=by
 have hlt:=(rsK_lt e).1;have hr:∀x∈rsK l (k+1),okT x∧x.2.length≤100:=fun x hx=>by
  unfold rsK at hx;obtain⟨t0,ht,rfl⟩:=List.mem_map.1 hx;exact hl.2 t0 (List.mem_of_mem_drop ht)
 obtain⟨hlen,nd,rfl,hnd⟩:=lf_sz h4 hr hF;rw[rsK_len,rsK_len]at hlen;refine⟨mk1 hk' h.d200 h.cnt h.ops h.cm (by have:=h.len;rw[List.length_append,List.length_singleton];omega) (sz_push h.sz (szN_lf hnd)) fun y hy=>h.den0 ?_,by omega⟩;exact Pz.go_leaf (x:=.ok (rsK l k') (t++[nd])) (by rw[e];exact not_minus h0) (by rw[e,leaf_of_name h0 ho h4.2,hF]) hy
theorem PSt.leafBad(h:PSt l 0 k d K t){x:Pz.K}(e:rsK l k=x::rsK l (k+1))(h0:x.1=0){op:Int}(ho:opName x.2=some op)(h4:op≤4){k':Nat}(hF:lfR op (rsK l (k+1)) t=.bad 110 (rsK l k').length)(t':List Nd):PFin l k' t' 110 :=
 .inr ⟨by decide,.bad 110 (rsK l k').length,h.den0 (Pz.go_leaf (by rw[e];exact not_minus h0) (by rw[e,leaf_of_name h0 ho h4,hF]) (Pz.con_bad _ _ _ _ _)),rfl⟩
theorem call_of_name{x:Pz.K}{op:Int}(h0:x.1=0)(ho:opName x.2=some op)(h10:10≤op):callOp x=some op:=by
 unfold callOp;rw[if_pos h0,ho];dsimp only;rw[if_pos h10]
theorem call_ar{op:Int}(h:op=10∨op=11∨op=12):∃a:Nat,arN op=some (a+1)∧arI op-1=(a:Int)∧a≤100∧-1≤arI op∧arI op≤100:=by
 rcases h with rfl|rfl|rfl
 ·exact⟨1,rfl,rfl,by decide,by decide,by decide⟩
 ·exact⟨1,rfl,rfl,by decide,by decide,by decide⟩
 ·exact⟨2,rfl,rfl,by decide,by decide,by decide⟩
theorem cnt_push{o:Int}{a:Nat}(h:cntO K=d)(ho:tgt o=0):cntO ((o,a)::K)=d+1:=by
 show (if tgt o=0 then 1 else 0)+cntO K=d+1;rw[if_pos ho,h];omega
theorem PSt.call(h:PSt l 0 k d K t){x:Pz.K}(e:rsK l k=x::rsK l (k+1))(h0:x.1=0){op:Int}(ho:opName x.2=some op)(h10:op=10∨op=11∨op=12){a:Nat}(ha:arN op=some (a+1))(ha2:a≤100)(hd:d<200)(hs:(sg [40] (rsK l (k+1))).isSome=true):PSt l 0 (k+1+1) (d+1) ((op,a)::K) t:=by
 obtain⟨_,e2,hlt⟩:=sg_rs hs;have ht:tgt op=0:=by rcases h10 with rfl|rfl|rfl<;>rfl
 refine mk0 hlt (by omega) (cnt_push h.cnt ht) (ops_push h.ops (by omega)) (cm_push h.cm ha2) (by have:=h.len;rw[List.length_cons];omega) h.sz fun y hy=>h.den0 ?_;rw[e,e2];exact Pz.go_call (call_of_name h0 ho (by omega)) ha hd hy
theorem PSt.callNo(h:PSt l 0 k d K t){x:Pz.K}(e:rsK l k=x::rsK l (k+1))(h0:x.1=0){op:Int}(ho:opName x.2=some op)(h10:op=10∨op=11∨op=12){a:Nat}(ha:arN op=some (a+1))(hs:sg [40] (rsK l (k+1))=none)(t':List Nd):PFin l (k+1) t' 110 :=
 .inr ⟨by decide,.bad 110 (rsK l (k+1)).length,h.den0 (by rw[e];exact Pz.go_call_bad (call_of_name h0 ho (by omega)) ha (Pz.openK_no hs t)),rfl⟩
theorem PSt.callDeep(h:PSt l 0 k 200 K t){x:Pz.K}(e:rsK l k=x::rsK l (k+1))(h0:x.1=0){op:Int}(ho:opName x.2=some op)(h10:op=10∨op=11∨op=12){a:Nat}(ha:arN op=some (a+1))(hs:(sg [40] (rsK l (k+1))).isSome=true)(t':List Nd):PFin l (k+1) t' 111:=by
 obtain⟨_,e2,hlt⟩:=sg_rs hs;exact .inr ⟨by decide,.bad 111 (rsK l (k+1)).length,h.den0 (by
  rw[e];exact Pz.go_call_bad (call_of_name h0 ho (by omega)) ha (by rw[e2];exact Pz.openK_deep (Nat.le_refl _) _ t)),rfl⟩
theorem PSt.grp(h:PSt l 0 k d K t)(hd:d<200)(hs:(sg [40] (rsK l k)).isSome=true):PSt l 0 (k+1) (d+1) ((13,0)::K) t:=by
 obtain⟨_,e,hlt⟩:=sg_rs hs;exact mk0 hlt (by omega) (cnt_push h.cnt rfl) (ops_push h.ops (by decide)) (cm_push h.cm (by decide)) (by have:=h.len;rw[List.length_cons];omega) h.sz fun y hy=>h.den0 (by rw[e];exact Pz.go_open hd hy)
theorem PSt.grpDeep(h:PSt l 0 k 200 K t)(hs:(sg [40] (rsK l k)).isSome=true)(t':List Nd):PFin l k t' 111:=by
 obtain⟨_,e,hlt⟩:=sg_rs hs;refine .inr ⟨by decide,.bad 111 (rsK l k).length,h.den0 ?_,rfl⟩;rw[e];exact Pz.go_open_deep (Nat.le_refl _)
theorem PSt.noOne(h:PSt l 0 k d K t)(hm:sg [45] (rsK l k)=Option.none)(hn:∀x r,rsK l k=x::r→¬((parS x.2).2=0∧(parS x.2).1.1.length≤60∧(parS x.2).1.2.length≤60))(hk:∀x r,rsK l k=x::r→opName x.2=Option.none)(hs:sg [40] (rsK l k)=Option.none)(t':List Nd):PFin l k t' 110:=by
 refine .inr ⟨by decide,.bad 110 (rsK l k).length,h.den0 (Pz.go_leaf (x:=.bad 110 (rsK l k).length) hm ?_ (Pz.con_bad _ _ _ _ _)),rfl⟩
 cases e:rsK l k with
 | nil=>rfl
 | cons x r =>
  rw[Pz.leafR_cons];by_cases h1:x.1=1
  ·rw[if_pos h1];unfold numberR;rw[if_neg (hn x r e)]
   rfl
  ·rw[if_neg h1];by_cases h0:x.1=0
   ·rw[if_pos h0,hk x r e]
    rfl
   ·rw[if_neg h0,if_neg (fun c=>by rw[e,c,Pz.sg_yes]at hs;cases hs)]
    rfl
theorem inf_take(hl:TokOk l){q q':Int}{k':Nat}(hk':k'≤l.length)(hF:takeF infF q (rsK l k)=(true,q',rsK l k')):k'=k+1∧k<l.length∧∃x,rsK l k=x::rsK l (k+1)∧(6≤q'∧q'≤9)∧((opOf true (rsK l k)=some q'∧opOf false (rsK l k)=none)∨(opOf false (rsK l k)=some q'∧opOf true (rsK l k)=none)):=by
 obtain⟨x,e,hx,hs⟩:=take_true hF;have hok:=rsK_ok (fun t ht=>(hl.2 t ht).1) k x (by rw[e];exact List.mem_cons_self);obtain⟨hlt,hr⟩:=rsK_lt e;have hkk:=rsK_inj hr hk' hlt;subst hkk;have hx:0≤idx4 x.2:=of_decide_eq_true hx;have hs:q'=if 0≤idx4 x.2 then 6+idx4 x.2 else q:=hs
 rw[if_pos hx]at hs;obtain⟨h3,hh⟩:=Pz.inf_yes hok hx (rsK l (k+1));refine⟨rfl,hlt,x,e,by omega,?_⟩;rw[e,hs];exact hh
theorem inf_none(hl:TokOk l){q q':Int}{k':Nat}(hF:takeF infF q (rsK l k)=(false,q',rsK l k'))(b:Bool):opOf b (rsK l k)=none:=by
 obtain⟨_,hh⟩:=take_false hF
 cases e:rsK l k with
 | nil=>rfl
 | cons x r =>
  have hok:=rsK_ok (fun t ht=>(hl.2 t ht).1) k x (by rw[e];exact List.mem_cons_self);have hx:decide (0≤idx4 x.2)=false:=(hh x r e).1;exact Pz.inf_no hok (by have:=of_decide_eq_false hx;omega) b r
theorem tgt_inf{q:Int}(h:6≤q∧q≤9):(q≤7→tgt q=1)∧(8≤q→tgt q=2):=by
 refine⟨fun h7=>?_,fun h8=>?_⟩
 ·have:q=6∨q=7:=by omega
  rcases this with rfl|rfl<;>rfl
 ·have:q=8∨q=9:=by omega
  rcases this with rfl|rfl<;>rfl
theorem PSt.inf(h:PSt l 1 k d K t){q:Int}(hlt:k<l.length){x:Pz.K}(e:rsK l k=x::rsK l (k+1))(hq:6≤q∧q≤9)(ho:(opOf true (rsK l k)=some q∧opOf false (rsK l k)=none)∨(opOf false (rsK l k)=some q∧opOf true (rsK l k)=none)) :
  PSt l 0 (k+1) d ((q,0)::(settleF (tgt q) K t).1) (settleF (tgt q) K t).2:=by
 have hln:=Pz.settle_len (tgt q) K t;have h1:1≤tgt q:=by
  by_cases h7:q≤7
  ·rw[(tgt_inf hq).1 h7];exact Nat.le_refl _
  ·rw[(tgt_inf hq).2 (by omega)];decide
 refine mk0 hlt h.d200 ?_ (ops_push (Pz.settle_all K t h.ops) (by omega)) (cm_push (Pz.settle_all K t h.cm) (by decide)) (by have:=h.len;rw[List.length_cons];omega) (Pz.settle_nd K t h.sz fun x hx=>szN_plainP (h.ops x hx)) fun y hy=>?_
 ·show (if tgt q=0 then 1 else 0)+cntO (settleF (tgt q) K t).1=d;rw[if_neg (by omega),Pz.cnt_settle h1,h.cnt,Nat.zero_add]
 ·rcases ho with ⟨o1,o2⟩|⟨o1,o2⟩
  ·have ht:=Pz.op_tgt1 o1;rw[ht]at hy;refine h.den1 (Pz.set1 o2 K t 3 (by decide) ?_);have hL:=Pz.settle_loose 1 K t;rw[e]at o1 ⊢;exact Pz.go_add o1 hL hy
  ·have ht:=Pz.op_tgt2 o1;rw[ht]at hy;refine h.den1 (Pz.set2 K t 3 (by decide) ?_);have hL:=Pz.settle_loose 2 K t;rw[e]at o1 ⊢;exact Pz.go_mul o1 hL hy
theorem PSt.sum(h:PSt l 1 k d K t)(ho:∀b,opOf b (rsK l k)=none):PSt l 2 k d (settleF 1 K t).1 (settleF 1 K t).2∧Loose 1 (settleF 1 K t).1:=by
 have hln:=Pz.settle_len 1 K t;have hL:=Pz.settle_loose 1 K t;refine⟨mk2 h.kl h.d200 (by rw[Pz.cnt_settle (Nat.le_refl _),h.cnt]) (Pz.settle_all K t h.ops) (Pz.settle_all K t h.cm) (by have:=h.len;omega) (Pz.settle_nd K t h.sz fun x hx=>szN_plainP (h.ops x hx)) fun y hy=>?_,hL⟩;exact h.den1 (Pz.set1 (ho false) K t 3 (by decide) (Pz.set0 (ho true) hL hy))
theorem PSt.done(h:PSt l 2 k d K t)(hL:Loose 1 K)(hd:d=0)(hk:k=l.length):PFin l k t 0:=by
 have hK:=Pz.cnt_loose hL (by rw[h.cnt,hd]);subst hK hk;refine .inl ⟨rfl,h.den2 ?_⟩;have e:rsK l l.length=[]:=by unfold rsK;simp
 rw[e]
 rfl
theorem PSt.part(h:PSt l 2 k d K t)(hL:Loose 1 K){op:Int}{cm:Nat}{K1:List Wt}(hK:K=(op,cm+1)::K1)(hs:(sg [44] (rsK l k)).isSome=true):PSt l 0 (k+1) d ((op,cm)::K1) t:=by
 obtain⟨_,e,hlt⟩:=sg_rs hs;subst hK;have ho:tgt op=0:=by have:=hL op _ K1 rfl;omega
 refine mk0 hlt h.d200 h.cnt (fun x hx=>?_) (fun x hx=>?_) (by have:=h.len;rw[List.length_cons]at this ⊢;omega) h.sz fun y hy=>h.den2 (by rw[e];exact Pz.go_part ho hy)
 ·rcases List.mem_cons.1 hx with rfl|hx
  ·exact h.ops (op,cm+1) List.mem_cons_self
  ·exact h.ops x (List.mem_cons_of_mem _ hx)
 ·rcases List.mem_cons.1 hx with rfl|hx
  ·have:=h.cm (op,cm+1) List.mem_cons_self;dsimp only at this ⊢;omega
  ·exact h.cm x (List.mem_cons_of_mem _ hx)
theorem PSt.pos(h:PSt l 2 k d K t)(hL:Loose 1 K)(hK:K≠[]):1≤d:=by
 match K,hL,hK,h.cnt with
 | (o,c)::K1,hL,_,hc =>
  have ho:tgt o=0:=by have:=hL o c K1 rfl;omega
  have hc:(if tgt o=0 then 1 else 0)+cntO K1=d:=hc;rw[if_pos ho]at hc;omega
theorem PSt.close(h:PSt l 2 k d K t)(hL:Loose 1 K){op:Int}{K1:List Wt}(hK:K=(op,0)::K1)(hs:(sg [41] (rsK l k)).isSome=true):PSt l 1 (k+1) (d-1) K1 (if op=13 then t else t++[plainN op]):=by
 obtain⟨_,e,hlt⟩:=sg_rs hs;have hp:=h.pos hL (by rw[hK];simp);subst hK;have ho:tgt op=0:=by have:=hL op _ K1 rfl;omega
 have hc:(if tgt op=0 then 1 else 0)+cntO K1=d:=h.cnt;rw[if_pos ho]at hc;have hop:=h.ops (op,0) List.mem_cons_self;refine mk1 hlt (by have:=h.d200;omega) (by omega) (fun x hx=>h.ops x (List.mem_cons_of_mem _ hx)) (fun x hx=>h.cm x (List.mem_cons_of_mem _ hx)) ?_ ?_ fun y hy=>h.den2 ?_
 ·have:=h.len;rw[List.length_cons]at this;split
  ·omega
  ·rw[List.length_append,List.length_singleton];omega
 ·split
  ·exact h.sz
  ·exact sz_push h.sz (szN_plainP hop)
 ·rw[e];refine Pz.go_end ho ?_;unfold Pz.endOp;split
  ·rename_i h13;rw[if_pos h13]at hy;exact hy
  ·rename_i h13;rw[if_neg h13]at hy;exact hy
theorem PSt.stuck(h:PSt l 2 k d K t)(hL:Loose 1 K)(hd:¬(d=0∧k=l.length))(h1:∀op cm K1,K=(op,cm)::K1→cm≠0→sg [44] (rsK l k)=Option.none)(h2:∀op cm K1,K=(op,cm)::K1→cm=0→sg [41] (rsK l k)=Option.none)(t':List Nd):PFin l k t' 110:=by
 obtain⟨y,hy,he⟩:=Pz.go_stuck (K:=K) (d:=d) (r:=rsK l k) (t:=t) hL (fun hK hr=>by
  subst hK;have:=h.cnt;have hlen:=congrArg List.length hr;rw[rsK_len]at hlen;have hlen:l.length-k=0:=hlen;exact hd ⟨this.symm,by have:=h.kl;omega⟩) fun o c K' e=>⟨fun h0=>h2 o c K' e h0,fun h0=>h1 o c K' e h0⟩
 exact .inr ⟨by decide,y,h.den2 hy,he⟩
end Go.Proofs.YtmllklfjngapiaaGreatDoor
