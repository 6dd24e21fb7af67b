/- Own work. -/
import Derived.Test.YthgopcnagecbaaaGreatDoorFixPk
import Derived.Test.YthgopcnagecbaaaGreatDoorAllRefK4
set_option linter.unusedSimpArgs false
set_option linter.unusedVariables false
namespace Go.Proofs.YthgopcnagecbaaaGreatDoor
open Go.RowKit
open Ac (mayA Actn)
end Go.Proofs.YthgopcnagecbaaaGreatDoor
namespace Go.Proofs.YthgopcnagecbaaaGreatDoor
open Go.RowKit
open Pk (Part Pack mayP valueP keepsP ofP)
variable {G : World → Prop}
end Go.Proofs.YthgopcnagecbaaaGreatDoor
namespace Go.Proofs.YthgopcnagecbaaaGreatDoor
open Go.RowKit
open Pk (Part Pack mayP valueP keepsP ofP)
end Go.Proofs.YthgopcnagecbaaaGreatDoor
namespace Go.Proofs.YthgopcnagecbaaaGreatDoor
open Go.RowKit
open Pk (Part Pack mayP valueP keepsP ofP)
open Pk (sumV sumV_app sumV_one sumV_lq sum_two GoodN wthP sumP_all sumP_none wth_good partB mayP)
end Go.Proofs.YthgopcnagecbaaaGreatDoor
namespace Go.Proofs.YthgopcnagecbaaaGreatDoor
open Go.RowKit
section
variable {T : Type} [DecidableEq T]
end
end Go.Proofs.YthgopcnagecbaaaGreatDoor
namespace Go.Proofs.YthgopcnagecbaaaGreatDoor
open Go.RowKit
open Pk (Part Pack)
end Go.Proofs.YthgopcnagecbaaaGreatDoor
set_option maxHeartbeats 4000000
set_option maxRecDepth 100000
namespace Go.Proofs.YthgopcnagecbaaaGreatDoor
open Go.RowKit
open Pk (Part Pack)
theorem pklight_y(p:Option Addr)(c:Nat)(l:List Part)(cn cd:List UInt8)(w:World)(hc:l.length≤c)(hl:l.length≤4611686018427387904)(h:Pts w p l) :
  Calls Tryz.prog 9 #[.agg #[.slice p l.length c,.string ⟨cn.toArray⟩,.string ⟨cd.toArray⟩]] w (GiveB w (lightP ⟨l,(cn,cd)⟩)):=by
 have HS:=zh h;clear h;go_enter Tryz.func9,Tryz.ntmps9;go_wp2_with fail;obtain⟨W,hW,BW,_,kk⟩:=layN (Below.refl w.heap.size w) #[.slice p l.length c,.string ⟨cn.toArray⟩,.string ⟨cd.toArray⟩] 28;rw[hW];clear hW;replace HS:=zh (HS.out.below BW);have b0:=Below.refl W.heap.size W;have k0:=kk 0 _ rfl;have k1:=kk 1 _ rfl;have k2:=kk 2 _ rfl
 clear kk;go_wp2_with fail
 go_loopw [3] (fun i wr=>∃k:Nat,k≤l.length∧i=.int .i64 k∧Hid (∀ (j:Nat) (x:Part),j<k→l[j]?=some x→lightPt x=true)∧Below W.heap.size W wr) (fun i _=>l.length-(intOf i).toNat)
 case atStart=>exact⟨0,Nat.zero_le _,rfl,fun j x h=>absurd h (Nat.not_lt_zero j),b0⟩
 case round =>
  obtain⟨k,hk,rfl,HJ,hw⟩:=hrel;by_cases hlt:k<l.length
  ·obtain⟨⟨a,⟨n,e⟩⟩,hx⟩:∃x,l[k]?=some x:=⟨_,List.getElem?_eq_getElem hlt⟩;obtain⟨b,o,rfl,j0,j1,j2⟩:=pt_rule (HS.out.below hw) hx;have HX:=zh hx;clear hx;have c0:=Below.refl wr.heap.size wr;rcases(show (20:Int)<(n.length:Int)∨¬(20:Int)<(n.length:Int)∧(20:Int)<(e.length:Int)∨¬(20:Int)<(n.length:Int)∧¬(20:Int)<(e.length:Int)∧(100:Int)<(a.length:Int)∨¬(20:Int)<(n.length:Int)∧¬(20:Int)<(e.length:Int)∧¬(100:Int)<(a.length:Int) by omega) with x1|⟨x1,x2⟩|⟨x1,x2,x3⟩|⟨x1,x2,x3⟩
   case inl|inr.inl|inr.inr.inl =>
    have HO:Hid (lightP ⟨l,(cn,cd)⟩=false):=zh (lightP_stop HX.out (by unfold lightPt;simp;omega));go_wp2_with fail;obtain⟨U,hU,BU,_,kk⟩:=layN c0 #[.string ⟨a.toArray⟩,.string ⟨n.toArray⟩,.string ⟨e.toArray⟩] 45;rw[hU];clear hU;have bu:=Below.refl U.heap.size U;have u0:=kk 0 _ rfl;have u1:=kk 1 _ rfl;have u2:=kk 2 _ rfl
    clear kk;go_wp2_with fail;go_ret;exact⟨ret_bool (by rw[HO.out]),Below.more BW (Below.more hw BU)⟩
   have HO:Hid (lightPt (a,(n,e))=true):=zh (by unfold lightPt;simp;omega);go_wp2_with fail;obtain⟨U,hU,BU,_,kk⟩:=layN c0 #[.string ⟨a.toArray⟩,.string ⟨n.toArray⟩,.string ⟨e.toArray⟩] 45;rw[hU];clear hU;have bu:=Below.refl U.heap.size U;have u0:=kk 0 _ rfl;have u1:=kk 1 _ rfl;have u2:=kk 2 _ rfl
   clear kk;go_wp2_with fail;go_roundw
   case rel=>exact⟨k+1,hlt,by go_num,morePt (P:=fun _ y=>lightPt y=true) HJ.out HX.out HO.out,Below.more hw BU⟩
   case measure=>simp[intOf];omega
  ·obtain rfl:k=l.length:=by omega
   have HR:=zh (lightP_end HJ.out);have HE:=zh (show lightP ⟨l,(cn,cd)⟩=(l.all lightPt&&(decide (l.length≤4)&&(decide (cn.length≤20)&&decide (cd.length≤20)))) from rfl);rcases(show ¬(l.length:Int)≤4∨(l.length:Int)≤4∧¬(cn.length:Int)≤20∨(l.length:Int)≤4∧(cn.length:Int)≤20∧¬(cd.length:Int)≤20∨(l.length:Int)≤4∧(cn.length:Int)≤20∧(cd.length:Int)≤20 by omega) with x1|⟨x1,x2⟩|⟨x1,x2,x3⟩|⟨x1,x2,x3⟩
   all_goals (
    go_wp2_with fail;go_ret;exact⟨ret_bool (by rw[HE.out,HR.out,Bool.eq_iff_iff];simp;omega),Below.more BW hw⟩)
end Go.Proofs.YthgopcnagecbaaaGreatDoor
namespace Go.Proofs.YthgopcnagecbaaaGreatDoor
open Go.RowKit
open Pk (Part Pack mayP valueP keepsP ofP)
variable {G : World → Prop}
theorem light_sz{ps:List Part}{un ud:List UInt8}(h:lightP ⟨ps,(un,ud)⟩=true):((∀y∈ps,y.1.length≤4611686018427387904)∧SzPk 20 ⟨ps,(un,ud)⟩)∧ps.length≤4:=by
 unfold lightP lightPt at h;simp only[Bool.and_eq_true,decide_eq_true_eq,List.all_eq_true]at h;obtain⟨h1,h2,h3,h4⟩:=h;exact⟨⟨fun y hy=>by have:=(h1 y hy).2.2;omega,fun y hy=>⟨(h1 y hy).1,(h1 y hy).2.1⟩,h3,h4⟩,h2⟩
end Go.Proofs.YthgopcnagecbaaaGreatDoor
namespace Go.Proofs.YthgopcnagecbaaaGreatDoor
open Go.RowKit
open Pk (Part Pack mayP valueP sumP tabP GoodN sumV wthP)
structure Rws(B:Nat)(w:World)(L:List (Value×List Fx.Fix)):Prop where
 own:∀ (i:Nat) (x:Value×List Fx.Fix),L[i]?=some x→OwnX B w x.1 x.2
 ap:∀ (i j:Nat) (x y:Value×List Fx.Fix),i≠j→L[i]?=some x→L[j]?=some y→∀g,x.1.ownBlock=some g→y.1.ownBlock≠some g
theorem Rws.below{B:Nat}{w w':World}{L:List (Value×List Fx.Fix)}(h:Rws B w L)(hb:Below w.heap.size w w'):Rws B w' L:=⟨fun i x e=>ownG_below (h.own i x e) hb,h.ap⟩
theorem Rws.put{B:Nat}{w w':World}{L:List (Value×List Fx.Fix)}(h:Rws B w L)(i:Nat){v v':Value}{f f':List Fx.Fix}(hi:L[i]?=some (v,f))(ho:OwnX B w' v' f')(hg:w.grownBy w' v.ownBlock)(hl:v'.ownBlock=v.ownBlock∨v'.ownBlock=some w.heap.size):Rws B w' (L.set i (v',f')):=by
 have hil:i<L.length:=(List.getElem?_eq_some_iff.1 hi).1;have key:∀ (j:Nat) (y:Value×List Fx.Fix),(L.set i (v',f'))[j]?=some y→j=i∧y=(v',f')∨j≠i∧L[j]?=some y:=fun j y e=>by
  by_cases c:j=i
  ·subst c;rw[List.getElem?_set_self hil]at e;exact .inl ⟨rfl,(Option.some.inj e).symm⟩
  ·rw[List.getElem?_set_ne (fun k=>c k.symm)]at e;exact .inr ⟨c,e⟩
 have far:∀ (j:Nat) (y:Value×List Fx.Fix),j≠i→L[j]?=some y→∀g,y.1.ownBlock=some g→v'.ownBlock≠some g:=fun j y c e g hy k=>by
  rcases hl with hl|hl
  ·rw[hl]at k;exact h.ap j i y (v,f) c e hi g hy k
  ·rw[hl]at k;have:=(own_lt (h.own j y e) g hy).2;have:w.heap.size=g:=Option.some.inj k;omega
 refine⟨fun j y e=>?_,fun j k x y c ej ek g hx hy=>?_⟩
 ·rcases key j y e with ⟨_,rfl⟩|⟨c,e⟩
  ·exact ho
  ·refine World.ownsRow.kept (h.own j y e) hg ?_
   cases hb:y.1.ownBlock with
   | none=>exact .inl rfl
   | some g=>exact .inr fun k=>h.ap j i y (v,f) c e hi g hb k.symm
 ·rcases key j x ej with ⟨rfl,rfl⟩|⟨cj,fj⟩<;>rcases key k y ek with ⟨rfl,rfl⟩|⟨ck,fk⟩
  ·exact c rfl
  ·exact far k y ck fk g hy hx
  ·exact far j x cj fj g hx hy
  ·exact h.ap j k x y c fj fk g hx hy
theorem rws_start(U:World)(t:TypeId)(ht:t=47):∃V,(((U.alloc (.cells #[] t)).alloc (.cells #[] t)).alloc (.cells #[] t)).alloc (.cells #[] t)=V∧Below U.heap.size U V ∧
  Rws U.heap.size V [(.slice (some ⟨U.heap.size,0,none⟩) 0 0,[]),(.slice (some ⟨U.heap.size+1,0,none⟩) 0 0,[]),(.slice (some ⟨U.heap.size+1+1,0,none⟩) 0 0,[]),(.slice (some ⟨U.heap.size+1+1+1,0,none⟩) 0 0,[])]:=by
 subst ht;have e1:(U.alloc (.cells #[] 47)).heap.size=U.heap.size+1:=by simp
 have e2:((U.alloc (.cells #[] 47)).alloc (.cells #[] 47)).heap.size=U.heap.size+1+1:=by simp
 have e3:(((U.alloc (.cells #[] 47)).alloc (.cells #[] 47)).alloc (.cells #[] 47)).heap.size=U.heap.size+1+1+1:=by simp
 have b:∀w:World,Below w.heap.size w (w.alloc (.cells #[] 47)):=fun w=>Below.alloc (Below.refl _ _) (Nat.le_refl _) _;have o1:OwnX U.heap.size _ _ []:=ownG_empty (enc:=encFx) (k:=4) (e:=47) (B:=U.heap.size) U (Nat.le_refl _);have o2:OwnX U.heap.size _ _ []:=ownG_empty (enc:=encFx) (k:=4) (e:=47) (B:=U.heap.size) (U.alloc (.cells #[] 47)) (by rw[e1];omega);have o3:OwnX U.heap.size _ _ []:=ownG_empty (enc:=encFx) (k:=4) (e:=47) (B:=U.heap.size) ((U.alloc (.cells #[] 47)).alloc (.cells #[] 47)) (by rw[e2];omega);have o4:OwnX U.heap.size _ _ []:=ownG_empty (enc:=encFx) (k:=4) (e:=47) (B:=U.heap.size) (((U.alloc (.cells #[] 47)).alloc (.cells #[] 47)).alloc (.cells #[] 47)) (by rw[e3];omega);rw[e1]at o2;rw[e2]at o3;rw[e3]at o4;refine⟨_,rfl,Below.more (Below.more (Below.more (b _) (b _)) (b _)) (b _),fun i x hx=>?_,fun i j x y c hx hy g h1 h2=>?_⟩
 ·match i,hx with
  | 0,hx=>obtain rfl:=Option.some.inj hx;exact ownG_below (ownG_below (ownG_below o1 (b _)) (b _)) (b _)
  | 1,hx=>obtain rfl:=Option.some.inj hx;exact ownG_below (ownG_below o2 (b _)) (b _)
  | 2,hx=>obtain rfl:=Option.some.inj hx;exact ownG_below o3 (b _)
  | 3,hx=>obtain rfl:=Option.some.inj hx;exact o4
 ·have blk:∀ (n:Nat) (z:Value×List Fx.Fix),[((.slice (some ⟨U.heap.size,0,none⟩) 0 0:Value),([]:List Fx.Fix)),(.slice (some ⟨U.heap.size+1,0,none⟩) 0 0,[]),(.slice (some ⟨U.heap.size+1+1,0,none⟩) 0 0,[]),(.slice (some ⟨U.heap.size+1+1+1,0,none⟩) 0 0,[])][n]?=some z→z.1.ownBlock=some (U.heap.size+n):=fun n z hz=>by
   match n,hz with
   | 0,hz=>obtain rfl:=Option.some.inj hz;rfl
   | 1,hz=>obtain rfl:=Option.some.inj hz;rfl
   | 2,hz=>obtain rfl:=Option.some.inj hz;rfl
   | 3,hz=>obtain rfl:=Option.some.inj hz;rfl
  rw[blk i x hx]at h1;rw[blk j y hy]at h2;have:=Option.some.inj h1;have:=Option.some.inj h2;omega
theorem tab_one{ps:List Part}{qs:List Key}{k:Nat}{x:Part}{q:Key}(h1:ps[k]?=some x)(h2:qs[k]?=some q):(tabP ps qs).take (k+1)=(tabP ps qs).take k++[((x.1,0),q)]:=by
 rw[List.take_add_one];unfold tabP;rw[List.getElem?_zipWith,h1,h2]
 rfl
theorem val_len{K:Nat}{x:Pack}{l:List Fx.Fix}{d:Int}{u:Key}(hK:(x.parts.length+1)*(2*K+3)≤10000)(hz:SzPk K x)(hf:SzFx K l)(h:valueP x l d=some u):u.1.length≤10001∧u.2.length≤10000:=by
 have hk2:2*K+3≤10000:=Nat.le_trans (Nat.le_mul_of_pos_left _ (Nat.succ_pos _)) hK;unfold valueP at h;split at h
 ·rename_i hm
  simp only[Bool.and_eq_true]at hm;obtain⟨hmp,hmf⟩:=hm;have hcr:=(Pk.may_iffP.1 hmp).2;by_cases hall:∀y∈x.parts,∃q,Fx.getF l (y.1,d)=some q
  ·have hh:∀y∈x.parts,isR y.2=true∧∃q,Fx.getF l (y.1,d)=some q∧isR q=true∧q.1.length≤K∧q.2.length≤K:=fun y hy=>by
    obtain⟨q,hq⟩:=hall y hy;refine⟨(Pk.part_rat ((Pk.may_iffP.1 hmp).1.1 y hy)).1,q,hq,Pk.get_rat hq,?_⟩;unfold Fx.getF at hq;rw[if_pos hmf]at hq;exact⟨(hf _ (Fx.raw_some hq)).2.1,(hf _ (Fx.raw_some hq)).2.2⟩
   rw[Pk.sumP_all x.parts x.cash hcr (fun y hy=>⟨(hh y hy).1,by obtain⟨_,q,h1,h2,_⟩:=hh y hy;exact⟨q,h1,h2⟩⟩)]at h;obtain rfl:=Option.some.inj h;have hgn:GoodN (2*K+2) (x.cash::x.parts.map (wthP fun a=>Fx.getF l (a,d))):=fun z hz2=>by
    rcases List.mem_cons.1 hz2 with rfl|hz2
    ·exact⟨hcr,Nat.le_trans hz.2.1 (by omega),Nat.le_trans hz.2.2 (by omega)⟩
    ·obtain⟨y,hy,rfl⟩:=List.mem_map.1 hz2;obtain⟨h1,q,h2,h3,h4,h5⟩:=hh y hy;have e:wthP (fun a=>Fx.getF l (a,d)) y=mulR y.2 q:=by unfold wthP;dsimp only;rw[h2];rfl
     rw[e];exact Pk.wth_good h1 h3 (hz.1 y hy).1 (hz.1 y hy).2 h4 h5 (by omega)
   have k:=Pk.sumV_lq _ (by simp) hgn (by simpa using hK);have l1:=k.len1;have l2:=k.len2;have l3:=k.le
   exact⟨Nat.le_trans l1 (by omega),Nat.le_trans l2 l3⟩
  ·exfalso;obtain⟨y,hy⟩:=Classical.not_forall.1 hall;obtain⟨hy,hn⟩:=Classical.not_imp.1 hy;rw[Pk.sumP_none _ _ ⟨y,hy,by
    cases e:Fx.getF l (y.1,d) with
    | none=>rfl
    | some q=>exact absurd ⟨q,e⟩ hn⟩]at h
   cases h
 ·cases h
theorem add_sz{x y:Key}(hx:isR x=true)(hy:isR y=true)(h1:x.1.length≤40)(h2:x.2.length≤40)(h3:y.1.length≤40)(h4:y.2.length≤40):(addR x y).1.length≤90∧(addR x y).2.length≤90:=by
 have k:=(Pk.key_lq hx h1 h2 (by decide)).add (Pk.key_lq hy h3 h4 (by decide)) (by decide);rw[Pk.add_one _ _ hx hy];have l1:=k.len1;have l2:=k.len2
 exact⟨by show (rdN _).length≤_;omega,by show (rdD _).length≤_;omega⟩
end Go.Proofs.YthgopcnagecbaaaGreatDoor
