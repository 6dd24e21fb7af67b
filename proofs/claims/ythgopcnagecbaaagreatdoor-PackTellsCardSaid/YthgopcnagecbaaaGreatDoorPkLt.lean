/- Own work. -/
import Derived.Test.YthgopcnagecbaaaGreatDoorOpenPkM
set_option linter.unusedSimpArgs false
set_option linter.unusedVariables false
set_option maxHeartbeats 4000000
set_option maxRecDepth 100000
namespace Go.Proofs.YthgopcnagecbaaaGreatDoor
open Go.RowKit
open Pk (Part Pack)
theorem pklight_y(p:Option Addr)(c:Nat)(l:List Part)(cn cd:List UInt8)(w:World)(hc:l.length≤c)(hl:l.length≤4611686018427387904)(h:Pts w p l) :
  Calls Tryz.prog 9 #[.agg #[.slice p l.length c,.string ⟨cn.toArray⟩,.string ⟨cd.toArray⟩]] w (GiveB w (lightP ⟨l,(cn,cd)⟩)):=by
 have HS:=zh h;clear h;go_enter Tryz.func9,Tryz.ntmps9;go_wp2_with fail;obtain⟨W,hW,BW,_,kk⟩:=layN (Below.refl w.heap.size w) #[.slice p l.length c,.string ⟨cn.toArray⟩,.string ⟨cd.toArray⟩] 28;rw[hW];clear hW;replace HS:=zh (HS.out.below BW);have b0:=Below.refl W.heap.size W;have k0:=kk 0 _ rfl;have k1:=kk 1 _ rfl;have k2:=kk 2 _ rfl
 clear kk;go_wp2_with fail
 go_loopw [3] (fun i wr=>∃k:Nat,k≤l.length∧i=.int .i64 k∧Hid (∀ (j:Nat) (x:Part),j<k→l[j]?=some x→lightPt x=true)∧Below W.heap.size W wr) (fun i _=>l.length-(intOf i).toNat)
 case atStart=>exact⟨0,Nat.zero_le _,rfl,fun j x h=>absurd h (Nat.not_lt_zero j),b0⟩
 case round =>
  obtain⟨k,hk,rfl,HJ,hw⟩:=hrel;by_cases hlt:k<l.length
  ·obtain⟨⟨a,⟨n,e⟩⟩,hx⟩:∃x,l[k]?=some x:=⟨_,List.getElem?_eq_getElem hlt⟩;obtain⟨b,o,rfl,j0,j1,j2⟩:=pt_rule (HS.out.below hw) hx;have HX:=zh hx;clear hx;have c0:=Below.refl wr.heap.size wr;rcases(show (20:Int)<(n.length:Int)∨¬(20:Int)<(n.length:Int)∧(20:Int)<(e.length:Int)∨¬(20:Int)<(n.length:Int)∧¬(20:Int)<(e.length:Int)∧(100:Int)<(a.length:Int)∨¬(20:Int)<(n.length:Int)∧¬(20:Int)<(e.length:Int)∧¬(100:Int)<(a.length:Int) by omega) with x1|⟨x1,x2⟩|⟨x1,x2,x3⟩|⟨x1,x2,x3⟩
   case inl|inr.inl|inr.inr.inl =>
    have HO:Hid (lightP ⟨l,(cn,cd)⟩=false):=zh (lightP_stop HX.out (by unfold lightPt;simp;omega));go_wp2_with fail;obtain⟨U,hU,BU,_,kk⟩:=layN c0 #[.string ⟨a.toArray⟩,.string ⟨n.toArray⟩,.string ⟨e.toArray⟩] 45;rw[hU];clear hU;have bu:=Below.refl U.heap.size U;have u0:=kk 0 _ rfl;have u1:=kk 1 _ rfl;have u2:=kk 2 _ rfl
    clear kk;go_wp2_with fail;go_ret;exact⟨ret_bool (by rw[HO.out]),Below.more BW (Below.more hw BU)⟩
   have HO:Hid (lightPt (a,(n,e))=true):=zh (by unfold lightPt;simp;omega);go_wp2_with fail;obtain⟨U,hU,BU,_,kk⟩:=layN c0 #[.string ⟨a.toArray⟩,.string ⟨n.toArray⟩,.string ⟨e.toArray⟩] 45;rw[hU];clear hU;have bu:=Below.refl U.heap.size U;have u0:=kk 0 _ rfl;have u1:=kk 1 _ rfl;have u2:=kk 2 _ rfl
   clear kk;go_wp2_with fail;go_roundw
   case rel=>exact⟨k+1,hlt,by go_num,morePt (P:=fun _ y=>lightPt y=true) HJ.out HX.out HO.out,Below.more hw BU⟩
   case measure=>simp[intOf];omega
  ·obtain rfl:k=l.length:=by omega
   have HR:=zh (lightP_end HJ.out);have HE:=zh (show lightP ⟨l,(cn,cd)⟩=(l.all lightPt&&(decide (l.length≤4)&&(decide (cn.length≤20)&&decide (cd.length≤20)))) from rfl);rcases(show ¬(l.length:Int)≤4∨(l.length:Int)≤4∧¬(cn.length:Int)≤20∨(l.length:Int)≤4∧(cn.length:Int)≤20∧¬(cd.length:Int)≤20∨(l.length:Int)≤4∧(cn.length:Int)≤20∧(cd.length:Int)≤20 by omega) with x1|⟨x1,x2⟩|⟨x1,x2,x3⟩|⟨x1,x2,x3⟩
   all_goals (
    go_wp2_with fail;go_ret;exact⟨ret_bool (by rw[HE.out,HR.out,Bool.eq_iff_iff];simp;omega),Below.more BW hw⟩)
end Go.Proofs.YthgopcnagecbaaaGreatDoor
