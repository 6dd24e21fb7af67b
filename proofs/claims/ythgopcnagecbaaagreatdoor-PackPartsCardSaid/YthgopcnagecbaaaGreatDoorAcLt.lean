/- Own work. -/
import Derived.Test.YthgopcnagecbaaaGreatDoorBlkM
set_option linter.unusedSimpArgs false
set_option linter.unusedVariables false
set_option maxHeartbeats 4000000
set_option maxRecDepth 100000
namespace Go.Proofs.YthgopcnagecbaaaGreatDoor
open Go.RowKit
open Ac (mayA Actn)
theorem aclight_y(nm ast oth rn rd' cn cd:List UInt8)(k ex rc pay:Int)(w:World)(h:nm.length+ast.length+oth.length≤4611686018427387904):Calls Tryz.prog 8 #[.agg #[.string ⟨nm.toArray⟩,.int .i64 k,.string ⟨ast.toArray⟩,.string ⟨oth.toArray⟩,.string ⟨rn.toArray⟩,.string ⟨rd'.toArray⟩,.string ⟨cn.toArray⟩,.string ⟨cd.toArray⟩,.int .i64 ex,.int .i64 rc,.int .i64 pay]] w (GiveB w (lightA ⟨nm,k,ast,oth,(rn,rd'),(cn,cd),ex,rc,pay⟩)):=by
 have HE:=zh (show lightA ⟨nm,k,ast,oth,(rn,rd'),(cn,cd),ex,rc,pay⟩=(decide (rn.length≤30)&&(decide (rd'.length≤30)&&(decide (cn.length≤30)&&(decide (cd.length≤30)&&decide (nm.length+ast.length+oth.length≤200))))) from rfl);have q1:IntKind.i64.wrap ((nm.length:Int)+(ast.length:Int))=((nm.length:Int)+(ast.length:Int)):=IntWalk.i64_in _ (by omega);have q2:IntKind.i64.wrap ((nm.length:Int)+(ast.length:Int)+(oth.length:Int))=((nm.length:Int)+(ast.length:Int)+(oth.length:Int)):=IntWalk.i64_in _ (by omega);rcases(show ¬(rn.length:Int)≤30∨(rn.length:Int)≤30∧¬(rd'.length:Int)≤30∨(rn.length:Int)≤30∧(rd'.length:Int)≤30∧¬(cn.length:Int)≤30∨(rn.length:Int)≤30∧(rd'.length:Int)≤30∧(cn.length:Int)≤30∧¬(cd.length:Int)≤30∨(rn.length:Int)≤30∧(rd'.length:Int)≤30∧(cn.length:Int)≤30∧(cd.length:Int)≤30∧¬(nm.length:Int)+(ast.length:Int)+(oth.length:Int)≤200∨(rn.length:Int)≤30∧(rd'.length:Int)≤30∧(cn.length:Int)≤30∧(cd.length:Int)≤30∧(nm.length:Int)+(ast.length:Int)+(oth.length:Int)≤200 by omega) with c1|⟨c1,c2⟩|⟨c1,c2,c3⟩|⟨c1,c2,c3,c4⟩|⟨c1,c2,c3,c4,c5⟩|⟨c1,c2,c3,c4,c5⟩
 all_goals (
  go_enter Tryz.func8,Tryz.ntmps8;go_wp2_with fail;obtain⟨W,hW,BW,_,kk⟩:=layN (Below.refl w.heap.size w) #[.string ⟨nm.toArray⟩,.int .i64 k,.string ⟨ast.toArray⟩,.string ⟨oth.toArray⟩,.string ⟨rn.toArray⟩,.string ⟨rd'.toArray⟩,.string ⟨cn.toArray⟩,.string ⟨cd.toArray⟩,.int .i64 ex,.int .i64 rc,.int .i64 pay] 25;rw[hW];clear hW;have b0:=Below.refl W.heap.size W;have k0:=kk 0 _ rfl;have k1:=kk 1 _ rfl;have k2:=kk 2 _ rfl;have k3:=kk 3 _ rfl;have k4:=kk 4 _ rfl;have k5:=kk 5 _ rfl;have k6:=kk 6 _ rfl;have k7:=kk 7 _ rfl;have k8:=kk 8 _ rfl;have k9:=kk 9 _ rfl;have k10:=kk 10 _ rfl
  clear kk;go_wp2_with fail;go_ret;exact⟨ret_bool (by rw[HE.out,Bool.eq_iff_iff];simp;omega),Below.more BW b0⟩)
end Go.Proofs.YthgopcnagecbaaaGreatDoor
