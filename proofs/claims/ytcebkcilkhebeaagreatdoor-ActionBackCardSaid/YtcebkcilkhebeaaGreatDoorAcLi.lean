/- Own work. -/
import Derived.Test.YtcebkcilkhebeaaGreatDoorFixA
set_option linter.unusedSimpArgs false
set_option linter.unusedVariables false
set_option maxHeartbeats 4000000
set_option maxRecDepth 100000
namespace Go.Proofs.YtcebkcilkhebeaaGreatDoor
open Go.RowKit
open Ac (parseA noneA printA mayA Actn oB rB cB assetB moreA wordsA joinW)
theorem aclight_y(nm ast oth rn rd' cn cd:List UInt8)(k ex rc pay:Int)(w:World)(h:nm.length+ast.length+oth.length≤4611686018427387904):Calls Tryz.prog 7 #[.agg #[.string ⟨nm.toArray⟩,.int .i64 k,.string ⟨ast.toArray⟩,.string ⟨oth.toArray⟩,.string ⟨rn.toArray⟩,.string ⟨rd'.toArray⟩,.string ⟨cn.toArray⟩,.string ⟨cd.toArray⟩,.int .i64 ex,.int .i64 rc,.int .i64 pay]] w (GiveB w (lightA ⟨nm,k,ast,oth,(rn,rd'),(cn,cd),ex,rc,pay⟩)):=by
 have HE:=zh (show lightA ⟨nm,k,ast,oth,(rn,rd'),(cn,cd),ex,rc,pay⟩=(decide (rn.length≤30)&&(decide (rd'.length≤30)&&(decide (cn.length≤30)&&(decide (cd.length≤30)&&decide (nm.length+ast.length+oth.length≤200))))) from rfl);have q1:IntKind.i64.wrap ((nm.length:Int)+(ast.length:Int))=((nm.length:Int)+(ast.length:Int)):=IntWalk.i64_in _ (by omega);have q2:IntKind.i64.wrap ((nm.length:Int)+(ast.length:Int)+(oth.length:Int))=((nm.length:Int)+(ast.length:Int)+(oth.length:Int)):=IntWalk.i64_in _ (by omega);rcases(show ¬(rn.length:Int)≤30∨(rn.length:Int)≤30∧¬(rd'.length:Int)≤30∨(rn.length:Int)≤30∧(rd'.length:Int)≤30∧¬(cn.length:Int)≤30∨(rn.length:Int)≤30∧(rd'.length:Int)≤30∧(cn.length:Int)≤30∧¬(cd.length:Int)≤30∨(rn.length:Int)≤30∧(rd'.length:Int)≤30∧(cn.length:Int)≤30∧(cd.length:Int)≤30∧¬(nm.length:Int)+(ast.length:Int)+(oth.length:Int)≤200∨(rn.length:Int)≤30∧(rd'.length:Int)≤30∧(cn.length:Int)≤30∧(cd.length:Int)≤30∧(nm.length:Int)+(ast.length:Int)+(oth.length:Int)≤200 by omega) with c1|⟨c1,c2⟩|⟨c1,c2,c3⟩|⟨c1,c2,c3,c4⟩|⟨c1,c2,c3,c4,c5⟩|⟨c1,c2,c3,c4,c5⟩
 all_goals (
  go_enter Tryz.func7,Tryz.ntmps7;go_wp2_with fail;obtain⟨W,hW,BW,_,kk⟩:=layN (Below.refl w.heap.size w) #[.string ⟨nm.toArray⟩,.int .i64 k,.string ⟨ast.toArray⟩,.string ⟨oth.toArray⟩,.string ⟨rn.toArray⟩,.string ⟨rd'.toArray⟩,.string ⟨cn.toArray⟩,.string ⟨cd.toArray⟩,.int .i64 ex,.int .i64 rc,.int .i64 pay] 25;rw[hW];clear hW;have b0:=Below.refl W.heap.size W;have k0:=kk 0 _ rfl;have k1:=kk 1 _ rfl;have k2:=kk 2 _ rfl;have k3:=kk 3 _ rfl;have k4:=kk 4 _ rfl;have k5:=kk 5 _ rfl;have k6:=kk 6 _ rfl;have k7:=kk 7 _ rfl;have k8:=kk 8 _ rfl;have k9:=kk 9 _ rfl;have k10:=kk 10 _ rfl
  clear kk;go_wp2_with fail;go_ret;exact⟨ret_bool (by rw[HE.out,Bool.eq_iff_iff];simp;omega),Below.more BW b0⟩)
theorem joinW_len:∀ (l:List (List UInt8)) (n:Nat),(∀x∈l,x.length≤n)→(joinW l).length≤l.length*(n+1)
 | [],n,_=>Nat.zero_le _
 | [w],n,h=>by
  have:=h w (List.mem_singleton.2 rfl);show w.length≤1*(n+1);omega
 | w::v::r,n,h=>by
  have h1:=h w (List.mem_cons_self ..);have h2:=joinW_len (v::r) n (fun x hx=>h x (List.mem_cons_of_mem _ hx));show (w++32::joinW (v::r)).length≤_;rw[List.length_append,List.length_cons,List.length_cons,Nat.add_mul];omega
theorem printA_len(a:Actn):(printA a).length≤10000:=by
 unfold printA;split
 ·rename_i hm
  obtain⟨p1,p2,⟨p3,p4⟩,⟨p5,p6,p7,p8⟩,p9,p10,p11⟩:=mayA_parts hm;have h:∀x∈wordsA a,x.length≤300:=fun x hx=>by
   unfold wordsA at hx;rcases List.mem_cons.1 hx with rfl|hx;· have:=wordK_len a.kind;omega
   rcases List.mem_cons.1 hx with rfl|hx;· have:=acname_len p1;omega
   rcases List.mem_cons.1 hx with rfl|hx;· have:=acname_len (l:=a.ast) (by unfold assetB at p2;simp only[Bool.and_eq_true]at p2;exact p2.1);omega
   rcases List.mem_cons.1 hx with rfl|hx;· rw[wd_dig p5];have:=dig_9999 p5 (by omega);omega
   rcases List.mem_cons.1 hx with rfl|hx;· rw[wd_dig (by omega)];have:=dig_9999 (k:=a.rc) (by omega) (by omega);omega
   rcases List.mem_cons.1 hx with rfl|hx;· rw[wd_dig (by omega)];have:=dig_9999 (k:=a.pay) (by omega) p8;omega
   unfold moreA at hx;rcases List.mem_append.1 hx with hx|hx
   ·split at hx
    ·rename_i hb
     rw[List.mem_singleton.1 hx];have:=acname_len (l:=a.oth) (by have:=p9 hb;unfold assetB at this;simp only[Bool.and_eq_true]at this;exact this.1);omega
    ·cases hx
   rcases List.mem_append.1 hx with hx|hx<;>split at hx
   ·rename_i hb
    obtain⟨y1,y2,y3⟩:=numB_len p10 hb;rw[List.mem_singleton.1 hx];have:=Ac.prS_len y1 y2 y3;omega
   ·cases hx
   ·rename_i hb
    obtain⟨y1,y2,y3⟩:=numB_len p11 hb;rw[List.mem_singleton.1 hx];have:=Ac.prS_len y1 y2 y3;omega
   ·cases hx
  have hl:(wordsA a).length≤9:=by
   unfold wordsA moreA;simp only[List.length_cons,List.length_append];have e:∀ (b:Bool) (w:List UInt8),(if b=true then [w] else []).length≤1:=fun b w=>by cases b<;>simp
   have:=e (oB a.kind) a.oth;have:=e (rB a.kind) (prS a.ratio);have:=e (cB a.kind) (prS a.cash);omega
  have:=joinW_len (wordsA a) 300 h;have:=Nat.mul_le_mul_right 301 hl;omega
 ·exact Nat.zero_le _
theorem aparse_l(t:List UInt8)(ht:t.length≤1000000)(w:World)(hg:GoodA w):Calls Tryz.prog 9 #[.string ⟨t.toArray⟩] w (GiveA w (parseA t)):=aparse_any ⟨t.toArray⟩ w (by rw[size_of];exact ht) hg
end Go.Proofs.YtcebkcilkhebeaaGreatDoor
