/- Own work. -/
import Derived.Test.YtnichceiafandaaGreatDoorFixP11M
import Derived.Test.YtnichceiafandaaGreatDoorParNum9M
set_option linter.unusedSimpArgs false
set_option linter.unusedVariables false
set_option maxHeartbeats 4000000
set_option maxRecDepth 100000
namespace Go.Proofs.YtnichceiafandaaGreatDoor
open Go.RowKit
open Tm (Nd plainN checkT printT)
open Pz (PsIs)
theorem deep11_lo(n:Int)(w:World)(hg:GoodP w)(hn:n<0):Calls Tryz.prog 5 #[.int .i64 n] w (GiveB w true):=by
 have HG:=Lib.hid hg;clear hg;go_enter Tryz.func5,Tryz.ntmps5;go_wp2_with fail;refine(fixed11_any _ HG.out).mono ?_;rintro r w1 ⟨rfl,b⟩;have B1:=Lib.hid b;replace HG:=hid_g HG b;clear b;go_wp2_with fail;refine(fixed11_any _ HG.out).mono ?_;rintro r w2 ⟨rfl,b⟩;have B2:=Lib.hid (Below.more B1.out b);replace HG:=hid_g HG b;clear b;go_wp2_with fail;go_ret;exact⟨ret_bool (by first|rfl|simp),B2.out⟩
theorem deep11_hi(n:Int)(w:World)(hg:GoodP w)(h0:¬n<0)(hn:300<n):Calls Tryz.prog 5 #[.int .i64 n] w (GiveB w true):=by
 have HG:=Lib.hid hg;clear hg;go_enter Tryz.func5,Tryz.ntmps5;go_wp2_with fail;refine(fixed11_any _ HG.out).mono ?_;rintro r w1 ⟨rfl,b⟩;have B1:=Lib.hid b;replace HG:=hid_g HG b;clear b;go_wp2_with fail;refine(fixed11_any _ HG.out).mono ?_;rintro r w2 ⟨rfl,b⟩;have B2:=Lib.hid (Below.more B1.out b);replace HG:=hid_g HG b;clear b;go_wp2_with fail;go_ret;exact⟨ret_bool (by first|rfl|simp),B2.out⟩
theorem rep_next(n:Nat)(b:UInt8):(⟨(List.replicate n b).toArray⟩:ByteArray)++⟨#[b]⟩=⟨(List.replicate (n+1) b).toArray⟩:=by
 refine bytes_eq ?_;rw[List.replicate_succ'];simp
theorem rep_nextA(n:Nat)(b:UInt8):(⟨Array.replicate n b⟩:ByteArray)++⟨#[b]⟩=⟨(List.replicate (n+1) b).toArray⟩:=by
 rw[←rep_next]
 congr 2
theorem rep_all(n:Nat):(⟨(List.replicate n 40).toArray⟩:ByteArray)++⟨#[55]⟩++⟨(List.replicate n 41).toArray⟩=⟨(Pz.deepS n).toArray⟩:=by
 refine bytes_eq ?_;unfold Pz.deepS;simp
theorem rep_allA(n:Nat):(⟨Array.replicate n 40⟩:ByteArray)++⟨#[55]⟩++⟨Array.replicate n 41⟩=⟨(Pz.deepS n).toArray⟩:=by
 rw[←rep_all]
 congr 3
theorem deep11_main(n:Nat)(hn:n≤300)(w:World)(hg:GoodP w):Calls Tryz.prog 5 #[.int .i64 (n:Int)] w (GiveB w true):=by
 have HG:=Lib.hid hg;clear hg;go_enter Tryz.func5,Tryz.ntmps5;go_wp2_with fail;refine(fixed11_any _ HG.out).mono ?_;rintro r w1 ⟨rfl,b⟩;have B1:=Lib.hid b;replace HG:=hid_g HG b;clear b;go_wp2_with fail
 go_loopw [3,4,5] (fun sv uv iv wr=>∃k:Nat,k≤n∧iv=.int .i64 k∧sv=.string ⟨(List.replicate k 40).toArray⟩∧uv=.string ⟨(List.replicate k 41).toArray⟩∧wr=w1) (fun _ _ iv _=>n-(intOf iv).toNat)
 case atStart=>exact⟨0,Nat.zero_le _,rfl,rfl,rfl,rfl⟩
 case round =>
  obtain⟨k,hk,rfl,rfl,rfl,rfl⟩:=hrel;by_cases hlt:k<n
  ·have hki:(k:Int)<(n:Int):=by omega
   have e1:=rep_nextA k 40;have e2:=rep_nextA k 41;go_wp2_with fail;go_roundw
   case rel=>exact⟨k+1,by omega,by go_num,by first|rfl|rw[e1],by first|rfl|rw[e2],by first|rfl|trivial⟩
   case measure=>simp[intOf];omega
  ·obtain rfl:k=n:=by omega
   have e3:=rep_allA k;have hlen:=Pz.deepS_len k;by_cases hk2:k≤200
   ·have C:=Lib.hid (give_t (Pz.ps_deep_yes hk2) (by omega) (few_short (by omega)) wr HG.out);go_wp2_with fail
    try rw[e3]
    refine C.out.mono ?_;rintro r w2 ⟨⟨q,c,rfl,hc,hnn,_⟩,b⟩;have hl1:([Tm.sevN]:List Nd).length=1:=rfl;rw[hl1]at hc ⊢;obtain⟨bq,oq,rfl,k0,k1,k2,k3,k4,k5⟩:=nds_rule hnn (k:=0) (x:=Tm.sevN) rfl;have q1:=k1 _ (Below.refl w2.heap.size w2);have q1:w2.cell? ⟨bq,oq+1,none⟩=some (.string ⟨#[55]⟩):=by simpa [Tm.sevN] using q1
    have BB:=Lib.hid (Below.more B1.out b);clear k0 k1 k2 k3 k4 k5 hnn b C;go_wp2_with fail;go_ret;exact⟨ret_bool (by first|rfl|simp),BB.out⟩
   ·have C:=Lib.hid (give_e (Pz.ps_deep_no (by omega) hn) (by omega) (few_short (by omega)) wr HG.out);have hk3:(200:Int)<(k:Int):=by omega
    go_wp2_with fail
    try rw[e3]
    refine C.out.mono ?_;rintro r w2 ⟨⟨q,c,rfl⟩,b⟩;have BB:=Lib.hid (Below.more B1.out b);clear b C;go_wp2_with fail;go_ret;exact⟨ret_bool (by first|rfl|simp),BB.out⟩
theorem deep11_any(n:Int)(w:World)(hg:GoodP w):Calls Tryz.prog 5 #[.int .i64 n] w (GiveB w true):=by
 by_cases h0:n<0
 ·exact deep11_lo n w hg h0
 ·by_cases h1:300<n
  ·exact deep11_hi n w hg h0 h1
  ·obtain⟨m,rfl⟩:∃m:Nat,n=(m:Int):=⟨n.toNat,by omega⟩;exact deep11_main m (by omega) w hg
end Go.Proofs.YtnichceiafandaaGreatDoor
