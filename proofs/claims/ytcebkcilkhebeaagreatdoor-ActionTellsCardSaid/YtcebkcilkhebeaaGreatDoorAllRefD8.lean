/- Own work. -/
import Derived.Test.YtcebkcilkhebeaaGreatDoorAllRefD7M
set_option maxHeartbeats 2000000
set_option maxRecDepth 100000
namespace Go.Proofs.YtcebkcilkhebeaaGreatDoor
open Go.RowKit
theorem rdparse_e_none_nu(s:ByteArray)(w:World)(h0:s.size=0)
  (C1:Hid (∀w,Calls Tryz.prog 49 #[.string s,.int .u8 47] w fun e w'=>e=.returned (.int .i64 (-1))∧w=w'))
  (C2:Hid (∀w,Calls Tryz.prog 49 #[.string s,.int .u8 46] w fun e w'=>e=.returned (.int .i64 (-1))∧w=w'))
  (C3:Hid (∀w,Calls Tryz.prog 50 #[.string s] w fun e w'=>e=.returned (.bool false)∧w=w')) :
  Calls Tryz.prog 27 #[.string s] w (GiveRE w (([],[]),40)):=by
 have hx1:¬(1000:Int)<(s.size:Int):=by omega
 have hx2:¬(0:Int)<(s.size:Int):=by omega
 go_enter Tryz.func27,Tryz.ntmps27;go_wp2_with fail;obtain⟨W,hW,BW,sW,k0,k1,r0,r1,k2,k3⟩:=boxz2 w (.string ⟨#[]⟩) (.string ⟨#[]⟩) (.string ⟨#[]⟩) (.string ⟨#[]⟩) 23 23;rw[hW];clear hW;have b0:=Below.refl W.heap.size W;refine(C1.out _).mono ?_;rintro e w1 ⟨rfl,rfl⟩;go_wp2_with fail;refine(C2.out _).mono ?_;rintro e w1 ⟨rfl,rfl⟩;go_wp2_with fail;refine(C3.out _).mono ?_;rintro e w1 ⟨rfl,rfl⟩;go_wp2_with fail;refine bodyPost_ret (v:=.tuple #[.agg #[.string ⟨#[]⟩,.string ⟨#[]⟩],.int .i64 40]) (by simp[results,Tryz.results27,go_sem, *]) rfl ⟨rfl,?_⟩
 first|exact BW|exact put2 BW (Nat.le_refl _) _ _
theorem rdparse_p_over_nu(s:ByteArray)(w:World)(hs:s.size≤1000)(h0:0<s.size)(hc:¬(s[0].toNat:Int)=45){i:Nat}{k:Int}(hi:i<s.size){nu de:ByteArray}(hnu:s.extract 0 i=nu)(hde:s.extract (i+1) s.size=de)
  (C1:Hid (∀w,Calls Tryz.prog 49 #[.string s,.int .u8 47] w fun e w'=>e=.returned (.int .i64 (i:Int))∧w=w'))
  (C2:Hid (∀w,Calls Tryz.prog 49 #[.string s,.int .u8 46] w fun e w'=>e=.returned (.int .i64 k)∧w=w'))
  (C3:Hid (∀w,Calls Tryz.prog 50 #[.string nu] w fun e w'=>e=.returned (.bool false)∧w=w')) :
  Calls Tryz.prog 27 #[.string s] w (GiveRE w (([],[]),40)):=by
 have hx1:¬(1000:Int)<(s.size:Int):=by omega
 have hx2:(0:Int)<(s.size:Int):=by omega
 have hx3:(0:Int)≤(i:Int):=by omega
 go_enter Tryz.func27,Tryz.ntmps27;go_wp2_with fail;obtain⟨W,hW,BW,sW,k0,k1,r0,r1,k2,k3⟩:=boxz2 w (.string ⟨#[]⟩) (.string ⟨#[]⟩) (.string ⟨#[]⟩) (.string ⟨#[]⟩) 23 23;rw[hW];clear hW;have b0:=Below.refl W.heap.size W;refine(C1.out _).mono ?_;rintro e w1 ⟨rfl,rfl⟩;go_wp2_with fail;refine(C2.out _).mono ?_;rintro e w1 ⟨rfl,rfl⟩;go_wp2_with fail;refine(C3.out _).mono ?_;rintro e w1 ⟨rfl,rfl⟩;go_wp2_with fail;refine bodyPost_ret (v:=.tuple #[.agg #[.string ⟨#[]⟩,.string ⟨#[]⟩],.int .i64 40]) (by simp[results,Tryz.results27,go_sem, *]) rfl ⟨rfl,?_⟩
 first|exact BW|exact put2 BW (Nat.le_refl _) _ _
theorem rdparse_p_over_de(s:ByteArray)(w:World)(hs:s.size≤1000)(h0:0<s.size)(hc:¬(s[0].toNat:Int)=45){i:Nat}{k:Int}(hi:i<s.size){nu de:ByteArray}(hnu:s.extract 0 i=nu)(hde:s.extract (i+1) s.size=de)
  (C1:Hid (∀w,Calls Tryz.prog 49 #[.string s,.int .u8 47] w fun e w'=>e=.returned (.int .i64 (i:Int))∧w=w'))
  (C2:Hid (∀w,Calls Tryz.prog 49 #[.string s,.int .u8 46] w fun e w'=>e=.returned (.int .i64 k)∧w=w'))
  (C3:Hid (∀w,Calls Tryz.prog 50 #[.string nu] w fun e w'=>e=.returned (.bool true)∧w=w'))
  (C4:Hid (∀w,Calls Tryz.prog 50 #[.string de] w fun e w'=>e=.returned (.bool false)∧w=w')) :
  Calls Tryz.prog 27 #[.string s] w (GiveRE w (([],[]),40)):=by
 have hx1:¬(1000:Int)<(s.size:Int):=by omega
 have hx2:(0:Int)<(s.size:Int):=by omega
 have hx3:(0:Int)≤(i:Int):=by omega
 go_enter Tryz.func27,Tryz.ntmps27;go_wp2_with fail;obtain⟨W,hW,BW,sW,k0,k1,r0,r1,k2,k3⟩:=boxz2 w (.string ⟨#[]⟩) (.string ⟨#[]⟩) (.string ⟨#[]⟩) (.string ⟨#[]⟩) 23 23;rw[hW];clear hW;have b0:=Below.refl W.heap.size W;refine(C1.out _).mono ?_;rintro e w1 ⟨rfl,rfl⟩;go_wp2_with fail;refine(C2.out _).mono ?_;rintro e w1 ⟨rfl,rfl⟩;go_wp2_with fail;refine(C3.out _).mono ?_;rintro e w1 ⟨rfl,rfl⟩;go_wp2_with fail;refine(C4.out _).mono ?_;rintro e w1 ⟨rfl,rfl⟩;go_wp2_with fail;refine bodyPost_ret (v:=.tuple #[.agg #[.string ⟨#[]⟩,.string ⟨#[]⟩],.int .i64 40]) (by simp[results,Tryz.results27,go_sem, *]) rfl ⟨rfl,?_⟩
 first|exact BW|exact put2 BW (Nat.le_refl _) _ _
theorem rdparse_p_over_no(s:ByteArray)(w:World)(hs:s.size≤1000)(h0:0<s.size)(hc:¬(s[0].toNat:Int)=45){i:Nat}{k:Int}(hi:i<s.size){nu de:ByteArray}(hnu:s.extract 0 i=nu)(hde:s.extract (i+1) s.size=de){np dp:ByteArray}{x y:List UInt8}
  (C1:Hid (∀w,Calls Tryz.prog 49 #[.string s,.int .u8 47] w fun e w'=>e=.returned (.int .i64 (i:Int))∧w=w'))
  (C2:Hid (∀w,Calls Tryz.prog 49 #[.string s,.int .u8 46] w fun e w'=>e=.returned (.int .i64 k)∧w=w'))
  (C3:Hid (∀w,Calls Tryz.prog 50 #[.string nu] w fun e w'=>e=.returned (.bool true)∧w=w'))
  (C4:Hid (∀w,Calls Tryz.prog 50 #[.string de] w fun e w'=>e=.returned (.bool true)∧w=w'))
  (C5:Hid (∀w,Calls Tryz.prog 52 #[.string nu] w fun e w'=>e=.returned (.string np)∧w=w'))
  (C6:Hid (∀w,Calls Tryz.prog 52 #[.string de] w fun e w'=>e=.returned (.string dp)∧w=w'))
  (C7:Hid (∀w,Calls Tryz.prog 42 #[.string np,.string dp] w (GiveRB w ((x,y),false)))) :
  Calls Tryz.prog 27 #[.string s] w (GiveRE w (([],[]),40)):=by
 have hx1:¬(1000:Int)<(s.size:Int):=by omega
 have hx2:(0:Int)<(s.size:Int):=by omega
 have hx3:(0:Int)≤(i:Int):=by omega
 go_enter Tryz.func27,Tryz.ntmps27;go_wp2_with fail;obtain⟨W,hW,BW,sW,k0,k1,r0,r1,k2,k3⟩:=boxz2 w (.string ⟨#[]⟩) (.string ⟨#[]⟩) (.string ⟨#[]⟩) (.string ⟨#[]⟩) 23 23;rw[hW];clear hW;have b0:=Below.refl W.heap.size W;refine(C1.out _).mono ?_;rintro e w1 ⟨rfl,rfl⟩;go_wp2_with fail;refine(C2.out _).mono ?_;rintro e w1 ⟨rfl,rfl⟩;go_wp2_with fail;refine(C3.out _).mono ?_;rintro e w1 ⟨rfl,rfl⟩;go_wp2_with fail;refine(C4.out _).mono ?_;rintro e w1 ⟨rfl,rfl⟩;go_wp2_with fail;refine(C5.out _).mono ?_;rintro e w1 ⟨rfl,rfl⟩;go_wp2_with fail;refine(C6.out _).mono ?_;rintro e w1 ⟨rfl,rfl⟩;go_wp2_with fail;refine(C7.out _).mono ?_;rintro e w9 ⟨rfl,b⟩;have b1:=Below.more b0 b;clear b;have ba:=fun x=>Below.alloc b1 (Below.size b1) x;go_wp2_with fail;refine bodyPost_ret (v:=.tuple #[.agg #[.string ⟨#[]⟩,.string ⟨#[]⟩],.int .i64 40]) (by simp[results,Tryz.results27,go_sem, *]) rfl ⟨rfl,?_⟩;exact put2 (BW.trans ((ba _).mono (by omega))) (Nat.le_refl _) _ _
theorem rdparse_p_over_yes(s:ByteArray)(w:World)(hs:s.size≤1000)(h0:0<s.size)(hc:¬(s[0].toNat:Int)=45){i:Nat}{k:Int}(hi:i<s.size){nu de:ByteArray}(hnu:s.extract 0 i=nu)(hde:s.extract (i+1) s.size=de){np dp:ByteArray}{x y:List UInt8}
  (C1:Hid (∀w,Calls Tryz.prog 49 #[.string s,.int .u8 47] w fun e w'=>e=.returned (.int .i64 (i:Int))∧w=w'))
  (C2:Hid (∀w,Calls Tryz.prog 49 #[.string s,.int .u8 46] w fun e w'=>e=.returned (.int .i64 k)∧w=w'))
  (C3:Hid (∀w,Calls Tryz.prog 50 #[.string nu] w fun e w'=>e=.returned (.bool true)∧w=w'))
  (C4:Hid (∀w,Calls Tryz.prog 50 #[.string de] w fun e w'=>e=.returned (.bool true)∧w=w'))
  (C5:Hid (∀w,Calls Tryz.prog 52 #[.string nu] w fun e w'=>e=.returned (.string np)∧w=w'))
  (C6:Hid (∀w,Calls Tryz.prog 52 #[.string de] w fun e w'=>e=.returned (.string dp)∧w=w'))
  (C7:Hid (∀w,Calls Tryz.prog 42 #[.string np,.string dp] w (GiveRB w ((x,y),true)))) :
  Calls Tryz.prog 27 #[.string s] w (GiveRE w ((x,y),0)):=by
 have hx1:¬(1000:Int)<(s.size:Int):=by omega
 have hx2:(0:Int)<(s.size:Int):=by omega
 have hx3:(0:Int)≤(i:Int):=by omega
 go_enter Tryz.func27,Tryz.ntmps27;go_wp2_with fail;obtain⟨W,hW,BW,sW,k0,k1,r0,r1,k2,k3⟩:=boxz2 w (.string ⟨#[]⟩) (.string ⟨#[]⟩) (.string ⟨#[]⟩) (.string ⟨#[]⟩) 23 23;rw[hW];clear hW;have b0:=Below.refl W.heap.size W;refine(C1.out _).mono ?_;rintro e w1 ⟨rfl,rfl⟩;go_wp2_with fail;refine(C2.out _).mono ?_;rintro e w1 ⟨rfl,rfl⟩;go_wp2_with fail;refine(C3.out _).mono ?_;rintro e w1 ⟨rfl,rfl⟩;go_wp2_with fail;refine(C4.out _).mono ?_;rintro e w1 ⟨rfl,rfl⟩;go_wp2_with fail;refine(C5.out _).mono ?_;rintro e w1 ⟨rfl,rfl⟩;go_wp2_with fail;refine(C6.out _).mono ?_;rintro e w1 ⟨rfl,rfl⟩;go_wp2_with fail;refine(C7.out _).mono ?_;rintro e w9 ⟨rfl,b⟩;have b1:=Below.more b0 b;clear b;have ba:=fun x=>Below.alloc b1 (Below.size b1) x;go_wp2_with fail;refine bodyPost_ret (v:=.tuple #[.agg #[.string ⟨x.toArray⟩,.string ⟨y.toArray⟩],.int .i64 0]) (by simp[results,Tryz.results27,go_sem, *]) rfl ⟨rfl,?_⟩;exact put2 (BW.trans ((ba _).mono (by omega))) (Nat.le_refl _) _ _
theorem rdparse_p_none_nu(s:ByteArray)(w:World)(hs:s.size≤1000)(h0:0<s.size)(hc:¬(s[0].toNat:Int)=45)
  (C1:Hid (∀w,Calls Tryz.prog 49 #[.string s,.int .u8 47] w fun e w'=>e=.returned (.int .i64 (-1))∧w=w'))
  (C2:Hid (∀w,Calls Tryz.prog 49 #[.string s,.int .u8 46] w fun e w'=>e=.returned (.int .i64 (-1))∧w=w'))
  (C3:Hid (∀w,Calls Tryz.prog 50 #[.string s] w fun e w'=>e=.returned (.bool false)∧w=w')) :
  Calls Tryz.prog 27 #[.string s] w (GiveRE w (([],[]),40)):=by
 have hx1:¬(1000:Int)<(s.size:Int):=by omega
 have hx2:(0:Int)<(s.size:Int):=by omega
 go_enter Tryz.func27,Tryz.ntmps27;go_wp2_with fail;obtain⟨W,hW,BW,sW,k0,k1,r0,r1,k2,k3⟩:=boxz2 w (.string ⟨#[]⟩) (.string ⟨#[]⟩) (.string ⟨#[]⟩) (.string ⟨#[]⟩) 23 23;rw[hW];clear hW;have b0:=Below.refl W.heap.size W;refine(C1.out _).mono ?_;rintro e w1 ⟨rfl,rfl⟩;go_wp2_with fail;refine(C2.out _).mono ?_;rintro e w1 ⟨rfl,rfl⟩;go_wp2_with fail;refine(C3.out _).mono ?_;rintro e w1 ⟨rfl,rfl⟩;go_wp2_with fail;refine bodyPost_ret (v:=.tuple #[.agg #[.string ⟨#[]⟩,.string ⟨#[]⟩],.int .i64 40]) (by simp[results,Tryz.results27,go_sem, *]) rfl ⟨rfl,?_⟩
 first|exact BW|exact put2 BW (Nat.le_refl _) _ _
theorem rdparse_p_none_yes(s:ByteArray)(w:World)(hs:s.size≤1000)(h0:0<s.size)(hc:¬(s[0].toNat:Int)=45){np dp:ByteArray}{x y:List UInt8}
  (C1:Hid (∀w,Calls Tryz.prog 49 #[.string s,.int .u8 47] w fun e w'=>e=.returned (.int .i64 (-1))∧w=w'))
  (C2:Hid (∀w,Calls Tryz.prog 49 #[.string s,.int .u8 46] w fun e w'=>e=.returned (.int .i64 (-1))∧w=w'))
  (C3:Hid (∀w,Calls Tryz.prog 50 #[.string s] w fun e w'=>e=.returned (.bool true)∧w=w'))
  (C4:Hid (∀w,Calls Tryz.prog 50 #[.string ⟨#[49]⟩] w fun e w'=>e=.returned (.bool true)∧w=w'))
  (C5:Hid (∀w,Calls Tryz.prog 52 #[.string s] w fun e w'=>e=.returned (.string np)∧w=w'))
  (C6:Hid (∀w,Calls Tryz.prog 52 #[.string ⟨#[49]⟩] w fun e w'=>e=.returned (.string dp)∧w=w'))
  (C7:Hid (∀w,Calls Tryz.prog 42 #[.string np,.string dp] w (GiveRB w ((x,y),true)))) :
  Calls Tryz.prog 27 #[.string s] w (GiveRE w ((x,y),0)):=by
 have hx1:¬(1000:Int)<(s.size:Int):=by omega
 have hx2:(0:Int)<(s.size:Int):=by omega
 go_enter Tryz.func27,Tryz.ntmps27;go_wp2_with fail;obtain⟨W,hW,BW,sW,k0,k1,r0,r1,k2,k3⟩:=boxz2 w (.string ⟨#[]⟩) (.string ⟨#[]⟩) (.string ⟨#[]⟩) (.string ⟨#[]⟩) 23 23;rw[hW];clear hW;have b0:=Below.refl W.heap.size W;refine(C1.out _).mono ?_;rintro e w1 ⟨rfl,rfl⟩;go_wp2_with fail;refine(C2.out _).mono ?_;rintro e w1 ⟨rfl,rfl⟩;go_wp2_with fail;refine(C3.out _).mono ?_;rintro e w1 ⟨rfl,rfl⟩;go_wp2_with fail;refine(C4.out _).mono ?_;rintro e w1 ⟨rfl,rfl⟩;go_wp2_with fail;refine(C5.out _).mono ?_;rintro e w1 ⟨rfl,rfl⟩;go_wp2_with fail;refine(C6.out _).mono ?_;rintro e w1 ⟨rfl,rfl⟩;go_wp2_with fail;refine(C7.out _).mono ?_;rintro e w9 ⟨rfl,b⟩;have b1:=Below.more b0 b;clear b;have ba:=fun x=>Below.alloc b1 (Below.size b1) x;go_wp2_with fail;refine bodyPost_ret (v:=.tuple #[.agg #[.string ⟨x.toArray⟩,.string ⟨y.toArray⟩],.int .i64 0]) (by simp[results,Tryz.results27,go_sem, *]) rfl ⟨rfl,?_⟩;exact put2 (BW.trans ((ba _).mono (by omega))) (Nat.le_refl _) _ _
theorem rdparse_p_point_lo(s:ByteArray)(w:World)(hs:s.size≤1000)(h0:0<s.size)(hc:¬(s[0].toNat:Int)=45){k:Nat}(hk:k<s.size){lo:ByteArray}(hlo:s.extract 0 k=lo)
  (C1:Hid (∀w,Calls Tryz.prog 49 #[.string s,.int .u8 47] w fun e w'=>e=.returned (.int .i64 (-1))∧w=w'))
  (C2:Hid (∀w,Calls Tryz.prog 49 #[.string s,.int .u8 46] w fun e w'=>e=.returned (.int .i64 (k:Int))∧w=w'))
  (C3:Hid (∀w,Calls Tryz.prog 50 #[.string lo] w fun e w'=>e=.returned (.bool false)∧w=w')) :
  Calls Tryz.prog 27 #[.string s] w (GiveRE w (([],[]),40)):=by
 have hx1:¬(1000:Int)<(s.size:Int):=by omega
 have hx2:(0:Int)<(s.size:Int):=by omega
 have hx3:(0:Int)≤(k:Int):=by omega
 go_enter Tryz.func27,Tryz.ntmps27;go_wp2_with fail;obtain⟨W,hW,BW,sW,k0,k1,r0,r1,k2,k3⟩:=boxz2 w (.string ⟨#[]⟩) (.string ⟨#[]⟩) (.string ⟨#[]⟩) (.string ⟨#[]⟩) 23 23;rw[hW];clear hW;have b0:=Below.refl W.heap.size W;refine(C1.out _).mono ?_;rintro e w1 ⟨rfl,rfl⟩;go_wp2_with fail;refine(C2.out _).mono ?_;rintro e w1 ⟨rfl,rfl⟩;go_wp2_with fail;refine(C3.out _).mono ?_;rintro e w1 ⟨rfl,rfl⟩;go_wp2_with fail;refine bodyPost_ret (v:=.tuple #[.agg #[.string ⟨#[]⟩,.string ⟨#[]⟩],.int .i64 40]) (by simp[results,Tryz.results27,go_sem, *]) rfl ⟨rfl,?_⟩
 first|exact BW|exact put2 BW (Nat.le_refl _) _ _
theorem rdparse_p_point_hi(s:ByteArray)(w:World)(hs:s.size≤1000)(h0:0<s.size)(hc:¬(s[0].toNat:Int)=45){k:Nat}(hk:k<s.size){lo hi:ByteArray}(hlo:s.extract 0 k=lo)(hhi:s.extract (k+1) s.size=hi)
  (C1:Hid (∀w,Calls Tryz.prog 49 #[.string s,.int .u8 47] w fun e w'=>e=.returned (.int .i64 (-1))∧w=w'))
  (C2:Hid (∀w,Calls Tryz.prog 49 #[.string s,.int .u8 46] w fun e w'=>e=.returned (.int .i64 (k:Int))∧w=w'))
  (C3:Hid (∀w,Calls Tryz.prog 50 #[.string lo] w fun e w'=>e=.returned (.bool true)∧w=w'))
  (C4:Hid (∀w,Calls Tryz.prog 50 #[.string hi] w fun e w'=>e=.returned (.bool false)∧w=w')) :
  Calls Tryz.prog 27 #[.string s] w (GiveRE w (([],[]),40)):=by
 have hx1:¬(1000:Int)<(s.size:Int):=by omega
 have hx2:(0:Int)<(s.size:Int):=by omega
 have hx3:(0:Int)≤(k:Int):=by omega
 go_enter Tryz.func27,Tryz.ntmps27;go_wp2_with fail;obtain⟨W,hW,BW,sW,k0,k1,r0,r1,k2,k3⟩:=boxz2 w (.string ⟨#[]⟩) (.string ⟨#[]⟩) (.string ⟨#[]⟩) (.string ⟨#[]⟩) 23 23;rw[hW];clear hW;have b0:=Below.refl W.heap.size W;refine(C1.out _).mono ?_;rintro e w1 ⟨rfl,rfl⟩;go_wp2_with fail;refine(C2.out _).mono ?_;rintro e w1 ⟨rfl,rfl⟩;go_wp2_with fail;refine(C3.out _).mono ?_;rintro e w1 ⟨rfl,rfl⟩;go_wp2_with fail;refine(C4.out _).mono ?_;rintro e w1 ⟨rfl,rfl⟩;go_wp2_with fail;refine bodyPost_ret (v:=.tuple #[.agg #[.string ⟨#[]⟩,.string ⟨#[]⟩],.int .i64 40]) (by simp[results,Tryz.results27,go_sem, *]) rfl ⟨rfl,?_⟩
 first|exact BW|exact put2 BW (Nat.le_refl _) _ _
theorem rdparse_p_point_yes(s:ByteArray)(w:World)(hs:s.size≤1000)(h0:0<s.size)(hc:¬(s[0].toNat:Int)=45){k:Nat}(hk:k<s.size){lo hi:ByteArray}(hlo:s.extract 0 k=lo)(hhi:s.extract (k+1) s.size=hi){z:ByteArray}(hl:lo.size+hi.size≤1000)(hz:z.size≤1000){np dp:ByteArray}{x y:List UInt8}
  (C1:Hid (∀w,Calls Tryz.prog 49 #[.string s,.int .u8 47] w fun e w'=>e=.returned (.int .i64 (-1))∧w=w'))
  (C2:Hid (∀w,Calls Tryz.prog 49 #[.string s,.int .u8 46] w fun e w'=>e=.returned (.int .i64 (k:Int))∧w=w'))
  (C3:Hid (∀w,Calls Tryz.prog 50 #[.string lo] w fun e w'=>e=.returned (.bool true)∧w=w'))
  (C4:Hid (∀w,Calls Tryz.prog 50 #[.string hi] w fun e w'=>e=.returned (.bool true)∧w=w'))
  (C5:Hid (∀w,Calls Tryz.prog 51 #[.int .i64 ((s.size:Int)-(k:Int)-1)] w fun e w'=>e=.returned (.string z)∧w=w'))
  (C6:Hid (∀w,Calls Tryz.prog 50 #[.string (lo++hi)] w fun e w'=>e=.returned (.bool true)∧w=w'))
  (C7:Hid (∀w,Calls Tryz.prog 50 #[.string ((⟨#[49]⟩:ByteArray)++z)] w fun e w'=>e=.returned (.bool true)∧w=w'))
  (C8:Hid (∀w,Calls Tryz.prog 52 #[.string (lo++hi)] w fun e w'=>e=.returned (.string np)∧w=w'))
  (C9:Hid (∀w,Calls Tryz.prog 52 #[.string ((⟨#[49]⟩:ByteArray)++z)] w fun e w'=>e=.returned (.string dp)∧w=w'))
  (C10:Hid (∀w,Calls Tryz.prog 42 #[.string np,.string dp] w (GiveRB w ((x,y),true)))) :
  Calls Tryz.prog 27 #[.string s] w (GiveRE w ((x,y),0)):=by
 have hx1:¬(1000:Int)<(s.size:Int):=by omega
 have hx2:(0:Int)<(s.size:Int):=by omega
 have hx3:(0:Int)≤(k:Int):=by omega
 have hx4:¬9223372036854775807<lo.size+hi.size:=by omega
 have hx5:¬9223372036854775807<1+z.size:=by omega
 go_enter Tryz.func27,Tryz.ntmps27;go_wp2_with fail;obtain⟨W,hW,BW,sW,k0,k1,r0,r1,k2,k3⟩:=boxz2 w (.string ⟨#[]⟩) (.string ⟨#[]⟩) (.string ⟨#[]⟩) (.string ⟨#[]⟩) 23 23;rw[hW];clear hW;have b0:=Below.refl W.heap.size W;refine(C1.out _).mono ?_;rintro e w1 ⟨rfl,rfl⟩;go_wp2_with fail;refine(C2.out _).mono ?_;rintro e w1 ⟨rfl,rfl⟩;go_wp2_with fail;refine(C3.out _).mono ?_;rintro e w1 ⟨rfl,rfl⟩;go_wp2_with fail;refine(C4.out _).mono ?_;rintro e w1 ⟨rfl,rfl⟩;go_wp2_with fail
 go_quiet (fail)
 go_wp2_with fail;refine(C5.out _).mono ?_;rintro e w1 ⟨rfl,rfl⟩;go_wp2_with fail;refine(C6.out _).mono ?_;rintro e w1 ⟨rfl,rfl⟩;go_wp2_with fail;refine(C7.out _).mono ?_;rintro e w1 ⟨rfl,rfl⟩;go_wp2_with fail;refine(C8.out _).mono ?_;rintro e w1 ⟨rfl,rfl⟩;go_wp2_with fail;refine(C9.out _).mono ?_;rintro e w1 ⟨rfl,rfl⟩;go_wp2_with fail;refine(C10.out _).mono ?_;rintro e w9 ⟨rfl,b⟩;have b1:=Below.more (Below.drewN b0 _) b;clear b;have ba:=fun x=>Below.alloc b1 (Below.size b1) x;go_wp2_with fail;refine bodyPost_ret (v:=.tuple #[.agg #[.string ⟨x.toArray⟩,.string ⟨y.toArray⟩],.int .i64 0]) (by simp[results,Tryz.results27,go_sem, *]) rfl ⟨rfl,?_⟩;exact put2 (BW.trans ((ba _).mono (by omega))) (Nat.le_refl _) _ _
theorem rdparse_m_over_nu(s:ByteArray)(w:World)(hs:s.size≤1000)(h0:0<s.size)(hc:(s[0].toNat:Int)=45){T:ByteArray}(hT:s.extract 1 s.size=T)(hTs:T.size≤1000){i:Nat}{k:Int}(hi:i<T.size){nu de:ByteArray}(hnu:T.extract 0 i=nu)(hde:T.extract (i+1) T.size=de)
  (C1:Hid (∀w,Calls Tryz.prog 49 #[.string T,.int .u8 47] w fun e w'=>e=.returned (.int .i64 (i:Int))∧w=w'))
  (C2:Hid (∀w,Calls Tryz.prog 49 #[.string T,.int .u8 46] w fun e w'=>e=.returned (.int .i64 k)∧w=w'))
  (C3:Hid (∀w,Calls Tryz.prog 50 #[.string nu] w fun e w'=>e=.returned (.bool false)∧w=w')) :
  Calls Tryz.prog 27 #[.string s] w (GiveRE w (([],[]),40)):=by
 have hx1:¬(1000:Int)<(s.size:Int):=by omega
 have hx2:(0:Int)<(s.size:Int):=by omega
 have hx3:(0:Int)≤(i:Int):=by omega
 go_enter Tryz.func27,Tryz.ntmps27;go_wp2_with fail;obtain⟨W,hW,BW,sW,k0,k1,r0,r1,k2,k3⟩:=boxz2 w (.string ⟨#[]⟩) (.string ⟨#[]⟩) (.string ⟨#[]⟩) (.string ⟨#[]⟩) 23 23;rw[hW];clear hW;have b0:=Below.refl W.heap.size W;refine(C1.out _).mono ?_;rintro e w1 ⟨rfl,rfl⟩;go_wp2_with fail;refine(C2.out _).mono ?_;rintro e w1 ⟨rfl,rfl⟩;go_wp2_with fail;refine(C3.out _).mono ?_;rintro e w1 ⟨rfl,rfl⟩;go_wp2_with fail;refine bodyPost_ret (v:=.tuple #[.agg #[.string ⟨#[]⟩,.string ⟨#[]⟩],.int .i64 40]) (by simp[results,Tryz.results27,go_sem, *]) rfl ⟨rfl,?_⟩
 first|exact BW|exact put2 BW (Nat.le_refl _) _ _
theorem rdparse_m_over_de(s:ByteArray)(w:World)(hs:s.size≤1000)(h0:0<s.size)(hc:(s[0].toNat:Int)=45){T:ByteArray}(hT:s.extract 1 s.size=T)(hTs:T.size≤1000){i:Nat}{k:Int}(hi:i<T.size){nu de:ByteArray}(hnu:T.extract 0 i=nu)(hde:T.extract (i+1) T.size=de)
  (C1:Hid (∀w,Calls Tryz.prog 49 #[.string T,.int .u8 47] w fun e w'=>e=.returned (.int .i64 (i:Int))∧w=w'))
  (C2:Hid (∀w,Calls Tryz.prog 49 #[.string T,.int .u8 46] w fun e w'=>e=.returned (.int .i64 k)∧w=w'))
  (C3:Hid (∀w,Calls Tryz.prog 50 #[.string nu] w fun e w'=>e=.returned (.bool true)∧w=w'))
  (C4:Hid (∀w,Calls Tryz.prog 50 #[.string de] w fun e w'=>e=.returned (.bool false)∧w=w')) :
  Calls Tryz.prog 27 #[.string s] w (GiveRE w (([],[]),40)):=by
 have hx1:¬(1000:Int)<(s.size:Int):=by omega
 have hx2:(0:Int)<(s.size:Int):=by omega
 have hx3:(0:Int)≤(i:Int):=by omega
 go_enter Tryz.func27,Tryz.ntmps27;go_wp2_with fail;obtain⟨W,hW,BW,sW,k0,k1,r0,r1,k2,k3⟩:=boxz2 w (.string ⟨#[]⟩) (.string ⟨#[]⟩) (.string ⟨#[]⟩) (.string ⟨#[]⟩) 23 23;rw[hW];clear hW;have b0:=Below.refl W.heap.size W;refine(C1.out _).mono ?_;rintro e w1 ⟨rfl,rfl⟩;go_wp2_with fail;refine(C2.out _).mono ?_;rintro e w1 ⟨rfl,rfl⟩;go_wp2_with fail;refine(C3.out _).mono ?_;rintro e w1 ⟨rfl,rfl⟩;go_wp2_with fail;refine(C4.out _).mono ?_;rintro e w1 ⟨rfl,rfl⟩;go_wp2_with fail;refine bodyPost_ret (v:=.tuple #[.agg #[.string ⟨#[]⟩,.string ⟨#[]⟩],.int .i64 40]) (by simp[results,Tryz.results27,go_sem, *]) rfl ⟨rfl,?_⟩
 first|exact BW|exact put2 BW (Nat.le_refl _) _ _
theorem rdparse_m_over_no(s:ByteArray)(w:World)(hs:s.size≤1000)(h0:0<s.size)(hc:(s[0].toNat:Int)=45){T:ByteArray}(hT:s.extract 1 s.size=T)(hTs:T.size≤1000){i:Nat}{k:Int}(hi:i<T.size){nu de:ByteArray}(hnu:T.extract 0 i=nu)(hde:T.extract (i+1) T.size=de){np dp:ByteArray}{x y:List UInt8}{ng:ByteArray}
  (C1:Hid (∀w,Calls Tryz.prog 49 #[.string T,.int .u8 47] w fun e w'=>e=.returned (.int .i64 (i:Int))∧w=w'))
  (C2:Hid (∀w,Calls Tryz.prog 49 #[.string T,.int .u8 46] w fun e w'=>e=.returned (.int .i64 k)∧w=w'))
  (C3:Hid (∀w,Calls Tryz.prog 50 #[.string nu] w fun e w'=>e=.returned (.bool true)∧w=w'))
  (C4:Hid (∀w,Calls Tryz.prog 50 #[.string de] w fun e w'=>e=.returned (.bool true)∧w=w'))
  (C5:Hid (∀w,Calls Tryz.prog 52 #[.string nu] w fun e w'=>e=.returned (.string np)∧w=w'))
  (C6:Hid (∀w,Calls Tryz.prog 53 #[.string np] w fun e w'=>e=.returned (.string ng)∧w=w'))
  (C7:Hid (∀w,Calls Tryz.prog 52 #[.string de] w fun e w'=>e=.returned (.string dp)∧w=w'))
  (C8:Hid (∀w,Calls Tryz.prog 42 #[.string ng,.string dp] w (GiveRB w ((x,y),false)))) :
  Calls Tryz.prog 27 #[.string s] w (GiveRE w (([],[]),40)):=by
 have hx1:¬(1000:Int)<(s.size:Int):=by omega
 have hx2:(0:Int)<(s.size:Int):=by omega
 have hx3:(0:Int)≤(i:Int):=by omega
 go_enter Tryz.func27,Tryz.ntmps27;go_wp2_with fail;obtain⟨W,hW,BW,sW,k0,k1,r0,r1,k2,k3⟩:=boxz2 w (.string ⟨#[]⟩) (.string ⟨#[]⟩) (.string ⟨#[]⟩) (.string ⟨#[]⟩) 23 23;rw[hW];clear hW;have b0:=Below.refl W.heap.size W;refine(C1.out _).mono ?_;rintro e w1 ⟨rfl,rfl⟩;go_wp2_with fail;refine(C2.out _).mono ?_;rintro e w1 ⟨rfl,rfl⟩;go_wp2_with fail;refine(C3.out _).mono ?_;rintro e w1 ⟨rfl,rfl⟩;go_wp2_with fail;refine(C4.out _).mono ?_;rintro e w1 ⟨rfl,rfl⟩;go_wp2_with fail;refine(C5.out _).mono ?_;rintro e w1 ⟨rfl,rfl⟩;go_wp2_with fail;refine(C6.out _).mono ?_;rintro e w1 ⟨rfl,rfl⟩;go_wp2_with fail;refine(C7.out _).mono ?_;rintro e w1 ⟨rfl,rfl⟩;go_wp2_with fail;refine(C8.out _).mono ?_;rintro e w9 ⟨rfl,b⟩;have b1:=Below.more b0 b;clear b;have ba:=fun x=>Below.alloc b1 (Below.size b1) x;go_wp2_with fail;refine bodyPost_ret (v:=.tuple #[.agg #[.string ⟨#[]⟩,.string ⟨#[]⟩],.int .i64 40]) (by simp[results,Tryz.results27,go_sem, *]) rfl ⟨rfl,?_⟩;exact put2 (BW.trans ((ba _).mono (by omega))) (Nat.le_refl _) _ _
theorem rdparse_m_over_yes(s:ByteArray)(w:World)(hs:s.size≤1000)(h0:0<s.size)(hc:(s[0].toNat:Int)=45){T:ByteArray}(hT:s.extract 1 s.size=T)(hTs:T.size≤1000){i:Nat}{k:Int}(hi:i<T.size){nu de:ByteArray}(hnu:T.extract 0 i=nu)(hde:T.extract (i+1) T.size=de){np dp:ByteArray}{x y:List UInt8}{ng:ByteArray}
  (C1:Hid (∀w,Calls Tryz.prog 49 #[.string T,.int .u8 47] w fun e w'=>e=.returned (.int .i64 (i:Int))∧w=w'))
  (C2:Hid (∀w,Calls Tryz.prog 49 #[.string T,.int .u8 46] w fun e w'=>e=.returned (.int .i64 k)∧w=w'))
  (C3:Hid (∀w,Calls Tryz.prog 50 #[.string nu] w fun e w'=>e=.returned (.bool true)∧w=w'))
  (C4:Hid (∀w,Calls Tryz.prog 50 #[.string de] w fun e w'=>e=.returned (.bool true)∧w=w'))
  (C5:Hid (∀w,Calls Tryz.prog 52 #[.string nu] w fun e w'=>e=.returned (.string np)∧w=w'))
  (C6:Hid (∀w,Calls Tryz.prog 53 #[.string np] w fun e w'=>e=.returned (.string ng)∧w=w'))
  (C7:Hid (∀w,Calls Tryz.prog 52 #[.string de] w fun e w'=>e=.returned (.string dp)∧w=w'))
  (C8:Hid (∀w,Calls Tryz.prog 42 #[.string ng,.string dp] w (GiveRB w ((x,y),true)))) :
  Calls Tryz.prog 27 #[.string s] w (GiveRE w ((x,y),0)):=by
 have hx1:¬(1000:Int)<(s.size:Int):=by omega
 have hx2:(0:Int)<(s.size:Int):=by omega
 have hx3:(0:Int)≤(i:Int):=by omega
 go_enter Tryz.func27,Tryz.ntmps27;go_wp2_with fail;obtain⟨W,hW,BW,sW,k0,k1,r0,r1,k2,k3⟩:=boxz2 w (.string ⟨#[]⟩) (.string ⟨#[]⟩) (.string ⟨#[]⟩) (.string ⟨#[]⟩) 23 23;rw[hW];clear hW;have b0:=Below.refl W.heap.size W;refine(C1.out _).mono ?_;rintro e w1 ⟨rfl,rfl⟩;go_wp2_with fail;refine(C2.out _).mono ?_;rintro e w1 ⟨rfl,rfl⟩;go_wp2_with fail;refine(C3.out _).mono ?_;rintro e w1 ⟨rfl,rfl⟩;go_wp2_with fail;refine(C4.out _).mono ?_;rintro e w1 ⟨rfl,rfl⟩;go_wp2_with fail;refine(C5.out _).mono ?_;rintro e w1 ⟨rfl,rfl⟩;go_wp2_with fail;refine(C6.out _).mono ?_;rintro e w1 ⟨rfl,rfl⟩;go_wp2_with fail;refine(C7.out _).mono ?_;rintro e w1 ⟨rfl,rfl⟩;go_wp2_with fail;refine(C8.out _).mono ?_;rintro e w9 ⟨rfl,b⟩;have b1:=Below.more b0 b;clear b;have ba:=fun x=>Below.alloc b1 (Below.size b1) x;go_wp2_with fail;refine bodyPost_ret (v:=.tuple #[.agg #[.string ⟨x.toArray⟩,.string ⟨y.toArray⟩],.int .i64 0]) (by simp[results,Tryz.results27,go_sem, *]) rfl ⟨rfl,?_⟩;exact put2 (BW.trans ((ba _).mono (by omega))) (Nat.le_refl _) _ _
theorem rdparse_m_none_nu(s:ByteArray)(w:World)(hs:s.size≤1000)(h0:0<s.size)(hc:(s[0].toNat:Int)=45){T:ByteArray}(hT:s.extract 1 s.size=T)
  (C1:Hid (∀w,Calls Tryz.prog 49 #[.string T,.int .u8 47] w fun e w'=>e=.returned (.int .i64 (-1))∧w=w'))
  (C2:Hid (∀w,Calls Tryz.prog 49 #[.string T,.int .u8 46] w fun e w'=>e=.returned (.int .i64 (-1))∧w=w'))
  (C3:Hid (∀w,Calls Tryz.prog 50 #[.string T] w fun e w'=>e=.returned (.bool false)∧w=w')) :
  Calls Tryz.prog 27 #[.string s] w (GiveRE w (([],[]),40)):=by
 have hx1:¬(1000:Int)<(s.size:Int):=by omega
 have hx2:(0:Int)<(s.size:Int):=by omega
 go_enter Tryz.func27,Tryz.ntmps27;go_wp2_with fail;obtain⟨W,hW,BW,sW,k0,k1,r0,r1,k2,k3⟩:=boxz2 w (.string ⟨#[]⟩) (.string ⟨#[]⟩) (.string ⟨#[]⟩) (.string ⟨#[]⟩) 23 23;rw[hW];clear hW;have b0:=Below.refl W.heap.size W;refine(C1.out _).mono ?_;rintro e w1 ⟨rfl,rfl⟩;go_wp2_with fail;refine(C2.out _).mono ?_;rintro e w1 ⟨rfl,rfl⟩;go_wp2_with fail;refine(C3.out _).mono ?_;rintro e w1 ⟨rfl,rfl⟩;go_wp2_with fail;refine bodyPost_ret (v:=.tuple #[.agg #[.string ⟨#[]⟩,.string ⟨#[]⟩],.int .i64 40]) (by simp[results,Tryz.results27,go_sem, *]) rfl ⟨rfl,?_⟩
 first|exact BW|exact put2 BW (Nat.le_refl _) _ _
theorem rdparse_m_none_yes(s:ByteArray)(w:World)(hs:s.size≤1000)(h0:0<s.size)(hc:(s[0].toNat:Int)=45){T:ByteArray}(hT:s.extract 1 s.size=T){np dp:ByteArray}{x y:List UInt8}{ng:ByteArray}
  (C1:Hid (∀w,Calls Tryz.prog 49 #[.string T,.int .u8 47] w fun e w'=>e=.returned (.int .i64 (-1))∧w=w'))
  (C2:Hid (∀w,Calls Tryz.prog 49 #[.string T,.int .u8 46] w fun e w'=>e=.returned (.int .i64 (-1))∧w=w'))
  (C3:Hid (∀w,Calls Tryz.prog 50 #[.string T] w fun e w'=>e=.returned (.bool true)∧w=w'))
  (C4:Hid (∀w,Calls Tryz.prog 50 #[.string ⟨#[49]⟩] w fun e w'=>e=.returned (.bool true)∧w=w'))
  (C5:Hid (∀w,Calls Tryz.prog 52 #[.string T] w fun e w'=>e=.returned (.string np)∧w=w'))
  (C6:Hid (∀w,Calls Tryz.prog 53 #[.string np] w fun e w'=>e=.returned (.string ng)∧w=w'))
  (C7:Hid (∀w,Calls Tryz.prog 52 #[.string ⟨#[49]⟩] w fun e w'=>e=.returned (.string dp)∧w=w'))
  (C8:Hid (∀w,Calls Tryz.prog 42 #[.string ng,.string dp] w (GiveRB w ((x,y),true)))) :
  Calls Tryz.prog 27 #[.string s] w (GiveRE w ((x,y),0)):=by
 have hx1:¬(1000:Int)<(s.size:Int):=by omega
 have hx2:(0:Int)<(s.size:Int):=by omega
 go_enter Tryz.func27,Tryz.ntmps27;go_wp2_with fail;obtain⟨W,hW,BW,sW,k0,k1,r0,r1,k2,k3⟩:=boxz2 w (.string ⟨#[]⟩) (.string ⟨#[]⟩) (.string ⟨#[]⟩) (.string ⟨#[]⟩) 23 23;rw[hW];clear hW;have b0:=Below.refl W.heap.size W;refine(C1.out _).mono ?_;rintro e w1 ⟨rfl,rfl⟩;go_wp2_with fail;refine(C2.out _).mono ?_;rintro e w1 ⟨rfl,rfl⟩;go_wp2_with fail;refine(C3.out _).mono ?_;rintro e w1 ⟨rfl,rfl⟩;go_wp2_with fail;refine(C4.out _).mono ?_;rintro e w1 ⟨rfl,rfl⟩;go_wp2_with fail;refine(C5.out _).mono ?_;rintro e w1 ⟨rfl,rfl⟩;go_wp2_with fail;refine(C6.out _).mono ?_;rintro e w1 ⟨rfl,rfl⟩;go_wp2_with fail;refine(C7.out _).mono ?_;rintro e w1 ⟨rfl,rfl⟩;go_wp2_with fail;refine(C8.out _).mono ?_;rintro e w9 ⟨rfl,b⟩;have b1:=Below.more b0 b;clear b;have ba:=fun x=>Below.alloc b1 (Below.size b1) x;go_wp2_with fail;refine bodyPost_ret (v:=.tuple #[.agg #[.string ⟨x.toArray⟩,.string ⟨y.toArray⟩],.int .i64 0]) (by simp[results,Tryz.results27,go_sem, *]) rfl ⟨rfl,?_⟩;exact put2 (BW.trans ((ba _).mono (by omega))) (Nat.le_refl _) _ _
theorem rdparse_m_point_lo(s:ByteArray)(w:World)(hs:s.size≤1000)(h0:0<s.size)(hc:(s[0].toNat:Int)=45){T:ByteArray}(hT:s.extract 1 s.size=T){k:Nat}(hk:k<T.size){lo:ByteArray}(hlo:T.extract 0 k=lo)
  (C1:Hid (∀w,Calls Tryz.prog 49 #[.string T,.int .u8 47] w fun e w'=>e=.returned (.int .i64 (-1))∧w=w'))
  (C2:Hid (∀w,Calls Tryz.prog 49 #[.string T,.int .u8 46] w fun e w'=>e=.returned (.int .i64 (k:Int))∧w=w'))
  (C3:Hid (∀w,Calls Tryz.prog 50 #[.string lo] w fun e w'=>e=.returned (.bool false)∧w=w')) :
  Calls Tryz.prog 27 #[.string s] w (GiveRE w (([],[]),40)):=by
 have hx1:¬(1000:Int)<(s.size:Int):=by omega
 have hx2:(0:Int)<(s.size:Int):=by omega
 have hx3:(0:Int)≤(k:Int):=by omega
 go_enter Tryz.func27,Tryz.ntmps27;go_wp2_with fail;obtain⟨W,hW,BW,sW,k0,k1,r0,r1,k2,k3⟩:=boxz2 w (.string ⟨#[]⟩) (.string ⟨#[]⟩) (.string ⟨#[]⟩) (.string ⟨#[]⟩) 23 23;rw[hW];clear hW;have b0:=Below.refl W.heap.size W;refine(C1.out _).mono ?_;rintro e w1 ⟨rfl,rfl⟩;go_wp2_with fail;refine(C2.out _).mono ?_;rintro e w1 ⟨rfl,rfl⟩;go_wp2_with fail;refine(C3.out _).mono ?_;rintro e w1 ⟨rfl,rfl⟩;go_wp2_with fail;refine bodyPost_ret (v:=.tuple #[.agg #[.string ⟨#[]⟩,.string ⟨#[]⟩],.int .i64 40]) (by simp[results,Tryz.results27,go_sem, *]) rfl ⟨rfl,?_⟩
 first|exact BW|exact put2 BW (Nat.le_refl _) _ _
theorem rdparse_m_point_hi(s:ByteArray)(w:World)(hs:s.size≤1000)(h0:0<s.size)(hc:(s[0].toNat:Int)=45){T:ByteArray}(hT:s.extract 1 s.size=T)(hTs:T.size≤1000){k:Nat}(hk:k<T.size){lo hi:ByteArray}(hlo:T.extract 0 k=lo)(hhi:T.extract (k+1) T.size=hi)
  (C1:Hid (∀w,Calls Tryz.prog 49 #[.string T,.int .u8 47] w fun e w'=>e=.returned (.int .i64 (-1))∧w=w'))
  (C2:Hid (∀w,Calls Tryz.prog 49 #[.string T,.int .u8 46] w fun e w'=>e=.returned (.int .i64 (k:Int))∧w=w'))
  (C3:Hid (∀w,Calls Tryz.prog 50 #[.string lo] w fun e w'=>e=.returned (.bool true)∧w=w'))
  (C4:Hid (∀w,Calls Tryz.prog 50 #[.string hi] w fun e w'=>e=.returned (.bool false)∧w=w')) :
  Calls Tryz.prog 27 #[.string s] w (GiveRE w (([],[]),40)):=by
 have hx1:¬(1000:Int)<(s.size:Int):=by omega
 have hx2:(0:Int)<(s.size:Int):=by omega
 have hx3:(0:Int)≤(k:Int):=by omega
 go_enter Tryz.func27,Tryz.ntmps27;go_wp2_with fail;obtain⟨W,hW,BW,sW,k0,k1,r0,r1,k2,k3⟩:=boxz2 w (.string ⟨#[]⟩) (.string ⟨#[]⟩) (.string ⟨#[]⟩) (.string ⟨#[]⟩) 23 23;rw[hW];clear hW;have b0:=Below.refl W.heap.size W;refine(C1.out _).mono ?_;rintro e w1 ⟨rfl,rfl⟩;go_wp2_with fail;refine(C2.out _).mono ?_;rintro e w1 ⟨rfl,rfl⟩;go_wp2_with fail;refine(C3.out _).mono ?_;rintro e w1 ⟨rfl,rfl⟩;go_wp2_with fail;refine(C4.out _).mono ?_;rintro e w1 ⟨rfl,rfl⟩;go_wp2_with fail;refine bodyPost_ret (v:=.tuple #[.agg #[.string ⟨#[]⟩,.string ⟨#[]⟩],.int .i64 40]) (by simp[results,Tryz.results27,go_sem, *]) rfl ⟨rfl,?_⟩
 first|exact BW|exact put2 BW (Nat.le_refl _) _ _
theorem rdparse_m_point_yes(s:ByteArray)(w:World)(hs:s.size≤1000)(h0:0<s.size)(hc:(s[0].toNat:Int)=45){T:ByteArray}(hT:s.extract 1 s.size=T)(hTs:T.size≤1000){k:Nat}(hk:k<T.size){lo hi:ByteArray}(hlo:T.extract 0 k=lo)(hhi:T.extract (k+1) T.size=hi){z:ByteArray}(hl:lo.size+hi.size≤1000)(hz:z.size≤1000){np dp:ByteArray}{x y:List UInt8}{ng:ByteArray}
  (C1:Hid (∀w,Calls Tryz.prog 49 #[.string T,.int .u8 47] w fun e w'=>e=.returned (.int .i64 (-1))∧w=w'))
  (C2:Hid (∀w,Calls Tryz.prog 49 #[.string T,.int .u8 46] w fun e w'=>e=.returned (.int .i64 (k:Int))∧w=w'))
  (C3:Hid (∀w,Calls Tryz.prog 50 #[.string lo] w fun e w'=>e=.returned (.bool true)∧w=w'))
  (C4:Hid (∀w,Calls Tryz.prog 50 #[.string hi] w fun e w'=>e=.returned (.bool true)∧w=w'))
  (C5:Hid (∀w,Calls Tryz.prog 51 #[.int .i64 ((T.size:Int)-(k:Int)-1)] w fun e w'=>e=.returned (.string z)∧w=w'))
  (C6:Hid (∀w,Calls Tryz.prog 50 #[.string (lo++hi)] w fun e w'=>e=.returned (.bool true)∧w=w'))
  (C7:Hid (∀w,Calls Tryz.prog 50 #[.string ((⟨#[49]⟩:ByteArray)++z)] w fun e w'=>e=.returned (.bool true)∧w=w'))
  (C8:Hid (∀w,Calls Tryz.prog 52 #[.string (lo++hi)] w fun e w'=>e=.returned (.string np)∧w=w'))
  (C9:Hid (∀w,Calls Tryz.prog 53 #[.string np] w fun e w'=>e=.returned (.string ng)∧w=w'))
  (C10:Hid (∀w,Calls Tryz.prog 52 #[.string ((⟨#[49]⟩:ByteArray)++z)] w fun e w'=>e=.returned (.string dp)∧w=w'))
  (C11:Hid (∀w,Calls Tryz.prog 42 #[.string ng,.string dp] w (GiveRB w ((x,y),true)))) :
  Calls Tryz.prog 27 #[.string s] w (GiveRE w ((x,y),0)):=by
 have hx1:¬(1000:Int)<(s.size:Int):=by omega
 have hx2:(0:Int)<(s.size:Int):=by omega
 have hx3:(0:Int)≤(k:Int):=by omega
 have hx4:¬9223372036854775807<lo.size+hi.size:=by omega
 have hx5:¬9223372036854775807<1+z.size:=by omega
 go_enter Tryz.func27,Tryz.ntmps27;go_wp2_with fail;obtain⟨W,hW,BW,sW,k0,k1,r0,r1,k2,k3⟩:=boxz2 w (.string ⟨#[]⟩) (.string ⟨#[]⟩) (.string ⟨#[]⟩) (.string ⟨#[]⟩) 23 23;rw[hW];clear hW;have b0:=Below.refl W.heap.size W;refine(C1.out _).mono ?_;rintro e w1 ⟨rfl,rfl⟩;go_wp2_with fail;refine(C2.out _).mono ?_;rintro e w1 ⟨rfl,rfl⟩;go_wp2_with fail;refine(C3.out _).mono ?_;rintro e w1 ⟨rfl,rfl⟩;go_wp2_with fail;refine(C4.out _).mono ?_;rintro e w1 ⟨rfl,rfl⟩;go_wp2_with fail
 go_quiet (fail)
 go_wp2_with fail;refine(C5.out _).mono ?_;rintro e w1 ⟨rfl,rfl⟩;go_wp2_with fail;refine(C6.out _).mono ?_;rintro e w1 ⟨rfl,rfl⟩;go_wp2_with fail;refine(C7.out _).mono ?_;rintro e w1 ⟨rfl,rfl⟩;go_wp2_with fail;refine(C8.out _).mono ?_;rintro e w1 ⟨rfl,rfl⟩;go_wp2_with fail;refine(C9.out _).mono ?_;rintro e w1 ⟨rfl,rfl⟩;go_wp2_with fail;refine(C10.out _).mono ?_;rintro e w1 ⟨rfl,rfl⟩;go_wp2_with fail;refine(C11.out _).mono ?_;rintro e w9 ⟨rfl,b⟩;have b1:=Below.more (Below.drewN b0 _) b;clear b;have ba:=fun x=>Below.alloc b1 (Below.size b1) x;go_wp2_with fail;refine bodyPost_ret (v:=.tuple #[.agg #[.string ⟨x.toArray⟩,.string ⟨y.toArray⟩],.int .i64 0]) (by simp[results,Tryz.results27,go_sem, *]) rfl ⟨rfl,?_⟩;exact put2 (BW.trans ((ba _).mono (by omega))) (Nat.le_refl _) _ _
end Go.Proofs.YtcebkcilkhebeaaGreatDoor
