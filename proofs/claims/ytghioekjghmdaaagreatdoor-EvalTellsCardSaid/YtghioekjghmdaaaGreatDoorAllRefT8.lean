/- Own work. -/
import Derived.Test.YtghioekjghmdaaaGreatDoorAllRefT7M
set_option linter.unusedSimpArgs false
set_option linter.unusedVariables false
set_option maxHeartbeats 4000000
set_option maxRecDepth 100000
namespace Go.Proofs.YtghioekjghmdaaaGreatDoor
open Go.RowKit
open Tm (Nd astB okN)
theorem lay6{V w:World}(h:Below V.heap.size V w)(xa xb xc xd xe xf:Value)(t:TypeId):∃U,w.alloc (.cells #[xa,xb,xc,xd,xe,xf] t)=U∧Below V.heap.size V U∧w.heap.size+1=U.heap.size ∧
  (∀v,Below U.heap.size U v→v.cell? ⟨w.heap.size,0,none⟩=some xa)∧(∀v,Below U.heap.size U v→v.cell? ⟨w.heap.size,1,none⟩=some xb)∧(∀v,Below U.heap.size U v→v.cell? ⟨w.heap.size,2,none⟩=some xc) ∧
  (∀v,Below U.heap.size U v→v.cell? ⟨w.heap.size,3,none⟩=some xd)∧(∀v,Below U.heap.size U v→v.cell? ⟨w.heap.size,4,none⟩=some xe)∧(∀v,Below U.heap.size U v→v.cell? ⟨w.heap.size,5,none⟩=some xf):=by
 have k:∀j x,(#[xa,xb,xc,xd,xe,xf]:Array Value)[j]?=some x→∀v,Below (w.alloc (.cells #[xa,xb,xc,xd,xe,xf] t)).heap.size (w.alloc (.cells #[xa,xb,xc,xd,xe,xf] t)) v→v.cell? ⟨w.heap.size,j,none⟩=some x:=fun j x e v hv =>
  (hv.cell (p:=⟨w.heap.size,j,none⟩) (by simp)).trans ((cell_new w _ _ _ rfl j).trans e)
 exact⟨_,rfl,h.alloc h.size _,by simp,k 0 xa rfl,k 1 xb rfl,k 2 xc rfl,k 3 xd rfl,k 4 xe rfl,k 5 xf rfl⟩
theorem nd_0s{a b:Int}{n d:List UInt8}{c:UInt8}{r:List UInt8}(w:World)  : Calls Tryz.prog 72 #[.agg #[.int .i64 (0),.string ⟨(n:List UInt8).toArray⟩,.string ⟨(d:List UInt8).toArray⟩,.string ⟨(c::r:List UInt8).toArray⟩,.int .i64 a,.int .i64 b]] w (GiveB w false):=by
 go_enter Tryz.func72,Tryz.ntmps72;go_wp2_with fail;have BW:=Below.refl w.heap.size w;have b0:Below w.heap.size w w:=Below.refl _ _;obtain⟨U1,hU,bU,s1,rx0,rx1,rx2,rx3,rx4,rx5⟩:=lay6 b0 (.int .i64 (0)) (.string ⟨(n:List UInt8).toArray⟩) (.string ⟨(d:List UInt8).toArray⟩) (.string ⟨(c::r:List UInt8).toArray⟩) (.int .i64 a) (.int .i64 b) 55;rw[hU];clear hU;clear s1;replace BW:=Below.more BW bU;clear bU;have b1:=Below.refl U1.heap.size U1;go_wp2_with fail;go_ret;exact⟨ret_bool (by first|rfl|simp[*]),Below.more BW b1⟩
theorem nd_0a{a b:Int}{n d:List UInt8}(w:World)(ea:¬a=0)(fa:(a==0)=false):Calls Tryz.prog 72 #[.agg #[.int .i64 (0),.string ⟨(n:List UInt8).toArray⟩,.string ⟨(d:List UInt8).toArray⟩,.string ⟨#[]⟩,.int .i64 a,.int .i64 b]] w (GiveB w false):=by
 go_enter Tryz.func72,Tryz.ntmps72;go_wp2_with fail;have BW:=Below.refl w.heap.size w;have b0:Below w.heap.size w w:=Below.refl _ _;obtain⟨U1,hU,bU,s1,rx0,rx1,rx2,rx3,rx4,rx5⟩:=lay6 b0 (.int .i64 (0)) (.string ⟨(n:List UInt8).toArray⟩) (.string ⟨(d:List UInt8).toArray⟩) (.string ⟨#[]⟩) (.int .i64 a) (.int .i64 b) 55;rw[hU];clear hU;clear s1;replace BW:=Below.more BW bU;clear bU;have b1:=Below.refl U1.heap.size U1;go_wp2_with fail;go_ret;exact⟨ret_bool (by first|rfl|simp[*]),Below.more BW b1⟩
theorem nd_0b{b:Int}{n d:List UInt8}(w:World)(eb:¬b=0)(fb:(b==0)=false):Calls Tryz.prog 72 #[.agg #[.int .i64 (0),.string ⟨(n:List UInt8).toArray⟩,.string ⟨(d:List UInt8).toArray⟩,.string ⟨#[]⟩,.int .i64 0,.int .i64 b]] w (GiveB w false):=by
 go_enter Tryz.func72,Tryz.ntmps72;go_wp2_with fail;have BW:=Below.refl w.heap.size w;have b0:Below w.heap.size w w:=Below.refl _ _;obtain⟨U1,hU,bU,s1,rx0,rx1,rx2,rx3,rx4,rx5⟩:=lay6 b0 (.int .i64 (0)) (.string ⟨(n:List UInt8).toArray⟩) (.string ⟨(d:List UInt8).toArray⟩) (.string ⟨#[]⟩) (.int .i64 0) (.int .i64 b) 55;rw[hU];clear hU;clear s1;replace BW:=Below.more BW bU;clear bU;have b1:=Below.refl U1.heap.size U1;go_wp2_with fail;go_ret;exact⟨ret_bool (by first|rfl|simp[*]),Below.more BW b1⟩
theorem nd_0m{n d:List UInt8}(w:World)(CM:Hid (∀w,Calls Tryz.prog 44 #[.agg #[.string ⟨(n:List UInt8).toArray⟩,.string ⟨(d:List UInt8).toArray⟩]] w (GiveB w false)))  : Calls Tryz.prog 72 #[.agg #[.int .i64 (0),.string ⟨(n:List UInt8).toArray⟩,.string ⟨(d:List UInt8).toArray⟩,.string ⟨#[]⟩,.int .i64 0,.int .i64 0]] w (GiveB w false):=by
 go_enter Tryz.func72,Tryz.ntmps72;go_wp2_with fail;have BW:=Below.refl w.heap.size w;have b0:Below w.heap.size w w:=Below.refl _ _;obtain⟨U1,hU,bU,s1,rx0,rx1,rx2,rx3,rx4,rx5⟩:=lay6 b0 (.int .i64 (0)) (.string ⟨(n:List UInt8).toArray⟩) (.string ⟨(d:List UInt8).toArray⟩) (.string ⟨#[]⟩) (.int .i64 0) (.int .i64 0) 55;rw[hU];clear hU;clear s1;replace BW:=Below.more BW bU;clear bU;have b1:=Below.refl U1.heap.size U1;go_wp2_with fail;refine(CM.out _).mono ?_;rintro e w2 ⟨rfl,b'⟩;have b2:=Below.more b1 b';clear b';go_wp2_with fail;go_ret;exact⟨ret_bool (by first|rfl|simp[*]),Below.more BW b2⟩
theorem nd_0n{n d:List UInt8}(w:World)(CM:Hid (∀w,Calls Tryz.prog 44 #[.agg #[.string ⟨(n:List UInt8).toArray⟩,.string ⟨(d:List UInt8).toArray⟩]] w (GiveB w true))){l:List UInt8}(CA:Hid (∀w,Calls Tryz.prog 78 #[.string ⟨(n:List UInt8).toArray⟩] w fun e w'=>e=.returned (.string ⟨l.toArray⟩)∧w=w'))(h:¬(l.length:Int)≤60):Calls Tryz.prog 72 #[.agg #[.int .i64 (0),.string ⟨(n:List UInt8).toArray⟩,.string ⟨(d:List UInt8).toArray⟩,.string ⟨#[]⟩,.int .i64 0,.int .i64 0]] w (GiveB w false):=by
 go_enter Tryz.func72,Tryz.ntmps72;go_wp2_with fail;have BW:=Below.refl w.heap.size w;have b0:Below w.heap.size w w:=Below.refl _ _;obtain⟨U1,hU,bU,s1,rx0,rx1,rx2,rx3,rx4,rx5⟩:=lay6 b0 (.int .i64 (0)) (.string ⟨(n:List UInt8).toArray⟩) (.string ⟨(d:List UInt8).toArray⟩) (.string ⟨#[]⟩) (.int .i64 0) (.int .i64 0) 55;rw[hU];clear hU;clear s1;replace BW:=Below.more BW bU;clear bU;have b1:=Below.refl U1.heap.size U1;go_wp2_with fail;refine(CM.out _).mono ?_;rintro e w2 ⟨rfl,b'⟩;have b2:=Below.more b1 b';clear b';go_wp2_with fail;refine(CA.out _).mono ?_;rintro e w' ⟨rfl,rfl⟩;go_wp2_with fail;go_ret;exact⟨ret_bool (by first|rfl|simp[*]),Below.more BW b2⟩
theorem nd_0d{n d:List UInt8}(w:World)(CM:Hid (∀w,Calls Tryz.prog 44 #[.agg #[.string ⟨(n:List UInt8).toArray⟩,.string ⟨(d:List UInt8).toArray⟩]] w (GiveB w true))){l:List UInt8}(CA:Hid (∀w,Calls Tryz.prog 78 #[.string ⟨(n:List UInt8).toArray⟩] w fun e w'=>e=.returned (.string ⟨l.toArray⟩)∧w=w'))(h:(l.length:Int)≤60):Calls Tryz.prog 72 #[.agg #[.int .i64 (0),.string ⟨(n:List UInt8).toArray⟩,.string ⟨(d:List UInt8).toArray⟩,.string ⟨#[]⟩,.int .i64 0,.int .i64 0]] w (GiveB w (decide ((d.length:Int)≤60))):=by
 go_enter Tryz.func72,Tryz.ntmps72;go_wp2_with fail;have BW:=Below.refl w.heap.size w;have b0:Below w.heap.size w w:=Below.refl _ _;obtain⟨U1,hU,bU,s1,rx0,rx1,rx2,rx3,rx4,rx5⟩:=lay6 b0 (.int .i64 (0)) (.string ⟨(n:List UInt8).toArray⟩) (.string ⟨(d:List UInt8).toArray⟩) (.string ⟨#[]⟩) (.int .i64 0) (.int .i64 0) 55;rw[hU];clear hU;clear s1;replace BW:=Below.more BW bU;clear bU;have b1:=Below.refl U1.heap.size U1;go_wp2_with fail;refine(CM.out _).mono ?_;rintro e w2 ⟨rfl,b'⟩;have b2:=Below.more b1 b';clear b';go_wp2_with fail;refine(CA.out _).mono ?_;rintro e w' ⟨rfl,rfl⟩;go_wp2_with fail;go_ret;exact⟨ret_bool (by first|rfl|simp[*]),Below.more BW b2⟩
theorem nd_1n{a b:Int}{d s:List UInt8}{c:UInt8}{r:List UInt8}(w:World)  : Calls Tryz.prog 72 #[.agg #[.int .i64 (1),.string ⟨(c::r:List UInt8).toArray⟩,.string ⟨(d:List UInt8).toArray⟩,.string ⟨(s:List UInt8).toArray⟩,.int .i64 a,.int .i64 b]] w (GiveB w false):=by
 go_enter Tryz.func72,Tryz.ntmps72;go_wp2_with fail;have BW:=Below.refl w.heap.size w;have b0:Below w.heap.size w w:=Below.refl _ _;obtain⟨U1,hU,bU,s1,rx0,rx1,rx2,rx3,rx4,rx5⟩:=lay6 b0 (.int .i64 (1)) (.string ⟨(c::r:List UInt8).toArray⟩) (.string ⟨(d:List UInt8).toArray⟩) (.string ⟨(s:List UInt8).toArray⟩) (.int .i64 a) (.int .i64 b) 55;rw[hU];clear hU;clear s1;replace BW:=Below.more BW bU;clear bU;have b1:=Below.refl U1.heap.size U1;go_wp2_with fail;go_ret;exact⟨ret_bool (by first|rfl|simp[*]),Below.more BW b1⟩
theorem nd_1d{a b:Int}{s:List UInt8}{c:UInt8}{r:List UInt8}(w:World)  : Calls Tryz.prog 72 #[.agg #[.int .i64 (1),.string ⟨#[]⟩,.string ⟨(c::r:List UInt8).toArray⟩,.string ⟨(s:List UInt8).toArray⟩,.int .i64 a,.int .i64 b]] w (GiveB w false):=by
 go_enter Tryz.func72,Tryz.ntmps72;go_wp2_with fail;have BW:=Below.refl w.heap.size w;have b0:Below w.heap.size w w:=Below.refl _ _;obtain⟨U1,hU,bU,s1,rx0,rx1,rx2,rx3,rx4,rx5⟩:=lay6 b0 (.int .i64 (1)) (.string ⟨#[]⟩) (.string ⟨(c::r:List UInt8).toArray⟩) (.string ⟨(s:List UInt8).toArray⟩) (.int .i64 a) (.int .i64 b) 55;rw[hU];clear hU;clear s1;replace BW:=Below.more BW bU;clear bU;have b1:=Below.refl U1.heap.size U1;go_wp2_with fail;go_ret;exact⟨ret_bool (by first|rfl|simp[*]),Below.more BW b1⟩
theorem nd_1b{a b:Int}{s:List UInt8}(w:World)(eb:¬b=0)(fb:(b==0)=false):Calls Tryz.prog 72 #[.agg #[.int .i64 (1),.string ⟨#[]⟩,.string ⟨#[]⟩,.string ⟨(s:List UInt8).toArray⟩,.int .i64 a,.int .i64 b]] w (GiveB w false):=by
 go_enter Tryz.func72,Tryz.ntmps72;go_wp2_with fail;have BW:=Below.refl w.heap.size w;have b0:Below w.heap.size w w:=Below.refl _ _;obtain⟨U1,hU,bU,s1,rx0,rx1,rx2,rx3,rx4,rx5⟩:=lay6 b0 (.int .i64 (1)) (.string ⟨#[]⟩) (.string ⟨#[]⟩) (.string ⟨(s:List UInt8).toArray⟩) (.int .i64 a) (.int .i64 b) 55;rw[hU];clear hU;clear s1;replace BW:=Below.more BW bU;clear bU;have b1:=Below.refl U1.heap.size U1;go_wp2_with fail;go_ret;exact⟨ret_bool (by first|rfl|simp[*]),Below.more BW b1⟩
theorem nd_1s{a:Int}{s:List UInt8}(w:World)(CS:Hid (∀w,Calls Tryz.prog 110 #[.string ⟨(s:List UInt8).toArray⟩] w (GiveB w false)))  : Calls Tryz.prog 72 #[.agg #[.int .i64 (1),.string ⟨#[]⟩,.string ⟨#[]⟩,.string ⟨(s:List UInt8).toArray⟩,.int .i64 a,.int .i64 0]] w (GiveB w false):=by
 go_enter Tryz.func72,Tryz.ntmps72;go_wp2_with fail;have BW:=Below.refl w.heap.size w;have b0:Below w.heap.size w w:=Below.refl _ _;obtain⟨U1,hU,bU,s1,rx0,rx1,rx2,rx3,rx4,rx5⟩:=lay6 b0 (.int .i64 (1)) (.string ⟨#[]⟩) (.string ⟨#[]⟩) (.string ⟨(s:List UInt8).toArray⟩) (.int .i64 a) (.int .i64 0) 55;rw[hU];clear hU;clear s1;replace BW:=Below.more BW bU;clear bU;have b1:=Below.refl U1.heap.size U1;go_wp2_with fail;refine(CS.out _).mono ?_;rintro e w2 ⟨rfl,b'⟩;have b2:=Below.more b1 b';clear b';go_wp2_with fail;go_ret;exact⟨ret_bool (by first|rfl|simp[*]),Below.more BW b2⟩
theorem nd_1a{a:Int}{s:List UInt8}(w:World)(CS:Hid (∀w,Calls Tryz.prog 110 #[.string ⟨(s:List UInt8).toArray⟩] w (GiveB w true)))(h:¬0≤a):Calls Tryz.prog 72 #[.agg #[.int .i64 (1),.string ⟨#[]⟩,.string ⟨#[]⟩,.string ⟨(s:List UInt8).toArray⟩,.int .i64 a,.int .i64 0]] w (GiveB w false):=by
 go_enter Tryz.func72,Tryz.ntmps72;go_wp2_with fail;have BW:=Below.refl w.heap.size w;have b0:Below w.heap.size w w:=Below.refl _ _;obtain⟨U1,hU,bU,s1,rx0,rx1,rx2,rx3,rx4,rx5⟩:=lay6 b0 (.int .i64 (1)) (.string ⟨#[]⟩) (.string ⟨#[]⟩) (.string ⟨(s:List UInt8).toArray⟩) (.int .i64 a) (.int .i64 0) 55;rw[hU];clear hU;clear s1;replace BW:=Below.more BW bU;clear bU;have b1:=Below.refl U1.heap.size U1;go_wp2_with fail;refine(CS.out _).mono ?_;rintro e w2 ⟨rfl,b'⟩;have b2:=Below.more b1 b';clear b';go_wp2_with fail;go_ret;exact⟨ret_bool (by first|rfl|simp[*]),Below.more BW b2⟩
theorem nd_1z{a:Int}{s:List UInt8}(w:World)(CS:Hid (∀w,Calls Tryz.prog 110 #[.string ⟨(s:List UInt8).toArray⟩] w (GiveB w true)))(h:0≤a):Calls Tryz.prog 72 #[.agg #[.int .i64 (1),.string ⟨#[]⟩,.string ⟨#[]⟩,.string ⟨(s:List UInt8).toArray⟩,.int .i64 a,.int .i64 0]] w (GiveB w (decide (a≤9999))):=by
 go_enter Tryz.func72,Tryz.ntmps72;go_wp2_with fail;have BW:=Below.refl w.heap.size w;have b0:Below w.heap.size w w:=Below.refl _ _;obtain⟨U1,hU,bU,s1,rx0,rx1,rx2,rx3,rx4,rx5⟩:=lay6 b0 (.int .i64 (1)) (.string ⟨#[]⟩) (.string ⟨#[]⟩) (.string ⟨(s:List UInt8).toArray⟩) (.int .i64 a) (.int .i64 0) 55;rw[hU];clear hU;clear s1;replace BW:=Below.more BW bU;clear bU;have b1:=Below.refl U1.heap.size U1;go_wp2_with fail;refine(CS.out _).mono ?_;rintro e w2 ⟨rfl,b'⟩;have b2:=Below.more b1 b';clear b';go_wp2_with fail;go_ret;exact⟨ret_bool (by first|rfl|simp[*]),Below.more BW b2⟩
theorem nd_2n{op a b:Int}{d s:List UInt8}{c:UInt8}{r:List UInt8}(w:World)(h2:2≤op)(h4:op≤4)(f0:(op==0)=false)(f1:(op==1)=false):Calls Tryz.prog 72 #[.agg #[.int .i64 op,.string ⟨(c::r:List UInt8).toArray⟩,.string ⟨(d:List UInt8).toArray⟩,.string ⟨(s:List UInt8).toArray⟩,.int .i64 a,.int .i64 b]] w (GiveB w false):=by
 go_enter Tryz.func72,Tryz.ntmps72;go_wp2_with fail;have BW:=Below.refl w.heap.size w;have b0:Below w.heap.size w w:=Below.refl _ _;obtain⟨U1,hU,bU,s1,rx0,rx1,rx2,rx3,rx4,rx5⟩:=lay6 b0 (.int .i64 op) (.string ⟨(c::r:List UInt8).toArray⟩) (.string ⟨(d:List UInt8).toArray⟩) (.string ⟨(s:List UInt8).toArray⟩) (.int .i64 a) (.int .i64 b) 55;rw[hU];clear hU;clear s1;replace BW:=Below.more BW bU;clear bU;have b1:=Below.refl U1.heap.size U1;go_wp2_with fail;go_ret;exact⟨ret_bool (by first|rfl|simp[*]),Below.more BW b1⟩
theorem nd_2d{op a b:Int}{s:List UInt8}{c:UInt8}{r:List UInt8}(w:World)(h2:2≤op)(h4:op≤4)(f0:(op==0)=false)(f1:(op==1)=false):Calls Tryz.prog 72 #[.agg #[.int .i64 op,.string ⟨#[]⟩,.string ⟨(c::r:List UInt8).toArray⟩,.string ⟨(s:List UInt8).toArray⟩,.int .i64 a,.int .i64 b]] w (GiveB w false):=by
 go_enter Tryz.func72,Tryz.ntmps72;go_wp2_with fail;have BW:=Below.refl w.heap.size w;have b0:Below w.heap.size w w:=Below.refl _ _;obtain⟨U1,hU,bU,s1,rx0,rx1,rx2,rx3,rx4,rx5⟩:=lay6 b0 (.int .i64 op) (.string ⟨#[]⟩) (.string ⟨(c::r:List UInt8).toArray⟩) (.string ⟨(s:List UInt8).toArray⟩) (.int .i64 a) (.int .i64 b) 55;rw[hU];clear hU;clear s1;replace BW:=Below.more BW bU;clear bU;have b1:=Below.refl U1.heap.size U1;go_wp2_with fail;go_ret;exact⟨ret_bool (by first|rfl|simp[*]),Below.more BW b1⟩
theorem nd_2s{op a b:Int}{s:List UInt8}(w:World)(CS:Hid (∀w,Calls Tryz.prog 110 #[.string ⟨(s:List UInt8).toArray⟩] w (GiveB w false)))(h2:2≤op)(h4:op≤4)(f0:(op==0)=false)(f1:(op==1)=false):Calls Tryz.prog 72 #[.agg #[.int .i64 op,.string ⟨#[]⟩,.string ⟨#[]⟩,.string ⟨(s:List UInt8).toArray⟩,.int .i64 a,.int .i64 b]] w (GiveB w false):=by
 go_enter Tryz.func72,Tryz.ntmps72;go_wp2_with fail;have BW:=Below.refl w.heap.size w;have b0:Below w.heap.size w w:=Below.refl _ _;obtain⟨U1,hU,bU,s1,rx0,rx1,rx2,rx3,rx4,rx5⟩:=lay6 b0 (.int .i64 op) (.string ⟨#[]⟩) (.string ⟨#[]⟩) (.string ⟨(s:List UInt8).toArray⟩) (.int .i64 a) (.int .i64 b) 55;rw[hU];clear hU;clear s1;replace BW:=Below.more BW bU;clear bU;have b1:=Below.refl U1.heap.size U1;go_wp2_with fail;refine(CS.out _).mono ?_;rintro e w2 ⟨rfl,b'⟩;have b2:=Below.more b1 b';clear b';go_wp2_with fail;go_ret;exact⟨ret_bool (by first|rfl|simp[*]),Below.more BW b2⟩
theorem nd_2a{op a b:Int}{s:List UInt8}(w:World)(CS:Hid (∀w,Calls Tryz.prog 110 #[.string ⟨(s:List UInt8).toArray⟩] w (GiveB w true)))(h2:2≤op)(h4:op≤4)(f0:(op==0)=false)(f1:(op==1)=false)(h:¬0≤a):Calls Tryz.prog 72 #[.agg #[.int .i64 op,.string ⟨#[]⟩,.string ⟨#[]⟩,.string ⟨(s:List UInt8).toArray⟩,.int .i64 a,.int .i64 b]] w (GiveB w false):=by
 go_enter Tryz.func72,Tryz.ntmps72;go_wp2_with fail;have BW:=Below.refl w.heap.size w;have b0:Below w.heap.size w w:=Below.refl _ _;obtain⟨U1,hU,bU,s1,rx0,rx1,rx2,rx3,rx4,rx5⟩:=lay6 b0 (.int .i64 op) (.string ⟨#[]⟩) (.string ⟨#[]⟩) (.string ⟨(s:List UInt8).toArray⟩) (.int .i64 a) (.int .i64 b) 55;rw[hU];clear hU;clear s1;replace BW:=Below.more BW bU;clear bU;have b1:=Below.refl U1.heap.size U1;go_wp2_with fail;refine(CS.out _).mono ?_;rintro e w2 ⟨rfl,b'⟩;have b2:=Below.more b1 b';clear b';go_wp2_with fail;go_ret;exact⟨ret_bool (by first|rfl|simp[*]),Below.more BW b2⟩
theorem nd_2b{op a b:Int}{s:List UInt8}(w:World)(CS:Hid (∀w,Calls Tryz.prog 110 #[.string ⟨(s:List UInt8).toArray⟩] w (GiveB w true)))(h2:2≤op)(h4:op≤4)(f0:(op==0)=false)(f1:(op==1)=false)(h:0≤a)(hb:¬b≤9999):Calls Tryz.prog 72 #[.agg #[.int .i64 op,.string ⟨#[]⟩,.string ⟨#[]⟩,.string ⟨(s:List UInt8).toArray⟩,.int .i64 a,.int .i64 b]] w (GiveB w false):=by
 go_enter Tryz.func72,Tryz.ntmps72;go_wp2_with fail;have BW:=Below.refl w.heap.size w;have b0:Below w.heap.size w w:=Below.refl _ _;obtain⟨U1,hU,bU,s1,rx0,rx1,rx2,rx3,rx4,rx5⟩:=lay6 b0 (.int .i64 op) (.string ⟨#[]⟩) (.string ⟨#[]⟩) (.string ⟨(s:List UInt8).toArray⟩) (.int .i64 a) (.int .i64 b) 55;rw[hU];clear hU;clear s1;replace BW:=Below.more BW bU;clear bU;have b1:=Below.refl U1.heap.size U1;go_wp2_with fail;refine(CS.out _).mono ?_;rintro e w2 ⟨rfl,b'⟩;have b2:=Below.more b1 b';clear b';go_wp2_with fail;go_ret;exact⟨ret_bool (by first|rfl|simp[*]),Below.more BW b2⟩
theorem nd_2c{op a b:Int}{s:List UInt8}(w:World)(CS:Hid (∀w,Calls Tryz.prog 110 #[.string ⟨(s:List UInt8).toArray⟩] w (GiveB w true)))(h2:2≤op)(h4:op≤4)(f0:(op==0)=false)(f1:(op==1)=false)(h:0≤a)(hb:b≤9999)(hc:¬a≤b):Calls Tryz.prog 72 #[.agg #[.int .i64 op,.string ⟨#[]⟩,.string ⟨#[]⟩,.string ⟨(s:List UInt8).toArray⟩,.int .i64 a,.int .i64 b]] w (GiveB w false):=by
 go_enter Tryz.func72,Tryz.ntmps72;go_wp2_with fail;have BW:=Below.refl w.heap.size w;have b0:Below w.heap.size w w:=Below.refl _ _;obtain⟨U1,hU,bU,s1,rx0,rx1,rx2,rx3,rx4,rx5⟩:=lay6 b0 (.int .i64 op) (.string ⟨#[]⟩) (.string ⟨#[]⟩) (.string ⟨(s:List UInt8).toArray⟩) (.int .i64 a) (.int .i64 b) 55;rw[hU];clear hU;clear s1;replace BW:=Below.more BW bU;clear bU;have b1:=Below.refl U1.heap.size U1;go_wp2_with fail;refine(CS.out _).mono ?_;rintro e w2 ⟨rfl,b'⟩;have b2:=Below.more b1 b';clear b';go_wp2_with fail;go_ret;exact⟨ret_bool (by first|rfl|simp[*]),Below.more BW b2⟩
theorem nd_2z{op a b:Int}{s:List UInt8}(w:World)(CS:Hid (∀w,Calls Tryz.prog 110 #[.string ⟨(s:List UInt8).toArray⟩] w (GiveB w true)))(h2:2≤op)(h4:op≤4)(f0:(op==0)=false)(f1:(op==1)=false)(h:0≤a)(hb:b≤9999)(hc:a≤b)(hw:wrap64 (b-a)=b-a):Calls Tryz.prog 72 #[.agg #[.int .i64 op,.string ⟨#[]⟩,.string ⟨#[]⟩,.string ⟨(s:List UInt8).toArray⟩,.int .i64 a,.int .i64 b]] w (GiveB w (decide (b-a<60))):=by
 go_enter Tryz.func72,Tryz.ntmps72;go_wp2_with fail;have BW:=Below.refl w.heap.size w;have b0:Below w.heap.size w w:=Below.refl _ _;obtain⟨U1,hU,bU,s1,rx0,rx1,rx2,rx3,rx4,rx5⟩:=lay6 b0 (.int .i64 op) (.string ⟨#[]⟩) (.string ⟨#[]⟩) (.string ⟨(s:List UInt8).toArray⟩) (.int .i64 a) (.int .i64 b) 55;rw[hU];clear hU;clear s1;replace BW:=Below.more BW bU;clear bU;have b1:=Below.refl U1.heap.size U1;go_wp2_with fail;refine(CS.out _).mono ?_;rintro e w2 ⟨rfl,b'⟩;have b2:=Below.more b1 b';clear b';go_wp2_with fail;go_ret;exact⟨ret_bool (by first|rfl|simp[*]),Below.more BW b2⟩
theorem nd_5n{op a b:Int}{d s:List UInt8}{c:UInt8}{r:List UInt8}(w:World)(h2:2≤op)(h4:¬op≤4)(f0:(op==0)=false)(f1:(op==1)=false):Calls Tryz.prog 72 #[.agg #[.int .i64 op,.string ⟨(c::r:List UInt8).toArray⟩,.string ⟨(d:List UInt8).toArray⟩,.string ⟨(s:List UInt8).toArray⟩,.int .i64 a,.int .i64 b]] w (GiveB w false):=by
 go_enter Tryz.func72,Tryz.ntmps72;go_wp2_with fail;have BW:=Below.refl w.heap.size w;have b0:Below w.heap.size w w:=Below.refl _ _;obtain⟨U1,hU,bU,s1,rx0,rx1,rx2,rx3,rx4,rx5⟩:=lay6 b0 (.int .i64 op) (.string ⟨(c::r:List UInt8).toArray⟩) (.string ⟨(d:List UInt8).toArray⟩) (.string ⟨(s:List UInt8).toArray⟩) (.int .i64 a) (.int .i64 b) 55;rw[hU];clear hU;clear s1;replace BW:=Below.more BW bU;clear bU;have b1:=Below.refl U1.heap.size U1;go_wp2_with fail;go_ret;exact⟨ret_bool (by first|rfl|simp[*]),Below.more BW b1⟩
theorem nd_5d{op a b:Int}{s:List UInt8}{c:UInt8}{r:List UInt8}(w:World)(h2:2≤op)(h4:¬op≤4)(f0:(op==0)=false)(f1:(op==1)=false):Calls Tryz.prog 72 #[.agg #[.int .i64 op,.string ⟨#[]⟩,.string ⟨(c::r:List UInt8).toArray⟩,.string ⟨(s:List UInt8).toArray⟩,.int .i64 a,.int .i64 b]] w (GiveB w false):=by
 go_enter Tryz.func72,Tryz.ntmps72;go_wp2_with fail;have BW:=Below.refl w.heap.size w;have b0:Below w.heap.size w w:=Below.refl _ _;obtain⟨U1,hU,bU,s1,rx0,rx1,rx2,rx3,rx4,rx5⟩:=lay6 b0 (.int .i64 op) (.string ⟨#[]⟩) (.string ⟨(c::r:List UInt8).toArray⟩) (.string ⟨(s:List UInt8).toArray⟩) (.int .i64 a) (.int .i64 b) 55;rw[hU];clear hU;clear s1;replace BW:=Below.more BW bU;clear bU;have b1:=Below.refl U1.heap.size U1;go_wp2_with fail;go_ret;exact⟨ret_bool (by first|rfl|simp[*]),Below.more BW b1⟩
theorem nd_5s{op a b:Int}{c:UInt8}{r:List UInt8}(w:World)(h2:2≤op)(h4:¬op≤4)(f0:(op==0)=false)(f1:(op==1)=false):Calls Tryz.prog 72 #[.agg #[.int .i64 op,.string ⟨#[]⟩,.string ⟨#[]⟩,.string ⟨(c::r:List UInt8).toArray⟩,.int .i64 a,.int .i64 b]] w (GiveB w false):=by
 go_enter Tryz.func72,Tryz.ntmps72;go_wp2_with fail;have BW:=Below.refl w.heap.size w;have b0:Below w.heap.size w w:=Below.refl _ _;obtain⟨U1,hU,bU,s1,rx0,rx1,rx2,rx3,rx4,rx5⟩:=lay6 b0 (.int .i64 op) (.string ⟨#[]⟩) (.string ⟨#[]⟩) (.string ⟨(c::r:List UInt8).toArray⟩) (.int .i64 a) (.int .i64 b) 55;rw[hU];clear hU;clear s1;replace BW:=Below.more BW bU;clear bU;have b1:=Below.refl U1.heap.size U1;go_wp2_with fail;go_ret;exact⟨ret_bool (by first|rfl|simp[*]),Below.more BW b1⟩
theorem nd_5a{op a b:Int}(w:World)(h2:2≤op)(h4:¬op≤4)(f0:(op==0)=false)(f1:(op==1)=false)(ea:¬a=0)(fa:(a==0)=false):Calls Tryz.prog 72 #[.agg #[.int .i64 op,.string ⟨#[]⟩,.string ⟨#[]⟩,.string ⟨#[]⟩,.int .i64 a,.int .i64 b]] w (GiveB w false):=by
 go_enter Tryz.func72,Tryz.ntmps72;go_wp2_with fail;have BW:=Below.refl w.heap.size w;have b0:Below w.heap.size w w:=Below.refl _ _;obtain⟨U1,hU,bU,s1,rx0,rx1,rx2,rx3,rx4,rx5⟩:=lay6 b0 (.int .i64 op) (.string ⟨#[]⟩) (.string ⟨#[]⟩) (.string ⟨#[]⟩) (.int .i64 a) (.int .i64 b) 55;rw[hU];clear hU;clear s1;replace BW:=Below.more BW bU;clear bU;have b1:=Below.refl U1.heap.size U1;go_wp2_with fail;go_ret;exact⟨ret_bool (by first|rfl|simp[*]),Below.more BW b1⟩
theorem nd_5b{op b:Int}(w:World)(h2:2≤op)(h4:¬op≤4)(f0:(op==0)=false)(f1:(op==1)=false)(eb:¬b=0)(fb:(b==0)=false):Calls Tryz.prog 72 #[.agg #[.int .i64 op,.string ⟨#[]⟩,.string ⟨#[]⟩,.string ⟨#[]⟩,.int .i64 0,.int .i64 b]] w (GiveB w false):=by
 go_enter Tryz.func72,Tryz.ntmps72;go_wp2_with fail;have BW:=Below.refl w.heap.size w;have b0:Below w.heap.size w w:=Below.refl _ _;obtain⟨U1,hU,bU,s1,rx0,rx1,rx2,rx3,rx4,rx5⟩:=lay6 b0 (.int .i64 op) (.string ⟨#[]⟩) (.string ⟨#[]⟩) (.string ⟨#[]⟩) (.int .i64 0) (.int .i64 b) 55;rw[hU];clear hU;clear s1;replace BW:=Below.more BW bU;clear bU;have b1:=Below.refl U1.heap.size U1;go_wp2_with fail;go_ret;exact⟨ret_bool (by first|rfl|simp[*]),Below.more BW b1⟩
theorem nd_5z{op:Int}(w:World)(h2:2≤op)(h4:¬op≤4)(f0:(op==0)=false)(f1:(op==1)=false):Calls Tryz.prog 72 #[.agg #[.int .i64 op,.string ⟨#[]⟩,.string ⟨#[]⟩,.string ⟨#[]⟩,.int .i64 0,.int .i64 0]] w (GiveB w true):=by
 go_enter Tryz.func72,Tryz.ntmps72;go_wp2_with fail;have BW:=Below.refl w.heap.size w;have b0:Below w.heap.size w w:=Below.refl _ _;obtain⟨U1,hU,bU,s1,rx0,rx1,rx2,rx3,rx4,rx5⟩:=lay6 b0 (.int .i64 op) (.string ⟨#[]⟩) (.string ⟨#[]⟩) (.string ⟨#[]⟩) (.int .i64 0) (.int .i64 0) 55;rw[hU];clear hU;clear s1;replace BW:=Below.more BW bU;clear bU;have b1:=Below.refl U1.heap.size U1;go_wp2_with fail;go_ret;exact⟨ret_bool (by first|rfl|simp[*]),Below.more BW b1⟩
theorem nd_mn{op a b:Int}{d s:List UInt8}{c:UInt8}{r:List UInt8}(w:World)(h2:¬2≤op)(f0:(op==0)=false)(f1:(op==1)=false):Calls Tryz.prog 72 #[.agg #[.int .i64 op,.string ⟨(c::r:List UInt8).toArray⟩,.string ⟨(d:List UInt8).toArray⟩,.string ⟨(s:List UInt8).toArray⟩,.int .i64 a,.int .i64 b]] w (GiveB w false):=by
 go_enter Tryz.func72,Tryz.ntmps72;go_wp2_with fail;have BW:=Below.refl w.heap.size w;have b0:Below w.heap.size w w:=Below.refl _ _;obtain⟨U1,hU,bU,s1,rx0,rx1,rx2,rx3,rx4,rx5⟩:=lay6 b0 (.int .i64 op) (.string ⟨(c::r:List UInt8).toArray⟩) (.string ⟨(d:List UInt8).toArray⟩) (.string ⟨(s:List UInt8).toArray⟩) (.int .i64 a) (.int .i64 b) 55;rw[hU];clear hU;clear s1;replace BW:=Below.more BW bU;clear bU;have b1:=Below.refl U1.heap.size U1;go_wp2_with fail;go_ret;exact⟨ret_bool (by first|rfl|simp[*]),Below.more BW b1⟩
theorem nd_md{op a b:Int}{s:List UInt8}{c:UInt8}{r:List UInt8}(w:World)(h2:¬2≤op)(f0:(op==0)=false)(f1:(op==1)=false):Calls Tryz.prog 72 #[.agg #[.int .i64 op,.string ⟨#[]⟩,.string ⟨(c::r:List UInt8).toArray⟩,.string ⟨(s:List UInt8).toArray⟩,.int .i64 a,.int .i64 b]] w (GiveB w false):=by
 go_enter Tryz.func72,Tryz.ntmps72;go_wp2_with fail;have BW:=Below.refl w.heap.size w;have b0:Below w.heap.size w w:=Below.refl _ _;obtain⟨U1,hU,bU,s1,rx0,rx1,rx2,rx3,rx4,rx5⟩:=lay6 b0 (.int .i64 op) (.string ⟨#[]⟩) (.string ⟨(c::r:List UInt8).toArray⟩) (.string ⟨(s:List UInt8).toArray⟩) (.int .i64 a) (.int .i64 b) 55;rw[hU];clear hU;clear s1;replace BW:=Below.more BW bU;clear bU;have b1:=Below.refl U1.heap.size U1;go_wp2_with fail;go_ret;exact⟨ret_bool (by first|rfl|simp[*]),Below.more BW b1⟩
theorem nd_ms{op a b:Int}{c:UInt8}{r:List UInt8}(w:World)(h2:¬2≤op)(f0:(op==0)=false)(f1:(op==1)=false):Calls Tryz.prog 72 #[.agg #[.int .i64 op,.string ⟨#[]⟩,.string ⟨#[]⟩,.string ⟨(c::r:List UInt8).toArray⟩,.int .i64 a,.int .i64 b]] w (GiveB w false):=by
 go_enter Tryz.func72,Tryz.ntmps72;go_wp2_with fail;have BW:=Below.refl w.heap.size w;have b0:Below w.heap.size w w:=Below.refl _ _;obtain⟨U1,hU,bU,s1,rx0,rx1,rx2,rx3,rx4,rx5⟩:=lay6 b0 (.int .i64 op) (.string ⟨#[]⟩) (.string ⟨#[]⟩) (.string ⟨(c::r:List UInt8).toArray⟩) (.int .i64 a) (.int .i64 b) 55;rw[hU];clear hU;clear s1;replace BW:=Below.more BW bU;clear bU;have b1:=Below.refl U1.heap.size U1;go_wp2_with fail;go_ret;exact⟨ret_bool (by first|rfl|simp[*]),Below.more BW b1⟩
theorem nd_ma{op a b:Int}(w:World)(h2:¬2≤op)(f0:(op==0)=false)(f1:(op==1)=false)(ea:¬a=0)(fa:(a==0)=false):Calls Tryz.prog 72 #[.agg #[.int .i64 op,.string ⟨#[]⟩,.string ⟨#[]⟩,.string ⟨#[]⟩,.int .i64 a,.int .i64 b]] w (GiveB w false):=by
 go_enter Tryz.func72,Tryz.ntmps72;go_wp2_with fail;have BW:=Below.refl w.heap.size w;have b0:Below w.heap.size w w:=Below.refl _ _;obtain⟨U1,hU,bU,s1,rx0,rx1,rx2,rx3,rx4,rx5⟩:=lay6 b0 (.int .i64 op) (.string ⟨#[]⟩) (.string ⟨#[]⟩) (.string ⟨#[]⟩) (.int .i64 a) (.int .i64 b) 55;rw[hU];clear hU;clear s1;replace BW:=Below.more BW bU;clear bU;have b1:=Below.refl U1.heap.size U1;go_wp2_with fail;go_ret;exact⟨ret_bool (by first|rfl|simp[*]),Below.more BW b1⟩
theorem nd_mb{op b:Int}(w:World)(h2:¬2≤op)(f0:(op==0)=false)(f1:(op==1)=false)(eb:¬b=0)(fb:(b==0)=false):Calls Tryz.prog 72 #[.agg #[.int .i64 op,.string ⟨#[]⟩,.string ⟨#[]⟩,.string ⟨#[]⟩,.int .i64 0,.int .i64 b]] w (GiveB w false):=by
 go_enter Tryz.func72,Tryz.ntmps72;go_wp2_with fail;have BW:=Below.refl w.heap.size w;have b0:Below w.heap.size w w:=Below.refl _ _;obtain⟨U1,hU,bU,s1,rx0,rx1,rx2,rx3,rx4,rx5⟩:=lay6 b0 (.int .i64 op) (.string ⟨#[]⟩) (.string ⟨#[]⟩) (.string ⟨#[]⟩) (.int .i64 0) (.int .i64 b) 55;rw[hU];clear hU;clear s1;replace BW:=Below.more BW bU;clear bU;have b1:=Below.refl U1.heap.size U1;go_wp2_with fail;go_ret;exact⟨ret_bool (by first|rfl|simp[*]),Below.more BW b1⟩
theorem nd_mz{op:Int}(w:World)(h2:¬2≤op)(f0:(op==0)=false)(f1:(op==1)=false):Calls Tryz.prog 72 #[.agg #[.int .i64 op,.string ⟨#[]⟩,.string ⟨#[]⟩,.string ⟨#[]⟩,.int .i64 0,.int .i64 0]] w (GiveB w true):=by
 go_enter Tryz.func72,Tryz.ntmps72;go_wp2_with fail;have BW:=Below.refl w.heap.size w;have b0:Below w.heap.size w w:=Below.refl _ _;obtain⟨U1,hU,bU,s1,rx0,rx1,rx2,rx3,rx4,rx5⟩:=lay6 b0 (.int .i64 op) (.string ⟨#[]⟩) (.string ⟨#[]⟩) (.string ⟨#[]⟩) (.int .i64 0) (.int .i64 0) 55;rw[hU];clear hU;clear s1;replace BW:=Below.more BW bU;clear bU;have b1:=Below.refl U1.heap.size U1;go_wp2_with fail;go_ret;exact⟨ret_bool (by first|rfl|simp[*]),Below.more BW b1⟩
theorem rtnode_any(x:Nd)(w:World)(hn:x.num.1.length≤100000)(hd:x.num.2.length≤100000)(hs:x.ast.length≤4611686018427387904) :
  Calls Tryz.prog 72 #[.agg #[.int .i64 x.op,.string ⟨x.num.1.toArray⟩,.string ⟨x.num.2.toArray⟩,.string ⟨x.ast.toArray⟩,.int .i64 x.a,.int .i64 x.b]] w (GiveB w (okN x)):=by
 obtain⟨op,⟨n,d⟩,s,a,b⟩:=x;dsimp only at hn hd hs ⊢;have cm:∀w,Calls Tryz.prog 44 #[.agg #[.string ⟨n.toArray⟩,.string ⟨d.toArray⟩]] w (GiveB w (isR (n,d))):=fun w=>rqmay_any ⟨n.toArray⟩ ⟨d.toArray⟩ w (by rw[size_of];exact hn) (by rw[size_of];exact hd);have ca:∀w,Calls Tryz.prog 78 #[.string ⟨n.toArray⟩] w fun e w'=>e=.returned (.string ⟨(absW n).toArray⟩)∧w=w':=fun w=>rwabs_any ⟨n.toArray⟩ w (by rw[size_of];omega);have cs:∀w,Calls Tryz.prog 110 #[.string ⟨s.toArray⟩] w (GiveB w (astB s)):=fun w=>rtasset_any ⟨s.toArray⟩ w (by rw[size_of];exact hs);by_cases k0:op=0
 ·subst k0
  cases s with
  | cons c r =>
   have e:okN (Nd.mk 0 (n,d) (c::r) a b)=false:=by unfold Tm.okN;rw[if_pos rfl];rfl
   rw[e];exact nd_0s w
  | nil =>
   by_cases ha:a=0
   ·subst ha;by_cases hb:b=0
    ·subst hb
     cases hr:isR (n,d) with
     | false =>
      have e:okN (Nd.mk 0 (n,d) [] 0 0)=false:=by unfold Tm.okN;rw[if_pos rfl];dsimp only;rw[hr];rfl
      rw[hr]at cm;rw[e];exact nd_0m w (zh cm)
     | true =>
      rw[hr]at cm;by_cases hl:(absW n).length≤60
      ·have e:okN (Nd.mk 0 (n,d) [] 0 0)=decide ((d.length:Int)≤60):=by
        unfold Tm.okN;rw[if_pos rfl];dsimp only;rw[hr,decide_eq_true hl];show decide (d.length≤60)=_;exact decide_eq_decide.2 (by omega)
       rw[e];exact nd_0d w (zh cm) (zh ca) (by omega)
      ·have e:okN (Nd.mk 0 (n,d) [] 0 0)=false:=by unfold Tm.okN;rw[if_pos rfl];dsimp only;rw[hr,decide_eq_false hl];rfl
       rw[e];exact nd_0n w (zh cm) (zh ca) (by omega)
    ·have fb:(b==0)=false:=beq_eq_false_iff_ne.2 hb;have e:okN (Nd.mk 0 (n,d) [] 0 b)=false:=by unfold Tm.okN;rw[if_pos rfl];dsimp only;rw[fb];rfl
     rw[e];exact nd_0b w hb fb
   ·have fa:(a==0)=false:=beq_eq_false_iff_ne.2 ha;have e:okN (Nd.mk 0 (n,d) [] a b)=false:=by unfold Tm.okN;rw[if_pos rfl];dsimp only;rw[fa];rfl
    rw[e];exact nd_0a w ha fa
 by_cases k1:op=1
 ·subst k1
  cases n with
  | cons c r =>
   have e:okN (Nd.mk 1 (c::r,d) s a b)=false:=by unfold Tm.okN;rw[if_neg (by dsimp only;omega),if_pos rfl];rfl
   rw[e];exact nd_1n w
  | nil=>cases d with
   | cons c r =>
    have e:okN (Nd.mk 1 ([],c::r) s a b)=false:=by unfold Tm.okN;rw[if_neg (by dsimp only;omega),if_pos rfl];rfl
    rw[e];exact nd_1d w
   | nil =>
    by_cases hb:b=0
    ·subst hb;have e:okN (Nd.mk 1 ([],[]) s a 0)=(astB s&&(decide (0≤a)&&decide (a≤9999))):=by unfold Tm.okN;rw[if_neg (by dsimp only;omega),if_pos rfl];rfl
     rw[e]
     cases hr:astB s with
     | false=>rw[hr]at cs;exact nd_1s w (zh cs)
     | true =>
      rw[hr]at cs;by_cases ha:0≤a
      ·rw[decide_eq_true ha];exact nd_1z w (zh cs) ha
      ·rw[decide_eq_false ha];exact nd_1a w (zh cs) ha
    ·have fb:(b==0)=false:=beq_eq_false_iff_ne.2 hb;have e:okN (Nd.mk 1 ([],[]) s a b)=false:=by unfold Tm.okN;rw[if_neg (by dsimp only;omega),if_pos rfl];dsimp only;rw[fb];rfl
     rw[e];exact nd_1b w hb fb
 have f0:(op==0)=false:=beq_eq_false_iff_ne.2 k0;have f1:(op==1)=false:=beq_eq_false_iff_ne.2 k1;by_cases h2:2≤op
 ·by_cases h4:op≤4
  ·cases n with
   | cons c r =>
    have e:okN (Nd.mk op (c::r,d) s a b)=false:=by unfold Tm.okN;rw[if_neg k0,if_neg k1,if_pos ⟨h2,h4⟩];rfl
    rw[e];exact nd_2n w h2 h4 f0 f1
   | nil=>cases d with
    | cons c r =>
     have e:okN (Nd.mk op ([],c::r) s a b)=false:=by unfold Tm.okN;rw[if_neg k0,if_neg k1,if_pos ⟨h2,h4⟩];rfl
     rw[e];exact nd_2d w h2 h4 f0 f1
    | nil =>
     have e:okN (Nd.mk op ([],[]) s a b)=(astB s&&(decide (0≤a)&&(decide (b≤9999)&&(decide (a≤b)&&decide (b-a<60))))):=by unfold Tm.okN;rw[if_neg k0,if_neg k1,if_pos ⟨h2,h4⟩];rfl
     rw[e]
     cases hr:astB s with
     | false=>rw[hr]at cs;exact nd_2s w (zh cs) h2 h4 f0 f1
     | true =>
      rw[hr]at cs;by_cases ha:0≤a
      ·rw[decide_eq_true ha];by_cases hb:b≤9999
       ·rw[decide_eq_true hb];by_cases hc:a≤b
        ·rw[decide_eq_true hc];exact nd_2z w (zh cs) h2 h4 f0 f1 ha hb hc (IntWalk.wrap64_in _ ⟨by omega,by omega⟩)
        ·rw[decide_eq_false hc];exact nd_2c w (zh cs) h2 h4 f0 f1 ha hb hc
       ·rw[decide_eq_false hb];exact nd_2b w (zh cs) h2 h4 f0 f1 ha hb
      ·rw[decide_eq_false ha];exact nd_2a w (zh cs) h2 h4 f0 f1 ha
  ·cases n with
   | cons c r =>
    have e:okN (Nd.mk op (c::r,d) s a b)=false:=by unfold Tm.okN;rw[if_neg k0,if_neg k1,if_neg (by dsimp only;omega)];rfl
    rw[e];exact nd_5n w h2 h4 f0 f1
   | nil=>cases d with
    | cons c r =>
     have e:okN (Nd.mk op ([],c::r) s a b)=false:=by unfold Tm.okN;rw[if_neg k0,if_neg k1,if_neg (by dsimp only;omega)];rfl
     rw[e];exact nd_5d w h2 h4 f0 f1
    | nil=>cases s with
     | cons c r =>
      have e:okN (Nd.mk op ([],[]) (c::r) a b)=false:=by unfold Tm.okN;rw[if_neg k0,if_neg k1,if_neg (by dsimp only;omega)];rfl
      rw[e];exact nd_5s w h2 h4 f0 f1
     | nil =>
      by_cases ha:a=0
      ·subst ha;by_cases hb:b=0
       ·subst hb;have e:okN (Nd.mk op ([],[]) [] 0 0)=true:=by unfold Tm.okN;rw[if_neg k0,if_neg k1,if_neg (by dsimp only;omega)];rfl
        rw[e];exact nd_5z w h2 h4 f0 f1
       ·have fb:(b==0)=false:=beq_eq_false_iff_ne.2 hb;have e:okN (Nd.mk op ([],[]) [] 0 b)=false:=by unfold Tm.okN;rw[if_neg k0,if_neg k1,if_neg (by dsimp only;omega)];dsimp only;rw[fb];rfl
        rw[e];exact nd_5b w h2 h4 f0 f1 hb fb
      ·have fa:(a==0)=false:=beq_eq_false_iff_ne.2 ha;have e:okN (Nd.mk op ([],[]) [] a b)=false:=by unfold Tm.okN;rw[if_neg k0,if_neg k1,if_neg (by dsimp only;omega)];dsimp only;rw[fa];rfl
       rw[e];exact nd_5a w h2 h4 f0 f1 ha fa
 ·cases n with
  | cons c r =>
   have e:okN (Nd.mk op (c::r,d) s a b)=false:=by unfold Tm.okN;rw[if_neg k0,if_neg k1,if_neg (by dsimp only;omega)];rfl
   rw[e];exact nd_mn w h2 f0 f1
  | nil=>cases d with
   | cons c r =>
    have e:okN (Nd.mk op ([],c::r) s a b)=false:=by unfold Tm.okN;rw[if_neg k0,if_neg k1,if_neg (by dsimp only;omega)];rfl
    rw[e];exact nd_md w h2 f0 f1
   | nil=>cases s with
    | cons c r =>
     have e:okN (Nd.mk op ([],[]) (c::r) a b)=false:=by unfold Tm.okN;rw[if_neg k0,if_neg k1,if_neg (by dsimp only;omega)];rfl
     rw[e];exact nd_ms w h2 f0 f1
    | nil =>
     by_cases ha:a=0
     ·subst ha;by_cases hb:b=0
      ·subst hb;have e:okN (Nd.mk op ([],[]) [] 0 0)=true:=by unfold Tm.okN;rw[if_neg k0,if_neg k1,if_neg (by dsimp only;omega)];rfl
       rw[e];exact nd_mz w h2 f0 f1
      ·have fb:(b==0)=false:=beq_eq_false_iff_ne.2 hb;have e:okN (Nd.mk op ([],[]) [] 0 b)=false:=by unfold Tm.okN;rw[if_neg k0,if_neg k1,if_neg (by dsimp only;omega)];dsimp only;rw[fb];rfl
       rw[e];exact nd_mb w h2 f0 f1 hb fb
     ·have fa:(a==0)=false:=beq_eq_false_iff_ne.2 ha;have e:okN (Nd.mk op ([],[]) [] a b)=false:=by unfold Tm.okN;rw[if_neg k0,if_neg k1,if_neg (by dsimp only;omega)];dsimp only;rw[fa];rfl
      rw[e];exact nd_ma w h2 f0 f1 ha fa
end Go.Proofs.YtghioekjghmdaaaGreatDoor
