/- Own work. -/
import Derived.Laws.ComplexArith
import Derived.Test.YtmllklfjngapiaaGreatDoorWordNumM
set_option linter.unusedVariables false
set_option linter.unusedSimpArgs false
namespace Go.Proofs.YtmllklfjngapiaaGreatDoor
namespace Fl
def fl(n:Nat):Nat:=if n=0 then 0 else (n.log2+1022)*4503599627370496+n*2 ^ (52-n.log2)
theorem log_lt{n:Nat}(h:n<9007199254740992):n.log2≤52:=by
 by_cases e:n=0
 ·subst e;decide
 ·have:=(Nat.log2_lt e (k:=53)).2 (by rw[show (2:Nat) ^ 53=9007199254740992 by decide];exact h);omega
theorem top{n:Nat}(h0:n≠0)(h:n<9007199254740992):4503599627370496≤n*2 ^ (52-n.log2)∧n*2 ^ (52-n.log2)<9007199254740992:=by
 have hl:=log_lt h;have h1:2 ^ n.log2≤n:=Nat.log2_self_le h0;have h2:n<2 ^ (n.log2+1):=Nat.lt_log2_self;have e:2 ^ n.log2*2 ^ (52-n.log2)=(4503599627370496:Nat):=by rw[←Nat.pow_add,show n.log2+(52-n.log2)=52 by omega]
 have e2:2 ^ (n.log2+1)*2 ^ (52-n.log2)=(9007199254740992:Nat):=by rw[←Nat.pow_add,show n.log2+1+(52-n.log2)=53 by omega]
 refine⟨?_,?_⟩
 ·rw[←e];exact Nat.mul_le_mul_right _ h1
 ·rw[←e2];exact Nat.mul_lt_mul_of_pos_right h2 (Nat.two_pow_pos _)
theorem cut_at(n d:Nat)(way:Ieee.Toward)(hw:way=.even∨way=.zero):way.cut false (n*2 ^ d) d=n:=by
 have hd:d≤(n*2 ^ d).log2+2∨n=0:=by
  by_cases e:n=0
  ·exact .inr e
  ·left
   have h:2 ^ d≤n*2 ^ d:=Nat.le_mul_of_pos_left _ (Nat.pos_of_ne_zero e);have:=(Nat.le_log2 (n:=n*2 ^ d) (k:=d) (by have:=Nat.two_pow_pos d;omega)).2 h;omega
 rcases hd with hd|rfl
 ·unfold Ieee.Toward.cut;have hm:min d ((n*2 ^ d).log2+2)=d:=Nat.min_eq_left hd;have hp:=Nat.two_pow_pos d;simp only[hm,Nat.shiftLeft_eq,Nat.one_mul,Nat.mul_mod_left,Nat.mul_div_cancel _ hp,Nat.mul_zero];rcases hw with rfl|rfl
  ·have a:decide (2 ^ d<0)=false:=decide_eq_false (Nat.not_lt_zero _);have b:(2 ^ d==0)=false:=beq_false_of_ne (by omega);simp only[a,b,Bool.false_and,Bool.or_false]
   rfl
  ·rfl
 ·unfold Ieee.Toward.cut;rcases hw with rfl|rfl
  ·simp only[Nat.zero_mul,Nat.zero_mod,Nat.zero_div,Nat.mul_zero];have hp:=Nat.two_pow_pos (min d (Nat.log2 0+2));have b:(1 <<< min d (Nat.log2 0+2)==0)=false:=beq_false_of_ne (by rw[Nat.shiftLeft_eq];omega);simp only[Nat.not_lt_zero,decide_false,b,Bool.false_and,Bool.or_false]
   rfl
  ·simp only[Nat.zero_mul,Nat.zero_div]
   rfl
theorem lp:Ieee.double.leastPlace=-1074:=by decide
theorem bn:Ieee.double.binade=4503599627370496:=by decide
theorem ir:Ieee.double.infRung=9218868437227405312:=by decide
theorem sw:Ieee.double.signWeight=9223372036854775808:=by decide
theorem near_at(neg:Bool)(mag:Nat)(place last:Int)(kept:Nat)(h:mag≠0)(hl:max (place+mag.log2-52) (-1074)=last)(hk:Ieee.Toward.even.cut neg (mag <<< (place-last).toNat) (last-place).toNat=kept) :
  Ieee.double.nearest neg mag place=Ieee.double.word neg (min ((last+1074).toNat*4503599627370496+kept) 9218868437227405312):=by
 unfold Ieee.Format.nearest;rw[if_neg h];have e1:max (place+(mag.log2:Int)-(Ieee.double.fractionBits:Int)) Ieee.double.leastPlace=last:=by rw[lp];exact hl
 have e2:(last-Ieee.double.leastPlace).toNat=(last+1074).toNat:=by rw[lp,Int.sub_neg]
 simp only[e1,hk,e2,bn,ir]
theorem small{L q:Nat}(hl:L≤52)(hq:q<9007199254740992):(L+1022)*4503599627370496+q≤9218868437227405312:=by
 omega
theorem back{L:Nat}:(-1074:Int)+((L+1023-1:Nat):Int)=-((52-L:Nat):Int)∨52<L:=by omega
theorem word_f(r:Nat):Ieee.double.word false r=r:=by
 unfold Ieee.Format.word;exact if_neg (by decide)
theorem near_0(place:Int):Ieee.double.write (.number false 0 place)=fl 0:=by
 show Ieee.double.nearest false 0 place=_;unfold Ieee.Format.nearest;rw[if_pos rfl];unfold Ieee.Format.word fl;rw[if_neg (by decide),if_pos rfl]
theorem kept_at(n k L:Nat)(hl:L≤52):Ieee.Toward.even.cut false ((n*2 ^ k) <<< (-(k:Int)-((L:Int)-52)).toNat) (((L:Int)-52)-(-(k:Int))).toNat=n*2 ^ (52-L):=by
 by_cases c:k+L≤52
 ·have f1:(-(k:Int)-((L:Int)-52)).toNat=52-L-k:=by omega
  have f2:(((L:Int)-52)-(-(k:Int))).toNat=0:=by omega
  rw[f1,f2,Nat.shiftLeft_eq,Nat.mul_assoc,← Nat.pow_add,show k+(52-L-k)=52-L by omega];have:=cut_at (n*2 ^ (52-L)) 0 .even (.inl rfl);rw[Nat.pow_zero,Nat.mul_one]at this;exact this
 ·have f1:(-(k:Int)-((L:Int)-52)).toNat=0:=by omega
  have f2:(((L:Int)-52)-(-(k:Int))).toNat=k-(52-L):=by omega
  rw[f1,f2,Nat.shiftLeft_eq,Nat.pow_zero,Nat.mul_one];have e:n*2 ^ k=n*2 ^ (52-L)*2 ^ (k-(52-L)):=by rw[Nat.mul_assoc,← Nat.pow_add,show 52-L+(k-(52-L))=k by omega]
  rw[e];exact cut_at _ _ .even (.inl rfl)
theorem log_at{n:Nat}(k:Nat)(h0:n≠0)(hk:n*2 ^ k≠0):(n*2 ^ k).log2=n.log2+k:=by
 have a:2 ^ (n.log2+k)≤n*2 ^ k:=by rw[Nat.pow_add];exact Nat.mul_le_mul_right _ (Nat.log2_self_le h0)
 have b:n*2 ^ k<2 ^ (n.log2+k+1):=by
  rw[show n.log2+k+1=n.log2+1+k by omega,Nat.pow_add];exact Nat.mul_lt_mul_of_pos_right Nat.lt_log2_self (Nat.two_pow_pos _)
 have a':=(Nat.le_log2 hk).2 a;have b':=(Nat.log2_lt hk).2 b;omega
theorem write_at(n k:Nat)(h:n<9007199254740992):Ieee.double.write (.number false (n*2 ^ k) (-(k:Int)))=fl n:=by
 by_cases h0:n=0
 ·subst h0;rw[Nat.zero_mul];exact near_0 _
 have hl:=log_lt h;obtain⟨t1,t2⟩:=top h0 h;have hk:n*2 ^ k≠0:=Nat.mul_ne_zero h0 (by have:=Nat.two_pow_pos k;omega);have hlog:=log_at k h0 hk;have kept:=kept_at n k _ hl;have e1:max (-(k:Int)+((n*2 ^ k).log2:Int)-52) (-1074)=(n.log2:Int)-52:=by
  rw[hlog];omega
 show Ieee.Format.nearest _ _ _ _=_;rw[near_at false _ _ _ _ hk e1 kept];have e2:((n.log2:Int)-52+1074).toNat=n.log2+1022:=by omega
 rw[e2];unfold fl;rw[if_neg h0];rw[word_f];exact Nat.min_eq_left (small hl t2)
theorem read_at(n:Nat)(h:n<9007199254740992):∃k:Nat,Ieee.double.read (fl n)=.number false (n*2 ^ k) (-(k:Int)):=by
 by_cases h0:n=0
 ·subst h0;have key:∀k:Nat,(k:Int)=1074→Ieee.double.read (fl 0)=.number false (0*2 ^ k) (-(k:Int)):=fun k e=>by
   rw[Nat.zero_mul,e];decide
  obtain⟨k,hk⟩:∃k:Nat,(k:Int)=1074:=⟨1074,rfl⟩;exact⟨k,key k hk⟩
 have hl:=log_lt h;obtain⟨t1,t2⟩:=top h0 h;refine⟨52-n.log2,?_⟩;have e0:fl n=(n.log2+1023)*4503599627370496+(n*2 ^ (52-n.log2)-4503599627370496):=by
  unfold fl;rw[if_neg h0];omega
 have hr:n*2 ^ (52-n.log2)-4503599627370496<4503599627370496:=by omega
 generalize hq:n*2 ^ (52-n.log2)-4503599627370496=r at *;have hm:n*2 ^ (52-n.log2)=4503599627370496+r:=by omega
 have hlt:fl n<9218868437227405312:=by rw[e0];omega
 unfold Ieee.Format.read;rw[bn,ir,sw,lp];have d1:fl n / 9223372036854775808 % 2=0:=by omega
 have d2:fl n % 9223372036854775808=fl n:=Nat.mod_eq_of_lt (by omega);have d3:fl n % 4503599627370496=r:=by omega
 have d4:fl n / 4503599627370496=n.log2+1023:=by omega
 simp only[d1,d2,d3,d4];rw[if_neg (by omega),if_pos hlt,hm];rw[back.resolve_right (by omega)]
 rfl
theorem sum_at(a b i j:Nat):∃k:Nat,Ieee.Datum.sum (.number false (a*2 ^ i) (-(i:Int))) (.number false (b*2 ^ j) (-(j:Int)))=some (.number false ((a+b)*2 ^ k) (-(k:Int))):=by
 refine⟨max i j,?_⟩;have hb:min (-(i:Int)) (-(j:Int))=-((max i j:Nat):Int):=by omega
 unfold Ieee.Datum.sum;simp only[hb];have f1:(-(i:Int) - -((max i j:Nat):Int)).toNat=max i j-i:=by omega
 have f2:(-(j:Int) - -((max i j:Nat):Int)).toNat=max i j-j:=by omega
 have g:Ieee.signed false (a*2 ^ i) (max i j-i)+Ieee.signed false (b*2 ^ j) (max i j-j)=(((a+b)*2 ^ max i j:Nat):Int):=by
  unfold Ieee.signed;rw[if_neg (by decide),if_neg (by decide),Nat.shiftLeft_eq,Nat.shiftLeft_eq,Nat.mul_assoc,Nat.mul_assoc,← Nat.pow_add,← Nat.pow_add,show i+(max i j-i)=max i j by omega,show j+(max i j-j)=max i j by omega,Nat.add_mul,Int.natCast_add]
 rw[f1,f2,g];have hz:(if (((a+b)*2 ^ max i j:Nat):Int)=0 then false&&false else decide ((((a+b)*2 ^ max i j:Nat):Int)<0))=false:=by
  split
  ·rfl
  ·exact decide_eq_false (by omega)
 rw[hz,Int.natAbs_natCast]
theorem add_fl(a b:Nat)(h:a+b<9007199254740992):Ieee.double.add (fl a) (fl b)=some (fl (a+b)):=by
 obtain⟨i,hi⟩:=read_at a (by omega);obtain⟨j,hj⟩:=read_at b (by omega);obtain⟨k,hk⟩:=sum_at a b i j;unfold Ieee.Format.add;rw[hi,hj,hk];show some (Ieee.double.write _)=_;rw[write_at _ _ h]
theorem int_fl(n:Nat)(h:n<9007199254740992):(Ieee.double.read (fl n)).toInt .zero=some (n:Int):=by
 obtain⟨k,hk⟩:=read_at n h;rw[hk];unfold Ieee.Datum.toInt Ieee.Datum.integral;have f1:(-(k:Int)).toNat=0:=by omega
 have f2:(- -(k:Int)).toNat=k:=by omega
 simp only[f1,f2,Nat.shiftLeft_eq,Nat.pow_zero,Nat.mul_one];rw[cut_at n k .zero (.inr rfl)];unfold Ieee.signed;rw[if_neg (by decide),Nat.shiftLeft_eq,Nat.pow_zero,Nat.mul_one]
theorem of_int(n:Nat)(h:n<9007199254740992):floatOfInt .f64 (n:Int)=fl n:=by
 have e:decide ((n:Int)<0)=false:=decide_eq_false (by omega);have:=write_at n 0 h;rw[Nat.pow_zero,Nat.mul_one]at this;show Ieee.double.write (.number (decide ((n:Int)<0)) (n:Int).natAbs 0)=_;rw[e,Int.natAbs_natCast];exact this
theorem sum_bits(a b:Nat)(h:a+b<9007199254740992):floatBits .add .f64 (fl a) (fl b)=some (fl (a+b)):=add_fl a b h
theorem csum_bits(a b c d:Nat)(h:a+c<9007199254740992)(h':b+d<9007199254740992):cSumBits .add .f64 (fl a) (fl b) (fl c) (fl d)=some (fl (a+c),fl (b+d)):=by
 unfold cSumBits;rw[sum_bits a c h,sum_bits b d h']
 rfl
theorem int_bits(n:Nat)(h:n<9007199254740992):floatToIntVal .f64 (fl n) .i64=some (n:Int):=by
 have e:(FloatKind.f64.decode (fl n)).toInt .zero=some (n:Int):=int_fl n h;have h1:IntKind.i64.min=-9223372036854775808:=by decide
 have h2:IntKind.i64.max=9223372036854775807:=by decide
 have c:IntKind.i64.min≤(n:Int)∧(n:Int)≤IntKind.i64.max:=by rw[h1,h2];omega
 unfold floatToIntVal;rw[e];exact if_pos c
theorem fl_0:fl 0=0:=by decide
theorem fl_1:fl 1=4607182418800017408:=by decide +kernel
end Fl
end Go.Proofs.YtmllklfjngapiaaGreatDoor
namespace Go.Proofs.YtmllklfjngapiaaGreatDoor
open Go.RowKit
theorem drop_at(s:ByteArray)(k:Nat)(h:k<s.size):s.data.toList.drop k=s[k]::s.data.toList.drop (k+1):=by
 have hl:k<s.data.toList.length:=by rw[size_toList];exact h
 have e:=byte_at s k h;rw[List.drop_eq_getElem_cons hl];rw[List.getElem?_eq_getElem hl]at e;rw[Option.some.inj e]
def GiveQ(w:World)(v:Value)(e:Ending)(w':World):Prop:=e=.returned v∧w'=w
theorem ret_b{a b:Bool}(h:a=b):Ending.returned (.bool a)=.returned (.bool b):=by rw[h]
theorem ret_n{a b:Nat}(h:a=b):Ending.returned (.int .i64 (a:Int))=.returned (.int .i64 (b:Int)):=by rw[h]
end Go.Proofs.YtmllklfjngapiaaGreatDoor
namespace Go.Proofs.YtmllklfjngapiaaGreatDoor
open Go.RowKit
end Go.Proofs.YtmllklfjngapiaaGreatDoor
namespace Go.Proofs.YtmllklfjngapiaaGreatDoor
open Go.RowKit
open Wd (Tk lexAt lexD)
def encT(t:Tk):List Value:=[.int .i64 (t.kind:Int),.string ⟨t.text.toArray⟩,.int .i64 (t.line:Int),.int .i64 (t.col:Int)]
theorem encT_one(t:Tk):∀v∈encT t,v.oneCell'=true:=fun v hv=>by
 unfold encT at hv;simp only[List.mem_cons,List.not_mem_nil,or_false]at hv;rcases hv with rfl|rfl|rfl|rfl<;>rfl
theorem tokInfo:(Tryz.prog.info? 73).map (fun i=>(i.zero,i.size,i.bytes))=some (some (.agg #[.int .i64 0,.string ⟨#[]⟩,.int .i64 0,.int .i64 0]),4,40):=by kernel_rfl
abbrev Toks(w:World)(p:Option Addr)(l:List Tk):Prop:=RowsG encT 4 w p l
abbrev OwnT(B:Nat)(w:World)(v:Value)(l:List Tk):Prop:=OwnG encT 4 73 B w v l
def GiveLex(w:World)(r:List Tk×Int×Nat×Nat)(e:Ending)(w':World):Prop:=(∃p c,e=.returned (.tuple #[.slice p r.1.length c,.int .i64 r.2.1,.int .i64 (r.2.2.1:Int),.int .i64 (r.2.2.2:Int)])∧r.1.length≤c∧Toks w' p r.1)∧Below w.heap.size w w'
theorem cut_text(s:ByteArray)(i m:Nat):s.extract i (i+m)=⟨((s.data.toList.drop i).take m).toArray⟩:=by
 refine bytes_eq ?_;rw[Lib.extract_data];show _=(s.data.toList.drop i).take m
 first
  | rfl
  | (rw[Nat.add_sub_cancel_left])
  | (rw[List.drop_take,Nat.add_sub_cancel_left])
end Go.Proofs.YtmllklfjngapiaaGreatDoor
namespace Go.Proofs.YtmllklfjngapiaaGreatDoor
open Go.RowKit
open Wd (Tk printT ktT)
theorem size_tx(l:List UInt8):(⟨l.toArray⟩:ByteArray).size=l.length:=by show l.toArray.size=_;simp
section
variable {T : Type} [DecidableEq T]
end
theorem tk_eq{a c d a' c' d':Nat}{b b':List UInt8}(e:Tk.mk a b c d=Tk.mk a' b' c' d'):a=a'∧b=b'∧c=c'∧d=d':=by
 injection e with e0 e1 e2 e3
 exact⟨e0,e1,e2,e3⟩
instance:DecidableEq Tk:=fun⟨a,b,c,d⟩ ⟨a',b',c',d'⟩ =>
 if h:a=a'∧b=b'∧c=c'∧d=d' then isTrue (by obtain⟨rfl,rfl,rfl,rfl⟩:=h;rfl) else isFalse fun e=>h (tk_eq e)
end Go.Proofs.YtmllklfjngapiaaGreatDoor
namespace Go.Proofs.YtmllklfjngapiaaGreatDoor
open Go.RowKit
open Wd (Tk printT ktT lexAt lexD)
variable {G : World → Prop}
end Go.Proofs.YtmllklfjngapiaaGreatDoor
set_option maxHeartbeats 4000000
set_option maxRecDepth 100000
namespace Go.Proofs.YtmllklfjngapiaaGreatDoor
open Go.RowKit
open Fl (fl)
abbrev plV(l c:Nat):Value:=.complex .f64 (fl l) (fl c)
theorem wline_any(l c:Nat)(w:World)(h:l<9007199254740992):Calls Tryz.prog 62 #[plV l c] w (GiveQ w (.int .i64 (l:Int))):=by
 have hc:∀w,(convert 106 3 (.float .f64 (fl l))).run Tryz.prog w=.ok (.int .i64 (l:Int)) w:=fun w=>run_convert_float_int w 106 3 .f64 .i64 (fl l) _ (by rw[Tryz.underlying106];rfl) Tryz.underlying3 (Fl.int_bits _ h);unfold plV;generalize fl l=a at *;generalize fl c=b at *;go_enter Tryz.func62,Tryz.ntmps62;go_wp2_with (simp only[hc])
 all_goals (go_ret;exact⟨rfl,rfl⟩)
theorem wcolumn_any(l c:Nat)(w:World)(h:c<9007199254740992):Calls Tryz.prog 63 #[plV l c] w (GiveQ w (.int .i64 (c:Int))):=by
 have hc:∀w,(convert 106 3 (.float .f64 (fl c))).run Tryz.prog w=.ok (.int .i64 (c:Int)) w:=fun w=>run_convert_float_int w 106 3 .f64 .i64 (fl c) _ (by rw[Tryz.underlying106];rfl) Tryz.underlying3 (Fl.int_bits _ h);unfold plV;generalize fl l=a at *;generalize fl c=b at *;go_enter Tryz.func63,Tryz.ntmps63;go_wp2_with (simp only[hc])
 all_goals (go_ret;exact⟨rfl,rfl⟩)
theorem wbehind_any(l c n:Nat)(w:World)(hl:l<9007199254740992)(h:c+n<9007199254740992):Calls Tryz.prog 36 #[plV l c,.int .i64 (n:Int)] w (GiveQ w (plV l (c+n))):=by
 have hc:∀w,(convert 3 106 (.int .i64 (n:Int))).run Tryz.prog w=.ok (.float .f64 (fl n)) w:=fun w=>by
  have k:=run_convert_int_float (P:=Tryz.prog) w 3 106 .i64 .f64 (n:Int) (by rw[Tryz.underlying3];rfl) Tryz.underlying106;rw[Fl.of_int n (by omega)]at k;exact k
 have hs:∀t w,(binOp .add t (.complex .f64 (fl l) (fl c)) (.complex .f64 0 (fl n))).run Tryz.prog w=.ok (.complex .f64 (fl l) (fl (c+n))) w:=fun t w=>by
  have k:=Fl.csum_bits l c 0 n (by omega) h;rw[Fl.fl_0]at k;exact run_complex_sum (P:=Tryz.prog) w .add (Or.inl rfl) t .f64 _ _ _ _ _ _ k
 unfold plV;generalize fl (c+n)=d at *;generalize fl l=a at *;generalize fl c=b at *;generalize fl n=e at *;go_enter Tryz.func36,Tryz.ntmps36;go_wp2_with (first|simp only[hc]|simp only[hs])
 all_goals (go_ret;exact⟨rfl,rfl⟩)
theorem wbelow_any(l c:Nat)(w:World)(h:l+1<9007199254740992):Calls Tryz.prog 64 #[plV l c] w (GiveQ w (plV (l+1) 1)):=by
 have hs:∀t w,(binOp .add t (.float .f64 (fl l)) (.float .f64 4607182418800017408)).run Tryz.prog w=.ok (.float .f64 (fl (l+1))) w:=fun t w=>by
  have k:=Fl.sum_bits l 1 h;rw[Fl.fl_1]at k;exact run_float_arith (P:=Tryz.prog) w .add t .f64 _ _ _ k
 unfold plV;rw[Fl.fl_1];generalize fl (l+1)=d at *;generalize fl l=a at *;generalize fl c=b at *;go_enter Tryz.func64,Tryz.ntmps64;go_wp2_with (simp only[hs])
 all_goals (go_ret;exact⟨rfl,rfl⟩)
theorem wletter_any(c:UInt8)(w:World):Calls Tryz.prog 65 #[.int .u8 (c.toNat:Int)] w (GiveQ w (.bool (Wd.isLet c))):=by
 have HR:Hid (Wd.isLet c=(decide ((97:Int)≤(c.toNat:Int))&&decide ((c.toNat:Int)≤122))):=zh (by
  unfold Wd.isLet;rw[show decide (97≤c.toNat)=decide ((97:Int)≤(c.toNat:Int)) from decide_eq_decide.2 (by omega),show decide (c.toNat≤122)=decide ((c.toNat:Int)≤122) from decide_eq_decide.2 (by omega)])
 by_cases h1:(97:Int)≤(c.toNat:Int)
 ·by_cases h2:(c.toNat:Int)≤122
  ·rw[decide_eq_true h1,decide_eq_true h2]at HR;go_enter Tryz.func65,Tryz.ntmps65
   go_wp2
   go_ret;exact⟨ret_b (by rw[HR.out];rfl),rfl⟩
  ·rw[decide_eq_true h1,decide_eq_false h2]at HR;go_enter Tryz.func65,Tryz.ntmps65
   go_wp2
   go_ret;exact⟨ret_b (by rw[HR.out];simp[h2]),rfl⟩
 ·rw[decide_eq_false h1]at HR;go_enter Tryz.func65,Tryz.ntmps65
  go_wp2
  go_ret;exact⟨ret_b (by rw[HR.out];simp[h1]),rfl⟩
theorem wdigit_any(c:UInt8)(w:World):Calls Tryz.prog 68 #[.int .u8 (c.toNat:Int)] w (GiveQ w (.bool (Wd.isDig c))):=by
 have HR:Hid (Wd.isDig c=(decide ((48:Int)≤(c.toNat:Int))&&decide ((c.toNat:Int)≤57))):=zh (by
  unfold Wd.isDig;rw[show decide (48≤c.toNat)=decide ((48:Int)≤(c.toNat:Int)) from decide_eq_decide.2 (by omega),show decide (c.toNat≤57)=decide ((c.toNat:Int)≤57) from decide_eq_decide.2 (by omega)])
 by_cases h1:(48:Int)≤(c.toNat:Int)
 ·by_cases h2:(c.toNat:Int)≤57
  ·rw[decide_eq_true h1,decide_eq_true h2]at HR;go_enter Tryz.func68,Tryz.ntmps68
   go_wp2
   go_ret;exact⟨ret_b (by rw[HR.out];rfl),rfl⟩
  ·rw[decide_eq_true h1,decide_eq_false h2]at HR;go_enter Tryz.func68,Tryz.ntmps68
   go_wp2
   go_ret;exact⟨ret_b (by rw[HR.out];simp[h2]),rfl⟩
 ·rw[decide_eq_false h1]at HR;go_enter Tryz.func68,Tryz.ntmps68
  go_wp2
  go_ret;exact⟨ret_b (by rw[HR.out];simp[h1]),rfl⟩
theorem wnamed_any(c:UInt8)(w:World):Calls Tryz.prog 67 #[.int .u8 (c.toNat:Int)] w (GiveQ w (.bool (Wd.isLD c))):=by
 have c1:=wletter_any c;have c2:=wdigit_any c;unfold Wd.isLD;generalize Wd.isDig c=d at *
 cases hp:Wd.isLet c with
 | true =>
  rw[hp]at c1;have C1:=zh c1;clear c1 c2 hp;go_enter Tryz.func67,Tryz.ntmps67;go_wp2_with (first|(go_at_call 65;refine(C1.out _).mono ?_;rintro e w1 ⟨rfl,rfl⟩)|fail);go_ret;exact⟨rfl,rfl⟩
 | false =>
  rw[hp]at c1;have C1:=zh c1;have C2:=zh c2;clear c1 c2 hp
  go_enter Tryz.func67,Tryz.ntmps67;go_wp2_with (first|(go_at_call 65;refine(C1.out _).mono ?_;rintro e w1 ⟨rfl,rfl⟩)|(go_at_call 68;refine(C2.out _).mono ?_;rintro e w1 ⟨rfl,rfl⟩)|fail);go_ret;exact⟨rfl,rfl⟩
theorem wcount_named(s:ByteArray)(w:World)(hs:s.size≤4611686018427387904):Calls Tryz.prog 66 #[.string s,.func (.func 67) #[] #[]] w (GiveQ w (.int .i64 ((Wd.run Wd.isLD s.data.toList:Nat):Int))):=by
 go_enter Tryz.func66,Tryz.ntmps66
 go_wp2
 go_loop [8] (fun v=>∃k:Nat,k≤s.size∧v=.int .i64 k∧Hid (k+Wd.run Wd.isLD (s.data.toList.drop k)=Wd.run Wd.isLD s.data.toList)) (fun v=>s.size-(intOf v).toNat)
 case atStart=>exact⟨0,Nat.zero_le _,rfl,zh (by rw[List.drop_zero,Nat.zero_add])⟩
 case round =>
  obtain⟨k,hk,rfl,HJ⟩:=hrel;by_cases hlt:k<s.size
  ·have c1:=fun w=>wnamed_any s[k] w
   cases hp:Wd.isLD s[k] with
   | true =>
    rw[hp]at c1;have HE:Hid (Wd.run Wd.isLD (s.data.toList.drop k)=Wd.run Wd.isLD (s.data.toList.drop (k+1))+1):=zh (by rw[drop_at s k hlt,Wd.run_pos hp]);have C1:=zh c1;clear c1 hp;go_wp2_with fail;refine(C1.out _).mono ?_;rintro e w' ⟨rfl,rfl⟩;go_wp2_with fail
    go_round
    case rel=>exact⟨k+1,hlt,by go_num,zh (by have:=HJ.out;have:=HE.out;omega)⟩
    case measure=>simp[intOf];omega
   | false =>
    rw[hp]at c1;have HE:Hid (Wd.run Wd.isLD (s.data.toList.drop k)=0):=zh (by rw[drop_at s k hlt];unfold Wd.run;rw[hp];rfl);have C1:=zh c1;clear c1 hp;go_wp2_with fail;refine(C1.out _).mono ?_;rintro e w' ⟨rfl,rfl⟩;go_wp2_with fail;go_ret;exact⟨ret_n (by have:=HJ.out;have:=HE.out;omega),rfl⟩
  ·obtain rfl:k=s.size:=by omega
   have HE:Hid (Wd.run Wd.isLD (s.data.toList.drop s.size)=0):=zh (by rw[List.drop_of_length_le (by rw[size_toList];exact Nat.le_refl _)];rfl);go_wp2_with fail;go_ret;exact⟨ret_n (by have:=HJ.out;have:=HE.out;omega),rfl⟩
theorem wcount_digit(s:ByteArray)(w:World)(hs:s.size≤4611686018427387904):Calls Tryz.prog 66 #[.string s,.func (.func 68) #[] #[]] w (GiveQ w (.int .i64 ((Wd.run Wd.isDig s.data.toList:Nat):Int))):=by
 go_enter Tryz.func66,Tryz.ntmps66
 go_wp2
 go_loop [8] (fun v=>∃k:Nat,k≤s.size∧v=.int .i64 k∧Hid (k+Wd.run Wd.isDig (s.data.toList.drop k)=Wd.run Wd.isDig s.data.toList)) (fun v=>s.size-(intOf v).toNat)
 case atStart=>exact⟨0,Nat.zero_le _,rfl,zh (by rw[List.drop_zero,Nat.zero_add])⟩
 case round =>
  obtain⟨k,hk,rfl,HJ⟩:=hrel;by_cases hlt:k<s.size
  ·have c1:=fun w=>wdigit_any s[k] w
   cases hp:Wd.isDig s[k] with
   | true =>
    rw[hp]at c1;have HE:Hid (Wd.run Wd.isDig (s.data.toList.drop k)=Wd.run Wd.isDig (s.data.toList.drop (k+1))+1):=zh (by rw[drop_at s k hlt,Wd.run_pos hp]);have C1:=zh c1;clear c1 hp;go_wp2_with fail;refine(C1.out _).mono ?_;rintro e w' ⟨rfl,rfl⟩;go_wp2_with fail
    go_round
    case rel=>exact⟨k+1,hlt,by go_num,zh (by have:=HJ.out;have:=HE.out;omega)⟩
    case measure=>simp[intOf];omega
   | false =>
    rw[hp]at c1;have HE:Hid (Wd.run Wd.isDig (s.data.toList.drop k)=0):=zh (by rw[drop_at s k hlt];unfold Wd.run;rw[hp];rfl);have C1:=zh c1;clear c1 hp;go_wp2_with fail;refine(C1.out _).mono ?_;rintro e w' ⟨rfl,rfl⟩;go_wp2_with fail;go_ret;exact⟨ret_n (by have:=HJ.out;have:=HE.out;omega),rfl⟩
  ·obtain rfl:k=s.size:=by omega
   have HE:Hid (Wd.run Wd.isDig (s.data.toList.drop s.size)=0):=zh (by rw[List.drop_of_length_le (by rw[size_toList];exact Nat.le_refl _)];rfl);go_wp2_with fail;go_ret;exact⟨ret_n (by have:=HJ.out;have:=HE.out;omega),rfl⟩
end Go.Proofs.YtmllklfjngapiaaGreatDoor
