/- Own work. -/
import Derived.Test.YtmllklfjngapiaaGreatDoorAllWdAM
import Derived.Deep.CutRange
import Derived.Test.YtmllklfjngapiaaGreatDoorParNumE
set_option linter.unusedSimpArgs false
set_option linter.unusedVariables false
set_option maxHeartbeats 4000000
set_option maxRecDepth 100000
namespace Go.Proofs.YtmllklfjngapiaaGreatDoor
open Go.RowKit
open Fl (fl)
theorem cut_rest(s:ByteArray)(i:Nat):s.extract i s.size=⟨(s.data.toList.drop i).toArray⟩:=by
 refine bytes_eq ?_;rw[Lib.extract_data];show _=s.data.toList.drop i;rw[←size_toList]
 first
  | rfl
  | (rw[List.take_length])
  | (rw[List.take_of_length_le (by rw[List.length_drop];exact Nat.le_refl _)])
  | (rw[List.take_length,List.drop_drop])
theorem pre_no{u:List UInt8}(h:∀r,u≠46::r):Lib.hasPrefix u [46]=false:=by
 match u with
 | []=>rfl
 | x::r =>
  have hx:(46:UInt8)≠x:=fun e=>h r (by rw[←e]);show ((46:UInt8)==x&&true)=false;rw[beq_false_of_ne hx];rfl
theorem pre_yes(r:List UInt8):Lib.hasPrefix (46::r) [46]=true:=by
 show ((46:UInt8)==46&&true)=true
 rfl
theorem dot_other{u:List UInt8}(h:∀r,u≠46::r):Wd.dotD u=false:=by
 match u with
 | []=>rfl
 | x::r=>exact Wd.dot_no (fun e=>h r (by rw[e])) r
theorem dot_run(r:List UInt8):Wd.dotD (46::r)=!decide (Wd.run Wd.isDig r=0):=by
 match r with
 | []=>rfl
 | d::t =>
  show Wd.isDig d=_
  cases e:Wd.isDig d with
  | true=>rw[Wd.run_pos e,decide_eq_false (by omega)];rfl
  | false =>
   have:Wd.run Wd.isDig (d::t)=0:=by unfold Wd.run;rw[e];rfl
   rw[this];rfl
theorem wnumber_any(s:ByteArray)(w:World)(hs:s.size≤4000000000000000000):Calls Tryz.prog 69 #[.string s] w (GiveQ w (.int .i64 ((Wd.numL s.data.toList:Nat):Int))):=by
 have c0:=fun w=>wcount_digit s w (by omega);have hle:=Wd.run_le Wd.isDig s.data.toList;have hn:Wd.numL s.data.toList=if Wd.dotD (s.data.toList.drop (Wd.run Wd.isDig s.data.toList)) then Wd.run Wd.isDig s.data.toList+1+Wd.run Wd.isDig (s.data.toList.drop (Wd.run Wd.isDig s.data.toList+1)) else Wd.run Wd.isDig s.data.toList:=rfl
 rw[size_toList]at hle;have hx:=cut_rest s (Wd.run Wd.isDig s.data.toList);have hd:=List.drop_drop (i:=1) (j:=Wd.run Wd.isDig s.data.toList) (l:=s.data.toList);rw[←hd]at hn;generalize Wd.numL s.data.toList=m at *;have hu:(s.data.toList.drop (Wd.run Wd.isDig s.data.toList)).length≤s.size:=by rw[List.length_drop,size_toList];omega
 generalize s.data.toList.drop (Wd.run Wd.isDig s.data.toList)=u at *;generalize Wd.run Wd.isDig s.data.toList=a at *;clear hd;have c1:=fun w=>Tryz.strings_CutPrefix ⟨u.toArray⟩ ⟨#[46]⟩ w;have hs0:¬((a:Nat):Int)<0:=by omega
 by_cases hp:∃r,u=46::r
 ·obtain⟨r,rfl⟩:=hp;have e1:Lib.hasPrefix (⟨(46::r:List UInt8).toArray⟩:ByteArray).data.toList (⟨#[46]⟩:ByteArray).data.toList=true:=pre_yes r;have e2:Lib.trimPrefix (⟨(46::r:List UInt8).toArray⟩:ByteArray).data.toList (⟨#[46]⟩:ByteArray).data.toList=r:=by
   unfold Lib.trimPrefix;rw[e1,if_pos rfl];rfl
  rw[e1,e2]at c1;rw[List.drop_one,List.tail_cons,dot_run]at hn;have hr:(⟨r.toArray⟩:ByteArray).size=r.length:=by show r.toArray.size=_;simp
  have c2:=fun w=>wcount_digit ⟨r.toArray⟩ w (by rw[hr];rw[List.length_cons]at hu;omega);have hrl:=Wd.run_le Wd.isDig r;rw[List.length_cons]at hu;have c2:∀w,Calls Tryz.prog 66 #[.string ⟨r.toArray⟩,.func (.func 68) #[] #[]] w (GiveQ w (.int .i64 ((Wd.run Wd.isDig r:Nat):Int))):=c2;generalize Wd.run Wd.isDig r=b at *;have C0:=zh c0;have C1:=zh c1;have C2:=zh c2
  clear c0 c1 c2 hr e1 e2;by_cases hb:b=0
  ·subst hb;have HN:Hid (m=a):=zh hn;clear hn;go_enter Tryz.func69,Tryz.ntmps69;go_wp2_with fail;refine(C0.out _).mono ?_;rintro e w1 ⟨rfl,rfl⟩;go_wp2_with fail;refine(C1.out _).mono ?_;rintro e w1 ⟨rfl,rfl⟩;go_wp2_with fail;refine(C2.out _).mono ?_;rintro e w1 ⟨rfl,rfl⟩;go_wp2_with fail;go_ret;exact⟨ret_n HN.out.symm,rfl⟩
  ·have HN:Hid (m=a+1+b):=zh (by rw[hn,decide_eq_false hb];rfl);have hb':((b:Int)==0)=false:=beq_false_of_ne (by omega);clear hn;go_enter Tryz.func69,Tryz.ntmps69;go_wp2_with fail;refine(C0.out _).mono ?_;rintro e w1 ⟨rfl,rfl⟩;go_wp2_with fail;refine(C1.out _).mono ?_;rintro e w1 ⟨rfl,rfl⟩;go_wp2_with fail;refine(C2.out _).mono ?_;rintro e w1 ⟨rfl,rfl⟩;go_wp2_with fail;refine(C2.out _).mono ?_;rintro e w1 ⟨rfl,rfl⟩;go_wp2_with fail;go_ret;exact⟨by rw[HN.out];try simp,rfl⟩
 ·have hp:∀r,u≠46::r:=fun r e=>hp ⟨r,e⟩;have e1:Lib.hasPrefix (⟨u.toArray⟩:ByteArray).data.toList (⟨#[46]⟩:ByteArray).data.toList=false:=pre_no hp;rw[e1]at c1;rw[dot_other hp]at hn;have HN:Hid (m=a):=zh hn;have C0:=zh c0;have C1:=zh c1
  clear c0 c1 hn e1 hp;go_enter Tryz.func69,Tryz.ntmps69;go_wp2_with fail;refine(C0.out _).mono ?_;rintro e w1 ⟨rfl,rfl⟩;go_wp2_with fail;refine(C1.out _).mono ?_;rintro e w1 ⟨rfl,rfl⟩;go_wp2_with fail;go_ret;exact⟨ret_n HN.out.symm,rfl⟩
theorem sgn_at(c:UInt8):decide (0≤Lib.indexByte [43,45,42,47,40,41,44] c)=Wd.isSgn c:=by
 have key:∀n:Fin 256,decide (0≤Lib.indexByte [43,45,42,47,40,41,44] (UInt8.ofFin n))=Wd.isSgn (UInt8.ofFin n):=by decide +kernel
 exact key c.toFin
def fst:List UInt8→Nat×Nat
 | []=>(0,0)
 | x::r=>if Wd.isLet x then (0,Wd.run Wd.isLD (x::r)) else if Wd.isDig x then (1,Wd.numL (x::r)) else if Wd.isSgn x then (2,1) else (0,0)
theorem wfirst_any(s:ByteArray)(w:World)(h0:0<s.size)(hs:s.size≤4000000000000000000):Calls Tryz.prog 34 #[.string s] w (GiveQ w (.tuple #[.int .i64 ((fst s.data.toList).1:Int),.int .i64 ((fst s.data.toList).2:Int)])):=by
 have hf:fst s.data.toList=if Wd.isLet s[0] then (0,Wd.run Wd.isLD s.data.toList) else if Wd.isDig s[0] then (1,Wd.numL s.data.toList) else if Wd.isSgn s[0] then (2,1) else (0,0):=by
  have e:=drop_at s 0 h0;rw[List.drop_zero]at e;rw[e];rfl
 rw[hf];clear hf;have c1:=fun w=>wletter_any s[0] w;have c2:=fun w=>wdigit_any s[0] w;have c3:=fun w=>wcount_named s w (by omega);have c4:=fun w=>wnumber_any s w hs;have c5:=fun w=>Tryz.strings_IndexByte ⟨#[43,45,42,47,40,41,44]⟩ (s[0].toNat:Int) w;have h5:=sgn_at s[0];have e5:((s[0].toNat:Int)).toNat.toUInt8=s[0]:=by simp
 rw[e5]at c5;have c5:∀w,Calls Tryz.prog 70 #[.string ⟨#[43,45,42,47,40,41,44]⟩,.int .u8 (s[0].toNat:Int)] w fun e w'=>e=.returned (.int .i64 (Lib.indexByte [43,45,42,47,40,41,44] s[0]))∧w'=w:=c5;generalize Lib.indexByte [43,45,42,47,40,41,44] s[0]=ix at *;generalize Wd.run Wd.isLD s.data.toList=a at *;generalize Wd.numL s.data.toList=m at *;have C3:=zh c3;have C4:=zh c4;have C5:=zh c5
 clear e5 c3 c4 c5
 cases e1:Wd.isLet s[0] with
 | true =>
  rw[e1]at c1;have C1:=zh c1;clear c1 c2 e1 h5;go_enter Tryz.func34,Tryz.ntmps34;go_wp2_with fail;refine(C1.out _).mono ?_;rintro e w1 ⟨rfl,rfl⟩;go_wp2_with fail;refine(C3.out _).mono ?_;rintro e w1 ⟨rfl,rfl⟩;go_wp2_with fail
  go_ret2
  exact⟨rfl,rfl⟩
 | false =>
  cases e2:Wd.isDig s[0] with
  | true =>
   rw[e1]at c1;rw[e2]at c2;have C1:=zh c1;have C2:=zh c2
   clear c1 c2 e1 e2 h5;go_enter Tryz.func34,Tryz.ntmps34;go_wp2_with fail;refine(C1.out _).mono ?_;rintro e w1 ⟨rfl,rfl⟩;go_wp2_with fail;refine(C2.out _).mono ?_;rintro e w1 ⟨rfl,rfl⟩;go_wp2_with fail;refine(C4.out _).mono ?_;rintro e w1 ⟨rfl,rfl⟩;go_wp2_with fail
   go_ret2
   exact⟨rfl,rfl⟩
  | false =>
   rw[e1]at c1;rw[e2]at c2;have C1:=zh c1;have C2:=zh c2
   clear c1 c2 e1 e2
   cases e3:Wd.isSgn s[0] with
   | true =>
    rw[e3]at h5;have hi:=of_decide_eq_true h5;clear h5 e3;go_enter Tryz.func34,Tryz.ntmps34;go_wp2_with fail;refine(C1.out _).mono ?_;rintro e w1 ⟨rfl,rfl⟩;go_wp2_with fail;refine(C2.out _).mono ?_;rintro e w1 ⟨rfl,rfl⟩;go_wp2_with fail;refine(C5.out _).mono ?_;rintro e w1 ⟨rfl,rfl⟩;go_wp2_with fail
    go_ret2
    exact⟨rfl,rfl⟩
   | false =>
    rw[e3]at h5;have hi:=of_decide_eq_false h5;clear h5 e3;go_enter Tryz.func34,Tryz.ntmps34;go_wp2_with fail;refine(C1.out _).mono ?_;rintro e w1 ⟨rfl,rfl⟩;go_wp2_with fail;refine(C2.out _).mono ?_;rintro e w1 ⟨rfl,rfl⟩;go_wp2_with fail;refine(C5.out _).mono ?_;rintro e w1 ⟨rfl,rfl⟩;go_wp2_with fail
    go_ret2
    exact⟨rfl,rfl⟩
def skp:List UInt8→Nat→Nat→List UInt8×Nat×Nat
 | [],l,c=>([],l,c)
 | x::r,l,c=>if x=32 then skp r l (c+1) else if x=10 then skp r (l+1) 1 else (x::r,l,c)
theorem skp_lex:∀ (t:List UInt8) (l c:Nat),Wd.lexAt t l c=Wd.lexAt (skp t l c).1 (skp t l c).2.1 (skp t l c).2.2
 | [],l,c=>rfl
 | x::r,l,c=>by
  unfold skp;split
  ·rename_i e;subst e;rw[Wd.lex_blank];exact skp_lex r l (c+1)
  ·split
   ·rename_i e;subst e;rw[Wd.lex_line];exact skp_lex r (l+1) 1
   ·rfl
theorem skp_fit:∀ (t:List UInt8) (l c M:Nat),l+t.length≤M→c+t.length≤M→(skp t l c).2.1+(skp t l c).1.length≤M∧(skp t l c).2.2+(skp t l c).1.length≤M∧(skp t l c).1.length≤t.length
 | [],l,c,M,h1,h2=>⟨h1,h2,Nat.le_refl _⟩
 | x::r,l,c,M,h1,h2=>by
  rw[List.length_cons]at h1 h2;unfold skp;split
  ·obtain⟨a,b,d⟩:=skp_fit r l (c+1) M (by omega) (by omega);exact⟨a,b,by rw[List.length_cons];omega⟩
  ·split
   ·obtain⟨a,b,d⟩:=skp_fit r (l+1) 1 M (by omega) (by omega);exact⟨a,b,by rw[List.length_cons];omega⟩
   ·exact⟨by rw[List.length_cons];exact h1,by rw[List.length_cons];exact h2,Nat.le_refl _⟩
theorem skp_head:∀ (t:List UInt8) (l c:Nat),(skp t l c).1=[]∨∃x r,(skp t l c).1=x::r∧x≠32∧x≠10
 | [],l,c=>.inl rfl
 | x::r,l,c=>by
  unfold skp;split
  ·exact skp_head r l (c+1)
  ·split
   ·exact skp_head r (l+1) 1
   ·rename_i h1 h2;exact .inr ⟨x,r,rfl,h1,h2⟩
def skV(r:List UInt8×Nat×Nat):Value:=.tuple #[.string ⟨r.1.toArray⟩,plV r.2.1 r.2.2]
theorem wskip_any(s:ByteArray)(l c:Nat)(w:World)(h1:l+s.size≤20001)(h2:c+s.size≤20001):Calls Tryz.prog 33 #[.string s,plV l c] w (GiveQ w (skV (skp s.data.toList l c))):=by
 go_enter Tryz.func33,Tryz.ntmps33
 go_wp2
 go_loop [1,9] (fun pv v=>∃k L C:Nat,k≤s.size∧v=.int .i64 k∧pv=plV L C∧L+(s.size-k)≤20001∧C+(s.size-k)≤20001∧Hid (skp (s.data.toList.drop k) L C=skp s.data.toList l c)) (fun _ v=>s.size-(intOf v).toNat)
 case atStart=>exact⟨0,l,c,Nat.zero_le _,rfl,rfl,by omega,by omega,zh (by rw[List.drop_zero])⟩
 case round =>
  obtain⟨k,L,C,hk,rfl,rfl,hL,hC,HJ⟩:=hrel;by_cases hlt:k<s.size
  ·have hs0:¬((k:Nat):Int)<0:=by omega
   by_cases h32:(s[k].toNat:Int)=32
   ·have cb:=fun w=>wbehind_any L C 1 w (by omega) (by omega);have HE:Hid (skp (s.data.toList.drop (k+1)) L (C+1)=skp s.data.toList l c):=zh (by
     rw[←HJ.out,drop_at s k hlt];have e:s[k]=32:=UInt8.toNat_inj.1 (by show s[k].toNat=32;omega);rw[e];rfl)
    have CB:=zh cb;clear cb HJ;have hf:fl L=fl L:=rfl;go_wp2_with fail;refine(CB.out _).mono ?_;rintro e w' ⟨rfl,rfl⟩;go_wp2_with fail
    go_round
    case rel=>exact⟨k+1,L,C+1,hlt,by go_num,rfl,by omega,by omega,HE⟩
    case measure=>simp[intOf];omega
   ·have e32:((s[k].toNat:Int)==32)=false:=beq_false_of_ne h32;by_cases h10:(s[k].toNat:Int)=10
    ·have cb:=fun w=>wbelow_any L C w (by omega);have HE:Hid (skp (s.data.toList.drop (k+1)) (L+1) 1=skp s.data.toList l c):=zh (by
      rw[←HJ.out,drop_at s k hlt];have e:s[k]=10:=UInt8.toNat_inj.1 (by show s[k].toNat=10;omega);rw[e];rfl)
     have CB:=zh cb;clear cb HJ;go_wp2_with fail;refine(CB.out _).mono ?_;rintro e w' ⟨rfl,rfl⟩;go_wp2_with fail
     go_round
     case rel=>exact⟨k+1,L+1,1,hlt,by go_num,rfl,by omega,by omega,HE⟩
     case measure=>simp[intOf];omega
    ·have e10:((s[k].toNat:Int)==10)=false:=beq_false_of_ne h10;have HE:Hid (skp s.data.toList l c=(s.data.toList.drop k,L,C)):=zh (by
      rw[←HJ.out,drop_at s k hlt];unfold skp;rw[if_neg (fun e=>h32 (by rw[e];rfl)),if_neg (fun e=>h10 (by rw[e];rfl))])
     have HX:=zh (cut_rest s k);clear HJ;go_wp2_with fail
     go_ret2
     refine⟨?_,rfl⟩;rw[HE.out,HX.out]
     rfl
  ·obtain rfl:k=s.size:=by omega
   have HE:Hid (skp s.data.toList l c=([],L,C)):=zh (by
    rw[←HJ.out,List.drop_of_length_le (by rw[size_toList];exact Nat.le_refl _)];rfl)
   clear HJ;go_wp2_with fail
   go_ret2
   refine⟨?_,rfl⟩;rw[HE.out]
   rfl
theorem wwrong_any(l c:Nat)(w:World)(hl:l<9007199254740992)(hc:c<9007199254740992):Calls Tryz.prog 32 #[plV l c] w (GiveQ w (.tuple #[.slice none 0 0,.int .i64 90,.int .i64 (l:Int),.int .i64 (c:Int)])):=by
 have C1:=zh (fun w=>wline_any l c w hl);have C2:=zh (fun w=>wcolumn_any l c w hc);go_enter Tryz.func32,Tryz.ntmps32;go_wp2_with fail;refine(C1.out _).mono ?_;rintro e w1 ⟨rfl,rfl⟩;go_wp2_with fail;refine(C2.out _).mono ?_;rintro e w1 ⟨rfl,rfl⟩;go_wp2_with fail;refine bodyPost_ret (v:=.tuple #[.slice none 0 0,.int .i64 90,.int .i64 (l:Int),.int .i64 (c:Int)]) (by simp[results,Tryz.results32,go_sem, *]) rfl ⟨rfl,rfl⟩
def GiveA(w:World)(v:Value)(e:Ending)(w':World):Prop:=e=.returned v∧Below w.heap.size w w'
theorem wtoken_any(kd l c:Nat)(t:ByteArray)(w:World)(hl:l<9007199254740992)(hc:c<9007199254740992):Calls Tryz.prog 35 #[.int .i64 (kd:Int),.string t,plV l c] w (GiveA w (.agg #[.int .i64 (kd:Int),.string t,.int .i64 (l:Int),.int .i64 (c:Int)])):=by
 have C1:=zh (fun w=>wline_any l c w hl);have C2:=zh (fun w=>wcolumn_any l c w hc);have b0:=Below.refl w.heap.size w;go_enter Tryz.func35,Tryz.ntmps35;go_wp2_with fail;refine(C1.out _).mono ?_;rintro e w1 ⟨rfl,rfl⟩;go_wp2_with fail;refine(C2.out _).mono ?_;rintro e w1 ⟨rfl,rfl⟩;go_wp2_with fail;refine bodyPost_ret (v:=.agg #[.int .i64 (kd:Int),.string t,.int .i64 (l:Int),.int .i64 (c:Int)]) (by simp[results,Tryz.results35,go_sem, *]) rfl ⟨rfl,?_⟩;exact Below.alloc b0 (Nat.le_refl _) _
end Go.Proofs.YtmllklfjngapiaaGreatDoor
namespace Go.Proofs.YtmllklfjngapiaaGreatDoor
open Go.RowKit
open Fl (fl)
open Wd (Tk lexAt lexD)
section
variable {P : Program} {a : Act} {w : World} {Q : Exit → Act → World → Prop}
theorem jump_weak{l:Nat}{J J':Act→World→Prop}(h:∀a w,J a w→J' a w):∀e a w,Exit.jump l J Q e a w→Exit.jump l J' Q e a w:=fun e a w hq=>by
 cases e with
 | goto l'=>exact⟨hq.1,h a w hq.2⟩
 | _=>exact hq
theorem wp_scope_pass{c rest:Code}(l:Nat)(J:Act→World→Prop)(μ:Act→World→Nat)(hf:findLabel c l=some (.seq .skip rest))
  (pass:∀a w,J a w→rest.wp P (Exit.jump l (fun a' w'=>J a' w'∧μ a' w' < μ a w) Q) a w)
  (first:(∀a w,J a w→rest.wp P (Exit.jump l J Q) a w)→c.wp P (Exit.jump l J Q) a w):(Code.scope c).wp P Q a w :=
 wp_scope_jumps l J μ hf (first fun a w h=>wp_mono (pass a w h) (jump_weak fun _ _ h=>h.1)) fun a w h=>wp_seq (wp_skip (pass a w h))
end
structure GoodL(w:World):Prop where
 c0:w.cell? ⟨0,0,none⟩=some (.int .i64 20)
 c1:w.cell? ⟨0,1,none⟩=some (.int .i64 100)
 c2:w.cell? ⟨0,2,none⟩=some (.int .i64 1)
theorem GoodL.lt{w:World}(h:GoodL w):0<w.heap.size:=World.block_lt_of_cell? w ⟨0,0,none⟩ h.c0
theorem GoodL.below{w w':World}(h:GoodL w)(hb:Below w.heap.size w w'):GoodL w' :=
 ⟨(hb.cell (p:=⟨0,0,none⟩) h.lt).trans h.c0,(hb.cell (p:=⟨0,1,none⟩) h.lt).trans h.c1,(hb.cell (p:=⟨0,2,none⟩) h.lt).trans h.c2⟩
def lim(k:Nat):Nat:=if k=0 then 20 else if k=1 then 100 else 1
theorem GoodL.cell{w:World}(h:GoodL w){k:Nat}(hk:k<3):w.cell? ⟨0,k,none⟩=some (.int .i64 (lim k:Int)):=by
 match k,hk with
 | 0,_=>exact h.c0
 | 1,_=>exact h.c1
 | 2,_=>exact h.c2
theorem fst_cons(x:UInt8)(r:List UInt8):fst (x::r)=if Wd.isLet x then (0,Wd.run Wd.isLD (x::r)) else if Wd.isDig x then (1,Wd.numL (x::r)) else if Wd.isSgn x then (2,1) else (0,0):=rfl
theorem fst_lt(x:UInt8)(r:List UInt8):(fst (x::r)).1<3:=by
 rw[fst_cons];split
 ·exact(by decide:0<3)
 ·split
  ·exact(by decide:1<3)
  ·split
   ·exact(by decide:2<3)
   ·exact(by decide:0<3)
theorem fst_le(x:UInt8)(r:List UInt8):(fst (x::r)).2≤(x::r).length:=by
 rw[fst_cons];split
 ·exact Wd.run_le _ _
 ·split
  ·exact Wd.num_le _
  ·split
   ·rw[List.length_cons];exact Nat.le_add_left 1 _
   ·exact Nat.zero_le _
theorem fst_kl(x:UInt8)(r:List UInt8):Wd.kl (x::r)=if (fst (x::r)).2=0∨lim (fst (x::r)).1<(fst (x::r)).2 then none else some ((fst (x::r)).1,(fst (x::r)).2):=by
 rw[Wd.kl_cons]
 cases h1:Wd.isLet x with
 | true =>
  have e:fst (x::r)=(0,Wd.run Wd.isLD (x::r)):=by rw[fst_cons,if_pos h1]
  have hp:Wd.run Wd.isLD (x::r)=Wd.run Wd.isLD r+1:=Wd.run_pos (by unfold Wd.isLD;rw[h1];rfl);rw[e,if_pos rfl];show _=if Wd.run Wd.isLD (x::r)=0∨20<Wd.run Wd.isLD (x::r) then none else some (0,Wd.run Wd.isLD (x::r))
  by_cases c:Wd.run Wd.isLD (x::r)≤20
  ·rw[if_pos c,if_neg (by omega)]
  ·rw[if_neg c,if_pos (by omega)]
 | false =>
  rw[if_neg (by decide)]
  cases h2:Wd.isDig x with
  | true =>
   have e:fst (x::r)=(1,Wd.numL (x::r)):=by rw[fst_cons,if_neg (by rw[h1];decide),if_pos h2]
   have hp:=Wd.num_pos (r:=r) h2;rw[e,if_pos rfl];show _=if Wd.numL (x::r)=0∨100<Wd.numL (x::r) then none else some (1,Wd.numL (x::r))
   by_cases c:Wd.numL (x::r)≤100
   ·rw[if_pos c,if_neg (by omega)]
   ·rw[if_neg c,if_pos (by omega)]
  | false =>
   rw[if_neg (by decide)]
   cases h3:Wd.isSgn x with
   | true =>
    have e:fst (x::r)=(2,1):=by rw[fst_cons,if_neg (by rw[h1];decide),if_neg (by rw[h2];decide),if_pos h3]
    rw[e,if_pos rfl,if_neg (by decide)]
   | false =>
    have e:fst (x::r)=(0,0):=by rw[fst_cons,if_neg (by rw[h1];decide),if_neg (by rw[h2];decide),if_neg (by rw[h3];decide)]
    rw[e,if_neg (by decide),if_pos (.inl rfl)]
def LexP(l:List UInt8)(ts:List Tk)(t:List UInt8)(L C:Nat):Prop:=lexAt l 1 1=(ts++(lexAt t L C).1,(lexAt t L C).2)
theorem lexP_skip{l t:List UInt8}{ts:List Tk}{L C:Nat}(h:LexP l ts t L C):LexP l ts (skp t L C).1 (skp t L C).2.1 (skp t L C).2.2:=by
 unfold LexP at *;rw[h,skp_lex t L C]
theorem lexP_end{l:List UInt8}{ts:List Tk}{L C:Nat}(h:LexP l ts [] L C)(hs:l.length≤20000):lexD l=(ts,0,0,0):=by
 unfold LexP at h;rw[Wd.lex_nil]at h;unfold lexD;rw[if_neg (by omega),h];show (ts++[],_)=_;rw[List.append_nil]
theorem lexP_bad{l r:List UInt8}{x:UInt8}{ts:List Tk}{L C:Nat}(h:LexP l ts (x::r) L C)(h1:x≠32)(h2:x≠10)(hk:(fst (x::r)).2=0∨lim (fst (x::r)).1<(fst (x::r)).2)(hs:l.length≤20000):lexD l=([],90,L,C):=by
 have k:=fst_kl x r;rw[if_pos hk]at k;unfold LexP at h;rw[Wd.lex_bad L C h1 h2 k]at h;unfold lexD;rw[if_neg (by omega),h]
theorem lexP_tok{l r:List UInt8}{x:UInt8}{ts:List Tk}{L C:Nat}(h:LexP l ts (x::r) L C)(h1:x≠32)(h2:x≠10)(hk:¬((fst (x::r)).2=0∨lim (fst (x::r)).1<(fst (x::r)).2)) :
  LexP l (ts++[Tk.mk (fst (x::r)).1 ((x::r).take (fst (x::r)).2) L C]) ((x::r).drop (fst (x::r)).2) L (C+(fst (x::r)).2):=by
 have k:=fst_kl x r;rw[if_neg hk]at k;unfold LexP at *;rw[h,Wd.lex_tok L C h1 h2 k,List.append_assoc]
 rfl
theorem cut_head(t:List UInt8)(m:Nat):(⟨t.toArray⟩:ByteArray).extract 0 m=⟨(t.take m).toArray⟩:=by
 have k:=cut_text ⟨t.toArray⟩ 0 m;rw[Nat.zero_add,List.drop_zero]at k;exact k
theorem cut_tail(t:List UInt8)(m:Nat):(⟨t.toArray⟩:ByteArray).extract m t.length=⟨(t.drop m).toArray⟩:=by
 have k:=cut_rest ⟨t.toArray⟩ m;rw[size_tx]at k;exact k
def LexJ(s:List UInt8)(w:World)(a':Act)(w':World):Prop :=
 ∃ (t:List UInt8) (ts:List Tk) (L C:Nat) (out:Value) (u1 u8 u9 u10 u11 u12 u13 u14 u15 u16 u17 u18 u19 u20 u21 u22 u23 u24 u25 u26 u27 u28 u29 u30 u31 u32 u33 u34 u35 u36 u37 u38 u39 u40 u41 u42 u43 u44 u45 u46 u47 u48 u49 u50 u51 u52 u53 u54 u55 u56 u57 u58 u59 u60 u61:Value),a'={ tmps:=#[.string ⟨t.toArray⟩,u1,.slice none 0 0,.int .i64 0,.int .i64 0,.int .i64 0,out,plV L C,u8,u9,u10,u11,u12,u13,u14,u15,u16,u17,u18,u19,u20,u21,u22,u23,u24,u25,u26,u27,u28,u29,u30,u31,u32,u33,u34,u35,u36,u37,u38,u39,u40,u41,u42,u43,u44,u45,u46,u47,u48,u49,u50,u51,u52,u53,u54,u55,u56,u57,u58,u59,u60,u61],defers:=[] } ∧
  L+t.length≤20001∧C+t.length≤20001∧ts.length+t.length≤20000∧Hid (LexP s ts t L C)∧OwnT w.heap.size w' out ts∧Below w.heap.size w w'
def sizeV:Value→Nat
 | .string s=>s.size
 | _=>0
end Go.Proofs.YtmllklfjngapiaaGreatDoor
namespace Go.Proofs.YtmllklfjngapiaaGreatDoor
open Go.RowKit
structure Blk(b:Nat)(xs:List Value)(w:World):Prop where
 lt:b<w.heap.size
 c:∀i x,xs[i]?=some x→w.cell? ⟨b,i,none⟩=some x
 f:∀i,i<xs.length→w.frozen? ⟨b,i,none⟩=false
theorem Blk.below{b:Nat}{xs:List Value}{w w':World}(h:Blk b xs w)(hb:Below w.heap.size w w'):Blk b xs w' :=
 ⟨Nat.lt_of_lt_of_le h.lt hb.size,fun i x e=>(hb.cell (p:=⟨b,i,none⟩) h.lt).trans (h.c i x e),fun i e=>(hb.frozen (p:=⟨b,i,none⟩) h.lt).trans (h.f i e)⟩
theorem blk_new(w:World)(cs:Array Value)(t:TypeId):Blk w.heap.size cs.toList (w.alloc (.cells cs t)) :=
 ⟨by simp,fun i x e=>(cell_new w _ _ _ rfl i).trans (by simpa using e),fun i _=>by rw[frozen?_alloc_cells];simp[World.frozen?]⟩
theorem Blk.set{b:Nat}{xs:List Value}{w:World}(h:Blk b xs w)(k:Nat)(hk:k<xs.length)(x:Value):Blk b (xs.set k x) (w.setCell ⟨b,k,none⟩ x):=by
 have old:∃y,w.cell? ⟨b,k,none⟩=some y:=⟨_,h.c k _ (List.getElem?_eq_getElem hk)⟩;refine⟨by rw[size_setCell];exact h.lt,fun i y e=>?_,fun i e=>by rw[World.frozen?_setCell];exact h.f i (by simpa using e)⟩;by_cases hi:k=i
 ·subst hi;rw[List.getElem?_set_self hk]at e;obtain⟨z,hz⟩:=old;rw[←Option.some.inj e];exact World.cell?_setCell_same' _ _ _ (by rw[hz];rfl)
 ·rw[List.getElem?_set_ne hi]at e;rw[cell?_setCell_ne _ _ _ _ _ hi];exact h.c i y e
structure WrB(Xs:List Nat)(w w':World):Prop where
 os:w'.os=w.os
 tape:w'.tape=w.tape
 output:w'.output=w.output
 size:w.heap.size≤w'.heap.size
 block:∀k,k<w.heap.size→k∉Xs→w'.heap[k]?=w.heap[k]?
theorem WrB.refl(Xs:List Nat)(w:World):WrB Xs w w:=⟨rfl,rfl,rfl,Nat.le_refl _,fun _ _ _=>rfl⟩
theorem WrB.trans{Xs:List Nat}{a b c:World}(h:WrB Xs a b)(k:WrB Xs b c):WrB Xs a c :=
 ⟨k.os.trans h.os,k.tape.trans h.tape,k.output.trans h.output,Nat.le_trans h.size k.size,fun i hi hn=>(k.block i (Nat.lt_of_lt_of_le hi h.size) hn).trans (h.block i hi hn)⟩
theorem WrB.mono{Xs Ys:List Nat}{a b:World}(h:WrB Xs a b)(hs:∀x∈Xs,x∈Ys):WrB Ys a b:=⟨h.os,h.tape,h.output,h.size,fun k hk hn=>h.block k hk fun c=>hn (hs k c)⟩
theorem WrB.of_below{w w':World}(h:Below w.heap.size w w')(Xs:List Nat):WrB Xs w w':=⟨h.os,h.tape,h.output,h.size,fun k hk _=>h.block k hk⟩
theorem WrB.of_grown{Xs:List Nat}{w w':World}{row:Option Nat}(h:w.grownBy w' row)(hr:∀k,row=some k→k∈Xs):WrB Xs w w':=⟨h.os,h.tape,h.output,h.size,fun k hk hn=>h.block k hk fun e=>hn (hr k e.symm)⟩
theorem WrB.of_set(w:World)(b i:Nat)(x:Value){Xs:List Nat}(h:b∈Xs):WrB Xs w (w.setCell ⟨b,i,none⟩ x) :=
 ⟨rfl,rfl,rfl,by rw[size_setCell];exact Nat.le_refl _,fun k _ hn=>Below.heap_setCell w _ x k fun c=>hn (by rw[c];exact h)⟩
theorem WrB.below{Xs:List Nat}{w w':World}{B:Nat}(h:WrB Xs w w')(hb:∀x∈Xs,B≤x)(hB:B≤w.heap.size):Below B w w' :=
 ⟨h.os,h.tape,h.output,h.size,fun k hk=>h.block k (Nat.lt_of_lt_of_le hk hB) fun c=>by have:=hb k c;omega⟩
theorem WrB.toBelow{w w':World}(h:WrB [] w w'):Below w.heap.size w w':=h.below (fun _ c=>by cases c) (Nat.le_refl _)
theorem Blk.wr{b:Nat}{cs:List Value}{w w':World}{Xs:List Nat}(h:Blk b cs w)(hg:WrB Xs w w')(hb:b∉Xs):Blk b cs w':=by
 have e:w'.heap[b]?=w.heap[b]?:=hg.block b h.lt hb;exact⟨Nat.lt_of_lt_of_le h.lt hg.size,fun i x c=>(World.cell?_of_block (w:=w) (a:=⟨b,i,none⟩) e).trans (h.c i x c),fun i c=>(World.frozen?_of_block (w:=w) (a:=⟨b,i,none⟩) e).trans (h.f i c)⟩
theorem RowsG.wr{α:Type}{enc:α→List Value}{k:Nat}{w w':World}{p:Option Addr}{l:List α}{Xs:List Nat}(h:RowsG enc k w p l)(hg:WrB Xs w w')(hp:∀a,p=some a→a.block∉Xs):RowsG enc k w' p l:=fun j x hx=>by
 obtain⟨b,o,e,hl,c⟩:=h j x hx;have hb:w'.heap[b]?=w.heap[b]?:=hg.block b hl (by have:=hp _ e;exact this);exact⟨b,o,e,Nat.lt_of_lt_of_le hl hg.size,fun i v hv=>(World.cell?_of_block (w:=w) (a:=⟨b,_,none⟩) hb).trans (c i v hv)⟩
theorem own_lt{α:Type}{enc:α→List Value}{k:Nat}{e:TypeId}{B:Nat}{w:World}{v:Value}{l:List α}(h:OwnG enc k e B w v l):∀g,v.ownBlock=some g→B≤g∧g<w.heap.size:=by
 rcases h.2 with ⟨rfl,_⟩|⟨g,cap,cur,rfl,k2,k3,_⟩
 ·exact fun g c=>by simp[Value.ownBlock]at c
 ·exact fun b c=>by
   have e:g=b:=Option.some.inj c;subst e;exact⟨k2,(Array.getElem?_eq_some_iff.1 k3).1⟩
theorem OwnG.wr{α:Type}{enc:α→List Value}{k:Nat}{e:TypeId}{B:Nat}{w w':World}{v:Value}{l:List α}{Xs:List Nat}(h:OwnG enc k e B w v l)(hg:WrB Xs w w')(hv:∀g,v.ownBlock=some g→g∉Xs):OwnG enc k e B w' v l:=by
 refine⟨h.1,?_⟩;rcases h.2 with h0|⟨g,cap,cur,rfl,k2,k3,k4⟩
 ·exact .inl h0
 ·refine .inr ⟨g,cap,cur,rfl,k2,?_,k4⟩;rw[hg.block g (Array.getElem?_eq_some_iff.1 k3).1 (hv g rfl)];exact k3
end Go.Proofs.YtmllklfjngapiaaGreatDoor
set_option maxHeartbeats 4000000
set_option maxRecDepth 100000
namespace Go.Proofs.YtmllklfjngapiaaGreatDoor
open Go.RowKit
open Wd (Tk okT ktT)
open Pz (Ms)
def tgL:List Int:=[0,0,0,0,0,3,1,1,2,2,0,0,0,0]
structure GoodP(w:World):Prop where
 x:GoodX w
 l:GoodL w
 er:GoodE w
 tg:∀ (k:Nat) (v:Int),tgL[k]?=some v→w.cell? ⟨1,k,none⟩=some (.int .i64 v)
theorem GoodP.below{w w':World}(h:GoodP w)(hb:Below w.heap.size w w'):GoodP w':=by
 have lt:1<w.heap.size:=World.block_lt_of_cell? w ⟨1,0,none⟩ (h.tg 0 _ rfl);exact⟨h.x.below hb,h.l.below hb,h.er.below hb,fun k v e=>(hb.cell (p:=⟨1,k,none⟩) lt).trans (h.tg k v e)⟩
theorem tbox(t:Tk)(w:World):∃U,w.alloc (.cells #[.int .i64 (t.kind:Int),.string ⟨t.text.toArray⟩,.int .i64 (t.line:Int),.int .i64 (t.col:Int)] 73)=U∧Below w.heap.size w U∧U.heap.size=w.heap.size+1∧Blk w.heap.size (encT t) U :=
 ⟨_,rfl,Below.alloc (Below.refl _ _) (Nat.le_refl _) _,by simp,blk_new w #[.int .i64 (t.kind:Int),.string ⟨t.text.toArray⟩,.int .i64 (t.line:Int),.int .i64 (t.col:Int)] 73⟩
theorem set_ne_cell{w:World}{b c i j:Nat}{x v:Value}(h:w.cell? ⟨c,j,none⟩=some x)(hn:c≠b):(w.setCell ⟨b,i,none⟩ v).cell? ⟨c,j,none⟩=some x :=
 (World.cell?_of_block (w:=w) (a:=⟨c,j,none⟩) (Below.heap_setCell w _ v c hn)).trans h
theorem Blk.ne{b c:Nat}{cs:List Value}{w:World}(h:Blk b cs w)(hc:w.heap.size≤c):c≠b:=fun e=>by have:=h.lt;omega
theorem msign_any(s:List UInt8)(t:Tk)(b:Nat)(w:World)(hc:w.cell? ⟨b,0,none⟩=some (.string ⟨s.toArray⟩)) :
  Calls Tryz.prog 72 #[.agg #[.int .i64 (t.kind:Int),.string ⟨t.text.toArray⟩,.int .i64 (t.line:Int),.int .i64 (t.col:Int)],.pointer (some ⟨b,0,none⟩)] w (GiveB w (decide (t.text=s))):=by
 have hb:b<w.heap.size:=World.block_lt_of_cell? w ⟨b,0,none⟩ hc;obtain⟨U,hU,bU,sU,kU⟩:=tbox t w;have c1:=kU.c 1 _ rfl;have c2:U.cell? ⟨b,0,none⟩=some (.string ⟨s.toArray⟩):=(bU.cell (p:=⟨b,0,none⟩) hb).trans hc;have HB:=zh bU;have HR:Hid ((t.text==s)=decide (t.text=s)):=zh (by
  by_cases e:t.text=s
  ·rw[decide_eq_true e,e,beq_self_eq_true]
  ·rw[decide_eq_false e,beq_false_of_ne e])
 clear bU sU kU hc hb;go_enter Tryz.func72,Tryz.ntmps72;go_wp2_with fail;go_ret;exact⟨ret_b HR.out,HB.out⟩
theorem mname_any(t:Tk)(b T i:Nat)(cs:List Value)(w:World)(hc:w.cell? ⟨b,0,none⟩=some (.pointer (some ⟨T,i,none⟩)))(hT:Blk T cs w)(hi:i<cs.length) :
  Calls Tryz.prog 113 #[.agg #[.int .i64 (t.kind:Int),.string ⟨t.text.toArray⟩,.int .i64 (t.line:Int),.int .i64 (t.col:Int)],.pointer (some ⟨b,0,none⟩)] w (fun r w'=>r=.returned (.bool (decide (t.kind=0)))∧Blk T (cs.set i (.string ⟨t.text.toArray⟩)) w'∧WrB [T] w w'):=by
 have hb:b<w.heap.size:=World.block_lt_of_cell? w ⟨b,0,none⟩ hc;obtain⟨U,hU,bU,sU,kU⟩:=tbox t w;have c1:=kU.c 1 _ rfl;have c2:U.cell? ⟨b,0,none⟩=some (.pointer (some ⟨T,i,none⟩)):=(bU.cell (p:=⟨b,0,none⟩) hb).trans hc;have kT:=hT.below bU;have c3:=kT.c i _ (List.getElem?_eq_getElem hi);have f3:=kT.f i hi;have c4:(U.setCell ⟨T,i,none⟩ (.string ⟨t.text.toArray⟩)).cell? ⟨w.heap.size,0,none⟩=some (.int .i64 (t.kind:Int)):=set_ne_cell (kU.c 0 _ rfl) (hT.ne (Nat.le_refl _));have HB:=zh bU;have HT:=zh (kT.set i hi (.string ⟨t.text.toArray⟩));have HR:Hid (((t.kind:Int)==0)=decide (t.kind=0)):=zh (by
  by_cases e:t.kind=0
  ·rw[e];rfl
  ·rw[decide_eq_false e];exact beq_false_of_ne (by omega))
 clear bU sU kU hc hb kT hT;go_enter Tryz.func113,Tryz.ntmps113;go_wp2_with fail;go_ret;exact⟨ret_b HR.out,HT.out,(WrB.of_below HB.out _).trans (WrB.of_set U T i _ List.mem_cons_self)⟩
theorem mday_any(t:Tk)(b T i:Nat)(cs:List Value)(w:World)(he:GoodE w)(hl:t.text.length≤100000)(hc:w.cell? ⟨b,0,none⟩=some (.pointer (some ⟨T,i,none⟩)))(hT:Blk T cs w)(hi:i<cs.length) :
  Calls Tryz.prog 114 #[.agg #[.int .i64 (t.kind:Int),.string ⟨t.text.toArray⟩,.int .i64 (t.line:Int),.int .i64 (t.col:Int)],.pointer (some ⟨b,0,none⟩)] w (fun r w'=>r=.returned (.bool ((smallS t.text).2&&decide ((smallS t.text).1≤9999)))∧Blk T (cs.set i (.int .i64 (smallS t.text).1)) w'∧WrB [T] w w'):=by
 have hb:b<w.heap.size:=World.block_lt_of_cell? w ⟨b,0,none⟩ hc;obtain⟨U,hU,bU,sU,kU⟩:=tbox t w;obtain⟨tp,q,hv⟩:=he.below bU;have cs0:=small_any ⟨t.text.toArray⟩ U (by show t.text.toArray.size≤_;rw[List.size_toArray];omega) tp q hv;rw[show (⟨t.text.toArray⟩:ByteArray).data.toList=t.text from rfl]at cs0;generalize smallS t.text=S at *;obtain⟨n,f⟩:=S;have CS:=zh cs0;have c1:=kU.c 1 _ rfl;have HC:Hid (U.cell? ⟨b,0,none⟩=some (.pointer (some ⟨T,i,none⟩))):=zh ((bU.cell (p:=⟨b,0,none⟩) hb).trans hc);have hbU:Hid (b<U.heap.size):=zh (by omega);have HK:=zh (hT.below bU);have HB:=zh bU;clear bU sU kU hc hb hT cs0 hv he;dsimp only
 cases f with
 | true =>
  go_enter Tryz.func114,Tryz.ntmps114;go_wp2_with fail;refine CS.out.mono ?_;rintro r w2 ⟨rfl,b2⟩;have kT:=HK.out.below b2;have c2:=(b2.cell (p:=⟨b,0,none⟩) hbU.out).trans HC.out;have c3:=kT.c i _ (List.getElem?_eq_getElem hi);have f3:=kT.f i hi;have HT:=zh (kT.set i hi (.int .i64 n));have HB2:=zh (Below.more HB.out b2);clear b2 kT CS;go_wp2_with fail;go_ret;exact⟨rfl,HT.out,(WrB.of_below HB2.out _).trans (WrB.of_set w2 T i _ List.mem_cons_self)⟩
 | false =>
  go_enter Tryz.func114,Tryz.ntmps114;go_wp2_with fail;refine CS.out.mono ?_;rintro r w2 ⟨rfl,b2⟩;have kT:=HK.out.below b2;have c2:=(b2.cell (p:=⟨b,0,none⟩) hbU.out).trans HC.out;have c3:=kT.c i _ (List.getElem?_eq_getElem hi);have f3:=kT.f i hi;have HT:=zh (kT.set i hi (.int .i64 n));have HB2:=zh (Below.more HB.out b2);clear b2 kT CS;go_wp2_with fail;go_ret;exact⟨rfl,HT.out,(WrB.of_below HB2.out _).trans (WrB.of_set w2 T i _ List.mem_cons_self)⟩
theorem mnat_any(t:Tk)(b T i:Nat)(cs:List Value)(w:World)(hl:t.text.length≤100000)(hc:w.cell? ⟨b,0,none⟩=some (.pointer (some ⟨T,i,none⟩)))(hT:Blk T cs w)(hi:i<cs.length) :
  Calls Tryz.prog 145 #[.agg #[.int .i64 (t.kind:Int),.string ⟨t.text.toArray⟩,.int .i64 (t.line:Int),.int .i64 (t.col:Int)],.pointer (some ⟨b,0,none⟩)] w (fun r w'=>r=.returned (.bool (isNat t.text&&decide (t.text.length≤60)))∧Blk T (cs.set i (.string ⟨t.text.toArray⟩)) w'∧WrB [T] w w'):=by
 have hb:b<w.heap.size:=World.block_lt_of_cell? w ⟨b,0,none⟩ hc;obtain⟨U,hU,bU,sU,kU⟩:=tbox t w;have cm:=fun w=>may_any ⟨t.text.toArray⟩ w (by show t.text.toArray.size≤_;rw[List.size_toArray];omega);rw[show (⟨t.text.toArray⟩:ByteArray).data.toList=t.text from rfl]at cm;have c1:=kU.c 1 _ rfl;have c2:U.cell? ⟨b,0,none⟩=some (.pointer (some ⟨T,i,none⟩)):=(bU.cell (p:=⟨b,0,none⟩) hb).trans hc;have kT:=hT.below bU;have c3:=kT.c i _ (List.getElem?_eq_getElem hi);have f3:=kT.f i hi;have c4:(U.setCell ⟨T,i,none⟩ (.string ⟨t.text.toArray⟩)).cell? ⟨w.heap.size,1,none⟩=some (.string ⟨t.text.toArray⟩):=set_ne_cell (kU.c 1 _ rfl) (hT.ne (Nat.le_refl _));have HB:=zh bU;have HT:=zh (kT.set i hi (.string ⟨t.text.toArray⟩));have hw:(WrB [T] w (U.setCell ⟨T,i,none⟩ (.string ⟨t.text.toArray⟩))):=(WrB.of_below bU _).trans (WrB.of_set U T i _ List.mem_cons_self);have HW:=zh hw;have HR:Hid (decide ((t.text.length:Int)≤60)=decide (t.text.length≤60)):=zh (decide_eq_decide.2 (by omega));clear bU sU kU hc hb kT hT hw
 cases hn:isNat t.text with
 | true =>
  rw[hn]at cm;have CM:=zh cm;clear cm hn;go_enter Tryz.func145,Tryz.ntmps145;go_wp2_with fail;refine(CM.out _).mono ?_;rintro r w2 ⟨rfl,rfl⟩;go_wp2_with fail;go_ret;exact⟨ret_b (by rw[←HR.out];rfl),HT.out,HW.out⟩
 | false =>
  rw[hn]at cm;have CM:=zh cm;clear cm hn;go_enter Tryz.func145,Tryz.ntmps145;go_wp2_with fail;refine(CM.out _).mono ?_;rintro r w2 ⟨rfl,rfl⟩;go_wp2_with fail;go_ret;exact⟨rfl,HT.out,HW.out⟩
theorem WrB.cell{w w':World}{T b i:Nat}{x:Value}(h:WrB [T] w w')(hc:w.cell? ⟨b,i,none⟩=some x)(hn:b≠T):w'.cell? ⟨b,i,none⟩=some x :=
 (World.cell?_of_block (w:=w) (a:=⟨b,i,none⟩) (h.block b (World.block_lt_of_cell? w ⟨b,i,none⟩ hc) (by simpa using hn))).trans hc
theorem mabove_any(t:Tk)(b1 b2 b0 T i:Nat)(cs:List Value)(w:World)(hl:t.text.length≤100000)(hc1:w.cell? ⟨b1,0,none⟩=some (.func (.func 145) #[] #[.pointer (some ⟨b0,0,none⟩)]))(hc2:w.cell? ⟨b2,0,none⟩=some (.pointer (some ⟨T,i,none⟩)))
  (hc0:w.cell? ⟨b0,0,none⟩=some (.pointer (some ⟨T,i,none⟩))) (hn:b2≠T) (hT:Blk T cs w) (hi:i<cs.length) :
  Calls Tryz.prog 147 #[.agg #[.int .i64 (t.kind:Int),.string ⟨t.text.toArray⟩,.int .i64 (t.line:Int),.int .i64 (t.col:Int)],.pointer (some ⟨b1,0,none⟩),.pointer (some ⟨b2,0,none⟩)] w (fun r w'=>r=.returned (.bool ((isNat t.text&&decide (t.text.length≤60))&&!(t.text == [48])))∧Blk T (cs.set i (.string ⟨t.text.toArray⟩)) w'∧WrB [T] w w'):=by
 have h1:b1<w.heap.size:=World.block_lt_of_cell? w ⟨b1,0,none⟩ hc1;have h2:b2<w.heap.size:=World.block_lt_of_cell? w ⟨b2,0,none⟩ hc2;have h0:b0<w.heap.size:=World.block_lt_of_cell? w ⟨b0,0,none⟩ hc0;obtain⟨U,hU,bU,sU,kU⟩:=tbox t w;have CM:=zh (mnat_any t b0 T i cs U hl ((bU.cell (p:=⟨b0,0,none⟩) h0).trans hc0) (hT.below bU) hi);have c0:=kU.c 0 _ rfl;have c1:=kU.c 1 _ rfl;have c2:=kU.c 2 _ rfl;have c3:=kU.c 3 _ rfl;have d1:=(bU.cell (p:=⟨b1,0,none⟩) h1).trans hc1;have D2:=zh ((bU.cell (p:=⟨b2,0,none⟩) h2).trans hc2);have HB:=zh bU;have HN:=zh hn;clear bU sU kU hc1 hc2 hc0 h1 h2 h0 hT hl hn;generalize (isNat t.text&&decide (t.text.length≤60))=B at *;go_enter Tryz.func147,Tryz.ntmps147;go_wp2_with fail;refine CM.out.mono ?_;rintro r w2 ⟨rfl,hT2,hW⟩;have e2:=WrB.cell hW D2.out HN.out;have e3:=hT2.c i (.string ⟨t.text.toArray⟩) (List.getElem?_set_self hi);have HT2:=zh hT2;have HW:=zh ((WrB.of_below HB.out _).trans hW);clear hT2 hW CM D2
 cases B with
 | true =>
  go_wp2_with fail;go_ret;exact⟨rfl,HT2.out,HW.out⟩
 | false =>
  go_wp2_with fail;go_ret;exact⟨rfl,HT2.out,HW.out⟩
end Go.Proofs.YtmllklfjngapiaaGreatDoor
