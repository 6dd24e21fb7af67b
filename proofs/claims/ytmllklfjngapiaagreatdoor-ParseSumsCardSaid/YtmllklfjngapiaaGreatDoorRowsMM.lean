/- Own work. -/
import Derived.Test.YtmllklfjngapiaaGreatDoorAllRefD4M
import Derived.Test.YtmllklfjngapiaaGreatDoorAllRefD3M
import Derived.Deep.RegionHeld3
import Derived.OrdersHeld
import Derived.Lib.AppendZeros
import Derived.Laws.AppendOwnNone
import Derived.Maps.AppendAt
import Derived.Below
import Derived.OwnWalk
import Derived.Test.YtmllklfjngapiaaGreatDoorAllRatM
set_option linter.unusedSimpArgs false
set_option linter.unusedVariables false
set_option maxHeartbeats 4000000
set_option maxRecDepth 100000
namespace Go.Proofs.YtmllklfjngapiaaGreatDoor
open Go.RowKit
theorem pad_text(k N:Nat):((⟨(zerS (max ((k:Int)+1-((dig N).length:Int)) 0)).toArray⟩:ByteArray)++⟨(dig N).toArray⟩).data.toList=padD (k+1) (dig N):=by
 rw[ba_append];show zerS _++dig N=_;unfold zerS padD;rw[show (max ((k:Int)+1-((dig N).length:Int)) 0).toNat=k+1-(dig N).length from by omega]
theorem nat_wd_len(z:Int):(dig z.natAbs).length≤(wd z).length:=by
 unfold wd;split
 ·rw[List.length_cons];omega
 ·exact Nat.le_refl _
theorem prod_len{a q k:Nat}(hk:0<k)(hq:q≤10 ^ k):(dig (a*q)).length≤(dig a).length+k:=by
 have h1:=valS_lt (dig_all a);rw[valS_dig]at h1;refine dig_length (by omega) ?_;rw[Nat.pow_add];exact Nat.mul_lt_mul_of_lt_of_le h1 hq (Nat.pow_pos (by decide))
theorem zer_size(k:Nat):(⟨(zerS (k:Int)).toArray⟩:ByteArray).size=k:=by
 rw[size_of];unfold zerS;rw[List.length_replicate,Int.toNat_natCast]
theorem zer_size'(x:Int):(⟨(zerS x).toArray⟩:ByteArray).size=x.toNat:=by
 rw[size_of];unfold zerS;rw[List.length_replicate]
theorem pt_text{S sg:ByteArray}{b:Bool}{k M:Nat}{l:List UInt8}(hs:S.data.toList=l)(hm:S.size=M+k)(hb:sg.data.toList=sgnD b []) :
  sg++S.extract 0 M++(⟨#[46]⟩:ByteArray)++S.extract M S.size=⟨(sgnD b (ptD k l)).toArray⟩:=by
 refine bytes_eq ?_;rw[ba_append,ba_append,ba_append,Lib.extract_data,Lib.extract_data,hs,hb];have hl:l.length=M+k:=by rw[←hs];exact hm
 have h1:(l.drop M).take (S.size-M)=l.drop M:=List.take_of_length_le (by rw[List.length_drop];omega);rw[h1];show sgnD b []++(l.drop 0).take (M-0)++[46]++l.drop M=sgnD b (l.take (l.length-k)++46::l.drop (l.length-k));rw[show l.length-k=M from by omega,List.drop_zero,Nat.sub_zero,List.append_assoc,List.append_assoc]
 cases b<;>rfl
theorem rdprint_some(n d:ByteArray)(w:World)(hn:n.size≤4000)(hd:d.size≤4000)(h:isR (n.data.toList,d.data.toList)=true){k:Nat}(hk:k≠0)(hp:plc (valR (n.data.toList,d.data.toList)).den=some k) :
  Calls Tryz.prog 102 #[.agg #[.string n,.string d]] w (GiveS w (prS (n.data.toList,d.data.toList))):=by
 have cm:=fun w=>rqmay_any n d w (by omega) (by omega);have cp:=fun w=>rdplaces_any n d w (by omega) (by omega);have cs:=fun w=>rqsign_any n d w (by omega) (by omega);rw[h]at cm;rw[pl_den h,hp]at cp;have cp:∀w,Calls Tryz.prog 100 #[.agg #[.string n,.string d]] w (GiveIB w ((k:Int),true)):=cp;have hden:(dig (valR (n.data.toList,d.data.toList)).den).length≤4000:=by rw[←(isR_den h).1];exact hd
 have hnum:(wd (valR (n.data.toList,d.data.toList)).num).length≤4000:=by rw[←(isR_den h).2];exact hn
 have hkb:k<16000:=by
  have h1:=plc_bound (Nat.pos_of_ne_zero (valR (n.data.toList,d.data.toList)).den_nz) hp (by have:=valS_lt (dig_all (valR (n.data.toList,d.data.toList)).den);rw[valS_dig]at this;exact this);omega
 have hts:=ten_text k;have htz:((⟨#[49]⟩:ByteArray)++⟨(zerS (k:Int)).toArray⟩).size=k+1:=by
  rw[←size_toList,ba_append,List.length_append];show 1+(zerS (k:Int)).length=_;unfold zerS;rw[List.length_replicate,Int.toNat_natCast];omega
 have cz:∀w,Calls Tryz.prog 131 #[.int .i64 (k:Int)] w (GiveS w (zerS (k:Int))):=fun w=>calm (rdzeros_any k w (by omega) (by omega));have cy:=fun w=>rqmul_any n d ((⟨#[49]⟩:ByteArray)++⟨(zerS (k:Int)).toArray⟩) ⟨#[49]⟩ w (by omega) (by omega) (by omega) (by decide);rw[hts]at cy;have cx:∀w,Calls Tryz.prog 130 _ w (GiveR w _):=fun w=>(mul_ten_text h hp)▸cy w;clear cy;have hq:(dig ((valR (n.data.toList,d.data.toList)).num.natAbs*(10 ^ k / (valR (n.data.toList,d.data.toList)).den))).length≤20000:=by
  have h1:=prod_len (a:=(valR (n.data.toList,d.data.toList)).num.natAbs) (Nat.pos_of_ne_zero hk) (Nat.div_le_self (10 ^ k) (valR (n.data.toList,d.data.toList)).den);have h2:=nat_wd_len (valR (n.data.toList,d.data.toList)).num;omega
 have ez:((valR (n.data.toList,d.data.toList)).num*((10 ^ k / (valR (n.data.toList,d.data.toList)).den:Nat):Int)).natAbs=(valR (n.data.toList,d.data.toList)).num.natAbs*(10 ^ k / (valR (n.data.toList,d.data.toList)).den):=by
  rw[Int.natAbs_mul,Int.natAbs_natCast]
 have hr:prS (n.data.toList,d.data.toList)=sgnD (decide (sgnR (n.data.toList,d.data.toList)<0)) (ptD k (padD (k+1) (dig ((valR (n.data.toList,d.data.toList)).num.natAbs*(10 ^ k / (valR (n.data.toList,d.data.toList)).den))))):=by
  rw[prS_yes h,prD_some hp hk,decide_eq_decide.2 (sgn_lt h)]
 rw[hr];generalize hZ:(valR (n.data.toList,d.data.toList)).num*((10 ^ k / (valR (n.data.toList,d.data.toList)).den:Nat):Int)=Z at *;rw[←ez]at hq ⊢;generalize sgnR (n.data.toList,d.data.toList)=g at *;clear hr hts h hden hnum hZ ez hp;have hw:=wd_length Z;have ca:∀w,Calls Tryz.prog 58 #[.string ⟨(wd Z).toArray⟩] w (fun e w'=>e=.returned (.string ⟨(dig Z.natAbs).toArray⟩)∧Below w.heap.size w w'):=fun w=>by
  have c:=calm (rwabs_any ⟨(wd Z).toArray⟩ w (by rw[size_of];omega));have e:absW (⟨(wd Z).toArray⟩:ByteArray).data.toList=dig Z.natAbs:=abs_wd Z;rw[e]at c;exact c
 have hS:=size_dig Z.natAbs;have hP:=pad_text k Z.natAbs;rw[←hS]at hP;have cy:∀w,Calls Tryz.prog 131 #[.int .i64 (max ((k:Int)+1-((⟨(dig Z.natAbs).toArray⟩:ByteArray).size:Int)) 0)] w (GiveS w (zerS (max ((k:Int)+1-((⟨(dig Z.natAbs).toArray⟩:ByteArray).size:Int)) 0))):=fun w=>calm (rdzeros_any _ w (by omega) (by omega));have zk:=zer_size k;have hk':¬(k:Int)=0:=by omega
 have hx1:¬9223372036854775807<1+k:=by omega
 generalize (⟨(dig Z.natAbs).toArray⟩:ByteArray)=S at *;have hSs:S.size≤20000:=by rw[hS];exact hq
 have CM:=zh cm;have CP:=zh cp;have CS:=zh cs;have CZ:=zh cz;have CX:=zh cx;have CA:=zh ca;have CY:=zh cy;have HP:=zh hP;have HW:=zh hw;have HQ:=zh hq;clear cm cp cs cz cx ca cy hP hw hq hS;go_enter Tryz.func102,Tryz.ntmps102;go_wp2_with fail;obtain⟨W,hW,BW,sW,k0,k1⟩:=box1 w (.string n) (.string d) 37;have hB:=zh (Nat.le_refl W.heap.size);rw[hW];clear hW;have b0:=Below.refl W.heap.size W;refine(CM.out _).mono ?_;rintro e w1 ⟨rfl,b⟩;have b1:=Below.more b0 b;clear b;go_wp2_with fail;refine(CP.out _).mono ?_;rintro e w2 ⟨rfl,b⟩;have b2:=Below.more b1 b;clear b;go_wp2_with fail
 first|(go_region_held3 (fun w'=>Below W.heap.size W w')
     (first|(exact b2.drew)|(with_reducible assumption)|(exact Below.alloc (by with_reducible assumption) (Nat.le_trans hB.out (Below.size (by with_reducible assumption))) _)|(exact put2 (by with_reducible assumption) (Nat.le_refl _) _ _)|(exact put2 (by with_reducible assumption) hB.out _ _)|(exact put2 (by with_reducible assumption) (Nat.le_trans hB.out (Below.size (by with_reducible assumption))) _ _))
     (first|(go_at_call 131;(with_reducible refine(held (W:=W) hB.out (CZ.out _) (by assumption)).mono ?_);rintro e w'' ⟨rfl,hb,hw⟩;(first|(have hz:=zc_made0 hb)|(have hz:=zc_made hb)|skip);(try have hz:=Zc.below (by assumption) hb);(try (have z0:=hz.c0;have z1:=hz.c1;have z2:=hz.f0;have z3:=hz.f1)))|(go_at_call 130;(with_reducible refine(held (W:=W) hB.out (CX.out _) (by assumption)).mono ?_);rintro e w'' ⟨rfl,hb,hw⟩;(first|(have hz:=zc_made0 hb)|(have hz:=zc_made hb)|skip);(try have hz:=Zc.below (by assumption) hb);(try (have z0:=hz.c0;have z1:=hz.c1;have z2:=hz.f0;have z3:=hz.f1)))))|fail
 all_goals (go_wp2_with fail)
 all_goals (refine(CA.out _).mono ?_;rintro e w9 ⟨rfl,b9⟩)
 all_goals (have b3:=Below.more (by with_reducible assumption) b9;clear b9)
 all_goals
  go_wp2_with fail;refine(CY.out _).mono ?_;rintro e w10 ⟨rfl,b10⟩;have b4:=Below.more b3 b10;clear b10;have hx2:¬9223372036854775807<(⟨(zerS (max ((k:Int)+1-(S.size:Int)) 0)).toArray⟩:ByteArray).size+S.size:=by rw[zer_size'];omega
  go_wp2_with fail;refine(CS.out _).mono ?_;rintro e w11 ⟨rfl,b11⟩;have b5:=Below.more b4 b11;clear b11;clear hx2;have hM:∃M,((⟨(zerS (max ((k:Int)+1-(S.size:Int)) 0)).toArray⟩:ByteArray)++S).size=M+k∧M≤40000:=by
   have h1:=congrArg List.length HP.out;rw[size_toList]at h1;have h2:(padD (k+1) (dig Z.natAbs)).length=k+1-(dig Z.natAbs).length+(dig Z.natAbs).length:=by
    unfold padD;rw[List.length_append,List.length_replicate]
   have h3:=HQ.out;exact⟨k+1-(dig Z.natAbs).length+(dig Z.natAbs).length-k,by omega,by omega⟩
  obtain⟨M,hm,hM⟩:=hM;clear b0 b1 b2 b3 b4;generalize (⟨(zerS (max ((k:Int)+1-(S.size:Int)) 0)).toArray⟩:ByteArray)++S=T at *;have hr:=fun sg hb=>pt_text (S:=T) (sg:=sg) (b:=decide (g<0)) HP.out hm hb;have HR:=zh hr;clear hr;by_cases hg:g<0
  ·go_wp2_with fail
   go_quiet (fail)
   go_wp2_with fail;go_ret;exact⟨ret_str (by have:=HR.out ⟨#[45]⟩ (by rw[decide_eq_true hg];rfl);rw[hm]at this;exact this),Below.drewN (Below.more BW (by with_reducible assumption)) _⟩
  ·go_wp2_with fail
   go_quiet (fail)
   go_wp2_with fail;go_ret;exact⟨ret_str (by have:=HR.out ⟨#[]⟩ (by rw[decide_eq_false (by omega)];rfl);rw[hm]at this;first|exact this|simpa using this),Below.drewN (Below.more BW (by with_reducible assumption)) _⟩
theorem rdprint_any(n d:ByteArray)(w:World)(hn:n.size≤4000)(hd:d.size≤4000) :
  Calls Tryz.prog 102 #[.agg #[.string n,.string d]] w (GiveS w (prS (n.data.toList,d.data.toList))):=by
 cases h:isR (n.data.toList,d.data.toList) with
 | false=>exact rdprint_no n d w hn hd h
 | true=>cases hp:plc (valR (n.data.toList,d.data.toList)).den with
  | none=>exact rdprint_none n d w hn hd h hp
  | some k =>
        by_cases hk:k=0
        ·rw[hk]at hp;exact rdprint_zero n d w hn hd h hp
        ·exact rdprint_some n d w hn hd h hk hp
namespace Tm
theorem of_len{n:Int}(h0:0≤n)(h:n≤9999):(ofS n).length≤4:=by
 rw[ofS_pos h0];exact dig_length (by decide) (by omega)
theorem name_len{l:List UInt8}(h:isName l=true):l.length≤20:=by
 unfold isName at h;simp only[Bool.and_eq_true,decide_eq_true_eq]at h;omega
theorem body_len{k N:Nat}(hk:k≤20)(hN:(dig N).length≤80):(bodyD k (dig N)).length≤101:=by
 unfold bodyD;split
 ·omega
 ·unfold ptD padD;simp only[List.length_append,List.length_take,List.length_cons,List.length_drop,List.length_replicate];omega
theorem abs_num{q:Key}(hr:isR q=true):absW q.1=dig (valR q).num.natAbs:=by
 unfold absW;rw[if_pos (isR_w hr).1,valR_num hr]
theorem w_len{l:List UInt8}(h:isW l=true):l.length≤(absW l).length+1:=by
 unfold absW;rw[if_pos h];rcases isW_cases h with ⟨k,e⟩|⟨r,e,k,_,e2⟩
 ·rw[e,Int.natAbs_natCast,dig_valS k];exact Nat.le_succ _
 ·rw[e2,Int.natAbs_neg,Int.natAbs_natCast,dig_valS k,e,List.length_cons];exact Nat.le_refl _
theorem numP_len{q:Key}(hr:isR q=true)(h1:(absW q.1).length≤60)(h2:q.2.length≤60):(numP q).length≤140:=by
 have hl:=w_len (isR_w hr).1;have h3:=h1;rw[abs_num hr]at h3;unfold numP;split
 ·next hd =>
  obtain⟨_,⟨k,hk,hk2⟩,h0⟩:=dec_q hd;rw[prS_yes hr,prD_body hk,show decide ((valR q).num<0)=false from decide_eq_false (by omega)];show (bodyD k _).length≤140;have hN:(dig ((valR q).num.natAbs*(10 ^ k / (valR q).den))).length≤80:=by
   by_cases k0:k=0
   ·subst k0;have hq:(10 ^ 0 / (valR q).den)≤1:=Nat.div_le_self _ _;have h4:(valR q).num.natAbs*(10 ^ 0 / (valR q).den)≤(valR q).num.natAbs:=by
     have:=Nat.mul_le_mul_left (valR q).num.natAbs hq
     rwa[Nat.mul_one]at this
    exact Nat.le_trans (dig_len_le h4) (by omega)
   ·exact Nat.le_trans (prod_len (Nat.pos_of_ne_zero k0) (Nat.div_le_self _ _)) (by omega)
  exact Nat.le_trans (body_len hk2 hN) (by decide)
 ·simp only[numH,List.length_append,List.length_cons,List.length_nil];omega
theorem leafH_len(op:Int):(leafH op).length≤4:=by
 unfold leafH;split
 ·exact Nat.le_refl _
 ·split<;>decide
theorem leaf_len{x:Nd}(h:okN x=true)(h0:arN x.op=some 0):(leafP x).length≤140:=by
 unfold okN at h;unfold leafP;rcases ops0 h0 with e|e|e|e|e
 ·rw[if_pos e]at h ⊢;simp only[Bool.and_eq_true,decide_eq_true_eq]at h;exact numP_len h.2.1 h.2.2.1 h.2.2.2
 ·rw[if_neg (by omega),if_pos e]at h ⊢;simp only[Bool.and_eq_true,decide_eq_true_eq,astB]at h;have:=name_len h.2.1.1;have:=of_len h.2.2.1 h.2.2.2;simp only[List.length_append,List.length_cons,List.length_nil];omega
 all_goals
  rw[if_neg (by omega),if_neg (by omega),if_pos (by omega)]at h;rw[if_neg (by omega),if_neg (by omega)];simp only[Bool.and_eq_true,decide_eq_true_eq,astB]at h;have:=name_len h.2.1.1;have ha:=h.2.2.1;have hb:=h.2.2.2.1;have hab:=h.2.2.2.2.1;have:=of_len ha (by omega);have:=of_len (n:=x.b) (by omega) hb;have hf:=leafH_len x.op;simp only[List.length_append,List.length_cons,List.length_nil];omega
theorem fnH_len(op:Int):(fnH op).length≤4:=by
 unfold fnH;split
 ·exact Nat.le_refl _
 ·split<;>decide
theorem pr_len:∀ {t:Tr},t.wf→okT t→(pr t).length≤140*t.flat.length
 | .t0 x,hw,ho=>by
  rw[pr0];exact leaf_len (ok_t0 ho) hw
 | .t1 x a,hw,ho=>by
  obtain⟨h1,h2⟩:=ok_t1 ho;have ih:=pr_len hw.2 h2;rw[pr1 (ops1 hw.1)];simp only[Tr.flat,List.length_append,List.length_cons,List.length_nil];omega
 | .t2 x a b,hw,ho=>by
  obtain⟨h1,h2,h3⟩:=ok_t2 ho;have iha:=pr_len hw.2.1 h2;have ihb:=pr_len hw.2.2 h3;have hf:=fnH_len x.op;by_cases h9:x.op≤9
  ·rw[pr2 (by rcases ops2 hw.1 with e|e|e|e|e|e<;>omega) h9];simp only[Tr.flat,List.length_append,List.length_cons,List.length_nil];omega
  ·rw[pr2f (by omega)];simp only[Tr.flat,List.length_append,List.length_cons,List.length_nil];omega
 | .t3 x a b c,hw,ho=>by
  obtain⟨h1,h2,h3,h4⟩:=ok_t3 ho;have iha:=pr_len hw.2.1 h2;have ihb:=pr_len hw.2.2.1 h3;have ihc:=pr_len hw.2.2.2 h4;rw[pr3 (ops3 hw.1)];simp only[Tr.flat,List.length_append,List.length_cons,List.length_nil];omega
def ps(st:List Tr):List (List UInt8):=st.map pr
theorem ps_len(st:List Tr):(ps st).length=st.length:=List.length_map ..
theorem pr_mk{x:Nd}{l:List Tr}(h:l.length≤3):pr (mkT x l)=if l=[] then leafP x else aboveP x.op (ps l):=by
 have k:pr (mkT x l)=prF x (ps l):=fold_mk prF h;rw[k];unfold prF;by_cases e:l=[]
 ·subst e;rfl
 ·rw[if_neg e];exact if_neg (fun c=>e (List.map_eq_nil_iff.1 c))
theorem print_yes{t:List Nd}{tr:Tr}(h:formB t=true)(ht:treeOf t=some tr)(ho:∀x∈t,okN x=true):printT t=pr tr:=by
 unfold printT;rw[ht];dsimp only;rw[if_pos];rw[h,List.all_eq_true.2 ho];rfl
theorem print_form{t:List Nd}(h:formB t=false):printT t=[]:=by
 unfold printT;split
 ·rw[h];rfl
 ·rfl
theorem print_bad{t:List Nd}{i:Nat}{x:Nd}(hx:t[i]?=some x)(h:okN x=false):printT t=[]:=by
 unfold printT;split
 ·rw[if_neg];intro k;simp only[Bool.and_eq_true,List.all_eq_true]at k;rw[k.2 x (List.mem_of_getElem? hx)]at h
  cases h
 ·rfl
theorem stk_ok{t:List Nd}{i:Nat}{st:List Tr}(h:stk t i=some st)(ho:∀j x,j<i→t[j]?=some x→okN x=true):∀s∈st,s.wf∧okT s:=fun s hs=>by
 obtain⟨h1,h2⟩:=stk_flat h;refine⟨h2 s hs,fun x hx=>?_⟩;have hm:x∈t.take i:=by
  rw[←h1];exact List.mem_flatten.2 ⟨s.flat,List.mem_map.2 ⟨s,hs,rfl⟩,hx⟩
 obtain⟨j,hj⟩:=List.getElem?_of_mem hm;rw[List.getElem?_take]at hj;split at hj
 ·next hlt=>exact ho j x hlt hj
 ·cases hj
end Tm
namespace Tm
theorem check_iff(t:List Nd):decide (checkT t=0)=(!decide (printT t=[])&&(decide ((printT t).length≤20000)&&decide (depthT t≤150))):=by
 unfold checkT;by_cases h1:printT t=[]
 ·rw[if_pos (.inl h1),decide_eq_true h1];rfl
 by_cases h2:20000<(printT t).length
 ·rw[if_pos (.inr (.inl h2)),decide_eq_false h1,decide_eq_false (show ¬(printT t).length≤20000 by omega)];rfl
 by_cases h3:150<depthT t
 ·rw[if_pos (.inr (.inr h3)),decide_eq_false (show ¬depthT t≤150 by omega),Bool.and_false,Bool.and_false];rfl
 ·rw[if_neg (by rintro(h|h|h)<;>contradiction),decide_eq_false h1,decide_eq_true (show (printT t).length≤20000 by omega),decide_eq_true (show depthT t≤150 by omega)];rfl
def sevN:Nd:=Nd.mk 0 ([55],[49]) [] 0 0
def pxN:Nd:=Nd.mk 1 ([],[]) [120] 5 0
def nmN:Nd:=Nd.mk 0 ([51],[50]) [] 0 0
def thN:Nd:=Nd.mk 0 ([45,49],[51]) [] 0 0
def avN:Nd:=Nd.mk 2 ([],[]) [120] 1 3
def loN:Nd:=Nd.mk 4 ([],[]) [120] 0 60
def someT:List Nd:=[pxN,nmN,plainN 7]
def bothT:List Nd:=[pxN,nmN,plainN 7,thN,plainN 10]
end Tm
end Go.Proofs.YtmllklfjngapiaaGreatDoor
namespace Go.Proofs.YtmllklfjngapiaaGreatDoor
open Go.RowKit
section
variable {x y : Rat} {j k : Nat}
end
section
variable {x y z : Rat} {j k : Nat}
end
theorem lay{V w:World}(h:Below V.heap.size V w)(a b:Value)(t:TypeId):∃U,w.alloc (.cells #[a,b] t)=U∧Below V.heap.size V U∧w.heap.size+1=U.heap.size ∧
  (∀v,Below U.heap.size U v→v.cell? ⟨w.heap.size,0,none⟩=some a)∧(∀v,Below U.heap.size U v→v.cell? ⟨w.heap.size,1,none⟩=some b) :=
 ⟨_,rfl,h.alloc h.size _,by simp,fun _ k=>(zc_made k).c0,fun _ k=>(zc_made k).c1⟩
end Go.Proofs.YtmllklfjngapiaaGreatDoor
set_option maxHeartbeats 1000000
set_option maxRecDepth 100000
namespace Go.Proofs.YtmllklfjngapiaaGreatDoor
open Go.RowKit
theorem rqof_any(n:Int)(w:World)(h0:-9223372036854775808≤n)(h1:n≤9223372036854775807) :
  Calls Tryz.prog 14 #[.int .i64 n] w (GiveR w (wd n,[49])):=by
 have ca:=fun w=>rwof_any n w h0 h1;generalize wd n=s at *;clear h0 h1;have CA:=zh ca;clear ca;go_enter Tryz.func14,Tryz.ntmps14;go_wp2_with fail;obtain⟨W,hW,BW,sW,r0,r1,r2,r3⟩:=box0z w (.string ⟨#[]⟩) (.string ⟨#[]⟩) 37;have hB:=zh (Nat.le_refl W.heap.size);rw[hW];clear hW;have b0:=Below.refl W.heap.size W;refine(CA.out _).mono ?_;rintro e w1 ⟨rfl,b⟩;have b1:=Below.more b0 b;clear b;go_wp2_with fail;refine bodyPost_ret (v:=.agg #[.string ⟨s.toArray⟩,.string ⟨#[49]⟩]) (by simp[results,Tryz.results14,go_sem, *]) rfl ⟨rfl,?_⟩;exact put2 (Below.more BW b1) (Nat.le_refl _) _ _
section
variable {x y z : Rat} {j k : Nat}
end
def Sch(_l:List Nat)(p:Prop):Prop:=p
theorem sch_in(l:List Nat){p:Prop}(h:Sch l p):p:=h
theorem sch_out{p:Prop}(h:p):Sch [] p:=h
section
variable {P : Program} {md : Region.Mode} {ops : Array Oper} {Q : Exit → Act → World → Prop} {S : World → Prop} {i : Nat} {r : List Nat} {oi : Oper} {v : Value} {fuel : Nat} {listed : Array Bool} {a : Act} {w : World}
theorem sch_take(hi:ops[i]?=some oi)(hs:(Region.noSelect ops&&(Region.free md ops listed i&&(Region.ready md ops listed).contains i))=true)
  (hQ:∀c a w,Q (.panic c) (a.put oi.dst v) w→Q (.panic c) a w) (hy:YieldsIf P ops S oi v a) (hS:S w)
  (h:Sch r (wpAnyH P md ops Q S fuel (listed.setIfInBounds i true) (a.put oi.dst v) w)):Sch (i::r) (wpAnyH P md ops Q S (fuel+1) listed a w):=by
 simp only[Bool.and_eq_true]at hs;exact wpAnyH_take hi hs.1 hs.2.1 hs.2.2 hQ hy hS h
theorem sch_yes(hi:ops[i]?=some oi)(hs:(Region.noSelect ops&&(Region.free md ops listed i&&(Region.ready md ops listed).contains i))=true)
  (hw:Region.wanted oi (yielded ops a.tmps)=true) (hy:∀w,S w→(execOp a.eval oi).run P w=.ok (.value v) w) (hS:S w)
  (h:Sch r (wpAnyH P md ops (NoPanic Q) S fuel (listed.setIfInBounds i true) (a.put oi.dst v) w)):Sch (i::r) (wpAnyH P md ops (NoPanic Q) S (fuel+1) listed a w) :=
 sch_take hi hs (fun _ _ _ h=>h) (.inl ⟨hw,hy⟩) hS h
theorem sch_no(hi:ops[i]?=some oi)(hs:(Region.noSelect ops&&(Region.free md ops listed i&&(Region.ready md ops listed).contains i))=true)
  (hw:Region.wanted oi (yielded ops a.tmps)=false) (hS:S w)
  (h:Sch r (wpAnyH P md ops (NoPanic Q) S fuel (listed.setIfInBounds i true) (a.put oi.dst undef) w)):Sch (i::r) (wpAnyH P md ops (NoPanic Q) S (fuel+1) listed a w) :=
 sch_take hi hs (fun _ _ _ h=>h) (.inr ⟨hw,rfl⟩) hS h
end
end Go.Proofs.YtmllklfjngapiaaGreatDoor
namespace Go.Proofs.YtmllklfjngapiaaGreatDoor
open Go.RowKit
section
variable {α : Type} (enc : α → List Value) (k : Nat)
def RowsG(w:World)(p:Option Addr)(l:List α):Prop:=∀ (j:Nat) (x:α),l[j]?=some x→∃b o,p=some ⟨b,o,none⟩∧b<w.heap.size∧∀i v,(enc x)[i]?=some v→w.cell? ⟨b,o+j*k+i,none⟩=some v
abbrev OwnG(e:TypeId)(B:Nat)(w:World)(v:Value)(l:List α):Prop:=w.ownsRow B e k v l.length (l.flatMap enc)
end
section
variable {α : Type} {enc : α → List Value} {k : Nat}
theorem RowsG.below{w w':World}{p:Option Addr}{l:List α}(h:RowsG enc k w p l)(hb:Below w.heap.size w w'):RowsG enc k w' p l:=fun j x hx=>by
 obtain⟨b,o,hp,hl,c⟩:=h j x hx;exact⟨b,o,hp,Nat.lt_of_lt_of_le hl hb.size,fun i v hv=>(hb.cell (p:=⟨b,_,none⟩) hl).trans (c i v hv)⟩
theorem RowsG.nil(w:World)(p:Option Addr):RowsG enc k w p []:=fun j x h=>by cases h
theorem RowsG.grown{w w':World}{row:Option Nat}{p:Option Addr}{l:List α}(h:RowsG enc k w p l)(hg:w.grownBy w' row)(hr:∀a,p=some a→row≠some a.block):RowsG enc k w' p l:=fun j x hx=>by
 obtain⟨b,o,rfl,hl,c⟩:=h j x hx;have hb:w'.heap[b]?=w.heap[b]?:=hg.block b hl fun e=>hr _ rfl e.symm;exact⟨b,o,rfl,Nat.lt_of_lt_of_le hl hg.size,fun i v hv=>(World.cell?_of_block (w:=w) hb).trans (c i v hv)⟩
theorem flat_len(hk:∀x,(enc x).length=k):∀l:List α,(l.flatMap enc).length=l.length*k
 | []=>(Nat.zero_mul k).symm
 | x::r=>by rw[List.flatMap_cons,List.length_append,hk,flat_len hk r,List.length_cons,Nat.add_mul,Nat.one_mul,Nat.add_comm]
theorem flat_get(hk:∀x,(enc x).length=k):∀ {l:List α} {j:Nat} {x:α} {i:Nat} {v:Value},l[j]?=some x→(enc x)[i]?=some v→(l.flatMap enc)[j*k+i]?=some v
 | [],_,_,_,_,h,_=>by cases h
 | y::r,0,x,i,v,h,hv=>by
  obtain rfl:y=x:=Option.some.inj h;have hi:=(List.getElem?_eq_some_iff.1 hv).1;rw[List.flatMap_cons,Nat.zero_mul,Nat.zero_add,List.getElem?_append_left hi];exact hv
 | y::r,j+1,x,i,v,h,hv=>by
  have h:r[j]?=some x:=h;have e:(j+1)*k+i=(enc y).length+(j*k+i):=by rw[hk,Nat.add_mul,Nat.one_mul];omega
  rw[List.flatMap_cons,e,List.getElem?_append_right (Nat.le_add_right _ _),Nat.add_sub_cancel_left];exact flat_get hk h hv
theorem flat_one(h1:∀x,∀v∈enc x,v.oneCell'=true)(l:List α):∀v∈l.flatMap enc,v.oneCell'=true:=fun v hv=>by
 obtain⟨x,_,hx⟩:=List.mem_flatMap.1 hv;exact h1 x v hx
theorem ownG_below{e:TypeId}{B:Nat}{w w':World}{v:Value}{l:List α}(h:OwnG enc k e B w v l)(hb:Below w.heap.size w w'):OwnG enc k e B w' v l :=
 World.ownsRow.kept h (row:=none) ⟨hb.os,hb.tape,hb.output,hb.size,fun i hi _=>hb.block i hi⟩ (Decidable.or_iff_not_imp_left.2 fun c e=>c e)
theorem ownG_rows{e:TypeId}{B:Nat}{w:World}{v:Value}{l:List α}(hk:∀x,(enc x).length=k)(h:OwnG enc k e B w v l) :
  ∃p c,v=.slice p l.length c∧l.length≤c∧RowsG enc k w p l∧∀a,p=some a→B≤a.block:=by
 rcases h.2 with ⟨rfl,h0⟩|⟨g,cap,cur,rfl,k2,k3,k4,k5⟩
 ·have:l=[]:=List.length_eq_zero_iff.1 h0;subst this;exact⟨none,0,rfl,Nat.le_refl _,RowsG.nil _ _,fun _ h=>by cases h⟩
 ·refine⟨some ⟨g,0,none⟩,cap,rfl,k4,fun j x hx=>?_,fun a h=>by cases h;exact k2⟩;refine⟨g,0,rfl,(Array.getElem?_eq_some_iff.1 k3).1,fun i u hu=>?_⟩;have c:=World.ownsRow.cells (g:=g) h rfl (j*k+i) u (flat_get hk hx hu);rw[show ((⟨g,0,none⟩:Addr).add (j*k+i))=⟨g,0+j*k+i,none⟩ by unfold Addr.add;split<;>simp_all]at c;exact c
theorem ownG_empty{e:TypeId}{B:Nat}(w:World)(h:B≤w.heap.size):OwnG enc k e B (w.alloc (.cells #[] e)) (.slice (some ⟨w.heap.size,0,none⟩) 0 0) [] :=
 ⟨(Nat.zero_mul k).symm,.inr ⟨w.heap.size,0,#[],rfl,h,heap_alloc_new w _,Nat.le_refl _,Nat.zero_le _,(Nat.zero_mul k).symm,by simp⟩⟩
theorem RowsG.cells{w:World}{ad:Addr}{x:α}(hk:(enc x).length=k)(h:RowsG enc k w (some ad) [x]):∀ (j:Nat) (u:Value),(enc x)[j]?=some u→w.cell? (ad.add j)=some u:=fun j u hu=>by
 obtain⟨b,o,hp,_,c⟩:=h 0 x rfl
 cases hp
 rw[show ((⟨b,o,none⟩:Addr).add j)=⟨b,o+0*k+j,none⟩ by unfold Addr.add;split<;>simp_all];exact c j u hu
theorem run_append_G{P:Program}{w:World}(t ty e:TypeId){z:Value}{bytes:Nat}(ht:P.underlying t=some (.slice e))(info:(P.info? e).map (fun i=>(i.zero,i.size,i.bytes))=some (some z,k,bytes))(hz:z.cells.size=k)(hk0:0<k)(hb:bytes≤4096)
  (hk:∀x,(enc x).length=k) (h1:∀x,∀v∈enc x,v.oneCell'=true) (base:Nat) (v:Value) (fs:List α) (hown:OwnG enc k e base w v fs) (ad:Addr) (y:α) (c:Nat) (hl:RowsG enc k w (some ad) [y]) (hf:fs.length≤3000000) (hbase:base≤w.heap.size) :
  ∃v' w',(Builtin.append_ #[t,t] ty #[v,.slice (some ad) 1 c]).run P w=.ok v' w'∧OwnG enc k e base w' v' (fs++[y])∧w.grownBy w' v.ownBlock∧(v'.ownBlock=v.ownBlock∨v'.ownBlock=some w.heap.size):=by
 obtain⟨i0,hi,hz0,hz1,hz2⟩:=info_parts info;have hbb:(fs.length+1)*bytes≤140737488355328:=Nat.le_trans (Nat.mul_le_mul (show fs.length+1≤3000001 by omega) hb) (by decide);obtain⟨v',w',hr,h2,h3,h4,h5⟩:=run_append_own_at (P:=P) w base t ty e i0 z k bytes ht hi hz0 hz1 hz2 hz hk0 v fs.length (fs.flatMap enc) hown ad 1 c (enc y) (by rw[hk,Nat.one_mul]) (RowsG.cells (hk y) hl) (h1 y) (by unfold maxLen;omega) hbb hbase;refine⟨v',w',hr,?_,h3,h5⟩;show World.ownsRow w' base e k v' (fs++[y]).length ((fs++[y]).flatMap enc);rw[List.length_append,List.flatMap_append];have e1:[y].flatMap enc=enc y:=by rw[List.flatMap_cons];exact List.append_nil _
 rw[e1];exact h2
theorem wp_append_G{P:Program}{o:Oper}{a:Act}{K:Act→World→Prop}{Q:Exit→Act→World→Prop}{w:World}(s x:Operand)(t e:TypeId)(ho:o.op=.call { callee:=.builtin .append,args:=#[s,x],argTypes:=#[t,t] }){z:Value}{bytes:Nat}
  (ht:P.underlying t=some (.slice e)) (info:(P.info? e).map (fun i=>(i.zero,i.size,i.bytes))=some (some z,k,bytes)) (hz:z.cells.size=k) (hk0:0<k) (hb:bytes≤4096)
  (hk:∀x,(enc x).length=k) (h1:∀x,∀v∈enc x,v.oneCell'=true) (base:Nat) (v:Value) (fs:List α) (hs:a.eval s=v) (hown:OwnG enc k e base w v fs) (ad:Addr) (y:α) (c:Nat) (hx:a.eval x=.slice (some ad) 1 c) (hl:RowsG enc k w (some ad) [y]) (hf:fs.length≤3000000) (hbase:base≤w.heap.size)
  (h:∀v' w',OwnG enc k e base w' v' (fs++[y])→w.grownBy w' v.ownBlock→(v'.ownBlock=v.ownBlock∨v'.ownBlock=some w.heap.size)→K (a.put o.dst v') w'):o.wp P a w K Q:=by
 obtain⟨v',w',hr,h2,h3,h4⟩:=run_append_G t o.type e ht info hz hk0 hb hk h1 base v fs hown ad y c hl hf hbase;exact Lib.wp_append_run w s x t t ho _ _ hs hx _ _ hr (h v' w' h2 h3 h4)
theorem wpList_append_G{P:Program}{ops:Array Oper}{rest:List Oper}{o:Oper}{a:Act}{Q:Exit→Act→World→Prop}{w:World}(hgd:o.guard=none)(s x:Operand)(t e:TypeId)(ho:o.op=.call { callee:=.builtin .append,args:=#[s,x],argTypes:=#[t,t] }){z:Value}{bytes:Nat}
  (ht:P.underlying t=some (.slice e)) (info:(P.info? e).map (fun i=>(i.zero,i.size,i.bytes))=some (some z,k,bytes)) (hz:z.cells.size=k) (hk0:0<k) (hb:bytes≤4096)
  (hk:∀x,(enc x).length=k) (h1:∀x,∀v∈enc x,v.oneCell'=true) (base:Nat) (v:Value) (fs:List α) (hs:a.eval s=v) (hown:OwnG enc k e base w v fs) (ad:Addr) (y:α) (c:Nat) (hx:a.eval x=.slice (some ad) 1 c) (hl:RowsG enc k w (some ad) [y]) (hf:fs.length≤3000000) (hbase:base≤w.heap.size)
  (h:∀v' w',OwnG enc k e base w' v' (fs++[y])→w.grownBy w' v.ownBlock→(v'.ownBlock=v.ownBlock∨v'.ownBlock=some w.heap.size)→wpList P ops Q rest (a.put o.dst v') w'):wpList P ops Q (o::rest) a w :=
 wpList_plain hgd fun _ hK=>wp_append_G s x t e ho ht info hz hk0 hb hk h1 base v fs hs hown ad y c hx hl hf hbase fun v' w' h1 h2 h3=>hK _ _ (h v' w' h1 h2 h3)
theorem rowsOne(w:World)(x:α)(t:TypeId)(c:Array Value)(hc:c=(enc x).toArray):RowsG enc k (w.alloc (.cells c t)) (some ⟨w.heap.size,0,none⟩) [x]:=fun j y hy=>by
 cases j with
 | zero =>
  obtain rfl:x=y:=Option.some.inj hy;refine⟨w.heap.size,0,rfl,by simp,fun i v hv=>?_⟩;rw[Nat.zero_mul,Nat.zero_add];exact(cell_new w _ _ _ rfl i).trans (by rw[hc];simpa using hv)
 | succ j=>cases hy
end
def HaltG(p:Prop):Prop:=p
theorem haltG{p:Prop}(h:HaltG p):p:=h
end Go.Proofs.YtmllklfjngapiaaGreatDoor
namespace Go.Proofs.YtmllklfjngapiaaGreatDoor
open Go.RowKit
def Nums(w:World)(p:Option Addr)(l:List Int):Prop:=∀ (j:Nat) (x:Int),l[j]?=some x→∃b o,p=some ⟨b,o,none⟩∧b<w.heap.size∧w.cell? ⟨b,o+j,none⟩=some (.int .i64 x)
section
variable {T : Type} [DecidableEq T]
theorem rows_stop{l m:List T}{k:Nat}{x y:T}(hx:l[k]?=some x)(hy:m[k]?=some y)(h:x≠y):decide (l=m)=false:=decide_eq_false fun e=>by
 subst e;rw[hx]at hy;exact h (Option.some.inj hy)
theorem rows_end{l m:List T}(hl:l.length=m.length)(h:∀ (j:Nat) (x:T),j<l.length→l[j]?=some x→m[j]?=some x):decide (l=m)=true:=by
 refine decide_eq_true (List.ext_getElem hl fun i h1 h2=>?_);have:=h i l[i] h1 (List.getElem?_eq_getElem h1);rw[List.getElem?_eq_getElem h2]at this;exact(Option.some.inj this).symm
end
theorem rows_more{T:Type}{l:List T}{P:Nat→T→Prop}{k:Nat}{z:T}(h:∀ (j:Nat) (x:T),j<k→l[j]?=some x→P j x)(hz:l[k]?=some z)(hp:P k z):∀ (j:Nat) (x:T),j<k+1→l[j]?=some x→P j x:=fun j x hj hx=>by
 by_cases e:j=k
 ·subst e;rw[hz]at hx;exact Option.some.inj hx▸hp
 ·exact h j x (by omega) hx
def encN(n:Int):List Value:=[.int .i64 n]
theorem encN_one(n:Int):∀v∈encN n,v.oneCell'=true:=fun v hv=>by
 obtain rfl:=List.mem_singleton.1 hv;rfl
theorem numInfo:(Tryz.prog.info? 3).map (fun i=>(i.zero,i.size,i.bytes))=some (some (.int .i64 0),1,8):=by kernel_rfl
theorem nums_of{w:World}{p:Option Addr}{l:List Int}(h:RowsG encN 1 w p l):Nums w p l:=fun j x hx=>by
 obtain⟨b,o,hp,hl,c⟩:=h j x hx;have k:=c 0 _ rfl;rw[Nat.mul_one]at k;exact⟨b,o,hp,hl,k⟩
abbrev OwnN(B:Nat)(w:World)(v:Value)(l:List Int):Prop:=OwnG encN 1 3 B w v l
end Go.Proofs.YtmllklfjngapiaaGreatDoor
namespace Go.Proofs.YtmllklfjngapiaaGreatDoor
open Go.RowKit
section
variable {α : Type} {enc : α → List Value} {k : Nat}
theorem flat_inv(hk:∀x,(enc x).length=k):∀ {l:List α} {j:Nat} {u:Value},(l.flatMap enc)[j]?=some u→∃q x i,l[q]?=some x∧(enc x)[i]?=some u∧j=q*k+i
 | [],_,_,h=>by cases h
 | y::r,j,u,h=>by
  rw[List.flatMap_cons]at h;by_cases hj:j<(enc y).length
  ·rw[List.getElem?_append_left hj]at h;exact⟨0,y,j,rfl,h,by omega⟩
  ·rw[List.getElem?_append_right (by omega)]at h;obtain⟨q,x,i,h1,h2,h3⟩:=flat_inv hk h;rw[hk]at h3 hj;exact⟨q+1,x,i,h1,h2,by rw[Nat.add_mul,Nat.one_mul];omega⟩
theorem RowsG.cellsM{w:World}{ad:Addr}{l:List α}(hk:∀x,(enc x).length=k)(h:RowsG enc k w (some ad) l):∀ (j:Nat) (u:Value),(l.flatMap enc)[j]?=some u→w.cell? (ad.add j)=some u:=fun j u hu=>by
 obtain⟨q,x,i,h1,h2,rfl⟩:=flat_inv hk hu;obtain⟨b,o,hp,_,c⟩:=h q x h1
 cases hp
 rw[show ((⟨b,o,none⟩:Addr).add (q*k+i))=⟨b,o+q*k+i,none⟩ by unfold Addr.add;split<;>simp_all [Nat.add_assoc]];exact c i u h2
theorem run_append_noneG{P:Program}{w:World}(base:Nat)(t ty e:TypeId)(i:TypeInfo)(size c:Nat)(ht:P.underlying t=some (.slice e))(hi:P.info? e=some i)
  (v:Value) (n:Nat) (xs:List Value) (hown:w.ownsRow base e size v n xs) :
  (Builtin.append_ #[t,t] ty #[v,.slice none 0 c]).run P w=.ok v w:=by
 rcases hown.2 with ⟨rfl,rfl⟩|⟨g,cap,cur,rfl,_,_,hnc,_⟩
 ·simp[Builtin.append_,run_underlying ht,sizeOf,typeInfo,hi,Builtin.lenOf,Builtin.firstCells]
 ·simp[Builtin.append_,run_underlying ht,sizeOf,typeInfo,hi,Builtin.lenOf,Builtin.firstCells,hnc,storeCells]
theorem run_append_M{P:Program}{w:World}(t ty e:TypeId){z:Value}{bytes:Nat}(ht:P.underlying t=some (.slice e))(info:(P.info? e).map (fun i=>(i.zero,i.size,i.bytes))=some (some z,k,bytes))(hz:z.cells.size=k)(hk0:0<k)(hb:bytes≤4096)
  (hk:∀x,(enc x).length=k) (h1:∀x,∀v∈enc x,v.oneCell'=true) (base:Nat) (v:Value) (fs:List α) (hown:OwnG enc k e base w v fs) (q:Option Addr) (l:List α) (c:Nat) (hl:RowsG enc k w q l) (hf:fs.length≤3000000) (hn:l.length≤3000000) (hbase:base≤w.heap.size) :
  ∃v' w',(Builtin.append_ #[t,t] ty #[v,.slice q l.length c]).run P w=.ok v' w'∧OwnG enc k e base w' v' (fs++l)∧w.grownBy w' v.ownBlock∧(v'.ownBlock=v.ownBlock∨v'.ownBlock=some w.heap.size):=by
 obtain⟨i0,hi,hz0,hz1,hz2⟩:=info_parts info
 cases q with
 | none =>
  obtain rfl:l=[]:=by
   cases l with
   | nil=>rfl
   | cons x r=>obtain⟨b,o,hp,_⟩:=hl 0 x rfl;cases hp
  exact⟨v,w,run_append_noneG base t ty e i0 k c ht hi _ _ _ hown,by rw[List.append_nil];exact hown,World.grownBy.refl _ _,.inl rfl⟩
 | some ad =>
  have hbb:(fs.length+l.length)*bytes≤140737488355328:=Nat.le_trans (Nat.mul_le_mul (show fs.length+l.length≤6000000 by omega) hb) (by decide);obtain⟨v',w',hr,h2,h3,h4,h5⟩:=run_append_own_at (P:=P) w base t ty e i0 z k bytes ht hi hz0 hz1 hz2 hz hk0 v fs.length (fs.flatMap enc) hown ad l.length c (l.flatMap enc) (flat_len hk l) (RowsG.cellsM hk hl) (flat_one h1 l) (by unfold maxLen;omega) hbb hbase;refine⟨v',w',hr,?_,h3,h5⟩;show World.ownsRow w' base e k v' (fs++l).length ((fs++l).flatMap enc);rw[List.length_append,List.flatMap_append];exact h2
theorem wp_append_M{P:Program}{o:Oper}{a:Act}{K:Act→World→Prop}{Q:Exit→Act→World→Prop}{w:World}(s x:Operand)(t e:TypeId)(ho:o.op=.call { callee:=.builtin .append,args:=#[s,x],argTypes:=#[t,t] }){z:Value}{bytes:Nat}
  (ht:P.underlying t=some (.slice e)) (info:(P.info? e).map (fun i=>(i.zero,i.size,i.bytes))=some (some z,k,bytes)) (hz:z.cells.size=k) (hk0:0<k) (hb:bytes≤4096)
  (hk:∀x,(enc x).length=k) (h1:∀x,∀v∈enc x,v.oneCell'=true) (base:Nat) (v:Value) (fs:List α) (hs:a.eval s=v) (hown:OwnG enc k e base w v fs) (q:Option Addr) (l:List α) (c:Nat) (hx:a.eval x=.slice q l.length c) (hl:RowsG enc k w q l) (hf:fs.length≤3000000) (hn:l.length≤3000000) (hbase:base≤w.heap.size)
  (h:∀v' w',OwnG enc k e base w' v' (fs++l)→w.grownBy w' v.ownBlock→(v'.ownBlock=v.ownBlock∨v'.ownBlock=some w.heap.size)→K (a.put o.dst v') w'):o.wp P a w K Q:=by
 obtain⟨v',w',hr,h2,h3,h4⟩:=run_append_M t o.type e ht info hz hk0 hb hk h1 base v fs hown q l c hl hf hn hbase;exact Lib.wp_append_run w s x t t ho _ _ hs hx _ _ hr (h v' w' h2 h3 h4)
theorem wpList_append_M{P:Program}{ops:Array Oper}{rest:List Oper}{o:Oper}{a:Act}{Q:Exit→Act→World→Prop}{w:World}(hgd:o.guard=none)(s x:Operand)(t e:TypeId)(ho:o.op=.call { callee:=.builtin .append,args:=#[s,x],argTypes:=#[t,t] }){z:Value}{bytes:Nat}
  (ht:P.underlying t=some (.slice e)) (info:(P.info? e).map (fun i=>(i.zero,i.size,i.bytes))=some (some z,k,bytes)) (hz:z.cells.size=k) (hk0:0<k) (hb:bytes≤4096)
  (hk:∀x,(enc x).length=k) (h1:∀x,∀v∈enc x,v.oneCell'=true) (base:Nat) (v:Value) (fs:List α) (hs:a.eval s=v) (hown:OwnG enc k e base w v fs) (q:Option Addr) (l:List α) (c:Nat) (hx:a.eval x=.slice q l.length c) (hl:RowsG enc k w q l) (hf:fs.length≤3000000) (hn:l.length≤3000000) (hbase:base≤w.heap.size)
  (h:∀v' w',OwnG enc k e base w' v' (fs++l)→w.grownBy w' v.ownBlock→(v'.ownBlock=v.ownBlock∨v'.ownBlock=some w.heap.size)→wpList P ops Q rest (a.put o.dst v') w'):wpList P ops Q (o::rest) a w :=
 wpList_plain hgd fun _ hK=>wp_append_M s x t e ho ht info hz hk0 hb hk h1 base v fs hs hown q l c hx hl hf hn hbase fun v' w' h1 h2 h3=>hK _ _ (h v' w' h1 h2 h3)
end
end Go.Proofs.YtmllklfjngapiaaGreatDoor
