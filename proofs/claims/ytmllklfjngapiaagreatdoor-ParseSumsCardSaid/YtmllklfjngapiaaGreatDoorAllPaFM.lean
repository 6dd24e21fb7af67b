/- Own work. -/
import Derived.Lib.BufferMore
import Derived.Test.YtmllklfjngapiaaGreatDoorAllPaE
set_option linter.unusedSimpArgs false
set_option linter.unusedVariables false
set_option maxHeartbeats 4000000
set_option maxRecDepth 100000
namespace Go.Proofs.YtmllklfjngapiaaGreatDoor
open Go.RowKit
open Tm (Nd Tr arN arI astB okN)
def encZ(n:Nat):List Value:=[.int .i64 (n:Int)]
theorem encZ_one(n:Nat):∀v∈encZ n,v.oneCell'=true:=fun v hv=>by
 obtain rfl:=List.mem_singleton.1 hv;rfl
theorem own_nil{α:Type}{enc:α→List Value}{k:Nat}{e:TypeId}{B:Nat}(w:World):OwnG enc k e B w (.slice none 0 0) ([]:List α):=World.ownsRow_nil _ _ _ _
theorem tindex_any(p:Option Addr)(c:Nat)(t:List Nd)(w:World)(hl:t.length≤1000000)(hz:∀x∈t,x.num.1.length≤100000∧x.num.2.length≤100000)(h:Nds w p t) :
  Calls Tryz.prog 118 #[.slice p t.length c,.func (.func 86) #[] #[]] w fun e w'=>∃i:Int,e=.returned (.int .i64 i)∧(t.all okN=true→i=-1)∧(t.all okN=false→0≤i)∧Below w.heap.size w w':=by
 have HS:=zh h;have HZ:=zh hz;clear h hz
 go_enter Tryz.func118,Tryz.ntmps118
 go_wp2
 go_loopw [8] (fun i wr=>∃k:Nat,k≤t.length∧i=.int .i64 k∧Hid (∀j z,j<k→t[j]?=some z→okN z=true)∧Below w.heap.size w wr) (fun i _=>t.length-(intOf i).toNat)
 case atStart=>exact⟨0,Nat.zero_le _,rfl,fun j z h=>absurd h (Nat.not_lt_zero j),Below.refl _ _⟩
 case round =>
  obtain⟨k,hk,rfl,HJ,hw⟩:=hrel;by_cases hlt:k<t.length
  ·obtain⟨x,hx⟩:∃x,t[k]?=some x:=⟨_,List.getElem?_eq_getElem hlt⟩;obtain⟨b',o',rfl,k0,k1,k2,k3,k4,k5⟩:=nds_rule (HS.out.below hw) hx;have hzx:=HZ.out x (List.mem_of_getElem? hx);have cc:=tmay_any x wr hzx.1 hzx.2;have bw:=Below.refl wr.heap.size wr;have q0:=k0 _ bw;have q1:=k1 _ bw;have q2:=k2 _ bw;have q3:=k3 _ bw;have q4:=k4 _ bw;have q5:=k5 _ bw
   cases he:okN x with
   | true =>
    rw[he]at cc;have HJ2:Hid (∀j z,j<k+1→t[j]?=some z→okN z=true):=zh fun j z hj hz=>by
     rcases Nat.lt_or_eq_of_le (Nat.le_of_lt_succ hj) with g|g
     ·exact HJ.out j z g hz
     ·subst g;rw[hx]at hz;obtain rfl:=Option.some.inj hz;exact he
    have CK:=zh cc;have HW:=zh hw;clear cc hx he hw bw k0 k1 k2 k3 k4 k5 hzx;go_wp2_with fail;refine CK.out.mono ?_;rintro e w1 ⟨rfl,b1⟩;go_wp2_with fail;go_roundw
    case rel=>exact⟨k+1,hlt,by go_num,HJ2.out,Below.more HW.out b1⟩
    case measure=>simp[intOf];omega
   | false =>
    rw[he]at cc;have HO:Hid (t.all okN=false):=zh (by
     cases e:t.all okN with
     | false=>rfl
     | true =>
      have:=List.all_eq_true.1 e x (List.mem_of_getElem? hx);rw[he]at this;cases this)
    have CK:=zh cc;have HW:=zh hw;clear cc hx he hw bw k0 k1 k2 k3 k4 k5 hzx;go_wp2_with fail;refine CK.out.mono ?_;rintro e w1 ⟨rfl,b1⟩;go_wp2_with fail;go_ret;exact⟨_,rfl,(fun h=>by rw[HO.out]at h;cases h),fun _=>by omega,Below.more HW.out b1⟩
  ·obtain rfl:k=t.length:=by omega
   have HO:Hid (t.all okN=true):=zh (List.all_eq_true.2 fun x hx=>by
    obtain⟨j,hj⟩:=List.getElem?_of_mem hx;exact HJ.out j x (List.getElem?_eq_some_iff.1 hj).1 hj)
   have HW:=zh hw;clear hw;go_wp2_with fail;go_ret;exact⟨_,rfl,fun _=>rfl,(fun h=>by rw[HO.out]at h;cases h),HW.out⟩
theorem tcontains_any(p:Option Addr)(c:Nat)(t:List Nd)(w:World)(hl:t.length≤1000000)(hz:∀x∈t,x.num.1.length≤100000∧x.num.2.length≤100000)(h:Nds w p t) :
  Calls Tryz.prog 85 #[.slice p t.length c,.func (.func 86) #[] #[]] w (GiveB w (!(t.all okN))):=by
 have C:=zh (tindex_any p c t w hl hz h);have b0:=Below.refl w.heap.size w;clear h hz;go_enter Tryz.func85,Tryz.ntmps85;go_wp2_with fail;refine C.out.mono ?_;rintro e w1 ⟨i,rfl,h1,h2,b⟩
 cases ho:t.all okN with
 | true =>
  obtain rfl:=h1 ho;go_wp2_with fail;go_ret;exact⟨retB (by rw[ho]<;>rfl),Below.more b0 b⟩
 | false =>
  have hi:=h2 ho;go_wp2_with fail;go_ret;exact⟨retB (by rw[ho]<;>first|rfl|simp[hi]),Below.more b0 b⟩
def fL(l:List (List Nd))(k:Nat):Nat:=(l.take k).flatten.length
end Go.Proofs.YtmllklfjngapiaaGreatDoor
namespace Go.Proofs.YtmllklfjngapiaaGreatDoor
open Go.RowKit
open Tm (Nd Tr arN arI astB okN formB treeOf stk mkT)
theorem grw_none{w w':World}(h:Below w.heap.size w w')(row:Option Nat):w.grownBy w' row:=⟨h.os,h.tape,h.output,h.size,fun k hk _=>h.block k hk⟩
structure NdS(b:Nat)(x:Nd)(w:World):Prop where
 lt:b<w.heap.size
 c:∀ (i:Nat) (v:Value),(encD x)[i]?=some v→w.cell? ⟨b,i,none⟩=some v
theorem NdS.grown{b:Nat}{x:Nd}{w w':World}{row:Option Nat}(h:NdS b x w)(hg:w.grownBy w' row)(hr:row≠some b):NdS b x w':=by
 have hb:w'.heap[b]?=w.heap[b]?:=hg.block b h.lt (fun e=>hr e.symm);exact⟨Nat.lt_of_lt_of_le h.lt hg.size,fun i v e=>(World.cell?_of_block (w:=w) (a:=⟨b,i,none⟩) hb).trans (h.c i v e)⟩
theorem NdS.drew{b:Nat}{x:Nd}{w:World}(h:NdS b x w):NdS b x w.drew:=⟨h.lt,h.c⟩
theorem grw_drew(w:World):w.grownBy w.drew none:=⟨rfl,rfl,rfl,Nat.le_refl _,fun _ _ _=>rfl⟩
section
variable {α : Type} {enc : α → List Value} {k : Nat}
theorem own_take{e:TypeId}{B:Nat}{w:World}{g:Nat}{n c q:Nat}{l:List α}(hk:∀x,(enc x).length=k)(h:OwnG enc k e B w (.slice (some ⟨g,0,none⟩) n c) l)(hq:q≤n):OwnG enc k e B w (.slice (some ⟨g,0,none⟩) q c) (l.take q):=by
 rcases h.2 with ⟨h,_⟩|⟨g',cap,cur,hv,k2,k3,k4,k5,k6,k7⟩
 ·cases h
 ·have e1:some (⟨g,0,none⟩:Addr)=some ⟨g',0,none⟩∧n=l.length∧c=cap:=by
   injection hv with a b c
   exact⟨a,b,c⟩
  obtain⟨e1,rfl,rfl⟩:=e1
  cases e1
  have hql:(l.take q).length=q:=by rw[List.length_take];omega
  refine⟨flat_len hk _,.inr ⟨g,c,cur,by rw[hql],k2,k3,by omega,k5,k6,?_⟩⟩;have e2:l.flatMap enc=(l.take q).flatMap enc++(l.drop q).flatMap enc:=by rw[←List.flatMap_append,List.take_append_drop]
  rw[hql];have e3:cur.toList.take (q*k)=(cur.toList.take (l.length*k)).take (q*k):=by
   rw[List.take_take,Nat.min_eq_left (Nat.mul_le_mul_right _ hq)]
  rw[e3,k7,e2,List.take_append_of_le_length (by rw[flat_len hk,hql];exact Nat.le_refl _),List.take_of_length_le (by rw[flat_len hk,hql];exact Nat.le_refl _)]
theorem own_form{e:TypeId}{B:Nat}{w:World}{a:Option Addr}{n c:Nat}{l:List α}(h:OwnG enc k e B w (.slice a n c) l) :
  (a=none∧n=0∧c=0∧l=[])∨∃g,a=some ⟨g,0,none⟩∧B≤g∧g<w.heap.size∧l.length=n∧n≤c:=by
 rcases h.2 with ⟨h,h0⟩|⟨g',cap,cur,hv,k2,k3,k4,k5,k6,k7⟩
 ·injection h with a b c
  exact .inl ⟨a,b,c,List.length_eq_zero_iff.1 h0⟩
 ·injection hv with a b c
  subst a b c;exact .inr ⟨g',rfl,k2,(Array.getElem?_eq_some_iff.1 k3).1,rfl,k4⟩
end
theorem own_part{α:Type}{enc:α→List Value}{e:TypeId}{B:Nat}{w:World}{g n c:Nat}{l:List α}(hk:∀x,(enc x).length=1)(h:OwnG enc 1 e B w (.slice (some ⟨g,0,none⟩) n c) l)(q m:Nat):RowsG enc 1 w (some ⟨g,q,none⟩) ((l.drop q).take m):=by
 obtain⟨p,c',hv,_,r,_⟩:=ownG_rows hk h;injection hv with h1 h2 h3
 subst h1;have k1:=RowsG.part r q m
 rwa[Nat.zero_add,Nat.mul_one]at k1
structure RkI{α:Type}(enc:α→List Value)(E:TypeId)(f:Nd→List α→α)(t:List Nd)(w0:World)(B:Nat)(I:World→Prop)(J:Nat→World→List α→Prop)(k:Nat)(st:List Tr)(a:Option Addr)(n c:Nat)(w:World):Prop where
 own:OwnG enc 1 E B w (.slice a n c) (st.map (Tr.fold f))
 len:n=st.length
 stk:stk t k=some st
 lo:Below w0.heap.size w0 w
 sz:B≤w.heap.size
 inv:I w
 jj:0<k→∃m T,st.getLast?=some T∧J m w (T.kids.map (Tr.fold f))
def Reck{α:Type}(f:Nd→List α→α)(J:Nat→World→List α→Prop)(t:List Nd)(a:α)(w:World):Prop:=∃tr n,treeOf t=some tr∧a=tr.fold f∧J n w (tr.kids.map (Tr.fold f))
theorem stk_tree{t:List Nd}{tr:Tr}(h:stk t t.length=some [tr]):treeOf t=some tr:=by
 unfold Tm.stk at h;rw[List.take_length]at h;unfold treeOf;rw[h]
theorem stk_step{α:Type}(f:Nd→List α→α){t:List Nd}{k m:Nat}{x:Nd}{st:List Tr}(hx:t[k]?=some x)(hs:stk t k=some st)(ha:arN x.op=some m)(hm:m≤st.length) :
  ∃S L,st=S++L∧S.length=st.length-m∧L.length=m∧stk t (k+1)=some (S++[mkT x L])∧(S++[mkT x L]).map (Tr.fold f)=S.map (Tr.fold f)++[f x (L.map (Tr.fold f))]∧(mkT x L).kids=L:=by
 have h3:=Tm.arN_le ha;have hL:(st.drop (st.length-m)).length=m:=by rw[List.length_drop];omega
 refine⟨st.take (st.length-m),st.drop (st.length-m),(List.take_append_drop _ _).symm,by rw[List.length_take];omega,hL,Tm.step_mk hx hs ha hm,?_,?_⟩
 ·rw[List.map_append,List.map_singleton,Tm.fold_mk f (by omega)]
 ·generalize st.drop (st.length-m)=L at hL
  match L,hL with
  | [],_=>rfl
  | [_],_=>rfl
  | [_,_],_=>rfl
  | [_,_,_],_=>rfl
  | _::_::_::_::_,h=>simp only[List.length_cons]at h;omega
theorem nds_new(w:World)(x:Nd)(t:TypeId):NdS w.heap.size x (w.alloc (.cells #[.int .i64 x.op,.string ⟨x.num.1.toArray⟩,.string ⟨x.num.2.toArray⟩,.string ⟨x.ast.toArray⟩,.int .i64 x.a,.int .i64 x.b] t)) :=
 ⟨by simp,fun i v e=>(cell_new w _ _ _ rfl i).trans (by rw[←e,← Array.getElem?_toList];rfl)⟩
theorem RkI.calm{α:Type}{enc:α→List Value}{E:TypeId}{f:Nd→List α→α}{t:List Nd}{w0:World}{B:Nat}{I:World→Prop}{J:Nat→World→List α→Prop}{k:Nat}{st:List Tr}{a:Option Addr}{n c:Nat}{w w':World}
  (h:RkI enc E f t w0 B I J k st a n c w) (hI:Hid (∀V V' ob,I V→V.grownBy V' ob→(∀k,ob=some k→B≤k)→I V')) (hJ:Hid (∀n V V' ob l,J n V l→V.grownBy V' ob→(∀k,ob=some k→k<n∧B≤k)→J n V' l)) (hb:Below w.heap.size w w'):RkI enc E f t w0 B I J k st a n c w' :=
 ⟨ownG_below h.own hb,h.len,h.stk,Below.more h.lo hb,Nat.le_trans h.sz hb.size,hI.out _ _ none h.inv (grw_none hb none) (by simp),fun hk=>by
  obtain⟨m,T,h1,h2⟩:=h.jj hk;exact⟨m,T,h1,hJ.out _ _ _ none _ h2 (grw_none hb none) (by simp)⟩⟩
end Go.Proofs.YtmllklfjngapiaaGreatDoor
set_option maxHeartbeats 4000000
set_option maxRecDepth 100000
namespace Go.Proofs.YtmllklfjngapiaaGreatDoor
open Go.RowKit
open Wd (Tk okT ktT)
open Tm (Nd plainN arI arN)
open Pz (Wt tgt settleF)
theorem tg_at{o:Int}(h0:0≤o)(h:o≤13):∃m:Nat,o=(m:Int)∧m≤13∧tgL[m]?=some ((tgt o:Nat):Int):=by
 obtain⟨m,rfl⟩:∃m:Nat,o=(m:Int):=⟨o.toNat,by omega⟩;have hm:m≤13:=by omega
 refine⟨m,rfl,hm,?_⟩;have k:∀j:Fin 14,tgL[j.val]?=some ((tgt (j.val:Int):Nat):Int):=by decide
 exact k ⟨m,by omega⟩
theorem top_at{pre K1:List Wt}{x:Wt}:(pre++x::K1).reverse[K1.length]?=some x:=by
 rw[List.reverse_append,List.reverse_cons,List.append_assoc,List.getElem?_append_right (by rw[List.length_reverse];exact Nat.le_refl _),List.length_reverse,Nat.sub_self]
 rfl
theorem take_at{pre K1:List Wt}:(pre++K1).reverse.take K1.length=K1.reverse:=by
 rw[List.reverse_append,List.take_append_of_le_length (by rw[List.length_reverse];exact Nat.le_refl _),List.take_of_length_le (by rw[List.length_reverse];exact Nat.le_refl _)]
variable {R : Nat} {Z : List Nat} {p : Option Addr} {c : Nat} {mv wv ov : Value} {l : List Tk} {k d : Nat} {K : List Wt} {t : List Nd} {w : World}
def OpsOk(K:List Wt):Prop:=∀x∈K,0≤x.1∧x.1≤13
theorem RdS.row1(h:RdS R Z p c mv l k d K t wv ov w):∃q cap,wv=.slice q K.length cap∧K.length≤cap∧RowsG encW 2 w q K.reverse∧∀a,q=some a→R+1≤a.block:=by
 obtain⟨q,cap,e,h1,h2,h3⟩:=ownG_rows (enc:=encW) (k:=2) (fun _=>rfl) h.own1;rw[List.length_reverse]at e h1;exact⟨q,cap,e,h1,h2,h3⟩
theorem RdS.wait_at(h:RdS R Z p c mv l k d K t wv ov w){pre K1:List Wt}{x:Wt}(hK:K=pre++x::K1){q:Option Addr}{n cap:Nat}(hw:wv=.slice q n cap):∃b,q=some ⟨b,0,none⟩∧b<w.heap.size∧w.cell? ⟨b,K1.length*2,none⟩=some (.int .i64 x.1)∧w.cell? ⟨b,K1.length*2+1,none⟩=some (.int .i64 (x.2:Int)):=by
 obtain⟨q',cap',e,h1,h2,h3⟩:=h.row1;subst hK;rcases own_form (n:=n) (c:=cap) (a:=q) (by rw[←hw];exact h.own1) with ⟨_,_,_,h0⟩|⟨g,rfl,_,hl,_,_⟩
 ·exact absurd (congrArg List.length h0) (by simp)
 ·rw[hw]at e;injection e with e1 e2 e3
  subst e1;obtain⟨b,o,e',hb,cc⟩:=h2 K1.length x top_at
  cases e'
  have c0:=cc 0 _ rfl;have c1:=cc 1 _ rfl;rw[Nat.zero_add]at c0 c1;exact⟨g,rfl,hl,c0,c1⟩
theorem cut_row{pre K3:List Wt}{q:Option Addr}{n cap:Nat}(h:RdS R Z p c mv l k d (pre++K3) t (.slice q n cap) ov w):RdS R Z p c mv l k d K3 t (.slice q K3.length cap) ov (w.setCell ⟨R,3,none⟩ (.slice q K3.length cap))∧Kept R Z w (w.setCell ⟨R,3,none⟩ (.slice q K3.length cap)):=by
 rcases own_form h.own1 with ⟨rfl,rfl,rfl,h0⟩|⟨g,rfl,_,_,hl,hc⟩
 ·have e:K3=[]:=(List.append_eq_nil_iff.1 (List.reverse_eq_nil_iff.1 h0)).2;subst e;have k:=h.own1;rw[h0]at k;exact cut_fin (K':=[]) h k rfl
 ·have k:=own_take (enc:=encW) (k:=2) (q:=K3.length) (fun _=>rfl) h.own1 (by rw[←hl,List.length_reverse,List.length_append];omega);rw[take_at]at k;exact cut_fin h k rfl
theorem psettle_any(n:Nat)(h:RdS R Z p c mv l k d K t wv ov w)(hg:GoodP w)(hgl:∀V,Kept R Z w V→GoodP V)(hops:OpsOk K)(hK:K.length+t.length≤1000000) :
  Calls Tryz.prog 47 #[.pointer (some ⟨R,0,none⟩),.int .i64 (n:Int)] w (RdG R Z p c mv l k d (settleF n K t).1 (settleF n K t).2 w (.tuple #[])):=by
 obtain⟨q,cap,rfl,hcap,_,_⟩:=h.row1;have HF0:=zh (own_form h.own1);have c3:=h.blk.c 3 _ rfl;have HH:=zh h;have HG:=zh hgl;have HO:=zh hops;have HK:=zh hK;clear h hg hgl hops hK;have hwr:wrap64 ((K.length:Int)-1)=(K.length:Int)-1:=IntWalk.wrap64_in _ ⟨by have:=HK.out;omega,by have:=HK.out;omega⟩;go_enter Tryz.func47,Tryz.ntmps47;go_wp2_with fail;clear c3
 go_loopw [4] (fun iv wr=>∃ (pre K1:List Wt) (t1:List Nd) (ov1:Value),Hid (K=pre++K1)∧iv=.int .i64 ((K1.length:Int)-1)∧Hid (settleF n K t=settleF n K1 t1)∧Hid (RdS R Z p c mv l k d K t1 (.slice q K.length cap) ov1 wr∧Kept R Z w wr∧t1.length+K1.length=t.length+K.length)∧K1.length≤K.length) (fun iv _=>(intOf iv+1).toNat)
 case atStart=>exact⟨[],K,t,ov,zh rfl,by go_num,zh rfl,zh ⟨HH.out,Kept.refl _ _ _,rfl⟩,Nat.le_refl _⟩
 case round =>
  obtain⟨pre,K1,t1,ov1,HE,rfl,HF,HJ,hle⟩:=hrel;have hKs:K.length≤1000000:=by have:=HK.out;omega
  have c3:=HJ.out.1.blk.c 3 _ rfl;have f3:=HJ.out.1.blk.f 3 (by simp);clear HH;clear hwr;by_cases hc:∃x K2,K1=x::K2∧n≤tgt x.1
  ·obtain⟨⟨op,cm⟩,K2,rfl,hn⟩:=hc;obtain⟨b,rfl,hb,d0,_⟩:=HJ.out.1.wait_at HE.out rfl;have hx:=HO.out (op,cm) (by rw[HE.out];simp);obtain⟨m,hm,hm2,htg⟩:=tg_at hx.1 hx.2;dsimp only at hm htg hn d0;subst hm;have hG:=HG.out wr HJ.out.2.1;have e1:=hG.tg m _ htg;have hop:(((m:Int),cm)::K2:List Wt).length=K2.length+1:=rfl;rw[hop]at hle ⊢;have hi:((K2.length+1:Nat):Int)-1=(K2.length:Int):=by omega
   rw[hi];have hn':(n:Int)≤((tgt (m:Int):Nat):Int):=by omega
   have hlt:(K2.length:Int)<(K.length:Int):=by omega
   have HN:=zh hn;have CL:=zh (play_any (plainN (m:Int)) HJ.out.1 (by have:=HJ.out.2.2;have:=HK.out;omega));have hwr2:wrap64 ((K2.length:Int)-1)=(K2.length:Int)-1:=IntWalk.wrap64_in _ ⟨by omega,by omega⟩;have HF2:Hid (settleF n K t=settleF n K2 (t1++[plainN (m:Int)])):=zh (by rw[HF.out,Pz.settle_yes hn]);clear htg hG hx hop hi hn;generalize tgt (m:Int)=T at *;go_wp2_with fail;refine CL.out.mono ?_;rintro r w1 ⟨ov2,rfl,h2,k2⟩;have HJ2:Hid (RdS R Z p c mv l k d K (t1++[plainN (m:Int)]) (.slice (some ⟨b,0,none⟩) K.length cap) ov2 w1∧Kept R Z w w1∧(t1++[plainN (m:Int)]).length+K2.length=t.length+K.length):=zh ⟨h2,HJ.out.2.1.trans k2,by have:=HJ.out.2.2;simp at this ⊢;omega⟩;have HE2:Hid (K=(pre++[((m:Int),cm)])++K2):=zh (by rw[HE.out];simp);clear h2 k2 CL c3 f3 HJ;go_wp2_with fail;go_roundw
   case rel=>exact⟨_,K2,_,ov2,HE2,by go_num,HF2,HJ2,by omega⟩
   case measure=>simp[intOf]<;>omega
  ·have HS:Hid (settleF n K t=(K1,t1)):=zh (by
    rw[HF.out]
    match K1,hc with
    | [],_=>rfl
    | (o,c)::K2,hc=>exact Pz.settle_no (fun h=>hc ⟨_,_,rfl,h⟩) _ _ _)
   have HC:=zh (cut_row (pre:=pre) (K3:=K1) (by rw[←HE.out];exact HJ.out.1))
   match K1,hc with
   | [],_ =>
    go_wp2_with fail;refine bodyPost_end (v:=.tuple #[]) (by simp[results,Tryz.results47,go_sem]) rfl ?_;exact⟨_,ov1,rfl,by rw[HS.out];exact HC.out.1,Kept.trans HJ.out.2.1 HC.out.2⟩
   | (op,cm)::K2,hc =>
    obtain⟨b,rfl,hb,d0,_⟩:=HJ.out.1.wait_at HE.out rfl;have hx:=HO.out (op,cm) (by rw[HE.out];simp);obtain⟨m,hm,hm2,htg⟩:=tg_at hx.1 hx.2;dsimp only at hm htg d0;subst hm;have hn:¬n≤tgt (m:Int):=fun h=>hc ⟨_,_,rfl,h⟩;have hG:=HG.out wr HJ.out.2.1;have e1:=hG.tg m _ htg;have hop:(((m:Int),cm)::K2:List Wt).length=K2.length+1:=rfl;rw[hop]at hle ⊢;have hi:((K2.length+1:Nat):Int)-1=(K2.length:Int):=by omega
    rw[hi];have hn':¬(n:Int)≤((tgt (m:Int):Nat):Int):=by omega
    have hlt:(K2.length:Int)<(K.length:Int):=by omega
    have hwr2:wrap64 ((K2.length:Int)+1)=((K2.length+1:Nat):Int):=by rw[IntWalk.wrap64_in _ ⟨by omega,by omega⟩];omega
    have hle2:((K2.length+1:Nat):Int)≤(cap:Int):=by omega
    clear htg hG hx hop hi hn hc;generalize tgt (m:Int)=T at *;go_wp2_with fail;refine bodyPost_end (v:=.tuple #[]) (by simp[results,Tryz.results47,go_sem]) rfl ?_;exact⟨_,ov1,rfl,by rw[HS.out];exact HC.out.1,Kept.trans HJ.out.2.1 HC.out.2⟩
theorem pdone_any(h:RdS R Z p c mv l k d K t wv ov w):Calls Tryz.prog 48 #[.pointer (some ⟨R,0,none⟩)] w (GiveB w (decide (d=0∧k=l.length))):=by
 have h0:=h.blk.c 0 _ rfl;have h1:=h.blk.c 1 _ rfl;have h4:=h.blk.c 4 _ rfl;clear h;by_cases hd:d=0
 ·subst hd;by_cases hk:k=l.length
  ·rw[decide_eq_true (⟨rfl,hk⟩:(0:Nat)=0∧k=l.length)];have e1:((k:Int)==(l.length:Int))=true:=by rw[hk];simp
   have e2:(k==l.length)=true:=by rw[hk];simp
   have e3:(((0:Nat):Int)==0)=true:=rfl;go_enter Tryz.func48,Tryz.ntmps48;go_wp2_with fail
   go_quiet (fail)
   go_wp2_with fail;go_ret;exact⟨rfl,Below.drewN (Below.refl _ _) _⟩
  ·rw[decide_eq_false (fun c=>hk c.2)];have e1:((k:Int)==(l.length:Int))=false:=beq_false_of_ne (by omega);have e2:(k==l.length)=false:=beq_false_of_ne hk;have e3:(((0:Nat):Int)==0)=true:=rfl;go_enter Tryz.func48,Tryz.ntmps48;go_wp2_with fail
   go_quiet (fail)
   go_wp2_with fail;go_ret;exact⟨rfl,Below.drewN (Below.refl _ _) _⟩
 ·rw[decide_eq_false (fun c=>hd c.1)];have e1:((d:Int)==0)=false:=beq_false_of_ne (by omega);have e2:(d==0)=false:=beq_false_of_ne hd;go_enter Tryz.func48,Tryz.ntmps48;go_wp2_with fail
  go_quiet (fail)
  go_wp2_with fail;go_ret;exact⟨rfl,Below.drewN (Below.refl _ _) _⟩
end Go.Proofs.YtmllklfjngapiaaGreatDoor
