/- Own work. -/
import Derived.Test.YtghioekjghmdaaaGreatDoorTk
import Derived.Test.YtghioekjghmdaaaGreatDoorAllTmDM
set_option linter.unusedSimpArgs false
set_option linter.unusedVariables false
set_option maxHeartbeats 4000000
set_option maxRecDepth 100000
namespace Go.Proofs.YtghioekjghmdaaaGreatDoor
open Go.RowKit
open Tm (Nd Tr okN arN arI stk mkT treeOf formB)
open Ev (stepV valT allS)
theorem encQ_one(x:Rat):∀v∈encQ x,v.oneCell'=true:=fun v hv=>by
 unfold encQ at hv;simp only[List.mem_cons,List.not_mem_nil,or_false]at hv;rcases hv with rfl|rfl<;>rfl
theorem qInfo:(Tryz.prog.info? 28).map (fun i=>(i.zero,i.size,i.bytes))=some (some (.agg #[.string ⟨#[]⟩,.string ⟨#[]⟩]),2,32):=by kernel_rfl
abbrev OwnQ(B:Nat)(w:World)(v:Value)(l:List Rat):Prop:=OwnG encQ 2 28 B w v l
theorem ownQ_nil(w:World)(B:Nat):OwnQ B w (.slice none 0 0) []:=⟨(Nat.zero_mul 2).symm,.inl ⟨rfl,rfl⟩⟩
structure EvI(l:List Fx.Fix)(t:List Nd)(W:World)(k:Nat)(st:List Tr)(q:List Rat)(a:Option Addr)(n c:Nat)(w:World):Prop where
 own:OwnQ W.heap.size w (.slice a n c) q
 len:n=q.length
 stk:stk t k=some st
 vals:st.map (valT l)=q.map some
 lo:Below W.heap.size W w
theorem EvI.calm{l:List Fx.Fix}{t:List Nd}{W:World}{k:Nat}{st:List Tr}{q:List Rat}{a:Option Addr}{n c:Nat}{w w':World}(h:EvI l t W k st q a n c w)(hb:Below w.heap.size w w'):EvI l t W k st q a n c w':=⟨ownG_below h.own hb,h.len,h.stk,h.vals,Below.more h.lo hb⟩
theorem ev_step{l:List Fx.Fix}{t:List Nd}{W:World}{k m:Nat}{x:Nd}{st:List Tr}{q:List Rat}{a:Option Addr}{n c:Nat}{w:World}(h:EvI l t W k st q a n c w)(hx:t[k]?=some x)(ha:arN x.op=some m)(hm:m≤st.length) :
  ∃S L S' L',q=S'++L'∧L'.length=m∧S'.length=n-m∧S.map (valT l)=S'.map some∧Tm.stk t (k+1)=some (S++[mkT x L])∧valT l (mkT x L)=stepV l x L'∧∀s∈L,s∈st:=by
 obtain⟨S,L,hst,hS,hL,hs,_,_⟩:=stk_step (Tm.dpF) hx h.stk ha hm;have h3:=Tm.arN_le ha;have hq:q.length=st.length:=by have:=congrArg List.length h.vals;simpa using this.symm
 have hv:=h.vals;rw[hst,List.map_append]at hv;have e:q=q.take (st.length-m)++q.drop (st.length-m):=(List.take_append_drop _ _).symm;rw[e,List.map_append]at hv;obtain⟨v1,v2⟩:=List.append_inj hv (by rw[List.length_map,List.length_map,List.length_take,hS];omega);have hn:=h.len;refine⟨S,L,_,_,e,by rw[List.length_drop];omega,by rw[List.length_take];omega,v1,hs,?_,fun s hs=>by rw[hst];exact List.mem_append_right _ hs⟩;rw[Ev.val_mk (by omega),v2];rfl
theorem vB_no{o:Option Rat}{z:Key}(h:vB o=(z,false)):o=none∧z=([],[]):=by
 cases o with
 | none=>exact⟨rfl,(congrArg Prod.fst h).symm⟩
 | some r=>cases congrArg Prod.snd h
theorem vB_yes{o:Option Rat}{z:Key}(h:vB o=(z,true)):∃y,o=some y∧z=rd y:=by
 cases o with
 | none=>cases congrArg Prod.snd h
 | some r=>exact⟨r,rfl,(congrArg Prod.fst h).symm⟩
theorem zc_grow{b:Nat}{x y:Value}{w w':World}{row:Option Nat}(h:Zc b x y w)(hg:w.grownBy w' row)(hr:row≠some b):Zc b x y w':=by
 have hb:w'.heap[b]?=w.heap[b]?:=hg.block b h.lt (fun e=>hr e.symm);exact⟨(World.cell?_of_block (w:=w) (a:=⟨b,0,none⟩) hb).trans h.c0,(World.cell?_of_block (w:=w) (a:=⟨b,1,none⟩) hb).trans h.c1,(World.frozen?_of_block (w:=w) (a:=⟨b,0,none⟩) hb).trans h.f0,(World.frozen?_of_block (w:=w) (a:=⟨b,1,none⟩) hb).trans h.f1,Nat.lt_of_lt_of_le h.lt hg.size⟩
theorem ereck_any{D:Nat}(p:Option Addr)(c:Nat)(t:List Nd)(tr:Tr)(q:Option Addr)(d:Nat)(l:List Fx.Fix)(w:World)(htr:treeOf t=some tr)(hok:∀x∈t,okN x=true)(hct:t.length≤c)(ht:t.length≤2000)(hD:Ev.dgT D tr≤19000)(hld:l.length≤d)(hl:l.length≤1000)(hgf:Fx.GoodF l)(hz:Ev.SzP D l)(hlk:Ev.lackB l t=false)(hT:Nds w p t)(h:Fxs w q l)(hg:GoodX w) :
  Calls Tryz.prog 34 #[.slice p t.length c,.slice q l.length d] w (GiveRB w (vB (valT l tr))):=by
 have hsk:stk t t.length=some [tr]:=by
  have hw:=Tm.tree_inv htr;have e:=Tm.run_flat (f:=mkT) tr [] hw.1;rw[hw.2,Tm.fold_self]at e;unfold Tm.stk;rw[List.take_length];exact e
 have hfm:∀ (k:Nat) (st:List Tr) (x:Nd),t[k]?=some x→stk t k=some st→∃m,arN x.op=some m∧m≤st.length:=fun k st x hx hst=>by
  have hf:formB t=true:=by
   have hw:=Tm.tree_inv htr;rw[←hw.2];exact Tm.form_flat hw.1 (by rw[hw.2];exact ht)
  exact Tm.form_step hf hx hst
 have hthere:∀x∈t,∀k∈Ev.spanN x,Fx.thereF l k=true:=fun x hx k hk=>by
  rw[←Fx.raw_there hgf.2]
  cases e:Fx.rawF l k with
  | some _=>rfl
  | none =>
   have:=Ev.lack_iff.2 ⟨k,Ev.keys_mem.2 ⟨x,hx,hk⟩,e⟩;rw[hlk]at this;cases this
 have hdl:∀ (k:Nat) (x:Nd),t[k]?=some x→1≤x.op∧x.op≤4→60*D+4≤19000∧∀f∈l,Ev.Dg D (Ev.prF f):=fun k x hx h1=>by
  have hlt:=(List.getElem?_eq_some_iff.1 hx).1
  cases hst:stk t k with
  | none=>rw[Tm.stk_none hst]at htr;cases htr
  | some st =>
  obtain⟨m,hm1,hm2⟩:=hfm k st x hx hst;have h0:arN x.op=some 0:=(Tm.ar_zero x.op).2 (by omega);obtain⟨S,L,_,_,hL,hs',_,_⟩:=stk_step (Tm.dpF) hx hst h0 (Nat.zero_le _);obtain rfl:L=[]:=List.length_eq_zero_iff.1 hL;have:=Ev.dg_end (D:=D) hsk (t.length-(k+1)) (k+1) _ (by omega) hs' (mkT x []) (List.mem_append_right _ (List.mem_singleton.2 rfl));have e:Ev.dgT D (mkT x [])=Ev.wN D x:=rfl;rw[e]at this;unfold Ev.wN at this;rw[if_neg (by omega)]at this;exact⟨by omega,fun f hf=>Ev.dg_text (Ev.good_isR hgf hf) (hz f hf).1 (hz f hf).2 (by omega)⟩
 have hsh:∀ (k:Nat) (st:List Tr) (S:List Tr) (r:List Rat),k≤t.length→stk t k=some st→st.map (valT l)=r.map some→∀y∈r,ShP y:=fun k st S r hk hst hv y hy=>by
  obtain⟨s,hs1,hs2⟩:=List.mem_map.1 (show some y∈st.map (valT l) by rw[hv];exact List.mem_map.2 ⟨y,hy,rfl⟩);have h1:=Ev.dg_end (D:=D) hsk (t.length-k) k st (by omega) hst s hs1;have hwf:=(Tm.stk_flat hst).2 s hs1;have hdg:=Ev.val_dg0 (D:=D) hwf (fun z hzf h0=>by
   have hzt:z∈t:=by
    have e:=(Tm.stk_flat hst).1;have:z∈(st.map Tr.flat).flatten:=List.mem_flatten.2 ⟨s.flat,List.mem_map.2 ⟨s,hs1,rfl⟩,hzf⟩;rw[e]at this;exact List.mem_of_mem_take this
   have hzo:=hok z hzt;by_cases g0:z.op=0
   ·exact Ev.num_dg hzo g0
   ·obtain⟨k',hk'⟩:=List.mem_iff_getElem?.1 hzt;have h1:1≤z.op∧z.op≤4:=by have:=(Tm.ar_zero z.op).1 h0;omega
    have h3:=hdl k' z hk' h1;obtain⟨y,hy,_⟩:=Fx.there_some (hthere z hzt _ (Ev.span_first hzo h1));exact Ev.leaf_dg (h3.2 y (List.mem_of_getElem? hy)).2 (by omega) hgf hz hzo h0) hs2
  have:=hdg.len;exact⟨by omega,by omega⟩
 have CV:=zh fun (k:Nat) (x:Nd) (r:List Rat) (p':Option Addr) (d':Nat) (V:World) (hx:t[k]?=some x) (ha:arN x.op=some r.length) (hr:∀y∈r,ShP y) (hT:Qs V p' r) (hV:Below w.heap.size w V)=>evalue_any (D:=D) x r p' d' q d l V (hok x (List.mem_of_getElem? hx)) ha hr hT hld (by omega) hgf (hthere x (List.mem_of_getElem? hx)) (hdl k x hx) (h.below hV) (hg.below hV).1;have HF:=zh hfm;have HSH:=zh hsh;have HK:=zh hsk
 have HNE:=zh fun (i:Nat) (st:List Tr) (hi:i≤t.length) (hst:stk t i=some st) (hx:∃s∈st,valT l s=none)=>Ev.none_end (l:=l) hsk (t.length-i) i st (by omega) hst hx;have HT:=zh hT;have HG:=zh hg
 clear hT hg h hsk hfm hthere hsh hdl hok hlk hgf hz hD htr;go_enter Tryz.func34,Tryz.ntmps34;go_wp2_with fail;obtain⟨W,hW,BW,sW,r0,r1,r2,r3⟩:=box0z w (.string ⟨#[]⟩) (.string ⟨#[]⟩) 28;rw[hW];clear hW;have HBW:=zh BW;clear BW
 go_loopw [6,14] (fun lv iv wr=>∃ (k:Nat) (st:List Tr) (r:List Rat) (a:Option Addr) (n cs:Nat),k≤t.length∧iv=.int .i64 k∧lv=.slice a n cs∧Hid (EvI l t W k st r a n cs wr)) (fun _ iv _=>t.length-(intOf iv).toNat)
 case atStart=>exact⟨0,[],[],none,0,0,Nat.zero_le _,rfl,rfl,zh ⟨ownQ_nil _ _,rfl,rfl,rfl,Below.refl _ _⟩⟩
 case round =>
  obtain⟨k,st,r,a,n,cs,hk,rfl,rfl,HI⟩:=hrel;have HNn:Hid (n=r.length∧r.length=st.length):=zh ⟨HI.out.len,by have:=congrArg List.length HI.out.vals;simpa using this.symm⟩;have hnk:n≤k:=by
   have e:=Tm.stk_fl HI.out.stk hk;have:=Tm.len_fl st;have:=HNn.out;omega
  by_cases hlt:k<t.length
  ·have hki:(k:Int)<(t.length:Int):=by omega
   obtain⟨x,hx⟩:∃x,t[k]?=some x:=⟨_,List.getElem?_eq_getElem hlt⟩;have HX:=zh hx;obtain⟨bp,op,rfl,k0,k1,k2,k3,k4,k5⟩:=nds_rule (HT.out.below (Below.more HBW.out HI.out.lo)) hx;have bw:=Below.refl wr.heap.size wr;have q0:=k0 _ bw;have q1:=k1 _ bw;have q2:=k2 _ bw;have q3:=k3 _ bw;have q4:=k4 _ bw;have q5:=k5 _ bw
   clear k0 k1 k2 k3 k4 k5 hx bw;obtain⟨m,ha,hm⟩:=HF.out k st x HX.out HI.out.stk
   go_upto_region 5 with fail
   obtain⟨U,hU,bU,s1,e0,e1,e2,e3,e4,e5⟩:=lay6 (Below.refl wr.heap.size wr) (.int .i64 x.op) (.string ⟨x.num.1.toArray⟩) (.string ⟨x.num.2.toArray⟩) (.string ⟨x.ast.toArray⟩) (.int .i64 x.a) (.int .i64 x.b) 55;rw[hU];clear hU s1 q0 q1 q2 q3 q4 q5;have HIU:=zh (HI.out.calm bU);have HAB:Hid (∀g,a=some ⟨g,0,none⟩→g<wr.heap.size):=zh fun g h=>by
    rcases own_form HI.out.own with ⟨e,_⟩|⟨g',e,_,h2,_⟩
    ·rw[h]at e;cases e
    ·rw[h]at e;cases e;exact h2
   have b1:=Below.refl U.heap.size U;clear bU;have hn1:arI x.op=(m:Int):=by unfold arI;rw[ha]
   go_wp2_with fail;refine(tarity_any x.op U (HG.out.below (Below.more HBW.out HIU.out.lo))).mono ?_;rintro e V ⟨rfl,ba⟩;rw[hn1];obtain⟨S,L,S',L',hSL,hLm,hSq,hsv,hstk,hstv,hLin⟩:=ev_step HIU.out HX.out ha hm;obtain⟨u,hu⟩:∃u,n=u+m:=⟨n-m,by have:=HNn.out;omega⟩;have hSq:S'.length=u:=by omega
   have HV:=zh hstv;have HSV:=zh hsv;have HST:=zh hstk;have HSL:=zh hSL
   have HAR:=zh ha;have b2:=Below.more b1 ba;have HIV:=zh (HIU.out.calm ba);have hwr:wrap64 ((n:Int)-(m:Int))=(u:Int):=(IntWalk.wrap64_in _ ⟨by omega,by omega⟩).trans (by omega);have hwr2:IntKind.i64.wrap ((n:Int)-(m:Int))=(u:Int):=(IntWalk.i64_in _ (by omega)).trans (by omega);subst hu;have hlu:S'.length≤2000:=by omega
   clear hSL hstv hsv hstk ha hn1 hLin ba;go_wp2_with fail;clear hwr hwr2;rcases own_form HIV.out.own with ⟨ea,en,ec,el⟩|⟨g,ea,hgB,hgV,hgl,hgc⟩
   ·obtain⟨rfl,rfl⟩:u=0∧m=0:=by omega
    subst ea ec;obtain rfl:L'=[]:=List.length_eq_zero_iff.1 hLm;obtain rfl:S'=[]:=List.length_eq_zero_iff.1 hSq;obtain⟨⟨⟨u1,u2⟩,ib⟩,hSV⟩:∃z,vB (stepV l x [])=z:=⟨_,rfl⟩;have HSVV:=zh hSV;have HCV:Hid (∀V',Below V.heap.size V V'→Calls Tryz.prog 66 #[.agg #[.int .i64 x.op,.string ⟨x.num.1.toArray⟩,.string ⟨x.num.2.toArray⟩,.string ⟨x.ast.toArray⟩,.int .i64 x.a,.int .i64 x.b],.slice none 0 0,.slice q l.length d] V' (GiveRB V' ((u1,u2),ib))):=zh fun V' hV'=>by
     have k0:=CV.out k x [] none 0 V' HX.out HAR.out (fun y hy=>HSH.out k st S r hk HIV.out.stk HIV.out.vals y (by cases hy)) (RowsG.nil _ _) (Below.more HBW.out (Below.more HIV.out.lo hV'));rw[hSV]at k0;exact k0
    clear hSV;have x0:=fun v (h:Below V.heap.size V v)=>e0 v (Below.more b2 h);have x1:=fun v (h:Below V.heap.size V v)=>e1 v (Below.more b2 h);have x2:=fun v (h:Below V.heap.size V v)=>e2 v (Below.more b2 h);have x3:=fun v (h:Below V.heap.size V v)=>e3 v (Below.more b2 h);have x4:=fun v (h:Below V.heap.size V v)=>e4 v (Below.more b2 h);have x5:=fun v (h:Below V.heap.size V v)=>e5 v (Below.more b2 h);have hB:=zh (Nat.le_refl V.heap.size);have b3:=Below.refl V.heap.size V;clear CV
    go_cut [10,11] from 25 to 32 (fun px iz wx=>(∃bx,px=.pointer (some ⟨bx,0,none⟩)∧iz=.bool ib∧Zc bx (.string ⟨u1.toArray⟩) (.string ⟨u2.toArray⟩) wx∧V.heap.size≤bx)∧Below V.heap.size V wx)
    case first =>
     go_wp2_with fail
     first|(go_region_held3 (fun w'=>Below V.heap.size V w')
         (first|(exact b3.drew)|(with_reducible assumption)|(exact Below.alloc (by with_reducible assumption) (Nat.le_trans hB.out (Below.size (by with_reducible assumption))) _)|(exact put2 (by with_reducible assumption) (Nat.le_refl _) _ _)|(exact put2 (by with_reducible assumption) hB.out _ _)|(exact put2 (by with_reducible assumption) (Nat.le_trans hB.out (Below.size (by with_reducible assumption))) _ _))
         (first|(go_at_call 66;(with_reducible refine(held (W:=V) hB.out (HCV.out _ (by with_reducible assumption)) (by assumption)).mono ?_);rintro e w'' ⟨rfl,hb,hw⟩;(first|(have hz:=zc_made0 hb)|(have hz:=zc_made hb)|skip);(try have hz:=Zc.below (by assumption) hb);(try (have z0:=hz.c0;have z1:=hz.c1;have z2:=hz.f0;have z3:=hz.f1)))))|fail
     all_goals (go_wp2_with fail)
     all_goals (go_meet)
     all_goals (refine⟨⟨_,rfl,rfl,?_,?_⟩,by with_reducible assumption⟩)
     all_goals (first|exact Nat.le_refl _|exact zc_new _ _ _ _|exact Below.size (by with_reducible assumption)|exact zc_put (by with_reducible assumption))
    case rest =>
     obtain⟨⟨bx,rfl,rfl,hz,hbx⟩,hcc⟩:=hcut;have bWx:=Below.more HIV.out.lo hcc;clear x0 x1 x2 x3 x4 x5 e0 e1 e2 e3 e4 e5 b3 hB HCV;have bx0:=Below.refl wc.heap.size wc
     cases ib with
     | false =>
      have HO:Hid (vB (valT l tr)=(([],[]),false)):=zh (by
       have e:=(vB_no HSVV.out).1;have e2:=HNE.out (k+1) _ hlt HST.out ⟨_,List.mem_append_right _ (List.mem_singleton.2 rfl),HV.out.trans e⟩;rw[e2];rfl)
      clear hz hcc;go_wp2_with fail;refine bodyPost_ret (v:=.tuple #[.agg #[.string ⟨#[]⟩,.string ⟨#[]⟩],.bool false]) (by simp[results,Tryz.results34,go_sem, *]) rfl ⟨by rw[HO.out],put2 (Below.more HBW.out bWx) (Nat.le_refl _) _ _⟩
     | true =>
      obtain⟨y,hy1,hy2⟩:=vB_yes HSVV.out;obtain rfl:u1=(rd y).1:=congrArg Prod.fst hy2;obtain rfl:u2=(rd y).2:=congrArg Prod.snd hy2;have HVY:=zh (HV.out.trans hy1);clear hy1 hy2 HSVV;have HOX:Hid (OwnQ W.heap.size wc (.slice none 0 0) []):=zh (ownQ_nil _ _);have HNB:Hid ((Value.ownBlock (.slice none 0 0))≠some bx):=zh (by simp[Value.ownBlock]);have HOB:Hid (∀j,(Value.ownBlock (.slice none 0 0))=some j→W.heap.size≤j):=zh (fun j h=>by simp[Value.ownBlock]at h);have HWX:Hid (W.heap.size≤wc.heap.size):=zh bWx.size;have HBX:=zh bWx;clear hcc bWx bx0;go_wp2_with fail;refine tkG (S:=Zc bx (.string ⟨(rd y).1.toArray⟩) (.string ⟨(rd y).2.toArray⟩)) hz.drew (fun hH0=>?_);have z0:∀v,Zc bx (.string ⟨(rd y).1.toArray⟩) (.string ⟨(rd y).2.toArray⟩) v→v.cell? ⟨bx,0,none⟩=some (.string ⟨(rd y).1.toArray⟩):=fun v h=>h.c0;have z1:∀v,Zc bx (.string ⟨(rd y).1.toArray⟩) (.string ⟨(rd y).2.toArray⟩) v→v.cell? ⟨bx,1,none⟩=some (.string ⟨(rd y).2.toArray⟩):=fun v h=>h.c1;refine sch_in [0,1,2,3] ?_
      iterate 4 (refine scY ?_;try simp only[Act.put,qA,qB,qC,qD,qE,qF])
      refine sch_out ?_;refine tkR 4 (fun K hK=>?_)
      go_simp
      have ha1:wc.drew.grownBy (wc.drew.alloc (.cells #[.string ⟨(rd y).1.toArray⟩,.string ⟨(rd y).2.toArray⟩] 28)) none:=grw_none (Below.alloc (Below.refl _ _) (Nat.le_refl _) _) none;have hS2:=zc_grow hz.drew ha1 (by simp);refine hK.out _ _ hS2 (fun hH1=>?_);clear hK
      try simp only[Act.put,qA,qB,qC,qD,qE,qF]
      refine tkR 5 (fun K hK=>?_);rw[if_pos (by rfl)];have hO1:=ownG_below (ownG_below HOX.out (Below.drew (Below.refl _ _))) (Below.alloc (Below.refl wc.drew.heap.size wc.drew) (Nat.le_refl _) (.cells #[.string ⟨(rd y).1.toArray⟩,.string ⟨(rd y).2.toArray⟩] 28));have hw1:W.heap.size≤(wc.drew.alloc (.cells #[.string ⟨(rd y).1.toArray⟩,.string ⟨(rd y).2.toArray⟩] 28)).heap.size:=Nat.le_trans HWX.out ha1.size;have hb1:Below W.heap.size W (wc.drew.alloc (.cells #[.string ⟨(rd y).1.toArray⟩,.string ⟨(rd y).2.toArray⟩] 28)):=Below.alloc HBX.out.drew HWX.out _;refine wp_append_G _ _ 49 28 rfl Tryz.underlying49 qInfo rfl (by decide) (by decide) (fun _=>rfl) encQ_one W.heap.size (.slice none 0 0) [] rfl hO1 ⟨wc.drew.heap.size,0,none⟩ y 1 rfl (rowsOne (enc:=encQ) (k:=2) wc.drew y 28 _ rfl) (by decide) hw1 ?_;intro v' w4 ho4 hg4 hl4;have hS4:=zc_grow hS2 hg4 HNB.out;have hb4:Below W.heap.size W w4:=Below.grown hb1 hg4 hw1 HOB.out;obtain⟨p5,c5,rfl,hc5,_,_⟩:=ownG_rows (enc:=encQ) (k:=2) (fun _=>rfl) ho4;obtain⟨n5,hn5⟩:∃n5,([]++[y]).length=n5:=⟨_,rfl⟩;have HN5:=zh hn5.symm;rw[hn5]at ho4 ⊢;clear hn5 hc5;refine hK.out _ _ hS4 (fun hH3=>?_);clear hK
      try simp only[Act.put,qA,qB,qC,qD,qE,qF]
      refine sch_in [6] ?_
      iterate 1 (refine scY ?_;try simp only[Act.put,qA,qB,qC,qD,qE,qF])
      refine sch_out ?_;refine tkD ?_;have HE1:=zh ho4;have HB4:=zh hb4
      clear z0 z1 hH0 hH1 hH3 hS2 hS4 hg4 hl4 ha1 hO1 ho4 hz hb1 hb4 hw1;go_wp2_with fail;go_roundw
      case rel=>exact⟨k+1,S++[mkT x L],[]++[y],_,_,_,hlt,by go_num,rfl,zh ⟨HE1.out,HN5.out,HST.out,by rw[List.map_append,List.map_append,HSV.out,List.map_singleton,List.map_singleton,HVY.out],HB4.out⟩⟩
      case measure=>simp[intOf];omega
   ·have hgb:=HAB.out g ea;subst ea;by_cases hcs:cs=u
    ·obtain rfl:m=0:=by omega
     subst hcs;obtain rfl:L'=[]:=List.length_eq_zero_iff.1 hLm;obtain⟨⟨⟨u1,u2⟩,ib⟩,hSV⟩:∃z,vB (stepV l x [])=z:=⟨_,rfl⟩;have HSVV:=zh hSV;have HCV:Hid (∀V',Below V.heap.size V V'→Calls Tryz.prog 66 #[.agg #[.int .i64 x.op,.string ⟨x.num.1.toArray⟩,.string ⟨x.num.2.toArray⟩,.string ⟨x.ast.toArray⟩,.int .i64 x.a,.int .i64 x.b],.slice (some ⟨g,0,none⟩) 0 0,.slice q l.length d] V' (GiveRB V' ((u1,u2),ib))):=zh fun V' hV'=>by
      have k0:=CV.out k x [] (some ⟨g,0,none⟩) 0 V' HX.out HAR.out (fun y hy=>HSH.out k st S r hk HIV.out.stk HIV.out.vals y (by cases hy)) (RowsG.nil _ _) (Below.more HBW.out (Below.more HIV.out.lo hV'));rw[hSV]at k0;exact k0
     clear hSV;have x0:=fun v (h:Below V.heap.size V v)=>e0 v (Below.more b2 h);have x1:=fun v (h:Below V.heap.size V v)=>e1 v (Below.more b2 h);have x2:=fun v (h:Below V.heap.size V v)=>e2 v (Below.more b2 h);have x3:=fun v (h:Below V.heap.size V v)=>e3 v (Below.more b2 h);have x4:=fun v (h:Below V.heap.size V v)=>e4 v (Below.more b2 h);have x5:=fun v (h:Below V.heap.size V v)=>e5 v (Below.more b2 h);have hB:=zh (Nat.le_refl V.heap.size);have b3:=Below.refl V.heap.size V;clear CV
     go_cut [10,11] from 25 to 32 (fun px iz wx=>(∃bx,px=.pointer (some ⟨bx,0,none⟩)∧iz=.bool ib∧Zc bx (.string ⟨u1.toArray⟩) (.string ⟨u2.toArray⟩) wx∧V.heap.size≤bx)∧Below V.heap.size V wx)
     case first =>
      go_wp2_with fail
      first|(go_region_held3 (fun w'=>Below V.heap.size V w')
          (first|(exact b3.drew)|(with_reducible assumption)|(exact Below.alloc (by with_reducible assumption) (Nat.le_trans hB.out (Below.size (by with_reducible assumption))) _)|(exact put2 (by with_reducible assumption) (Nat.le_refl _) _ _)|(exact put2 (by with_reducible assumption) hB.out _ _)|(exact put2 (by with_reducible assumption) (Nat.le_trans hB.out (Below.size (by with_reducible assumption))) _ _))
          (first|(go_at_call 66;(with_reducible refine(held (W:=V) hB.out (HCV.out _ (by with_reducible assumption)) (by assumption)).mono ?_);rintro e w'' ⟨rfl,hb,hw⟩;(first|(have hz:=zc_made0 hb)|(have hz:=zc_made hb)|skip);(try have hz:=Zc.below (by assumption) hb);(try (have z0:=hz.c0;have z1:=hz.c1;have z2:=hz.f0;have z3:=hz.f1)))))|fail
      all_goals (go_wp2_with fail)
      all_goals (go_meet)
      all_goals (refine⟨⟨_,rfl,rfl,?_,?_⟩,by with_reducible assumption⟩)
      all_goals (first|exact Nat.le_refl _|exact zc_new _ _ _ _|exact Below.size (by with_reducible assumption)|exact zc_put (by with_reducible assumption))
     case rest =>
      obtain⟨⟨bx,rfl,rfl,hz,hbx⟩,hcc⟩:=hcut;have bWx:=Below.more HIV.out.lo hcc;clear x0 x1 x2 x3 x4 x5 e0 e1 e2 e3 e4 e5 b3 hB HCV;have bx0:=Below.refl wc.heap.size wc
      cases ib with
      | false =>
       have HO:Hid (vB (valT l tr)=(([],[]),false)):=zh (by
        have e:=(vB_no HSVV.out).1;have e2:=HNE.out (k+1) _ hlt HST.out ⟨_,List.mem_append_right _ (List.mem_singleton.2 rfl),HV.out.trans e⟩;rw[e2];rfl)
       clear hz hcc;go_wp2_with fail;refine bodyPost_ret (v:=.tuple #[.agg #[.string ⟨#[]⟩,.string ⟨#[]⟩],.bool false]) (by simp[results,Tryz.results34,go_sem, *]) rfl ⟨by rw[HO.out],put2 (Below.more HBW.out bWx) (Nat.le_refl _) _ _⟩
      | true =>
       obtain⟨y,hy1,hy2⟩:=vB_yes HSVV.out;obtain rfl:u1=(rd y).1:=congrArg Prod.fst hy2;obtain rfl:u2=(rd y).2:=congrArg Prod.snd hy2;have HVY:=zh (HV.out.trans hy1);clear hy1 hy2 HSVV;have HOX:Hid (OwnQ W.heap.size wc (.slice (some ⟨g,0,none⟩) cs cs) S'):=zh (by
        have k1:=own_take (enc:=encQ) (k:=2) (q:=cs) (fun _=>rfl) HIV.out.own (by omega);rw[HSL.out,List.take_left' (show S'.length=cs by omega)]at k1;exact ownG_below k1 hcc)
       have HNB:Hid ((Value.ownBlock (.slice (some ⟨g,0,none⟩) cs cs))≠some bx):=zh (fun h=>by have:g=bx:=Option.some.inj h;omega);have HOB:Hid (∀j,(Value.ownBlock (.slice (some ⟨g,0,none⟩) cs cs))=some j→W.heap.size≤j):=zh (fun j h=>by have:g=j:=Option.some.inj h;omega);have HWX:Hid (W.heap.size≤wc.heap.size):=zh bWx.size;have HBX:=zh bWx;clear hcc bWx bx0;go_wp2_with fail;refine tkG (S:=Zc bx (.string ⟨(rd y).1.toArray⟩) (.string ⟨(rd y).2.toArray⟩)) hz.drew (fun hH0=>?_);have z0:∀v,Zc bx (.string ⟨(rd y).1.toArray⟩) (.string ⟨(rd y).2.toArray⟩) v→v.cell? ⟨bx,0,none⟩=some (.string ⟨(rd y).1.toArray⟩):=fun v h=>h.c0;have z1:∀v,Zc bx (.string ⟨(rd y).1.toArray⟩) (.string ⟨(rd y).2.toArray⟩) v→v.cell? ⟨bx,1,none⟩=some (.string ⟨(rd y).2.toArray⟩):=fun v h=>h.c1;refine sch_in [0,1,2,3] ?_
       iterate 4 (refine scY ?_;try simp only[Act.put,qA,qB,qC,qD,qE,qF])
       refine sch_out ?_;refine tkR 4 (fun K hK=>?_)
       go_simp
       have ha1:wc.drew.grownBy (wc.drew.alloc (.cells #[.string ⟨(rd y).1.toArray⟩,.string ⟨(rd y).2.toArray⟩] 28)) none:=grw_none (Below.alloc (Below.refl _ _) (Nat.le_refl _) _) none;have hS2:=zc_grow hz.drew ha1 (by simp);refine hK.out _ _ hS2 (fun hH1=>?_);clear hK
       try simp only[Act.put,qA,qB,qC,qD,qE,qF]
       refine tkR 5 (fun K hK=>?_);rw[if_pos (by rfl)];have hO1:=ownG_below (ownG_below HOX.out (Below.drew (Below.refl _ _))) (Below.alloc (Below.refl wc.drew.heap.size wc.drew) (Nat.le_refl _) (.cells #[.string ⟨(rd y).1.toArray⟩,.string ⟨(rd y).2.toArray⟩] 28));have hw1:W.heap.size≤(wc.drew.alloc (.cells #[.string ⟨(rd y).1.toArray⟩,.string ⟨(rd y).2.toArray⟩] 28)).heap.size:=Nat.le_trans HWX.out ha1.size;have hb1:Below W.heap.size W (wc.drew.alloc (.cells #[.string ⟨(rd y).1.toArray⟩,.string ⟨(rd y).2.toArray⟩] 28)):=Below.alloc HBX.out.drew HWX.out _;refine wp_append_G _ _ 49 28 rfl Tryz.underlying49 qInfo rfl (by decide) (by decide) (fun _=>rfl) encQ_one W.heap.size (.slice (some ⟨g,0,none⟩) cs cs) S' rfl hO1 ⟨wc.drew.heap.size,0,none⟩ y 1 rfl (rowsOne (enc:=encQ) (k:=2) wc.drew y 28 _ rfl) (by omega) hw1 ?_;intro v' w4 ho4 hg4 hl4;have hS4:=zc_grow hS2 hg4 HNB.out;have hb4:Below W.heap.size W w4:=Below.grown hb1 hg4 hw1 HOB.out;obtain⟨p5,c5,rfl,hc5,_,_⟩:=ownG_rows (enc:=encQ) (k:=2) (fun _=>rfl) ho4;obtain⟨n5,hn5⟩:∃n5,(S'++[y]).length=n5:=⟨_,rfl⟩;have HN5:=zh hn5.symm;rw[hn5]at ho4 ⊢;clear hn5 hc5;refine hK.out _ _ hS4 (fun hH3=>?_);clear hK
       try simp only[Act.put,qA,qB,qC,qD,qE,qF]
       refine sch_in [6] ?_
       iterate 1 (refine scY ?_;try simp only[Act.put,qA,qB,qC,qD,qE,qF])
       refine sch_out ?_;refine tkD ?_;have HE1:=zh ho4;have HB4:=zh hb4
       clear z0 z1 hH0 hH1 hH3 hS2 hS4 hg4 hl4 ha1 hO1 ho4 hz hb1 hb4 hw1;go_wp2_with fail;go_roundw
       case rel=>exact⟨k+1,S++[mkT x L],S'++[y],_,_,_,hlt,by go_num,rfl,zh ⟨HE1.out,HN5.out,HST.out,by rw[List.map_append,List.map_append,HSV.out,List.map_singleton,List.map_singleton,HVY.out],HB4.out⟩⟩
       case measure=>simp[intOf];omega
    ·have huc:u≤cs:=by omega
     obtain⟨p5,c5,e5',_,hrw0,_⟩:=ownG_rows (enc:=encQ) (k:=2) (fun _=>rfl) HIV.out.own;injection e5' with e5' e51 e52
     subst e5';have hrw:Qs V (some ⟨g,u*2,none⟩) L':=by
      have k1:=hrw0.part u m;rw[HSL.out,List.drop_left' (show S'.length=u by omega),List.take_of_length_le (by omega),Nat.zero_add]at k1;exact k1
     clear e51 e52 hrw0;obtain⟨⟨⟨u1,u2⟩,ib⟩,hSV⟩:∃z,vB (stepV l x L')=z:=⟨_,rfl⟩;have HSVV:=zh hSV;have HCV:Hid (∀V',Below V.heap.size V V'→Calls Tryz.prog 66 #[.agg #[.int .i64 x.op,.string ⟨x.num.1.toArray⟩,.string ⟨x.num.2.toArray⟩,.string ⟨x.ast.toArray⟩,.int .i64 x.a,.int .i64 x.b],.slice (some ⟨g,u*2,none⟩) m (cs-u),.slice q l.length d] V' (GiveRB V' ((u1,u2),ib))):=zh fun V' hV'=>by
      have k0:=CV.out k x L' (some ⟨g,u*2,none⟩) (cs-u) V' HX.out (by rw[hLm];exact HAR.out) (fun y hy=>HSH.out k st S r hk HIV.out.stk HIV.out.vals y (by rw[HSL.out];exact List.mem_append_right _ hy)) (hrw.below hV') (Below.more HBW.out (Below.more HIV.out.lo hV'));rw[hSV,hLm]at k0;exact k0
     clear hSV hrw;have x0:=fun v (h:Below V.heap.size V v)=>e0 v (Below.more b2 h);have x1:=fun v (h:Below V.heap.size V v)=>e1 v (Below.more b2 h);have x2:=fun v (h:Below V.heap.size V v)=>e2 v (Below.more b2 h);have x3:=fun v (h:Below V.heap.size V v)=>e3 v (Below.more b2 h);have x4:=fun v (h:Below V.heap.size V v)=>e4 v (Below.more b2 h);have x5:=fun v (h:Below V.heap.size V v)=>e5 v (Below.more b2 h);have hB:=zh (Nat.le_refl V.heap.size);have b3:=Below.refl V.heap.size V;clear CV;have i1:(u:Int)≤(u:Int)+(m:Int):=by omega
     have i2:u≤u+m:=by omega
     go_cut [10,11] from 25 to 32 (fun px iz wx=>(∃bx,px=.pointer (some ⟨bx,0,none⟩)∧iz=.bool ib∧Zc bx (.string ⟨u1.toArray⟩) (.string ⟨u2.toArray⟩) wx∧V.heap.size≤bx)∧Below V.heap.size V wx)
     case first =>
      go_wp2_with fail
      first|(go_region_held3 (fun w'=>Below V.heap.size V w')
          (first|(exact b3.drew)|(with_reducible assumption)|(exact Below.alloc (by with_reducible assumption) (Nat.le_trans hB.out (Below.size (by with_reducible assumption))) _)|(exact put2 (by with_reducible assumption) (Nat.le_refl _) _ _)|(exact put2 (by with_reducible assumption) hB.out _ _)|(exact put2 (by with_reducible assumption) (Nat.le_trans hB.out (Below.size (by with_reducible assumption))) _ _))
          (first|(go_at_call 66;(with_reducible refine(held (W:=V) hB.out (HCV.out _ (by with_reducible assumption)) (by assumption)).mono ?_);rintro e w'' ⟨rfl,hb,hw⟩;(first|(have hz:=zc_made0 hb)|(have hz:=zc_made hb)|skip);(try have hz:=Zc.below (by assumption) hb);(try (have z0:=hz.c0;have z1:=hz.c1;have z2:=hz.f0;have z3:=hz.f1)))))|fail
      all_goals (go_wp2_with fail)
      all_goals (go_meet)
      all_goals (refine⟨⟨_,rfl,rfl,?_,?_⟩,by with_reducible assumption⟩)
      all_goals (first|exact Nat.le_refl _|exact zc_new _ _ _ _|exact Below.size (by with_reducible assumption)|exact zc_put (by with_reducible assumption))
     case rest =>
      obtain⟨⟨bx,rfl,rfl,hz,hbx⟩,hcc⟩:=hcut;have bWx:=Below.more HIV.out.lo hcc;clear x0 x1 x2 x3 x4 x5 e0 e1 e2 e3 e4 e5 b3 hB HCV;have bx0:=Below.refl wc.heap.size wc
      cases ib with
      | false =>
       have HO:Hid (vB (valT l tr)=(([],[]),false)):=zh (by
        have e:=(vB_no HSVV.out).1;have e2:=HNE.out (k+1) _ hlt HST.out ⟨_,List.mem_append_right _ (List.mem_singleton.2 rfl),HV.out.trans e⟩;rw[e2];rfl)
       clear hz hcc;go_wp2_with fail;refine bodyPost_ret (v:=.tuple #[.agg #[.string ⟨#[]⟩,.string ⟨#[]⟩],.bool false]) (by simp[results,Tryz.results34,go_sem, *]) rfl ⟨by rw[HO.out],put2 (Below.more HBW.out bWx) (Nat.le_refl _) _ _⟩
      | true =>
       obtain⟨y,hy1,hy2⟩:=vB_yes HSVV.out;obtain rfl:u1=(rd y).1:=congrArg Prod.fst hy2;obtain rfl:u2=(rd y).2:=congrArg Prod.snd hy2;have HVY:=zh (HV.out.trans hy1);clear hy1 hy2 HSVV;have HOX:Hid (OwnQ W.heap.size wc (.slice (some ⟨g,0,none⟩) u cs) S'):=zh (by
        have k1:=own_take (enc:=encQ) (k:=2) (q:=u) (fun _=>rfl) HIV.out.own (by omega);rw[HSL.out,List.take_left' (show S'.length=u by omega)]at k1;exact ownG_below k1 hcc)
       have HNB:Hid ((Value.ownBlock (.slice (some ⟨g,0,none⟩) u cs))≠some bx):=zh (fun h=>by have:g=bx:=Option.some.inj h;omega);have HOB:Hid (∀j,(Value.ownBlock (.slice (some ⟨g,0,none⟩) u cs))=some j→W.heap.size≤j):=zh (fun j h=>by have:g=j:=Option.some.inj h;omega);have HWX:Hid (W.heap.size≤wc.heap.size):=zh bWx.size;have HBX:=zh bWx;clear hcc bWx bx0;go_wp2_with fail;refine tkG (S:=Zc bx (.string ⟨(rd y).1.toArray⟩) (.string ⟨(rd y).2.toArray⟩)) hz.drew (fun hH0=>?_);have z0:∀v,Zc bx (.string ⟨(rd y).1.toArray⟩) (.string ⟨(rd y).2.toArray⟩) v→v.cell? ⟨bx,0,none⟩=some (.string ⟨(rd y).1.toArray⟩):=fun v h=>h.c0;have z1:∀v,Zc bx (.string ⟨(rd y).1.toArray⟩) (.string ⟨(rd y).2.toArray⟩) v→v.cell? ⟨bx,1,none⟩=some (.string ⟨(rd y).2.toArray⟩):=fun v h=>h.c1;refine sch_in [0,1,2,3] ?_
       iterate 4 (refine scY ?_;try simp only[Act.put,qA,qB,qC,qD,qE,qF])
       refine sch_out ?_;refine tkR 4 (fun K hK=>?_)
       go_simp
       have ha1:wc.drew.grownBy (wc.drew.alloc (.cells #[.string ⟨(rd y).1.toArray⟩,.string ⟨(rd y).2.toArray⟩] 28)) none:=grw_none (Below.alloc (Below.refl _ _) (Nat.le_refl _) _) none;have hS2:=zc_grow hz.drew ha1 (by simp);refine hK.out _ _ hS2 (fun hH1=>?_);clear hK
       try simp only[Act.put,qA,qB,qC,qD,qE,qF]
       refine tkR 5 (fun K hK=>?_);rw[if_pos (by rfl)];have hO1:=ownG_below (ownG_below HOX.out (Below.drew (Below.refl _ _))) (Below.alloc (Below.refl wc.drew.heap.size wc.drew) (Nat.le_refl _) (.cells #[.string ⟨(rd y).1.toArray⟩,.string ⟨(rd y).2.toArray⟩] 28));have hw1:W.heap.size≤(wc.drew.alloc (.cells #[.string ⟨(rd y).1.toArray⟩,.string ⟨(rd y).2.toArray⟩] 28)).heap.size:=Nat.le_trans HWX.out ha1.size;have hb1:Below W.heap.size W (wc.drew.alloc (.cells #[.string ⟨(rd y).1.toArray⟩,.string ⟨(rd y).2.toArray⟩] 28)):=Below.alloc HBX.out.drew HWX.out _;refine wp_append_G _ _ 49 28 rfl Tryz.underlying49 qInfo rfl (by decide) (by decide) (fun _=>rfl) encQ_one W.heap.size (.slice (some ⟨g,0,none⟩) u cs) S' rfl hO1 ⟨wc.drew.heap.size,0,none⟩ y 1 rfl (rowsOne (enc:=encQ) (k:=2) wc.drew y 28 _ rfl) (by omega) hw1 ?_;intro v' w4 ho4 hg4 hl4;have hS4:=zc_grow hS2 hg4 HNB.out;have hb4:Below W.heap.size W w4:=Below.grown hb1 hg4 hw1 HOB.out;obtain⟨p5,c5,rfl,hc5,_,_⟩:=ownG_rows (enc:=encQ) (k:=2) (fun _=>rfl) ho4;obtain⟨n5,hn5⟩:∃n5,(S'++[y]).length=n5:=⟨_,rfl⟩;have HN5:=zh hn5.symm;rw[hn5]at ho4 ⊢;clear hn5 hc5;refine hK.out _ _ hS4 (fun hH3=>?_);clear hK
       try simp only[Act.put,qA,qB,qC,qD,qE,qF]
       refine sch_in [6] ?_
       iterate 1 (refine scY ?_;try simp only[Act.put,qA,qB,qC,qD,qE,qF])
       refine sch_out ?_;refine tkD ?_;have HE1:=zh ho4;have HB4:=zh hb4
       clear z0 z1 hH0 hH1 hH3 hS2 hS4 hg4 hl4 ha1 hO1 ho4 hz hb1 hb4 hw1;go_wp2_with fail;go_roundw
       case rel=>exact⟨k+1,S++[mkT x L],S'++[y],_,_,_,hlt,by go_num,rfl,zh ⟨HE1.out,HN5.out,HST.out,by rw[List.map_append,List.map_append,HSV.out,List.map_singleton,List.map_singleton,HVY.out],HB4.out⟩⟩
       case measure=>simp[intOf];omega
  ·obtain rfl:k=t.length:=by omega
   have hki:¬(t.length:Int)<(t.length:Int):=by omega
   have hst:st=[tr]:=Option.some.inj (HI.out.stk.symm.trans HK.out);subst hst;obtain⟨y,rfl⟩:∃y,r=[y]:=by
    have:=HNn.out.2
    match r,this with
    | [y],_=>exact⟨y,rfl⟩
   obtain rfl:n=1:=HNn.out.1;have hv:valT l tr=some y:=(List.cons.inj HI.out.vals).1;have HO:Hid (vB (valT l tr)=(rd y,true)):=zh (by rw[hv];rfl);obtain⟨p9,c9,e9,_,r9,_⟩:=ownG_rows (enc:=encQ) (k:=2) (fun _=>rfl) HI.out.own;obtain⟨b9,o9,e8,k90,k91⟩:=q_rule r9 (k:=0) (x:=y) rfl;injection e9 with e9 e91 e92
   rw[e8]at e9;clear e91 e92;subst e9;simp only[Nat.zero_mul,Nat.add_zero]at k90 k91;have bw:=Below.refl wr.heap.size wr;have q0:=k90 _ bw;have q1:=k91 _ bw
   have bW:=HI.out.lo;clear r9 e8 hv k90 k91;go_wp2_with fail;refine bodyPost_ret (v:=.tuple #[.agg #[.string ⟨(rd y).1.toArray⟩,.string ⟨(rd y).2.toArray⟩],.bool true]) (by simp[results,Tryz.results34,go_sem, *]) rfl ⟨by rw[HO.out],put2 (Below.more HBW.out bW) (Nat.le_refl _) _ _⟩
end Go.Proofs.YtghioekjghmdaaaGreatDoor
