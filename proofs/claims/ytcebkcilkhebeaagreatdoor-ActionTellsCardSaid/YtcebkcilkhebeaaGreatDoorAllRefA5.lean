/- Own work. -/
import Derived.Test.YtcebkcilkhebeaaGreatDoorDecLenM
set_option linter.unusedSimpArgs false
set_option linter.unusedVariables false
set_option maxHeartbeats 16000000
set_option maxRecDepth 100000
namespace Go.Proofs.YtcebkcilkhebeaaGreatDoor
open Go.RowKit
open Ac (oB rB cB wordK kindW hdW parseA parseL ansA noneA mayA Actn words kdF dO dN bN actD)
structure Ip(w:World)(R N X:Nat)(p:Option Addr)(L:List (List UInt8))(cs:List Value)(V:World):Prop where
 r:Blk R [.string ⟨#[]⟩,.int .i64 0,.string ⟨#[]⟩,.string ⟨#[]⟩,.string ⟨#[]⟩,.string ⟨#[]⟩,.string ⟨#[]⟩,.string ⟨#[]⟩,.int .i64 0,.int .i64 0,.int .i64 0] V
 n:Blk N [.string ⟨#[]⟩,.int .i64 0,.string ⟨#[]⟩,.string ⟨#[]⟩,.string ⟨#[]⟩,.string ⟨#[]⟩,.string ⟨#[]⟩,.string ⟨#[]⟩,.int .i64 0,.int .i64 0,.int .i64 0] V
 t:Txs V p L
 b:Below w.heap.size w V
 x:Blk X cs V
 lx:w.heap.size≤X
 rx:R<X
 nx:N<X
 px:∀a,p=some a→a.block<X
theorem Ip.below{w V V':World}{R N X:Nat}{p:Option Addr}{L:List (List UInt8)}{cs:List Value}(h:Ip w R N X p L cs V)(hb:Below V.heap.size V V'):Ip w R N X p L cs V' :=
 ⟨h.r.below hb,h.n.below hb,h.t.below hb,Below.more h.b hb,h.x.below hb,h.lx,h.rx,h.nx,h.px⟩
theorem Ip.put{w V:World}{R N X:Nat}{p:Option Addr}{L:List (List UInt8)}{cs:List Value}(h:Ip w R N X p L cs V)(k:Nat)(hk:k<cs.length)(x:Value):Ip w R N X p L (cs.set k x) (V.setCell ⟨X,k,none⟩ x):=by
 have g:WrB [X] V (V.setCell ⟨X,k,none⟩ x):=WrB.of_set _ _ _ _ (List.mem_singleton.2 rfl);exact⟨h.r.wr g (fun c=>Nat.ne_of_lt h.rx (List.mem_singleton.1 c)),h.n.wr g (fun c=>Nat.ne_of_lt h.nx (List.mem_singleton.1 c)),h.t.wr g (fun a e c=>Nat.ne_of_lt (h.px a e) (List.mem_singleton.1 c)),Below.setCell h.b h.lx _,h.x.set k hk x,h.lx,h.rx,h.nx,h.px⟩
theorem Ip.word{w V:World}{R N X b o:Nat}{L:List (List UInt8)}{cs:List Value}(h:Ip w R N X (some ⟨b,o,none⟩) L cs V){k:Nat}{x:List UInt8}(e:L[k]?=some x):V.cell? ⟨b,o+k,none⟩=some (.string ⟨x.toArray⟩):=by
 obtain⟨b',o',e',hr⟩:=tx_rule h.t e
 cases e'
 exact hr V (Below.refl _ _)
theorem parS_size(v:List UInt8):(parS v).1.1.length≤10000∧(parS v).1.2.length≤10000:=by
 by_cases h:1000<v.length
 ·rw[parS_long h];exact⟨Nat.zero_le _,Nat.zero_le _⟩
 ·cases hq:parU v with
  | none=>rw[parS_none hq];exact⟨Nat.zero_le _,Nat.zero_le _⟩
  | some q =>
   rw[parS_some (by omega) hq];have k:=Ac.parU_len hq;exact⟨Nat.le_trans k.1 (by omega),Nat.le_trans k.2 (by omega)⟩
theorem dN_size(b:Bool)(l:List (List UInt8)):(dN b l).1.1.1.length≤10000∧(dN b l).1.1.2.length≤10000:=by
 cases b with
 | false=>exact⟨by simp[dN],by simp[dN]⟩
 | true =>
  cases l with
  | nil=>exact⟨by simp[dN],by simp[dN]⟩
  | cons v r=>exact parS_size v
theorem kind_range(x:List UInt8):kindW x<0∨0≤kindW x∧kindW x≤4:=by
 rcases kind_cases x with h|⟨k,h,e⟩
 ·exact .inl (by omega)
 ·exact .inr (by omega)
def Lf2(k:Nat)(x:Bool):Array Bool:=#[true,true,true,true,true,true,true,decide (0<k),decide (1<k),decide (2<k),x,false]
def Af2(v:Value)(a0:Act)(k:Nat)(o:Option Nat):Act:=(((a0.put (some 58) (atQ k 0 (.agg #[.string ⟨#[48]⟩,.string ⟨#[49]⟩]))).put (some 59) (atQ k 1 (.agg #[.string ⟨#[48]⟩,.string ⟨#[49]⟩]))).put (some 60) (atQ k 2 v)).put (some 11) (vO o)
def Jf2(v:Value)(U:Nat)(a0:Act)(n:Nat)(g:Array Bool)(a:Act)(w:World):Prop:=∃ (k:Nat) (o:Option Nat),k≤3∧n+(k+nO o)=5∧g=Lf2 k o.isSome∧a=Af2 v a0 k o∧∀b,o=some b→Blk b [.string ⟨#[]⟩,.int .i64 0,.string ⟨#[]⟩,.string ⟨#[]⟩,.string ⟨#[]⟩,.string ⟨#[]⟩,.string ⟨#[]⟩,.string ⟨#[]⟩,.int .i64 0,.int .i64 0,.int .i64 0] w∧U≤b
theorem acparse_any(s:ByteArray)(w:World)(hs:s.size≤1000000):Calls Tryz.prog 10 #[.string s] w (GiveA w (parseA s.data.toList)):=by
 have CW:Hid (∀V,Calls Tryz.prog 23 #[.string s,.int .i64 12] V (GiveTx V (words 11 s.data.toList))):=zh (fun V=>acwords_b s 11 V hs (by decide));have HE:Hid (∀L,words 11 s.data.toList=L→parseA s.data.toList=ansA (parseL L)):=zh (fun L e=>by unfold parseA;rw[e]);have HSZ:Hid (∀x∈words 11 s.data.toList,x.length≤1000000):=zh (fun x hx=>Nat.le_trans (words_size 11 _ x hx) (by have:s.data.toList.length=s.size:=rfl;omega));have hlen:=Ac.words_len 11 s.data.toList;have hne:=Ac.words_ne 11 s.data.toList;generalize hL:words 11 s.data.toList=L at *;replace HE:=zh (HE.out L rfl);clear hL hs;obtain⟨x0,l,rfl⟩:∃x l,L=x::l:=by
  cases L with
  | nil=>exact absurd rfl hne
  | cons x l=>exact⟨x,l,rfl⟩
 have HLN:Hid ((x0::l).length≤12):=zh hlen;clear hne hlen;go_enter Tryz.func10,Tryz.ntmps10;go_wp2_with fail;obtain⟨U0,hU,bU,hR0⟩:∃U0,w.alloc (.cells #[.string ⟨#[]⟩,.int .i64 0,.string ⟨#[]⟩,.string ⟨#[]⟩,.string ⟨#[]⟩,.string ⟨#[]⟩,.string ⟨#[]⟩,.string ⟨#[]⟩,.int .i64 0,.int .i64 0,.int .i64 0] 25)=U0∧Below w.heap.size w U0∧Blk w.heap.size [.string ⟨#[]⟩,.int .i64 0,.string ⟨#[]⟩,.string ⟨#[]⟩,.string ⟨#[]⟩,.string ⟨#[]⟩,.string ⟨#[]⟩,.string ⟨#[]⟩,.int .i64 0,.int .i64 0,.int .i64 0] U0:=⟨_,rfl,Below.alloc (Below.refl _ _) (Nat.le_refl _) _,blk_new w _ _⟩;rw[hU];clear hU;have HU:=zh bU;replace hR0:=zh hR0;clear bU;refine(CW.out _).mono ?_;rintro e w1 ⟨⟨p,c,rfl,hc,ht⟩,hb1⟩;obtain⟨pb,po,rfl,_⟩:=tx_rule ht (k:=0) (x:=x0) rfl;have hpb:pb<w1.heap.size:=by
  obtain⟨b',o',e',hl,_⟩:=ht 0 x0 rfl
  cases e';exact hl
 have HR1:=zh (hR0.out.below hb1);have HW1:=zh (Below.more HU.out hb1);have HT:=zh ht;have HP:=zh hpb;have HC:=zh hc
 clear hb1 ht hpb hc hR0 CW HU;go_wp2_with fail;obtain⟨U1,hU,bU,hN⟩:∃U1,w1.alloc (.cells #[.string ⟨#[]⟩,.int .i64 0,.string ⟨#[]⟩,.string ⟨#[]⟩,.string ⟨#[]⟩,.string ⟨#[]⟩,.string ⟨#[]⟩,.string ⟨#[]⟩,.int .i64 0,.int .i64 0,.int .i64 0] 25)=U1∧Below w1.heap.size w1 U1∧Blk w1.heap.size [.string ⟨#[]⟩,.int .i64 0,.string ⟨#[]⟩,.string ⟨#[]⟩,.string ⟨#[]⟩,.string ⟨#[]⟩,.string ⟨#[]⟩,.string ⟨#[]⟩,.int .i64 0,.int .i64 0,.int .i64 0] U1:=⟨_,rfl,Below.alloc (Below.refl _ _) (Nat.le_refl _) _,blk_new w1 _ _⟩;rw[hU];clear hU;have hRN:w.heap.size<w1.heap.size:=HR1.out.lt;have HR2:=zh (HR1.out.below bU);have HN2:=zh hN;have HT2:=zh (HT.out.below bU);have HW2:=zh (Below.more HW1.out bU);have HP2:=zh (Nat.lt_of_lt_of_le HP.out bU.size);have HRN:=zh hRN
 clear bU hN HR1 HW1 HT HP hRN;generalize w1.heap.size=N0 at *;obtain⟨_,_,e0,r0⟩:=tx_rule HT2.out (k:=0) (x:=x0) rfl
 cases e0
 simp only[Nat.add_zero]at r0;have hlp:(0:Int)<((l.length+1:Nat):Int):=by omega
 go_loopw [6,7] (fun kd iv V=>∃i:Nat,i≤5∧iv=.int .i64 i∧kd=.int .i64 (kdF x0 i)∧Below U1.heap.size U1 V) (fun _ iv _=>5-(intOf iv).toNat)
 case atStart=>exact⟨0,Nat.zero_le _,rfl,by rw[Ac.kdF_0],Below.refl _ _⟩
 case round =>
  obtain⟨i,hi,rfl,rfl,hbw⟩:=hrel;by_cases h5:i<5
  ·have hi5:(i:Int)<5:=by omega
   have CD:=zh (fun V=>acword_any (i:Int) (by omega) (by omega) V);have HH:Hid (x0=wordK i→kdF x0 (i+1)=i):=zh (Ac.kdF_hit h5);have HM:Hid (x0≠wordK i→kdF x0 (i+1)=kdF x0 i):=zh (Ac.kdF_miss h5);have H5:=zh h5;clear h5 hi;have hB:=zh (Below.size hbw);go_wp2_with fail;refine wp_region_noPanic ?_;refine wp_region_held_drew (S:=fun w'=>Below U1.heap.size U1 w') (by kernel_rfl) (hbw.drew) (fun hH0=>?_);refine sch_in [0,1,2,3] ?_
   iterate 4 (refine sch_yes (v:=?_) rfl (by kernel_rfl) (by rfl) ?_ (by assumption) ?_;rotate_left 1;(· (intro w hSw;(try dsimp only at hSw);go_simp<;>(with_reducible rfl)));try simp only[Act.put,qA,qB,qC,qD,qE,qF])
   refine sch_out ?_;refine wpAnyH_ready (rs:=[4]) (by kernel_rfl) (by simp) ?_;refine AllReadyH.cons rfl (fun K hK=>?_) AllReadyH.nil
   go_simp
   refine(CD.out _).mono ?_;rintro e x2 ⟨rfl,hb⟩;have hw:=Below.more hH0 hb
   (try go_wp2_with fail)
   refine hK.out _ _ hw (fun hH1=>?_);clear hK hH0 hb hw hbw hB
   try simp only[Act.put,qA,qB,qC,qD,qE,qF]
   refine sch_in [5] ?_
   iterate 1 (refine sch_yes (v:=?_) rfl (by kernel_rfl) (by rfl) ?_ (by assumption) ?_;rotate_left 1;(· (intro w hSw;(try dsimp only at hSw);go_simp<;>(with_reducible rfl)));try simp only[Act.put,qA,qB,qC,qD,qE,qF])
   refine sch_out ?_;refine wpAnyH_done (by kernel_rfl) ?_ _;refine NoPanic.normal ?_;go_wp2_with fail
   all_goals (
    rename_i hq
    go_roundw
    case rel=>exact⟨i+1,H5.out,by go_num,by first|rw[HH.out (by simpa using hq)]|rw[HM.out (by simpa using hq)],hH1⟩
    case measure=>simp[intOf];have:=H5.out;omega)
  ·obtain rfl:i=5:=by omega
   rw[Ac.kdF_5];have hR0:=HR2.out.below hbw;have hN0:=HN2.out.below hbw
   have HTw:=zh (HT2.out.below hbw);have HWw:=zh (Below.more HW2.out hbw);have HPw:=zh (Nat.lt_of_lt_of_le HP2.out hbw.size)
   have HRw:=zh hR0;have HNw:=zh hN0
   clear h5 hi hlp r0 hR0 hN0 HR2 HN2 HT2 HW2 HP2 hbw;have HK:=zh (kind_range x0);have HEN:Hid (kindW x0<0∨l.length<6→parseA s.data.toList=(noneA,150)):=zh (fun h=>by
    rw[HE.out];rcases h with h|h
    ·exact congrArg ansA (Ac.parseL_kind h)
    ·exact congrArg ansA (Ac.parseL_six (by simp only[List.length_cons];omega)))
   have HEY:=zh (fun (n a x y z:List UInt8) (r:List (List UInt8)) (e:l=n::a::x::y::z::r) (h:0≤kindW x0)=>(congrArg (fun q=>parseL (x0::q)) e).trans (Ac.parseL_d x0 n a x y z r h));generalize kindW x0=k at *;by_cases hno:k<0∨l.length<6
   ·have HX:=zh (HEN.out hno);have hR:=HRw.out;have hN:=HNw.out
    have y0:=hR.c 0 _ rfl;have y1:=hR.c 1 _ rfl;have y2:=hR.c 2 _ rfl;have y3:=hR.c 3 _ rfl;have y4:=hR.c 4 _ rfl;have y5:=hR.c 5 _ rfl;have y6:=hR.c 6 _ rfl;have y7:=hR.c 7 _ rfl;have y8:=hR.c 8 _ rfl;have y9:=hR.c 9 _ rfl;have y10:=hR.c 10 _ rfl
    have z0:=hR.f 0 (by simp);have z1:=hR.f 1 (by simp);have z2:=hR.f 2 (by simp);have z3:=hR.f 3 (by simp);have z4:=hR.f 4 (by simp);have z5:=hR.f 5 (by simp);have z6:=hR.f 6 (by simp);have z7:=hR.f 7 (by simp);have z8:=hR.f 8 (by simp);have z9:=hR.f 9 (by simp);have z10:=hR.f 10 (by simp)
    have n0:=hN.c 0 _ rfl;have n1:=hN.c 1 _ rfl;have n2:=hN.c 2 _ rfl;have n3:=hN.c 3 _ rfl;have n4:=hN.c 4 _ rfl;have n5:=hN.c 5 _ rfl;have n6:=hN.c 6 _ rfl;have n7:=hN.c 7 _ rfl;have n8:=hN.c 8 _ rfl;have n9:=hN.c 9 _ rfl;have n10:=hN.c 10 _ rfl
    clear hR hN HEN HEY HK;rcases(show k<0∨¬k<0∧l.length<6 by omega) with h1|⟨h1,h2⟩
    ·clear hno;go_wp2_with fail;refine bodyPost_ret (v:=.tuple #[.agg #[.string ⟨#[]⟩,.int .i64 0,.string ⟨#[]⟩,.string ⟨#[]⟩,.string ⟨#[]⟩,.string ⟨#[]⟩,.string ⟨#[]⟩,.string ⟨#[]⟩,.int .i64 0,.int .i64 0,.int .i64 0],.int .i64 150]) (by simp[results,Tryz.results10,go_sem, *]) rfl ⟨by rw[HX.out];rfl,?_⟩;exact Below.setCell (Below.setCell (Below.setCell (Below.setCell (Below.setCell (Below.setCell (Below.setCell (Below.setCell (Below.setCell (Below.setCell (Below.setCell (HWw.out) (Nat.le_refl _) _) (Nat.le_refl _) _) (Nat.le_refl _) _) (Nat.le_refl _) _) (Nat.le_refl _) _) (Nat.le_refl _) _) (Nat.le_refl _) _) (Nat.le_refl _) _) (Nat.le_refl _) _) (Nat.le_refl _) _) (Nat.le_refl _) _
    ·have h3:(l.length:Int)+1<7:=by omega
     clear hno h2;go_wp2_with fail;refine bodyPost_ret (v:=.tuple #[.agg #[.string ⟨#[]⟩,.int .i64 0,.string ⟨#[]⟩,.string ⟨#[]⟩,.string ⟨#[]⟩,.string ⟨#[]⟩,.string ⟨#[]⟩,.string ⟨#[]⟩,.int .i64 0,.int .i64 0,.int .i64 0],.int .i64 150]) (by simp[results,Tryz.results10,go_sem, *]) rfl ⟨by rw[HX.out];rfl,?_⟩;exact Below.setCell (Below.setCell (Below.setCell (Below.setCell (Below.setCell (Below.setCell (Below.setCell (Below.setCell (Below.setCell (Below.setCell (Below.setCell (HWw.out) (Nat.le_refl _) _) (Nat.le_refl _) _) (Nat.le_refl _) _) (Nat.le_refl _) _) (Nat.le_refl _) _) (Nat.le_refl _) _) (Nat.le_refl _) _) (Nat.le_refl _) _) (Nat.le_refl _) _) (Nat.le_refl _) _) (Nat.le_refl _) _
   ·have hk:¬k<0:=by omega
    have hk4:k≤4:=by have:=HK.out;omega
    have hl:¬(l.length:Int)+1<7:=by omega
    obtain⟨wn,wa,d1,d2,d3,q0,r,rfl⟩:∃wn wa d1 d2 d3 q0 r,l=wn::wa::d1::d2::d3::q0::r:=by
     have h6:6≤l.length:=by omega
     match l,h6 with
     | wn::wa::d1::d2::d3::q0::r,_=>exact⟨wn,wa,d1,d2,d3,q0,r,rfl⟩
    have HE3:=zh (HEY.out wn wa d1 d2 d3 (q0::r) rfl (by omega));have CK:=zh (fun V=>acnames_any k V);clear hno HEN HEY HK;obtain⟨n,hn⟩:∃n:Nat,(wn::wa::d1::d2::d3::q0::r).length+1=n:=⟨_,rfl⟩;rw[hn];have hn7:n=r.length+7:=by rw[←hn];simp only[List.length_cons]
    have HN:=zh hn7;clear hl hn;have hl:¬(n:Int)<7:=by omega
    have hi1:(1:Int)<(n:Int):=by omega
    have hi2:(2:Int)<(n:Int):=by omega
    have hi3:(3:Int)<(n:Int):=by omega
    have hi4:(4:Int)<(n:Int):=by omega
    have hi5:(5:Int)<(n:Int):=by omega
    have hi6:(6:Int)<(n:Int):=by omega
    clear hn7;go_wp2_with fail;refine(CK.out _).mono ?_;rintro e5 W ⟨rfl,b5⟩;have HRW:=zh (HRw.out.below b5);have HNW:=zh (HNw.out.below b5);have HTW:=zh (HTw.out.below b5);have HWW:=zh (Below.more HWw.out b5);have HPW:=zh (Nat.lt_of_lt_of_le HPw.out b5.size)
    clear b5 HRw HNw HTw HWw HPw CK hk hl;obtain⟨_,_,e0,r1⟩:=tx_rule HTW.out (k:=1) (x:=wn) rfl
    cases e0
    obtain⟨_,_,e0,r2⟩:=tx_rule HTW.out (k:=2) (x:=wa) rfl
    cases e0
    have b0:=Below.refl W.heap.size W;have hB:=zh (Nat.le_refl W.heap.size);go_wp2_with fail;refine wp_region_noPanic ?_;refine wp_region_held_drew (S:=fun w'=>Below W.heap.size W w') (by kernel_rfl) (b0.drew) (fun hH0=>?_);refine sch_in [0,1,2,3,4,5,6] ?_
    iterate 7 (refine sch_yes (v:=?_) rfl (by kernel_rfl) (by rfl) ?_ (by assumption) ?_;rotate_left 1;(· (intro w hSw;(try dsimp only at hSw);go_simp<;>(with_reducible rfl)));try simp only[Act.put,qA,qB,qC,qD,qE,qF])
    refine sch_out ?_;refine wpAnyH_at (Jf2 (.agg #[.string ⟨wn.toArray⟩,.int .i64 k,.string ⟨wa.toArray⟩,.string ⟨#[]⟩,.string ⟨#[48]⟩,.string ⟨#[49]⟩,.string ⟨#[48]⟩,.string ⟨#[49]⟩,.int .i64 0,.int .i64 0,.int .i64 0]) W.heap.size) ⟨0,none,by decide,by decide,by kernel_rfl,by kernel_rfl,fun b e=>by cases e⟩ hH0 ?_;clear hH0 r1 r2;intro n9 g a' v1 hJ hS;obtain⟨k9,o1,hk9,hn,rfl,rfl,ht⟩:=hJ;have hS':Below W.heap.size W v1:=hS;by_cases hd:k9=3∧nO o1=1
    ·refine .inl ?_;obtain⟨rfl,e1⟩:=hd
     cases o1 with
     | none=>cases e1
     | some b =>
     obtain rfl:n9=1:=by simp only[nO]at hn;omega
     obtain⟨hb,hb1⟩:=ht b rfl;have y0:=hb.c 0 _ rfl;have y1:=hb.c 1 _ rfl;have y2:=hb.c 2 _ rfl;have y3:=hb.c 3 _ rfl;have y4:=hb.c 4 _ rfl;have y5:=hb.c 5 _ rfl;have y6:=hb.c 6 _ rfl;have y7:=hb.c 7 _ rfl;have y8:=hb.c 8 _ rfl;have y9:=hb.c 9 _ rfl;have y10:=hb.c 10 _ rfl
     have z0:=hb.f 0 (by simp);have z1:=hb.f 1 (by simp);have z2:=hb.f 2 (by simp);have z3:=hb.f 3 (by simp);have z4:=hb.f 4 (by simp);have z5:=hb.f 5 (by simp);have z6:=hb.f 6 (by simp);have z7:=hb.f 7 (by simp);have z8:=hb.f 8 (by simp);have z9:=hb.f 9 (by simp);have z10:=hb.f 10 (by simp)
     obtain⟨W7,hW7,hwr7,hb7⟩:=put11 hb (.string ⟨wn.toArray⟩) (.int .i64 k) (.string ⟨wa.toArray⟩) (.string ⟨#[]⟩) (.string ⟨#[48]⟩) (.string ⟨#[49]⟩) (.string ⟨#[48]⟩) (.string ⟨#[49]⟩) (.int .i64 0) (.int .i64 0) (.int .i64 0);have HW7:=zh hW7;have HS7:Hid (Below W.heap.size W W7):=zh (hS'.trans (hwr7.below (fun x hx=>by rw[List.mem_singleton.1 hx];exact hb1) hS'.size));have HB7:=zh hb7;have HB1:=zh hb1
     try simp only[Af2,atQ,show vO (some b)=.pointer (some ⟨b,0,none⟩) from rfl,Nat.reduceLT,↓reduceIte,Act.put,qA,qB,qC,qD,qE,qF]
     clear ht hb hb1 hn hk9 e1 hS' hW7 hwr7 hb7;refine wpAnyH_ready (rs:=[11]) (by kernel_rfl) (by simp) ?_;refine AllReadyH.cons rfl (fun K hK=>?_) AllReadyH.nil
     go_simp
     rw[HW7.out];refine hK.out _ _ HS7.out (fun hS2=>?_);clear hK hS hS2 HW7 y0 z0 y1 z1 y2 z2 y3 z3 y4 z4 y5 z5 y6 z6 y7 z7 y8 z8 y9 z9 y10 z10
     try simp only[Act.put,qA,qB,qC,qD,qE,qF]
     refine wpAnyH_done (by kernel_rfl) ?_ _;refine NoPanic.normal ?_;have HI:Hid (Ip w w.heap.size N0 b (some ⟨pb,po,none⟩) (x0::wn::wa::d1::d2::d3::q0::r) [.string ⟨wn.toArray⟩,.int .i64 k,.string ⟨wa.toArray⟩,.string ⟨#[]⟩,.string ⟨#[48]⟩,.string ⟨#[49]⟩,.string ⟨#[48]⟩,.string ⟨#[49]⟩,.int .i64 0,.int .i64 0,.int .i64 0] W7):=zh ⟨HRW.out.below HS7.out,HNW.out.below HS7.out,HTW.out.below HS7.out,Below.more HWW.out HS7.out,HB7.out,Nat.le_trans HWW.out.size HB1.out,Nat.lt_of_lt_of_le HRW.out.lt HB1.out,Nat.lt_of_lt_of_le HNW.out.lt HB1.out,fun a e=>by cases e;exact Nat.lt_of_lt_of_le HPW.out HB1.out⟩;clear HRW HNW HTW HWW HPW HB7 HB1 HS7;have C1:Hid (∀V,Calls Tryz.prog 26 #[.string ⟨d1.toArray⟩] V fun e w'=>e=.returned (.tuple #[.int .i64 (smallS d1).1,.bool (smallS d1).2])∧V=w'):=zh (fun V=>rsmall_any ⟨d1.toArray⟩ V (by rw[size_of];have:=HSZ.out d1 (by simp);omega));have C2:Hid (∀V,Calls Tryz.prog 26 #[.string ⟨d2.toArray⟩] V fun e w'=>e=.returned (.tuple #[.int .i64 (smallS d2).1,.bool (smallS d2).2])∧V=w'):=zh (fun V=>rsmall_any ⟨d2.toArray⟩ V (by rw[size_of];have:=HSZ.out d2 (by simp);omega));have C3:Hid (∀V,Calls Tryz.prog 26 #[.string ⟨d3.toArray⟩] V fun e w'=>e=.returned (.tuple #[.int .i64 (smallS d3).1,.bool (smallS d3).2])∧V=w'):=zh (fun V=>rsmall_any ⟨d3.toArray⟩ V (by rw[size_of];have:=HSZ.out d3 (by simp);omega));have HE4:=HE3.out;unfold Ac.actD at HE4;rw[HE4]at HE;clear HE3 HE4;generalize smallS d1=sm1 at *;generalize smallS d2=sm2 at *;generalize smallS d3=sm3 at *
     obtain⟨s1,ok1⟩:=sm1;obtain⟨s2,ok2⟩:=sm2;obtain⟨s3,ok3⟩:=sm3;have w3:=HI.out.word (k:=3) (x:=d1) rfl;have w4:=HI.out.word (k:=4) (x:=d2) rfl;have w5:=HI.out.word (k:=5) (x:=d3) rfl
     go_wp2_with fail;refine(C1.out _).mono ?_;rintro e6 v6 ⟨rfl,rfl⟩;go_wp2_with fail;refine(C2.out _).mono ?_;rintro e6 v6 ⟨rfl,rfl⟩;go_wp2_with fail;refine(C3.out _).mono ?_;rintro e6 v6 ⟨rfl,rfl⟩;have y8:=HI.out.x.c 8 _ rfl;have z8:=HI.out.x.f 8 (by simp);have y9:=HI.out.x.c 9 _ rfl;have z9:=HI.out.x.f 9 (by simp);have y10:=HI.out.x.c 10 _ rfl;have z10:=HI.out.x.f 10 (by simp)
     have HI8:=zh (((HI.out.put 8 (by simp) (.int .i64 s1)).put 9 (by simp) (.int .i64 s2)).put 10 (by simp) (.int .i64 s3));clear C1 C2 C3 w3 w4 w5
     go_upto_if 88 with fail
     clear y8 z8 y9 z9 y10 z10 HI;generalize ((W7.setCell ⟨b,8,none⟩ (.int .i64 s1)).setCell ⟨b,9,none⟩ (.int .i64 s2)).setCell ⟨b,10,none⟩ (.int .i64 s3)=W8 at *;have HI:Hid (Ip w w.heap.size N0 b (some ⟨pb,po,none⟩) (x0::wn::wa::d1::d2::d3::q0::r) [.string ⟨wn.toArray⟩,.int .i64 k,.string ⟨wa.toArray⟩,.string ⟨#[]⟩,.string ⟨#[48]⟩,.string ⟨#[49]⟩,.string ⟨#[48]⟩,.string ⟨#[49]⟩,.int .i64 s1,.int .i64 s2,.int .i64 s3] W8):=HI8;clear HI8;have HR1:Hid ((dO (oB k) (q0::r)).2=[]∧n≤6+bN (oB k)∨∃v,(dO (oB k) (q0::r)).2.head?=some v∧6+bN (oB k)<n∧(x0::wn::wa::d1::d2::d3::q0::r)[6+bN (oB k)]?=some v∧v.length≤1000000):=zh (by
      have hz:=HSZ.out;have hn:=HN.out
      cases oB k with
      | false=>exact .inr ⟨q0,rfl,by rw[hn];show 6+0 < _;omega,rfl,hz q0 (by simp)⟩
      | true =>
       cases r with
       | nil=>exact .inl ⟨rfl,by rw[hn];show _≤6+1;simp⟩
       | cons v r'=>exact .inr ⟨v,rfl,by rw[hn];show 6+1 < _;simp only[List.length_cons];omega,rfl,hz v (by simp)⟩)
     have HR2:Hid ((dN (rB k) (dO (oB k) (q0::r)).2).2=[]∧n≤6+bN (oB k)+bN (rB k)∨∃v,(dN (rB k) (dO (oB k) (q0::r)).2).2.head?=some v∧6+bN (oB k)+bN (rB k)<n∧(x0::wn::wa::d1::d2::d3::q0::r)[6+bN (oB k)+bN (rB k)]?=some v∧v.length≤1000000):=zh (by
      have hz:=HSZ.out;have hn:=HN.out
      cases hb:rB k with
      | false =>
       rcases HR1.out with ⟨e1,e2⟩|⟨v,e1,e2,e3,e4⟩
       ·exact .inl ⟨e1,e2⟩
       ·exact .inr ⟨v,e1,e2,e3,e4⟩
      | true =>
       cases oB k with
       | false =>
        cases r with
        | nil=>exact .inl ⟨rfl,by rw[hn];show _≤6+0+1;simp⟩
        | cons v r'=>exact .inr ⟨v,rfl,by rw[hn];show 6+0+1 < _;simp only[List.length_cons];omega,rfl,hz v (by simp)⟩
       | true =>
        match r with
        | []=>exact .inl ⟨rfl,by rw[hn];show _≤6+1+1;simp⟩
        | [u]=>exact .inl ⟨rfl,by rw[hn];show _≤6+1+1;simp⟩
        | u::v::r'=>exact .inr ⟨v,rfl,by rw[hn];show 6+1+1 < _;simp only[List.length_cons];omega,rfl,hz v (by simp)⟩)
     have HOY:Hid (oB k=true→(dO (oB k) (q0::r)).1=q0):=zh (fun h=>by rw[h];rfl);have HON:Hid (oB k=false→(dO (oB k) (q0::r)).1=[]):=zh (fun h=>by rw[h];rfl);have dn:∀ (b:Bool) (l:List (List UInt8)),(b=false→(dN b l).1=(([48],[49]),true))∧(b=true→l=[]→(dN b l).1=(([48],[49]),true))∧(b=true→∀v,l.head?=some v→(dN b l).1=((parS v).1,decide ((parS v).2=0))):=fun b l=>⟨fun h=>by rw[h];rfl,fun h e=>by rw[h,e];rfl,fun h v e=>by
      rw[h]
      cases l with
      | nil=>cases e
      | cons a t=>cases e;rfl⟩
     have RN:=zh (dn (rB k) (dO (oB k) (q0::r)).2);have CN:=zh (dn (cB k) (dN (rB k) (dO (oB k) (q0::r)).2).2)
     have HS1:=zh (dN_size (rB k) (dO (oB k) (q0::r)).2);have HS2:=zh (dN_size (cB k) (dN (rB k) (dO (oB k) (q0::r)).2).2)
     have HZN:Hid (wn.length≤1000000∧wa.length≤1000000∧(dO (oB k) (q0::r)).1.length≤1000000):=zh ⟨HSZ.out wn (by simp),HSZ.out wa (by simp),by cases oB k;exact Nat.zero_le _;exact HSZ.out q0 (by simp)⟩;clear dn HSZ;generalize (dN (cB k) (dN (rB k) (dO (oB k) (q0::r)).2).2).1=cqo at *;generalize (dN (rB k) (dO (oB k) (q0::r)).2).2=r2 at *;generalize (dN (rB k) (dO (oB k) (q0::r)).2).1=rqo at *;generalize (dO (oB k) (q0::r)).2=r1 at *;generalize (dO (oB k) (q0::r)).1=ov at *;obtain⟨rq,rok⟩:=rqo;obtain⟨cq,cok⟩:=cqo;generalize oB k=o at *;generalize rB k=rb at *;generalize cB k=cb at *;have RNN:Hid (rb=false→(rq,rok)=(([48],[49]),true)):=zh RN.out.1;have RNE:Hid (rb=true→r1=[]→(rq,rok)=(([48],[49]),true)):=zh RN.out.2.1;have RNV:Hid (rb=true→∀v,r1.head?=some v→(rq,rok)=((parS v).1,decide ((parS v).2=0))):=zh RN.out.2.2;have CNN:Hid (cb=false→(cq,cok)=(([48],[49]),true)):=zh CN.out.1;have CNE:Hid (cb=true→r2=[]→(cq,cok)=(([48],[49]),true)):=zh CN.out.2.1;have CNV:Hid (cb=true→∀v,r2.head?=some v→(cq,cok)=((parS v).1,decide ((parS v).2=0))):=zh CN.out.2.2;clear RN CN;have hbo:bN o≤1:=by cases o<;>decide
     have hbr:bN rb≤1:=by cases rb<;>decide
     have hbc:bN cb≤1:=by cases cb<;>decide
     obtain⟨m1,hm1⟩:∃m1,6+bN o=m1:=⟨_,rfl⟩;rw[hm1]at HR1 HR2;obtain⟨m2,hm2⟩:∃m2,m1+bN rb=m2:=⟨_,rfl⟩;rw[hm2]at HR2;obtain⟨m3,hm3⟩:∃m3,m2+bN cb=m3:=⟨_,rfl⟩;have HB1:Hid (m1≤7∧m2≤8∧m3≤9):=zh (by omega);have HM1:=zh hm1;have HM2:=zh hm2;have HM3:=zh hm3
     clear hbo hbr hbc hm1 hm2 hm3
     go_cut [18] from 88 to 95 (fun at' V=>at'=.int .i64 (m1:Int)∧Hid (Ip w w.heap.size N0 b (some ⟨pb,po,none⟩) (x0::wn::wa::d1::d2::d3::q0::r) [.string ⟨wn.toArray⟩,.int .i64 k,.string ⟨wa.toArray⟩,.string ⟨ov.toArray⟩,.string ⟨#[48]⟩,.string ⟨#[49]⟩,.string ⟨#[48]⟩,.string ⟨#[49]⟩,.int .i64 s1,.int .i64 s2,.int .i64 s3] V))
     case first =>
      cases o with
      | false =>
       obtain rfl:=HON.out rfl;obtain rfl:6=m1:=HM1.out;go_wp2_with fail
       go_meet
       exact⟨rfl,HI⟩
      | true =>
       obtain rfl:=HOY.out rfl;obtain rfl:7=m1:=HM1.out;have w6:=HI.out.word (k:=6) (x:=ov) rfl;have y3:=HI.out.x.c 3 _ rfl;have z3:=HI.out.x.f 3 (by simp)
       have HI2:=zh (HI.out.put 3 (by simp) (.string ⟨ov.toArray⟩));go_wp2_with fail
       go_meet
       exact⟨rfl,HI2⟩
     case rest =>
     clear HI;obtain⟨rfl,HI⟩:=hcut
     go_upto_region 23 with fail
     go_cut [102] from 96 to 102 (fun cv V=>cv=.bool (rb&&decide (m1<n))∧Hid (Ip w w.heap.size N0 b (some ⟨pb,po,none⟩) (x0::wn::wa::d1::d2::d3::q0::r) [.string ⟨wn.toArray⟩,.int .i64 k,.string ⟨wa.toArray⟩,.string ⟨ov.toArray⟩,.string ⟨#[48]⟩,.string ⟨#[49]⟩,.string ⟨#[48]⟩,.string ⟨#[49]⟩,.int .i64 s1,.int .i64 s2,.int .i64 s3] V))
     case first =>
      cases rb with
      | false =>
       go_wp2_with fail
       go_meet
       exact⟨rfl,HI⟩
      | true =>
       by_cases hat:m1<n
       ·have hai:((m1:Nat):Int)<(n:Int):=by omega
        go_wp2_with fail
        go_meet
        exact⟨by rw[decide_eq_true hat];first|rfl|(rw[decide_eq_true (show ((m1:Nat):Int)<(n:Int) by omega)];rfl),HI⟩
       ·have hai:¬((m1:Nat):Int)<(n:Int):=by omega
        go_wp2_with fail
        go_meet
        exact⟨by rw[decide_eq_false hat];first|rfl|(rw[decide_eq_false (show ¬((m1:Nat):Int)<(n:Int) by omega)];rfl),HI⟩
     case rest =>
     clear HI;obtain⟨rfl,HI⟩:=hcut;have HQR:Hid ((rb&&decide (m1<n))=false∧(rq,rok)=(([48],[49]),true)∨(rb&&decide (m1<n))=true∧m1<n∧∃v,(x0::wn::wa::d1::d2::d3::q0::r)[m1]?=some v∧v.length≤1000000∧(rq,rok)=((parS v).1,decide ((parS v).2=0))):=zh (by
      cases rb with
      | false=>exact .inl ⟨rfl,RNN.out rfl⟩
      | true =>
       rcases HR1.out with ⟨e1,e2⟩|⟨v,e1,e2,e3,e4⟩
       ·exact .inl ⟨by rw[decide_eq_false (by omega)];rfl,RNE.out rfl e1⟩
       ·exact .inr ⟨by rw[decide_eq_true e2];rfl,e2,v,e3,e4,RNV.out rfl v e1⟩)
     clear RNN RNE RNV HR1;generalize (rb&&decide (m1<n))=cdR at *
     go_upto_if 102 with fail
     go_cut [17] from 103 to 117 (fun z V=>z=.bool (ok3&&rok)∧Hid (Ip w w.heap.size N0 b (some ⟨pb,po,none⟩) (x0::wn::wa::d1::d2::d3::q0::r) [.string ⟨wn.toArray⟩,.int .i64 k,.string ⟨wa.toArray⟩,.string ⟨ov.toArray⟩,.string ⟨rq.1.toArray⟩,.string ⟨rq.2.toArray⟩,.string ⟨#[48]⟩,.string ⟨#[49]⟩,.int .i64 s1,.int .i64 s2,.int .i64 s3] V))
     case first =>
      rcases HQR.out with ⟨rfl,e1⟩|⟨rfl,hat,v,e3,e4,e5⟩
      ·obtain⟨rfl,rfl⟩:=Prod.mk.inj e1;clear e1;go_wp2_with fail
       go_meet
       exact⟨by rw[Bool.and_true],HI⟩
      ·have hai:((m1:Nat):Int)<(n:Int):=by omega
       have hw:=HI.out.word e3;have CP:Hid (∀V,Calls Tryz.prog 27 #[.string ⟨v.toArray⟩] V (GiveRE V (parS v))):=zh (fun V=>rdparse_any ⟨v.toArray⟩ V (by rw[size_of];exact e4));obtain⟨ps,hps⟩:∃ps,parS v=ps:=⟨_,rfl⟩;rw[hps]at CP e5;obtain⟨pq,pe⟩:=ps;obtain⟨rfl,hok⟩:=Prod.mk.inj e5;have HOK:=zh hok;clear e3 e4 e5 hps hok hat;go_wp2_with fail;refine(CP.out _).mono ?_;rintro e6 v6 ⟨rfl,c⟩;have hI:=HI.out.below c;have bA:Below v6.heap.size v6 (v6.alloc (.cells #[.string ⟨rq.1.toArray⟩,.string ⟨rq.2.toArray⟩] 23)):=Below.alloc (Below.refl _ _) (Nat.le_refl _) _;have hI2:=hI.below bA;have y4:=hI2.x.c 4 _ rfl;have y5:=hI2.x.c 5 _ rfl;have z4:=hI2.x.f 4 (by simp);have z5:=hI2.x.f 5 (by simp)
       have HI3:=zh ((hI2.put 4 (by simp) (.string ⟨rq.1.toArray⟩)).put 5 (by simp) (.string ⟨rq.2.toArray⟩));clear hI hI2 bA c CP hw;have hzk:decide (pe=0)=rok:=HOK.out.symm
       cases ok3<;>(
        go_wp2_with fail
        go_meet
        exact⟨by first|rfl|(rw[←hzk];rfl)|(rw[←hzk];simp),HI3⟩)
     case rest =>
     clear HI;obtain⟨rfl,HI⟩:=hcut
     go_upto_if 118 with fail
     go_cut [18] from 118 to 120 (fun at' V=>at'=.int .i64 (m2:Int)∧Hid (Ip w w.heap.size N0 b (some ⟨pb,po,none⟩) (x0::wn::wa::d1::d2::d3::q0::r) [.string ⟨wn.toArray⟩,.int .i64 k,.string ⟨wa.toArray⟩,.string ⟨ov.toArray⟩,.string ⟨rq.1.toArray⟩,.string ⟨rq.2.toArray⟩,.string ⟨#[48]⟩,.string ⟨#[49]⟩,.int .i64 s1,.int .i64 s2,.int .i64 s3] V))
     case first =>
      cases rb with
      | false =>
       obtain rfl:m1=m2:=HM2.out;go_wp2_with fail
       go_meet
       exact⟨rfl,HI⟩
      | true =>
       obtain rfl:m1+1=m2:=HM2.out;have hb:=HB1.out;have hwr:IntKind.i64.wrap ((m1:Int)+1)=(m1:Int)+1:=IntWalk.i64_in _ (by omega);clear hb;go_wp2_with fail
       go_meet
       exact⟨by first|rfl|go_num,HI⟩
     case rest =>
     clear HI;obtain⟨rfl,HI⟩:=hcut;have HLEN:Hid ((q0::r).length=bN o+bN rb+bN cb↔m3=n):=zh (by
      have h1:=HM1.out;have h2:=HM2.out;have h3:=HM3.out;have h4:=HN.out
      simp only[List.length_cons];omega)
     generalize (ok3&&rok)=zg at *
     go_upto_region 29 with fail
     go_cut [127] from 121 to 127 (fun cv V=>cv=.bool (cb&&decide (m2<n))∧Hid (Ip w w.heap.size N0 b (some ⟨pb,po,none⟩) (x0::wn::wa::d1::d2::d3::q0::r) [.string ⟨wn.toArray⟩,.int .i64 k,.string ⟨wa.toArray⟩,.string ⟨ov.toArray⟩,.string ⟨rq.1.toArray⟩,.string ⟨rq.2.toArray⟩,.string ⟨#[48]⟩,.string ⟨#[49]⟩,.int .i64 s1,.int .i64 s2,.int .i64 s3] V))
     case first =>
      cases cb with
      | false =>
       go_wp2_with fail
       go_meet
       exact⟨rfl,HI⟩
      | true =>
       by_cases hat:m2<n
       ·have hai:((m2:Nat):Int)<(n:Int):=by omega
        go_wp2_with fail
        go_meet
        exact⟨by rw[decide_eq_true hat];first|rfl|(rw[decide_eq_true (show ((m2:Nat):Int)<(n:Int) by omega)];rfl),HI⟩
       ·have hai:¬((m2:Nat):Int)<(n:Int):=by omega
        go_wp2_with fail
        go_meet
        exact⟨by rw[decide_eq_false hat];first|rfl|(rw[decide_eq_false (show ¬((m2:Nat):Int)<(n:Int) by omega)];rfl),HI⟩
     case rest =>
     clear HI;obtain⟨rfl,HI⟩:=hcut;have HQC:Hid ((cb&&decide (m2<n))=false∧(cq,cok)=(([48],[49]),true)∨(cb&&decide (m2<n))=true∧m2<n∧∃v,(x0::wn::wa::d1::d2::d3::q0::r)[m2]?=some v∧v.length≤1000000∧(cq,cok)=((parS v).1,decide ((parS v).2=0))):=zh (by
      cases cb with
      | false=>exact .inl ⟨rfl,CNN.out rfl⟩
      | true =>
       rcases HR2.out with ⟨e1,e2⟩|⟨v,e1,e2,e3,e4⟩
       ·exact .inl ⟨by rw[decide_eq_false (by omega)];rfl,CNE.out rfl e1⟩
       ·exact .inr ⟨by rw[decide_eq_true e2];rfl,e2,v,e3,e4,CNV.out rfl v e1⟩)
     clear CNN CNE CNV HR2;generalize (cb&&decide (m2<n))=cdC at *
     go_upto_if 127 with fail
     go_cut [17] from 128 to 142 (fun z V=>z=.bool (zg&&cok)∧Hid (Ip w w.heap.size N0 b (some ⟨pb,po,none⟩) (x0::wn::wa::d1::d2::d3::q0::r) [.string ⟨wn.toArray⟩,.int .i64 k,.string ⟨wa.toArray⟩,.string ⟨ov.toArray⟩,.string ⟨rq.1.toArray⟩,.string ⟨rq.2.toArray⟩,.string ⟨cq.1.toArray⟩,.string ⟨cq.2.toArray⟩,.int .i64 s1,.int .i64 s2,.int .i64 s3] V))
     case first =>
      rcases HQC.out with ⟨rfl,e1⟩|⟨rfl,hat,v,e3,e4,e5⟩
      ·obtain⟨rfl,rfl⟩:=Prod.mk.inj e1;clear e1;go_wp2_with fail
       go_meet
       exact⟨by rw[Bool.and_true],HI⟩
      ·have hai:((m2:Nat):Int)<(n:Int):=by omega
       have hw:=HI.out.word e3;have CP:Hid (∀V,Calls Tryz.prog 27 #[.string ⟨v.toArray⟩] V (GiveRE V (parS v))):=zh (fun V=>rdparse_any ⟨v.toArray⟩ V (by rw[size_of];exact e4));obtain⟨ps,hps⟩:∃ps,parS v=ps:=⟨_,rfl⟩;rw[hps]at CP e5;obtain⟨pq,pe⟩:=ps;obtain⟨rfl,hok⟩:=Prod.mk.inj e5;have HOK:=zh hok;clear e3 e4 e5 hps hok hat;go_wp2_with fail;refine(CP.out _).mono ?_;rintro e6 v6 ⟨rfl,c⟩;have hI:=HI.out.below c;have bA:Below v6.heap.size v6 (v6.alloc (.cells #[.string ⟨cq.1.toArray⟩,.string ⟨cq.2.toArray⟩] 23)):=Below.alloc (Below.refl _ _) (Nat.le_refl _) _;have hI2:=hI.below bA;have y6:=hI2.x.c 6 _ rfl;have y7:=hI2.x.c 7 _ rfl;have z6:=hI2.x.f 6 (by simp);have z7:=hI2.x.f 7 (by simp)
       have HI3:=zh ((hI2.put 6 (by simp) (.string ⟨cq.1.toArray⟩)).put 7 (by simp) (.string ⟨cq.2.toArray⟩));clear hI hI2 bA c CP hw;have hzk:decide (pe=0)=cok:=HOK.out.symm
       cases zg<;>(
        go_wp2_with fail
        go_meet
        exact⟨by first|rfl|(rw[←hzk];rfl)|(rw[←hzk];simp),HI3⟩)
     case rest =>
     clear HI;obtain⟨rfl,HI⟩:=hcut
     go_upto_if 143 with fail
     go_cut [18] from 143 to 145 (fun at' V=>at'=.int .i64 (m3:Int)∧Hid (Ip w w.heap.size N0 b (some ⟨pb,po,none⟩) (x0::wn::wa::d1::d2::d3::q0::r) [.string ⟨wn.toArray⟩,.int .i64 k,.string ⟨wa.toArray⟩,.string ⟨ov.toArray⟩,.string ⟨rq.1.toArray⟩,.string ⟨rq.2.toArray⟩,.string ⟨cq.1.toArray⟩,.string ⟨cq.2.toArray⟩,.int .i64 s1,.int .i64 s2,.int .i64 s3] V))
     case first =>
      cases cb with
      | false =>
       obtain rfl:m2=m3:=HM3.out;go_wp2_with fail
       go_meet
       exact⟨rfl,HI⟩
      | true =>
       obtain rfl:m2+1=m3:=HM3.out;have hb:=HB1.out;have hwr:IntKind.i64.wrap ((m2:Int)+1)=(m2:Int)+1:=IntWalk.i64_in _ (by omega);clear hb;go_wp2_with fail
       go_meet
       exact⟨by first|rfl|go_num,HI⟩
     case rest =>
     clear HI;obtain⟨rfl,HI⟩:=hcut;generalize (zg&&cok)=zf at *;have CM:Hid (∀V,Calls Tryz.prog 12 #[.agg #[.string ⟨wn.toArray⟩,.int .i64 k,.string ⟨wa.toArray⟩,.string ⟨ov.toArray⟩,.string ⟨rq.1.toArray⟩,.string ⟨rq.2.toArray⟩,.string ⟨cq.1.toArray⟩,.string ⟨cq.2.toArray⟩,.int .i64 s1,.int .i64 s2,.int .i64 s3]] V (GiveB V (mayA ⟨wn,k,wa,ov,rq,cq,s1,s2,s3⟩))):=zh (fun V=>acmay_any ⟨wn,k,wa,ov,rq,cq,s1,s2,s3⟩ V ⟨⟨by have:=HZN.out.1;show wn.length≤_;omega,by have:=HZN.out.2.1;show wa.length≤_;omega,by have:=HZN.out.2.2;show ov.length≤_;omega⟩,HS1.out,HS2.out⟩);clear HS1 HS2 HZN HM1 HM2 HM3 HB1 HN HRN;have hR:=HI.out.r;have hN:=HI.out.n
     have y0:=hR.c 0 _ rfl;have y1:=hR.c 1 _ rfl;have y2:=hR.c 2 _ rfl;have y3:=hR.c 3 _ rfl;have y4:=hR.c 4 _ rfl;have y5:=hR.c 5 _ rfl;have y6:=hR.c 6 _ rfl;have y7:=hR.c 7 _ rfl;have y8:=hR.c 8 _ rfl;have y9:=hR.c 9 _ rfl;have y10:=hR.c 10 _ rfl
     have z0:=hR.f 0 (by simp);have z1:=hR.f 1 (by simp);have z2:=hR.f 2 (by simp);have z3:=hR.f 3 (by simp);have z4:=hR.f 4 (by simp);have z5:=hR.f 5 (by simp);have z6:=hR.f 6 (by simp);have z7:=hR.f 7 (by simp);have z8:=hR.f 8 (by simp);have z9:=hR.f 9 (by simp);have z10:=hR.f 10 (by simp)
     have n0:=hN.c 0 _ rfl;have n1:=hN.c 1 _ rfl;have n2:=hN.c 2 _ rfl;have n3:=hN.c 3 _ rfl;have n4:=hN.c 4 _ rfl;have n5:=hN.c 5 _ rfl;have n6:=hN.c 6 _ rfl;have n7:=hN.c 7 _ rfl;have n8:=hN.c 8 _ rfl;have n9:=hN.c 9 _ rfl;have n10:=hN.c 10 _ rfl
     clear hR hN
     cases ok1 with
     | false =>
      have HX:Hid (parseA s.data.toList=(noneA,150)):=zh (by rw[HE.out,if_neg (fun c=>by cases c.2.1.1)];rfl);go_wp2_with fail;refine bodyPost_ret (v:=.tuple #[.agg #[.string ⟨#[]⟩,.int .i64 0,.string ⟨#[]⟩,.string ⟨#[]⟩,.string ⟨#[]⟩,.string ⟨#[]⟩,.string ⟨#[]⟩,.string ⟨#[]⟩,.int .i64 0,.int .i64 0,.int .i64 0],.int .i64 150]) (by simp[results,Tryz.results10,go_sem, *]) rfl ⟨by rw[HX.out];rfl,?_⟩;exact Below.setCell (Below.setCell (Below.setCell (Below.setCell (Below.setCell (Below.setCell (Below.setCell (Below.setCell (Below.setCell (Below.setCell (Below.setCell (HI.out.b) (Nat.le_refl _) _) (Nat.le_refl _) _) (Nat.le_refl _) _) (Nat.le_refl _) _) (Nat.le_refl _) _) (Nat.le_refl _) _) (Nat.le_refl _) _) (Nat.le_refl _) _) (Nat.le_refl _) _) (Nat.le_refl _) _) (Nat.le_refl _) _
     | true =>
     cases ok2 with
     | false =>
      have HX:Hid (parseA s.data.toList=(noneA,150)):=zh (by rw[HE.out,if_neg (fun c=>by cases c.2.1.2.1)];rfl);go_wp2_with fail;refine bodyPost_ret (v:=.tuple #[.agg #[.string ⟨#[]⟩,.int .i64 0,.string ⟨#[]⟩,.string ⟨#[]⟩,.string ⟨#[]⟩,.string ⟨#[]⟩,.string ⟨#[]⟩,.string ⟨#[]⟩,.int .i64 0,.int .i64 0,.int .i64 0],.int .i64 150]) (by simp[results,Tryz.results10,go_sem, *]) rfl ⟨by rw[HX.out];rfl,?_⟩;exact Below.setCell (Below.setCell (Below.setCell (Below.setCell (Below.setCell (Below.setCell (Below.setCell (Below.setCell (Below.setCell (Below.setCell (Below.setCell (HI.out.b) (Nat.le_refl _) _) (Nat.le_refl _) _) (Nat.le_refl _) _) (Nat.le_refl _) _) (Nat.le_refl _) _) (Nat.le_refl _) _) (Nat.le_refl _) _) (Nat.le_refl _) _) (Nat.le_refl _) _) (Nat.le_refl _) _) (Nat.le_refl _) _
     | true =>
     cases zf with
     | false =>
      have HX:Hid (parseA s.data.toList=(noneA,150)):=zh (by rw[HE.out,if_neg (fun c=>by cases c.2.1.2.2)];rfl);go_wp2_with fail;refine bodyPost_ret (v:=.tuple #[.agg #[.string ⟨#[]⟩,.int .i64 0,.string ⟨#[]⟩,.string ⟨#[]⟩,.string ⟨#[]⟩,.string ⟨#[]⟩,.string ⟨#[]⟩,.string ⟨#[]⟩,.int .i64 0,.int .i64 0,.int .i64 0],.int .i64 150]) (by simp[results,Tryz.results10,go_sem, *]) rfl ⟨by rw[HX.out];rfl,?_⟩;exact Below.setCell (Below.setCell (Below.setCell (Below.setCell (Below.setCell (Below.setCell (Below.setCell (Below.setCell (Below.setCell (Below.setCell (Below.setCell (HI.out.b) (Nat.le_refl _) _) (Nat.le_refl _) _) (Nat.le_refl _) _) (Nat.le_refl _) _) (Nat.le_refl _) _) (Nat.le_refl _) _) (Nat.le_refl _) _) (Nat.le_refl _) _) (Nat.le_refl _) _) (Nat.le_refl _) _) (Nat.le_refl _) _
     | true =>
     by_cases hmn:m3=n
     case neg =>
      have HX:Hid (parseA s.data.toList=(noneA,150)):=zh (by rw[HE.out,if_neg (fun c=>hmn (HLEN.out.1 c.1))];rfl);have hmi:¬(m3:Int)=(n:Int):=by omega
      clear hmn;go_wp2_with fail;refine bodyPost_ret (v:=.tuple #[.agg #[.string ⟨#[]⟩,.int .i64 0,.string ⟨#[]⟩,.string ⟨#[]⟩,.string ⟨#[]⟩,.string ⟨#[]⟩,.string ⟨#[]⟩,.string ⟨#[]⟩,.int .i64 0,.int .i64 0,.int .i64 0],.int .i64 150]) (by simp[results,Tryz.results10,go_sem, *]) rfl ⟨by rw[HX.out];rfl,?_⟩;exact Below.setCell (Below.setCell (Below.setCell (Below.setCell (Below.setCell (Below.setCell (Below.setCell (Below.setCell (Below.setCell (Below.setCell (Below.setCell (HI.out.b) (Nat.le_refl _) _) (Nat.le_refl _) _) (Nat.le_refl _) _) (Nat.le_refl _) _) (Nat.le_refl _) _) (Nat.le_refl _) _) (Nat.le_refl _) _) (Nat.le_refl _) _) (Nat.le_refl _) _) (Nat.le_refl _) _) (Nat.le_refl _) _
     case pos =>
      subst hmn;have HL2:=zh (HLEN.out.2 rfl);have hX:=HI.out.x;have q0:=hX.c 0 _ rfl;have q1:=hX.c 1 _ rfl;have q2:=hX.c 2 _ rfl;have q3:=hX.c 3 _ rfl;have q4:=hX.c 4 _ rfl;have q5:=hX.c 5 _ rfl;have q6:=hX.c 6 _ rfl;have q7:=hX.c 7 _ rfl;have q8:=hX.c 8 _ rfl;have q9:=hX.c 9 _ rfl;have q10:=hX.c 10 _ rfl
      clear hX y0 z0 n0 y1 z1 n1 y2 z2 n2 y3 z3 n3 y4 z4 n4 y5 z5 n5 y6 z6 n6 y7 z7 n7 y8 z8 n8 y9 z9 n9 y10 z10 n10;go_wp2_with fail;refine(CM.out _).mono ?_;rintro e6 v6 ⟨rfl,c⟩;have HI2:=zh (HI.out.below c);clear c q0 q1 q2 q3 q4 q5 q6 q7 q8 q9 q10;have hR:=HI2.out.r;have hN:=HI2.out.n;have hX:=HI2.out.x
      have y0:=hR.c 0 _ rfl;have y1:=hR.c 1 _ rfl;have y2:=hR.c 2 _ rfl;have y3:=hR.c 3 _ rfl;have y4:=hR.c 4 _ rfl;have y5:=hR.c 5 _ rfl;have y6:=hR.c 6 _ rfl;have y7:=hR.c 7 _ rfl;have y8:=hR.c 8 _ rfl;have y9:=hR.c 9 _ rfl;have y10:=hR.c 10 _ rfl
      have z0:=hR.f 0 (by simp);have z1:=hR.f 1 (by simp);have z2:=hR.f 2 (by simp);have z3:=hR.f 3 (by simp);have z4:=hR.f 4 (by simp);have z5:=hR.f 5 (by simp);have z6:=hR.f 6 (by simp);have z7:=hR.f 7 (by simp);have z8:=hR.f 8 (by simp);have z9:=hR.f 9 (by simp);have z10:=hR.f 10 (by simp)
      have n0:=hN.c 0 _ rfl;have n1:=hN.c 1 _ rfl;have n2:=hN.c 2 _ rfl;have n3:=hN.c 3 _ rfl;have n4:=hN.c 4 _ rfl;have n5:=hN.c 5 _ rfl;have n6:=hN.c 6 _ rfl;have n7:=hN.c 7 _ rfl;have n8:=hN.c 8 _ rfl;have n9:=hN.c 9 _ rfl;have n10:=hN.c 10 _ rfl
      have q0:=hX.c 0 _ rfl;have q1:=hX.c 1 _ rfl;have q2:=hX.c 2 _ rfl;have q3:=hX.c 3 _ rfl;have q4:=hX.c 4 _ rfl;have q5:=hX.c 5 _ rfl;have q6:=hX.c 6 _ rfl;have q7:=hX.c 7 _ rfl;have q8:=hX.c 8 _ rfl;have q9:=hX.c 9 _ rfl;have q10:=hX.c 10 _ rfl
      clear hR hN hX
      cases hm:mayA ⟨wn,k,wa,ov,rq,cq,s1,s2,s3⟩ with
      | false =>
       have HX:Hid (parseA s.data.toList=(noneA,150)):=zh (by rw[HE.out,if_neg (fun c=>by rw[hm]at c;cases c.2.2)];rfl);clear hm;go_wp2_with fail;refine bodyPost_ret (v:=.tuple #[.agg #[.string ⟨#[]⟩,.int .i64 0,.string ⟨#[]⟩,.string ⟨#[]⟩,.string ⟨#[]⟩,.string ⟨#[]⟩,.string ⟨#[]⟩,.string ⟨#[]⟩,.int .i64 0,.int .i64 0,.int .i64 0],.int .i64 150]) (by simp[results,Tryz.results10,go_sem, *]) rfl ⟨by rw[HX.out];rfl,?_⟩;exact Below.setCell (Below.setCell (Below.setCell (Below.setCell (Below.setCell (Below.setCell (Below.setCell (Below.setCell (Below.setCell (Below.setCell (Below.setCell (HI2.out.b) (Nat.le_refl _) _) (Nat.le_refl _) _) (Nat.le_refl _) _) (Nat.le_refl _) _) (Nat.le_refl _) _) (Nat.le_refl _) _) (Nat.le_refl _) _) (Nat.le_refl _) _) (Nat.le_refl _) _) (Nat.le_refl _) _) (Nat.le_refl _) _
      | true =>
       have HX:Hid (parseA s.data.toList=(⟨wn,k,wa,ov,rq,cq,s1,s2,s3⟩,0)):=zh (by rw[HE.out,if_pos ⟨HL2.out,by simp,hm⟩];rfl);clear hm;go_wp2_with fail;refine bodyPost_ret (v:=.tuple #[.agg #[.string ⟨wn.toArray⟩,.int .i64 k,.string ⟨wa.toArray⟩,.string ⟨ov.toArray⟩,.string ⟨rq.1.toArray⟩,.string ⟨rq.2.toArray⟩,.string ⟨cq.1.toArray⟩,.string ⟨cq.2.toArray⟩,.int .i64 s1,.int .i64 s2,.int .i64 s3],.int .i64 0]) (by simp[results,Tryz.results10,go_sem, *]) rfl ⟨by rw[HX.out],?_⟩;exact Below.setCell (Below.setCell (Below.setCell (Below.setCell (Below.setCell (Below.setCell (Below.setCell (Below.setCell (Below.setCell (Below.setCell (Below.setCell (HI2.out.b) (Nat.le_refl _) _) (Nat.le_refl _) _) (Nat.le_refl _) _) (Nat.le_refl _) _) (Nat.le_refl _) _) (Nat.le_refl _) _) (Nat.le_refl _) _) (Nat.le_refl _) _) (Nat.le_refl _) _) (Nat.le_refl _) _) (Nat.le_refl _) _
    ·refine .inr ?_;obtain⟨m,rfl⟩:∃m,n9=m+1:=⟨n9-1,by cases o1<;>simp only[nO]at hn<;>omega⟩;refine⟨m,rfl,phase_step (fun i=>(i==7&&k9==0)||(i==8&&k9==1)||(i==9&&k9==2)||(i==10&&o1.isNone)) ?_ ?_⟩
     ·rcases(show k9=0∨k9=1∨k9=2∨k9=3 by omega) with rfl|rfl|rfl|rfl<;>cases o1<;>first|exact absurd ⟨rfl,rfl⟩ hd|kernel_rfl
     ·intro i hi;have hi:(((i=7∧k9=0)∨(i=8∧k9=1))∨(i=9∧k9=2))∨(i=10∧o1=none):=by simpa using hi
      clear hd;rcases hi with ((⟨rfl,rfl⟩|⟨rfl,rfl⟩)|⟨rfl,rfl⟩)|⟨rfl,rfl⟩
      ·refine wpOp_step rfl (fun K hK0=>?_);have hK:=zh hK0;clear hK0
       try simp only[Af2,atQ,Nat.reduceLT,↓reduceIte,Act.put,qA,qB,qC,qD,qE,qF]
       go_simp
       refine(held (W:=W) hB.out (ac_zero _) hS').mono ?_;rintro e v2 ⟨rfl,hb,hw⟩
       (try go_wp2_with fail)
       exact hK.out _ _ ⟨hw,1,o1,by omega,by omega,by kernel_rfl,(by simp only[Af2,atQ,Nat.reduceLT,↓reduceIte,Act.put,qA,qB,qC,qD,qE,qF]),fun b e=>⟨(ht b e).1.below hb,(ht b e).2⟩⟩
      ·refine wpOp_step rfl (fun K hK0=>?_);have hK:=zh hK0;clear hK0
       try simp only[Af2,atQ,Nat.reduceLT,↓reduceIte,Act.put,qA,qB,qC,qD,qE,qF]
       go_simp
       refine(held (W:=W) hB.out (ac_zero _) hS').mono ?_;rintro e v2 ⟨rfl,hb,hw⟩
       (try go_wp2_with fail)
       exact hK.out _ _ ⟨hw,2,o1,by omega,by omega,by kernel_rfl,(by simp only[Af2,atQ,Nat.reduceLT,↓reduceIte,Act.put,qA,qB,qC,qD,qE,qF]),fun b e=>⟨(ht b e).1.below hb,(ht b e).2⟩⟩
      ·refine wpOp_step rfl (fun K hK0=>?_);have hK:=zh hK0;clear hK0
       try simp only[Af2,atQ,Nat.reduceLT,↓reduceIte,Act.put,qA,qB,qC,qD,qE,qF]
       go_simp
       exact hK.out _ _ ⟨hS',3,o1,by omega,by omega,by kernel_rfl,(by simp only[Af2,atQ,Nat.reduceLT,↓reduceIte,Act.put,qA,qB,qC,qD,qE,qF]),ht⟩
      ·refine wpOp_step rfl (fun K hK0=>?_);have hK:=zh hK0;clear hK0
       try simp only[Af2,atQ,Nat.reduceLT,↓reduceIte,Act.put,qA,qB,qC,qD,qE,qF]
       go_simp
       exact hK.out _ _ ⟨Below.alloc hS' (Below.size hS') _,k9,some v1.heap.size,hk9,by simp only[nO]at hn ⊢;omega,rfl,(by simp only[Af2,atQ,vO,Nat.reduceLT,↓reduceIte,Act.put,qA,qB,qC,qD,qE,qF]),fun b e=>by cases e;exact⟨blk_new v1 _ _,Below.size hS'⟩⟩
end Go.Proofs.YtcebkcilkhebeaaGreatDoor
