/- Own work. -/
import Derived.Test.YtcebkcilkhebeaaGreatDoorAllAc3
import Derived.Test.YtcebkcilkhebeaaGreatDoorPhase
set_option linter.unusedSimpArgs false
set_option linter.unusedVariables false
set_option maxHeartbeats 4000000
set_option maxRecDepth 100000
namespace Go.Proofs.YtcebkcilkhebeaaGreatDoor
open Go.RowKit
open Ac (oB rB cB wordK kindW hdW dyW otO otN takenQ parseQ ansA parseA noneA mayA Actn words)
def GiveA(w:World)(p:Actn×Int)(e:Ending)(w':World):Prop:=e=.returned (.tuple #[.agg #[.string ⟨p.1.nm.toArray⟩,.int .i64 p.1.kind,.string ⟨p.1.ast.toArray⟩,.string ⟨p.1.oth.toArray⟩,.string ⟨p.1.ratio.1.toArray⟩,.string ⟨p.1.ratio.2.toArray⟩,.string ⟨p.1.cash.1.toArray⟩,.string ⟨p.1.cash.2.toArray⟩,.int .i64 p.1.ex,.int .i64 p.1.rc,.int .i64 p.1.pay],.int .i64 p.2])∧Below w.heap.size w w'
theorem WrB.far{Xs:List Nat}{a w v:World}{b:Nat}(h:WrB Xs a w)(g:WrB [b] w v)(hb:a.heap.size≤b):WrB Xs a v :=
 ⟨g.os.trans h.os,g.tape.trans h.tape,g.output.trans h.output,Nat.le_trans h.size g.size,fun k hk hn=>(g.block k (Nat.lt_of_lt_of_le hk h.size) (fun c=>by have:=List.mem_singleton.1 c;omega)).trans (h.block k hk hn)⟩
theorem LW.wr{B b:Nat}{L:List (List UInt8)}{w w':World}(h:LW B L w)(hg:WrB [b] w w')(hb:B<b):LW B L w':=by
 obtain⟨p,c,h1,h2,h3,h4,h5⟩:=h;exact⟨p,c,h1.wr hg (fun k=>Nat.ne_of_lt hb (List.mem_singleton.1 k)),h2,h3.wr hg (fun a e k=>Nat.ne_of_lt (Nat.lt_trans (h4 a e) hb) (List.mem_singleton.1 k)),h4,h5⟩
section
variable (kk : Int) (l : List (List UInt8))
def oQ:List UInt8×List (List UInt8):=otO (oB kk) l.tail.tail.tail.tail.tail
def rQ:Key×List (List UInt8):=otN (rB kk) (oQ kk l).2
def cQ:Key×List (List UInt8):=otN (cB kk) (rQ kk l).2
def lfQ:Nat→List (List UInt8)
 | 0=>l
 | 1=>l.tail
 | 2=>l.tail.tail
 | 3=>l.tail.tail.tail
 | 4=>l.tail.tail.tail.tail
 | 5=>l.tail.tail.tail.tail.tail
 | 6=>(oQ kk l).2
 | 7=>(rQ kk l).2
 | _=>(cQ kk l).2
def atQ(k j:Nat)(v:Value):Value:=if j<k then v else undef
def agQ:Value:=.agg #[.string ⟨(hdW l).toArray⟩,.int .i64 kk,.string ⟨(hdW l.tail).toArray⟩,.string ⟨(oQ kk l).1.toArray⟩,.string ⟨(rQ kk l).1.1.toArray⟩,.string ⟨(rQ kk l).1.2.toArray⟩,.string ⟨(cQ kk l).1.1.toArray⟩,.string ⟨(cQ kk l).1.2.toArray⟩,.int .i64 (dyW (hdW l.tail.tail)),.int .i64 (dyW (hdW l.tail.tail.tail)),.int .i64 (dyW (hdW l.tail.tail.tail.tail))]
def Afc(a0:Act)(k:Nat)(o:Option Nat):Act:=(((((((((a0.put (some 18) (atQ k 0 (.string ⟨(hdW l).toArray⟩))).put (some 19) (atQ k 1 (.string ⟨(hdW l.tail).toArray⟩))).put (some 20) (atQ k 2 (.int .i64 (dyW (hdW l.tail.tail))))).put (some 21) (atQ k 3 (.int .i64 (dyW (hdW l.tail.tail.tail))))).put (some 22) (atQ k 4 (.int .i64 (dyW (hdW l.tail.tail.tail.tail))))).put (some 25) (atQ k 5 (.string ⟨(oQ kk l).1.toArray⟩))).put (some 28) (atQ k 6 (.agg #[.string ⟨(rQ kk l).1.1.toArray⟩,.string ⟨(rQ kk l).1.2.toArray⟩]))).put (some 31) (atQ k 7 (.agg #[.string ⟨(cQ kk l).1.1.toArray⟩,.string ⟨(cQ kk l).1.2.toArray⟩]))).put (some 32) (atQ k 8 (agQ kk l))).put (some 7) (vO o)
def Lfc(k:Nat)(x:Bool):Array Bool:=#[true,decide (0<k),decide (1<k),decide (2<k),decide (3<k),decide (4<k),true,true,decide (5<k),true,true,decide (6<k),true,true,decide (7<k),decide (8<k),x,false]
def Jfc(B U:Nat)(a0:Act)(n:Nat)(g:Array Bool)(a:Act)(w:World):Prop:=∃ (k:Nat) (o:Option Nat),k≤9∧n+(k+nO o)=11∧g=Lfc k o.isSome∧a=Afc kk l a0 k o∧LW B (lfQ kk l k) w∧∀b,o=some b→Blk b [.string ⟨#[]⟩,.int .i64 0,.string ⟨#[]⟩,.string ⟨#[]⟩,.string ⟨#[]⟩,.string ⟨#[]⟩,.string ⟨#[]⟩,.string ⟨#[]⟩,.int .i64 0,.int .i64 0,.int .i64 0] w∧U≤b∧B<b
end
theorem put11{b:Nat}{w:World}{y0 y1 y2 y3 y4 y5 y6 y7 y8 y9 y10:Value}(h:Blk b [y0,y1,y2,y3,y4,y5,y6,y7,y8,y9,y10] w)(x0 x1 x2 x3 x4 x5 x6 x7 x8 x9 x10:Value):∃v,(((((((((((w.setCell ⟨b,0,none⟩ x0).setCell ⟨b,1,none⟩ x1).setCell ⟨b,2,none⟩ x2).setCell ⟨b,3,none⟩ x3).setCell ⟨b,4,none⟩ x4).setCell ⟨b,5,none⟩ x5).setCell ⟨b,6,none⟩ x6).setCell ⟨b,7,none⟩ x7).setCell ⟨b,8,none⟩ x8).setCell ⟨b,9,none⟩ x9).setCell ⟨b,10,none⟩ x10)=v∧WrB [b] w v∧Blk b [x0,x1,x2,x3,x4,x5,x6,x7,x8,x9,x10] v :=
 ⟨_,rfl,((((((((((WrB.of_set _ _ _ _ (List.mem_singleton.2 rfl)).trans (WrB.of_set _ _ _ _ (List.mem_singleton.2 rfl))).trans (WrB.of_set _ _ _ _ (List.mem_singleton.2 rfl))).trans (WrB.of_set _ _ _ _ (List.mem_singleton.2 rfl))).trans (WrB.of_set _ _ _ _ (List.mem_singleton.2 rfl))).trans (WrB.of_set _ _ _ _ (List.mem_singleton.2 rfl))).trans (WrB.of_set _ _ _ _ (List.mem_singleton.2 rfl))).trans (WrB.of_set _ _ _ _ (List.mem_singleton.2 rfl))).trans (WrB.of_set _ _ _ _ (List.mem_singleton.2 rfl))).trans (WrB.of_set _ _ _ _ (List.mem_singleton.2 rfl))).trans (WrB.of_set _ _ _ _ (List.mem_singleton.2 rfl)),(((((((((((h.set 0 (by simp) x0).set 1 (by simp) x1).set 2 (by simp) x2).set 3 (by simp) x3).set 4 (by simp) x4).set 5 (by simp) x5).set 6 (by simp) x6).set 7 (by simp) x7).set 8 (by simp) x8).set 9 (by simp) x9).set 10 (by simp) x10)⟩
theorem sh_rows{k:Nat}(hk:k<5){V:World}(hg:GoodA V):V.cell? ⟨0,k*4,none⟩=some (.string ⟨(wordK k).toArray⟩)∧V.cell? ⟨0,k*4+1,none⟩=some (.bool (oB k))∧V.cell? ⟨0,k*4+2,none⟩=some (.int .i64 (wantN (rB k) 1))∧V.cell? ⟨0,k*4+3,none⟩=some (.int .i64 (wantN (cB k) (Ac.leastC k))):=by
 rcases(show k=0∨k=1∨k=2∨k=3∨k=4 by omega) with rfl|rfl|rfl|rfl|rfl
 ·exact⟨hg.sh 0 _ rfl,hg.sh 1 _ rfl,hg.sh 2 _ rfl,hg.sh 3 _ rfl⟩
 ·exact⟨hg.sh 4 _ rfl,hg.sh 5 _ rfl,hg.sh 6 _ rfl,hg.sh 7 _ rfl⟩
 ·exact⟨hg.sh 8 _ rfl,hg.sh 9 _ rfl,hg.sh 10 _ rfl,hg.sh 11 _ rfl⟩
 ·exact⟨hg.sh 12 _ rfl,hg.sh 13 _ rfl,hg.sh 14 _ rfl,hg.sh 15 _ rfl⟩
 ·exact⟨hg.sh 16 _ rfl,hg.sh 17 _ rfl,hg.sh 18 _ rfl,hg.sh 19 _ rfl⟩
theorem want_no(b:Bool)(m:Int):(!decide (wantN b m=0))=b:=by
 unfold wantN
 cases b
 ·rfl
 ·by_cases h:m=0<;>simp[h]
theorem kind_cases(x:List UInt8):kindW x=-1∨∃k:Nat,k<5∧kindW x=(k:Int):=by
 unfold kindW;by_cases h0:x=wordK 0
 ·rw[if_pos h0];exact .inr ⟨0,by decide,rfl⟩
 rw[if_neg h0];by_cases h1:x=wordK 1
 ·rw[if_pos h1];exact .inr ⟨1,by decide,rfl⟩
 rw[if_neg h1];by_cases h2:x=wordK 2
 ·rw[if_pos h2];exact .inr ⟨2,by decide,rfl⟩
 rw[if_neg h2];by_cases h3:x=wordK 3
 ·rw[if_pos h3];exact .inr ⟨3,by decide,rfl⟩
 rw[if_neg h3];by_cases h4:x=wordK 4
 ·rw[if_pos h4];exact .inr ⟨4,by decide,rfl⟩
 rw[if_neg h4];exact .inl rfl
theorem words_size:∀ (k:Nat) (s:List UInt8),∀x∈words k s,x.length≤s.length
 | 0,s,x,h=>by rw[List.mem_singleton.1 h];exact Nat.le_refl _
 | k+1,s,x,h=>by
  unfold words at h
  cases e:Ac.cutB s with
  | none=>rw[e]at h;rw[List.mem_singleton.1 h];exact Nat.le_refl _
  | some p =>
   obtain⟨a,b⟩:=p;rw[e]at h;have hs:=(Ac.cutB_inv e).1;rcases List.mem_cons.1 h with rfl|h
   ·rw[hs,List.length_append];omega
   ·have:=words_size k b x h;rw[hs];simp only[List.length_append,List.length_cons];omega
theorem asplit_any(s:ByteArray)(hs:s.size≤1000000)(V:World)(hm:∃m,V.cell? ⟨2,0,none⟩=some (.int .i64 m)):Calls Tryz.prog 17 #[.string s,.string ⟨#[32]⟩,.int .i64 10] V (fun e w'=>∃ (p:Option Addr) (c:Nat),e=.returned (.slice p (words 9 s.data.toList).length c)∧(words 9 s.data.toList).length≤c∧Below V.heap.size V w'∧Txs w' p (words 9 s.data.toList)∧∀a,p=some a→a.block<w'.heap.size):=by
 obtain⟨m,hm⟩:=hm;have hw:(Lib.splitB ⟨#[32]⟩ 0 (min 10 (s.size+1)-1) s).map (·.data.toList)=words 9 s.data.toList:=by
  rw[Lib.splitB_data];exact(Ac.split_words _ _).trans (Ac.words_min s.data.toList)
 have hl:=Lib.splitB_length_le ⟨#[32]⟩ 0 (min 10 (s.size+1)-1) s;have hlen:(words 9 s.data.toList).length=(Lib.splitB ⟨#[32]⟩ 0 (min 10 (s.size+1)-1) s).length:=by rw[←hw,List.length_map]
 refine(Tryz.strings_SplitN s ⟨#[32]⟩ 10 m V (by omega) hm (by decide) (by decide) (by decide)).mono ?_;rintro e w' ⟨rfl,rfl⟩;refine⟨some ⟨V.heap.size,0,none⟩,min 10 (s.size+1),by rw[hlen],by rw[hlen];omega,Below.alloc (Below.refl _ _) (Nat.le_refl _) _,fun j x hx=>⟨V.heap.size,0,rfl,by simp,fun i v hv=>?_⟩,fun a e=>by cases e;simp⟩;rw[←hw,List.getElem?_map]at hx
 cases e:(Lib.splitB ⟨#[32]⟩ 0 (min 10 (s.size+1)-1) s)[j]? with
 | none=>rw[e]at hx;cases hx
 | some y =>
  rw[e]at hx;obtain rfl:=Option.some.inj hx
  match i,hv with
  | 0,hv =>
   obtain rfl:=Option.some.inj hv;refine(cell_new V _ _ _ rfl _).trans ?_;unfold Lib.cellsOf;have hj:=(List.getElem?_eq_some_iff.1 e).1;rw[List.getElem?_toArray,show 0+j*1+0=j by omega,List.getElem?_append_left (by rw[List.length_map];exact hj),List.getElem?_map,e];show some (Value.string y)=some (.string ⟨y.data.toList.toArray⟩);rw[Array.toArray_toList]
theorem aparse_any(s:ByteArray)(w:World)(hs:s.size≤1000000)(hg:GoodA w):Calls Tryz.prog 9 #[.string s] w (GiveA w (parseA s.data.toList)):=by
 have CS:=zh (fun V h=>asplit_any s hs V h);have HE:Hid (∀L,words 9 s.data.toList=L→parseA s.data.toList=ansA (parseQ L)):=zh (fun L e=>by rw[←Ac.parse_is,e]);have HSZ:Hid (∀x∈words 9 s.data.toList,x.length≤1000000):=zh (fun x hx=>Nat.le_trans (words_size 9 _ x hx) (by have:s.data.toList.length=s.size:=rfl;omega));generalize hL:words 9 s.data.toList=L at *;replace HE:=zh (HE.out L rfl);have HG:=zh hg;clear hg hs hL;go_enter Tryz.func9,Tryz.ntmps9;go_wp2_with fail;obtain⟨U0,hU,bU,hR0⟩:∃U0,w.alloc (.cells #[.string ⟨#[]⟩,.int .i64 0,.string ⟨#[]⟩,.string ⟨#[]⟩,.string ⟨#[]⟩,.string ⟨#[]⟩,.string ⟨#[]⟩,.string ⟨#[]⟩,.int .i64 0,.int .i64 0,.int .i64 0] 25)=U0∧Below w.heap.size w U0∧Blk w.heap.size [.string ⟨#[]⟩,.int .i64 0,.string ⟨#[]⟩,.string ⟨#[]⟩,.string ⟨#[]⟩,.string ⟨#[]⟩,.string ⟨#[]⟩,.string ⟨#[]⟩,.int .i64 0,.int .i64 0,.int .i64 0] U0:=⟨_,rfl,Below.alloc (Below.refl _ _) (Nat.le_refl _) _,blk_new w _ _⟩;rw[hU];clear hU;have HU:=zh bU;replace hR0:=zh hR0;clear bU;refine(CS.out _ (HG.out.below HU.out).dec.max).mono ?_;rintro e w1 ⟨p,c,rfl,hc,hb1,ht,hp⟩;have HR1:=zh (hR0.out.below hb1);have HW1:=zh (Below.more HU.out hb1);have HT:=zh ht;have HP:=zh hp;have HC:=zh hc
 clear hb1 ht hp hc hR0 CS;go_wp2_with fail;obtain⟨U1,hU,bU,hB⟩:∃U1,w1.alloc (.cells #[.slice p L.length c] 40)=U1∧Below w1.heap.size w1 U1∧Blk w1.heap.size [.slice p L.length c] U1:=⟨_,rfl,Below.alloc (Below.refl _ _) (Nat.le_refl _) _,blk_new w1 _ _⟩;rw[hU];clear hU;have HL1:Hid (LW w1.heap.size L U1):=zh ⟨p,c,hB,HC.out,HT.out.below bU,HP.out,HSZ.out⟩;have hR0:=zh (HR1.out.below bU);have HU1:=zh (Below.more HW1.out bU);have HRB:=zh HR1.out.lt;have HWB:=zh (Nat.le_of_lt HR1.out.lt)
 clear bU hB HR1 HW1 HT HP HC HSZ;generalize w1.heap.size=B at *;refine(akind_any B L U1 w HL1.out HG.out HU1.out HWB.out).mono ?_;rintro e w2 ⟨rfl,hr,hq⟩;replace hR0:=zh (hR0.out.wr (hr) (fun c=>Nat.ne_of_lt HRB.out (List.mem_singleton.1 c)));have HQ:=zh hq;have HB2:=zh (HU1.out.trans (hr.below (fun x hx=>by rw[List.mem_singleton.1 hx];exact HWB.out) HU1.out.size));clear hr hq HL1 HU1 HU;rcases kind_cases (hdW L) with hk|⟨k0,hk,hk2⟩
 ·have HE2:Hid (parseA s.data.toList=(noneA,150)):=zh (by rw[HE.out];unfold parseQ;rw[hk,if_pos (by decide)];rfl);rw[hk];have hR:=hR0.out;have y0:=hR.c 0 _ rfl;have y1:=hR.c 1 _ rfl;have y2:=hR.c 2 _ rfl;have y3:=hR.c 3 _ rfl;have y4:=hR.c 4 _ rfl;have y5:=hR.c 5 _ rfl;have y6:=hR.c 6 _ rfl;have y7:=hR.c 7 _ rfl;have y8:=hR.c 8 _ rfl;have y9:=hR.c 9 _ rfl;have y10:=hR.c 10 _ rfl
  have z0:=hR.f 0 (by decide);have z1:=hR.f 1 (by decide);have z2:=hR.f 2 (by decide);have z3:=hR.f 3 (by decide);have z4:=hR.f 4 (by decide);have z5:=hR.f 5 (by decide);have z6:=hR.f 6 (by decide);have z7:=hR.f 7 (by decide);have z8:=hR.f 8 (by decide);have z9:=hR.f 9 (by decide);have z10:=hR.f 10 (by decide)
  go_wp2_with fail;refine bodyPost_ret (v:=.tuple #[.agg #[.string ⟨#[]⟩,.int .i64 0,.string ⟨#[]⟩,.string ⟨#[]⟩,.string ⟨#[]⟩,.string ⟨#[]⟩,.string ⟨#[]⟩,.string ⟨#[]⟩,.int .i64 0,.int .i64 0,.int .i64 0],.int .i64 150]) (by simp[results,Tryz.results9,go_sem, *]) rfl ⟨by rw[HE2.out];rfl,?_⟩;exact Below.setCell (Below.setCell (Below.setCell (Below.setCell (Below.setCell (Below.setCell (Below.setCell (Below.setCell (Below.setCell (Below.setCell (Below.setCell (HB2.out) (Nat.le_refl _) _) (Nat.le_refl _) _) (Nat.le_refl _) _) (Nat.le_refl _) _) (Nat.le_refl _) _) (Nat.le_refl _) _) (Nat.le_refl _) _) (Nat.le_refl _) _) (Nat.le_refl _) _) (Nat.le_refl _) _) (Nat.le_refl _) _
 ·have HE2:Hid (parseA s.data.toList=if (cQ (k0:Int) L.tail).2=[]∧mayA (takenQ (k0:Int) L.tail).1=true then ((takenQ (k0:Int) L.tail).1,0) else (noneA,150)):=zh (by
   rw[HE.out];unfold parseQ;rw[hk2,if_neg (by omega)];show ansA (if (cQ (k0:Int) L.tail).2=[]∧mayA (takenQ (k0:Int) L.tail).1=true then some (takenQ (k0:Int) L.tail).1 else none)=_;split<;>rfl)
  rw[hk2];generalize L.tail=l at *;clear HE hk2;have HK:=zh hk;have hk1:¬(k0:Int)=-1:=by omega
  have hk3:(k0:Int)<5:=by omega
  have hk4:(0:Int)≤(k0:Int):=by omega
  have CNR:Hid (∀B L (V:World),LW B L V→Below w.heap.size w V→w.heap.size≤B→Calls Tryz.prog 22 #[.pointer (some ⟨B,0,none⟩),.int .i64 (wantN (rB (k0:Int)) 1)] V (GiveLw B V (.agg #[.string ⟨(otN (rB (k0:Int)) L).1.1.toArray⟩,.string ⟨(otN (rB (k0:Int)) L).1.2.toArray⟩]) (otN (rB (k0:Int)) L).2)):=zh (fun B L V h hb hB=>by have k:=anumber_any B L (wantN (rB (k0:Int)) 1) V w h HG.out hb hB;rw[want_no]at k;exact k);have CNC:Hid (∀B L (V:World),LW B L V→Below w.heap.size w V→w.heap.size≤B→Calls Tryz.prog 22 #[.pointer (some ⟨B,0,none⟩),.int .i64 (wantN (cB (k0:Int)) (Ac.leastC (k0:Int)))] V (GiveLw B V (.agg #[.string ⟨(otN (cB (k0:Int)) L).1.1.toArray⟩,.string ⟨(otN (cB (k0:Int)) L).1.2.toArray⟩]) (otN (cB (k0:Int)) L).2)):=zh (fun B L V h hb hB=>by have k:=anumber_any B L (wantN (cB (k0:Int)) (Ac.leastC (k0:Int))) V w h HG.out hb hB;rw[want_no]at k;exact k);obtain⟨g0,g1,g2,g3⟩:=sh_rows hk (HG.out.below HB2.out);generalize wantN (rB (k0:Int)) 1=m1 at *;generalize wantN (cB (k0:Int)) (Ac.leastC (k0:Int))=m2 at *;clear hk;go_wp2_with fail;obtain⟨U,hU,bU,hS6⟩:∃U,w2.alloc (.cells #[.string ⟨(wordK (k0:Int)).toArray⟩,.bool (oB (k0:Int)),.int .i64 m1,.int .i64 m2] 44)=U∧Below w2.heap.size w2 U∧Blk w2.heap.size [.string ⟨(wordK (k0:Int)).toArray⟩,.bool (oB (k0:Int)),.int .i64 m1,.int .i64 m2] U:=⟨_,rfl,Below.alloc (Below.refl _ _) (Nat.le_refl _) _,blk_new w2 _ _⟩;rw[hU];clear hU g0 g1 g2 g3 hk1 hk3 hk4;have hlt:=HQ.out.lt;have hw6:∀v,WrB [B] U v→Blk w2.heap.size [.string ⟨(wordK (k0:Int)).toArray⟩,.bool (oB (k0:Int)),.int .i64 m1,.int .i64 m2] v:=fun v hv=>hS6.wr hv (fun c=>Nat.ne_of_gt hlt (List.mem_singleton.1 c))
  have j1:=fun v hv=>(hw6 v hv).c 1 _ rfl;have j2:=fun v hv=>(hw6 v hv).c 2 _ rfl;have j3:=fun v hv=>(hw6 v hv).c 3 _ rfl
  have HL0:=zh (HQ.out.below bU);have HR6:=zh (hR0.out.below bU);have HBU:=zh (HB2.out.trans (bU.mono HB2.out.size))
  have HBW:Hid (∀v,WrB [B] U v→Below w.heap.size w v):=zh (fun v hv=>HBU.out.trans (hv.below (fun x hx=>by rw[List.mem_singleton.1 hx];exact HWB.out) HBU.out.size));have CM:Hid (∀V,GoodA V→Calls Tryz.prog 11 #[.agg #[.string ⟨(hdW l).toArray⟩,.int .i64 (k0:Int),.string ⟨(hdW l.tail).toArray⟩,.string ⟨(oQ (k0:Int) l).1.toArray⟩,.string ⟨(rQ (k0:Int) l).1.1.toArray⟩,.string ⟨(rQ (k0:Int) l).1.2.toArray⟩,.string ⟨(cQ (k0:Int) l).1.1.toArray⟩,.string ⟨(cQ (k0:Int) l).1.2.toArray⟩,.int .i64 (dyW (hdW l.tail.tail)),.int .i64 (dyW (hdW l.tail.tail.tail)),.int .i64 (dyW (hdW l.tail.tail.tail.tail))]] V (GiveB V (mayA (takenQ (k0:Int) l).1))):=zh (fun V g=>amay_any (takenQ (k0:Int) l).1 V g);clear hw6 hS6 hlt bU HQ hR0 HB2;generalize w2.heap.size=X at *;refine wp_region_noPanic ?_;refine wp_region_held_drew (S:=fun w'=>WrB [B] U w') (by kernel_rfl) (WrB.of_below (Below.drew (Below.refl _ _)) _) (fun hH0=>?_);refine sch_in [0,6,7,9,10,12,13] ?_
  iterate 7 (refine sch_yes (v:=?_) rfl (by kernel_rfl) (by rfl) ?_ (by assumption) ?_;rotate_left 1;(· (intro w hSw;(try dsimp only at hSw);go_simp<;>(with_reducible rfl)));try simp only[Act.put,qA,qB,qC,qD,qE,qF])
  refine sch_out ?_;have hkb:((k0:Int) == -1)=false:=by rw[beq_eq_false_iff_ne];omega
  simp only[hkb];clear hkb;refine wpAnyH_at (Jfc (k0:Int) l B U.heap.size) ⟨0,none,by decide,by decide,by kernel_rfl,by kernel_rfl,HL0.out.below (Below.drew (Below.refl _ _)),fun b e=>by cases e⟩ hH0 ?_;clear hH0 j1 j2 j3;intro n g a' w1 hJ hS;obtain⟨k,o1,hk,hn,rfl,rfl,hL,ht⟩:=hJ;have hS':WrB [B] U w1:=hS;by_cases hd:k=9∧nO o1=1
  ·refine .inl ?_;obtain⟨rfl,e1⟩:=hd
   cases o1 with
   | none=>cases e1
   | some b =>
   obtain rfl:n=1:=by simp only[nO]at hn;omega
   obtain⟨hb,hb1,hb2⟩:=ht b rfl;have y0:=hb.c 0 _ rfl;have y1:=hb.c 1 _ rfl;have y2:=hb.c 2 _ rfl;have y3:=hb.c 3 _ rfl;have y4:=hb.c 4 _ rfl;have y5:=hb.c 5 _ rfl;have y6:=hb.c 6 _ rfl;have y7:=hb.c 7 _ rfl;have y8:=hb.c 8 _ rfl;have y9:=hb.c 9 _ rfl;have y10:=hb.c 10 _ rfl
   have z0:=hb.f 0 (by decide);have z1:=hb.f 1 (by decide);have z2:=hb.f 2 (by decide);have z3:=hb.f 3 (by decide);have z4:=hb.f 4 (by decide);have z5:=hb.f 5 (by decide);have z6:=hb.f 6 (by decide);have z7:=hb.f 7 (by decide);have z8:=hb.f 8 (by decide);have z9:=hb.f 9 (by decide);have z10:=hb.f 10 (by decide)
   obtain⟨W7,hW7,hwr7,hb7⟩:=put11 hb (.string ⟨(hdW l).toArray⟩) (.int .i64 (k0:Int)) (.string ⟨(hdW l.tail).toArray⟩) (.string ⟨(oQ (k0:Int) l).1.toArray⟩) (.string ⟨(rQ (k0:Int) l).1.1.toArray⟩) (.string ⟨(rQ (k0:Int) l).1.2.toArray⟩) (.string ⟨(cQ (k0:Int) l).1.1.toArray⟩) (.string ⟨(cQ (k0:Int) l).1.2.toArray⟩) (.int .i64 (dyW (hdW l.tail.tail))) (.int .i64 (dyW (hdW l.tail.tail.tail))) (.int .i64 (dyW (hdW l.tail.tail.tail.tail)));have HW7:=zh hW7;have HS7:=zh (WrB.far hS' hwr7 hb1);have HL7:Hid (LW B (cQ (k0:Int) l).2 W7):=zh (LW.wr hL hwr7 hb2);have HB7:=zh hb7
   have v0:∀j q,j<9→atQ 9 j q=q:=fun j q h=>if_pos h;simp only[Afc,v0 0 _ (by decide),v0 1 _ (by decide),v0 2 _ (by decide),v0 3 _ (by decide),v0 4 _ (by decide),v0 5 _ (by decide),v0 6 _ (by decide),v0 7 _ (by decide),v0 8 _ (by decide),show vO (some b)=.pointer (some ⟨b,0,none⟩) from rfl,agQ,Act.put]
   try simp only[Act.put,qA,qB,qC,qD,qE,qF]
   clear v0 hL ht hb hb1 hb2 hn hk e1 hS' hW7 hwr7 hb7;refine wpAnyH_ready (rs:=[17]) (by kernel_rfl) (by simp) ?_;refine AllReadyH.cons rfl (fun K hK=>?_) AllReadyH.nil
   go_simp
   rw[HW7.out];refine hK.out _ _ HS7.out (fun hS2=>?_);clear hK hS hS2 HW7 y0 z0 y1 z1 y2 z2 y3 z3 y4 z4 y5 z5 y6 z6 y7 z7 y8 z8 y9 z9 y10 z10
   try simp only[Act.put,qA,qB,qC,qD,qE,qF]
   refine wpAnyH_done (by kernel_rfl) ?_ _;refine NoPanic.normal ?_;have HR7:Hid (Blk w.heap.size [.string ⟨#[]⟩,.int .i64 0,.string ⟨#[]⟩,.string ⟨#[]⟩,.string ⟨#[]⟩,.string ⟨#[]⟩,.string ⟨#[]⟩,.string ⟨#[]⟩,.int .i64 0,.int .i64 0,.int .i64 0] W7):=zh (HR6.out.wr HS7.out (fun c=>Nat.ne_of_lt HRB.out (List.mem_singleton.1 c)));obtain⟨p7,c7,l7⟩:=HL7.out.cell;have hnil:(cQ (k0:Int) l).2.length=0∧(cQ (k0:Int) l).2=[]∨0<(cQ (k0:Int) l).2.length∧(cQ (k0:Int) l).2≠[]:=by
    cases (cQ (k0:Int) l).2 with
    | nil=>exact .inl ⟨rfl,rfl⟩
    | cons x r=>exact .inr ⟨Nat.zero_lt_succ _,fun c=>by cases c⟩
   generalize (cQ (k0:Int) l).2.length=n7 at *;rcases hnil with ⟨rfl,hq⟩|⟨hn7,hq⟩
   ·have HQ7:=zh hq;clear hq;have q0:=HB7.out.c 0 _ rfl;have q1:=HB7.out.c 1 _ rfl;have q2:=HB7.out.c 2 _ rfl;have q3:=HB7.out.c 3 _ rfl;have q4:=HB7.out.c 4 _ rfl;have q5:=HB7.out.c 5 _ rfl;have q6:=HB7.out.c 6 _ rfl;have q7:=HB7.out.c 7 _ rfl;have q8:=HB7.out.c 8 _ rfl;have q9:=HB7.out.c 9 _ rfl;have q10:=HB7.out.c 10 _ rfl
    go_wp2_with fail;refine(CM.out _ (HG.out.below (HBW.out _ HS7.out))).mono ?_;rintro e w8 ⟨rfl,b8⟩;have HB8:=zh (Below.more (HBW.out _ HS7.out) b8);have hR:=HR7.out.below b8;clear l7 q0 q1 q2 q3 q4 q5 q6 q7 q8 q9 q10;have y0:=hR.c 0 _ rfl;have y1:=hR.c 1 _ rfl;have y2:=hR.c 2 _ rfl;have y3:=hR.c 3 _ rfl;have y4:=hR.c 4 _ rfl;have y5:=hR.c 5 _ rfl;have y6:=hR.c 6 _ rfl;have y7:=hR.c 7 _ rfl;have y8:=hR.c 8 _ rfl;have y9:=hR.c 9 _ rfl;have y10:=hR.c 10 _ rfl;have z0:=hR.f 0 (by decide);have z1:=hR.f 1 (by decide);have z2:=hR.f 2 (by decide);have z3:=hR.f 3 (by decide);have z4:=hR.f 4 (by decide);have z5:=hR.f 5 (by decide);have z6:=hR.f 6 (by decide);have z7:=hR.f 7 (by decide);have z8:=hR.f 8 (by decide);have z9:=hR.f 9 (by decide);have z10:=hR.f 10 (by decide)
    cases hm:mayA (takenQ (k0:Int) l).1 with
    | false =>
     clear hR b8;go_wp2_with fail;refine bodyPost_ret (v:=.tuple #[.agg #[.string ⟨#[]⟩,.int .i64 0,.string ⟨#[]⟩,.string ⟨#[]⟩,.string ⟨#[]⟩,.string ⟨#[]⟩,.string ⟨#[]⟩,.string ⟨#[]⟩,.int .i64 0,.int .i64 0,.int .i64 0],.int .i64 150]) (by simp[results,Tryz.results9,go_sem, *]) rfl ⟨by rw[HE2.out,if_neg (fun c=>by rw[hm]at c;cases c.2)];rfl,?_⟩;exact Below.setCell (Below.setCell (Below.setCell (Below.setCell (Below.setCell (Below.setCell (Below.setCell (Below.setCell (Below.setCell (Below.setCell (Below.setCell (HB8.out) (Nat.le_refl _) _) (Nat.le_refl _) _) (Nat.le_refl _) _) (Nat.le_refl _) _) (Nat.le_refl _) _) (Nat.le_refl _) _) (Nat.le_refl _) _) (Nat.le_refl _) _) (Nat.le_refl _) _) (Nat.le_refl _) _) (Nat.le_refl _) _
    | true =>
     have hb8:=HB7.out.below b8;have q0:=hb8.c 0 _ rfl;have q1:=hb8.c 1 _ rfl;have q2:=hb8.c 2 _ rfl;have q3:=hb8.c 3 _ rfl;have q4:=hb8.c 4 _ rfl;have q5:=hb8.c 5 _ rfl;have q6:=hb8.c 6 _ rfl;have q7:=hb8.c 7 _ rfl;have q8:=hb8.c 8 _ rfl;have q9:=hb8.c 9 _ rfl;have q10:=hb8.c 10 _ rfl
     clear hR b8 hb8;go_wp2_with fail;refine bodyPost_ret (v:=.tuple #[.agg #[.string ⟨(hdW l).toArray⟩,.int .i64 (k0:Int),.string ⟨(hdW l.tail).toArray⟩,.string ⟨(oQ (k0:Int) l).1.toArray⟩,.string ⟨(rQ (k0:Int) l).1.1.toArray⟩,.string ⟨(rQ (k0:Int) l).1.2.toArray⟩,.string ⟨(cQ (k0:Int) l).1.1.toArray⟩,.string ⟨(cQ (k0:Int) l).1.2.toArray⟩,.int .i64 (dyW (hdW l.tail.tail)),.int .i64 (dyW (hdW l.tail.tail.tail)),.int .i64 (dyW (hdW l.tail.tail.tail.tail))],.int .i64 0]) (by simp[results,Tryz.results9,go_sem, *]) rfl ⟨by rw[HE2.out,if_pos ⟨HQ7.out,hm⟩];rfl,?_⟩;exact Below.setCell (Below.setCell (Below.setCell (Below.setCell (Below.setCell (Below.setCell (Below.setCell (Below.setCell (Below.setCell (Below.setCell (Below.setCell (HB8.out) (Nat.le_refl _) _) (Nat.le_refl _) _) (Nat.le_refl _) _) (Nat.le_refl _) _) (Nat.le_refl _) _) (Nat.le_refl _) _) (Nat.le_refl _) _) (Nat.le_refl _) _) (Nat.le_refl _) _) (Nat.le_refl _) _) (Nat.le_refl _) _
   ·have HQ7:=zh hq;have hn8:(0:Int)<(n7:Int):=by omega
    have hR:=HR7.out;have y0:=hR.c 0 _ rfl;have y1:=hR.c 1 _ rfl;have y2:=hR.c 2 _ rfl;have y3:=hR.c 3 _ rfl;have y4:=hR.c 4 _ rfl;have y5:=hR.c 5 _ rfl;have y6:=hR.c 6 _ rfl;have y7:=hR.c 7 _ rfl;have y8:=hR.c 8 _ rfl;have y9:=hR.c 9 _ rfl;have y10:=hR.c 10 _ rfl;have z0:=hR.f 0 (by decide);have z1:=hR.f 1 (by decide);have z2:=hR.f 2 (by decide);have z3:=hR.f 3 (by decide);have z4:=hR.f 4 (by decide);have z5:=hR.f 5 (by decide);have z6:=hR.f 6 (by decide);have z7:=hR.f 7 (by decide);have z8:=hR.f 8 (by decide);have z9:=hR.f 9 (by decide);have z10:=hR.f 10 (by decide)
    have HB8:=zh (HBW.out _ HS7.out);clear hR hq hn7;go_wp2_with fail;refine bodyPost_ret (v:=.tuple #[.agg #[.string ⟨#[]⟩,.int .i64 0,.string ⟨#[]⟩,.string ⟨#[]⟩,.string ⟨#[]⟩,.string ⟨#[]⟩,.string ⟨#[]⟩,.string ⟨#[]⟩,.int .i64 0,.int .i64 0,.int .i64 0],.int .i64 150]) (by simp[results,Tryz.results9,go_sem, *]) rfl ⟨by rw[HE2.out,if_neg (fun c=>HQ7.out c.1)];rfl,?_⟩;exact Below.setCell (Below.setCell (Below.setCell (Below.setCell (Below.setCell (Below.setCell (Below.setCell (Below.setCell (Below.setCell (Below.setCell (Below.setCell (HB8.out) (Nat.le_refl _) _) (Nat.le_refl _) _) (Nat.le_refl _) _) (Nat.le_refl _) _) (Nat.le_refl _) _) (Nat.le_refl _) _) (Nat.le_refl _) _) (Nat.le_refl _) _) (Nat.le_refl _) _) (Nat.le_refl _) _) (Nat.le_refl _) _
  ·refine .inr ?_;obtain⟨m,rfl⟩:∃m,n=m+1:=⟨n-1,by cases o1<;>simp only[nO]at hn<;>omega⟩;refine⟨m,rfl,phase_step (fun i=>(i==1&&k==0)||(i==2&&k==1)||(i==3&&k==2)||(i==4&&k==3)||(i==5&&k==4)||(i==8&&k==5)||(i==11&&k==6)||(i==14&&k==7)||(i==15&&k==8)||(i==16&&o1.isNone)) ?_ ?_⟩
   ·rcases(show k=0∨k=1∨k=2∨k=3∨k=4∨k=5∨k=6∨k=7∨k=8∨k=9 by omega) with rfl|rfl|rfl|rfl|rfl|rfl|rfl|rfl|rfl|rfl<;>cases o1<;>first|exact absurd ⟨rfl,rfl⟩ hd|kernel_rfl
   ·intro i hi;have hi:((((((((((i=1∧k=0)∨(i=2∧k=1))∨(i=3∧k=2))∨(i=4∧k=3))∨(i=5∧k=4))∨(i=8∧k=5))∨(i=11∧k=6))∨(i=14∧k=7))∨(i=15∧k=8))∨(i=16∧o1=none)):=by simpa using hi
    clear hd;rcases hi with (((((((((⟨rfl,rfl⟩|⟨rfl,rfl⟩)|⟨rfl,rfl⟩)|⟨rfl,rfl⟩)|⟨rfl,rfl⟩)|⟨rfl,rfl⟩)|⟨rfl,rfl⟩)|⟨rfl,rfl⟩)|⟨rfl,rfl⟩)|⟨rfl,rfl⟩)
    ·refine wpOp_step rfl (fun K hK0=>?_);have hK:=zh hK0;clear hK0
     try simp only[Afc,atQ,Nat.reduceLT,↓reduceIte,Act.put,qA,qB,qC,qD,qE,qF]
     go_simp
     refine(anext_any B _ w1 hL).mono ?_;rintro e w2 ⟨rfl,hw,hq⟩
     (try go_wp2_with fail)
     exact hK.out _ _ ⟨hS'.trans hw,1,o1,by omega,by omega,by kernel_rfl,(by simp only[Afc,agQ,atQ,lfQ,oQ,rQ,cQ,Nat.reduceLT,↓reduceIte,Act.put,qA,qB,qC,qD,qE,qF]),hq,fun b e=>⟨(ht b e).1.wr hw (fun c=>Nat.ne_of_gt (ht b e).2.2 (List.mem_singleton.1 c)),(ht b e).2⟩⟩
    ·refine wpOp_step rfl (fun K hK0=>?_);have hK:=zh hK0;clear hK0
     try simp only[Afc,atQ,Nat.reduceLT,↓reduceIte,Act.put,qA,qB,qC,qD,qE,qF]
     go_simp
     refine(anext_any B _ w1 hL).mono ?_;rintro e w2 ⟨rfl,hw,hq⟩
     (try go_wp2_with fail)
     exact hK.out _ _ ⟨hS'.trans hw,2,o1,by omega,by omega,by kernel_rfl,(by simp only[Afc,agQ,atQ,lfQ,oQ,rQ,cQ,Nat.reduceLT,↓reduceIte,Act.put,qA,qB,qC,qD,qE,qF]),hq,fun b e=>⟨(ht b e).1.wr hw (fun c=>Nat.ne_of_gt (ht b e).2.2 (List.mem_singleton.1 c)),(ht b e).2⟩⟩
    ·refine wpOp_step rfl (fun K hK0=>?_);have hK:=zh hK0;clear hK0
     try simp only[Afc,atQ,Nat.reduceLT,↓reduceIte,Act.put,qA,qB,qC,qD,qE,qF]
     go_simp
     refine(aday_any B _ w1 w hL HG.out (HBW.out w1 hS') HWB.out).mono ?_;rintro e w2 ⟨rfl,hw,hq⟩
     (try go_wp2_with fail)
     exact hK.out _ _ ⟨hS'.trans hw,3,o1,by omega,by omega,by kernel_rfl,(by simp only[Afc,agQ,atQ,lfQ,oQ,rQ,cQ,Nat.reduceLT,↓reduceIte,Act.put,qA,qB,qC,qD,qE,qF]),hq,fun b e=>⟨(ht b e).1.wr hw (fun c=>Nat.ne_of_gt (ht b e).2.2 (List.mem_singleton.1 c)),(ht b e).2⟩⟩
    ·refine wpOp_step rfl (fun K hK0=>?_);have hK:=zh hK0;clear hK0
     try simp only[Afc,atQ,Nat.reduceLT,↓reduceIte,Act.put,qA,qB,qC,qD,qE,qF]
     go_simp
     refine(aday_any B _ w1 w hL HG.out (HBW.out w1 hS') HWB.out).mono ?_;rintro e w2 ⟨rfl,hw,hq⟩
     (try go_wp2_with fail)
     exact hK.out _ _ ⟨hS'.trans hw,4,o1,by omega,by omega,by kernel_rfl,(by simp only[Afc,agQ,atQ,lfQ,oQ,rQ,cQ,Nat.reduceLT,↓reduceIte,Act.put,qA,qB,qC,qD,qE,qF]),hq,fun b e=>⟨(ht b e).1.wr hw (fun c=>Nat.ne_of_gt (ht b e).2.2 (List.mem_singleton.1 c)),(ht b e).2⟩⟩
    ·refine wpOp_step rfl (fun K hK0=>?_);have hK:=zh hK0;clear hK0
     try simp only[Afc,atQ,Nat.reduceLT,↓reduceIte,Act.put,qA,qB,qC,qD,qE,qF]
     go_simp
     refine(aday_any B _ w1 w hL HG.out (HBW.out w1 hS') HWB.out).mono ?_;rintro e w2 ⟨rfl,hw,hq⟩
     (try go_wp2_with fail)
     exact hK.out _ _ ⟨hS'.trans hw,5,o1,by omega,by omega,by kernel_rfl,(by simp only[Afc,agQ,atQ,lfQ,oQ,rQ,cQ,Nat.reduceLT,↓reduceIte,Act.put,qA,qB,qC,qD,qE,qF]),hq,fun b e=>⟨(ht b e).1.wr hw (fun c=>Nat.ne_of_gt (ht b e).2.2 (List.mem_singleton.1 c)),(ht b e).2⟩⟩
    ·refine wpOp_step rfl (fun K hK0=>?_);have hK:=zh hK0;clear hK0
     try simp only[Afc,atQ,Nat.reduceLT,↓reduceIte,Act.put,qA,qB,qC,qD,qE,qF]
     go_simp
     refine(atake_any B _ (oB (k0:Int)) w1 hL).mono ?_;rintro e w2 ⟨rfl,hw,hq⟩
     (try go_wp2_with fail)
     exact hK.out _ _ ⟨hS'.trans hw,6,o1,by omega,by omega,by kernel_rfl,(by simp only[Afc,agQ,atQ,lfQ,oQ,rQ,cQ,Nat.reduceLT,↓reduceIte,Act.put,qA,qB,qC,qD,qE,qF]),hq,fun b e=>⟨(ht b e).1.wr hw (fun c=>Nat.ne_of_gt (ht b e).2.2 (List.mem_singleton.1 c)),(ht b e).2⟩⟩
    ·refine wpOp_step rfl (fun K hK0=>?_);have hK:=zh hK0;clear hK0
     try simp only[Afc,atQ,Nat.reduceLT,↓reduceIte,Act.put,qA,qB,qC,qD,qE,qF]
     go_simp
     refine(CNR.out B _ w1 hL (HBW.out w1 hS') HWB.out).mono ?_;rintro e w2 ⟨rfl,hw,hq⟩
     (try go_wp2_with fail)
     exact hK.out _ _ ⟨hS'.trans hw,7,o1,by omega,by omega,by kernel_rfl,(by simp only[Afc,agQ,atQ,lfQ,oQ,rQ,cQ,Nat.reduceLT,↓reduceIte,Act.put,qA,qB,qC,qD,qE,qF]),hq,fun b e=>⟨(ht b e).1.wr hw (fun c=>Nat.ne_of_gt (ht b e).2.2 (List.mem_singleton.1 c)),(ht b e).2⟩⟩
    ·refine wpOp_step rfl (fun K hK0=>?_);have hK:=zh hK0;clear hK0
     try simp only[Afc,atQ,Nat.reduceLT,↓reduceIte,Act.put,qA,qB,qC,qD,qE,qF]
     go_simp
     refine(CNC.out B _ w1 hL (HBW.out w1 hS') HWB.out).mono ?_;rintro e w2 ⟨rfl,hw,hq⟩
     (try go_wp2_with fail)
     exact hK.out _ _ ⟨hS'.trans hw,8,o1,by omega,by omega,by kernel_rfl,(by simp only[Afc,agQ,atQ,lfQ,oQ,rQ,cQ,Nat.reduceLT,↓reduceIte,Act.put,qA,qB,qC,qD,qE,qF]),hq,fun b e=>⟨(ht b e).1.wr hw (fun c=>Nat.ne_of_gt (ht b e).2.2 (List.mem_singleton.1 c)),(ht b e).2⟩⟩
    ·refine wpOp_step rfl (fun K hK0=>?_);have hK:=zh hK0;clear hK0
     try simp only[Afc,atQ,Nat.reduceLT,↓reduceIte,Act.put,qA,qB,qC,qD,qE,qF]
     go_simp
     exact hK.out _ _ ⟨hS',9,o1,by omega,by omega,by kernel_rfl,(by simp only[Afc,agQ,atQ,lfQ,oQ,rQ,cQ,Nat.reduceLT,↓reduceIte,Act.put,qA,qB,qC,qD,qE,qF]),hL,ht⟩
    ·refine wpOp_step rfl (fun K hK0=>?_);have hK:=zh hK0;clear hK0
     try simp only[Afc,atQ,Nat.reduceLT,↓reduceIte,Act.put,qA,qB,qC,qD,qE,qF]
     go_simp
     exact hK.out _ _ ⟨hS'.trans (WrB.of_below (Below.alloc (Below.refl _ _) (Nat.le_refl _) _) _),k,some w1.heap.size,hk,by simp only[nO]at hn ⊢;omega,rfl,(by simp only[Afc,agQ,vO,atQ,lfQ,oQ,rQ,cQ,Nat.reduceLT,↓reduceIte,Act.put,qA,qB,qC,qD,qE,qF]),hL.below (Below.alloc (Below.refl _ _) (Nat.le_refl _) _),fun b e=>by cases e;exact⟨blk_new w1 _ _,hS'.size,hL.lt⟩⟩
end Go.Proofs.YtcebkcilkhebeaaGreatDoor
