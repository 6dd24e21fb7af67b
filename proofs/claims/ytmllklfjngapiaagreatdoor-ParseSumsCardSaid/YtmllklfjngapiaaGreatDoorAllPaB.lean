/- Own work. -/
import Derived.Maps.OwnSet
import Derived.Maps.Own
import Derived.Test.YtmllklfjngapiaaGreatDoorAllPaAM
set_option linter.unusedSimpArgs false
set_option linter.unusedVariables false
set_option maxHeartbeats 4000000
set_option maxRecDepth 100000
namespace Go.Proofs.YtmllklfjngapiaaGreatDoor
open Go.RowKit Go.Maps Go.WideMaps
open Wd (Tk okT ktT)
open Pz (Ms opName idx4)
theorem blk_set2{T:Nat}{a b x y:Value}{w:World}(h:Blk T [a,b] w):Blk T [x,y] ((w.setCell ⟨T,0,none⟩ x).setCell ⟨T,1,none⟩ y):=(h.set 0 (by simp) x).set 1 (by simp) y
theorem mnumber_any(t:Tk)(b T:Nat)(x y:Value)(w:World)(hg:GoodD w)(hl:t.text.length≤100000)(hc:w.cell? ⟨b,0,none⟩=some (.pointer (some ⟨T,0,none⟩)))(hT:Blk T [x,y] w) :
  Calls Tryz.prog 73 #[.agg #[.int .i64 (t.kind:Int),.string ⟨t.text.toArray⟩,.int .i64 (t.line:Int),.int .i64 (t.col:Int)],.pointer (some ⟨b,0,none⟩)] w (fun r w'=>r=.returned (.bool (decide ((parS t.text).2=0∧(parS t.text).1.1.length≤60∧(parS t.text).1.2.length≤60)))∧Blk T [.string ⟨(parS t.text).1.1.toArray⟩,.string ⟨(parS t.text).1.2.toArray⟩] w'∧WrB [T] w w'):=by
 have hb:b<w.heap.size:=World.block_lt_of_cell? w ⟨b,0,none⟩ hc;obtain⟨U,hU,bU,sU,kU⟩:=tbox t w;have cp:=parse_any ⟨t.text.toArray⟩ U (by show t.text.toArray.size≤_;rw[List.size_toArray];omega) (hg.below bU);rw[show (⟨t.text.toArray⟩:ByteArray).data.toList=t.text from rfl]at cp;generalize parS t.text=S at *;obtain⟨⟨n,d⟩,e⟩:=S;have CP:=zh cp;have c1:=kU.c 1 _ rfl;have HC:Hid (U.cell? ⟨b,0,none⟩=some (.pointer (some ⟨T,0,none⟩))):=zh ((bU.cell (p:=⟨b,0,none⟩) hb).trans hc);have hbU:Hid (b<U.heap.size):=zh (by omega);have HK:=zh (hT.below bU);have HB:=zh bU;clear bU sU kU hc hb hT cp hg;have fin:∀w2:World,Below U.heap.size U w2→∃V,w2.alloc (.cells #[.string ⟨n.toArray⟩,.string ⟨d.toArray⟩] 37)=V∧V.cell? ⟨w2.heap.size,0,none⟩=some (.string ⟨n.toArray⟩)∧V.cell? ⟨w2.heap.size,1,none⟩=some (.string ⟨d.toArray⟩)∧V.cell? ⟨b,0,none⟩=some (.pointer (some ⟨T,0,none⟩))∧Blk T [x,y] V∧Below w.heap.size w V∧T≠w2.heap.size:=fun w2 b2=>by
  have bV:Below w2.heap.size w2 (w2.alloc (.cells #[.string ⟨n.toArray⟩,.string ⟨d.toArray⟩] 37)):=Below.alloc (Below.refl _ _) (Nat.le_refl _) _;have kV:=blk_new w2 #[.string ⟨n.toArray⟩,.string ⟨d.toArray⟩] 37;have kT:=HK.out.below b2;exact⟨_,rfl,kV.c 0 _ rfl,kV.c 1 _ rfl,((b2.trans (bV.mono b2.size)).cell (p:=⟨b,0,none⟩) hbU.out).trans HC.out,kT.below bV,Below.more (Below.more HB.out b2) bV,fun c=>by have:=kT.lt;omega⟩
 dsimp only;by_cases he:e=0
 ·subst he;by_cases h1:(n.length:Int)≤60
  ·by_cases h2:(d.length:Int)≤60
   ·go_enter Tryz.func73,Tryz.ntmps73;go_wp2_with fail;refine CP.out.mono ?_;rintro r w2 ⟨rfl,b2⟩;obtain⟨V,hV,v0,v1,v2,kV,bV,hne⟩:=fin w2 b2;have v3:=kV.c 0 _ rfl;have v4:=kV.c 1 _ rfl;have g3:=kV.f 0 (by simp);have g4:=kV.f 1 (by simp);have v5:((V.setCell ⟨T,0,none⟩ (.string ⟨n.toArray⟩)).setCell ⟨T,1,none⟩ (.string ⟨d.toArray⟩)).cell? ⟨w2.heap.size,0,none⟩=some (.string ⟨n.toArray⟩):=set_ne_cell (set_ne_cell v0 hne.symm) hne.symm;have v6:((V.setCell ⟨T,0,none⟩ (.string ⟨n.toArray⟩)).setCell ⟨T,1,none⟩ (.string ⟨d.toArray⟩)).cell? ⟨w2.heap.size,1,none⟩=some (.string ⟨d.toArray⟩):=set_ne_cell (set_ne_cell v1 hne.symm) hne.symm;have k1:=kV.set 0 (by simp) (.string ⟨n.toArray⟩);have v7:=k1.c 1 _ rfl;have g7:=k1.f 1 (by simp);have HT:=zh (blk_set2 (x:=.string ⟨n.toArray⟩) (y:=.string ⟨d.toArray⟩) kV);have HWr:Hid (WrB [T] w ((V.setCell ⟨T,0,none⟩ (.string ⟨n.toArray⟩)).setCell ⟨T,1,none⟩ (.string ⟨d.toArray⟩))):=zh (((WrB.of_below bV _).trans (WrB.of_set V T 0 _ List.mem_cons_self)).trans (WrB.of_set _ T 1 _ List.mem_cons_self));clear b2 kV bV hne CP fin k1;go_wp2_with fail;go_ret;exact⟨ret_b (by exact(decide_eq_true (show True∧n.length≤60∧d.length≤60 from ⟨trivial,by omega,by omega⟩)).symm),HT.out,HWr.out⟩
   ·go_enter Tryz.func73,Tryz.ntmps73;go_wp2_with fail;refine CP.out.mono ?_;rintro r w2 ⟨rfl,b2⟩;obtain⟨V,hV,v0,v1,v2,kV,bV,hne⟩:=fin w2 b2;have v3:=kV.c 0 _ rfl;have v4:=kV.c 1 _ rfl;have g3:=kV.f 0 (by simp);have g4:=kV.f 1 (by simp);have v5:((V.setCell ⟨T,0,none⟩ (.string ⟨n.toArray⟩)).setCell ⟨T,1,none⟩ (.string ⟨d.toArray⟩)).cell? ⟨w2.heap.size,0,none⟩=some (.string ⟨n.toArray⟩):=set_ne_cell (set_ne_cell v0 hne.symm) hne.symm;have v6:((V.setCell ⟨T,0,none⟩ (.string ⟨n.toArray⟩)).setCell ⟨T,1,none⟩ (.string ⟨d.toArray⟩)).cell? ⟨w2.heap.size,1,none⟩=some (.string ⟨d.toArray⟩):=set_ne_cell (set_ne_cell v1 hne.symm) hne.symm;have k1:=kV.set 0 (by simp) (.string ⟨n.toArray⟩);have v7:=k1.c 1 _ rfl;have g7:=k1.f 1 (by simp);have HT:=zh (blk_set2 (x:=.string ⟨n.toArray⟩) (y:=.string ⟨d.toArray⟩) kV);have HWr:Hid (WrB [T] w ((V.setCell ⟨T,0,none⟩ (.string ⟨n.toArray⟩)).setCell ⟨T,1,none⟩ (.string ⟨d.toArray⟩))):=zh (((WrB.of_below bV _).trans (WrB.of_set V T 0 _ List.mem_cons_self)).trans (WrB.of_set _ T 1 _ List.mem_cons_self));clear b2 kV bV hne CP fin k1;go_wp2_with fail;go_ret;exact⟨ret_b (by rw[decide_eq_false (show ¬(d.length:Int)≤60 by omega)];exact(decide_eq_false (fun c:True∧n.length≤60∧d.length≤60=>by have:=c.2.2;omega)).symm),HT.out,HWr.out⟩
  ·go_enter Tryz.func73,Tryz.ntmps73;go_wp2_with fail;refine CP.out.mono ?_;rintro r w2 ⟨rfl,b2⟩;obtain⟨V,hV,v0,v1,v2,kV,bV,hne⟩:=fin w2 b2;have v3:=kV.c 0 _ rfl;have v4:=kV.c 1 _ rfl;have g3:=kV.f 0 (by simp);have g4:=kV.f 1 (by simp);have v5:((V.setCell ⟨T,0,none⟩ (.string ⟨n.toArray⟩)).setCell ⟨T,1,none⟩ (.string ⟨d.toArray⟩)).cell? ⟨w2.heap.size,0,none⟩=some (.string ⟨n.toArray⟩):=set_ne_cell (set_ne_cell v0 hne.symm) hne.symm;have v6:((V.setCell ⟨T,0,none⟩ (.string ⟨n.toArray⟩)).setCell ⟨T,1,none⟩ (.string ⟨d.toArray⟩)).cell? ⟨w2.heap.size,1,none⟩=some (.string ⟨d.toArray⟩):=set_ne_cell (set_ne_cell v1 hne.symm) hne.symm;have k1:=kV.set 0 (by simp) (.string ⟨n.toArray⟩);have v7:=k1.c 1 _ rfl;have g7:=k1.f 1 (by simp);have HT:=zh (blk_set2 (x:=.string ⟨n.toArray⟩) (y:=.string ⟨d.toArray⟩) kV);have HWr:Hid (WrB [T] w ((V.setCell ⟨T,0,none⟩ (.string ⟨n.toArray⟩)).setCell ⟨T,1,none⟩ (.string ⟨d.toArray⟩))):=zh (((WrB.of_below bV _).trans (WrB.of_set V T 0 _ List.mem_cons_self)).trans (WrB.of_set _ T 1 _ List.mem_cons_self));clear b2 kV bV hne CP fin k1;go_wp2_with fail;go_ret;exact⟨ret_b (by rw[decide_eq_false (show ¬n.length≤60 by omega)];rfl),HT.out,HWr.out⟩
 ·have he2:(e==0)=false:=beq_false_of_ne he;go_enter Tryz.func73,Tryz.ntmps73;go_wp2_with fail;refine CP.out.mono ?_;rintro r w2 ⟨rfl,b2⟩;obtain⟨V,hV,v0,v1,v2,kV,bV,hne⟩:=fin w2 b2;have v3:=kV.c 0 _ rfl;have v4:=kV.c 1 _ rfl;have g3:=kV.f 0 (by simp);have g4:=kV.f 1 (by simp);have v5:((V.setCell ⟨T,0,none⟩ (.string ⟨n.toArray⟩)).setCell ⟨T,1,none⟩ (.string ⟨d.toArray⟩)).cell? ⟨w2.heap.size,0,none⟩=some (.string ⟨n.toArray⟩):=set_ne_cell (set_ne_cell v0 hne.symm) hne.symm;have v6:((V.setCell ⟨T,0,none⟩ (.string ⟨n.toArray⟩)).setCell ⟨T,1,none⟩ (.string ⟨d.toArray⟩)).cell? ⟨w2.heap.size,1,none⟩=some (.string ⟨d.toArray⟩):=set_ne_cell (set_ne_cell v1 hne.symm) hne.symm;have k1:=kV.set 0 (by simp) (.string ⟨n.toArray⟩);have v7:=k1.c 1 _ rfl;have g7:=k1.f 1 (by simp);have HT:=zh (blk_set2 (x:=.string ⟨n.toArray⟩) (y:=.string ⟨d.toArray⟩) kV);have HWr:Hid (WrB [T] w ((V.setCell ⟨T,0,none⟩ (.string ⟨n.toArray⟩)).setCell ⟨T,1,none⟩ (.string ⟨d.toArray⟩))):=zh (((WrB.of_below bV _).trans (WrB.of_set V T 0 _ List.mem_cons_self)).trans (WrB.of_set _ T 1 _ List.mem_cons_self));clear b2 kV bV hne CP fin k1;go_wp2_with fail;go_ret;exact⟨ret_b (by rw[decide_eq_false (fun c:e=0∧n.length≤60∧d.length≤60=>he c.1)]),HT.out,HWr.out⟩
theorem minfix_any(t:Tk)(b T:Nat)(q:Int)(w:World)(hg:GoodD w)(hl:t.text.length≤100000)(hq:idx4 t.text≤100)(hc:w.cell? ⟨b,0,none⟩=some (.pointer (some ⟨T,0,none⟩)))(hT:Blk T [.int .i64 q] w) :
  Calls Tryz.prog 81 #[.agg #[.int .i64 (t.kind:Int),.string ⟨t.text.toArray⟩,.int .i64 (t.line:Int),.int .i64 (t.col:Int)],.pointer (some ⟨b,0,none⟩)] w (fun r w'=>r=.returned (.bool (decide (0≤idx4 t.text)))∧Blk T [.int .i64 (if 0≤idx4 t.text then 6+idx4 t.text else q)] w'∧WrB [T] w w'):=by
 have hb:b<w.heap.size:=World.block_lt_of_cell? w ⟨b,0,none⟩ hc;obtain⟨U,hU,bU,sU,kU⟩:=tbox t w;obtain⟨m,hm⟩:=(hg.below bU).max;have ci:=Tryz.strings_Index ⟨#[43,45,42,47]⟩ ⟨t.text.toArray⟩ m U (by decide) hm;rw[show Lib.index (⟨#[43,45,42,47]⟩:ByteArray).data.toList (⟨t.text.toArray⟩:ByteArray).data.toList=idx4 t.text from rfl]at ci;have hge:-1≤idx4 t.text:=Lib.index_ge _ _;generalize idx4 t.text=I at *;have CI:=zh ci;have c1:=kU.c 1 _ rfl;have c2:U.cell? ⟨b,0,none⟩=some (.pointer (some ⟨T,0,none⟩)):=(bU.cell (p:=⟨b,0,none⟩) hb).trans hc;have kT:=hT.below bU;have c3:=kT.c 0 _ rfl;have f3:=kT.f 0 (by simp);have HK:=zh kT;have HB:=zh bU;clear bU sU kU hc hb hT ci hm hg kT;by_cases h0:0≤I
 ·rw[if_pos h0];have hw:IntKind.i64.wrap (6+I)=6+I:=IntWalk.i64_in _ (by omega);go_enter Tryz.func81,Tryz.ntmps81;go_wp2_with fail;refine CI.out.mono ?_;rintro r w2 ⟨rfl,rfl⟩;go_wp2_with fail;go_ret;exact⟨ret_b (decide_eq_true h0).symm,HK.out.set 0 (by simp) _,(WrB.of_below HB.out _).trans (WrB.of_set _ T 0 _ List.mem_cons_self)⟩
 ·rw[if_neg h0];go_enter Tryz.func81,Tryz.ntmps81;go_wp2_with fail;refine CI.out.mono ?_;rintro r w2 ⟨rfl,rfl⟩;go_wp2_with fail;go_ret;exact⟨rfl,HK.out,WrB.of_below HB.out _⟩
def namesL:List (Lit×DataW Unit):=[(.string [97,118,103],.lit (.int .i64 2)),(.string [104,105],.lit (.int .i64 3)),(.string [105,102],.lit (.int .i64 12)),(.string [108,111],.lit (.int .i64 4)),(.string [109,97,120],.lit (.int .i64 10)),(.string [109,105,110],.lit (.int .i64 11)),(.string [110,117,109],.lit (.int .i64 0)),(.string [112,120],.lit (.int .i64 1))]
theorem names_put:(DataW.put (DataW.put (DataW.put (DataW.put (DataW.put (DataW.put (DataW.put (DataW.put (.map []) (.string [110,117,109]) (.lit (.int .i64 0))) (.string [112,120]) (.lit (.int .i64 1))) (.string [97,118,103]) (.lit (.int .i64 2))) (.string [104,105]) (.lit (.int .i64 3))) (.string [108,111]) (.lit (.int .i64 4))) (.string [109,97,120]) (.lit (.int .i64 10))) (.string [109,105,110]) (.lit (.int .i64 11))) (.string [105,102]) (.lit (.int .i64 12)))=(DataW.map namesL:DataW Unit):=by rfl
abbrev NamesM(b:Nat)(w:World):Prop:=w.ownsMap (H:=Unit) Tryz.prog 9 (plainElem Tryz.prog 3) b 8 (.map namesL)
theorem names_has(s:List UInt8):Maps.has (DataW.map namesL) (.string s)=(opName s).isSome∧DataW.atKey (DataW.map namesL) (.string s) (.lit (.int .i64 0))=.lit (.int .i64 ((opName s).getD 0)):=by
 by_cases h0:s=[110,117,109]
 ·subst h0;exact⟨rfl,rfl⟩
 by_cases h1:s=[112,120]
 ·subst h1;exact⟨rfl,rfl⟩
 by_cases h2:s=[97,118,103]
 ·subst h2;exact⟨rfl,rfl⟩
 by_cases h3:s=[104,105]
 ·subst h3;exact⟨rfl,rfl⟩
 by_cases h4:s=[108,111]
 ·subst h4;exact⟨rfl,rfl⟩
 by_cases h10:s=[109,97,120]
 ·subst h10;exact⟨rfl,rfl⟩
 by_cases h11:s=[109,105,110]
 ·subst h11;exact⟨rfl,rfl⟩
 by_cases h12:s=[105,102]
 ·subst h12;exact⟨rfl,rfl⟩
 have e:opName s=none:=by
  unfold opName;rw[if_neg h0,if_neg h1,if_neg h2,if_neg h3,if_neg h4,if_neg h10,if_neg h11,if_neg h12]
 have k:∀q∈namesL,q.1.sameKey (.string s)=false:=by
  have hs:∀a:List UInt8,s≠a→Lit.sameKey (.string a) (.string s)=false:=fun a ha=>beq_false_of_ne (fun c=>ha c.symm);intro q hq;unfold namesL at hq;simp only[List.mem_cons,List.not_mem_nil,or_false]at hq;rcases hq with rfl|rfl|rfl|rfl|rfl|rfl|rfl|rfl
  ·exact hs _ h2
  ·exact hs _ h3
  ·exact hs _ h12
  ·exact hs _ h4
  ·exact hs _ h10
  ·exact hs _ h11
  ·exact hs _ h0
  ·exact hs _ h1
 rw[e];refine⟨?_,?_⟩
 ·rw[Maps.has_eq];exact List.any_eq_false.2 fun q hq=>by rw[k q hq];decide
 ·have hf:namesL.find? (fun p=>p.1.sameKey (.string s))=none:=List.find?_eq_none.2 fun q hq=>by rw[k q hq];decide
  unfold DataW.atKey;simp only[hf]
  rfl
theorem zero_int(w:World):(zeroValue 3).run Tryz.prog w=.ok (.int .i64 0) w:=by
 have h:(Tryz.prog.info? 3).map (fun i=>(i.zero,i.size,i.bytes))=some (some (.int .i64 0),1,8):=by kernel_rfl
 obtain⟨i,hi,hz,_⟩:=info_parts h;simp[zeroValue,typeInfo,hi,hz]
theorem keyedP:Keyed Tryz.prog 9:=string_keyed Tryz.underlying9
theorem key_ofP{s:List UInt8}(h:s.length≤maxLen):keyOf Tryz.prog 9 (.string ⟨s.toArray⟩)=some (.string s):=keyOf_string_mk (s:=⟨s.toArray⟩) Tryz.underlying9 (by rw[size_of];exact h)
theorem names_look{b:Nat}{w:World}(h:NamesM b w)(s:List UInt8)(hs:s.length≤100000) :
  (Instr.lookup 45 (.map (some b)) (.string ⟨s.toArray⟩) true).run Tryz.prog w=.ok (.tuple #[.int .i64 ((opName s).getD 0),.bool (opName s).isSome]) w:=by
 obtain⟨v,ps,hr,hv⟩:=World.ownsMap.look_ok h keyedP Tryz.underlying45 (zero_int w) (plainElem_int Tryz.underlying3 (by decide)) (key_ofP (show s.length≤maxLen by unfold maxLen;omega));obtain⟨c,rfl,hc,_⟩:=plainElem_int_inv Tryz.underlying3 hv;have hc:=congrArg Prod.fst hc;obtain⟨k1,k2⟩:=names_has s;have hc:DataW.atKey (DataW.map namesL) (.string s) (.lit (.int .i64 0))=.lit (.int .i64 c):=hc;rw[k2]at hc;have hr:(Instr.lookup 45 (.map (some b)) (.string ⟨s.toArray⟩) true).run Tryz.prog w=.ok (.tuple #[.int .i64 c,.bool (Maps.has (DataW.map namesL) (.string s))]) w:=hr;rw[k1]at hr;have hc:(opName s).getD 0=c:=(Lit.int.inj (DataW.lit.inj hc)).2;rw[hr,hc]
theorem names_in{b n:Nat}{D:DataW Unit}{w:World}(h:w.ownsMap (H:=Unit) Tryz.prog 9 (plainElem Tryz.prog 3) b n D)(hn:n≤100)(s:List UInt8)(hs:s.length≤100)(v:Int)(hv:(Lit.int .i64 v).wf=true) :
  ∃w',(Instr.mapUpdate 45 (.map (some b)) (.string ⟨s.toArray⟩) (.int .i64 v)).run Tryz.prog w=.ok () w'∧w'.ownsMap (H:=Unit) Tryz.prog 9 (plainElem Tryz.prog 3) b (n+1) (D.put (.string s) (.lit (.int .i64 v)))∧w.grownBy w' (some b) :=
 World.ownsMap.update h keyedP Tryz.underlying45 (by unfold maxLen;omega) (key_ofP (show s.length≤maxLen by unfold maxLen;omega)) (plainElem_int Tryz.underlying3 hv)
theorem pnames_any(w:World):Calls Tryz.prog 16 #[] w (fun r w'=>∃b,r=.returned (.map (some b))∧b<w'.heap.size∧NamesM b w'∧Below w.heap.size w w'):=by
 have h0:=World.ownsMap_made (H:=Unit) w Tryz.prog 9 (plainElem Tryz.prog 3);have g0:Below w.heap.size w (w.alloc (.map #[] 0)):=Below.alloc (Below.refl _ _) (Nat.le_refl _) _;obtain⟨w1,r1,h1,q1⟩:=names_in h0 (by decide) [110,117,109] (by decide) 0 (by decide);have g1:=Below.grown g0 q1 (by simp[g0.size]) (fun k hk=>by cases hk;exact Nat.le_refl _);obtain⟨w2,r2,h2,q2⟩:=names_in h1 (by decide) [112,120] (by decide) 1 (by decide);have g2:=Below.grown g1 q2 (by simp[g1.size]) (fun k hk=>by cases hk;exact Nat.le_refl _);obtain⟨w3,r3,h3,q3⟩:=names_in h2 (by decide) [97,118,103] (by decide) 2 (by decide);have g3:=Below.grown g2 q3 (by simp[g2.size]) (fun k hk=>by cases hk;exact Nat.le_refl _);obtain⟨w4,r4,h4,q4⟩:=names_in h3 (by decide) [104,105] (by decide) 3 (by decide);have g4:=Below.grown g3 q4 (by simp[g3.size]) (fun k hk=>by cases hk;exact Nat.le_refl _);obtain⟨w5,r5,h5,q5⟩:=names_in h4 (by decide) [108,111] (by decide) 4 (by decide);have g5:=Below.grown g4 q5 (by simp[g4.size]) (fun k hk=>by cases hk;exact Nat.le_refl _);obtain⟨w6,r6,h6,q6⟩:=names_in h5 (by decide) [109,97,120] (by decide) 10 (by decide);have g6:=Below.grown g5 q6 (by simp[g5.size]) (fun k hk=>by cases hk;exact Nat.le_refl _);obtain⟨w7,r7,h7,q7⟩:=names_in h6 (by decide) [109,105,110] (by decide) 11 (by decide);have g7:=Below.grown g6 q7 (by simp[g6.size]) (fun k hk=>by cases hk;exact Nat.le_refl _);obtain⟨w8,r8,h8,q8⟩:=names_in h7 (by decide) [105,102] (by decide) 12 (by decide);have g8:=Below.grown g7 q8 (by simp[g7.size]) (fun k hk=>by cases hk;exact Nat.le_refl _)
 have HN:=zh (show NamesM w.heap.size w8 by have k:=h8;rw[names_put]at k;exact k);have HG:=zh g8;clear h0 h1 h2 h3 h4 h5 h6 h7 h8 g0 g1 g2 g3 g4 g5 g6 g7 g8 q1 q2 q3 q4 q5 q6 q7 q8;have hmk:(Instr.makeMap 45 none).run Tryz.prog w=.ok (.map (some w.heap.size)) (w.alloc (.map #[] 0)):=run_makeMap 45 w;go_enter Tryz.func16,Tryz.ntmps16;go_wp2_with fail;go_ret;exact⟨_,rfl,HN.out.lt,HN.out,HG.out⟩
theorem mknown_any(t:Tk)(b1 b2 T mb:Nat)(q:Int)(w:World)(hl:t.text.length≤100000)(hm:NamesM mb w)(hc1:w.cell? ⟨b1,0,none⟩=some (.map (some mb)))(hc2:w.cell? ⟨b2,0,none⟩=some (.pointer (some ⟨T,0,none⟩)))(hT:Blk T [.int .i64 q] w) :
  Calls Tryz.prog 75 #[.agg #[.int .i64 (t.kind:Int),.string ⟨t.text.toArray⟩,.int .i64 (t.line:Int),.int .i64 (t.col:Int)],.pointer (some ⟨b1,0,none⟩),.pointer (some ⟨b2,0,none⟩)] w (fun r w'=>r=.returned (.bool (opName t.text).isSome)∧Blk T [.int .i64 ((opName t.text).getD q)] w'∧WrB [T] w w'):=by
 have h1:b1<w.heap.size:=World.block_lt_of_cell? w ⟨b1,0,none⟩ hc1;have h2:b2<w.heap.size:=World.block_lt_of_cell? w ⟨b2,0,none⟩ hc2;obtain⟨U,hU,bU,sU,kU⟩:=tbox t w;have hrun:=names_look (World.ownsMap.kept hm (row:=none) ⟨bU.os,bU.tape,bU.output,bU.size,fun k hk _=>bU.block k hk⟩ (by simp)) t.text hl;have c1:=kU.c 1 _ rfl;have d1:=(bU.cell (p:=⟨b1,0,none⟩) h1).trans hc1;have d2:=(bU.cell (p:=⟨b2,0,none⟩) h2).trans hc2;have kT:=hT.below bU;have c3:=kT.c 0 _ rfl;have f3:=kT.f 0 (by simp);have HK:=zh kT;have HB:=zh bU;clear bU sU kU hc1 hc2 h1 h2 hT hm kT
 cases ho:opName t.text with
 | none =>
  rw[ho]at hrun;have hrun:(Instr.lookup 45 (.map (some mb)) (.string ⟨t.text.toArray⟩) true).run Tryz.prog U=.ok (.tuple #[.int .i64 0,.bool false]) U:=hrun;clear ho;go_enter Tryz.func75,Tryz.ntmps75;go_wp2_with fail;go_ret;exact⟨rfl,HK.out,WrB.of_below HB.out _⟩
 | some v =>
  rw[ho]at hrun;have hrun:(Instr.lookup 45 (.map (some mb)) (.string ⟨t.text.toArray⟩) true).run Tryz.prog U=.ok (.tuple #[.int .i64 v,.bool true]) U:=hrun;clear ho;go_enter Tryz.func75,Tryz.ntmps75;go_wp2_with fail;go_ret;exact⟨rfl,HK.out.set 0 (by simp) _,(WrB.of_below HB.out _).trans (WrB.of_set _ T 0 _ List.mem_cons_self)⟩
theorem ksign_any(s:ByteArray)(w:World):Calls Tryz.prog 38 #[.string s] w (fun r w'=>r=.returned (.func (.func 72) #[] #[.pointer (some ⟨w.heap.size,0,none⟩)])∧w'=w.alloc (.cells #[.string s] 9)):=by
 go_enter Tryz.func38,Tryz.ntmps38;go_wp2_with fail;go_ret;exact⟨rfl,rfl⟩
theorem knumber_any(q:Option Addr)(w:World):Calls Tryz.prog 40 #[.pointer q] w (fun r w'=>r=.returned (.func (.func 73) #[] #[.pointer (some ⟨w.heap.size,0,none⟩)])∧w'=w.alloc (.cells #[.pointer q] 83)):=by
 go_enter Tryz.func40,Tryz.ntmps40;go_wp2_with fail;go_ret;exact⟨rfl,rfl⟩
theorem kinfix_any(q:Option Addr)(w:World):Calls Tryz.prog 46 #[.pointer q] w (fun r w'=>r=.returned (.func (.func 81) #[] #[.pointer (some ⟨w.heap.size,0,none⟩)])∧w'=w.alloc (.cells #[.pointer q] 86)):=by
 go_enter Tryz.func46,Tryz.ntmps46;go_wp2_with fail;go_ret;exact⟨rfl,rfl⟩
theorem kname_any(q:Option Addr)(w:World):Calls Tryz.prog 77 #[.pointer q] w (fun r w'=>r=.returned (.func (.func 113) #[] #[.pointer (some ⟨w.heap.size,0,none⟩)])∧w'=w.alloc (.cells #[.pointer q] 113)):=by
 go_enter Tryz.func77,Tryz.ntmps77;go_wp2_with fail;go_ret;exact⟨rfl,rfl⟩
theorem knatural_any(q:Option Addr)(w:World):Calls Tryz.prog 110 #[.pointer q] w (fun r w'=>r=.returned (.func (.func 145) #[] #[.pointer (some ⟨w.heap.size,0,none⟩)])∧w'=w.alloc (.cells #[.pointer q] 113)):=by
 go_enter Tryz.func110,Tryz.ntmps110;go_wp2_with fail;go_ret;exact⟨rfl,rfl⟩
theorem kday_any(q:Option Addr)(w:World):Calls Tryz.prog 78 #[.pointer q] w (fun r w'=>r=.returned (.func (.func 114) #[] #[.pointer (some ⟨w.heap.size,0,none⟩)])∧w'=w.alloc (.cells #[.pointer q] 86)):=by
 go_enter Tryz.func78,Tryz.ntmps78;go_wp2_with fail;go_ret;exact⟨rfl,rfl⟩
theorem kknown_any(m q:Option Addr)(mb:Option Nat)(w:World):Calls Tryz.prog 42 #[.map mb,.pointer q] w (fun r w'=>r=.returned (.func (.func 75) #[] #[.pointer (some ⟨w.heap.size,0,none⟩),.pointer (some ⟨w.heap.size+1,0,none⟩)])∧w'=(w.alloc (.cells #[.map mb] 45)).alloc (.cells #[.pointer q] 86)):=by
 go_enter Tryz.func42,Tryz.ntmps42;go_wp2_with fail;go_ret;exact⟨by simp,rfl⟩
end Go.Proofs.YtmllklfjngapiaaGreatDoor
