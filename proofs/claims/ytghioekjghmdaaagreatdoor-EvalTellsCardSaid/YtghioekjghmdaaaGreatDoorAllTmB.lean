/- Own work. -/
import Derived.Test.YtghioekjghmdaaaGreatDoorTk
import Derived.Test.YtghioekjghmdaaaGreatDoorEvNumM
set_option linter.unusedSimpArgs false
set_option linter.unusedVariables false
set_option maxHeartbeats 4000000
set_option maxRecDepth 100000
namespace Go.Proofs.YtghioekjghmdaaaGreatDoor
open Go.RowKit
open Tm (Nd Tr arN arI astB okN commas numP decB numH leafP leafH aboveP fnH sgnO prF)
theorem join_commas:∀ns:List (List UInt8),Lib.join ns [44,32]=commas ns
 | []=>rfl
 | [x]=>Lib.join_one x [44,32]
 | x::y::r=>by
  have k:=join_commas (y::r);rw[Lib.join_cons]at k ⊢;show x++Lib.joinTail [44,32] (y::r)=x++44::32::commas (y::r);rw[←k]
  rfl
theorem commas_len:∀ {ls:List (List UInt8)},ls.length≤3→(∀x∈ls,x.length≤1000000)→(commas ls).length≤4000000
 | [],_,_=>by show 0≤4000000;omega
 | [a],_,h=>by
  have h1:=h a (by simp);show a.length≤4000000;omega
 | [a,b],_,h=>by
  have h1:=h a (by simp);have h2:=h b (by simp)
  show (a++44::32::b).length≤4000000;simp only[List.length_append,List.length_cons];omega
 | [a,b,c],_,h=>by
  have h1:=h a (by simp);have h2:=h b (by simp);have h3:=h c (by simp)
  show (a++44::32::(b++44::32::c)).length≤4000000;simp only[List.length_append,List.length_cons];omega
 | _::_::_::_::_,h,_=>by simp only[List.length_cons]at h;omega
theorem call_text(u C:List UInt8):(⟨u.toArray⟩:ByteArray)++⟨#[40]⟩++⟨C.toArray⟩++⟨#[41]⟩=⟨(u++40::(C++[41])).toArray⟩ :=
 bytes_eq (by rw[ba_append,ba_append,ba_append];simp)
def callT(u:List UInt8)(ls:List (List UInt8)):List UInt8:=u++40::(commas ls++[41])
theorem tcall_any(u:List UInt8)(b o c:Nat)(ls:List (List UInt8))(w:World)(hu:u.length≤100)(hc:ls.length≤c)(hl:ls.length≤3)(hb:∀x∈ls,x.length≤1000000)(hlt:b<w.heap.size)(h:RowsG encX 1 w (some ⟨b,o,none⟩) ls) :
  Calls Tryz.prog 124 #[.string ⟨u.toArray⟩,.slice (some ⟨b,o,none⟩) ls.length c] w (GiveU w (callT u ls)):=by
 have hC:=commas_len hl hb;have cj:=Tryz.strings_Join b o c (ls.map fun u=>(⟨u.toArray⟩:ByteArray)) ⟨#[44,32]⟩ w
  (fun j x hj=>by
   rw[List.getElem?_map]at hj
   cases e:ls[j]? with
   | none=>rw[e]at hj;cases hj
   | some u =>
    rw[e]at hj;obtain rfl:=Option.some.inj hj;obtain⟨b',o',hp,k0⟩:=txs_rule h e
    cases hp
    exact k0 w (Below.refl _ _)) hlt (by rw[List.length_map];omega) (by rw[List.length_map];exact hc)
 have hm:((ls.map fun u=>(⟨u.toArray⟩:ByteArray)).map (·.data.toList))=ls:=by
  rw[List.map_map];exact(List.map_congr_left fun u _=>rfl).trans (List.map_id ls)
 rw[hm,List.length_map,show (⟨#[44,32]⟩:ByteArray).data.toList=[44,32] from rfl,join_commas]at cj;have cj:=cj (by omega);unfold callT;generalize commas ls=C at *;have CJ:=zh cj;have b0:=Below.refl w.heap.size w;clear cj hm h hb;go_enter Tryz.func124,Tryz.ntmps124;go_wp2_with fail;refine CJ.out.mono ?_;rintro e w1 ⟨rfl,b1⟩;go_wp2_with fail;go_ret;exact⟨ret_u (call_text u C),Below.more b0 b1⟩
theorem rowX(w:World)(ls:List (List UInt8))(c:Array Value)(hc:c.toList=ls.flatMap encX):RowsG encX 1 (w.alloc (.cells c 9)) (some ⟨w.heap.size,0,none⟩) ls:=rowsLit (enc:=encX) (k:=1) (fun _=>rfl) w ls c 9 hc
theorem tcall_2(u x y:List UInt8)(w:World)(hu:u.length≤100)(hx:x.length≤1000000)(hy:y.length≤1000000) :
  Calls Tryz.prog 124 #[.string ⟨u.toArray⟩,.slice (some ⟨w.heap.size,0,none⟩) 2 2] (w.alloc (.cells #[.string ⟨x.toArray⟩,.string ⟨y.toArray⟩] 9)) (GiveU (w.alloc (.cells #[.string ⟨x.toArray⟩,.string ⟨y.toArray⟩] 9)) (u++40::((x++44::32::y)++[41]))) :=
 tcall_any u w.heap.size 0 2 [x,y] _ hu (Nat.le_refl _) (by show 2≤3;omega) (fun z hz=>by
  simp only[List.mem_cons,List.not_mem_nil,or_false]at hz;rcases hz with rfl|rfl<;>assumption) (by simp) (rowX w [x,y] _ rfl)
theorem tcall_3(u x y z:List UInt8)(w:World)(hu:u.length≤100)(hx:x.length≤1000000)(hy:y.length≤1000000)(hz:z.length≤1000000) :
  Calls Tryz.prog 124 #[.string ⟨u.toArray⟩,.slice (some ⟨w.heap.size,0,none⟩) 3 3] (w.alloc (.cells #[.string ⟨x.toArray⟩,.string ⟨y.toArray⟩,.string ⟨z.toArray⟩] 9)) (GiveU (w.alloc (.cells #[.string ⟨x.toArray⟩,.string ⟨y.toArray⟩,.string ⟨z.toArray⟩] 9)) (u++40::((x++44::32::(y++44::32::z))++[41]))) :=
 tcall_any u w.heap.size 0 3 [x,y,z] _ hu (Nat.le_refl _) (Nat.le_refl _) (fun v hv=>by
  simp only[List.mem_cons,List.not_mem_nil,or_false]at hv;rcases hv with rfl|rfl|rfl<;>assumption) (by simp) (rowX w [x,y,z] _ rfl)
theorem num_H(n d:List UInt8):([110,117,109]:List UInt8)++40::((n++44::32::d)++[41])=numH++(n++44::32::(d++[41])):=by simp[numH]
theorem tnum_say(n d:List UInt8)(w:World)(hg:GoodX w)(hn:n.length≤4000)(hd:d.length≤4000){i:Int}{y:Bool}{z:Int}
  (CP:Hid (∀w,GoodX w→Calls Tryz.prog 157 #[.agg #[.string ⟨n.toArray⟩,.string ⟨d.toArray⟩]] w (GiveIB w (i,y))))
  (CG:Hid (∀w,Calls Tryz.prog 107 #[.agg #[.string ⟨n.toArray⟩,.string ⟨d.toArray⟩]] w (GiveI w z)))
  (h:(y&&(decide (i≤20)&&decide (0≤z)))=false) :
  Calls Tryz.prog 123 #[.agg #[.string ⟨n.toArray⟩,.string ⟨d.toArray⟩]] w (GiveU w (numH++(n++44::32::(d++[41])))):=by
 have HG:=zh hg;clear hg;obtain⟨U,hU,bU,s1,r0,r1⟩:=box1 w (.string ⟨n.toArray⟩) (.string ⟨d.toArray⟩) 28;have b1:=Below.refl U.heap.size U;replace HG:=zh (HG.out.below bU);have HC:=zh (tcall_2 [110,117,109] n d);have HN:=zh (num_H n d);clear s1
 cases y with
 | false =>
  go_enter Tryz.func123,Tryz.ntmps123;go_wp2_with fail;refine(CP.out _ HG.out).mono ?_;rintro e w2 ⟨rfl,b⟩;have b2:=Below.more b1 b;replace HG:=zh (HG.out.below b);clear b;have c0:w2.cell? ⟨1,0,none⟩=some (.string ⟨#[110,117,109]⟩):=HG.out.wd 0 [110,117,109] rfl;go_wp2_with fail;refine(HC.out w2 (by decide) (by omega) (by omega)).mono ?_;rintro e w9 ⟨rfl,b⟩;have b9:=Below.more b2 (Below.step _ b);clear b;go_wp2_with fail;go_ret;exact⟨ret_u (by first|rfl|simp[numH]),Below.more bU b9⟩
 | true =>
  rw[Bool.true_and]at h;by_cases hi:i≤20
  ·rw[decide_eq_true hi,Bool.true_and,decide_eq_false_iff_not]at h;go_enter Tryz.func123,Tryz.ntmps123;go_wp2_with fail;refine(CP.out _ HG.out).mono ?_;rintro e w2 ⟨rfl,b⟩;have b2:=Below.more b1 b;replace HG:=zh (HG.out.below b);clear b;go_wp2_with fail;refine(CG.out _).mono ?_;rintro e w3 ⟨rfl,b⟩;have b3:=Below.more b2 b;replace HG:=zh (HG.out.below b);clear b;have c0:w3.cell? ⟨1,0,none⟩=some (.string ⟨#[110,117,109]⟩):=HG.out.wd 0 [110,117,109] rfl;go_wp2_with fail;refine(HC.out w3 (by decide) (by omega) (by omega)).mono ?_;rintro e w9 ⟨rfl,b⟩;have b9:=Below.more b3 (Below.step _ b);clear b;go_wp2_with fail;go_ret;exact⟨ret_u (by first|rfl|simp[numH]),Below.more bU b9⟩
  ·clear h;go_enter Tryz.func123,Tryz.ntmps123;go_wp2_with fail;refine(CP.out _ HG.out).mono ?_;rintro e w2 ⟨rfl,b⟩;have b2:=Below.more b1 b;replace HG:=zh (HG.out.below b);clear b;have c0:w2.cell? ⟨1,0,none⟩=some (.string ⟨#[110,117,109]⟩):=HG.out.wd 0 [110,117,109] rfl;go_wp2_with fail;refine(HC.out w2 (by decide) (by omega) (by omega)).mono ?_;rintro e w9 ⟨rfl,b⟩;have b9:=Below.more b2 (Below.step _ b);clear b;go_wp2_with fail;go_ret;exact⟨ret_u (by first|rfl|simp[numH]),Below.more bU b9⟩
theorem tnum_dec(n d:List UInt8)(w:World)(hg:GoodX w){i:Int}{z:Int}{t:List UInt8}
  (CP:Hid (∀w,GoodX w→Calls Tryz.prog 157 #[.agg #[.string ⟨n.toArray⟩,.string ⟨d.toArray⟩]] w (GiveIB w (i,true))))
  (CG:Hid (∀w,Calls Tryz.prog 107 #[.agg #[.string ⟨n.toArray⟩,.string ⟨d.toArray⟩]] w (GiveI w z)))
  (CR:Hid (∀w,GoodX w→Calls Tryz.prog 158 #[.agg #[.string ⟨n.toArray⟩,.string ⟨d.toArray⟩]] w (GiveS w t)))
  (hi:i≤20) (hz:0≤z) :
  Calls Tryz.prog 123 #[.agg #[.string ⟨n.toArray⟩,.string ⟨d.toArray⟩]] w (GiveU w t):=by
 have HG:=zh hg;clear hg;obtain⟨U,hU,bU,s1,r0,r1⟩:=box1 w (.string ⟨n.toArray⟩) (.string ⟨d.toArray⟩) 28;have b1:=Below.refl U.heap.size U;replace HG:=zh (HG.out.below bU);clear s1;go_enter Tryz.func123,Tryz.ntmps123;go_wp2_with fail;refine(CP.out _ HG.out).mono ?_;rintro e w2 ⟨rfl,b⟩;have b2:=Below.more b1 b;replace HG:=zh (HG.out.below b);clear b;go_wp2_with fail;refine(CG.out _).mono ?_;rintro e w3 ⟨rfl,b⟩;have b3:=Below.more b2 b;replace HG:=zh (HG.out.below b);clear b;go_wp2_with fail;refine(CR.out _ HG.out).mono ?_;rintro e w4 ⟨rfl,b⟩;have b4:=Below.more b3 b;clear b;go_wp2_with fail;go_ret;exact⟨rfl,Below.more bU b4⟩
theorem tnumber_any(n d:List UInt8)(w:World)(hg:GoodX w)(hn:n.length≤4000)(hd:d.length≤4000):Calls Tryz.prog 123 #[.agg #[.string ⟨n.toArray⟩,.string ⟨d.toArray⟩]] w (GiveU w (numP (n,d))):=by
 have cp:∀w,GoodX w→Calls Tryz.prog 157 #[.agg #[.string ⟨n.toArray⟩,.string ⟨d.toArray⟩]] w (GiveIB w (plS (n,d))):=fun w g=>places_any ⟨n.toArray⟩ ⟨d.toArray⟩ w (by rw[size_of];omega) (by rw[size_of];omega) g.dec;have cg:∀w,Calls Tryz.prog 107 #[.agg #[.string ⟨n.toArray⟩,.string ⟨d.toArray⟩]] w (GiveI w (sgnR (n,d))):=fun w=>qsign_any ⟨n.toArray⟩ ⟨d.toArray⟩ w (by rw[size_of];omega) (by rw[size_of];omega);have cr:∀w,GoodX w→Calls Tryz.prog 158 #[.agg #[.string ⟨n.toArray⟩,.string ⟨d.toArray⟩]] w (GiveS w (prS (n,d))):=fun w g=>print_any ⟨n.toArray⟩ ⟨d.toArray⟩ w (by rw[size_of];exact hn) (by rw[size_of];exact hd) g.dec;have hdec:decB (n,d)=((plS (n,d)).2&&(decide ((plS (n,d)).1≤20)&&decide (0≤sgnR (n,d)))):=rfl;unfold numP
 cases h:decB (n,d) with
 | true =>
  rw[if_pos rfl];rw[h]at hdec;have hdec:=hdec.symm;simp only[Bool.and_eq_true,decide_eq_true_eq]at hdec;obtain⟨h1,h2,h3⟩:=hdec;have e:plS (n,d)=((plS (n,d)).1,true):=Prod.ext rfl h1;rw[e]at cp;exact tnum_dec n d w hg (zh cp) (zh cg) (zh cr) h2 h3
 | false =>
  rw[if_neg (by decide)];rw[h]at hdec;exact tnum_say n d w hg hn hd (i:=(plS (n,d)).1) (y:=(plS (n,d)).2) (zh cp) (zh cg) hdec.symm
theorem ttext_0{n d s:List UInt8}{a b:Int}(w:World)(hg:GoodX w){t:List UInt8}(CN:Hid (∀w,GoodX w→Calls Tryz.prog 123 #[.agg #[.string ⟨n.toArray⟩,.string ⟨d.toArray⟩]] w (GiveU w t))){v:Value}:Calls Tryz.prog 99 #[.agg #[.int .i64 0,.string ⟨n.toArray⟩,.string ⟨d.toArray⟩,.string ⟨s.toArray⟩,.int .i64 a,.int .i64 b],v] w (GiveU w (t)):=by
 have HG:=zh hg;clear hg;have b0:=Below.refl w.heap.size w;go_enter Tryz.func99,Tryz.ntmps99
 go_upto_region 1 with fail
 obtain⟨U,hU,bU,s1,rx0,rx1,rx2,rx3,rx4,rx5⟩:=lay6 b0 (.int .i64 0) (.string ⟨n.toArray⟩) (.string ⟨d.toArray⟩) (.string ⟨s.toArray⟩) (.int .i64 a) (.int .i64 b) 55;rw[hU];clear hU s1;have b1:=Below.refl U.heap.size U;replace HG:=zh (HG.out.below bU);have cw:U.cell? ⟨1,0,none⟩=some (.string ⟨#[110,117,109]⟩):=HG.out.wd 0 [110,117,109] rfl;go_wp2_with fail;refine(CN.out _ HG.out).mono ?_;rintro e w2 ⟨rfl,b⟩;go_wp2_with fail;go_ret;exact⟨rfl,Below.more bU b⟩
theorem ttext_1{n d s:List UInt8}{a b:Int}(w:World)(hg:GoodX w){la:List UInt8}(CA:Hid (∀w,GoodX w→Calls Tryz.prog 125 #[.int .i64 a] w (GiveS w la)))(hla:la.length≤1000)(hs:s.length≤1000){v:Value}:Calls Tryz.prog 99 #[.agg #[.int .i64 1,.string ⟨n.toArray⟩,.string ⟨d.toArray⟩,.string ⟨s.toArray⟩,.int .i64 a,.int .i64 b],v] w (GiveU w ([112,120,40]++(s++44::32::(la++[41])))):=by
 have HG:=zh hg;clear hg;have b0:=Below.refl w.heap.size w;go_enter Tryz.func99,Tryz.ntmps99
 go_upto_region 1 with fail
 obtain⟨U,hU,bU,s1,rx0,rx1,rx2,rx3,rx4,rx5⟩:=lay6 b0 (.int .i64 1) (.string ⟨n.toArray⟩) (.string ⟨d.toArray⟩) (.string ⟨s.toArray⟩) (.int .i64 a) (.int .i64 b) 55;rw[hU];clear hU s1;have b1:=Below.refl U.heap.size U;replace HG:=zh (HG.out.below bU);have cw:U.cell? ⟨1,1,none⟩=some (.string ⟨#[112,120]⟩):=HG.out.wd 1 [112,120] rfl;go_wp2_with fail;have hB:=zh (Nat.le_refl U.heap.size);refine tkG (S:=fun w'=>Below U.heap.size U w') (b1.drew) (fun hH0=>?_);refine sch_in [0,1,2,3,4] ?_
 iterate 5 (refine scY ?_;try simp only[Act.put,qA,qB,qC,qD,qE,qF])
 refine sch_out ?_;refine tkR 5 (fun K hK=>?_)
 go_simp
 refine(held (W:=U) hB.out (CA.out _ (HG.out.below (by assumption))) (by assumption)).mono ?_;rintro e x1 ⟨rfl,hb,hw⟩
 (try go_wp2_with fail)
 refine hK.out _ _ hw (fun hH1=>?_);clear hK hH0 hb hw
 try simp only[Act.put,qA,qB,qC,qD,qE,qF]
 refine tkR 6 (fun K hK=>?_)
 go_simp
 have hw:Below U.heap.size U (x1.alloc (.cells #[.string ⟨s.toArray⟩,.string ⟨la.toArray⟩] 9)):=Below.alloc hH1 hH1.size _;refine hK.out _ _ hw (fun hH2=>?_);clear hK hw
 try simp only[Act.put,qA,qB,qC,qD,qE,qF]
 refine tkR 7 (fun K hK=>?_)
 go_simp
 refine(held (W:=U) hB.out (tcall_2 [112,120] s la x1 (by decide) (by omega) (by omega)) (by assumption)).mono ?_;rintro e y1 ⟨rfl,hb,hw⟩
 (try go_wp2_with fail)
 refine hK.out _ _ hw (fun hZ=>?_);clear hK hH2 hb hw
 try simp only[Act.put,qA,qB,qC,qD,qE,qF]
 refine tkY 8 ?_
 try simp only[Act.put,qA,qB,qC,qD,qE,qF]
 refine tkD ?_;go_wp2_with fail;go_ret;exact⟨ret_u (by simp),Below.more bU hZ⟩
theorem ttext_2{n d s:List UInt8}{a b:Int}(w:World)(hg:GoodX w){la:List UInt8}(CA:Hid (∀w,GoodX w→Calls Tryz.prog 125 #[.int .i64 a] w (GiveS w la)))(hla:la.length≤1000){lb:List UInt8}(CB:Hid (∀w,GoodX w→Calls Tryz.prog 125 #[.int .i64 b] w (GiveS w lb)))(hlb:lb.length≤1000)(hs:s.length≤1000){v:Value}:Calls Tryz.prog 99 #[.agg #[.int .i64 2,.string ⟨n.toArray⟩,.string ⟨d.toArray⟩,.string ⟨s.toArray⟩,.int .i64 a,.int .i64 b],v] w (GiveU w ([97,118,103,40]++(s++44::32::(la++44::32::(lb++[41]))))):=by
 have HG:=zh hg;clear hg;have b0:=Below.refl w.heap.size w;go_enter Tryz.func99,Tryz.ntmps99
 go_upto_region 1 with fail
 obtain⟨U,hU,bU,s1,rx0,rx1,rx2,rx3,rx4,rx5⟩:=lay6 b0 (.int .i64 2) (.string ⟨n.toArray⟩) (.string ⟨d.toArray⟩) (.string ⟨s.toArray⟩) (.int .i64 a) (.int .i64 b) 55;rw[hU];clear hU s1;have b1:=Below.refl U.heap.size U;replace HG:=zh (HG.out.below bU);have cw:U.cell? ⟨1,2,none⟩=some (.string ⟨#[97,118,103]⟩):=HG.out.wd 2 [97,118,103] rfl;go_wp2_with fail;have hB:=zh (Nat.le_refl U.heap.size);refine tkG (S:=fun w'=>Below U.heap.size U w') (b1.drew) (fun hH0=>?_);refine sch_in [0,1,2,3,4,6,7] ?_
 iterate 7 (refine scY ?_;try simp only[Act.put,qA,qB,qC,qD,qE,qF])
 refine sch_out ?_;refine tkR 5 (fun K hK=>?_)
 go_simp
 refine(held (W:=U) hB.out (CA.out _ (HG.out.below (by assumption))) (by assumption)).mono ?_;rintro e x1 ⟨rfl,hb,hw⟩
 (try go_wp2_with fail)
 refine hK.out _ _ hw (fun hH1=>?_);clear hK hH0 hb hw
 try simp only[Act.put,qA,qB,qC,qD,qE,qF]
 refine tkR 8 (fun K hK=>?_)
 go_simp
 refine(held (W:=U) hB.out (CB.out _ (HG.out.below (by assumption))) (by assumption)).mono ?_;rintro e x2 ⟨rfl,hb,hw⟩
 (try go_wp2_with fail)
 refine hK.out _ _ hw (fun hH2=>?_);clear hK hH1 hb hw
 try simp only[Act.put,qA,qB,qC,qD,qE,qF]
 refine tkR 9 (fun K hK=>?_)
 go_simp
 have hw:Below U.heap.size U (x2.alloc (.cells #[.string ⟨s.toArray⟩,.string ⟨la.toArray⟩,.string ⟨lb.toArray⟩] 9)):=Below.alloc hH2 hH2.size _;refine hK.out _ _ hw (fun hH3=>?_);clear hK hw
 try simp only[Act.put,qA,qB,qC,qD,qE,qF]
 refine tkR 10 (fun K hK=>?_)
 go_simp
 refine(held (W:=U) hB.out (tcall_3 [97,118,103] s la lb x2 (by decide) (by omega) (by omega) (by omega)) (by assumption)).mono ?_;rintro e y1 ⟨rfl,hb,hw⟩
 (try go_wp2_with fail)
 refine hK.out _ _ hw (fun hZ=>?_);clear hK hH3 hb hw
 try simp only[Act.put,qA,qB,qC,qD,qE,qF]
 refine tkY 11 ?_
 try simp only[Act.put,qA,qB,qC,qD,qE,qF]
 refine tkD ?_;go_wp2_with fail;go_ret;exact⟨ret_u (by simp),Below.more bU hZ⟩
theorem ttext_3{n d s:List UInt8}{a b:Int}(w:World)(hg:GoodX w){la:List UInt8}(CA:Hid (∀w,GoodX w→Calls Tryz.prog 125 #[.int .i64 a] w (GiveS w la)))(hla:la.length≤1000){lb:List UInt8}(CB:Hid (∀w,GoodX w→Calls Tryz.prog 125 #[.int .i64 b] w (GiveS w lb)))(hlb:lb.length≤1000)(hs:s.length≤1000){v:Value}:Calls Tryz.prog 99 #[.agg #[.int .i64 3,.string ⟨n.toArray⟩,.string ⟨d.toArray⟩,.string ⟨s.toArray⟩,.int .i64 a,.int .i64 b],v] w (GiveU w ([104,105,40]++(s++44::32::(la++44::32::(lb++[41]))))):=by
 have HG:=zh hg;clear hg;have b0:=Below.refl w.heap.size w;go_enter Tryz.func99,Tryz.ntmps99
 go_upto_region 1 with fail
 obtain⟨U,hU,bU,s1,rx0,rx1,rx2,rx3,rx4,rx5⟩:=lay6 b0 (.int .i64 3) (.string ⟨n.toArray⟩) (.string ⟨d.toArray⟩) (.string ⟨s.toArray⟩) (.int .i64 a) (.int .i64 b) 55;rw[hU];clear hU s1;have b1:=Below.refl U.heap.size U;replace HG:=zh (HG.out.below bU);have cw:U.cell? ⟨1,3,none⟩=some (.string ⟨#[104,105]⟩):=HG.out.wd 3 [104,105] rfl;go_wp2_with fail;have hB:=zh (Nat.le_refl U.heap.size);refine tkG (S:=fun w'=>Below U.heap.size U w') (b1.drew) (fun hH0=>?_);refine sch_in [0,1,2,3,4,6,7] ?_
 iterate 7 (refine scY ?_;try simp only[Act.put,qA,qB,qC,qD,qE,qF])
 refine sch_out ?_;refine tkR 5 (fun K hK=>?_)
 go_simp
 refine(held (W:=U) hB.out (CA.out _ (HG.out.below (by assumption))) (by assumption)).mono ?_;rintro e x1 ⟨rfl,hb,hw⟩
 (try go_wp2_with fail)
 refine hK.out _ _ hw (fun hH1=>?_);clear hK hH0 hb hw
 try simp only[Act.put,qA,qB,qC,qD,qE,qF]
 refine tkR 8 (fun K hK=>?_)
 go_simp
 refine(held (W:=U) hB.out (CB.out _ (HG.out.below (by assumption))) (by assumption)).mono ?_;rintro e x2 ⟨rfl,hb,hw⟩
 (try go_wp2_with fail)
 refine hK.out _ _ hw (fun hH2=>?_);clear hK hH1 hb hw
 try simp only[Act.put,qA,qB,qC,qD,qE,qF]
 refine tkR 9 (fun K hK=>?_)
 go_simp
 have hw:Below U.heap.size U (x2.alloc (.cells #[.string ⟨s.toArray⟩,.string ⟨la.toArray⟩,.string ⟨lb.toArray⟩] 9)):=Below.alloc hH2 hH2.size _;refine hK.out _ _ hw (fun hH3=>?_);clear hK hw
 try simp only[Act.put,qA,qB,qC,qD,qE,qF]
 refine tkR 10 (fun K hK=>?_)
 go_simp
 refine(held (W:=U) hB.out (tcall_3 [104,105] s la lb x2 (by decide) (by omega) (by omega) (by omega)) (by assumption)).mono ?_;rintro e y1 ⟨rfl,hb,hw⟩
 (try go_wp2_with fail)
 refine hK.out _ _ hw (fun hZ=>?_);clear hK hH3 hb hw
 try simp only[Act.put,qA,qB,qC,qD,qE,qF]
 refine tkY 11 ?_
 try simp only[Act.put,qA,qB,qC,qD,qE,qF]
 refine tkD ?_;go_wp2_with fail;go_ret;exact⟨ret_u (by simp),Below.more bU hZ⟩
theorem ttext_4{n d s:List UInt8}{a b:Int}(w:World)(hg:GoodX w){la:List UInt8}(CA:Hid (∀w,GoodX w→Calls Tryz.prog 125 #[.int .i64 a] w (GiveS w la)))(hla:la.length≤1000){lb:List UInt8}(CB:Hid (∀w,GoodX w→Calls Tryz.prog 125 #[.int .i64 b] w (GiveS w lb)))(hlb:lb.length≤1000)(hs:s.length≤1000){v:Value}:Calls Tryz.prog 99 #[.agg #[.int .i64 4,.string ⟨n.toArray⟩,.string ⟨d.toArray⟩,.string ⟨s.toArray⟩,.int .i64 a,.int .i64 b],v] w (GiveU w ([108,111,40]++(s++44::32::(la++44::32::(lb++[41]))))):=by
 have HG:=zh hg;clear hg;have b0:=Below.refl w.heap.size w;go_enter Tryz.func99,Tryz.ntmps99
 go_upto_region 1 with fail
 obtain⟨U,hU,bU,s1,rx0,rx1,rx2,rx3,rx4,rx5⟩:=lay6 b0 (.int .i64 4) (.string ⟨n.toArray⟩) (.string ⟨d.toArray⟩) (.string ⟨s.toArray⟩) (.int .i64 a) (.int .i64 b) 55;rw[hU];clear hU s1;have b1:=Below.refl U.heap.size U;replace HG:=zh (HG.out.below bU);have cw:U.cell? ⟨1,4,none⟩=some (.string ⟨#[108,111]⟩):=HG.out.wd 4 [108,111] rfl;go_wp2_with fail;have hB:=zh (Nat.le_refl U.heap.size);refine tkG (S:=fun w'=>Below U.heap.size U w') (b1.drew) (fun hH0=>?_);refine sch_in [0,1,2,3,4,6,7] ?_
 iterate 7 (refine scY ?_;try simp only[Act.put,qA,qB,qC,qD,qE,qF])
 refine sch_out ?_;refine tkR 5 (fun K hK=>?_)
 go_simp
 refine(held (W:=U) hB.out (CA.out _ (HG.out.below (by assumption))) (by assumption)).mono ?_;rintro e x1 ⟨rfl,hb,hw⟩
 (try go_wp2_with fail)
 refine hK.out _ _ hw (fun hH1=>?_);clear hK hH0 hb hw
 try simp only[Act.put,qA,qB,qC,qD,qE,qF]
 refine tkR 8 (fun K hK=>?_)
 go_simp
 refine(held (W:=U) hB.out (CB.out _ (HG.out.below (by assumption))) (by assumption)).mono ?_;rintro e x2 ⟨rfl,hb,hw⟩
 (try go_wp2_with fail)
 refine hK.out _ _ hw (fun hH2=>?_);clear hK hH1 hb hw
 try simp only[Act.put,qA,qB,qC,qD,qE,qF]
 refine tkR 9 (fun K hK=>?_)
 go_simp
 have hw:Below U.heap.size U (x2.alloc (.cells #[.string ⟨s.toArray⟩,.string ⟨la.toArray⟩,.string ⟨lb.toArray⟩] 9)):=Below.alloc hH2 hH2.size _;refine hK.out _ _ hw (fun hH3=>?_);clear hK hw
 try simp only[Act.put,qA,qB,qC,qD,qE,qF]
 refine tkR 10 (fun K hK=>?_)
 go_simp
 refine(held (W:=U) hB.out (tcall_3 [108,111] s la lb x2 (by decide) (by omega) (by omega) (by omega)) (by assumption)).mono ?_;rintro e y1 ⟨rfl,hb,hw⟩
 (try go_wp2_with fail)
 refine hK.out _ _ hw (fun hZ=>?_);clear hK hH3 hb hw
 try simp only[Act.put,qA,qB,qC,qD,qE,qF]
 refine tkY 11 ?_
 try simp only[Act.put,qA,qB,qC,qD,qE,qF]
 refine tkD ?_;go_wp2_with fail;go_ret;exact⟨ret_u (by simp),Below.more bU hZ⟩
theorem ttext_5{n d s:List UInt8}{a b:Int}(w:World)(hg:GoodX w){p q c:Nat}{u:List UInt8}(hu:u.length≤1000000)(k0:∀v,Below w.heap.size w v→v.cell? ⟨p,q,none⟩=some (.string ⟨u.toArray⟩)):Calls Tryz.prog 99 #[.agg #[.int .i64 5,.string ⟨n.toArray⟩,.string ⟨d.toArray⟩,.string ⟨s.toArray⟩,.int .i64 a,.int .i64 b],.slice (some ⟨p,q,none⟩) 1 c] w (GiveU w (40::45::(u++[41]))):=by
 have HG:=zh hg;clear hg;have b0:=Below.refl w.heap.size w;go_enter Tryz.func99,Tryz.ntmps99
 go_upto_region 1 with fail
 obtain⟨U,hU,bU,s1,rx0,rx1,rx2,rx3,rx4,rx5⟩:=lay6 b0 (.int .i64 5) (.string ⟨n.toArray⟩) (.string ⟨d.toArray⟩) (.string ⟨s.toArray⟩) (.int .i64 a) (.int .i64 b) 55;rw[hU];clear hU s1;have b1:=Below.refl U.heap.size U;replace HG:=zh (HG.out.below bU);have cw:U.cell? ⟨1,5,none⟩=some (.string ⟨#[45]⟩):=HG.out.wd 5 [45] rfl;have q0:=k0 U bU;clear k0;go_wp2_with fail;go_ret;exact⟨ret_u (by first|exact neg_text2 u|exact bytes_eq (by simp[ba_append])),bU⟩
theorem ttext_6{n d s:List UInt8}{a b:Int}(w:World)(hg:GoodX w){p q c:Nat}{u u2:List UInt8}(hu:u.length≤1000000)(hu2:u2.length≤1000000)(k0:∀v,Below w.heap.size w v→v.cell? ⟨p,q,none⟩=some (.string ⟨u.toArray⟩))(k1:∀v,Below w.heap.size w v→v.cell? ⟨p,q+1,none⟩=some (.string ⟨u2.toArray⟩)):Calls Tryz.prog 99 #[.agg #[.int .i64 6,.string ⟨n.toArray⟩,.string ⟨d.toArray⟩,.string ⟨s.toArray⟩,.int .i64 a,.int .i64 b],.slice (some ⟨p,q,none⟩) 2 c] w (GiveU w (40::(u++32::43::32::(u2++[41])))):=by
 have HG:=zh hg;clear hg;have b0:=Below.refl w.heap.size w;go_enter Tryz.func99,Tryz.ntmps99
 go_upto_region 1 with fail
 obtain⟨U,hU,bU,s1,rx0,rx1,rx2,rx3,rx4,rx5⟩:=lay6 b0 (.int .i64 6) (.string ⟨n.toArray⟩) (.string ⟨d.toArray⟩) (.string ⟨s.toArray⟩) (.int .i64 a) (.int .i64 b) 55;rw[hU];clear hU s1;have b1:=Below.refl U.heap.size U;replace HG:=zh (HG.out.below bU);have cw:U.cell? ⟨1,6,none⟩=some (.string ⟨#[43]⟩):=HG.out.wd 6 [43] rfl;have q0:=fun v (h:Below U.heap.size U v)=>k0 v (Below.more bU h);have q1:=fun v (h:Below U.heap.size U v)=>k1 v (Below.more bU h);clear k0 k1;go_wp2_with fail
 go_quiet (fail)
 go_wp2_with fail;go_ret;exact⟨ret_u (by first|exact sgn_text u u2 _|exact bytes_eq (by simp[ba_append])),Below.drewN bU _⟩
theorem ttext_7{n d s:List UInt8}{a b:Int}(w:World)(hg:GoodX w){p q c:Nat}{u u2:List UInt8}(hu:u.length≤1000000)(hu2:u2.length≤1000000)(k0:∀v,Below w.heap.size w v→v.cell? ⟨p,q,none⟩=some (.string ⟨u.toArray⟩))(k1:∀v,Below w.heap.size w v→v.cell? ⟨p,q+1,none⟩=some (.string ⟨u2.toArray⟩)):Calls Tryz.prog 99 #[.agg #[.int .i64 7,.string ⟨n.toArray⟩,.string ⟨d.toArray⟩,.string ⟨s.toArray⟩,.int .i64 a,.int .i64 b],.slice (some ⟨p,q,none⟩) 2 c] w (GiveU w (40::(u++32::45::32::(u2++[41])))):=by
 have HG:=zh hg;clear hg;have b0:=Below.refl w.heap.size w;go_enter Tryz.func99,Tryz.ntmps99
 go_upto_region 1 with fail
 obtain⟨U,hU,bU,s1,rx0,rx1,rx2,rx3,rx4,rx5⟩:=lay6 b0 (.int .i64 7) (.string ⟨n.toArray⟩) (.string ⟨d.toArray⟩) (.string ⟨s.toArray⟩) (.int .i64 a) (.int .i64 b) 55;rw[hU];clear hU s1;have b1:=Below.refl U.heap.size U;replace HG:=zh (HG.out.below bU);have cw:U.cell? ⟨1,7,none⟩=some (.string ⟨#[45]⟩):=HG.out.wd 7 [45] rfl;have q0:=fun v (h:Below U.heap.size U v)=>k0 v (Below.more bU h);have q1:=fun v (h:Below U.heap.size U v)=>k1 v (Below.more bU h);clear k0 k1;go_wp2_with fail
 go_quiet (fail)
 go_wp2_with fail;go_ret;exact⟨ret_u (by first|exact sgn_text u u2 _|exact bytes_eq (by simp[ba_append])),Below.drewN bU _⟩
theorem ttext_8{n d s:List UInt8}{a b:Int}(w:World)(hg:GoodX w){p q c:Nat}{u u2:List UInt8}(hu:u.length≤1000000)(hu2:u2.length≤1000000)(k0:∀v,Below w.heap.size w v→v.cell? ⟨p,q,none⟩=some (.string ⟨u.toArray⟩))(k1:∀v,Below w.heap.size w v→v.cell? ⟨p,q+1,none⟩=some (.string ⟨u2.toArray⟩)):Calls Tryz.prog 99 #[.agg #[.int .i64 8,.string ⟨n.toArray⟩,.string ⟨d.toArray⟩,.string ⟨s.toArray⟩,.int .i64 a,.int .i64 b],.slice (some ⟨p,q,none⟩) 2 c] w (GiveU w (40::(u++32::42::32::(u2++[41])))):=by
 have HG:=zh hg;clear hg;have b0:=Below.refl w.heap.size w;go_enter Tryz.func99,Tryz.ntmps99
 go_upto_region 1 with fail
 obtain⟨U,hU,bU,s1,rx0,rx1,rx2,rx3,rx4,rx5⟩:=lay6 b0 (.int .i64 8) (.string ⟨n.toArray⟩) (.string ⟨d.toArray⟩) (.string ⟨s.toArray⟩) (.int .i64 a) (.int .i64 b) 55;rw[hU];clear hU s1;have b1:=Below.refl U.heap.size U;replace HG:=zh (HG.out.below bU);have cw:U.cell? ⟨1,8,none⟩=some (.string ⟨#[42]⟩):=HG.out.wd 8 [42] rfl;have q0:=fun v (h:Below U.heap.size U v)=>k0 v (Below.more bU h);have q1:=fun v (h:Below U.heap.size U v)=>k1 v (Below.more bU h);clear k0 k1;go_wp2_with fail
 go_quiet (fail)
 go_wp2_with fail;go_ret;exact⟨ret_u (by first|exact sgn_text u u2 _|exact bytes_eq (by simp[ba_append])),Below.drewN bU _⟩
theorem ttext_9{n d s:List UInt8}{a b:Int}(w:World)(hg:GoodX w){p q c:Nat}{u u2:List UInt8}(hu:u.length≤1000000)(hu2:u2.length≤1000000)(k0:∀v,Below w.heap.size w v→v.cell? ⟨p,q,none⟩=some (.string ⟨u.toArray⟩))(k1:∀v,Below w.heap.size w v→v.cell? ⟨p,q+1,none⟩=some (.string ⟨u2.toArray⟩)):Calls Tryz.prog 99 #[.agg #[.int .i64 9,.string ⟨n.toArray⟩,.string ⟨d.toArray⟩,.string ⟨s.toArray⟩,.int .i64 a,.int .i64 b],.slice (some ⟨p,q,none⟩) 2 c] w (GiveU w (40::(u++32::47::32::(u2++[41])))):=by
 have HG:=zh hg;clear hg;have b0:=Below.refl w.heap.size w;go_enter Tryz.func99,Tryz.ntmps99
 go_upto_region 1 with fail
 obtain⟨U,hU,bU,s1,rx0,rx1,rx2,rx3,rx4,rx5⟩:=lay6 b0 (.int .i64 9) (.string ⟨n.toArray⟩) (.string ⟨d.toArray⟩) (.string ⟨s.toArray⟩) (.int .i64 a) (.int .i64 b) 55;rw[hU];clear hU s1;have b1:=Below.refl U.heap.size U;replace HG:=zh (HG.out.below bU);have cw:U.cell? ⟨1,9,none⟩=some (.string ⟨#[47]⟩):=HG.out.wd 9 [47] rfl;have q0:=fun v (h:Below U.heap.size U v)=>k0 v (Below.more bU h);have q1:=fun v (h:Below U.heap.size U v)=>k1 v (Below.more bU h);clear k0 k1;go_wp2_with fail
 go_quiet (fail)
 go_wp2_with fail;go_ret;exact⟨ret_u (by first|exact sgn_text u u2 _|exact bytes_eq (by simp[ba_append])),Below.drewN bU _⟩
theorem ttext_10{n d s:List UInt8}{a b:Int}(w:World)(hg:GoodX w){p q c:Nat}{us:List (List UInt8)}(hc:us.length≤c)(hl:us.length≤3)(hb:∀x∈us,x.length≤1000000)(hlt:p<w.heap.size)(h:RowsG encX 1 w (some ⟨p,q,none⟩) us):Calls Tryz.prog 99 #[.agg #[.int .i64 10,.string ⟨n.toArray⟩,.string ⟨d.toArray⟩,.string ⟨s.toArray⟩,.int .i64 a,.int .i64 b],.slice (some ⟨p,q,none⟩) us.length c] w (GiveU w ([109,97,120,40]++(commas us++[41]))):=by
 have HG:=zh hg;clear hg;have b0:=Below.refl w.heap.size w;go_enter Tryz.func99,Tryz.ntmps99
 go_upto_region 1 with fail
 obtain⟨U,hU,bU,s1,rx0,rx1,rx2,rx3,rx4,rx5⟩:=lay6 b0 (.int .i64 10) (.string ⟨n.toArray⟩) (.string ⟨d.toArray⟩) (.string ⟨s.toArray⟩) (.int .i64 a) (.int .i64 b) 55;rw[hU];clear hU s1;have b1:=Below.refl U.heap.size U;replace HG:=zh (HG.out.below bU);have cw:U.cell? ⟨1,10,none⟩=some (.string ⟨#[109,97,120]⟩):=HG.out.wd 10 [109,97,120] rfl;have HC:=zh (tcall_any [109,97,120] p q c us U (by decide) hc hl hb (Nat.lt_of_lt_of_le hlt bU.size) (h.below bU));clear h hb;go_wp2_with fail;refine HC.out.mono ?_;rintro e w2 ⟨rfl,b⟩;go_wp2_with fail;go_ret;exact⟨ret_u (by unfold callT;simp),Below.more bU b⟩
theorem ttext_11{n d s:List UInt8}{a b:Int}(w:World)(hg:GoodX w){p q c:Nat}{us:List (List UInt8)}(hc:us.length≤c)(hl:us.length≤3)(hb:∀x∈us,x.length≤1000000)(hlt:p<w.heap.size)(h:RowsG encX 1 w (some ⟨p,q,none⟩) us):Calls Tryz.prog 99 #[.agg #[.int .i64 11,.string ⟨n.toArray⟩,.string ⟨d.toArray⟩,.string ⟨s.toArray⟩,.int .i64 a,.int .i64 b],.slice (some ⟨p,q,none⟩) us.length c] w (GiveU w ([109,105,110,40]++(commas us++[41]))):=by
 have HG:=zh hg;clear hg;have b0:=Below.refl w.heap.size w;go_enter Tryz.func99,Tryz.ntmps99
 go_upto_region 1 with fail
 obtain⟨U,hU,bU,s1,rx0,rx1,rx2,rx3,rx4,rx5⟩:=lay6 b0 (.int .i64 11) (.string ⟨n.toArray⟩) (.string ⟨d.toArray⟩) (.string ⟨s.toArray⟩) (.int .i64 a) (.int .i64 b) 55;rw[hU];clear hU s1;have b1:=Below.refl U.heap.size U;replace HG:=zh (HG.out.below bU);have cw:U.cell? ⟨1,11,none⟩=some (.string ⟨#[109,105,110]⟩):=HG.out.wd 11 [109,105,110] rfl;have HC:=zh (tcall_any [109,105,110] p q c us U (by decide) hc hl hb (Nat.lt_of_lt_of_le hlt bU.size) (h.below bU));clear h hb;go_wp2_with fail;refine HC.out.mono ?_;rintro e w2 ⟨rfl,b⟩;go_wp2_with fail;go_ret;exact⟨ret_u (by unfold callT;simp),Below.more bU b⟩
theorem ttext_12{n d s:List UInt8}{a b:Int}(w:World)(hg:GoodX w){p q c:Nat}{us:List (List UInt8)}(hc:us.length≤c)(hl:us.length≤3)(hb:∀x∈us,x.length≤1000000)(hlt:p<w.heap.size)(h:RowsG encX 1 w (some ⟨p,q,none⟩) us):Calls Tryz.prog 99 #[.agg #[.int .i64 12,.string ⟨n.toArray⟩,.string ⟨d.toArray⟩,.string ⟨s.toArray⟩,.int .i64 a,.int .i64 b],.slice (some ⟨p,q,none⟩) us.length c] w (GiveU w ([105,102,40]++(commas us++[41]))):=by
 have HG:=zh hg;clear hg;have b0:=Below.refl w.heap.size w;go_enter Tryz.func99,Tryz.ntmps99
 go_upto_region 1 with fail
 obtain⟨U,hU,bU,s1,rx0,rx1,rx2,rx3,rx4,rx5⟩:=lay6 b0 (.int .i64 12) (.string ⟨n.toArray⟩) (.string ⟨d.toArray⟩) (.string ⟨s.toArray⟩) (.int .i64 a) (.int .i64 b) 55;rw[hU];clear hU s1;have b1:=Below.refl U.heap.size U;replace HG:=zh (HG.out.below bU);have cw:U.cell? ⟨1,12,none⟩=some (.string ⟨#[105,102]⟩):=HG.out.wd 12 [105,102] rfl;have HC:=zh (tcall_any [105,102] p q c us U (by decide) hc hl hb (Nat.lt_of_lt_of_le hlt bU.size) (h.below bU));clear h hb;go_wp2_with fail;refine HC.out.mono ?_;rintro e w2 ⟨rfl,b⟩;go_wp2_with fail;go_ret;exact⟨ret_u (by unfold callT;simp),Below.more bU b⟩
theorem ttext_any(x:Nd)(v:Value)(us:List (List UInt8))(w:World)(hg:GoodX w)(ha:arN x.op=some us.length)(ho:okN x=true)(hn:x.num.1.length≤4000)(hd:x.num.2.length≤4000)(hs:x.ast.length≤1000)(hx:-9223372036854775808≤x.a∧x.a≤9223372036854775807)(hy:-9223372036854775808≤x.b∧x.b≤9223372036854775807)
  (hb:∀u∈us,u.length≤1000000) (hv:us≠[]→∃p q c,v=.slice (some ⟨p,q,none⟩) us.length c∧us.length≤c∧RowsG encX 1 w (some ⟨p,q,none⟩) us) :
  Calls Tryz.prog 99 #[.agg #[.int .i64 x.op,.string ⟨x.num.1.toArray⟩,.string ⟨x.num.2.toArray⟩,.string ⟨x.ast.toArray⟩,.int .i64 x.a,.int .i64 x.b],v] w (GiveU w (prF x us)):=by
 obtain⟨op,⟨n,d⟩,s,a,b⟩:=x;dsimp only at ha hn hd hs hx hy ⊢;have cn:=fun w g=>tnumber_any n d w g hn hd;have hof:∀ {z:Int},0≤z→ofS z=wd z:=fun {z} h=>by unfold ofS;rw[if_neg (by omega),wd_pos h];congr 1;omega
 have ca:0≤a→∀w,GoodX w→Calls Tryz.prog 125 #[.int .i64 a] w (GiveS w (ofS a)):=fun h0 w g=>by rw[hof h0];exact wof_any a w hx.1 hx.2 g.tab
 have cb:0≤b→∀w,GoodX w→Calls Tryz.prog 125 #[.int .i64 b] w (GiveS w (ofS b)):=fun h0 w g=>by rw[hof h0];exact wof_any b w hy.1 hy.2 g.tab
 have la:(ofS a).length≤1000:=Nat.le_trans (of_len hx.2) (by omega);have lb:(ofS b).length≤1000:=Nat.le_trans (of_len hy.2) (by omega)
 match us,ha,hb,hv with
 | [],ha,_,_ =>
  have e:prF (Nd.mk op (n,d) s a b) []=leafP (Nd.mk op (n,d) s a b):=rfl;rw[e];rcases Tm.ops0 ha with rfl|rfl|rfl|rfl|rfl
  ·exact ttext_0 w hg (zh cn)
  ·obtain⟨_,_,h0,_⟩:=Tm.ok_px ho rfl;exact ttext_1 w hg (zh (ca h0)) la hs
  ·obtain⟨_,_,h0,_,h1,_⟩:=Tm.ok_avg ho ⟨by show (2:Int)≤2;decide,by show (2:Int)≤4;decide⟩;exact ttext_2 w hg (zh (ca h0)) la (zh (cb (Int.le_trans h0 h1))) lb hs
  ·obtain⟨_,_,h0,_,h1,_⟩:=Tm.ok_avg ho ⟨by show (2:Int)≤3;decide,by show (3:Int)≤4;decide⟩;exact ttext_3 w hg (zh (ca h0)) la (zh (cb (Int.le_trans h0 h1))) lb hs
  ·obtain⟨_,_,h0,_,h1,_⟩:=Tm.ok_avg ho ⟨by show (2:Int)≤4;decide,by show (4:Int)≤4;decide⟩;exact ttext_4 w hg (zh (ca h0)) la (zh (cb (Int.le_trans h0 h1))) lb hs
 | [u],ha,hb,hv =>
  obtain⟨p,q,c,rfl,hc,h⟩:=hv (by simp);obtain rfl:=Tm.ops1 ha;obtain⟨_,_,hp,k0⟩:=txs_rule h (k:=0) rfl
  cases hp
  exact ttext_5 w hg (hb u (by simp)) k0
 | [u,u2],ha,hb,hv =>
  obtain⟨p,q,c,rfl,hc,h⟩:=hv (by simp);obtain⟨_,_,hp,k0⟩:=txs_rule h (k:=0) rfl
  cases hp
  obtain⟨_,_,hp,k1⟩:=txs_rule h (k:=1) rfl
  cases hp
  have hlt:p<w.heap.size:=World.block_lt_of_cell? w ⟨p,_,none⟩ (k0 w (Below.refl _ _));rcases Tm.ops2 ha with rfl|rfl|rfl|rfl|rfl|rfl
  ·exact ttext_6 w hg (hb u (by simp)) (hb u2 (by simp)) k0 k1
  ·exact ttext_7 w hg (hb u (by simp)) (hb u2 (by simp)) k0 k1
  ·exact ttext_8 w hg (hb u (by simp)) (hb u2 (by simp)) k0 k1
  ·exact ttext_9 w hg (hb u (by simp)) (hb u2 (by simp)) k0 k1
  ·exact ttext_10 w hg hc (by show 2≤3;omega) hb hlt h
  ·exact ttext_11 w hg hc (by show 2≤3;omega) hb hlt h
 | [u,u2,u3],ha,hb,hv =>
  obtain⟨p,q,c,rfl,hc,h⟩:=hv (by simp);obtain⟨_,_,hp,k0⟩:=txs_rule h (k:=0) rfl
  cases hp
  have hlt:p<w.heap.size:=World.block_lt_of_cell? w ⟨p,_,none⟩ (k0 w (Below.refl _ _));obtain rfl:=Tm.ops3 ha;exact ttext_12 w hg hc (Nat.le_refl _) hb hlt h
 | _::_::_::_::_,ha,_,_=>have:=Tm.arN_le ha;simp only[List.length_cons]at this;omega
end Go.Proofs.YtghioekjghmdaaaGreatDoor
