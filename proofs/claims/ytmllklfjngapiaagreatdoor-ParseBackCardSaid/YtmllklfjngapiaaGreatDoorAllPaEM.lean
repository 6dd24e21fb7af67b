/- Own work. -/
import Derived.Test.YtmllklfjngapiaaGreatDoorAllPaAM
set_option linter.unusedSimpArgs false
set_option linter.unusedVariables false
set_option maxRecDepth 100000
namespace Go.Proofs.YtmllklfjngapiaaGreatDoor
open Go.ChangeShapes Go.WideShapes Go.RowKit Go.Joins
theorem gLo : Tryz.prog.globalNamed "debenture/word.longest" = some 0 := by kernel_rfl
theorem gLoType:(Tryz.prog.globals[0]?).map (·.type)=some 71:=by kernel_rfl
theorem cellsLo:Tryz.prog.cellsOf 71=3:=by kernel_rfl
theorem gTg : Tryz.prog.globalNamed "debenture/parse.tightness" = some 1 := by kernel_rfl
theorem gTgType:(Tryz.prog.globals[1]?).map (·.type)=some 90:=by kernel_rfl
theorem cellsTg:Tryz.prog.cellsOf 90=14:=by kernel_rfl
theorem longest_of {r : List (String × DataW Unit)} {W : World} (hL : laidMet Tryz.prog (("debenture/word.longest", Rows.laid_debenture_word_longest) :: r) W) : GoodL W := by
 have h : Lib.TabIs Tryz.prog W "debenture/word.longest" .i64 [20, 100, 1] := Lib.tabIs_of_head (rest := r) gLo gLoType Tryz.underlying71 Tryz.underlying3 cellsIntD cellsLo hL
 exact⟨h.cell gLo 0 (by decide),h.cell gLo 1 (by decide),h.cell gLo 2 (by decide)⟩
theorem tight_of {r : List (String × DataW Unit)} {W : World} (hL : laidMet Tryz.prog (("debenture/parse.tightness", Rows.laid_debenture_parse_tightness) :: r) W) : ∀ (k : Nat) (x : Int), tgL[k]? = some x → W.cell? ⟨1, k, none⟩ = some (.int .i64 x) := by
 have h : Lib.TabIs Tryz.prog W "debenture/parse.tightness" .i64 tgL := Lib.tabIs_of_head (rest := r) gTg gTgType Tryz.underlying90 Tryz.underlying3 cellsIntD cellsTg hL
 intro k x hx;have hk:k<tgL.length:=(List.getElem?_eq_some_iff.1 hx).1;have e:=h.cell gTg k hk;rw[List.getD_eq_getElem?_getD,hx]at e;exact e
theorem goodP_of {x0 x1 x3 x5 : String × DataW Unit} {r : List (String × DataW Unit)} {W : World} (hL : laidMet Tryz.prog (x0 :: x1 :: ("internal/strconv.uint64pow10", Rows.laid_internal_strconv_uint64pow10) :: x3 :: ("strconv.ErrRange", Rows.laid_strconv_ErrRange) :: x5 :: ("debenture/decimal.powers", Rows.laid_debenture_decimal_powers) :: ("debenture/term.arities", Rows.laid_debenture_term_arities) :: ("debenture/term.words", Rows.laid_debenture_term_words) :: ("debenture/word.longest", Rows.laid_debenture_word_longest) :: ("debenture/parse.tightness", Rows.laid_debenture_parse_tightness) :: r) W) (hS : W.ShapedOpen Tryz.prog) : GoodP W :=
 ⟨⟨goodT_of hL,goodD_of hL.tail.tail.tail.tail.tail hS,arities_of hL.tail.tail.tail.tail.tail.tail.tail,words_of hL.tail.tail.tail.tail.tail.tail.tail.tail⟩,longest_of hL.tail.tail.tail.tail.tail.tail.tail.tail.tail,goodE_of hL,tight_of hL.tail.tail.tail.tail.tail.tail.tail.tail.tail.tail⟩
end Go.Proofs.YtmllklfjngapiaaGreatDoor
set_option maxHeartbeats 4000000
set_option maxRecDepth 100000
namespace Go.Proofs.YtmllklfjngapiaaGreatDoor
open Go.RowKit
open Wd (Tk okT ktT)
open Pz (Ms takeF rowF)
abbrev rdC(p:Option Addr)(n c:Nat)(k:Int)(mv wv:Value)(d:Int)(ov:Value):List Value:=[.slice p n c,.int .i64 k,mv,wv,.int .i64 d,ov]
def rsK(l:List Tk)(k:Nat):List Pz.K:=(l.drop k).map ktT
theorem rsK_end{l:List Tk}{k:Nat}(h:l[k]?=none):rsK l k=[]:=by
 unfold rsK;rw[List.drop_of_length_le (List.getElem?_eq_none_iff.1 h)]
 rfl
theorem rsK_at{l:List Tk}{k:Nat}{t:Tk}(h:l[k]?=some t):rsK l k=ktT t::rsK l (k+1):=by
 unfold rsK;rw[List.drop_eq_getElem?_toList_append,h]
 rfl
theorem rsK_len(l:List Tk)(k:Nat):(rsK l k).length=l.length-k:=by unfold rsK;simp
theorem rsK_ok{l:List Tk}(h:∀t∈l,okT (ktT t))(k:Nat):∀x∈rsK l k,okT x:=fun x hx=>by
 unfold rsK at hx;obtain⟨t,ht,rfl⟩:=List.mem_map.1 hx;exact h t (List.mem_of_mem_drop ht)
def EntersF(g:FuncId):Prop:=∀ (args:Array Value) (w:World),(callFunc g args).run Tryz.prog w=.ok (.enter g args) w
theorem enters {g : FuncId} {fn : Func} {c : Code} (hf : Tryz.prog.funcs[g]? = some fn) (hname : (fn.name == "runtime.NumGoroutine") = false) (hb : fn.body = some c) : EntersF g := fun args w => by
 have h1 : fn.name ≠ "runtime.NumGoroutine" := by simpa using hname
 simp[callFunc,hf,h1,hb]
variable {R : Nat} {p : Option Addr} {c : Nat} {mv wv ov : Value} {d : Int}
theorem pnext_end(M:Value)(k:Nat)(l:List Tk)(w:World)(h:Blk R (rdC p l.length c (k:Int) mv wv d ov) w)(hx:l[k]?=none) :
  Calls Tryz.prog 71 #[.pointer (some ⟨R,0,none⟩),M] w (GiveB w false):=by
 have h0:=h.c 0 _ rfl;have h1:=h.c 1 _ rfl;have hk2:¬k<l.length:=by have:=List.getElem?_eq_none_iff.1 hx;omega
 have hk3:decide (k<l.length)=false:=decide_eq_false hk2;clear h hx;go_enter Tryz.func71,Tryz.ntmps71;go_wp2_with fail
 go_quiet (fail)
 go_wp2_with fail;go_ret;exact⟨rfl,Below.drewN (Below.refl _ _) _⟩
def NxS(R:Nat)(cs:List Value)(p:Option Addr)(l:List Tk)(v:World):Prop:=Blk R cs v∧Toks v p l
theorem pnext_at{Q:Bool→World→Prop}(g:FuncId)(hent:EntersF g)(caps:Array Value)(k:Nat)(l:List Tk)(t:Tk)(w:World)(ht:Toks w p l)(h:Blk R (rdC p l.length c (k:Int) mv wv d ov) w)(hx:l[k]?=some t)(hk:l.length≤1000000)
  (hc:Calls Tryz.prog g (#[.agg #[.int .i64 (t.kind:Int),.string ⟨t.text.toArray⟩,.int .i64 (t.line:Int),.int .i64 (t.col:Int)]]++caps) w.drew (fun r w'=>∃b,r=.returned (.bool b)∧Q b w')) (hQ:∀b w',Q b w'→NxS R (rdC p l.length c (k:Int) mv wv d ov) p l w') :
  Calls Tryz.prog 71 #[.pointer (some ⟨R,0,none⟩),.func (.func g) #[] caps] w (fun r w'=>∃b,r=.returned (.bool b)∧Q b w'):=by
 have hS:NxS R (rdC p l.length c (k:Int) mv wv d ov) p l w.drew:=⟨h.below (Below.drew (Below.refl _ _)),ht.below (Below.drew (Below.refl _ _))⟩;obtain⟨b,o,rfl,_,_⟩:=ht k t hx;have q0:=fun v (h:NxS R (rdC (some ⟨b,o,none⟩) l.length c (k:Int) mv wv d ov) (some ⟨b,o,none⟩) l v)=>h.1.c 0 _ rfl;have q1:=fun v (h:NxS R (rdC (some ⟨b,o,none⟩) l.length c (k:Int) mv wv d ov) (some ⟨b,o,none⟩) l v)=>h.1.c 1 _ rfl;have rule:∀ (i:Nat) (x:Value),(encT t)[i]?=some x→∀v,NxS R (rdC (some ⟨b,o,none⟩) l.length c (k:Int) mv wv d ov) (some ⟨b,o,none⟩) l v→v.cell? ⟨b,o+k*4+i,none⟩=some x:=fun i x e v h=>by
  obtain⟨b',o',e',_,cc⟩:=h.2 k t hx
  cases e'
  exact cc i x e
 have r0:=rule 0 _ rfl;have r1:=rule 1 _ rfl;have r2:=rule 2 _ rfl;have r3:=rule 3 _ rfl;rw[Nat.add_zero]at r0;have hlt:k<l.length:=(List.getElem?_eq_some_iff.1 hx).1;have hlt2:(k:Int)<(l.length:Int):=by omega
 have HC:=zh hc;have HQ:=zh hQ;have hent':∀ (args:Array Value) (w:World),(callFunc g args).run Tryz.prog w=.ok (.enter g args) w:=hent;clear rule hc hQ ht h hx hent;go_enter Tryz.func71,Tryz.ntmps71;go_wp2_with fail;refine wp_region_noPanic ?_;refine wp_region_held_drew (S:=NxS R (rdC (some ⟨b,o,none⟩) l.length c (k:Int) mv wv d ov) (some ⟨b,o,none⟩) l) (by kernel_rfl) hS (fun hH0=>?_);refine sch_in [0,1,2,3,4,5,6,7,8,9,10,11,12,13,14,15,16,17,18,19,20,21] ?_
 iterate 22 (refine sch_yes (v:=?_) rfl (by kernel_rfl) (by rfl) ?_ (by assumption) ?_;rotate_left 1;(· (intro w hSw;(try dsimp only at hSw);go_simp<;>(with_reducible rfl)));try simp only[Act.put,qA,qB,qC,qD,qE,qF])
 refine sch_out ?_;refine wpAnyH_ready (rs:=[22]) (by kernel_rfl) (by simp) ?_;refine AllReadyH.cons rfl (fun K hK=>?_) AllReadyH.nil
 go_simp
 refine HC.out.mono ?_;rintro e w'' ⟨b',rfl,hq⟩
 (try go_wp2_with fail)
 refine hK.out _ _ (HQ.out _ _ hq) (fun hH1=>?_);clear hK hH0
 try simp only[Act.put,qA,qB,qC,qD,qE,qF]
 refine sch_in [23,24] ?_
 iterate 2 (refine sch_yes (v:=?_) rfl (by kernel_rfl) (by rfl) ?_ (by assumption) ?_;rotate_left 1;(· (intro w hSw;(try dsimp only at hSw);go_simp<;>(with_reducible rfl)));try simp only[Act.put,qA,qB,qC,qD,qE,qF])
 refine sch_out ?_;refine wpAnyH_done (by kernel_rfl) ?_ _;refine NoPanic.normal ?_;go_wp2_with fail;go_ret;exact⟨_,rfl,hq⟩
theorem ptake_end(M:Value)(k:Nat)(l:List Tk)(w:World)(h:Blk R (rdC p l.length c (k:Int) mv wv d ov) w)(hx:l[k]?=none) :
  Calls Tryz.prog 37 #[.pointer (some ⟨R,0,none⟩),M] w (GiveB w false):=by
 have HN:=zh (pnext_end M k l w h hx);clear h hx;go_enter Tryz.func37,Tryz.ntmps37;go_wp2_with fail;refine HN.out.mono ?_;rintro r w1 ⟨rfl,b⟩;have HB:=zh b;clear b HN;go_wp2_with fail;go_ret;exact⟨rfl,HB.out⟩
def TkQ(R:Nat)(Q:Bool→World→Prop)(k:Nat)(r:Ending)(w':World):Prop:=(r=.returned (.bool false)∧Q false w')∨∃w1,r=.returned (.bool true)∧Q true w1∧w'=w1.setCell ⟨R,1,none⟩ (.int .i64 ((k:Int)+1))
theorem ptake_at{Q:Bool→World→Prop}(g:FuncId)(hent:EntersF g)(caps:Array Value)(k:Nat)(l:List Tk)(t:Tk)(w:World)(ht:Toks w p l)(h:Blk R (rdC p l.length c (k:Int) mv wv d ov) w)(hx:l[k]?=some t)(hk:l.length≤1000000)
  (hc:Calls Tryz.prog g (#[.agg #[.int .i64 (t.kind:Int),.string ⟨t.text.toArray⟩,.int .i64 (t.line:Int),.int .i64 (t.col:Int)]]++caps) w.drew (fun r w'=>∃b,r=.returned (.bool b)∧Q b w')) (hQ:∀b w',Q b w'→NxS R (rdC p l.length c (k:Int) mv wv d ov) p l w') :
  Calls Tryz.prog 37 #[.pointer (some ⟨R,0,none⟩),.func (.func g) #[] caps] w (TkQ R Q k):=by
 have HN:=zh (pnext_at g hent caps k l t w ht h hx hk hc hQ);have HQ:=zh hQ;have hkl:(k:Int)<1000000:=by have:=(List.getElem?_eq_some_iff.1 hx).1;omega
 clear h hx hc hQ ht hent;go_enter Tryz.func37,Tryz.ntmps37;go_wp2_with fail;refine HN.out.mono ?_;rintro r w1 ⟨b,rfl,hq⟩;have HB:=zh hq;clear HN
 cases b with
 | false =>
  clear hq;go_wp2_with fail;go_ret;exact .inl ⟨rfl,HB.out⟩
 | true =>
  have hb:=(HQ.out _ _ hq).1;have c1:=hb.c 1 _ rfl;have f1:=hb.f 1 (by simp);clear hq hb;go_wp2_with fail;go_ret;exact .inr ⟨_,rfl,HB.out,rfl⟩
end Go.Proofs.YtmllklfjngapiaaGreatDoor
set_option maxHeartbeats 4000000
set_option maxRecDepth 100000
namespace Go.Proofs.YtmllklfjngapiaaGreatDoor
open Go.RowKit
open Wd (Tk okT ktT)
open Pz (Ms takeF rowF)
def TgI{σ:Type}(I:σ→World→Prop)(Ts:List Nat):Prop:=∀ (s:σ) (V V':World) (Xs:List Nat),I s V→WrB Xs V V'→(∀T∈Ts,T∉Xs)→I s V'
def IsM{σ:Type}(I:σ→World→Prop)(Ts:List Nat)(f:Ms σ)(M:Value)(lo:Nat)(W:World):Prop :=
 ∃g caps,M=.func (.func g) #[] caps∧EntersF g∧∀ (V:World) (s:σ) (t:Tk),(∀b,lo≤b→b<W.heap.size→V.heap[b]?=W.heap[b]?)→W.heap.size≤V.heap.size→GoodP V→I s V→okT (ktT t)→t.text.length≤100 →
  Calls Tryz.prog g (#[.agg #[.int .i64 (t.kind:Int),.string ⟨t.text.toArray⟩,.int .i64 (t.line:Int),.int .i64 (t.col:Int)]]++caps) V (fun r w'=>r=.returned (.bool (f s (ktT t)).1)∧I (f s (ktT t)).2 w'∧WrB Ts V w')
theorem IsM.stay{σ:Type}{I:σ→World→Prop}{Ts:List Nat}{f:Ms σ}{M:Value}{lo lo':Nat}{W W':World}{Xs:List Nat}(h:IsM I Ts f M lo W)(hl:lo'≤lo)(hw:WrB Xs W W')(hx:∀x∈Xs,x<lo∨W.heap.size≤x):IsM I Ts f M lo' W':=by
 obtain⟨g,caps,e,en,k⟩:=h;refine⟨g,caps,e,en,fun V s t h1 h2=>k V s t (fun b hb hb2=>?_) (Nat.le_trans hw.size h2)⟩;exact(h1 b (Nat.le_trans hl hb) (Nat.lt_of_lt_of_le hb2 hw.size)).trans (hw.block b hb2 fun c=>by have:=hx b c;omega)
def TokOk(l:List Tk):Prop:=l.length≤1000000∧∀t∈l,okT (ktT t)∧t.text.length≤100
variable {R : Nat} {p : Option Addr} {c : Nat} {mv wv ov : Value} {d : Int}
def TakeG{σ:Type}(I:σ→World→Prop)(Ts:List Nat)(R:Nat)(p:Option Addr)(c:Nat)(mv wv:Value)(d:Int)(ov:Value)(l:List Tk)(w:World)(F:Bool×σ×List Pz.K)(r:Ending)(w':World):Prop :=
 ∃b s' k',F=(b,s',rsK l k')∧r=.returned (.bool b)∧k'≤l.length∧I s' w'∧Blk R (rdC p l.length c (k':Int) mv wv d ov) w'∧WrB (R::Ts) w w'
theorem ptake_m{σ:Type}{I:σ→World→Prop}{Ts:List Nat}{f:Ms σ}{M:Value}{lo:Nat}{W:World}(hM:IsM I Ts f M lo W)(hTI:TgI I Ts)(s:σ)(k:Nat)(l:List Tk)(w:World)(hw:∀b,lo≤b→b<W.heap.size→w.heap[b]?=W.heap[b]?)(hw2:W.heap.size≤w.heap.size)
  (hg:GoodP w) (hI:I s w) (ht:Toks w p l) (hp:∀a,p=some a→a.block∉Ts) (hR:R∉Ts) (h:Blk R (rdC p l.length c (k:Int) mv wv d ov) w) (hl:TokOk l) (hkl:k≤l.length) :
  Calls Tryz.prog 37 #[.pointer (some ⟨R,0,none⟩),M] w (TakeG I Ts R p c mv wv d ov l w (takeF f s (rsK l k))):=by
 have bd:Below w.heap.size w w.drew:=Below.drew (Below.refl _ _)
 cases hx:l[k]? with
 | none =>
  refine(ptake_end M k l w h hx).mono ?_;rintro r w' ⟨rfl,b⟩;rw[rsK_end hx];exact⟨false,s,k,by rw[rsK_end hx];rfl,rfl,hkl,hTI s w w' [] hI (WrB.of_below b _) (fun _ _ c=>by cases c),h.below b,WrB.of_below b _⟩
 | some t =>
  have hm:=hl.2 t (List.mem_of_getElem? hx);obtain⟨g,caps,rfl,en,kk⟩:=hM;have hc:=kk w.drew s t hw hw2 (hg.below bd) (hTI s w w.drew [] hI (WrB.of_below bd _) (fun _ _ c=>by cases c)) hm.1 hm.2;have hlt:k<l.length:=(List.getElem?_eq_some_iff.1 hx).1;refine(ptake_at (Q:=fun b w'=>b=(f s (ktT t)).1∧I (f s (ktT t)).2 w'∧WrB Ts w w') g en caps k l t w ht h hx hl.1 (hc.mono ?_) ?_).mono ?_
  ·rintro r w' ⟨rfl,a,b⟩;exact⟨_,rfl,rfl,a,(WrB.of_below bd _).trans b⟩
  ·rintro b w' ⟨_,_,b⟩;exact⟨h.wr b hR,ht.wr b hp⟩
  ·rintro r w' (⟨rfl,e,i,b⟩|⟨w1,rfl,⟨e,i,b⟩,rfl⟩)
   ·rw[rsK_at hx,Pz.take_no e.symm];exact⟨false,_,k,by rw[rsK_at hx],rfl,hkl,i,h.wr b hR,b.mono fun x hx=>List.mem_cons_of_mem _ hx⟩
   ·rw[rsK_at hx,Pz.take_yes e.symm];refine⟨true,_,k+1,rfl,rfl,hlt,hTI _ w1 _ [R] i (WrB.of_set w1 R 1 _ List.mem_cons_self) (fun T hT c=>hR (by rw[←List.mem_singleton.1 c];exact hT)),?_,(b.mono fun x hx=>List.mem_cons_of_mem _ hx).trans (WrB.of_set w1 R 1 _ List.mem_cons_self)⟩;have k1:=(h.wr b hR).set 1 (by simp) (.int .i64 ((k:Int)+1));rw[Int.natCast_succ];exact k1
def encF(M:Value):List Value:=[M]
theorem prow_any{σ:Type}{I:σ→World→Prop}{Ts:List Nat}(fs:List (Ms σ))(Ms':List Value){lo:Nat}(W:World)(hTI:TgI I Ts)(hn:Ms'.length=fs.length)(hM:∀ (i:Nat) (M:Value) (f:Ms σ),Ms'[i]?=some M→fs[i]?=some f→IsM I Ts f M lo W)(q:Option Addr)(cq:Nat)
  (hq:RowsG encF 1 W q Ms') (hqb:∀a,q=some a→lo≤a.block) (hlo:∀T∈Ts,T<lo) (hRl:R<lo) (hlen:Ms'.length≤100) (s:σ) (k:Nat) (l:List Tk) (hg:GoodP W) (hgl:∀V,WrB (R::Ts) W V→GoodP V) (hI:I s W) (ht:Toks W p l) (hp:∀a,p=some a→a.block∉R::Ts) (hR:R∉Ts)
  (h:Blk R (rdC p l.length c (k:Int) mv wv d ov) W) (hl:TokOk l) (hkl:k≤l.length) :
  Calls Tryz.prog 80 #[.pointer (some ⟨R,0,none⟩),.slice q Ms'.length cq] W (TakeG I Ts R p c mv wv d ov l W (rowF fs s (rsK l k))):=by
 have HT:=zh hTI;have HM:=zh hM;have HQ:=zh hq;have HQB:=zh hqb;have HLO:=zh hlo;have HRL:=zh hRl;have HGL:=zh hgl;have HTK:=zh ht;have HP:=zh hp;have HR:=zh hR;have HL:=zh hl
 have HI:=zh hI;have HB:=zh h;have HN:=zh hn;have HKL:=zh hkl
 clear hTI hM hq hqb hlo hRl hg hgl hI ht hp hR h hl hn hkl;go_enter Tryz.func80,Tryz.ntmps80;go_wp2_with fail
 go_loopw [9] (fun iv wr=>∃ (i:Nat) (s':σ) (k':Nat),i≤Ms'.length∧iv=.int .i64 i∧Hid (rowF fs s (rsK l k)=rowF (fs.drop i) s' (rsK l k'))∧Hid (k'≤l.length∧I s' wr∧Blk R (rdC p l.length c (k':Int) mv wv d ov) wr∧WrB (R::Ts) W wr)) (fun iv _=>Ms'.length-(intOf iv).toNat)
 case atStart=>exact⟨0,s,k,Nat.zero_le _,rfl,zh rfl,zh ⟨HKL.out,HI.out,HB.out,WrB.refl _ _⟩⟩
 case round =>
  obtain⟨i,s',k',hi,rfl,HF,HJ⟩:=hrel;clear HI HB HKL;by_cases hlt:i<Ms'.length
  ·obtain⟨M,hM⟩:∃M,Ms'[i]?=some M:=⟨_,List.getElem?_eq_getElem hlt⟩;obtain⟨f,hf⟩:∃f,fs[i]?=some f:=⟨_,List.getElem?_eq_getElem (by have:=HN.out;omega)⟩;have hdrop:fs.drop i=f::fs.drop (i+1):=by rw[List.drop_eq_getElem?_toList_append,hf];rfl
   have hq2:=HQ.out.wr HJ.out.2.2.2 (fun a e c=>by
    have k1:=HQB.out a e;rcases List.mem_cons.1 c with c|c
    ·have:=HRL.out;omega
    ·have:=HLO.out _ c;omega)
   obtain⟨bq,oq,rfl,_,cq'⟩:=hq2 i M hM;have c0:=cq' 0 M rfl;rw[Nat.add_zero,Nat.mul_one]at c0;have CT:=zh (ptake_m (HM.out i M f hM hf) HT.out s' k' l wr (fun b hb _=>HJ.out.2.2.2.block b (by omega) (fun c=>by
    rcases List.mem_cons.1 c with c|c
    ·have:=HRL.out;omega
    ·have:=HLO.out _ c;omega)) HJ.out.2.2.2.size (HGL.out _ HJ.out.2.2.2) HJ.out.2.1 (HTK.out.wr HJ.out.2.2.2 HP.out) (fun a e c=>HP.out a e (List.mem_cons_of_mem _ c)) HR.out HJ.out.2.2.1 HL.out HJ.out.1)
   have hil:(i:Int)<(Ms'.length:Int):=by omega
   have HD:=zh hdrop;clear hq2 cq' hf hM hdrop;go_wp2_with fail;refine CT.out.mono ?_;rintro r w1 ⟨b,s2,k2,hF,rfl,hk2,hi2,hb2,hw2⟩;have HJ2:Hid (k2≤l.length∧I s2 w1∧Blk R (rdC p l.length c (k2:Int) mv wv d ov) w1∧WrB (R::Ts) W w1):=zh ⟨hk2,hi2,hb2,HJ.out.2.2.2.trans hw2⟩;have HF2:=zh hF;clear hF hk2 hi2 hb2 hw2 CT c0 HJ
   cases b with
   | true =>
    have HF3:Hid (rowF fs s (rsK l k)=rowF (fs.drop (i+1)) s2 (rsK l k2)):=zh (by
     rw[HF.out,HD.out,Pz.row_cons_yes (by rw[HF2.out]),HF2.out])
    clear HF HF2 HD;go_wp2_with fail;go_roundw
    case rel=>exact⟨i+1,s2,k2,hlt,by go_num,HF3,HJ2⟩
    case measure=>simp[intOf];omega
   | false =>
    have HF3:Hid (rowF fs s (rsK l k)=(false,s2,rsK l k2)):=zh (by
     rw[HF.out,HD.out,Pz.row_cons_no (by rw[HF2.out]),HF2.out])
    clear HF HF2 HD;go_wp2_with fail;go_ret;exact⟨false,s2,k2,HF3.out,rfl,HJ2.out⟩
  ·obtain rfl:i=Ms'.length:=by omega
   have HF3:Hid (rowF fs s (rsK l k)=(true,s',rsK l k')):=zh (by
    rw[HF.out,HN.out,List.drop_of_length_le (Nat.le_refl _)]
    rfl)
   clear HF;go_wp2_with fail;go_ret;exact⟨true,s',k',HF3.out,rfl,HJ.out⟩
end Go.Proofs.YtmllklfjngapiaaGreatDoor
set_option maxHeartbeats 4000000
set_option maxRecDepth 100000
namespace Go.Proofs.YtmllklfjngapiaaGreatDoor
open Go.RowKit
open Wd (Tk okT ktT)
open Tm (Nd plainN arI arN)
open Pz (Wt tgt settleF)
def encW(x:Wt):List Value:=[.int .i64 x.1,.int .i64 (x.2:Int)]
theorem encW_one(x:Wt):∀v∈encW x,v.oneCell'=true:=fun v hv=>by
 unfold encW at hv;simp only[List.mem_cons,List.not_mem_nil,or_false]at hv;rcases hv with rfl|rfl<;>rfl
theorem wtInfo:(Tryz.prog.info? 108).map (fun i=>(i.zero,i.size,i.bytes))=some (some (.agg #[.int .i64 0,.int .i64 0]),2,16):=by kernel_rfl
structure RdS(R:Nat)(Z:List Nat)(p:Option Addr)(c:Nat)(mv:Value)(l:List Tk)(k d:Nat)(K:List Wt)(t:List Nd)(wv ov:Value)(w:World):Prop where
 blk:Blk R (rdC p l.length c (k:Int) mv wv (d:Int) ov) w
 own1:OwnG encW 2 108 (R+1) w wv K.reverse
 own2:OwnG encD 6 40 (R+1) w ov t
 sep:∀g,wv.ownBlock=some g→ov.ownBlock≠some g∧g∉Z
 sep2:∀g,ov.ownBlock=some g→g∉Z
 zlt:∀z∈Z,z<w.heap.size
 rz:R∉Z
structure Kept(R:Nat)(Z:List Nat)(w w':World):Prop where
 b:Below R w w'
 z:∀z∈Z,w'.heap[z]?=w.heap[z]?
theorem Kept.refl(R:Nat)(Z:List Nat)(w:World):Kept R Z w w:=⟨Below.refl _ _,fun _ _=>rfl⟩
theorem Kept.trans{R:Nat}{Z:List Nat}{a b c:World}(h:Kept R Z a b)(k:Kept R Z b c):Kept R Z a c:=⟨h.b.trans k.b,fun z hz=>(k.z z hz).trans (h.z z hz)⟩
variable {R : Nat} {Z : List Nat} {p : Option Addr} {c : Nat} {mv wv ov : Value} {l : List Tk} {k d : Nat} {K : List Wt} {t : List Nd} {w w' : World}
theorem Kept.wr{Xs:List Nat}(h:WrB Xs w w')(hx:∀x∈Xs,R≤x∧x∉Z)(hz:∀z∈Z,z<w.heap.size)(hR:R≤w.heap.size):Kept R Z w w' :=
 ⟨h.below (fun x c=>(hx x c).1) hR,fun z c=>h.block z (hz z c) fun e=>(hx z e).2 c⟩
theorem Kept.of_below(h:Below w.heap.size w w')(hz:∀z∈Z,z<w.heap.size)(hR:R≤w.heap.size):Kept R Z w w' :=
 Kept.wr (WrB.of_below h []) (fun _ c=>by cases c) hz hR
theorem RdS.wr{Xs:List Nat}(h:RdS R Z p c mv l k d K t wv ov w)(hw:WrB Xs w w')(hx:∀x∈Xs,x∈Z):RdS R Z p c mv l k d K t wv ov w' :=
 ⟨h.blk.wr hw fun e=>h.rz (hx _ e),h.own1.wr hw fun g e c=>(h.sep g e).2 (hx g c),h.own2.wr hw fun g e c=>h.sep2 g e (hx g c),h.sep,h.sep2,fun z e=>Nat.lt_of_lt_of_le (h.zlt z e) hw.size,h.rz⟩
theorem RdS.below(h:RdS R Z p c mv l k d K t wv ov w)(hb:Below w.heap.size w w'):RdS R Z p c mv l k d K t wv ov w':=h.wr (WrB.of_below hb []) fun _ c=>by cases c
theorem RdS.more(h:RdS R Z p c mv l k d K t wv ov w){z:Nat}(hz:z<w.heap.size)(h1:∀g,wv.ownBlock=some g→g≠z)(h2:∀g,ov.ownBlock=some g→g≠z)(h3:R≠z):RdS R (z::Z) p c mv l k d K t wv ov w :=
 ⟨h.blk,h.own1,h.own2,fun g e=>⟨(h.sep g e).1,fun c=>by rcases List.mem_cons.1 c with c|c;exact h1 g e c;exact(h.sep g e).2 c⟩,fun g e c=>by rcases List.mem_cons.1 c with c|c;exact h2 g e c;exact h.sep2 g e c,
 fun z' e=>by rcases List.mem_cons.1 e with rfl|e;exact hz;exact h.zlt z' e,fun c=>by rcases List.mem_cons.1 c with c|c;exact h3 c;exact h.rz c⟩
theorem RdS.less{Z':List Nat}(h:RdS R Z p c mv l k d K t wv ov w)(hs:∀z∈Z',z∈Z):RdS R Z' p c mv l k d K t wv ov w :=
 ⟨h.blk,h.own1,h.own2,fun g e=>⟨(h.sep g e).1,fun c=>(h.sep g e).2 (hs g c)⟩,fun g e c=>h.sep2 g e (hs g c),fun z e=>h.zlt z (hs z e),fun c=>h.rz (hs R c)⟩
theorem RdS.alloc(h:RdS R Z p c mv l k d K t wv ov w)(o:Obj):RdS R (w.heap.size::Z) p c mv l k d K t wv ov (w.alloc o):=by
 have hb:Below w.heap.size w (w.alloc o):=Below.alloc (Below.refl _ _) (Nat.le_refl _) o;exact(h.below hb).more (by simp) (fun g e c=>by have:=(own_lt h.own1 g e).2;omega) (fun g e c=>by have:=(own_lt h.own2 g e).2;omega) (fun c=>by have:=h.blk.lt;omega)
theorem wr_row{v:Value}{row:Option Nat}(h:w.grownBy w' row):WrB row.toList w w':=WrB.of_grown h fun k e=>by rw[e];simp
theorem mem_row{v:Value}{g:Nat}(h:g∈v.ownBlock.toList):v.ownBlock=some g:=by
 cases e:v.ownBlock with
 | none=>rw[e]at h;simp at h
 | some x=>rw[e]at h;simp at h;rw[h]
theorem lay_fin{w1 w4:World}{v':Value}{t':List Nd}(h:RdS R Z p c mv l k d K t wv ov w)(hb:Below w.heap.size w w1)(ho:OwnG encD 6 40 (R+1) w4 v' t')(hg:w1.grownBy w4 ov.ownBlock)(hl:v'.ownBlock=ov.ownBlock∨v'.ownBlock=some w1.heap.size) :
  RdS R Z p c mv l k d K t' wv v' (w4.setCell ⟨R,5,none⟩ v')∧Kept R Z w (w4.setCell ⟨R,5,none⟩ v'):=by
 have h1:=h.below hb;have r1:WrB ov.ownBlock.toList w1 w4:=wr_row (v:=ov) hg;have r2:WrB [R] w4 (w4.setCell ⟨R,5,none⟩ v'):=WrB.of_set w4 R 5 v' List.mem_cons_self;have bk:=h1.blk.wr r1 fun e=>by have:=(own_lt h1.own2 _ (mem_row e)).1;omega
 have s5:=bk.set 5 (by simp) v';have vR:∀g,v'.ownBlock=some g→g∉[R]:=fun g e c=>by have:=(own_lt ho g e).1;have:=List.mem_singleton.1 c;omega
 have wR:∀g,wv.ownBlock=some g→g∉[R]:=fun g e c=>by have:=(own_lt h.own1 g e).1;have:=List.mem_singleton.1 c;omega
 have vZ:∀g,v'.ownBlock=some g→g∉Z:=fun g e c=>by
  rcases hl with q|q
  ·exact h.sep2 g (by rw[←q,e]) c
  ·have e1:some g=some w1.heap.size:=by rw[←e,q]
   have:=h1.zlt g c;injection e1 with e1
   omega
 refine⟨⟨s5,(h1.own1.wr r1 fun g e c=>(h.sep g e).1 (mem_row c)).wr r2 wR,ho.wr r2 vR,fun g e=>⟨fun c=>?_,(h.sep g e).2⟩,vZ,fun z e=>?_,h.rz⟩,?_⟩
 ·rcases hl with q|q
  ·exact(h.sep g e).1 (by rw[←q,c])
  ·have e1:some g=some w1.heap.size:=by rw[←c,q]
   have:=(own_lt h1.own1 g e).2;injection e1 with e1
   omega
 ·rw[size_setCell];exact Nat.lt_of_lt_of_le (h1.zlt z e) hg.size
 ·exact(Kept.of_below hb h.zlt (Nat.le_of_lt h.blk.lt)).trans (Kept.trans (Kept.wr r1 (fun x c=>⟨by have:=(own_lt h1.own2 _ (mem_row c)).1;omega,h.sep2 x (mem_row c)⟩) h1.zlt (Nat.le_of_lt h1.blk.lt))
   (Kept.wr r2 (fun x c=>by have:=List.mem_singleton.1 c;subst this;exact⟨Nat.le_refl _,h.rz⟩) (fun z e=>Nat.lt_of_lt_of_le (h1.zlt z e) hg.size) (Nat.le_of_lt (Nat.lt_of_lt_of_le h1.blk.lt hg.size))))
theorem wait_fin{w1 w4:World}{v':Value}{K':List Wt}(h:RdS R Z p c mv l k d K t wv ov w)(hb:Below w.heap.size w w1)(ho:OwnG encW 2 108 (R+1) w4 v' K'.reverse)(hg:w1.grownBy w4 wv.ownBlock)(hl:v'.ownBlock=wv.ownBlock∨v'.ownBlock=some w1.heap.size) :
  RdS R Z p c mv l k d K' t v' ov (w4.setCell ⟨R,3,none⟩ v')∧Kept R Z w (w4.setCell ⟨R,3,none⟩ v'):=by
 have h1:=h.below hb;have r1:WrB wv.ownBlock.toList w1 w4:=wr_row (v:=wv) hg;have r2:WrB [R] w4 (w4.setCell ⟨R,3,none⟩ v'):=WrB.of_set w4 R 3 v' List.mem_cons_self;have bk:=h1.blk.wr r1 fun e=>by have:=(own_lt h1.own1 _ (mem_row e)).1;omega
 have s5:=bk.set 3 (by simp) v';have vR:∀g,v'.ownBlock=some g→g∉[R]:=fun g e c=>by have:=(own_lt ho g e).1;have:=List.mem_singleton.1 c;omega
 have wR:∀g,ov.ownBlock=some g→g∉[R]:=fun g e c=>by have:=(own_lt h.own2 g e).1;have:=List.mem_singleton.1 c;omega
 have vZ:∀g,v'.ownBlock=some g→ov.ownBlock≠some g∧g∉Z:=fun g e=>by
  rcases hl with q|q
  ·exact h.sep g (by rw[←q,e])
  ·have e1:some g=some w1.heap.size:=by rw[←e,q]
   injection e1 with e1
   exact⟨fun c=>by have:=(own_lt h1.own2 g c).2;omega,fun c=>by have:=h1.zlt g c;omega⟩
 refine⟨⟨s5,ho.wr r2 vR,(h1.own2.wr r1 fun g e c=>(h.sep g (mem_row c)).1 e).wr r2 wR,vZ,h.sep2,fun z e=>?_,h.rz⟩,?_⟩
 ·rw[size_setCell];exact Nat.lt_of_lt_of_le (h1.zlt z e) hg.size
 ·exact(Kept.of_below hb h.zlt (Nat.le_of_lt h.blk.lt)).trans (Kept.trans (Kept.wr r1 (fun x c=>⟨by have:=(own_lt h1.own1 _ (mem_row c)).1;omega,(h.sep x (mem_row c)).2⟩) h1.zlt (Nat.le_of_lt h1.blk.lt))
   (Kept.wr r2 (fun x c=>by have:=List.mem_singleton.1 c;subst this;exact⟨Nat.le_refl _,h.rz⟩) (fun z e=>Nat.lt_of_lt_of_le (h1.zlt z e) hg.size) (Nat.le_of_lt (Nat.lt_of_lt_of_le h1.blk.lt hg.size))))
theorem cut_fin{K':List Wt}{v':Value}(h:RdS R Z p c mv l k d K t wv ov w)(ho:OwnG encW 2 108 (R+1) w v' K'.reverse)(hl:v'.ownBlock=wv.ownBlock) :
  RdS R Z p c mv l k d K' t v' ov (w.setCell ⟨R,3,none⟩ v')∧Kept R Z w (w.setCell ⟨R,3,none⟩ v'):=by
 have r2:WrB [R] w (w.setCell ⟨R,3,none⟩ v'):=WrB.of_set w R 3 v' List.mem_cons_self;have vR:∀g,v'.ownBlock=some g→g∉[R]:=fun g e c=>by have:=(own_lt ho g e).1;have:=List.mem_singleton.1 c;omega
 have wR:∀g,ov.ownBlock=some g→g∉[R]:=fun g e c=>by have:=(own_lt h.own2 g e).1;have:=List.mem_singleton.1 c;omega
 exact⟨⟨h.blk.set 3 (by simp) v',ho.wr r2 vR,h.own2.wr r2 wR,fun g e=>h.sep g (by rw[←hl,e]),h.sep2,fun z e=>by rw[size_setCell];exact h.zlt z e,h.rz⟩,
  Kept.wr r2 (fun x c=>by have:=List.mem_singleton.1 c;subst this;exact⟨Nat.le_refl _,h.rz⟩) h.zlt (Nat.le_of_lt h.blk.lt)⟩
def RdG(R:Nat)(Z:List Nat)(p:Option Addr)(c:Nat)(mv:Value)(l:List Tk)(k d:Nat)(K:List Wt)(t:List Nd)(w:World)(v:Value)(r:Ending)(w':World):Prop :=
 ∃wv ov,r=.returned v∧RdS R Z p c mv l k d K t wv ov w'∧Kept R Z w w'
theorem pwait_any(op:Int)(h:RdS R Z p c mv l k d K t wv ov w)(hK:K.length≤2000000):Calls Tryz.prog 39 #[.pointer (some ⟨R,0,none⟩),.int .i64 op] w (RdG R Z p c mv l k d ((op,0)::K) t w (.tuple #[])):=by
 have HH:=zh h;have c3:=h.blk.c 3 _ rfl;have HLT:=zh h.blk.lt;have HK:=zh hK;clear h hK;go_enter Tryz.func39,Tryz.ntmps39;go_wp2_with (at_builtin;refine haltG ?_);show wpList _ _ _ _ _ _;have hb:Below w.heap.size w (w.alloc (.cells #[.int .i64 op,.int .i64 0] 108)):=Below.alloc (Below.refl _ _) (Nat.le_refl _) _;refine wpList_append_G rfl _ _ 47 108 rfl Tryz.underlying47 wtInfo rfl (by decide) (by decide) (fun _=>rfl) encW_one (R+1) wv K.reverse rfl (HH.out.own1.wr (WrB.of_below hb []) (fun _ _ c=>by cases c)) ⟨w.heap.size,0,none⟩ ((op,0):Wt) 1 rfl (rowsOne (enc:=encW) (k:=2) w ((op,0):Wt) 108 _ rfl) (by rw[List.length_reverse];have:=HK.out;omega) (by have:=HLT.out;simp;omega) ?_;intro v' w4 ho4 hg4 hl4;obtain⟨qa4,cq4,e4,z1,z2,z3⟩:=ownG_rows (enc:=encW) (k:=2) (fun _=>rfl) ho4;clear z1 z2 z3;obtain⟨n4,hn4⟩:∃n4,n4=(K.reverse++[((op,0):Wt)]).length:=⟨_,rfl⟩;rw[←hn4]at e4;subst e4;clear hn4;have bk:=(HH.out.below hb).blk.wr (wr_row (v:=wv) hg4) (fun e=>by have:=(own_lt (HH.out.below hb).own1 _ (mem_row e)).1;omega);have c4:=bk.c 3 _ rfl;have f4:=bk.f 3 (by simp);have HF:=zh (wait_fin (K':=(op,0)::K) HH.out hb (by rw[List.reverse_cons];exact ho4) hg4 hl4);clear hb ho4 hg4 hl4 bk c3 HH;go_wp2_with fail;refine bodyPost_end (v:=.tuple #[]) (by simp[results,Tryz.results39,go_sem]) rfl ?_;exact⟨_,_,rfl,HF.out.1,HF.out.2⟩
def LayS(R:Nat)(cs:List Value)(b:Nat)(x:Nd)(v:World):Prop:=Blk R cs v∧Blk b (encD x) v∧R≠b
theorem LayS.wr{cs:List Value}{b:Nat}{x:Nd}{v v':World}{Xs:List Nat}(h:LayS R cs b x v)(hw:WrB Xs v v')(h1:R∉Xs)(h2:b∉Xs):LayS R cs b x v':=⟨h.1.wr hw h1,h.2.1.wr hw h2,h.2.2⟩
theorem LayS.below{cs:List Value}{b:Nat}{x:Nd}{v v':World}(h:LayS R cs b x v)(hw:Below v.heap.size v v'):LayS R cs b x v':=⟨h.1.below hw,h.2.1.below hw,h.2.2⟩
theorem LayS.set{p:Option Addr}{n c:Nat}{k d:Int}{mv wv ov:Value}{b:Nat}{x:Nd}{v:World}(h:LayS R (rdC p n c k mv wv d ov) b x v)(v':Value):LayS R (rdC p n c k mv wv d v') b x (v.setCell ⟨R,5,none⟩ v') :=
 ⟨h.1.set 5 (by simp) v',h.2.1.wr (WrB.of_set v R 5 v' List.mem_cons_self) (fun c=>h.2.2 (List.mem_singleton.1 c).symm),h.2.2⟩
theorem ndbox(x:Nd)(w:World):∃U,w.alloc (.cells #[.int .i64 x.op,.string ⟨x.num.1.toArray⟩,.string ⟨x.num.2.toArray⟩,.string ⟨x.ast.toArray⟩,.int .i64 x.a,.int .i64 x.b] 40)=U∧Below w.heap.size w U∧U.heap.size=w.heap.size+1∧Blk w.heap.size (encD x) U :=
 ⟨_,rfl,Below.alloc (Below.refl _ _) (Nat.le_refl _) _,by simp,blk_new w #[.int .i64 x.op,.string ⟨x.num.1.toArray⟩,.string ⟨x.num.2.toArray⟩,.string ⟨x.ast.toArray⟩,.int .i64 x.a,.int .i64 x.b] 40⟩
theorem play_any(x:Nd)(h:RdS R Z p c mv l k d K t wv ov w)(ht:t.length≤2000000):Calls Tryz.prog 41 #[.pointer (some ⟨R,0,none⟩),.agg #[.int .i64 x.op,.string ⟨x.num.1.toArray⟩,.string ⟨x.num.2.toArray⟩,.string ⟨x.ast.toArray⟩,.int .i64 x.a,.int .i64 x.b]] w (fun r w'=>∃ov',r=.returned (.tuple #[])∧RdS R Z p c mv l k d K (t++[x]) wv ov' w'∧Kept R Z w w'):=by
 obtain⟨U,hU,bU,sU,kU⟩:=ndbox x w;have HX:=zh (h.below bU);have HB0:=zh bU;have HZ:=zh h.zlt;have HRl:=zh (Nat.le_of_lt h.blk.lt);have HT:=zh ht;obtain⟨U0,hU0⟩:∃U0,U0=w.heap.size:=⟨_,rfl⟩;have HU0:Hid (∀g,ov.ownBlock=some g→g<U0):=zh (fun g e=>by rw[hU0];exact(own_lt h.own2 g e).2);have hN:LayS R (rdC p l.length c (k:Int) mv wv (d:Int) ov) U0 x U:=⟨HX.out.blk,by rw[hU0];exact kU,by rw[hU0];exact Nat.ne_of_lt h.blk.lt⟩;have hN0:=hN.below (Below.drew (Below.refl _ _));have hbA:Below U.heap.size U U.drew:=Below.drew (Below.refl _ _);have hbB:Below U.drew.heap.size U.drew (U.drew.alloc (.cells #[.int .i64 x.op,.string ⟨x.num.1.toArray⟩,.string ⟨x.num.2.toArray⟩,.string ⟨x.ast.toArray⟩,.int .i64 x.a,.int .i64 x.b] 40)):=Below.alloc (Below.refl _ _) (Nat.le_refl _) _;have hN1:=hN0.below hbB;have q0:=fun v (h:∃o,LayS R (rdC p l.length c (k:Int) mv wv (d:Int) o) U0 x v)=>h.elim fun _ h=>h.2.1.c 0 _ rfl;have q1:=fun v (h:∃o,LayS R (rdC p l.length c (k:Int) mv wv (d:Int) o) U0 x v)=>h.elim fun _ h=>h.2.1.c 1 _ rfl;have q2:=fun v (h:∃o,LayS R (rdC p l.length c (k:Int) mv wv (d:Int) o) U0 x v)=>h.elim fun _ h=>h.2.1.c 2 _ rfl;have q3:=fun v (h:∃o,LayS R (rdC p l.length c (k:Int) mv wv (d:Int) o) U0 x v)=>h.elim fun _ h=>h.2.1.c 3 _ rfl;have q4:=fun v (h:∃o,LayS R (rdC p l.length c (k:Int) mv wv (d:Int) o) U0 x v)=>h.elim fun _ h=>h.2.1.c 4 _ rfl;have q5:=fun v (h:∃o,LayS R (rdC p l.length c (k:Int) mv wv (d:Int) o) U0 x v)=>h.elim fun _ h=>h.2.1.c 5 _ rfl;clear bU kU h ht hN sU;go_enter Tryz.func41,Tryz.ntmps41
 go_wp2_with fail
 (try rw[←hU0])
 clear hU0;refine wp_region_noPanic ?_;refine wp_region_held_drew (S:=fun w'=>∃o,LayS R (rdC p l.length c (k:Int) mv wv (d:Int) o) U0 x w') (by kernel_rfl) ⟨ov,hN0⟩ (fun hH0=>?_);refine sch_in [0,1,2,3,5] ?_
 iterate 5 (refine sch_yes (v:=?_) rfl (by kernel_rfl) (by rfl) ?_ (by assumption) ?_;rotate_left 1;(· (intro w hSw;(try dsimp only at hSw);go_simp<;>(with_reducible rfl)));try simp only[Act.put,qA,qB,qC,qD,qE,qF])
 refine sch_out ?_;refine wpAnyH_ready (rs:=[4,6]) (by kernel_rfl) (by simp) ?_;refine AllReadyH.cons rfl (fun K' hK'=>?_) (AllReadyH.cons rfl (fun K' hK'=>?_) (AllReadyH.nil))
 ·have c5:U.drew.cell? ⟨R,5,none⟩=some ov:=hN0.1.c 5 _ rfl
  go_simp
  refine hK'.out _ _ ⟨ov,hN0⟩ (fun hHa=>?_);clear c5;clear hK'
  try simp only[Act.put,qA,qB,qC,qD,qE,qF]
  refine wpAnyH_ready (rs:=[6]) (by kernel_rfl) (by simp) ?_;refine AllReadyH.cons rfl (fun K' hK'=>?_) (AllReadyH.nil)
  go_simp
  refine hK'.out _ _ ⟨ov,hN1⟩ (fun hHb=>?_);clear hK'
  try simp only[Act.put,qA,qB,qC,qD,qE,qF]
  refine wpAnyH_ready (rs:=[7]) (by kernel_rfl) (by simp) ?_;refine AllReadyH.cons rfl (fun K' hK'=>?_) (AllReadyH.nil);rw[if_pos (by rfl)];refine wp_append_G _ _ 24 40 rfl Tryz.underlying24 ndInfo rfl (by decide) (by decide) (fun _=>rfl) encD_one (R+1) ov t rfl (HX.out.own2.wr (WrB.of_below (Below.more hbA hbB) []) (fun _ _ c=>by cases c)) ⟨U.heap.size,0,none⟩ x 1 rfl (rowsOne (enc:=encD) (k:=6) U.drew x 40 _ rfl) (by have:=HT.out;omega) (by have:=HX.out.blk.lt;simp;omega) ?_;intro v' w4 ho4 hg4 hl4;obtain⟨qa4,cq4,e4,z1,z2,z3⟩:=ownG_rows (enc:=encD) (k:=6) (fun _=>rfl) ho4;clear z1 z2 z3;obtain⟨n4,hn4⟩:∃n4,n4=(t++[x]).length:=⟨_,rfl⟩;rw[←hn4]at e4;subst e4;clear hn4;have hN4:LayS R (rdC p l.length c (k:Int) mv wv (d:Int) ov) U0 x w4:=hN1.wr (wr_row (v:=ov) hg4) (fun e=>by have:=(own_lt HX.out.own2 _ (mem_row e)).1;omega) (fun e=>Nat.lt_irrefl _ (HU0.out _ (mem_row e)));refine hK'.out _ _ ⟨ov,hN4⟩ (fun hHc=>?_);clear hK'
  try simp only[Act.put,qA,qB,qC,qD,qE,qF]
  refine sch_in [8,9] ?_
  iterate 2 (refine sch_yes (v:=?_) rfl (by kernel_rfl) (by rfl) ?_ (by assumption) ?_;rotate_left 1;(· (intro w hSw;(try dsimp only at hSw);go_simp<;>(with_reducible rfl)));try simp only[Act.put,qA,qB,qC,qD,qE,qF])
  refine sch_out ?_;refine wpAnyH_ready (rs:=[10]) (by kernel_rfl) (by simp) ?_;refine AllReadyH.cons rfl (fun K' hK'=>?_) (AllReadyH.nil);have c5:=hN4.1.c 5 _ rfl;have f5:=hN4.1.f 5 (by simp);have hfin:=lay_fin (v':=.slice qa4 n4 cq4) HX.out (Below.more hbA hbB) ho4 hg4 hl4
  go_simp
  refine hK'.out _ _ ⟨.slice qa4 n4 cq4,hN4.set (.slice qa4 n4 cq4)⟩ (fun hHd=>?_);clear hK'
  try simp only[Act.put,qA,qB,qC,qD,qE,qF]
  refine wpAnyH_done (by kernel_rfl) ?_ _;refine NoPanic.normal ?_;have HF:=zh hfin;clear hH0 hHa hHb hHc hHd hfin hg4 hl4 hN4 ho4 hN0 hN1 c5 f5 q0 q1 q2 q3 q4 q5;go_wp2_with fail;refine bodyPost_end (v:=.tuple #[]) (by simp[results,Tryz.results41,go_sem]) rfl ?_;exact⟨_,rfl,HF.out.1,Kept.trans (Kept.of_below HB0.out HZ.out HRl.out) HF.out.2⟩
 ·go_simp
  refine hK'.out _ _ ⟨ov,hN1⟩ (fun hHb=>?_);clear hK'
  try simp only[Act.put,qA,qB,qC,qD,qE,qF]
  refine wpAnyH_ready (rs:=[4]) (by kernel_rfl) (by simp) ?_;refine AllReadyH.cons rfl (fun K' hK'=>?_) (AllReadyH.nil);have c5:(U.alloc (.cells #[.int .i64 x.op,.string ⟨x.num.1.toArray⟩,.string ⟨x.num.2.toArray⟩,.string ⟨x.ast.toArray⟩,.int .i64 x.a,.int .i64 x.b] 40)).cell? ⟨R,5,none⟩=some ov:=hN1.1.c 5 _ rfl
  go_simp
  refine hK'.out _ _ ⟨ov,hN1⟩ (fun hHa=>?_);clear c5;clear hK'
  try simp only[Act.put,qA,qB,qC,qD,qE,qF]
  refine wpAnyH_ready (rs:=[7]) (by kernel_rfl) (by simp) ?_;refine AllReadyH.cons rfl (fun K' hK'=>?_) (AllReadyH.nil);rw[if_pos (by rfl)];refine wp_append_G _ _ 24 40 rfl Tryz.underlying24 ndInfo rfl (by decide) (by decide) (fun _=>rfl) encD_one (R+1) ov t rfl (HX.out.own2.wr (WrB.of_below (Below.more hbA hbB) []) (fun _ _ c=>by cases c)) ⟨U.heap.size,0,none⟩ x 1 rfl (rowsOne (enc:=encD) (k:=6) U.drew x 40 _ rfl) (by have:=HT.out;omega) (by have:=HX.out.blk.lt;simp;omega) ?_;intro v' w4 ho4 hg4 hl4;obtain⟨qa4,cq4,e4,z1,z2,z3⟩:=ownG_rows (enc:=encD) (k:=6) (fun _=>rfl) ho4;clear z1 z2 z3;obtain⟨n4,hn4⟩:∃n4,n4=(t++[x]).length:=⟨_,rfl⟩;rw[←hn4]at e4;subst e4;clear hn4;have hN4:LayS R (rdC p l.length c (k:Int) mv wv (d:Int) ov) U0 x w4:=hN1.wr (wr_row (v:=ov) hg4) (fun e=>by have:=(own_lt HX.out.own2 _ (mem_row e)).1;omega) (fun e=>Nat.lt_irrefl _ (HU0.out _ (mem_row e)));refine hK'.out _ _ ⟨ov,hN4⟩ (fun hHc=>?_);clear hK'
  try simp only[Act.put,qA,qB,qC,qD,qE,qF]
  refine sch_in [8,9] ?_
  iterate 2 (refine sch_yes (v:=?_) rfl (by kernel_rfl) (by rfl) ?_ (by assumption) ?_;rotate_left 1;(· (intro w hSw;(try dsimp only at hSw);go_simp<;>(with_reducible rfl)));try simp only[Act.put,qA,qB,qC,qD,qE,qF])
  refine sch_out ?_;refine wpAnyH_ready (rs:=[10]) (by kernel_rfl) (by simp) ?_;refine AllReadyH.cons rfl (fun K' hK'=>?_) (AllReadyH.nil);have c5:=hN4.1.c 5 _ rfl;have f5:=hN4.1.f 5 (by simp);have hfin:=lay_fin (v':=.slice qa4 n4 cq4) HX.out (Below.more hbA hbB) ho4 hg4 hl4
  go_simp
  refine hK'.out _ _ ⟨.slice qa4 n4 cq4,hN4.set (.slice qa4 n4 cq4)⟩ (fun hHd=>?_);clear hK'
  try simp only[Act.put,qA,qB,qC,qD,qE,qF]
  refine wpAnyH_done (by kernel_rfl) ?_ _;refine NoPanic.normal ?_;have HF:=zh hfin;clear hH0 hHa hHb hHc hHd hfin hg4 hl4 hN4 ho4 hN0 hN1 c5 f5 q0 q1 q2 q3 q4 q5;go_wp2_with fail;refine bodyPost_end (v:=.tuple #[]) (by simp[results,Tryz.results41,go_sem]) rfl ?_;exact⟨_,rfl,HF.out.1,Kept.trans (Kept.of_below HB0.out HZ.out HRl.out) HF.out.2⟩
end Go.Proofs.YtmllklfjngapiaaGreatDoor
