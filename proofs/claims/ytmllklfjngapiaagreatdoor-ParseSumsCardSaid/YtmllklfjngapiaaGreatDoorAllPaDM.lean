/- Own work. -/
import Derived.Test.YtmllklfjngapiaaGreatDoorAllPaAM
set_option linter.unusedSimpArgs false
set_option linter.unusedVariables false
set_option maxRecDepth 100000
namespace Go.Proofs.YtmllklfjngapiaaGreatDoor
open Go.ChangeShapes Go.WideShapes Go.RowKit Go.Joins
theorem gLo : Tryz.prog.globalNamed "debenture/word.longest" = some 0 := by kernel_rfl
theorem gLoType:(Tryz.prog.globals[0]?).map (·.type)=some 71:=by kernel_rfl
theorem cellsLo:Tryz.prog.cellsOf 71=3:=by kernel_rfl
theorem gTg : Tryz.prog.globalNamed "debenture/parse.tightness" = some 1 := by kernel_rfl
theorem gTgType:(Tryz.prog.globals[1]?).map (·.type)=some 90:=by kernel_rfl
theorem cellsTg:Tryz.prog.cellsOf 90=14:=by kernel_rfl
theorem longest_of {r : List (String × DataW Unit)} {W : World} (hL : laidMet Tryz.prog (("debenture/word.longest", Rows.laid_debenture_word_longest) :: r) W) : GoodL W := by
 have h : Lib.TabIs Tryz.prog W "debenture/word.longest" .i64 [20, 100, 1] := Lib.tabIs_of_head (rest := r) gLo gLoType Tryz.underlying71 Tryz.underlying3 cellsIntD cellsLo hL
 exact⟨h.cell gLo 0 (by decide),h.cell gLo 1 (by decide),h.cell gLo 2 (by decide)⟩
theorem tight_of {r : List (String × DataW Unit)} {W : World} (hL : laidMet Tryz.prog (("debenture/parse.tightness", Rows.laid_debenture_parse_tightness) :: r) W) : ∀ (k : Nat) (x : Int), tgL[k]? = some x → W.cell? ⟨1, k, none⟩ = some (.int .i64 x) := by
 have h : Lib.TabIs Tryz.prog W "debenture/parse.tightness" .i64 tgL := Lib.tabIs_of_head (rest := r) gTg gTgType Tryz.underlying90 Tryz.underlying3 cellsIntD cellsTg hL
 intro k x hx;have hk:k<tgL.length:=(List.getElem?_eq_some_iff.1 hx).1;have e:=h.cell gTg k hk;rw[List.getD_eq_getElem?_getD,hx]at e;exact e
theorem goodP_of {x0 x1 x3 x5 : String × DataW Unit} {r : List (String × DataW Unit)} {W : World} (hL : laidMet Tryz.prog (x0 :: x1 :: ("internal/strconv.uint64pow10", Rows.laid_internal_strconv_uint64pow10) :: x3 :: ("strconv.ErrRange", Rows.laid_strconv_ErrRange) :: x5 :: ("debenture/decimal.powers", Rows.laid_debenture_decimal_powers) :: ("debenture/term.arities", Rows.laid_debenture_term_arities) :: ("debenture/term.words", Rows.laid_debenture_term_words) :: ("debenture/word.longest", Rows.laid_debenture_word_longest) :: ("debenture/parse.tightness", Rows.laid_debenture_parse_tightness) :: r) W) (hS : W.ShapedOpen Tryz.prog) : GoodP W :=
 ⟨⟨goodT_of hL,goodD_of hL.tail.tail.tail.tail.tail hS,arities_of hL.tail.tail.tail.tail.tail.tail.tail,words_of hL.tail.tail.tail.tail.tail.tail.tail.tail⟩,longest_of hL.tail.tail.tail.tail.tail.tail.tail.tail.tail,goodE_of hL,tight_of hL.tail.tail.tail.tail.tail.tail.tail.tail.tail.tail⟩
end Go.Proofs.YtmllklfjngapiaaGreatDoor
set_option maxRecDepth 100000
namespace Go.Proofs.YtmllklfjngapiaaGreatDoor
open Go.ChangeShapes Go.WideShapes Go.RowKit Go.Joins Go.Deep
def Its(w:World)(q:Option Addr)(l:List Int):Prop:=∀ (j:Nat) (x:Int),l[j]?=some x→∃b o,q=some ⟨b,o,none⟩∧b<w.heap.size∧w.cell? ⟨b,o+j,none⟩=some (.int .i64 x)
section
variable {H : Type} {enc : TypeId × Value → H} {w : World} {base : Nat} {sp : Nat → Bool} {held : Bool}
theorem open_ints{v:Value}{d:DataW H}{p:List MemPlace}(hv:∃ (q:Option Addr) (l c:Nat),v=.slice q l c)(h:DataW.Trod enc Tryz.prog w 0 (fun _=>true) held 34 v d p) :
  ∃ (q:Option Addr) (c:Nat) (ns:List Int),v=.slice q ns.length c∧ns.length≤c∧Its w q ns∧∀u∈ns,-9223372036854775808≤u∧u≤9223372036854775807:=by
 obtain⟨q0,l0,c0,rfl⟩:=hv;obtain⟨fuel,hf⟩:=h;have hf:DataW.trod enc Tryz.prog w 0 (fun _=>true) held fuel 34 [.slice q0 l0 c0]=some (d,p):=hf;rcases open_slice1 Tryz.underlying34 cellsInt hf with ⟨hcs,hx⟩|⟨a,len,cap,m,n,V,D,Pl,hcs,_,hl,hm,hmm,hx,hel⟩
 ·simp only[List.cons.injEq,Value.slice.injEq,and_true]at hcs;obtain⟨rfl,rfl,rfl⟩:=hcs;exact⟨none,0,[],rfl,Nat.le_refl _,(fun j u hu=>by cases hu),fun u hu=>by cases hu⟩
 ·simp only[List.cons.injEq,Value.slice.injEq,and_true]at hcs;obtain⟨rfl,rfl,rfl⟩:=hcs;simp only[if_true]at hmm;subst hmm;have hone:∀i,i<l0→∃u:Int,w.cell? (a.add i)=some (.int .i64 u)∧(-9223372036854775808≤u∧u≤9223372036854775807):=fun i hi=>by
   obtain⟨h1,h2⟩:=hel i (by omega);obtain⟨u,e,_,hs⟩:=DataW.trod_int Tryz.underlying3 h2;have f:V i=.int .i64 u:=(List.cons.inj e).1;exact⟨u,by rw[h1,f],by simpa [Lit.wf,IntKind.min,IntKind.max,IntKind.signed,IntKind.bits] using hs⟩
  obtain⟨L,hL⟩:=choose_lt (α:=Int) hone;have hlen:((List.range l0).map L).length=l0:=by rw[List.length_map,List.length_range]
  have hat:∀j u,((List.range l0).map L)[j]?=some u→j<l0∧u=L j:=fun j u hx2=>by
   have hj:j<l0:=by
    have:=(List.getElem?_eq_some_iff.1 hx2).1;rw[hlen]at this;exact this
   rw[List.getElem?_map,List.getElem?_range hj]at hx2;exact⟨hj,(Option.some.inj hx2).symm⟩
  refine⟨some a,_,(List.range l0).map L,by rw[hlen],by rw[hlen];exact hl,fun j x hx2=>?_,fun u hu=>?_⟩
  ·obtain⟨hj,rfl⟩:=hat j x hx2;obtain⟨g0,_⟩:=hL j hj;have hs:a.spot=none:=by
    have:=World.cell?_spot (hL 0 (by omega)).1
    simpa [Addr.add] using this
   obtain⟨b,o,s⟩:=a;obtain rfl:s=none:=hs;rw[Addr.add_lit]at g0;refine⟨b,o,rfl,?_,g0⟩;exact World.block_lt_of_cell? w ⟨b,o+j,none⟩ g0
  ·obtain⟨j,hx2⟩:=List.getElem?_of_mem hu;obtain⟨hj,rfl⟩:=hat j u hx2;exact(hL j hj).2
end
end Go.Proofs.YtmllklfjngapiaaGreatDoor
set_option maxHeartbeats 4000000
set_option maxRecDepth 100000
namespace Go.Proofs.YtmllklfjngapiaaGreatDoor
open Go.RowKit
open Wd (Tk okT ktT)
open Pz (Ms takeF rowF)
abbrev rdC(p:Option Addr)(n c:Nat)(k:Int)(mv wv:Value)(d:Int)(ov:Value):List Value:=[.slice p n c,.int .i64 k,mv,wv,.int .i64 d,ov]
def rsK(l:List Tk)(k:Nat):List Pz.K:=(l.drop k).map ktT
theorem rsK_end{l:List Tk}{k:Nat}(h:l[k]?=none):rsK l k=[]:=by
 unfold rsK;rw[List.drop_of_length_le (List.getElem?_eq_none_iff.1 h)]
 rfl
theorem rsK_at{l:List Tk}{k:Nat}{t:Tk}(h:l[k]?=some t):rsK l k=ktT t::rsK l (k+1):=by
 unfold rsK;rw[List.drop_eq_getElem?_toList_append,h]
 rfl
theorem rsK_len(l:List Tk)(k:Nat):(rsK l k).length=l.length-k:=by unfold rsK;simp
theorem rsK_ok{l:List Tk}(h:∀t∈l,okT (ktT t))(k:Nat):∀x∈rsK l k,okT x:=fun x hx=>by
 unfold rsK at hx;obtain⟨t,ht,rfl⟩:=List.mem_map.1 hx;exact h t (List.mem_of_mem_drop ht)
def EntersF(g:FuncId):Prop:=∀ (args:Array Value) (w:World),(callFunc g args).run Tryz.prog w=.ok (.enter g args) w
theorem enters {g : FuncId} {fn : Func} {c : Code} (hf : Tryz.prog.funcs[g]? = some fn) (hname : (fn.name == "runtime.NumGoroutine") = false) (hb : fn.body = some c) : EntersF g := fun args w => by
 have h1 : fn.name ≠ "runtime.NumGoroutine" := by simpa using hname
 simp[callFunc,hf,h1,hb]
variable {R : Nat} {p : Option Addr} {c : Nat} {mv wv ov : Value} {d : Int}
theorem pnext_end(M:Value)(k:Nat)(l:List Tk)(w:World)(h:Blk R (rdC p l.length c (k:Int) mv wv d ov) w)(hx:l[k]?=none) :
  Calls Tryz.prog 71 #[.pointer (some ⟨R,0,none⟩),M] w (GiveB w false):=by
 have h0:=h.c 0 _ rfl;have h1:=h.c 1 _ rfl;have hk2:¬k<l.length:=by have:=List.getElem?_eq_none_iff.1 hx;omega
 have hk3:decide (k<l.length)=false:=decide_eq_false hk2;clear h hx;go_enter Tryz.func71,Tryz.ntmps71;go_wp2_with fail
 go_quiet (fail)
 go_wp2_with fail;go_ret;exact⟨rfl,Below.drewN (Below.refl _ _) _⟩
def NxS(R:Nat)(cs:List Value)(p:Option Addr)(l:List Tk)(v:World):Prop:=Blk R cs v∧Toks v p l
theorem pnext_at{Q:Bool→World→Prop}(g:FuncId)(hent:EntersF g)(caps:Array Value)(k:Nat)(l:List Tk)(t:Tk)(w:World)(ht:Toks w p l)(h:Blk R (rdC p l.length c (k:Int) mv wv d ov) w)(hx:l[k]?=some t)(hk:l.length≤1000000)
  (hc:Calls Tryz.prog g (#[.agg #[.int .i64 (t.kind:Int),.string ⟨t.text.toArray⟩,.int .i64 (t.line:Int),.int .i64 (t.col:Int)]]++caps) w.drew (fun r w'=>∃b,r=.returned (.bool b)∧Q b w')) (hQ:∀b w',Q b w'→NxS R (rdC p l.length c (k:Int) mv wv d ov) p l w') :
  Calls Tryz.prog 71 #[.pointer (some ⟨R,0,none⟩),.func (.func g) #[] caps] w (fun r w'=>∃b,r=.returned (.bool b)∧Q b w'):=by
 have hS:NxS R (rdC p l.length c (k:Int) mv wv d ov) p l w.drew:=⟨h.below (Below.drew (Below.refl _ _)),ht.below (Below.drew (Below.refl _ _))⟩;obtain⟨b,o,rfl,_,_⟩:=ht k t hx;have q0:=fun v (h:NxS R (rdC (some ⟨b,o,none⟩) l.length c (k:Int) mv wv d ov) (some ⟨b,o,none⟩) l v)=>h.1.c 0 _ rfl;have q1:=fun v (h:NxS R (rdC (some ⟨b,o,none⟩) l.length c (k:Int) mv wv d ov) (some ⟨b,o,none⟩) l v)=>h.1.c 1 _ rfl;have rule:∀ (i:Nat) (x:Value),(encT t)[i]?=some x→∀v,NxS R (rdC (some ⟨b,o,none⟩) l.length c (k:Int) mv wv d ov) (some ⟨b,o,none⟩) l v→v.cell? ⟨b,o+k*4+i,none⟩=some x:=fun i x e v h=>by
  obtain⟨b',o',e',_,cc⟩:=h.2 k t hx
  cases e'
  exact cc i x e
 have r0:=rule 0 _ rfl;have r1:=rule 1 _ rfl;have r2:=rule 2 _ rfl;have r3:=rule 3 _ rfl;rw[Nat.add_zero]at r0;have hlt:k<l.length:=(List.getElem?_eq_some_iff.1 hx).1;have hlt2:(k:Int)<(l.length:Int):=by omega
 have HC:=zh hc;have HQ:=zh hQ;have hent':∀ (args:Array Value) (w:World),(callFunc g args).run Tryz.prog w=.ok (.enter g args) w:=hent;clear rule hc hQ ht h hx hent;go_enter Tryz.func71,Tryz.ntmps71;go_wp2_with fail;refine wp_region_noPanic ?_;refine wp_region_held_drew (S:=NxS R (rdC (some ⟨b,o,none⟩) l.length c (k:Int) mv wv d ov) (some ⟨b,o,none⟩) l) (by kernel_rfl) hS (fun hH0=>?_);refine sch_in [0,1,2,3,4,5,6,7,8,9,10,11,12,13,14,15,16,17,18,19,20,21] ?_
 iterate 22 (refine sch_yes (v:=?_) rfl (by kernel_rfl) (by rfl) ?_ (by assumption) ?_;rotate_left 1;(· (intro w hSw;(try dsimp only at hSw);go_simp<;>(with_reducible rfl)));try simp only[Act.put,qA,qB,qC,qD,qE,qF])
 refine sch_out ?_;refine wpAnyH_ready (rs:=[22]) (by kernel_rfl) (by simp) ?_;refine AllReadyH.cons rfl (fun K hK=>?_) AllReadyH.nil
 go_simp
 refine HC.out.mono ?_;rintro e w'' ⟨b',rfl,hq⟩
 (try go_wp2_with fail)
 refine hK.out _ _ (HQ.out _ _ hq) (fun hH1=>?_);clear hK hH0
 try simp only[Act.put,qA,qB,qC,qD,qE,qF]
 refine sch_in [23,24] ?_
 iterate 2 (refine sch_yes (v:=?_) rfl (by kernel_rfl) (by rfl) ?_ (by assumption) ?_;rotate_left 1;(· (intro w hSw;(try dsimp only at hSw);go_simp<;>(with_reducible rfl)));try simp only[Act.put,qA,qB,qC,qD,qE,qF])
 refine sch_out ?_;refine wpAnyH_done (by kernel_rfl) ?_ _;refine NoPanic.normal ?_;go_wp2_with fail;go_ret;exact⟨_,rfl,hq⟩
theorem ptake_end(M:Value)(k:Nat)(l:List Tk)(w:World)(h:Blk R (rdC p l.length c (k:Int) mv wv d ov) w)(hx:l[k]?=none) :
  Calls Tryz.prog 37 #[.pointer (some ⟨R,0,none⟩),M] w (GiveB w false):=by
 have HN:=zh (pnext_end M k l w h hx);clear h hx;go_enter Tryz.func37,Tryz.ntmps37;go_wp2_with fail;refine HN.out.mono ?_;rintro r w1 ⟨rfl,b⟩;have HB:=zh b;clear b HN;go_wp2_with fail;go_ret;exact⟨rfl,HB.out⟩
def TkQ(R:Nat)(Q:Bool→World→Prop)(k:Nat)(r:Ending)(w':World):Prop:=(r=.returned (.bool false)∧Q false w')∨∃w1,r=.returned (.bool true)∧Q true w1∧w'=w1.setCell ⟨R,1,none⟩ (.int .i64 ((k:Int)+1))
theorem ptake_at{Q:Bool→World→Prop}(g:FuncId)(hent:EntersF g)(caps:Array Value)(k:Nat)(l:List Tk)(t:Tk)(w:World)(ht:Toks w p l)(h:Blk R (rdC p l.length c (k:Int) mv wv d ov) w)(hx:l[k]?=some t)(hk:l.length≤1000000)
  (hc:Calls Tryz.prog g (#[.agg #[.int .i64 (t.kind:Int),.string ⟨t.text.toArray⟩,.int .i64 (t.line:Int),.int .i64 (t.col:Int)]]++caps) w.drew (fun r w'=>∃b,r=.returned (.bool b)∧Q b w')) (hQ:∀b w',Q b w'→NxS R (rdC p l.length c (k:Int) mv wv d ov) p l w') :
  Calls Tryz.prog 37 #[.pointer (some ⟨R,0,none⟩),.func (.func g) #[] caps] w (TkQ R Q k):=by
 have HN:=zh (pnext_at g hent caps k l t w ht h hx hk hc hQ);have HQ:=zh hQ;have hkl:(k:Int)<1000000:=by have:=(List.getElem?_eq_some_iff.1 hx).1;omega
 clear h hx hc hQ ht hent;go_enter Tryz.func37,Tryz.ntmps37;go_wp2_with fail;refine HN.out.mono ?_;rintro r w1 ⟨b,rfl,hq⟩;have HB:=zh hq;clear HN
 cases b with
 | false =>
  clear hq;go_wp2_with fail;go_ret;exact .inl ⟨rfl,HB.out⟩
 | true =>
  have hb:=(HQ.out _ _ hq).1;have c1:=hb.c 1 _ rfl;have f1:=hb.f 1 (by simp);clear hq hb;go_wp2_with fail;go_ret;exact .inr ⟨_,rfl,HB.out,rfl⟩
end Go.Proofs.YtmllklfjngapiaaGreatDoor
set_option maxHeartbeats 4000000
set_option maxRecDepth 100000
namespace Go.Proofs.YtmllklfjngapiaaGreatDoor
open Go.RowKit
open Wd (Tk okT ktT)
open Pz (Ms takeF rowF)
def TgI{σ:Type}(I:σ→World→Prop)(Ts:List Nat):Prop:=∀ (s:σ) (V V':World) (Xs:List Nat),I s V→WrB Xs V V'→(∀T∈Ts,T∉Xs)→I s V'
def IsM{σ:Type}(I:σ→World→Prop)(Ts:List Nat)(f:Ms σ)(M:Value)(lo:Nat)(W:World):Prop :=
 ∃g caps,M=.func (.func g) #[] caps∧EntersF g∧∀ (V:World) (s:σ) (t:Tk),(∀b,lo≤b→b<W.heap.size→V.heap[b]?=W.heap[b]?)→W.heap.size≤V.heap.size→GoodP V→I s V→okT (ktT t)→t.text.length≤100 →
  Calls Tryz.prog g (#[.agg #[.int .i64 (t.kind:Int),.string ⟨t.text.toArray⟩,.int .i64 (t.line:Int),.int .i64 (t.col:Int)]]++caps) V (fun r w'=>r=.returned (.bool (f s (ktT t)).1)∧I (f s (ktT t)).2 w'∧WrB Ts V w')
theorem IsM.stay{σ:Type}{I:σ→World→Prop}{Ts:List Nat}{f:Ms σ}{M:Value}{lo lo':Nat}{W W':World}{Xs:List Nat}(h:IsM I Ts f M lo W)(hl:lo'≤lo)(hw:WrB Xs W W')(hx:∀x∈Xs,x<lo∨W.heap.size≤x):IsM I Ts f M lo' W':=by
 obtain⟨g,caps,e,en,k⟩:=h;refine⟨g,caps,e,en,fun V s t h1 h2=>k V s t (fun b hb hb2=>?_) (Nat.le_trans hw.size h2)⟩;exact(h1 b (Nat.le_trans hl hb) (Nat.lt_of_lt_of_le hb2 hw.size)).trans (hw.block b hb2 fun c=>by have:=hx b c;omega)
def TokOk(l:List Tk):Prop:=l.length≤1000000∧∀t∈l,okT (ktT t)∧t.text.length≤100
variable {R : Nat} {p : Option Addr} {c : Nat} {mv wv ov : Value} {d : Int}
def TakeG{σ:Type}(I:σ→World→Prop)(Ts:List Nat)(R:Nat)(p:Option Addr)(c:Nat)(mv wv:Value)(d:Int)(ov:Value)(l:List Tk)(w:World)(F:Bool×σ×List Pz.K)(r:Ending)(w':World):Prop :=
 ∃b s' k',F=(b,s',rsK l k')∧r=.returned (.bool b)∧k'≤l.length∧I s' w'∧Blk R (rdC p l.length c (k':Int) mv wv d ov) w'∧WrB (R::Ts) w w'
theorem ptake_m{σ:Type}{I:σ→World→Prop}{Ts:List Nat}{f:Ms σ}{M:Value}{lo:Nat}{W:World}(hM:IsM I Ts f M lo W)(hTI:TgI I Ts)(s:σ)(k:Nat)(l:List Tk)(w:World)(hw:∀b,lo≤b→b<W.heap.size→w.heap[b]?=W.heap[b]?)(hw2:W.heap.size≤w.heap.size)
  (hg:GoodP w) (hI:I s w) (ht:Toks w p l) (hp:∀a,p=some a→a.block∉Ts) (hR:R∉Ts) (h:Blk R (rdC p l.length c (k:Int) mv wv d ov) w) (hl:TokOk l) (hkl:k≤l.length) :
  Calls Tryz.prog 37 #[.pointer (some ⟨R,0,none⟩),M] w (TakeG I Ts R p c mv wv d ov l w (takeF f s (rsK l k))):=by
 have bd:Below w.heap.size w w.drew:=Below.drew (Below.refl _ _)
 cases hx:l[k]? with
 | none =>
  refine(ptake_end M k l w h hx).mono ?_;rintro r w' ⟨rfl,b⟩;rw[rsK_end hx];exact⟨false,s,k,by rw[rsK_end hx];rfl,rfl,hkl,hTI s w w' [] hI (WrB.of_below b _) (fun _ _ c=>by cases c),h.below b,WrB.of_below b _⟩
 | some t =>
  have hm:=hl.2 t (List.mem_of_getElem? hx);obtain⟨g,caps,rfl,en,kk⟩:=hM;have hc:=kk w.drew s t hw hw2 (hg.below bd) (hTI s w w.drew [] hI (WrB.of_below bd _) (fun _ _ c=>by cases c)) hm.1 hm.2;have hlt:k<l.length:=(List.getElem?_eq_some_iff.1 hx).1;refine(ptake_at (Q:=fun b w'=>b=(f s (ktT t)).1∧I (f s (ktT t)).2 w'∧WrB Ts w w') g en caps k l t w ht h hx hl.1 (hc.mono ?_) ?_).mono ?_
  ·rintro r w' ⟨rfl,a,b⟩;exact⟨_,rfl,rfl,a,(WrB.of_below bd _).trans b⟩
  ·rintro b w' ⟨_,_,b⟩;exact⟨h.wr b hR,ht.wr b hp⟩
  ·rintro r w' (⟨rfl,e,i,b⟩|⟨w1,rfl,⟨e,i,b⟩,rfl⟩)
   ·rw[rsK_at hx,Pz.take_no e.symm];exact⟨false,_,k,by rw[rsK_at hx],rfl,hkl,i,h.wr b hR,b.mono fun x hx=>List.mem_cons_of_mem _ hx⟩
   ·rw[rsK_at hx,Pz.take_yes e.symm];refine⟨true,_,k+1,rfl,rfl,hlt,hTI _ w1 _ [R] i (WrB.of_set w1 R 1 _ List.mem_cons_self) (fun T hT c=>hR (by rw[←List.mem_singleton.1 c];exact hT)),?_,(b.mono fun x hx=>List.mem_cons_of_mem _ hx).trans (WrB.of_set w1 R 1 _ List.mem_cons_self)⟩;have k1:=(h.wr b hR).set 1 (by simp) (.int .i64 ((k:Int)+1));rw[Int.natCast_succ];exact k1
def encF(M:Value):List Value:=[M]
theorem prow_any{σ:Type}{I:σ→World→Prop}{Ts:List Nat}(fs:List (Ms σ))(Ms':List Value){lo:Nat}(W:World)(hTI:TgI I Ts)(hn:Ms'.length=fs.length)(hM:∀ (i:Nat) (M:Value) (f:Ms σ),Ms'[i]?=some M→fs[i]?=some f→IsM I Ts f M lo W)(q:Option Addr)(cq:Nat)
  (hq:RowsG encF 1 W q Ms') (hqb:∀a,q=some a→lo≤a.block) (hlo:∀T∈Ts,T<lo) (hRl:R<lo) (hlen:Ms'.length≤100) (s:σ) (k:Nat) (l:List Tk) (hg:GoodP W) (hgl:∀V,WrB (R::Ts) W V→GoodP V) (hI:I s W) (ht:Toks W p l) (hp:∀a,p=some a→a.block∉R::Ts) (hR:R∉Ts)
  (h:Blk R (rdC p l.length c (k:Int) mv wv d ov) W) (hl:TokOk l) (hkl:k≤l.length) :
  Calls Tryz.prog 80 #[.pointer (some ⟨R,0,none⟩),.slice q Ms'.length cq] W (TakeG I Ts R p c mv wv d ov l W (rowF fs s (rsK l k))):=by
 have HT:=zh hTI;have HM:=zh hM;have HQ:=zh hq;have HQB:=zh hqb;have HLO:=zh hlo;have HRL:=zh hRl;have HGL:=zh hgl;have HTK:=zh ht;have HP:=zh hp;have HR:=zh hR;have HL:=zh hl
 have HI:=zh hI;have HB:=zh h;have HN:=zh hn;have HKL:=zh hkl
 clear hTI hM hq hqb hlo hRl hg hgl hI ht hp hR h hl hn hkl;go_enter Tryz.func80,Tryz.ntmps80;go_wp2_with fail
 go_loopw [9] (fun iv wr=>∃ (i:Nat) (s':σ) (k':Nat),i≤Ms'.length∧iv=.int .i64 i∧Hid (rowF fs s (rsK l k)=rowF (fs.drop i) s' (rsK l k'))∧Hid (k'≤l.length∧I s' wr∧Blk R (rdC p l.length c (k':Int) mv wv d ov) wr∧WrB (R::Ts) W wr)) (fun iv _=>Ms'.length-(intOf iv).toNat)
 case atStart=>exact⟨0,s,k,Nat.zero_le _,rfl,zh rfl,zh ⟨HKL.out,HI.out,HB.out,WrB.refl _ _⟩⟩
 case round =>
  obtain⟨i,s',k',hi,rfl,HF,HJ⟩:=hrel;clear HI HB HKL;by_cases hlt:i<Ms'.length
  ·obtain⟨M,hM⟩:∃M,Ms'[i]?=some M:=⟨_,List.getElem?_eq_getElem hlt⟩;obtain⟨f,hf⟩:∃f,fs[i]?=some f:=⟨_,List.getElem?_eq_getElem (by have:=HN.out;omega)⟩;have hdrop:fs.drop i=f::fs.drop (i+1):=by rw[List.drop_eq_getElem?_toList_append,hf];rfl
   have hq2:=HQ.out.wr HJ.out.2.2.2 (fun a e c=>by
    have k1:=HQB.out a e;rcases List.mem_cons.1 c with c|c
    ·have:=HRL.out;omega
    ·have:=HLO.out _ c;omega)
   obtain⟨bq,oq,rfl,_,cq'⟩:=hq2 i M hM;have c0:=cq' 0 M rfl;rw[Nat.add_zero,Nat.mul_one]at c0;have CT:=zh (ptake_m (HM.out i M f hM hf) HT.out s' k' l wr (fun b hb _=>HJ.out.2.2.2.block b (by omega) (fun c=>by
    rcases List.mem_cons.1 c with c|c
    ·have:=HRL.out;omega
    ·have:=HLO.out _ c;omega)) HJ.out.2.2.2.size (HGL.out _ HJ.out.2.2.2) HJ.out.2.1 (HTK.out.wr HJ.out.2.2.2 HP.out) (fun a e c=>HP.out a e (List.mem_cons_of_mem _ c)) HR.out HJ.out.2.2.1 HL.out HJ.out.1)
   have hil:(i:Int)<(Ms'.length:Int):=by omega
   have HD:=zh hdrop;clear hq2 cq' hf hM hdrop;go_wp2_with fail;refine CT.out.mono ?_;rintro r w1 ⟨b,s2,k2,hF,rfl,hk2,hi2,hb2,hw2⟩;have HJ2:Hid (k2≤l.length∧I s2 w1∧Blk R (rdC p l.length c (k2:Int) mv wv d ov) w1∧WrB (R::Ts) W w1):=zh ⟨hk2,hi2,hb2,HJ.out.2.2.2.trans hw2⟩;have HF2:=zh hF;clear hF hk2 hi2 hb2 hw2 CT c0 HJ
   cases b with
   | true =>
    have HF3:Hid (rowF fs s (rsK l k)=rowF (fs.drop (i+1)) s2 (rsK l k2)):=zh (by
     rw[HF.out,HD.out,Pz.row_cons_yes (by rw[HF2.out]),HF2.out])
    clear HF HF2 HD;go_wp2_with fail;go_roundw
    case rel=>exact⟨i+1,s2,k2,hlt,by go_num,HF3,HJ2⟩
    case measure=>simp[intOf];omega
   | false =>
    have HF3:Hid (rowF fs s (rsK l k)=(false,s2,rsK l k2)):=zh (by
     rw[HF.out,HD.out,Pz.row_cons_no (by rw[HF2.out]),HF2.out])
    clear HF HF2 HD;go_wp2_with fail;go_ret;exact⟨false,s2,k2,HF3.out,rfl,HJ2.out⟩
  ·obtain rfl:i=Ms'.length:=by omega
   have HF3:Hid (rowF fs s (rsK l k)=(true,s',rsK l k')):=zh (by
    rw[HF.out,HN.out,List.drop_of_length_le (Nat.le_refl _)]
    rfl)
   clear HF;go_wp2_with fail;go_ret;exact⟨true,s',k',HF3.out,rfl,HJ.out⟩
end Go.Proofs.YtmllklfjngapiaaGreatDoor
