/- Own work. -/
import Derived.Laws.IdiomStrings
import Derived.Test.YtcebkcilkhebeaaGreatDoorAllRefT8M
import Derived.Laws.StructEq
import Derived.Test.YtcebkcilkhebeaaGreatDoorAllDec5
import Derived.Deep.Slices
import Derived.Deep.Strs
import Derived.SizedLaws
import Derived.Carry
set_option linter.unusedSimpArgs false
set_option linter.unusedVariables false
set_option maxHeartbeats 2000000
set_option maxRecDepth 100000
namespace Go.Proofs.YtcebkcilkhebeaaGreatDoor
open Go.RowKit
theorem mark_any(s:ByteArray)(w:World):Calls Tryz.prog 54 #[.string s,.string ⟨#[33]⟩] w fun e w'=>e=.returned (.string ⟨(noMark s.data.toList).toArray⟩)∧w=w':=by
 have k:=Tryz.strings_TrimPrefix s ⟨#[33]⟩ w;rw[show (⟨#[33]⟩:ByteArray).data.toList=[33] from rfl,trim_mark]at k;exact k.mono fun e w' ⟨h1,h2⟩=>⟨h1,h2.symm⟩
theorem nameC_iff{c:UInt8}:nameC c=true↔((97≤c.toNat∧c.toNat≤122)∨(48≤c.toNat∧c.toNat≤57)):=by
 unfold nameC;simp only[Bool.or_eq_true,Bool.and_eq_true,decide_eq_true_eq]
theorem all_more{l:List UInt8}{k:Nat}(hk:k<l.length)(h:(l.take k).all nameC=true)(ho:nameC (gb l k)=true):(l.take (k+1)).all nameC=true:=by
 have e:gb l k=l[k]:=by unfold gb;rw[List.getElem?_eq_getElem hk];rfl
 rw[List.take_add_one,List.getElem?_eq_getElem hk,List.all_append,h];rw[e]at ho;show (true&&(nameC l[k]&&true))=true;rw[ho];rfl
theorem all_stop{l:List UInt8}{k:Nat}(hk:k<l.length)(ho:nameC (gb l k)=false):l.all nameC=false:=by
 have e:gb l k=l[k]:=by unfold gb;rw[List.getElem?_eq_getElem hk];rfl
 rw[e]at ho;exact List.all_eq_false.2 ⟨l[k],List.getElem_mem hk,by rw[ho];decide⟩
theorem nameC_no{c:UInt8}(h:¬((97≤c.toNat∧c.toNat≤122)∨(48≤c.toNat∧c.toNat≤57))):nameC c=false:=by
 cases e:nameC c with
 | false=>rfl
 | true=>exact absurd (nameC_iff.1 e) h
theorem bname_any(s:ByteArray)(w:World) :
  Calls Tryz.prog 28 #[.string s] w (GiveB w (isName s.data.toList)):=by
 have hsl:=size_toList s;by_cases h0:s.size=0
 ·have he:s.toList.isEmpty=true:=by rw[toList_empty];simpa using h0
  have HO:Hid (isName s.data.toList=false):=zh (by unfold isName;rw[hsl,h0];simp);clear h0 hsl;go_enter Tryz.func28,Tryz.ntmps28;go_wp2_with fail;go_ret;exact⟨ret_bool (by rw[HO.out]),Below.refl _ _⟩
 ·have he:s.toList.isEmpty=false:=by rw[toList_empty];simpa using h0
  by_cases h20:(20:Int)<(s.size:Int)
  ·have HO:Hid (isName s.data.toList=false):=zh (by unfold isName;rw[hsl,decide_eq_false (show ¬s.size≤20 by omega),Bool.and_false,Bool.and_false]);clear h0 hsl;go_enter Tryz.func28,Tryz.ntmps28;go_wp2_with fail;go_ret;exact⟨ret_bool (by rw[HO.out]),Below.refl _ _⟩
  ·have HR:Hid (isName s.data.toList=(noMark s.data.toList).all nameC):=zh (by rw[name_mark,hsl,decide_eq_true (show s.size≤20 by omega),decide_eq_true (show 1≤s.size by omega)];simp);have ht:=noMark_len s.data.toList;rw[hsl]at ht;have ct:=fun w=>mark_any s w;generalize noMark s.data.toList=t at *;have ht2:t.length≤20:=by omega
   have hcv:=fun w s=>run_bytes_of_string (P:=Tryz.prog) w 9 69 5 s Tryz.underlying9 Tryz.underlying69 Tryz.underlying5;clear h0 hsl ht;go_enter Tryz.func28,Tryz.ntmps28;go_wp2_with fail;refine(ct _).mono ?_;rintro e w' ⟨rfl,rfl⟩;go_wp2_with fail;generalize grownCap w t.length 0 5=cap;obtain⟨Wc,hWc⟩:∃Wc,(w.alloc (.cells (bytesRow ⟨t.toArray⟩ cap) 5 ((bytesRow ⟨t.toArray⟩ cap).size,(bytesRow ⟨t.toArray⟩ cap).size+1))).drew=Wc:=⟨_,rfl⟩;rw[hWc];have hby:∀j,j<t.length→Wc.cell? ⟨w.heap.size,j,none⟩=some (.int .u8 ((gb t j).toNat:Int)):=fun j hj=>by
    rw[←hWc];exact bytes_new w ⟨t.toArray⟩ cap _ _ j (by rw[size_of];exact hj)
   have BW:Below w.heap.size w Wc:=by rw[←hWc];exact((Below.refl _ w).alloc (Nat.le_refl _) _).drew
   clear hWc hcv ct
   go_loop [16] (fun i=>∃k:Nat,k≤t.length∧i=.int .i64 k∧Hid ((t.take k).all nameC=true)) (fun i=>t.length-(intOf i).toNat)
   case atStart=>exact⟨0,Nat.zero_le _,rfl,rfl⟩
   case round =>
    obtain⟨k,hk,rfl,HJ⟩:=hrel;by_cases hlt:k<t.length
    ·have hb:=hby k hlt;by_cases a1:((gb t k).toNat:Int)<97
     ·by_cases a2:((gb t k).toNat:Int)<48
      ·have HO:Hid (t.all nameC=false):=zh (all_stop hlt (nameC_no (by omega)))
       go_wp2
       go_ret;exact⟨ret_bool (by rw[HR.out,HO.out]),BW⟩
      ·by_cases a3:57<((gb t k).toNat:Int)
       ·have HO:Hid (t.all nameC=false):=zh (all_stop hlt (nameC_no (by omega)))
        go_wp2
        go_ret;exact⟨ret_bool (by rw[HR.out,HO.out]),BW⟩
       ·have HO:Hid (nameC (gb t k)=true):=zh (nameC_iff.2 (by omega))
        go_wp2
        go_round
        case rel=>exact⟨k+1,hlt,by go_num,all_more hlt HJ.out HO.out⟩
        case measure=>simp[intOf];omega
     ·by_cases a2:122<((gb t k).toNat:Int)
      ·have f1:¬((gb t k).toNat:Int)<48:=by omega
       have f2:57<((gb t k).toNat:Int):=by omega
       have HO:Hid (t.all nameC=false):=zh (all_stop hlt (nameC_no (by omega)))
       go_wp2
       go_ret;exact⟨ret_bool (by rw[HR.out,HO.out]),BW⟩
      ·have HO:Hid (nameC (gb t k)=true):=zh (nameC_iff.2 (by omega))
       go_wp2
       go_round
       case rel=>exact⟨k+1,hlt,by go_num,all_more hlt HJ.out HO.out⟩
       case measure=>simp[intOf];omega
    ·obtain rfl:k=t.length:=by omega
     have HO:Hid (t.all nameC=true):=zh (by have:=HJ.out;rw[List.take_length]at this;exact this)
     go_wp2
     go_ret;exact⟨ret_bool (by rw[HR.out,HO.out]),BW⟩
end Go.Proofs.YtcebkcilkhebeaaGreatDoor
namespace Go.Proofs.YtcebkcilkhebeaaGreatDoor
open Go.RowKit
open Tm (Nd Tr arN arI astB okN)
end Go.Proofs.YtcebkcilkhebeaaGreatDoor
set_option maxRecDepth 100000
namespace Go.Proofs.YtcebkcilkhebeaaGreatDoor
open Go.ChangeShapes Go.WideShapes Go.RowKit Go.Joins
section
variable {H : Type} {enc : TypeId × Value → H}
theorem lift_both{a:Assume}{C:Checked}{os:Os}{f:FuncId}{fn:Func}{s:ChangeSpec}{conds:List PathCond}{apart fresh handsOn again:Bool}{X:World→Array Value→Prop}
  (hX:∀ (w w':World) (args:Array Value),w.heap=w'.heap→X w args→X w' args)
  (own:ownKnob C.prog.godebug=none) (started:os.Started) (noInit:C.prog.inits.idxOf? f=none) (hfn:C.prog.funcs[f]?=some fn)
  (witness:∃ (w:World) (tape:Tape) (i:Input),w.os=os∧(w.forCall tape i).Shaped C.prog∧i.vars=[]∧Input.okWide C.prog (w.forCall tape i) .any w.heap.size f i ∧
   ((s.pre enc C.prog fn conds apart (w.forCall tape i).memory i.args∧X (w.forCall tape i).memory i.args)∧sizedMet enc C.prog fn (OpenSpec.ofChange s) apart (w.forCall tape i).memory i.args)∧a.holds C.prog (lone (Frame.enter C.prog f i.args .normal) [] (w.forCall tape i)))
  (contract:∀ (W:World) (base:Nat) (args:Array Value) (ds gs:List (DataW H)) (before:List MemPlace),
   (∀ (j:Nat) t v,fn.params[j]?=some t→args[j]?=some v→Value.okWide C.prog W .any base t v) →
   DataW.Whole enc C.prog fn.params.toList s.vars apart W args.toList ds gs before →
   (DataW.weightsEach C.prog (fn.params.toList++s.plain.varTypes C.prog) (ds++gs)).all (·≤reachBytes)=true→X W args→W.ShapedOpen C.prog →
   Calls C.prog f args W fun e W'=>∃v,e=.returned v∧s.post enc C.prog fn apart fresh handsOn again W args v W') :
  ReturnsInHanded a C os f .any (fun w args=>(s.pre enc C.prog fn conds apart w args∧X w args)∧sizedMet enc C.prog fn (OpenSpec.ofChange s) apart w args) (s.post enc C.prog fn apart fresh handsOn again):=by
 refine returnsInHanded_of_calls own started noInit witness ?_;intro w tape i _ hS _ hok hpre _;obtain⟨_,_,_,fn',hfn',_,_,_,_,hval⟩:=hok;obtain rfl:fn'=fn:=Option.some.inj (hfn'.symm.trans hfn);obtain⟨⟨⟨ds,gs,before,hw,_⟩,hx⟩,hz⟩:=hpre;refine(contract (w.forCall tape i) w.heap.size i.args ds gs before hval (DataW.Whole.of_heap (w':=w.forCall tape i) (by rfl) hw) (hz.weights hw) (hX _ _ _ (by rfl) hx) hS).mono fun e W' ⟨v,he,hp⟩=>?_;subst he;exact ChangeSpec.post_blind hp
end
end Go.Proofs.YtcebkcilkhebeaaGreatDoor
set_option maxRecDepth 100000
namespace Go.Proofs.YtcebkcilkhebeaaGreatDoor
open Go.ChangeShapes Go.WideShapes Go.RowKit Go.Joins Go.Deep
section
variable {H : Type} {enc : TypeId × Value → H} {w : World} {base : Nat} {sp : Nat → Bool} {held : Bool}
theorem laidOutT:laidOutB Tryz.prog=true:=by kernel_rfl
theorem str_list(s:ByteArray):Value.string s=.string ⟨s.data.toList.toArray⟩:=by rw[Array.toArray_toList]
theorem cellsInt:Tryz.prog.cellsOf 3=1:=by kernel_rfl
theorem one_int{n:Nat}{c:Value}{y:DataW H×List MemPlace}(h:DataW.trod enc Tryz.prog w base sp held n 3 [c]=some y):∃k:Int,c=.int .i64 k:=by
 obtain⟨k,e,_,_⟩:=DataW.trod_int Tryz.underlying3 h;exact⟨k,(List.cons.inj e).1⟩
theorem one_str{n:Nat}{c:Value}{y:DataW H×List MemPlace}(h:DataW.trod enc Tryz.prog w base sp held n 9 [c]=some y):∃k:List UInt8,c=.string ⟨k.toArray⟩:=by
 obtain⟨s,e,_,_⟩:=DataW.trod_string Tryz.underlying9 h;exact⟨s.data.toList,by rw[(List.cons.inj e).1,str_list]⟩
theorem one_rat{n:Nat}{c c':Value}{y:DataW H×List MemPlace}(h:DataW.trod enc Tryz.prog w base sp held n 23 [c,c']=some y):∃k:List UInt8×List UInt8,c=.string ⟨k.1.toArray⟩∧c'=.string ⟨k.2.toArray⟩:=by
 obtain⟨u0,u1,k,_,_,g0,g1⟩:=trod_struct2 Tryz.underlying23 h;rw[show Tryz.prog.cellsOf _=1 from cellsStr]at g0 g1;obtain⟨a,rfl⟩:=one_str g0;obtain⟨b,rfl⟩:=one_str g1;exact⟨(a,b),rfl,rfl⟩
end
end Go.Proofs.YtcebkcilkhebeaaGreatDoor
