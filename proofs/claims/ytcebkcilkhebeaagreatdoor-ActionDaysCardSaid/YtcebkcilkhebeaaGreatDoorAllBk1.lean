/- Own work. -/
import Derived.Laws.IdiomStrings
import Derived.Test.YtcebkcilkhebeaaGreatDoorAllRefT8M
set_option linter.unusedSimpArgs false
set_option linter.unusedVariables false
set_option maxHeartbeats 2000000
set_option maxRecDepth 100000
namespace Go.Proofs.YtcebkcilkhebeaaGreatDoor
open Go.RowKit
theorem mark_any(s:ByteArray)(w:World):Calls Tryz.prog 54 #[.string s,.string ⟨#[33]⟩] w fun e w'=>e=.returned (.string ⟨(noMark s.data.toList).toArray⟩)∧w=w':=by
 have k:=Tryz.strings_TrimPrefix s ⟨#[33]⟩ w;rw[show (⟨#[33]⟩:ByteArray).data.toList=[33] from rfl,trim_mark]at k;exact k.mono fun e w' ⟨h1,h2⟩=>⟨h1,h2.symm⟩
theorem nameC_iff{c:UInt8}:nameC c=true↔((97≤c.toNat∧c.toNat≤122)∨(48≤c.toNat∧c.toNat≤57)):=by
 unfold nameC;simp only[Bool.or_eq_true,Bool.and_eq_true,decide_eq_true_eq]
theorem all_more{l:List UInt8}{k:Nat}(hk:k<l.length)(h:(l.take k).all nameC=true)(ho:nameC (gb l k)=true):(l.take (k+1)).all nameC=true:=by
 have e:gb l k=l[k]:=by unfold gb;rw[List.getElem?_eq_getElem hk];rfl
 rw[List.take_add_one,List.getElem?_eq_getElem hk,List.all_append,h];rw[e]at ho;show (true&&(nameC l[k]&&true))=true;rw[ho];rfl
theorem all_stop{l:List UInt8}{k:Nat}(hk:k<l.length)(ho:nameC (gb l k)=false):l.all nameC=false:=by
 have e:gb l k=l[k]:=by unfold gb;rw[List.getElem?_eq_getElem hk];rfl
 rw[e]at ho;exact List.all_eq_false.2 ⟨l[k],List.getElem_mem hk,by rw[ho];decide⟩
theorem nameC_no{c:UInt8}(h:¬((97≤c.toNat∧c.toNat≤122)∨(48≤c.toNat∧c.toNat≤57))):nameC c=false:=by
 cases e:nameC c with
 | false=>rfl
 | true=>exact absurd (nameC_iff.1 e) h
theorem bname_any(s:ByteArray)(w:World) :
  Calls Tryz.prog 28 #[.string s] w (GiveB w (isName s.data.toList)):=by
 have hsl:=size_toList s;by_cases h0:s.size=0
 ·have he:s.toList.isEmpty=true:=by rw[toList_empty];simpa using h0
  have HO:Hid (isName s.data.toList=false):=zh (by unfold isName;rw[hsl,h0];simp);clear h0 hsl;go_enter Tryz.func28,Tryz.ntmps28;go_wp2_with fail;go_ret;exact⟨ret_bool (by rw[HO.out]),Below.refl _ _⟩
 ·have he:s.toList.isEmpty=false:=by rw[toList_empty];simpa using h0
  by_cases h20:(20:Int)<(s.size:Int)
  ·have HO:Hid (isName s.data.toList=false):=zh (by unfold isName;rw[hsl,decide_eq_false (show ¬s.size≤20 by omega),Bool.and_false,Bool.and_false]);clear h0 hsl;go_enter Tryz.func28,Tryz.ntmps28;go_wp2_with fail;go_ret;exact⟨ret_bool (by rw[HO.out]),Below.refl _ _⟩
  ·have HR:Hid (isName s.data.toList=(noMark s.data.toList).all nameC):=zh (by rw[name_mark,hsl,decide_eq_true (show s.size≤20 by omega),decide_eq_true (show 1≤s.size by omega)];simp);have ht:=noMark_len s.data.toList;rw[hsl]at ht;have ct:=fun w=>mark_any s w;generalize noMark s.data.toList=t at *;have ht2:t.length≤20:=by omega
   have hcv:=fun w s=>run_bytes_of_string (P:=Tryz.prog) w 9 69 5 s Tryz.underlying9 Tryz.underlying69 Tryz.underlying5;clear h0 hsl ht;go_enter Tryz.func28,Tryz.ntmps28;go_wp2_with fail;refine(ct _).mono ?_;rintro e w' ⟨rfl,rfl⟩;go_wp2_with fail;generalize grownCap w t.length 0 5=cap;obtain⟨Wc,hWc⟩:∃Wc,(w.alloc (.cells (bytesRow ⟨t.toArray⟩ cap) 5 ((bytesRow ⟨t.toArray⟩ cap).size,(bytesRow ⟨t.toArray⟩ cap).size+1))).drew=Wc:=⟨_,rfl⟩;rw[hWc];have hby:∀j,j<t.length→Wc.cell? ⟨w.heap.size,j,none⟩=some (.int .u8 ((gb t j).toNat:Int)):=fun j hj=>by
    rw[←hWc];exact bytes_new w ⟨t.toArray⟩ cap _ _ j (by rw[size_of];exact hj)
   have BW:Below w.heap.size w Wc:=by rw[←hWc];exact((Below.refl _ w).alloc (Nat.le_refl _) _).drew
   clear hWc hcv ct
   go_loop [16] (fun i=>∃k:Nat,k≤t.length∧i=.int .i64 k∧Hid ((t.take k).all nameC=true)) (fun i=>t.length-(intOf i).toNat)
   case atStart=>exact⟨0,Nat.zero_le _,rfl,rfl⟩
   case round =>
    obtain⟨k,hk,rfl,HJ⟩:=hrel;by_cases hlt:k<t.length
    ·have hb:=hby k hlt;by_cases a1:((gb t k).toNat:Int)<97
     ·by_cases a2:((gb t k).toNat:Int)<48
      ·have HO:Hid (t.all nameC=false):=zh (all_stop hlt (nameC_no (by omega)))
       go_wp2
       go_ret;exact⟨ret_bool (by rw[HR.out,HO.out]),BW⟩
      ·by_cases a3:57<((gb t k).toNat:Int)
       ·have HO:Hid (t.all nameC=false):=zh (all_stop hlt (nameC_no (by omega)))
        go_wp2
        go_ret;exact⟨ret_bool (by rw[HR.out,HO.out]),BW⟩
       ·have HO:Hid (nameC (gb t k)=true):=zh (nameC_iff.2 (by omega))
        go_wp2
        go_round
        case rel=>exact⟨k+1,hlt,by go_num,all_more hlt HJ.out HO.out⟩
        case measure=>simp[intOf];omega
     ·by_cases a2:122<((gb t k).toNat:Int)
      ·have f1:¬((gb t k).toNat:Int)<48:=by omega
       have f2:57<((gb t k).toNat:Int):=by omega
       have HO:Hid (t.all nameC=false):=zh (all_stop hlt (nameC_no (by omega)))
       go_wp2
       go_ret;exact⟨ret_bool (by rw[HR.out,HO.out]),BW⟩
      ·have HO:Hid (nameC (gb t k)=true):=zh (nameC_iff.2 (by omega))
       go_wp2
       go_round
       case rel=>exact⟨k+1,hlt,by go_num,all_more hlt HJ.out HO.out⟩
       case measure=>simp[intOf];omega
    ·obtain rfl:k=t.length:=by omega
     have HO:Hid (t.all nameC=true):=zh (by have:=HJ.out;rw[List.take_length]at this;exact this)
     go_wp2
     go_ret;exact⟨ret_bool (by rw[HR.out,HO.out]),BW⟩
end Go.Proofs.YtcebkcilkhebeaaGreatDoor
