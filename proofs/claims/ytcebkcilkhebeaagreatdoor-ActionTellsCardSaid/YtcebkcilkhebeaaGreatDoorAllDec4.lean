/- Own work. -/
import Derived.Test.YtcebkcilkhebeaaGreatDoorAllDec3
set_option maxHeartbeats 2000000
set_option maxRecDepth 100000
namespace Go.Proofs.YtcebkcilkhebeaaGreatDoor
open Go.RowKit
theorem un_cut(l:List UInt8):(Lib.trimPrefix l [45],Lib.hasPrefix l [45])=((unD l).2,(unD l).1):=by
 unfold unD;by_cases h:l.head?=some 45
 ·obtain⟨r,rfl⟩:=minus_of h;rw[hp_yes,tp_yes,if_pos h];rfl
 ·rw[hp_no h,tp_no h,if_neg h]
theorem cutP_any(s:ByteArray)(w:World){x:List UInt8}{b:Bool}(h:unD s.data.toList=(b,x)) :
  Calls Tryz.prog 61 #[.string s,.string ⟨#[45]⟩] w fun e w'=>e=.returned (.tuple #[.string ⟨x.toArray⟩,.bool b])∧w=w':=by
 have c:=Tryz.strings_CutPrefix s ⟨#[45]⟩ w;have e:=un_cut s.data.toList;rw[h]at e;have e1:Lib.trimPrefix s.data.toList (⟨#[45]⟩:ByteArray).data.toList=x:=congrArg Prod.fst e;have e2:Lib.hasPrefix s.data.toList (⟨#[45]⟩:ByteArray).data.toList=b:=congrArg Prod.snd e;rw[e1,e2]at c;exact c.mono fun _ _ ⟨h1,h2⟩=>⟨h1,h2.symm⟩
theorem parse_long(s:ByteArray)(w:World)(hs:s.size≤1000000)(h:1000<s.size) :
  Calls Tryz.prog 46 #[.string s] w (GiveRE w (([],[]),40)):=by
 go_enter Tryz.func46,Tryz.ntmps46;go_wp2_with fail;obtain⟨W,hW,BW,sW,r0,r1,r2,r3⟩:=box0z w (.string ⟨#[]⟩) (.string ⟨#[]⟩) 23;rw[hW];clear hW;have b0:=Below.refl W.heap.size W;go_wp2_with fail;refine bodyPost_ret (v:=.tuple #[.agg #[.string ⟨#[]⟩,.string ⟨#[]⟩],.int .i64 40]) (by simp[results,Tryz.results46,go_sem, *]) rfl ⟨rfl,?_⟩
 first|exact BW|exact put2 BW (Nat.le_refl _) _ _
theorem parse_p_yes(s:ByteArray)(w:World)(hs:s.size≤1000)(hg:Hid (GoodD w)){T nu de:ByteArray}{x y:List UInt8}
  (C1:Hid (∀w,Calls Tryz.prog 61 #[.string s,.string ⟨#[45]⟩] w fun e w'=>e=.returned (.tuple #[.string T,.bool false])∧w=w'))
  (C2:Hid (∀w,GoodD w→Calls Tryz.prog 82 #[.string T] w fun e w'=>e=.returned (.tuple #[.string nu,.string de])∧Below w.heap.size w w'))
  (C4:Hid (∀w,Calls Tryz.prog 84 #[.string nu,.string de] w (GiveRB w ((x,y),true)))) :
  Calls Tryz.prog 46 #[.string s] w (GiveRE w ((x,y),0)):=by
 have hx1:¬(1000:Int)<(s.size:Int):=by omega
 go_enter Tryz.func46,Tryz.ntmps46;go_wp2_with fail;obtain⟨W,hW,BW,sW,r0,r1,r2,r3⟩:=box0z w (.string ⟨#[]⟩) (.string ⟨#[]⟩) 23;rw[hW];clear hW;have b0:=Below.refl W.heap.size W;go_wp2_with fail;refine(C1.out _).mono ?_;rintro e w' ⟨rfl,rfl⟩;go_wp2_with fail;refine(C2.out _ (hg.out.below BW)).mono ?_;rintro e w1 ⟨rfl,b⟩;have b1:=Below.more b0 b;clear b;go_wp2_with fail;refine(C4.out _).mono ?_;rintro e w9 ⟨rfl,b⟩;have b9:=Below.more b1 b;clear b;have ba:=fun x=>Below.alloc b9 (Below.size b9) x;go_wp2_with fail;refine bodyPost_ret (v:=.tuple #[.agg #[.string ⟨x.toArray⟩,.string ⟨y.toArray⟩],.int .i64 0]) (by simp[results,Tryz.results46,go_sem, *]) rfl ⟨rfl,?_⟩;exact put2 (BW.trans ((ba _).mono (by omega))) (Nat.le_refl _) _ _
theorem parse_p_no(s:ByteArray)(w:World)(hs:s.size≤1000)(hg:Hid (GoodD w)){T nu de:ByteArray}{x y:List UInt8}
  (C1:Hid (∀w,Calls Tryz.prog 61 #[.string s,.string ⟨#[45]⟩] w fun e w'=>e=.returned (.tuple #[.string T,.bool false])∧w=w'))
  (C2:Hid (∀w,GoodD w→Calls Tryz.prog 82 #[.string T] w fun e w'=>e=.returned (.tuple #[.string nu,.string de])∧Below w.heap.size w w'))
  (C4:Hid (∀w,Calls Tryz.prog 84 #[.string nu,.string de] w (GiveRB w ((x,y),false)))) :
  Calls Tryz.prog 46 #[.string s] w (GiveRE w (([],[]),40)):=by
 have hx1:¬(1000:Int)<(s.size:Int):=by omega
 go_enter Tryz.func46,Tryz.ntmps46;go_wp2_with fail;obtain⟨W,hW,BW,sW,r0,r1,r2,r3⟩:=box0z w (.string ⟨#[]⟩) (.string ⟨#[]⟩) 23;rw[hW];clear hW;have b0:=Below.refl W.heap.size W;go_wp2_with fail;refine(C1.out _).mono ?_;rintro e w' ⟨rfl,rfl⟩;go_wp2_with fail;refine(C2.out _ (hg.out.below BW)).mono ?_;rintro e w1 ⟨rfl,b⟩;have b1:=Below.more b0 b;clear b;go_wp2_with fail;refine(C4.out _).mono ?_;rintro e w9 ⟨rfl,b⟩;have b9:=Below.more b1 b;clear b;have ba:=fun x=>Below.alloc b9 (Below.size b9) x;go_wp2_with fail;refine bodyPost_ret (v:=.tuple #[.agg #[.string ⟨#[]⟩,.string ⟨#[]⟩],.int .i64 40]) (by simp[results,Tryz.results46,go_sem, *]) rfl ⟨rfl,?_⟩;exact put2 (BW.trans ((ba _).mono (by omega))) (Nat.le_refl _) _ _
theorem parse_m_yes(s:ByteArray)(w:World)(hs:s.size≤1000)(hg:Hid (GoodD w)){T nu de ng:ByteArray}{x y:List UInt8}
  (C1:Hid (∀w,Calls Tryz.prog 61 #[.string s,.string ⟨#[45]⟩] w fun e w'=>e=.returned (.tuple #[.string T,.bool true])∧w=w'))
  (C2:Hid (∀w,GoodD w→Calls Tryz.prog 82 #[.string T] w fun e w'=>e=.returned (.tuple #[.string nu,.string de])∧Below w.heap.size w w'))
  (C3:Hid (∀w,Calls Tryz.prog 83 #[.string nu] w fun e w'=>e=.returned (.string ng)∧w=w'))
  (C4:Hid (∀w,Calls Tryz.prog 84 #[.string ng,.string de] w (GiveRB w ((x,y),true)))) :
  Calls Tryz.prog 46 #[.string s] w (GiveRE w ((x,y),0)):=by
 have hx1:¬(1000:Int)<(s.size:Int):=by omega
 go_enter Tryz.func46,Tryz.ntmps46;go_wp2_with fail;obtain⟨W,hW,BW,sW,r0,r1,r2,r3⟩:=box0z w (.string ⟨#[]⟩) (.string ⟨#[]⟩) 23;rw[hW];clear hW;have b0:=Below.refl W.heap.size W;go_wp2_with fail;refine(C1.out _).mono ?_;rintro e w' ⟨rfl,rfl⟩;go_wp2_with fail;refine(C2.out _ (hg.out.below BW)).mono ?_;rintro e w1 ⟨rfl,b⟩;have b1:=Below.more b0 b;clear b;go_wp2_with fail;refine(C3.out _).mono ?_;rintro e w' ⟨rfl,rfl⟩;go_wp2_with fail;refine(C4.out _).mono ?_;rintro e w9 ⟨rfl,b⟩;have b9:=Below.more b1 b;clear b;have ba:=fun x=>Below.alloc b9 (Below.size b9) x;go_wp2_with fail;refine bodyPost_ret (v:=.tuple #[.agg #[.string ⟨x.toArray⟩,.string ⟨y.toArray⟩],.int .i64 0]) (by simp[results,Tryz.results46,go_sem, *]) rfl ⟨rfl,?_⟩;exact put2 (BW.trans ((ba _).mono (by omega))) (Nat.le_refl _) _ _
theorem parse_m_no(s:ByteArray)(w:World)(hs:s.size≤1000)(hg:Hid (GoodD w)){T nu de ng:ByteArray}{x y:List UInt8}
  (C1:Hid (∀w,Calls Tryz.prog 61 #[.string s,.string ⟨#[45]⟩] w fun e w'=>e=.returned (.tuple #[.string T,.bool true])∧w=w'))
  (C2:Hid (∀w,GoodD w→Calls Tryz.prog 82 #[.string T] w fun e w'=>e=.returned (.tuple #[.string nu,.string de])∧Below w.heap.size w w'))
  (C3:Hid (∀w,Calls Tryz.prog 83 #[.string nu] w fun e w'=>e=.returned (.string ng)∧w=w'))
  (C4:Hid (∀w,Calls Tryz.prog 84 #[.string ng,.string de] w (GiveRB w ((x,y),false)))) :
  Calls Tryz.prog 46 #[.string s] w (GiveRE w (([],[]),40)):=by
 have hx1:¬(1000:Int)<(s.size:Int):=by omega
 go_enter Tryz.func46,Tryz.ntmps46;go_wp2_with fail;obtain⟨W,hW,BW,sW,r0,r1,r2,r3⟩:=box0z w (.string ⟨#[]⟩) (.string ⟨#[]⟩) 23;rw[hW];clear hW;have b0:=Below.refl W.heap.size W;go_wp2_with fail;refine(C1.out _).mono ?_;rintro e w' ⟨rfl,rfl⟩;go_wp2_with fail;refine(C2.out _ (hg.out.below BW)).mono ?_;rintro e w1 ⟨rfl,b⟩;have b1:=Below.more b0 b;clear b;go_wp2_with fail;refine(C3.out _).mono ?_;rintro e w' ⟨rfl,rfl⟩;go_wp2_with fail;refine(C4.out _).mono ?_;rintro e w9 ⟨rfl,b⟩;have b9:=Below.more b1 b;clear b;have ba:=fun x=>Below.alloc b9 (Below.size b9) x;go_wp2_with fail;refine bodyPost_ret (v:=.tuple #[.agg #[.string ⟨#[]⟩,.string ⟨#[]⟩],.int .i64 40]) (by simp[results,Tryz.results46,go_sem, *]) rfl ⟨rfl,?_⟩;exact put2 (BW.trans ((ba _).mono (by omega))) (Nat.le_refl _) _ _
theorem parse_any(s:ByteArray)(w:World)(hs:s.size≤1000000)(hg:GoodD w) :
  Calls Tryz.prog 46 #[.string s] w (GiveRE w (parS s.data.toList)):=by
 by_cases h:1000<s.size
 ·rw[parS_long (by rw[size_toList];exact h)];exact parse_long s w hs h
 ·have h':s.size≤1000:=by omega
  rw[parS_make (by rw[size_toList];exact h)];obtain⟨b,t,hu⟩:∃b t,unD s.data.toList=(b,t):=⟨_,_,rfl⟩;have hl:=unD_len s.data.toList;rw[hu]at hl ⊢;have hl:t.length≤1000:=by rw[size_toList]at hl;exact Nat.le_trans hl h'
  have c1:=fun w=>cutP_any s w hu;obtain⟨p1,p2⟩:=partsT_len t;have c2:=fun w hg=>parts_any ⟨t.toArray⟩ w (by rw[size_of];omega) hg;have hn:=negW_len1 b (partsT t).1;have c4:=fun w=>qmake_any ⟨(ngD b (partsT t).1).toArray⟩ ⟨(partsT t).2.toArray⟩ w (by rw[size_of];omega) (by rw[size_of];omega);show Calls _ _ _ _ (GiveRE w (if (makeR (ngD b (partsT t).1) (partsT t).2).2 then ((makeR (ngD b (partsT t).1) (partsT t).2).1,0) else (([],[]),40)));have c4:∀w,Calls _ _ _ w (GiveRB w (makeR (ngD b (partsT t).1) (partsT t).2)):=c4;have c3:b=true→∀w,Calls Tryz.prog 83 #[.string ⟨(partsT t).1.toArray⟩] w fun e w'=>e=.returned (.string ⟨(ngD b (partsT t).1).toArray⟩)∧w=w':=fun hb w=>by
   subst hb;exact wneg_any ⟨(partsT t).1.toArray⟩ w (by rw[size_of];omega)
  have c2:∀w,GoodD w→Calls Tryz.prog 82 #[.string ⟨t.toArray⟩] w fun e w'=>e=.returned (.tuple #[.string ⟨(partsT t).1.toArray⟩,.string ⟨(partsT t).2.toArray⟩])∧Below w.heap.size w w':=c2;generalize makeR (ngD b (partsT t).1) (partsT t).2=m at *;obtain⟨⟨x,y⟩,f⟩:=m
  cases b with
  | false=>cases f with
   | true=>exact parse_p_yes s w h' (zh hg) (zh c1) (zh c2) (zh c4)
   | false=>exact parse_p_no s w h' (zh hg) (zh c1) (zh c2) (zh c4)
  | true=>cases f with
   | true=>exact parse_m_yes s w h' (zh hg) (zh c1) (zh c2) (zh (c3 rfl)) (zh c4)
   | false=>exact parse_m_no s w h' (zh hg) (zh c1) (zh c2) (zh (c3 rfl)) (zh c4)
end Go.Proofs.YtcebkcilkhebeaaGreatDoor
