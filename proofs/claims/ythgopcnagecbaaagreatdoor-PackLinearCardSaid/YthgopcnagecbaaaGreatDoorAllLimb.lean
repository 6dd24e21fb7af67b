/- Own work. -/
import Derived.WalkKit
import Derived.WalkSpells
import Derived.WalkLawsBesides
import Derived.RangeFuncBox
import Derived.Deep.OwnRows
import Derived.RangeFuncNested
import Derived.RangeFuncBound
import Derived.RangeFuncCalls
import Derived.RangeFuncLeaves
import Derived.Shelf.Abstract
import Derived.Shelf.RegionOpen
import Derived.OwnWalkIn
import Derived.TacticsInMore
import Derived.LoopNIn
import Derived.LoopIn
import Derived.Deep.QuietTactic
import Derived.BigQuiet
import Derived.OrdersHeld
import Derived.OrdersIn
import Derived.Deep.RegionHeld3
import Derived.ScopeJumps
import Derived.Scope
import Derived.Deep.LoopGhost
import Derived.Test.YthgopcnagecbaaaGreatDoorAllNum
import Derived.Test.YthgopcnagecbaaaGreatDoorRows
set_option maxHeartbeats 2000000
set_option maxRecDepth 100000
namespace Go.Proofs.YthgopcnagecbaaaGreatDoor
open Go.RowKit
theorem ret_int{k:IntKind}{a b:Int}(h:a=b):Ending.returned (.int k a)=.returned (.int k b):=by rw[h]
def Arr(w:World)(b off:Nat)(xs:List Nat):Prop :=
 ∀j,j<xs.length→w.cell? ⟨b,off+j,none⟩=some (.int .u64 ((gl xs j:Nat):Int))
def Free(w:World)(b off n:Nat):Prop:=∀j,j<n→w.frozen? ⟨b,off+j,none⟩=false
def Lim(w:World)(v:Value)(xs:List Nat):Prop :=
 Small xs∧((v=.slice none 0 0∧xs=[]) ∨
  ∃b off cap,v=.slice (some ⟨b,off,none⟩) xs.length cap∧xs.length≤cap∧cap≤4611686018427387904∧b<w.heap.size∧Arr w b off xs)
def LimN(w:World)(v:Value)(n:Nat):Prop:=∃xs,Lim w v xs∧Norm xs∧valL xs=n
def GiveN(w:World)(n:Nat)(e:Ending)(w':World):Prop:=∃v,e=.returned v∧LimN w' v n∧Below w.heap.size w w'
theorem Arr.below{B:Nat}{w w':World}{b off:Nat}{xs:List Nat}(h:Below B w w')(hb:b<B)(ha:Arr w b off xs):Arr w' b off xs :=
 fun j hj=>(h.cell (p:=⟨b,off+j,none⟩) hb).trans (ha j hj)
theorem Free.below{B:Nat}{w w':World}{b off n:Nat}(h:Below B w w')(hb:b<B)(ha:Free w b off n):Free w' b off n :=
 fun j hj=>(h.frozen (p:=⟨b,off+j,none⟩) hb).trans (ha j hj)
theorem Lim.below{w w':World}{v:Value}{xs:List Nat}(hl:Lim w v xs)(h:Below w.heap.size w w'):Lim w' v xs:=by
 obtain⟨hs,h0|⟨b,off,cap,hv,hc,hm,hb,ha⟩⟩:=hl
 ·exact⟨hs,.inl h0⟩
 ·exact⟨hs,.inr ⟨b,off,cap,hv,hc,hm,Nat.lt_of_lt_of_le hb h.size,ha.below h hb⟩⟩
theorem Lim.form{w:World}{v:Value}{xs:List Nat}(h:Lim w v xs):∃a c,v=.slice a xs.length c:=by
 obtain⟨_,⟨rfl,rfl⟩|⟨b,off,cap,rfl,_⟩⟩:=h
 ·exact⟨none,0,rfl⟩
 ·exact⟨_,_,rfl⟩
theorem LimN.below{w w':World}{v:Value}{n:Nat}(hl:LimN w v n)(h:Below w.heap.size w w'):LimN w' v n:=by
 obtain⟨xs,h1,h2⟩:=hl;exact⟨xs,h1.below h,h2⟩
structure Wr(w w':World)(b lo hi:Nat):Prop where
 grown:w.grownBy w' (some b)
 size:w'.heap.size=w.heap.size
 cell:∀j,j<lo∨hi≤j→w'.cell? ⟨b,j,none⟩=w.cell? ⟨b,j,none⟩
 frozen:∀j,w'.frozen? ⟨b,j,none⟩=w.frozen? ⟨b,j,none⟩
 keeps:KeepsOthers w w'
theorem grownBy_refl(w:World)(r:Option Nat):w.grownBy w r:=⟨rfl,rfl,rfl,Nat.le_refl _,fun _ _ _=>rfl⟩
theorem grownBy_trans{a b c:World}{r:Option Nat}(h:a.grownBy b r)(k:b.grownBy c r):a.grownBy c r :=
 ⟨k.os.trans h.os,k.tape.trans h.tape,k.output.trans h.output,Nat.le_trans h.size k.size,fun i hi hr=>(k.block i (Nat.lt_of_lt_of_le hi h.size) hr).trans (h.block i hi hr)⟩
theorem size_setCell(w:World)(a:Addr)(v:Value):(w.setCell a v).heap.size=w.heap.size:=by simp[World.setCell]
theorem cell?_setCell_ne(w:World)(b i j:Nat)(v:Value)(h:i≠j):(w.setCell ⟨b,i,none⟩ v).cell? ⟨b,j,none⟩=w.cell? ⟨b,j,none⟩:=by
 exact World.cell?_setCell_other _ _ _ _ (fun e=>h (by cases e;rfl))
theorem Wr.refl(w:World)(b lo hi:Nat):Wr w w b lo hi:=⟨grownBy_refl _ _,rfl,fun _ _=>rfl,fun _=>rfl,KeepsOthers.refl _⟩
theorem Wr.trans{u w w':World}{b lo hi:Nat}(h:Wr u w b lo hi)(k:Wr w w' b lo hi):Wr u w' b lo hi :=
 ⟨grownBy_trans h.grown k.grown,k.size.trans h.size,fun j hj=>(k.cell j hj).trans (h.cell j hj),fun j=>(k.frozen j).trans (h.frozen j),h.keeps.trans k.keeps⟩
theorem Wr.mono{w w':World}{b lo hi lo' hi':Nat}(h:Wr w w' b lo hi)(h1:lo'≤lo)(h2:hi≤hi'):Wr w w' b lo' hi' :=
 ⟨h.grown,h.size,fun j hj=>h.cell j (by omega),h.frozen,h.keeps⟩
theorem Wr.one(w:World)(b k:Nat)(v:Value):Wr w (w.setCell ⟨b,k,none⟩ v) b k (k+1) :=
 ⟨⟨rfl,rfl,rfl,by rw[size_setCell];exact Nat.le_refl _,fun i _ hi=>Below.heap_setCell w _ v i (fun e=>hi (by rw[e]))⟩,size_setCell _ _ _,
  fun j hj=>cell?_setCell_ne w b k j v (by omega),fun j=>World.frozen?_setCell _ _ _ _,KeepsOthers.setCell _ _ _⟩
theorem Wr.set{u w:World}{b lo hi:Nat}(h:Wr u w b lo hi){k:Nat}(v:Value)(h1:lo≤k)(h2:k<hi):Wr u (w.setCell ⟨b,k,none⟩ v) b lo hi :=
 h.trans ((Wr.one w b k v).mono h1 h2)
theorem Wr.below{w w':World}{b lo hi B:Nat}(h:Wr w w' b lo hi)(hb:B≤b)(hB:B≤w.heap.size):Below B w w' :=
 (Below.refl B w).grown h.grown hB (fun k e=>by cases e;exact hb)
theorem Wr.heap{w w':World}{b lo hi:Nat}(h:Wr w w' b lo hi){k:Nat}(hk:k≠b):w'.heap[k]?=w.heap[k]?:=by
 by_cases hlt:k<w.heap.size
 ·exact h.grown.block k hlt (fun e=>hk (by cases e;rfl))
 ·rw[Array.getElem?_eq_none (by rw[h.size];omega),Array.getElem?_eq_none (by omega)]
theorem Wr.far{w w':World}{b lo hi:Nat}(h:Wr w w' b lo hi){k:Nat}(hk:k≠b)(j:Nat):w'.cell? ⟨k,j,none⟩=w.cell? ⟨k,j,none⟩:=World.cell?_of_block (h.heap hk)
theorem Wr.farFrozen{w w':World}{b lo hi:Nat}(h:Wr w w' b lo hi){k:Nat}(hk:k≠b)(j:Nat):w'.frozen? ⟨k,j,none⟩=w.frozen? ⟨k,j,none⟩:=World.frozen?_of_block (h.heap hk)
theorem Wr.boxed{w w':World}{b lo hi B:Nat}{t:TypeId}{v:Value}(h:Wr w w' b lo hi)(hb:B≠b)(hx:Boxed w B t v):Boxed w' B t v:=(h.heap hb).trans hx
theorem Wr.arr{w w':World}{b lo hi b' off:Nat}{xs:List Nat}(h:Wr w w' b lo hi)(hb:b'≠b)(ha:Arr w b' off xs):Arr w' b' off xs :=
 fun j hj=>h.grown.cell (ha j hj) (fun e=>hb (by cases e;rfl))
theorem Wr.free{w w':World}{b lo hi off n:Nat}(h:Wr w w' b lo hi)(ha:Free w b off n):Free w' b off n :=
 fun j hj=>(h.frozen _).trans (ha j hj)
theorem Wr.drew{u w:World}{b lo hi:Nat}(h:Wr u w b lo hi):Wr u w.drew b lo hi :=
 ⟨⟨h.grown.os,h.grown.tape,h.grown.output,h.grown.size,h.grown.block⟩,h.size,h.cell,h.frozen,⟨h.keeps.size,h.keeps.same⟩⟩
theorem Wr.drewN{u w:World}{b lo hi:Nat}(h:Wr u w b lo hi)(n:Nat):Wr u (w.drewN n) b lo hi :=
 ⟨⟨h.grown.os,h.grown.tape,h.grown.output,h.grown.size,h.grown.block⟩,h.size,h.cell,h.frozen,⟨h.keeps.size,h.keeps.same⟩⟩
theorem Arr.drewN{w:World}{b off:Nat}{xs:List Nat}(h:Arr w b off xs)(n:Nat):Arr (w.drewN n) b off xs:=h
theorem Lim.drewN{w:World}{v:Value}{xs:List Nat}(h:Lim w v xs)(n:Nat):Lim (w.drewN n) v xs:=h
theorem Arr.set{w:World}{b off:Nat}{xs:List Nat}(ha:Arr w b off xs){k:Nat}(hk:k<xs.length)(v:Nat) :
  Arr (w.setCell ⟨b,off+k,none⟩ (.int .u64 (v:Int))) b off (xs.set k v):=fun j hj=>by
 rw[List.length_set]at hj;by_cases e:k=j
 ·subst e;rw[World.cell?_setCell_same' _ _ _ (by rw[ha k hk];rfl),gl_set_same hk]
 ·rw[cell?_setCell_ne _ _ _ _ _ (by omega),gl_set_other e];exact ha j hj
theorem Arr.window{w:World}{b off:Nat}{zs:List Nat}(h:Arr w b off zs){k n:Nat}(hk:k+n≤zs.length):Arr w b (off+k) (window zs k n):=fun j hj=>by
 rw[window_length hk]at hj;rw[gl_window hj,Nat.add_assoc];exact h (k+j) (by omega)
theorem Arr.splice{w w':World}{b off:Nat}{zs ws:List Nat}(h:Arr w b off zs){k:Nat}(hk:k+ws.length≤zs.length)(hw:Wr w w' b (off+k) (off+k+ws.length))(ha:Arr w' b (off+k) ws) :
  Arr w' b off (splice zs k ws):=fun j hj=>by
 rw[splice_length hk]at hj;rw[gl_splice hk];by_cases h1:j<k
 ·rw[if_pos h1];exact(hw.cell (off+j) (by omega)).trans (h j hj)
 ·rw[if_neg h1];by_cases h2:j<k+ws.length
  ·rw[if_pos h2];have:=ha (j-k) (by omega)
   rwa[show off+k+(j-k)=off+j from by omega]at this
  ·rw[if_neg h2];exact(hw.cell (off+j) (by omega)).trans (h j hj)
theorem Free.window{w:World}{b off n:Nat}(h:Free w b off n){k m:Nat}(hk:k+m≤n):Free w b (off+k) m:=fun j hj=>by
 rw[Nat.add_assoc];exact h (k+j) (by omega)
structure Made(w w':World)(n:Nat):Prop where
 size:w'.heap.size=w.heap.size+1
 arr:Arr w' w.heap.size 0 (List.replicate n 0)
 free:Free w' w.heap.size 0 n
 below:Below w.heap.size w w'
 keeps:KeepsOthers w w'
theorem made(w:World)(n t:Nat):Made w (w.alloc (.cells (madeCells #[.int .u64 0] n) t)) n:=by
 have hb:=World.alloc_heap_new w (.cells (madeCells #[.int .u64 0] n) t);have hl:(madeCells #[Value.int .u64 0] n).toList=List.replicate n (.int .u64 0):=toList_madeCells_one _ _;refine⟨by simp,fun j hj=>?_,fun j hj=>?_,(Below.refl _ _).alloc (Nat.le_refl _) _,KeepsOthers.alloc _ _⟩
 ·rw[List.length_replicate]at hj;rw[cell_of_row _ _ _ _ _ _ hb,← Array.getElem?_toList,hl,gl_zeros];simp[hj]
 ·unfold World.frozen?;rw[hb];simp
end Go.Proofs.YthgopcnagecbaaaGreatDoor
namespace Go.Proofs.YthgopcnagecbaaaGreatDoor
open Go.RowKit
def atL(xs:List Nat)(i:Int):Nat:=if i<0 then 0 else gl xs i.toNat
theorem atL_nat(xs:List Nat)(k:Nat):atL xs (k:Int)=gl xs k:=by unfold atL;rw[if_neg (by omega)];rfl
theorem atL_lt{xs:List Nat}(h:Small xs)(i:Int):atL xs i<1000000000:=by
 unfold atL;split
 ·decide
 ·exact h.gl _
theorem at_any(w:World)(v:Value)(xs:List Nat)(i:Int)(hl:Lim w v xs)(h1:-1≤i)(h2:i≤4611686018427387904) :
  Calls Tryz.prog 158 #[v,.int .i64 i] w fun e w'=>e=.returned (.int .u64 ((atL xs i:Nat):Int))∧w=w':=by
 obtain⟨hs,⟨rfl,rfl⟩|⟨b,off,cap,rfl,hcap,hm,hb,ha⟩⟩:=hl
 ·have hz:atL [] i=0:=by unfold atL;split<;>rfl
  have HZ:=zh hz;clear hz;go_enter Tryz.func158,Tryz.ntmps158
  go_wp2
  all_goals
   go_ret;exact⟨ret_int (by rw[HZ.out];rfl),rfl⟩
 ·rcases Int.lt_or_le i 0 with hi|hi
  ·have hz:atL xs i=0:=by unfold atL;rw[if_pos hi]
   have HZ:=zh hz;clear hz;go_enter Tryz.func158,Tryz.ntmps158
   go_wp2
   go_ret;exact⟨ret_int (by rw[HZ.out];rfl),rfl⟩
  ·rcases Int.lt_or_le i xs.length with hn|hn
   ·have hc:=ha i.toNat (by omega);have hz:atL xs i=gl xs i.toNat:=by unfold atL;rw[if_neg (by omega)]
    have HZ:=zh hz;clear hz;go_enter Tryz.func158,Tryz.ntmps158
    go_wp2
    go_ret;exact⟨ret_int (by rw[HZ.out]),rfl⟩
   ·have hz:atL xs i=0:=by unfold atL;rw[if_neg (by omega)];exact gl_beyond (by omega)
    have HZ:=zh hz;clear hz;go_enter Tryz.func158,Tryz.ntmps158
    go_wp2
    go_ret;exact⟨ret_int (by rw[HZ.out];rfl),rfl⟩
theorem at_nat(w:World)(v:Value)(xs:List Nat)(k:Nat)(hl:Lim w v xs)(h2:k≤4611686018427387904) :
  Calls Tryz.prog 158 #[v,.int .i64 (k:Int)] w fun e w'=>e=.returned (.int .u64 ((gl xs k:Nat):Int))∧w=w':=by
 have h:=at_any w v xs k hl (by omega) (by omega);rw[atL_nat]at h;exact h
theorem at_same(w:World)(v:Value)(xs:List Nat)(k:Nat)(hl:Lim w v xs)(h2:k≤4611686018427387904) :
  Calls Tryz.prog 158 #[v,.int .i64 (k:Int)] w fun e w'=>e=.returned (.int .u64 ((gl xs k:Nat):Int))∧w'=w :=
 (at_nat w v xs k hl h2).mono fun _ _ ⟨he,hw⟩=>⟨he,hw.symm⟩
end Go.Proofs.YthgopcnagecbaaaGreatDoor
namespace Go.Proofs.YthgopcnagecbaaaGreatDoor
open Go.RowKit
def AddPost(w:World)(bo oo n t:Nat)(xs ys:List Nat)(e:Ending)(w':World):Prop :=
 ∃ (zs:List Nat) (cy:Nat),e=.returned (.int .u64 (cy:Int))∧zs.length=n∧Small zs∧cy≤t∧valL zs+cy*Bp n=valL xs+t*valL ys∧Arr w' bo oo zs∧Wr w w' bo oo (oo+n)
theorem addTimes_some(w:World)(bo oo n co bb ob cb:Nat)(xs ys:List Nat)(t:Nat)(hx:Small xs)(hy:Small ys)(hxl:xs.length=n)(hyl:ys.length=n)(ht:t≤10000000000)(hn:n≤4611686018427387904)
  (hne:bb≠bo) (hax:Arr w bo oo xs) (hay:Arr w bb ob ys) (hfr:Free w bo oo n) :
  Calls Tryz.prog 146 #[.slice (some ⟨bo,oo,none⟩) n co,.slice (some ⟨bb,ob,none⟩) n cb,.int .u64 (t:Int)] w (AddPost w bo oo n t xs ys):=by
 have HX:=zh hxl;clear hxl;have HY:=zh hyl;clear hyl;go_enter Tryz.func146,Tryz.ntmps146
 go_wp2
 go_loopw [7,13] (fun c i wr=>∃ (k cy:Nat) (zs:List Nat),k≤n∧i=.int .i64 k∧c=.int .u64 cy∧AddRel xs ys t zs k cy∧Arr wr bo oo zs∧Wr w wr bo oo (oo+n)) (fun _ i _=>n-(intOf i).toNat)
 case atStart=>exact⟨0,0,xs,Nat.zero_le _,rfl,rfl,AddRel.start ys t hx,hax,Wr.refl _ _ _ _⟩
 case round =>
  obtain⟨k,cy,zs,hk,rfl,rfl,hr,haz,hw⟩:=hrel;by_cases hlt:k<n
  ·have hzl:zs.length=n:=by rw[hr.1];exact HX.out
   have c1:=haz k (by omega);have c2:=hw.arr hne hay k (by have:=HY.out;omega);have f1:=hw.free hfr k hlt;obtain⟨b1,b2,b3⟩:=hr.lt hy;have hst:=hr.step hy (by have:=HX.out;omega);have b4:999999999*t≤9999999990000000000:=by omega
   have HR:=zh hst;clear hst;have HZ:=zh hzl;clear hzl
   go_wp2
   go_roundw
   case rel =>
    have ha2:=haz.set (k:=k) (by rw[HZ.out];exact hlt) ((gl zs k+gl ys k*t+cy) % 1000000000);rw[cast_mod,Int.natCast_add,Int.natCast_add,Int.natCast_mul]at ha2;refine⟨k+1,_,_,by omega,by go_num,?_,HR.out,ha2,hw.set _ (by omega) (by omega)⟩;exact congrArg (Value.int .u64) (by rw[cast_div,Int.natCast_add,Int.natCast_add,Int.natCast_mul])
   case measure=>simp[intOf];omega
  ·obtain rfl:k=n:=by omega
   have hd:=hr.done HX.out HY.out;have HD:=zh hd;clear hd
   go_wp2
   go_ret;exact⟨zs,cy,rfl,HD.out.1,HD.out.2.1,HD.out.2.2.1,HD.out.2.2.2,haz,hw⟩
theorem addTimes_one(w:World)(bo oo n co bb ob cb:Nat)(xs ys:List Nat)(hx:Small xs)(hy:Small ys)(hxl:xs.length=n)(hyl:ys.length=n)(hn:n≤4611686018427387904)
  (hne:bb≠bo) (hax:Arr w bo oo xs) (hay:Arr w bb ob ys) (hfr:Free w bo oo n) :
  Calls Tryz.prog 146 #[.slice (some ⟨bo,oo,none⟩) n co,.slice (some ⟨bb,ob,none⟩) n cb,.int .u64 1] w (AddPost w bo oo n 1 xs ys) :=
 addTimes_some w bo oo n co bb ob cb xs ys 1 hx hy hxl hyl (by omega) hn hne hax hay hfr
theorem addTimes_none(w:World)(bo oo co:Nat)(t:Nat) :
  Calls Tryz.prog 146 #[.slice (some ⟨bo,oo,none⟩) 0 co,.slice none 0 0,.int .u64 (t:Int)] w fun e w'=>e=.returned (.int .u64 0)∧w=w':=by
 go_enter Tryz.func146,Tryz.ntmps146
 go_wp2
 go_loop [7,13] (fun c i=>i=.int .i64 0∧c=.int .u64 0) (fun _ _=>0)
 case atStart=>exact⟨rfl,rfl⟩
 case round =>
  obtain⟨rfl,rfl⟩:=hrel
  go_wp2
  go_ret;exact⟨rfl,rfl⟩
theorem addTimes_any(w:World)(bo oo n co:Nat)(v:Value)(xs ys:List Nat)(t:Int)(ht0:0≤t)(ht:t≤10000000000)(hx:Small xs)(hxl:xs.length=n)(hyl:ys.length=n)
  (hl:Lim w v ys) (hne:∀b off m c,v=.slice (some ⟨b,off,none⟩) m c→b≠bo) (hax:Arr w bo oo xs) (hfr:Free w bo oo n) :
  Calls Tryz.prog 146 #[.slice (some ⟨bo,oo,none⟩) n co,v,.int .u64 t] w (AddPost w bo oo n t.toNat xs ys):=by
 obtain⟨t,rfl⟩:=Int.eq_ofNat_of_zero_le ht0;rw[Int.toNat_natCast];obtain⟨hs,⟨rfl,rfl⟩|⟨b,off,cap,rfl,hcap,hm,hb,ha⟩⟩:=hl
 ·obtain rfl:n=0:=by simpa using hyl.symm
  obtain rfl:xs=[]:=by simpa using hxl
  refine(addTimes_none w bo oo co t).mono ?_;rintro e w' ⟨rfl,rfl⟩;exact⟨[],0,rfl,rfl,Small.nil,Nat.zero_le _,by simp[valL_nil],hax,Wr.refl _ _ _ _⟩
 ·subst hyl;exact addTimes_some w bo oo ys.length co b off cap xs ys t hx hs hxl rfl (by omega) (by omega) (hne _ _ _ _ rfl) hax ha hfr
def TakePost(w:World)(bo oo n t:Nat)(xs ys:List Nat)(e:Ending)(w':World):Prop :=
 ∃ (zs:List Nat) (bw:Nat),e=.returned (.int .u64 (bw:Int))∧zs.length=n∧Small zs∧bw≤t+1∧valL zs+t*valL ys=valL xs+bw*Bp n∧Arr w' bo oo zs∧Wr w w' bo oo (oo+n)
theorem takeTimes_any(w:World)(bo oo n co bb ob cb:Nat)(xs ys:List Nat)(t:Nat)(hx:Small xs)(hy:Small ys)(hxl:xs.length=n)(hyl:ys.length=n)(ht:t≤10000000000)(hn:n≤4611686018427387904)
  (hne:bb≠bo) (hax:Arr w bo oo xs) (hay:Arr w bb ob ys) (hfr:Free w bo oo n) :
  Calls Tryz.prog 160 #[.slice (some ⟨bo,oo,none⟩) n co,.slice (some ⟨bb,ob,none⟩) n cb,.int .u64 (t:Int)] w (TakePost w bo oo n t xs ys):=by
 have HX:=zh hxl;clear hxl;have HY:=zh hyl;clear hyl;go_enter Tryz.func160,Tryz.ntmps160
 go_wp2
 go_loopw [7,13] (fun c i wr=>∃ (k bw:Nat) (zs:List Nat),k≤n∧i=.int .i64 k∧c=.int .u64 bw∧TakeRel xs ys t zs k bw∧Arr wr bo oo zs∧Wr w wr bo oo (oo+n)) (fun _ i _=>n-(intOf i).toNat)
 case atStart=>exact⟨0,0,xs,Nat.zero_le _,rfl,rfl,TakeRel.start ys t hx,hax,Wr.refl _ _ _ _⟩
 case round =>
  obtain⟨k,bw,zs,hk,rfl,rfl,hr,haz,hw⟩:=hrel;by_cases hlt:k<n
  ·have hzl:zs.length=n:=by rw[hr.1];exact HX.out
   have c1:=haz k (by omega);have c2:=hw.arr hne hay k (by have:=HY.out;omega);have f1:=hw.free hfr k hlt;obtain⟨b1,b2,b3⟩:=hr.lt hy;have b4:999999999*t≤9999999990000000000:=by omega
   have hst:=fun z c=>hr.step (z:=z) (c:=c) hy (by have:=HX.out;omega);have HR:=zh hst;clear hst;have HZ:=zh hzl;clear hzl;obtain⟨A,hA⟩:∃A,gl ys k*t+bw=A:=⟨_,rfl⟩;have e1:(A:Int)=↑(gl ys k)*↑t+↑bw:=by rw[←hA,Int.natCast_add,Int.natCast_mul]
   by_cases hb:gl zs k<(gl ys k*t+bw) % 1000000000
   ·have h1:=haz.set (k:=k) (by rw[HZ.out];exact hlt) (gl zs k+1000000000);have h2:=h1.set (k:=k) (by rw[List.length_set,HZ.out];exact hlt) (gl zs k+1000000000-A % 1000000000);rw[List.set_set]at h2;rw[hA]at hb;have e2:((gl zs k+1000000000:Nat):Int)=(gl zs k:Int)+1000000000:=by omega
    have e3:((gl zs k+1000000000-A % 1000000000:Nat):Int)=(gl zs k:Int)+1000000000-(↑(gl ys k)*↑t+↑bw) % 1000000000:=by rw[←e1];omega
    rw[e2,e3]at h2;have hb':(gl zs k:Int)<(↑(gl ys k)*↑t+↑bw) % 1000000000:=by rw[←e1];omega
    have e4:(((A / 1000000000+1:Nat):Int))=(↑(gl ys k)*↑t+↑bw) / 1000000000+1:=by rw[←e1];omega
    have hst:=HR.out (gl zs k+1000000000-A % 1000000000) (A / 1000000000+1) (by omega) (by rw[hA];omega);have H2:=zh h2;have H4:=zh e4;have HS:=zh hst
    clear h1 h2 e1 e2 e3 e4 hst hb hA
    go_wp2
    go_roundw
    case rel=>exact⟨k+1,_,_,by omega,by go_num,by rw[←H4.out],HS.out,H2.out,(hw.set _ (by omega) (by omega)).set _ (by omega) (by omega)⟩
    case measure=>simp[intOf];omega
   ·rw[hA]at hb;have h2:=haz.set (k:=k) (by rw[HZ.out];exact hlt) (gl zs k-A % 1000000000);have e3:((gl zs k-A % 1000000000:Nat):Int)=(gl zs k:Int)-(↑(gl ys k)*↑t+↑bw) % 1000000000:=by rw[←e1];omega
    rw[e3]at h2;have hb':(↑(gl ys k)*↑t+↑bw) % 1000000000≤(gl zs k:Int):=by rw[←e1];omega
    have e4:(((A / 1000000000:Nat):Int))=(↑(gl ys k)*↑t+↑bw) / 1000000000:=by rw[←e1];omega
    have hst:=HR.out (gl zs k-A % 1000000000) (A / 1000000000) (by omega) (by rw[hA];omega);have H2:=zh h2;have H4:=zh e4;have HS:=zh hst
    clear h2 e1 e3 e4 hst hb hA
    go_wp2
    go_roundw
    case rel=>exact⟨k+1,_,_,by omega,by go_num,by rw[←H4.out],HS.out,H2.out,hw.set _ (by omega) (by omega)⟩
    case measure=>simp[intOf];omega
  ·obtain rfl:k=n:=by omega
   have hd:=hr.done HX.out HY.out;have HD:=zh hd;clear hd
   go_wp2
   go_ret;exact⟨zs,bw,rfl,HD.out.1,HD.out.2.1,HD.out.2.2.1,HD.out.2.2.2,haz,hw⟩
end Go.Proofs.YthgopcnagecbaaaGreatDoor
namespace Go.Proofs.YthgopcnagecbaaaGreatDoor
open Go.RowKit Go.Shelf
attribute [local go_sem] Oper.semAt_some
def dn(len k:Nat):List Nat:=(List.range k).map (fun j=>len-1-j)
theorem dn_succ(len k:Nat):dn len (k+1)=dn len k++[len-1-k]:=by simp[dn,List.range_succ]
theorem dn_length(len k:Nat):(dn len k).length=k:=by simp[dn]
theorem dn_step{len m:Nat}(h:m<len):dn len (len-1-m)++[m]=dn len (len-m):=by
 rw[show len-m=len-1-m+1 from by omega,dn_succ,show len-1-(len-1-m)=m from by omega]
abbrev Pl(len:Nat)(V:Nat→Nat→Prop):={ p:Nat×Nat // p.1<len∧V p.1 p.2 }
def idx{len:Nat}{V:Nat→Nat→Prop}(l:List (Pl len V)):List Nat:=l.map (fun p=>p.1.1)
theorem idx_snoc{len:Nat}{V:Nat→Nat→Prop}(l:List (Pl len V))(x:Pl len V):idx (l++[x])=idx l++[x.1.1]:=by simp[idx]
def encP{len:Nat}{V:Nat→Nat→Prop}(x:Pl len V):Array Value:=#[.int .i64 (x.1.1:Int),.int .u64 (x.1.2:Int)]
def Ready(Bs b off len cap:Nat)(V:Nat→Nat→Prop)(W:World):Prop :=
 W.cell? ⟨Bs,0,none⟩=some (.slice (some ⟨b,off,none⟩) len cap)∧∀j,j<len→∃x:Nat,V j x∧W.cell? ⟨b,off+j,none⟩=some (.int .u64 (x:Int))
def ReadyK(Bs b off len cap:Nat)(V:Nat→Nat→Prop)(A B:World):Prop:=Ready Bs b off len cap V A→Ready Bs b off len cap V B
theorem readyK_t{Bs b off len cap:Nat}{V:Nat→Nat→Prop}{A B C:World}(h:ReadyK Bs b off len cap V A B)(k:ReadyK Bs b off len cap V B C):ReadyK Bs b off len cap V A C:=fun r=>k (h r)
theorem readyK_b{Bs b off len cap:Nat}{V:Nat→Nat→Prop}(W:World)(l:Nat)(o o':Obj)(hl:W.heap[l]?=some o)(ho:o.isCells=false):ReadyK Bs b off len cap V W (W.putObj l o'):=fun hR =>
 ⟨cell_kept hR.1 (grownBy_putObj' W l o') (fun r e=>by cases e;exact⟨o,hl,ho⟩),fun j hj=>by
  obtain⟨x,hx,hc⟩:=hR.2 j hj;exact⟨x,hx,cell_kept hc (grownBy_putObj' W l o') (fun r e=>by cases e;exact⟨o,hl,ho⟩)⟩⟩
theorem ReadyK.of{Bs b off len cap:Nat}{V:Nat→Nat→Prop}{A B:World}(h1:B.cell? ⟨Bs,0,none⟩=A.cell? ⟨Bs,0,none⟩)(h2:∀j,j<len→B.cell? ⟨b,off+j,none⟩=A.cell? ⟨b,off+j,none⟩):ReadyK Bs b off len cap V A B :=
 fun hR=>⟨h1.trans hR.1,fun j hj=>by obtain⟨x,hx,hc⟩:=hR.2 j hj;exact⟨x,hx,(h2 j hj).trans hc⟩⟩
theorem behind1_in(F:Fence)(n:Nat)(hf:F.fn 159)(hro:F.round=none)(hn:1≤n)(l Bs b off len cap:Nat)(V:Nat→Nat→Prop)(hlen:len≤4611686018427387904)
  (J Jx:List (Pl len V)→World→Prop)
  (hY:∀pre x W,J pre W→pre.length<len→YieldAt F (n-1) Tryz.prog l (encP x) W fun e W' =>
   (e=.returned (.bool true)∧J (pre++[x]) W'∧ReadyK Bs b off len cap V W W')∨(e=.returned (.bool false)∧Jx (pre++[x]) W'))
  (W:World) (hR:Ready Bs b off len cap V W) (h0:J [] W) :
  CallsIn F n Tryz.prog 159 #[.func (.yield l) #[] #[],.pointer (some ⟨Bs,0,none⟩)] W fun e W'=>(∃v,e=.returned v) ∧
   ((∃ys,idx ys=dn len len∧J ys W')∨(∃pre,(∃k,k≤len∧idx pre=dn len k)∧Jx pre W')):=by
 refine callsIn_of_wp Tryz.func159 rfl hf ?_ hro;simp only[Tryz.ntmps159,List.size_toArray,List.length_cons,List.length_nil,Nat.reduceAdd,Nat.reduceSub,Array.replicate_succ,Array.replicate_zero,List.push_toArray,List.append_toArray,List.nil_append,List.cons_append];have hB:=hR.1
 gi_wp2
 clear hB
 gi_loopw [3] (fun i wr=>∃pre:List (Pl len V),J pre wr∧Ready Bs b off len cap V wr∧((∃m:Nat,m<len∧idx pre=dn len (len-1-m)∧i=.int .i64 (m:Int))∨(idx pre=dn len len∧i=.int .i64 (-1))))
  (fun i _=>(intOf i+1).toNat)
 case atStart =>
  by_cases hz:len=0
  ·exact⟨[],h0,hR,.inr ⟨by subst hz;rfl,congrArg (Value.int .i64) (by omega)⟩⟩
  ·exact⟨[],h0,hR,.inl ⟨len-1,by omega,by simp[idx,dn],congrArg (Value.int .i64) (by omega)⟩⟩
 case round =>
  obtain⟨pre,hJs,hRw,⟨m,hm,hp,rfl⟩|⟨hp,rfl⟩⟩:=hrel
  ·have hB:=hRw.1;obtain⟨x,hV,hc⟩:=hRw.2 m hm;have hpl:pre.length=len-1-m:=by have:=congrArg List.length hp;rw[dn_length]at this;simpa [idx] using this
   obtain⟨fn,tmps,assign,body,hy,hRd⟩:=hY pre ⟨(m,x),hm,hV⟩ wr hJs (by omega);have HP:=zh hp;clear hp;have HPL:=zh hpl;clear hpl;have HR:=zh hRw;clear hRw;simp only[encP]at hy
   gi_wp2
   refine hRd.mono ?_;rintro e W3 (⟨rfl,hJ3,hk3⟩|⟨rfl,hJx3⟩)
   ·gi_wp2
    go_roundw
    case rel =>
     refine⟨_,hJ3,hk3 HR.out,?_⟩;by_cases hz:m=0
     ·refine .inr ⟨?_,by subst hz;rfl⟩;rw[idx_snoc,HP.out];refine(dn_step hm).trans ?_;rw[hz];rfl
     ·refine .inl ⟨m-1,by omega,?_,congrArg (Value.int .i64) (by omega)⟩;rw[idx_snoc,HP.out,show len-1-(m-1)=len-m from by omega];exact dn_step hm
    case measure=>simp[intOf]
   ·gi_wp2
    refine bodyPost_ret (results_none rfl _ _ _) rfl ?_;refine⟨⟨_,rfl⟩,.inr ⟨_,⟨len-m,by omega,?_⟩,hJx3⟩⟩;rw[idx_snoc,HP.out];exact dn_step hm
  ·have HP:=zh hp;clear hp
   gi_wp2
   go_end0
   exact⟨⟨_,rfl⟩,.inl ⟨_,HP.out,hJs⟩⟩
theorem behind_in(F:Fence)(n:Nat)(hf:F.fn 142)(hro:F.round=none)(a:Option Addr)(len cap:Nat)(w:World) :
  CallsIn F n Tryz.prog 142 #[.slice a len cap] w fun e w'=>e=.returned (.func (.func 159) #[] #[.pointer (some ⟨w.heap.size,0,none⟩)])∧w'=w.alloc (.cells #[.slice a len cap] 111):=by
 refine callsIn_of_wp Tryz.func142 rfl hf ?_ hro;simp only[Tryz.ntmps142,List.size_toArray,List.length_cons,List.length_nil,Nat.reduceAdd,Nat.reduceSub,Array.replicate_succ,Array.replicate_zero,List.push_toArray,List.append_toArray,List.nil_append,List.cons_append]
 gi_wp2
 go_ret;exact⟨rfl,rfl⟩
theorem behind_stops(F:Fence)(n:Nat)(hf:F.fn 159)(hro:F.round=none)(hn:1≤n)(Bs b off len cap:Nat)(V:Nat→Nat→Prop)(hlen:len≤4611686018427387904)(w:World)
  (hBs:Bs<w.heap.size) (hb:b<w.heap.size) (hR:Ready Bs b off len cap V w) :
  SeqStopsK F n Tryz.prog 159 #[.pointer (some ⟨Bs,0,none⟩)] (encP (len:=len) (V:=V)) (ReadyK Bs b off len cap V) (fun ys=>idx ys=dn len len) (fun pre=>∃k,k≤len∧idx pre=dn len k) len w :=
 fun l J Jx W hW _ _ hY h0=>behind1_in F n hf hro hn l Bs b off len cap V hlen J Jx hY W ⟨(hW.cell (p:=⟨Bs,0,none⟩) hBs).trans hR.1,fun j hj=>by
  obtain⟨x,hx,hc⟩:=hR.2 j hj;exact⟨x,hx,(hW.cell (p:=⟨b,off+j,none⟩) hb).trans hc⟩⟩ h0
theorem LimN.putObj{W:World}{v:Value}{n:Nat}(h:LimN W v n){l:Nat}{o:Obj}(hl:W.heap[l]?=some o)(ho:o.isCells=false)(o':Obj):LimN (W.putObj l o') v n:=by
 obtain⟨xs,⟨h1,h2⟩,h3⟩:=h;refine⟨xs,⟨h1,?_⟩,h3⟩;rcases h2 with h2|⟨b,off,cap,hv,hc,hm,hb,ha⟩
 ·exact .inl h2
 ·exact .inr ⟨b,off,cap,hv,hc,hm,Nat.lt_of_lt_of_le hb (grownBy_putObj' W l o').size,fun j hj=>cell_kept (ha j hj) (grownBy_putObj' W l o') (fun r e=>by cases e;exact⟨o,hl,ho⟩)⟩
theorem arr_own{β:Type}(b off n:Nat)(f:β→List Nat):Own (fun s W=>(f s).length=n∧Arr W b off (f s)∧Free W b off n):=fun s X Y row hs hg hr=>by
 obtain⟨h0,h1,h2⟩:=hs;exact⟨h0,fun j hj=>cell_kept (h1 j hj) hg hr,fun j hj=>(frozen_kept (h1 j (by omega)) hg hr).trans (h2 j hj)⟩
end Go.Proofs.YthgopcnagecbaaaGreatDoor
namespace Go.Proofs.YthgopcnagecbaaaGreatDoor
open Go.RowKit Go.Shelf
attribute [local go_sem] Oper.semAt_some
def ZeroFrom(xs:List Nat)(k:Nat):Prop:=∀j,k≤j→gl xs j=0
theorem ZeroFrom.val{xs:List Nat}{k:Nat}(h:ZeroFrom xs k)(hk:k≤xs.length):valL (xs.take k)=valL xs:=by
 unfold valL;rw[List.length_take,Nat.min_eq_left hk,sumTo_congr (g:=gl xs) (fun j hj=>gl_take hj)];exact(sumTo_more hk (fun j hj=>h j hj)).symm
theorem zero_of_dn{xs:List Nat}{V:Nat→Nat→Prop}{pre:List (Pl xs.length V)}{k:Nat}(hk:k≤xs.length)(hp:idx pre=dn xs.length k)(hV:∀j x,V j x→x=gl xs j)(hz:∀p∈pre,p.1.2=0):ZeroFrom xs (xs.length-k):=fun j hj=>by
 by_cases hl:j<xs.length
 ·have hm:j∈idx pre:=by
   rw[hp];unfold dn;rw[List.mem_map];exact⟨xs.length-1-j,by rw[List.mem_range];omega,by omega⟩
  unfold idx at hm;obtain⟨p,h1,h2⟩:=List.mem_map.1 hm;rw[←h2,← hV _ _ p.2.2];exact hz p h1
 ·exact gl_beyond (by omega)
def TrimI(w:World)(b off cap:Nat)(xs:List Nat)(pre:List (Pl xs.length (fun j x=>x=gl xs j)))(W:World):Prop :=
 ((∀p∈pre,p.1.2=0)∧Boxed W w.heap.size 111 (.slice (some ⟨b,off,none⟩) xs.length cap)∧Boxed W (w.heap.size+1) 111 (.slice none 0 0))∧Below w.heap.size w W
def TrimX(w:World)(b off cap:Nat)(xs:List Nat)(c:Code)(pre:List (Pl xs.length (fun j x=>x=gl xs j)))(W:World):Prop :=
 (∃ini last,c=.ret∧pre=ini++[last]∧(∀p∈ini,p.1.2=0)∧last.1.2≠0∧Boxed W (w.heap.size+1) 111 (.slice (some ⟨b,off,none⟩) (last.1.1+1) cap))∧Below w.heap.size w W
theorem trim_some_in(F:Fence)(n:Nat)(h1f:F.fn 138)(h2f:F.fn 142)(h3f:F.fn 159)(hro:F.round=none)(hn:3≤n)(b off cap:Nat)(xs:List Nat)(w:World)
  (hs:Small xs) (hcap:xs.length≤cap) (hm:cap≤4611686018427387904) (hb:b<w.heap.size) (ha:Arr w b off xs) :
  CallsIn F n Tryz.prog 138 #[.slice (some ⟨b,off,none⟩) xs.length cap] w fun e w'=>GiveN w (valL xs) e w':=by
 have h1:1≤n:=by omega
 refine callsIn_of_wp_marks Tryz.func138 rfl h1f ?_ hro;simp only[Tryz.ntmps138,List.size_toArray,List.length_cons,List.length_nil,Nat.reduceAdd,Nat.reduceSub,Array.replicate_succ,Array.replicate_zero,List.push_toArray,List.append_toArray,List.nil_append,List.cons_append]
 gi_wp2_with (gi_at_call 142;refine(behind_in F (n-1) h2f hro _ _ _ _).mono ?_;rintro e w' ⟨rfl,rfl⟩)
 have bA:=Boxed.new w 111 (.slice (some ⟨b,off,none⟩) xs.length cap);have bR:=Boxed.new (w.alloc (.cells #[.slice (some ⟨b,off,none⟩) xs.length cap] 111)) 111 (.slice none 0 0);rw[World.size_alloc]at bR;have bN:=Boxed.new ((w.alloc (.cells #[.slice (some ⟨b,off,none⟩) xs.length cap] 111)).alloc (.cells #[.slice none 0 0] 111)) 111 (.slice (some ⟨b,off,none⟩) xs.length cap);rw[World.size_alloc,World.size_alloc]at bN;have hB0:Below w.heap.size w (((w.alloc (.cells #[.slice (some ⟨b,off,none⟩) xs.length cap] 111)).alloc (.cells #[.slice none 0 0] 111)).alloc (.cells #[.slice (some ⟨b,off,none⟩) xs.length cap] 111)) :=
  (((Below.refl _ w).alloc (Nat.le_refl _) _).alloc (by simp) _).alloc (by simp;omega) _
 have hsz:(((w.alloc (.cells #[.slice (some ⟨b,off,none⟩) xs.length cap] 111)).alloc (.cells #[.slice none 0 0] 111)).alloc (.cells #[.slice (some ⟨b,off,none⟩) xs.length cap] 111)).heap.size=w.heap.size+3:=by simp
 have hRd:Ready (w.heap.size+1+1) b off xs.length cap (fun j x=>x=gl xs j) (((w.alloc (.cells #[.slice (some ⟨b,off,none⟩) xs.length cap] 111)).alloc (.cells #[.slice none 0 0] 111)).alloc (.cells #[.slice (some ⟨b,off,none⟩) xs.length cap] 111)) :=
  ⟨bN.cell,fun j hj=>⟨_,rfl,ha.below hB0 hb j hj⟩⟩
 refine wpIn_rangeFunc_ownG hro h1 (gf:=159) (lb:=#[.pointer (some ⟨w.heap.size+1+1,0,none⟩)]) rfl h3f (enters_of Tryz.func159 (by kernel_rfl) rfl)
  (behind_stops F (n-1) h3f hro (by omega) (w.heap.size+1+1) b off xs.length cap (fun j x=>x=gl xs j) (by omega) _ (by rw[hsz];omega) (by rw[hsz];omega) hRd) readyK_t (fun W l o o' _ hl ho _=>readyK_b W l o o' hl ho) (Below.refl _ _) (fun _=>rfl)
  (TrimI w b off cap xs) (TrimX w b off cap xs)
  (OwnFrom.and (OwnFrom.and (ownFrom_pure _ _) (OwnFrom.and (Own.from (boxed_own _ _ _) _) (Own.from (boxed_own _ _ _) _))) (ownFrom_below (Nat.le_refl _) (by rw[hsz];omega)))
  (fun c=>OwnFrom.and (fun s X Y row hs hg hrow=>by
   obtain⟨ini,last,e1,e2,e3,e4,e5⟩:=hs;exact⟨ini,last,e1,e2,e3,e4,Own.from (boxed_own (w.heap.size+1) 111 (fun _:Unit=>Value.slice (some ⟨b,off,none⟩) (last.1.1+1) cap)) _ () X Y row e5 hg hrow⟩) (ownFrom_below (Nat.le_refl _) (by rw[hsz];omega)))
  ⟨⟨(fun _ h=>nomatch h),(bA.alloc _).alloc _,bR.alloc _⟩,hB0⟩
  (fun x=>{ tmps:=#[.slice (some ⟨b,off,none⟩) xs.length cap,.pointer (some ⟨w.heap.size,0,none⟩),.pointer (some ⟨w.heap.size+1,0,none⟩),.int .i64 (x.1.1:Int),.int .u64 (x.1.2:Int),.slice (some ⟨b,off,none⟩) xs.length cap,
   .func (.func 159) #[] #[.pointer (some ⟨w.heap.size+1+1,0,none⟩)],.int .i64 (x.1.1:Int),.int .u64 (x.1.2:Int),undef,undef,undef,undef,undef,undef],defers:=[] }) ?assign ?body ?done ?stop
 case assign =>
  intro l x W K hK;simp only[encP]
  gi_wp2
  exact hK
 case body =>
  rintro l pre x W ⟨⟨hp,hA,hR⟩,hB⟩ _;have hx1:=x.2.1;have c1:=hA.cell;have c2:=hR.cell;have f2:=hR.frozen;by_cases hz:x.1.2=0
  ·have hz':((x.1.2:Int) != 0)=false:=by rw[hz];rfl
   have HP:=zh hp;clear hp;have HZ:=zh hz;clear hz
   gi_wp2
   exact⟨KeepsFrom.refl _ _,fun h=>h,⟨⟨fun p hp'=>(List.mem_append.1 hp').elim (HP.out p) (fun e=>by rw[List.mem_singleton.1 e];exact HZ.out),hA,hR⟩,hB⟩⟩
  ·have hz':((x.1.2:Int) != 0)=true:=by rw[bne_iff_ne];omega
   have HP:=zh hp;clear hp;have HZ:=zh hz;clear hz
   gi_wp2
   exact⟨(KeepsOthers.setCell _ _ _).from _,⟨⟨pre,x,rfl,rfl,HP.out,HZ.out,hR.set _⟩,hB.setCell (p:=⟨w.heap.size+1,0,none⟩) (by simp) _⟩⟩
 case done =>
  rintro D ys W hD hS ⟨⟨hp,hA,hR⟩,hB⟩ hK;have c2:=hR.cell;have f2:=hR.frozen;have hz0:=zero_of_dn (Nat.le_refl _) hS (fun _ _ h=>h) hp;have hval:valL xs=0:=(ZeroFrom.val hz0 (by omega)).symm.trans (by rw[Nat.sub_self];rfl);have HV:=zh hval;clear hval hz0;have HP:=zh hp;clear hp;have HS:=zh hS;clear hS
  gi_wp2
  have hK':=(KeepsOthers.setCell W ⟨w.heap.size+1,0,none⟩ (.slice none 0 0)).same D _ hK rfl;refine⟨by simp,.inl ⟨_,_,rfl,run_takeDeferred hK',?_⟩⟩;have hc5:=cell_kept (World.cell?_setCell_same' W ⟨w.heap.size+1,0,none⟩ (.slice none 0 0) (by rw[c2];rfl)) (grownBy_putObj' _ D (.deferred none)) (fun r e=>by cases e;exact⟨_,hK',rfl⟩);refine⟨.slice none 0 0,?_,.slice none 0 0,rfl,⟨[],⟨Small.nil,.inl ⟨rfl,rfl⟩⟩,Norm.nil,HV.out.symm⟩,(hB.setCell (p:=⟨w.heap.size+1,0,none⟩) (by simp) _).trans (belowK_b (w:=w) (Nat.le_refl _) _ D _ _ (by rw[hsz]at hD;omega) hK' rfl rfl)⟩;simp[results,Tryz.f138,go_sem,hc5]
 case stop =>
  rintro D c pre W hD ⟨k,hk,hp⟩ ⟨⟨ini,last,rfl,rfl,e3,e4,hR⟩,hB⟩ hK;have c2:=hR.cell;obtain⟨k',rfl⟩:∃k',k=k'+1:=by
   cases k with
   | zero=>have:=congrArg List.length hp;simp[idx,dn]at this
   | succ k'=>exact⟨k',rfl⟩
  rw[idx_snoc,dn_succ]at hp;obtain⟨hp1,hp2⟩:=List.append_inj' hp rfl;have hm1:last.1.1=xs.length-1-k':=by simpa using hp2
  have hl1:=last.2.1;have hv1:last.1.2=gl xs last.1.1:=last.2.2;have hz0:=zero_of_dn (by omega) hp1 (fun _ _ h=>h) e3;have hlen:xs.length-k'=last.1.1+1:=by omega
  rw[hlen]at hz0;have hval:=hz0.val (by omega);have hno:Norm (xs.take (last.1.1+1)):=fun _=>by
   rw[List.length_take,Nat.min_eq_left (by omega),gl_eq,gl_take (by omega),Nat.add_sub_cancel,← hv1];exact e4
  have hD':w.heap.size≤D:=by rw[hsz]at hD;omega
  have hlim:∀w',Below w.heap.size w w'→Lim w' (.slice (some ⟨b,off,none⟩) (last.1.1+1) cap) (xs.take (last.1.1+1)):=fun w' hw'=>by
   refine⟨hs.take _,.inr ⟨b,off,cap,by rw[List.length_take,Nat.min_eq_left (by omega)],by rw[List.length_take];omega,hm,Nat.lt_of_lt_of_le hb hw'.size,fun j hj=>?_⟩⟩;rw[List.length_take]at hj;rw[gl_take (by omega)];exact ha.below hw' hb j (by omega)
  clear hp hp1 hp2 hm1 hv1 hz0 e4 e3 hsz hlen;have HV:=zh hval;clear hval;have HN:=zh hno;clear hno;have HL:=zh hlim;clear hlim
  gi_wp2
  refine⟨by simp,.inl ⟨_,_,rfl,run_takeDeferred hK,?_⟩⟩;have hc5:=cell_kept c2 (grownBy_putObj' _ D (.deferred none)) (fun r e=>by cases e;exact⟨_,hK,rfl⟩);have hbl:=hB.trans (belowK_b (w:=w) (Nat.le_refl _) W D _ (.deferred none) hD' hK rfl rfl);refine⟨.slice (some ⟨b,off,none⟩) (last.1.1+1) cap,?_,_,rfl,⟨_,HL.out _ hbl,HN.out,HV.out⟩,hbl⟩;simp[results,Tryz.f138,go_sem,hc5]
theorem trim_in(F:Fence)(k:Nat)(h1f:F.fn 138)(h2f:F.fn 142)(h3f:F.fn 159)(hro:F.round=none)(hn:3≤k)(b off n cap:Nat)(xs:List Nat)(w:World)(hl:xs.length=n)
  (hs:Small xs) (hcap:n≤cap) (hm:cap≤4611686018427387904) (hb:b<w.heap.size) (ha:Arr w b off xs) :
  CallsIn F k Tryz.prog 138 #[.slice (some ⟨b,off,none⟩) n cap] w fun e w'=>GiveN w (valL xs) e w':=by
 subst hl;exact trim_some_in F k h1f h2f h3f hro hn b off cap xs w hs hcap hm hb ha
theorem trim_any(b off n cap:Nat)(xs:List Nat)(w:World)(hn:xs.length=n)
  (hs:Small xs) (hcap:n≤cap) (hm:cap≤4611686018427387904) (hb:b<w.heap.size) (ha:Arr w b off xs) :
  Calls Tryz.prog 138 #[.slice (some ⟨b,off,none⟩) n cap] w fun e w'=>GiveN w (valL xs) e w':=by
 subst hn;exact callsIn_wide.1 (trim_some_in Fence.wide 3 trivial trivial trivial rfl (by omega) b off cap xs w hs hcap hm hb ha)
end Go.Proofs.YthgopcnagecbaaaGreatDoor
namespace Go.Proofs.YthgopcnagecbaaaGreatDoor
open Go.RowKit
theorem info_u64:(Tryz.prog.info? 127).map (fun i=>(i.zero,i.size,i.bytes))=some (some (.int .u64 0),1,8):=by kernel_rfl
theorem wpList_make_limbs(w:World){ops:Array Oper}{rest:List Oper}{o:Oper}{a:Act}{Q:Exit→Act→World→Prop}
  (hg:o.guard=none) (l c:Operand) (hop:o.op=Op.makeSlice 111 l c) (kl kc:IntKind) (L C:Int) (n:Nat) (hl:a.eval l=.int kl L) (hc:a.eval c=.int kc C) (hL:L=(n:Int)) (hC:C=(n:Int))
  (h:n≤4294967296) (hK:∀w',Made w w' n→wpList Tryz.prog ops Q rest (a.put o.dst (.slice (some ⟨w.heap.size,0,none⟩) n n)) w') :
  wpList Tryz.prog ops Q (o::rest) a w:=by
 obtain⟨i,hi,hz0,hz1,hz2⟩:=info_parts info_u64;subst hL;subst hC;exact wpList_make_row w hg l c 111 hop 127 i (.int .u64 0) Tryz.underlying111 hi hz0 hz1 rfl kl kc n hl hc (by rw[hz2];omega) (by omega) (hK _ (made w n 127))
theorem sum_any(w:World)(va vb:Value)(m n:Nat)(ha:LimN w va m)(hb:LimN w vb n)(hm:Big m)(hn:Big n) :
  Calls Tryz.prog 139 #[va,vb] w (GiveN w (m+n)):=by
 obtain⟨xs,la,na,rfl⟩:=ha;obtain⟨ys,lb,nb,rfl⟩:=hb;have b1:=na.big hm;have b2:=nb.big hn;clear hm hn;obtain⟨aa,ca,rfl⟩:=la.form;obtain⟨ab,cb,rfl⟩:=lb.form;have hsx:=la.1;have hsy:=lb.1;have hmm:∃m,xs.length≤m∧ys.length≤m∧m≤1073741824∧((m=ys.length∧xs.length<m)∨(m=xs.length∧ys.length≤m)):=by
  rcases Nat.lt_or_ge xs.length ys.length with h|h
  ·exact⟨ys.length,by omega,by omega,by omega,.inl ⟨rfl,by omega⟩⟩
  ·exact⟨xs.length,by omega,by omega,by omega,.inr ⟨rfl,by omega⟩⟩
 obtain⟨m,hx,hy,hb,hcase⟩:=hmm;clear b1 b2;have HX:=zh hx;clear hx;have HY:=zh hy;clear hy;rcases hcase with ⟨hm,hlt⟩|⟨hm,hlt⟩
 all_goals
  have hm':=hm.symm;clear hm
  (first|rw[hm']at la|rw[hm']at lb)
  have HM:=zh hm';go_enter Tryz.func139,Tryz.ntmps139;go_wp2_with (at_make;refine wpList_make_limbs _ rfl _ _ rfl _ _ _ _ (m+1) rfl rfl (by omega) (by omega) (by omega) ?_;intro w1 hmade);clear hm'
  go_loopw [6,18] (fun c i wr=>∃ (k cy:Nat) (zs:List Nat),k≤m+1∧i=.int .i64 k∧c=.int .u64 cy∧SumRel xs ys (m+1) zs k cy∧Arr wr w.heap.size 0 zs∧Wr w1 wr w.heap.size 0 (m+1)) (fun _ i _=>m+1-(intOf i).toNat)
  case atStart=>exact⟨0,0,_,Nat.zero_le _,rfl,rfl,SumRel.start xs ys (m+1),hmade.arr,Wr.refl _ _ _ _⟩
  case round =>
   obtain⟨k,cy,zs,hk,rfl,rfl,hr,haz,hw⟩:=hrel;have hbw:Below w.heap.size w wr:=hmade.below.trans (hw.below (Nat.le_refl _) (by rw[hmade.size];omega));by_cases hlt:k<m+1
   ·have c1:=haz k (by rw[hr.1];exact hlt);have f1:=hw.free hmade.free k hlt;rw[Nat.zero_add]at c1 f1;have b1:=hsx.gl k;have b2:=hsy.gl k;have b3:=hr.2.2.1;have ha2:=haz.set (k:=k) (by rw[hr.1];exact hlt) ((gl xs k+gl ys k+cy) % 1000000000);have hst:=hr.step hsx hsy hlt;rw[cast_mod,Int.natCast_add,Int.natCast_add,Nat.zero_add]at ha2;have HA:=zh ha2;clear ha2;have HS:=zh hst;clear hst;go_wp2_with fail;refine(at_nat _ _ _ k (la.below hbw) (by omega)).mono ?_;rintro e w' ⟨rfl,rfl⟩;go_wp2_with fail;refine(at_nat _ _ _ k (lb.below hbw) (by omega)).mono ?_;rintro e w' ⟨rfl,rfl⟩;go_wp2_with fail;go_roundw
    case rel=>exact⟨k+1,_,_,by omega,by go_num,congrArg (Value.int .u64) (by rw[cast_div,Int.natCast_add,Int.natCast_add]),HS.out,HA.out,hw.set _ (by omega) (by omega)⟩
    case measure=>simp[intOf];omega
   ·obtain rfl:k=m+1:=by omega
    have hd:=hr.done hsx hsy HX.out HY.out;have HD:=zh hd;clear hd;have hsz:wr.heap.size=w.heap.size+1:=by rw[hw.size,hmade.size]
    have HZ:=zh hsz;clear hsz;go_wp2_with (go_at_call 138;refine(trim_any w.heap.size 0 (m+1) (m+1) zs _ HD.out.1 HD.out.2.1 (by omega) (by omega) (by rw[HZ.out];omega) haz).mono ?_;rintro e w2 ⟨v,rfl,hv,hbl⟩);go_ret;exact⟨v,rfl,by rw[←HD.out.2.2];exact hv,hbw.trans (hbl.mono hbw.size)⟩
theorem difference_any(w:World)(va vb:Value)(m n:Nat)(ha:LimN w va m)(hb:LimN w vb n)(hm:Big m)(hle:n≤m) :
  Calls Tryz.prog 140 #[va,vb] w (GiveN w (m-n)):=by
 obtain⟨xs,la,na,rfl⟩:=ha;obtain⟨ys,lb,nb,rfl⟩:=hb;have b1:=na.big hm;have hyx:ys.length≤xs.length:=by
  rcases Nat.lt_or_ge xs.length ys.length with h|h
  ·have:=lt_of_shorter la.1 nb h;omega
  ·exact h
 clear hm;obtain⟨aa,ca,rfl⟩:=la.form;have hsx:=la.1;have hsy:=lb.1;have HL:=zh hle;clear hle;have HY:=zh hyx;clear hyx;rcases la with ⟨_,⟨he,rfl⟩|⟨b,off,cap,he,hcap,hcm,hbk,hax⟩⟩
 ·simp only[List.length_nil,Value.slice.injEq]at he;obtain⟨rfl,_,rfl⟩:=he;obtain rfl:ys=[]:=List.length_eq_zero_iff.1 (by have:=HY.out;simpa using this);go_enter Tryz.func140,Tryz.ntmps140;go_wp2_with (at_make;refine wpList_make_limbs _ rfl _ _ rfl _ _ _ _ 0 rfl rfl (by omega) (by omega) (by omega) ?_;intro w1 hmade)
  go_loop [6,14] (fun c i=>i=.int .i64 0∧c=.int .u64 0) (fun _ _=>0)
  case atStart=>exact⟨rfl,rfl⟩
  case round =>
   obtain⟨rfl,rfl⟩:=hrel;have hsz:w1.heap.size=w.heap.size+1:=hmade.size;have HZ:=zh hsz;clear hsz;go_wp2_with (go_at_call 138;refine(trim_any w.heap.size 0 0 0 [] _ rfl Small.nil (by omega) (by omega) (by rw[HZ.out];omega) hmade.arr).mono ?_;rintro e w2 ⟨v,rfl,hv,hbl⟩);go_ret;exact⟨v,rfl,hv,hmade.below.trans (hbl.mono hmade.below.size)⟩
 ·simp only[Value.slice.injEq]at he;obtain⟨rfl,_,rfl⟩:=he;obtain⟨m,hm⟩:∃m,xs.length=m:=⟨_,rfl⟩;rw[hm]at b1 hcap HY;have HM:=zh hm;go_enter Tryz.func140,Tryz.ntmps140;go_wp2_with (at_make;refine wpList_make_limbs _ rfl _ _ rfl _ _ _ _ m rfl rfl (by omega) (by omega) (by omega) ?_;intro w1 hmade);clear hm
  go_loopw [6,14] (fun c i wr=>∃ (k bw:Nat) (zs:List Nat),k≤m∧i=.int .i64 k∧c=.int .u64 bw∧DiffRel xs ys m zs k bw∧Arr wr w.heap.size 0 zs∧Wr w1 wr w.heap.size 0 m) (fun _ i _=>m-(intOf i).toNat)
  case atStart=>exact⟨0,0,_,Nat.zero_le _,rfl,rfl,DiffRel.start xs ys m,hmade.arr,Wr.refl _ _ _ _⟩
  case round =>
   obtain⟨k,bw,zs,hk,rfl,rfl,hr,haz,hw⟩:=hrel;have hbw:Below w.heap.size w wr:=hmade.below.trans (hw.below (Nat.le_refl _) (by rw[hmade.size];omega));by_cases hlt:k<m
   ·have c1:=haz k (by rw[hr.1];exact hlt);have c2:=hax.below hbw hbk k (by rw[HM.out];exact hlt);have f1:=hw.free hmade.free k hlt;rw[Nat.zero_add]at c1 f1;have b1:=hsx.gl k;have b2:=hsy.gl k;have b3:=hr.2.2.1;have ha2:=fun nq=>(haz.drewN nq).set (k:=k) (by rw[hr.1];exact hlt) ((gl xs k+1000000000-gl ys k-bw) % 1000000000);have hst:=hr.step hsx hsy hlt;have e1:((gl xs k+1000000000-gl ys k-bw:Nat):Int)=↑(gl xs k)+1000000000 - ↑(gl ys k) - ↑bw:=by omega
    have e2:((1-(gl xs k+1000000000-gl ys k-bw) / 1000000000:Nat):Int)=1-(↑(gl xs k)+1000000000 - ↑(gl ys k) - ↑bw) / 1000000000:=by omega
    rw[cast_mod,e1,Nat.zero_add]at ha2;have HA:=zh ha2;clear ha2;have HS:=zh hst;clear hst;have HE:=zh e2;clear e1 e2;go_wp2_with fail
    go_quiet ((go_at_call 158;exact Calls.quiet_of_same (at_same _ _ _ k ((lb.below hbw).drewN _) (by omega))))
    go_wp2_with fail;go_roundw
    case rel=>exact⟨k+1,_,_,by omega,by go_num,by rw[HE.out],HS.out,HA.out _,(hw.drewN _).set _ (by omega) (by omega)⟩
    case measure=>simp[intOf];omega
   ·obtain rfl:k=m:=by omega
    have hd:=hr.done (Nat.le_of_eq HM.out) HY.out HL.out;have HD:=zh hd;clear hd;have hsz:wr.heap.size=w.heap.size+1:=by rw[hw.size,hmade.size]
    have HZ:=zh hsz;clear hsz;go_wp2_with (go_at_call 138;refine(trim_any w.heap.size 0 k k zs _ HD.out.1 HD.out.2.1 (by omega) (by omega) (by rw[HZ.out];omega) haz).mono ?_;rintro e w2 ⟨v,rfl,hv,hbl⟩);go_ret;exact⟨v,rfl,by rw[←HD.out.2.2];exact hv,hbw.trans (hbl.mono hbw.size)⟩
end Go.Proofs.YthgopcnagecbaaaGreatDoor
namespace Go.Proofs.YthgopcnagecbaaaGreatDoor
open Go.RowKit
theorem product_some(w:World)(b off ca:Nat)(ab:Option Addr)(cb:Nat)(xs ys:List Nat)(m n:Nat)(hm:xs.length=m)(hn:ys.length=n)(hmb:m≤1073741824)(hnb:n≤1073741824)(hsx:Small xs)(hbk:b<w.heap.size)(hax:Arr w b off xs)
  (lb:Lim w (.slice ab n cb) ys) :
  Calls Tryz.prog 121 #[.slice (some ⟨b,off,none⟩) m ca,.slice ab n cb] w (GiveN w (valL xs*valL ys)):=by
 have hsy:=lb.1;have HM:=zh hm;clear hm;have HN:=zh hn;clear hn;go_enter Tryz.func121,Tryz.ntmps121;go_wp2_with (at_make;refine wpList_make_limbs _ rfl _ _ rfl _ _ _ _ (m+n) rfl rfl (by omega) (by omega) (by omega) ?_;intro w1 hmade)
 go_loopw [16] (fun i wr=>∃ (k:Nat) (zs:List Nat),k≤m∧i=.int .i64 k∧ProdRel xs ys (m+n) zs k∧Arr wr w.heap.size 0 zs∧Wr w1 wr w.heap.size 0 (m+n)) (fun i _=>m-(intOf i).toNat)
 case atStart=>exact⟨0,_,Nat.zero_le _,rfl,ProdRel.start xs ys (m+n),hmade.arr,Wr.refl _ _ _ _⟩
 case round =>
  obtain⟨k,zs,hk,rfl,hr,haz,hw⟩:=hrel;have hbw:Below w.heap.size w wr:=hmade.below.trans (hw.below (Nat.le_refl _) (by rw[hmade.size];omega));by_cases hlt:k<m
  ·have c2:=hax.below hbw hbk k (by rw[HM.out];exact hlt);have b1:=hsx.gl k;have hlb:=lb.below hbw;have hne:∀b off m c,(Value.slice ab n cb)=.slice (some ⟨b,off,none⟩) m c→b≠w.heap.size:=fun b' off' m' c' e=>by
    obtain⟨_,⟨h1,_⟩|⟨b2,o2,c2,h1,_,_,h3,_⟩⟩:=lb
    ·rw[h1]at e;cases e
    ·rw[h1]at e;cases e;omega
   have hz0:zs.length=m+n:=hr.1;have hax2:Arr wr w.heap.size (0+k) (window zs k n):=haz.window (by omega);have hfr2:Free wr w.heap.size (0+k) n:=(hw.free hmade.free).window (k:=k) (m:=n) (by omega);have hfl:wr.frozen? ⟨w.heap.size,k+n,none⟩=false:=by have:=hw.free hmade.free (k+n) (by omega);rwa[Nat.zero_add]at this
   have hco:=haz (k+n) (by omega);have hcall:=addTimes_any wr w.heap.size (0+k) n (m+n-k) (.slice ab n cb) (window zs k n) ys (gl xs k:Nat) (by omega) (by omega) (hr.2.1.window k n) (window_length (by omega)) HN.out hlb hne hax2 hfr2;rw[Int.toNat_natCast,Nat.zero_add]at hcall;have HC:=zh hcall;clear hcall hne hax2 hfr2;have HZ:=zh hz0;clear hz0;go_wp2_with fail;refine HC.out.mono ?_;rintro e w2 ⟨ws,cy,rfl,hl,hs,hc,he,ha2,hw2⟩;have hst:=hr.step (cy:=cy) (ws:=ws) hsx (by rw[HN.out];omega) (by rw[hl,HN.out]) hs hc (by rw[HN.out];exact he);rw[HN.out]at hst;have hsp:Arr w2 w.heap.size 0 (splice zs k ws):=haz.splice (by rw[hl,HZ.out];omega) (by rw[hl,Nat.zero_add];exact hw2) (by rw[Nat.zero_add];exact ha2);have hset:=hsp.set (k:=k+n) (by rw[splice_length (by rw[hl,HZ.out];omega),HZ.out];omega) cy;rw[Nat.zero_add]at hset;have c3:w2.cell? ⟨w.heap.size,k+n,none⟩=some (.int .u64 ((gl zs (k+n):Nat):Int)):=by
    rw[hw2.cell (k+n) (by omega)];rw[Nat.zero_add]at hco;exact hco
   have f3:w2.frozen? ⟨w.heap.size,k+n,none⟩=false:=(hw2.frozen _).trans hfl;have hwr:Wr w1 w2 w.heap.size 0 (m+n):=hw.trans (hw2.mono (by omega) (by omega));have HST:=zh hst;have HSE:=zh hset
   clear hst hset hl he hco hc;go_wp2_with fail;go_roundw
   case rel=>exact⟨k+1,_,by omega,by go_num,HST.out,HSE.out,hwr.set _ (by omega) (by omega)⟩
   case measure=>simp[intOf];omega
  ·obtain rfl:k=m:=by omega
   have hv:=hr.2.2.1;rw[show sumTo (gl xs) k=valL xs from by unfold valL;rw[HM.out]]at hv;have HV:=zh hv;clear hv;have hl:=hr.1;have HL:=zh hl;clear hl;have hsz:wr.heap.size=w.heap.size+1:=by rw[hw.size,hmade.size]
   have HZ:=zh hsz;clear hsz;go_wp2_with (go_at_call 138;refine(trim_any w.heap.size 0 (k+n) (k+n) zs _ HL.out hr.2.1 (by omega) (by omega) (by rw[HZ.out];omega) haz).mono ?_;rintro e w2 ⟨v,rfl,hv,hbl⟩);go_ret;exact⟨v,rfl,by rw[←HV.out];exact hv,hbw.trans (hbl.mono hbw.size)⟩
theorem product_none(w:World)(ab:Option Addr)(n cb:Nat)(hnb:n≤1073741824) :
  Calls Tryz.prog 121 #[.slice none 0 0,.slice ab n cb] w (GiveN w 0):=by
 go_enter Tryz.func121,Tryz.ntmps121;go_wp2_with (at_make;refine wpList_make_limbs _ rfl _ _ rfl _ _ _ _ n rfl rfl (by omega) (by omega) (by omega) ?_;intro w1 hmade)
 go_loop [16] (fun i=>i=.int .i64 0) (fun _=>0)
 case atStart=>exact rfl
 case round =>
  obtain rfl:=hrel;have hsz:w1.heap.size=w.heap.size+1:=hmade.size;have HZ:=zh hsz;clear hsz;go_wp2_with (go_at_call 138;refine(trim_any w.heap.size 0 n n (List.replicate n 0) _ List.length_replicate (Small.zeros n) (by omega) (by omega) (by rw[HZ.out];omega) hmade.arr).mono ?_;rintro e w2 ⟨v,rfl,hv,hbl⟩);go_ret;exact⟨v,rfl,by rw[show valL (List.replicate n 0)=0 from sumTo_zero (fun j _=>gl_zeros n j)]at hv;exact hv,hmade.below.trans (hbl.mono hmade.below.size)⟩
theorem product_any(w:World)(va vb:Value)(m n:Nat)(ha:LimN w va m)(hb:LimN w vb n)(hm:Big m)(hn:Big n) :
  Calls Tryz.prog 121 #[va,vb] w (GiveN w (m*n)):=by
 obtain⟨xs,la,na,rfl⟩:=ha;obtain⟨ys,lb,nb,rfl⟩:=hb;have b1:=na.big hm;have b2:=nb.big hn;obtain⟨ab,cb,rfl⟩:=lb.form;obtain⟨hsx,⟨rfl,rfl⟩|⟨b,off,cap,rfl,hcap,hcm,hbk,hax⟩⟩:=la
 ·rw[valL_nil,Nat.zero_mul];exact product_none w ab ys.length cb b2
 ·exact product_some w b off cap ab cb xs ys _ _ rfl rfl b1 b2 hsx hbk hax lb
end Go.Proofs.YthgopcnagecbaaaGreatDoor
namespace Go.Proofs.YthgopcnagecbaaaGreatDoor
open Go.RowKit
theorem wpListIn_make_limbs{F:Fence}{n:Nat}(w:World){ops:Array Oper}{rest:List Oper}{o:Oper}{a:Act}{Q:Exit→Act→World→Prop}
  (hg:o.guard=none) (l c:Operand) (hop:o.op=Op.makeSlice 111 l c) (kl kc:IntKind) (L C:Int) (m:Nat) (hl:a.eval l=.int kl L) (hc:a.eval c=.int kc C) (hL:L=(m:Int)) (hC:C=(m:Int))
  (h:m≤4294967296) (hK:∀w',Made w w' m→wpListIn F n Tryz.prog ops Q rest (a.put o.dst (.slice (some ⟨w.heap.size,0,none⟩) m m)) w') :
  wpListIn F n Tryz.prog ops Q (o::rest) a w:=by
 refine wpListIn_plain hg fun K hK'=>?_;have hrun:=run_make_row' (P:=Tryz.prog) 111 127 (.int .u64 0) 8 Tryz.underlying111 info_u64 rfl kl kc m (by omega) (by omega) w;subst hL;subst hC;unfold Oper.wpIn;refine⟨?_,?_⟩
 ·simp[Oper.about,hop]
 ·rw[Oper.semAt_plain F _ _ (by rw[hop];intro c hc';cases hc')];simp[execOp,hop,hl,hc,hrun,Result.andThen];exact hK' _ _ (hK _ (made w m 127))
end Go.Proofs.YthgopcnagecbaaaGreatDoor
namespace Go.Proofs.YthgopcnagecbaaaGreatDoor
open Go Go.RowKit
theorem operIn_of_oper{l n:Nat}{P:Program}{o:Oper}{a:Act}{w:World}{K:Act→World→Prop}{Q:Exit→Act→World→Prop}(hd:∀c,o.op≠.defer c)(h:o.wp P a w K Q) :
  o.wpIn (Fence.wide.inRound l) n P a w K Q:=by
 refine⟨fun _ _=>trivial,?_⟩;rw[Oper.semAt_eq _ _ _ hd];unfold Oper.wp at h;generalize (execOp a.eval o).run P w=r at *
 cases r with
 | ok x w' =>
  cases x with
  | value v=>exact h
  | skip=>exact h
  | defer d=>exact h
  | enter f args =>
   refine(show _∧_ from ⟨fun hs=>(by cases hs),?_⟩);exact CallsIn.inRound l (callsIn_wide.2 (Calls.mono h fun e w'' he=>by cases e<;>exact he))
  | row row args =>
   refine(show _∧_ from ⟨fun hs=>(by cases hs),?_⟩);intro c cs _;obtain⟨v,w2,r,s⟩:=h c cs;exact⟨v,w2,r,stepsIn_wide.2 s⟩
  | _=>exact h.elim
 | halt x w'=>cases x<;>exact h
theorem anyIn_of_any{l n:Nat}{P:Program}{md:Region.Mode}{ops:Array Oper}{Q:Exit→Act→World→Prop}(hno:¬LetsOut Q)(hd:∀ (i:Nat) (o:Oper),ops[i]?=some o→∀c,o.op≠.defer c) :
  ∀ (fuel:Nat) (listed:Array Bool) (a:Act) (w:World),wpAny P md ops Q fuel listed a w→wpAnyIn (Fence.wide.inRound l) n P md ops Q fuel listed a w
 | 0,_,_,_,h=>h
 | fuel+1,_,_,_,h=>⟨h.1,fun i hi=>by
  have h2:=h.2 i hi;unfold wpOp at h2;unfold wpOpIn;split
  ·rename_i ho
   simp only[ho]at h2;exact anyIn_of_any hno hd fuel _ _ _ h2
  ·rename_i o ho
   simp only[ho]at h2;split
   ·rename_i hw
    simp only[hw,if_true]at h2;rcases h2 with h3|h3
    ·exact Oper.wpIn_mono (fun a' w'=>anyIn_of_any hno hd fuel _ a' w') (operIn_of_oper (hd i o ho) h3)
    ·exact absurd h3.2 hno
   ·rename_i hw
    simp only[hw]at h2;exact⟨fun _ _=>trivial,anyIn_of_any hno hd fuel _ _ _ h2⟩⟩
theorem inRound_held{l n id:Nat}{P:Program}{ops:Array Oper}{Q:Exit→Act→World→Prop}{a:Act}{w:World}{S:World→Prop}(hm:P.follows .mixedOrders=true)(hno:¬LetsOut Q)(hd:(ops.toList.all fun o=>match o.op with|.defer _=>false|_=>true)=true)
  (hS:S w.drew) (h:S w.drew→wpAnyH P .any ops Q S ops.size (Array.replicate ops.size false) a w.drew):(Code.region id ops true).wpIn (Fence.wide.inRound l) n P Q a w :=
 wpIn_region_any hm (anyIn_of_any hno (fun i o ho c hc=>by
  have h1:=List.all_eq_true.1 hd o (Array.mem_toList_iff.2 (Array.mem_of_getElem? ho));rw[hc]at h1
  cases h1) _ _ _ _ (wpAny_of_held _ _ _ _ (h hS)))
end Go.Proofs.YthgopcnagecbaaaGreatDoor
namespace Go.Proofs.YthgopcnagecbaaaGreatDoor
open Go.RowKit Go.Shelf
attribute [local go_sem] Oper.semAt_some
def UnI(w:World)(m t:Nat)(V:Nat→Nat→Prop)(pre:List (Pl m V))(W:World):Prop :=
 (Boxed W w.heap.size 127 (.int .u64 (t:Int))∧Boxed W (w.heap.size+2) 111 (.slice (some ⟨w.heap.size+1,0,none⟩) m m) ∧
 Boxed W (w.heap.size+3) 127 (.int .u64 (((unSt t m (pre.map (·.1))).1:Nat):Int)) ∧
 ((unSt t m (pre.map (·.1))).2.length=m∧Arr W (w.heap.size+1) 0 (unSt t m (pre.map (·.1))).2∧Free W (w.heap.size+1) 0 m))∧Below w.heap.size w W
theorem unscaled_in(F:Fence)(n:Nat)(hFw:Hid (F=Fence.wide))(h1f:F.fn 144)(h2f:F.fn 142)(h3f:F.fn 159)(h4f:F.fn 138)(hro:F.round=none)(hn:4≤n)(b off cap m t:Nat)(xs:List Nat)(w:World)
  (hm:xs.length=m) (hs:Small xs) (hmb:m≤2147483648) (hb:b<w.heap.size) (ha:Arr w b off xs) (ht:0<t) (htb:t≤999999999) :
  CallsIn F n Tryz.prog 144 #[.slice (some ⟨b,off,none⟩) m cap,.int .u64 (t:Int)] w fun e w'=>GiveN w (valL xs / t) e w':=by
 have h1:1≤n:=by omega
 refine callsIn_of_wp_marks Tryz.func144 rfl h1f ?_ hro;simp only[Tryz.ntmps144,List.size_toArray,List.length_cons,List.length_nil,Nat.reduceAdd,Nat.reduceSub,Array.replicate_succ,Array.replicate_zero,List.push_toArray,List.append_toArray,List.nil_append,List.cons_append]
 gi_wp2_with (first|(gi_at_make;refine wpListIn_make_limbs _ rfl _ _ rfl _ _ _ _ m rfl rfl (by omega) (by omega) (by omega) ?_;intro w1 hmade)|(gi_at_call 142;refine(behind_in F (n-1) h2f hro _ _ _ _).mono ?_;rintro e w' ⟨rfl,rfl⟩))
 have hsz1:w1.heap.size=w.heap.size+2:=by rw[hmade.size];simp
 have hmar:=hmade.arr;have hmfr:=hmade.free;rw[World.size_alloc]at hmar hmfr;rw[hsz1];obtain⟨W2,hW2⟩:∃W2,((w1.alloc (.cells #[.slice (some ⟨w.heap.size+1,0,none⟩) m m] 111)).alloc (.cells #[.int .u64 0] 127)).alloc (.cells #[.slice (some ⟨b,off,none⟩) m cap] 111)=W2:=⟨_,rfl⟩;rw[hW2];have hB1:Below w.heap.size w w1:=((Below.refl _ w).alloc (Nat.le_refl _) _).trans (hmade.below.mono (by simp));have hB12:Below w1.heap.size w1 W2:=by
  rw[←hW2];exact(((Below.refl _ w1).alloc (Nat.le_refl _) _).alloc (by simp) _).alloc (by simp;omega) _
 have hB2:Below w.heap.size w W2:=hB1.trans (hB12.mono (by omega));have bT:Boxed W2 w.heap.size 127 (.int .u64 (t:Int)):=(hB12.block _ (by omega)).trans ((hmade.below.block _ (by simp)).trans (Boxed.new w 127 (.int .u64 (t:Int))));have bO:Boxed W2 (w.heap.size+2) 111 (.slice (some ⟨w.heap.size+1,0,none⟩) m m):=by
  rw[←hW2,← hsz1];exact((Boxed.new w1 _ _).alloc _).alloc _
 have bR:Boxed W2 (w.heap.size+3) 127 (.int .u64 0):=by
  have:=(Boxed.new (w1.alloc (.cells #[.slice (some ⟨w.heap.size+1,0,none⟩) m m] 111)) 127 (.int .u64 0)).alloc (.cells #[.slice (some ⟨b,off,none⟩) m cap] 111);rw[World.size_alloc,hsz1,hW2]at this;exact this
 have bN:Boxed W2 (w.heap.size+4) 111 (.slice (some ⟨b,off,none⟩) m cap):=by
  have:=Boxed.new ((w1.alloc (.cells #[.slice (some ⟨w.heap.size+1,0,none⟩) m m] 111)).alloc (.cells #[.int .u64 0] 127)) 111 (.slice (some ⟨b,off,none⟩) m cap);rw[World.size_alloc,World.size_alloc,hsz1,hW2]at this;exact this
 have hsz2:W2.heap.size=w.heap.size+5:=by rw[←hW2];simp[hsz1]
 have aO:Arr W2 (w.heap.size+1) 0 (List.replicate m 0):=hmar.below hB12 (by omega);have fO:Free W2 (w.heap.size+1) 0 m:=hmfr.below hB12 (by omega);clear hW2 hB12 hB1 hmar hmfr;clear hmade hsz1;have hRd:Ready (w.heap.size+4) b off m cap (fun j x=>x=gl xs j) W2:=⟨bN.cell,fun j hj=>⟨_,rfl,ha.below hB2 hb j (by omega)⟩⟩;rw[show w.heap.size+2+1=w.heap.size+3 from rfl,show w.heap.size+3+1=w.heap.size+4 from rfl];refine wpIn_rangeFunc_ownG hro h1 (gf:=159) (lb:=#[.pointer (some ⟨w.heap.size+4,0,none⟩)]) rfl h3f (enters_of Tryz.func159 (by kernel_rfl) rfl)
  (behind_stops F (n-1) h3f hro (by omega) (w.heap.size+4) b off m cap (fun j x=>x=gl xs j) (by omega) W2 (by omega) (by omega) hRd) readyK_t (fun W l o o' _ hl ho _=>readyK_b W l o o' hl ho) (Below.refl _ _) (fun _=>rfl)
  (UnI w m t (fun j x=>x=gl xs j)) (fun _ _ _=>False)
  (OwnFrom.and (OwnFrom.and (Own.from (boxed_own _ _ (fun _=>Value.int .u64 (t:Int))) _) (OwnFrom.and (Own.from (boxed_own _ _ (fun _=>Value.slice (some ⟨w.heap.size+1,0,none⟩) m m)) _) (OwnFrom.and (Own.from (boxed_own _ _ _) _) (Own.from (arr_own _ _ _ _) _)))) (ownFrom_below (Nat.le_refl _) (by omega)))
  (fun _ _ _ _ _ hs _ _=>hs)
  ⟨⟨bT,bO,bR,List.length_replicate,aO,fO⟩,hB2⟩
  (fun x=>{ tmps:=#[.slice (some ⟨b,off,none⟩) m cap,.int .u64 (t:Int),undef,.pointer (some ⟨w.heap.size,0,none⟩),.slice none 0 0,.pointer (some ⟨w.heap.size+2,0,none⟩),.pointer (some ⟨w.heap.size+3,0,none⟩),.int .i64 (x.1.1:Int),.int .u64 (x.1.2:Int),
   .slice (some ⟨b,off,none⟩) m cap,.int .i64 (m:Int),.slice (some ⟨w.heap.size+1,0,none⟩) m m,.slice (some ⟨b,off,none⟩) m cap,.func (.func 159) #[] #[.pointer (some ⟨w.heap.size+4,0,none⟩)],.int .i64 (x.1.1:Int),.int .u64 (x.1.2:Int),
   undef,undef,undef,undef,undef,undef,undef,undef,undef,undef,undef,undef,undef,undef,undef],defers:=[] }) ?assign ?body ?done ?stop
 case assign =>
  intro l x W K hK;simp only[encP]
  gi_wp2
  exact hK
 case body =>
  rintro l pre x W ⟨⟨hT,hO,hR,hl,hA,hF⟩,hB⟩ _;have hp:∀p∈pre.map (·.1),p.2<1000000000:=fun p hp=>by
   obtain⟨q,_,rfl⟩:=List.mem_map.1 hp;rw[show q.1.2=gl xs q.1.1 from q.2.2];exact hs.gl _
  obtain⟨s1,s2,s3⟩:=unSt_ok (n:=m) ht _ (pre.map (·.1)) rfl hp;have hx1:=x.2.1;have hx2:x.1.2<1000000000:=by rw[show x.1.2=gl xs x.1.1 from x.2.2];exact hs.gl _
  have hun:=unSt_snoc t m (pre.map (·.1)) x.1;have hI:∀W',UnI w m t (fun j x=>x=gl xs j) (pre++[x]) W'↔(Boxed W' w.heap.size 127 (.int .u64 (t:Int))∧Boxed W' (w.heap.size+2) 111 (.slice (some ⟨w.heap.size+1,0,none⟩) m m) ∧
    Boxed W' (w.heap.size+3) 127 (.int .u64 (((unStep t (unSt t m (pre.map (·.1))) x.1).1:Nat):Int))∧((unStep t (unSt t m (pre.map (·.1))) x.1).2.length=m∧Arr W' (w.heap.size+1) 0 (unStep t (unSt t m (pre.map (·.1))) x.1).2∧Free W' (w.heap.size+1) 0 m))∧Below w.heap.size w W':=by
   intro W';unfold UnI;rw[List.map_append,List.map_singleton,hun]
  generalize hst:unSt t m (pre.map (·.1))=s at *;obtain⟨r,os⟩:=s;simp only at s1 s2 s3 hR hl hA;simp only[unStep]at hI;have HI:=zh hI;clear hI hun hst hp;have c1:=hT.cell;have c2:=hO.cell;have c3:=hR.cell;have f3:=hR.frozen;have c4:=hA x.1.1 (by omega);have f4:=hF x.1.1 hx1;rw[Nat.zero_add]at c4 f4;have HL:=zh hl;clear hl s3
  gi_wp2
  have hFw':=hFw.out;subst hFw';have hq:IntKind.u64.wrap (((r:Int)*1000000000+(x.1.2:Int)).tdiv (t:Int))=((r:Int)*1000000000+(x.1.2:Int)) / (t:Int):=by
   have h0:(0:Int)≤(r:Int)*1000000000+(x.1.2:Int):=by omega
   rw[Int.tdiv_eq_ediv_of_nonneg h0];have h1:((r:Int)*1000000000+(x.1.2:Int)) / (t:Int)≤(r:Int)*1000000000+(x.1.2:Int):=Int.ediv_le_self _ h0;have h2:0≤((r:Int)*1000000000+(x.1.2:Int)) / (t:Int):=Int.ediv_nonneg h0 (by omega);exact IntWalk.u64_in _ ⟨h2,by omega⟩
  have HQ:=zh hq;clear hq;refine inRound_held (S:=fun w'=>w'.cell? ⟨w.heap.size+2,0,none⟩=some (.slice (some ⟨w.heap.size+1,0,none⟩) m m)∧w'.cell? ⟨w.heap.size+3,0,none⟩=some (.int .u64 ((r:Int)*1000000000+(x.1.2:Int)))∧w'.cell? ⟨w.heap.size,0,none⟩=some (.int .u64 (t:Int))) (by kernel_rfl) ?hno (by kernel_rfl) ?hS ?hgo
  case hno=>rintro⟨a,w,h⟩;exact h.elim
  case hS=>exact⟨by go_simp,by go_simp,by go_simp⟩
  case hgo =>
   intro hHeld;refine wpAnyH_take (i:=0) (v:=?v0) rfl (by kernel_rfl) (by kernel_rfl) (by kernel_rfl) (fun _ _ _ h=>h) (Or.inl ⟨by rfl,?y0⟩) hHeld ?r0
   case y0 =>
    intro w hSw;obtain⟨s1,s2,s3⟩:=hSw
    go_simp
    try with_reducible rfl
   simp only[Act.put,List.setIfInBounds_toArray];refine wpAnyH_take (i:=1) (v:=?v1) rfl (by kernel_rfl) (by kernel_rfl) (by kernel_rfl) (fun _ _ _ h=>h) (Or.inl ⟨by rfl,?y1⟩) hHeld ?r1
   case y1 =>
    intro w hSw;obtain⟨s1,s2,s3⟩:=hSw
    go_simp
    try with_reducible rfl
   simp only[Act.put];refine wpAnyH_take (i:=2) (v:=?v2) rfl (by kernel_rfl) (by kernel_rfl) (by kernel_rfl) (fun _ _ _ h=>h) (Or.inl ⟨by rfl,?y2⟩) hHeld ?r2
   case y2 =>
    intro w hSw;obtain⟨s1,s2,s3⟩:=hSw
    go_simp
    try with_reducible rfl
   simp only[Act.put];refine wpAnyH_take (i:=3) (v:=?v3) rfl (by kernel_rfl) (by kernel_rfl) (by kernel_rfl) (fun _ _ _ h=>h) (Or.inl ⟨by rfl,?y3⟩) hHeld ?r3
   case y3 =>
    intro w hSw;obtain⟨s1,s2,s3⟩:=hSw
    go_simp
    try with_reducible rfl
   simp only[Act.put];refine wpAnyH_take (i:=4) (v:=.int .u64 (((r:Int)*1000000000+(x.1.2:Int)) / (t:Int))) rfl (by kernel_rfl) (by kernel_rfl) (by kernel_rfl) (fun _ _ _ h=>h) (Or.inl ⟨by rfl,?y4⟩) hHeld ?r4
   case y4 =>
    intro w hSw;obtain⟨s1,s2,s3⟩:=hSw
    go_simp
    rw[if_neg (by omega),HQ.out]
    try with_reducible rfl
   simp only[Act.put];refine wpAnyH_take (i:=5) (v:=?v5) rfl (by kernel_rfl) (by kernel_rfl) (by kernel_rfl) (fun _ _ _ h=>h) (Or.inl ⟨by rfl,?y5⟩) hHeld ?r5
   case y5 =>
    intro w hSw;obtain⟨s1,s2,s3⟩:=hSw
    go_simp
    try with_reducible rfl
   simp only[Act.put];refine wpAnyH_ready (rs:=[6]) (by kernel_rfl) (by simp) ?_;refine AllReadyH.cons rfl (fun K hK=>?_) AllReadyH.nil
   go_simp
   refine hK.out _ _ ⟨by go_simp,by go_simp,by go_simp⟩ (fun hHeld2=>?_);clear hK K hHeld;refine wpAnyH_done (by kernel_rfl) ?_ _;clear hHeld2;have hL:=HL.out;have hc1:((r:Int)*1000000000+(x.1.2:Int))=((r*1000000000+x.1.2:Nat):Int):=by omega
   have hv1:r*1000000000+x.1.2≤1000000000000000000:=by omega
   rw[hc1];clear HQ;generalize hA0:r*1000000000+x.1.2=A at *;have hc2:(A:Int) / (t:Int)=((A / t:Nat):Int):=by rw[Int.natCast_ediv]
   have hc3:(A:Int) % (t:Int)=((A % t:Nat):Int):=by rw[Int.natCast_emod]
   rw[hc2];clear hA0 hc1 hc2 c3 c4 f3 f4;generalize hW1:W.setCell ⟨w.heap.size+3,0,none⟩ (.int .u64 (A:Int))=Wa;have w1':Wr W Wa (w.heap.size+3) 0 1:=by rw[←hW1];exact Wr.one _ _ _ _
   have hRa:Boxed Wa (w.heap.size+3) 127 (.int .u64 (A:Int)):=by rw[←hW1];exact hR.set _
   clear hW1;generalize hW2:Wa.setCell ⟨w.heap.size+1,x.1.1,none⟩ (.int .u64 ((A / t:Nat):Int))=Wb;have w2':Wr Wa Wb (w.heap.size+1) x.1.1 (x.1.1+1):=by rw[←hW2];exact Wr.one _ _ _ _
   have hAb:Arr Wb (w.heap.size+1) 0 (os.set x.1.1 (A / t)):=by
    have:=(w1'.arr (by omega) hA).set (k:=x.1.1) (by omega) (A / t);rw[Nat.zero_add,hW2]at this;exact this
   have hRb:Boxed Wb (w.heap.size+3) 127 (.int .u64 (A:Int)):=w2'.boxed (by omega) hRa;have hTb:Boxed Wb w.heap.size 127 (.int .u64 (t:Int)):=w2'.boxed (by omega) (w1'.boxed (by omega) hT);clear hW2;clear c1 c2;have w2d:Wr Wa Wb.drew (w.heap.size+1) x.1.1 (x.1.1+1):=w2'.drew;have hAd:Arr Wb.drew (w.heap.size+1) 0 (os.set x.1.1 (A / t)):=hAb;have hRd2:Boxed Wb.drew (w.heap.size+3) 127 (.int .u64 (A:Int)):=hRb;have hTd:Boxed Wb.drew w.heap.size 127 (.int .u64 (t:Int)):=hTb;clear w2' hAb hRb hTb;generalize Wb.drew=Wc at *;have w2':=w2d;have hAb:=hAd;have hRb:=hRd2;have hTb:=hTd;clear w2d hAd hRd2 hTd;have c1:=hTb.cell;have c3:=hRb.cell;have f3:=hRb.frozen;have HC3:=zh hc3;clear hc3;have HLL:=zh hL;clear hL
   gi_wp2
   rw[HC3.out];have w3':=Wr.one Wc (w.heap.size+3) 0 (.int .u64 ((A % t:Nat):Int));have hk:=(w1'.keeps.trans w2'.keeps).trans w3'.keeps;refine⟨hk.from _,ReadyK.of ?_ ?_,(HI.out _).2 ⟨⟨?_,?_,?_,?_,?_,?_⟩,?_⟩⟩
   ·exact(w3'.far (by omega) 0).trans ((w2'.far (by omega) 0).trans (w1'.far (by omega) 0))
   ·exact fun j _=>(w3'.far (by omega) _).trans ((w2'.far (by omega) _).trans (w1'.far (by omega) _))
   ·exact w3'.boxed (by omega) hTb
   ·exact w3'.boxed (by omega) (w2'.boxed (by omega) (w1'.boxed (by omega) hO))
   ·exact hRb.set _
   ·rw[List.length_set];exact HLL.out
   ·exact w3'.arr (by omega) hAb
   ·exact fun j hj=>(w3'.farFrozen (by omega) _).trans ((w2'.frozen _).trans ((w1'.farFrozen (by omega) _).trans (hF j hj)))
   ·have h1:=hB.trans (w1'.below (by omega) hB.size);have h2:=h1.trans (w2'.below (by omega) h1.size);exact h2.trans (w3'.below (by omega) h2.size)
 case done=>as_aux_lemma =>
  rintro D ys W hD hS ⟨⟨hT,hO,hR,hl,hA,hF⟩,hB⟩ hK;have hval:=unSt_done (n:=m) (f:=gl xs) ht (fun j=>hs.gl j) (pre:=ys.map (·.1)) (by
   have h2:idx ys=dn m m:=hS;unfold idx dn at h2;rw[List.map_map];exact h2) (fun p hp=>by
   obtain⟨q,_,rfl⟩:=List.mem_map.1 hp;exact q.2.2)
  obtain⟨s1,s2,s3⟩:=unSt_ok (n:=m) ht _ (ys.map (·.1)) rfl (fun p hp=>by
   obtain⟨q,_,rfl⟩:=List.mem_map.1 hp;rw[show q.1.2=gl xs q.1.1 from q.2.2];exact hs.gl _)
  rw[show sumTo (gl xs) m=valL xs from by unfold valL;rw[hm]]at hval;generalize hst:(unSt t m (ys.map (·.1))).2=os at *;have c2:=hO.cell;have HV:=zh hval;have HL:=zh hl
  have hD':w.heap.size≤D:=by omega
  have hws:w.heap.size+1<W.heap.size:=by have:=hO.lt;omega
  clear hst hval hl hm hsz2 hS
  gi_wp2_with (gi_at_call 138;refine(trim_in F (n-1) h4f h2f h3f hro (by omega) (w.heap.size+1) 0 m m os W HL.out s2 (by omega) (by omega) hws hA).mono ?_;rintro e w2 ⟨v,rfl,hv,hbl⟩)
  have hK2:w2.heap[D]?=some (.deferred (some [])):=(hbl.block D (Array.getElem?_eq_some_iff.1 hK).1).trans hK;refine⟨by simp,.inl ⟨_,_,rfl,run_takeDeferred hK2,?_⟩⟩;have hlp:Below w.heap.size w (w2.putObj D (.deferred none)):=(hB.trans (hbl.mono hB.size)).trans (belowK_b (w:=w) (Nat.le_refl _) w2 D _ (.deferred none) hD' hK2 rfl rfl);have hvp:=LimN.putObj hv hK2 rfl (.deferred none);exact⟨_,results_tmp rfl _ _ _,v,rfl,by rw[←HV.out];exact hvp,hlp⟩
 case stop =>
  rintro D c pre W _ _ h _;exact h.elim
theorem unscaled_any(b off cap m t:Nat)(xs:List Nat)(w:World)(hm:xs.length=m)(hs:Small xs)(hmb:m≤2147483648)(hb:b<w.heap.size)(ha:Arr w b off xs)(ht:0<t)(htb:t≤999999999) :
  Calls Tryz.prog 144 #[.slice (some ⟨b,off,none⟩) m cap,.int .u64 (t:Int)] w fun e w'=>GiveN w (valL xs / t) e w' :=
 callsIn_wide.1 (unscaled_in Fence.wide 4 (zh rfl) trivial trivial trivial trivial rfl (by omega) b off cap m t xs w hm hs hmb hb ha ht htb)
end Go.Proofs.YthgopcnagecbaaaGreatDoor
namespace Go.Proofs.YthgopcnagecbaaaGreatDoor
open Go.RowKit
theorem scaled_any(w:World)(v:Value)(xs:List Nat)(m t:Nat)(hm:xs.length=m)(hmb:m≤1073741824)(hl:Lim w v xs)(ht:t≤999999999) :
  Calls Tryz.prog 141 #[v,.int .u64 (t:Int)] w fun e w'=>∃zs,e=.returned (.slice (some ⟨w.heap.size,0,none⟩) (m+1) (m+1))∧zs.length=m+1∧Small zs∧valL zs=t*valL xs∧Arr w' w.heap.size 0 zs∧Free w' w.heap.size 0 (m+1)∧Below w.heap.size w w'∧w'.heap.size=w.heap.size+1:=by
 obtain⟨aa,ca,rfl⟩:=hl.form;rw[hm]at hl;have HM:=zh hm;go_enter Tryz.func141,Tryz.ntmps141;go_wp2_with (at_make;refine wpList_make_limbs _ rfl _ _ rfl _ _ _ _ (m+1) rfl rfl (by omega) (by omega) (by omega) ?_;intro w1 hmade);have hwin:Arr w1 w.heap.size 0 (List.replicate m 0):=fun j hj=>by
  rw[List.length_replicate]at hj;have:=hmade.arr j (by rw[List.length_replicate];omega);rw[gl_zeros]at this ⊢;exact this
 have hfr:Free w1 w.heap.size 0 m:=fun j hj=>hmade.free j (by omega);have hco:=hmade.arr m (by rw[List.length_replicate];omega);have hfl:=hmade.free m (by omega);rw[gl_zeros]at hco;have hsz:=hmade.size;have hbl:=hmade.below;have hne:∀b off m' c,(Value.slice aa m ca)=.slice (some ⟨b,off,none⟩) m' c→b≠w.heap.size:=fun b' off' m' c' e=>by
  obtain⟨_,⟨h1,_⟩|⟨b2,o2,c2,h1,_,_,h3,_⟩⟩:=hl
  ·rw[h1]at e;cases e
  ·rw[h1]at e;cases e;omega
 have hcall:=addTimes_any w1 w.heap.size 0 m (m+1) (.slice aa m ca) (List.replicate m 0) xs (t:Nat) (by omega) (by omega) (Small.zeros m) List.length_replicate HM.out (hl.below hbl) hne hwin hfr;rw[Int.toNat_natCast]at hcall;have HC:=zh hcall;clear hcall hne hwin hfr hm;have HS:=zh hsz;clear hsz;go_wp2_with fail;refine HC.out.mono ?_;rintro e w2 ⟨ws,cy,rfl,hwl,hs,hc,he,ha2,hw2⟩;have hv0:valL (List.replicate m 0)=0:=sumTo_zero (fun j _=>gl_zeros m j);rw[hv0,Nat.zero_add]at he;have hval:valL (ws++[cy])=t*valL xs:=by
  rw[←he];unfold valL;rw[List.length_append,List.length_singleton,sumTo,hwl]
  congr 1
  ·exact sumTo_congr (fun j hj=>by unfold gl;rw[List.getElem?_append_left (by omega)])
  ·unfold gl;rw[←hwl];simp
 have hlen:(ws++[cy]).length=m+1:=by rw[List.length_append,hwl];rfl
 have hsm:Small (ws++[cy]):=fun x hx=>by
  rcases List.mem_append.1 hx with h|h
  ·exact hs _ h
  ·rw[List.mem_singleton.1 h];omega
 have hwr:Wr w1 w2 w.heap.size 0 (m+1):=hw2.mono (by omega) (by omega);have c3:w2.cell? ⟨w.heap.size,m,none⟩=some (.int .u64 0):=by
  rw[hw2.cell m (by omega)];rw[Nat.zero_add]at hco;exact hco
 have f3:w2.frozen? ⟨w.heap.size,m,none⟩=false:=by
  rw[hw2.frozen m];rw[Nat.zero_add]at hfl;exact hfl
 have hset:Arr (w2.setCell ⟨w.heap.size,m,none⟩ (.int .u64 (cy:Int))) w.heap.size 0 (ws++[cy]):=fun j hj=>by
  by_cases e:j=m
  ·subst e;rw[Nat.zero_add,World.cell?_setCell_same' _ _ _ (by rw[c3];rfl)];unfold gl;rw[←hwl];simp
  ·rw[cell?_setCell_ne _ _ _ _ _ (by omega)];have hj2:j<ws.length:=by rw[hwl];omega
   rw[ha2 j hj2];unfold gl;rw[List.getElem?_append_left hj2]
 have HV:=zh hval;have HL:=zh hlen;have HSM:=zh hsm;have HST:=zh hset
 clear hval hlen hsm hset he hwl hco hfl hv0;go_wp2_with fail;go_ret;have hwr2:=hwr.set (k:=m) (.int .u64 (cy:Int)) (by omega) (by omega);exact⟨_,rfl,HL.out,HSM.out,HV.out,HST.out,hwr2.free hmade.free,hbl.trans (hwr2.below (Nat.le_refl _) (by rw[HS.out];omega)),by rw[hwr2.size,HS.out]⟩
def OutInv(w:World)(bl ol cl bb ob cb m:Nat)(xs ys:List Nat)(a':Act)(w':World):Prop :=
 ∃ (t bw:Nat) (zs:List Nat) (u8 u9 u10 u11 u12 u13 u14 u15 u16 u17 u18 u19 u20 u21 u22 u23 u24 u25 u26 u27 u28 u29 u30 u31 u32 u33 u34 u35 u36 u37 u38 u39 u40 u41:Value),a'={ tmps:=#[.slice (some ⟨bl,ol,none⟩) (m+1) cl,.slice (some ⟨bb,ob,none⟩) (m+1) cb,undef,undef,.int .u64 0,.int .i64 (m:Int),.int .u64 (t:Int),.int .u64 (bw:Int),u8,u9,u10,u11,u12,u13,u14,u15,u16,u17,u18,u19,u20,u21,u22,u23,u24,u25,u26,u27,u28,u29,u30,u31,u32,u33,u34,u35,u36,u37,u38,u39,u40,u41],defers:=[] } ∧
  OutRel xs ys zs (m+1) t bw∧Arr w' bl ol zs∧Wr w w' bl ol (ol+(m+1))
def OutPost(w:World)(bl ol m:Nat)(xs ys:List Nat)(e:Ending)(w':World):Prop :=
 ∃zs,e=.returned (.int .u64 ((valL xs / valL ys:Nat):Int))∧zs.length=m+1∧Small zs∧valL zs=valL xs % valL ys∧Arr w' bl ol zs∧Wr w w' bl ol (ol+(m+1))
theorem takeOut_any(w:World)(bl ol cl bb ob cb m:Nat)(xs ys:List Nat)(hm:1≤m)(hmb:m≤2147483648)(hx:xs.length=m+1)(hsx:Small xs)(hd:Divi ys (m-1))(hne:bb≠bl)(hax:Arr w bl ol xs)(hay:Arr w bb ob ys)(hfr:Free w bl ol (m+1)) :
  Calls Tryz.prog 143 #[.slice (some ⟨bl,ol,none⟩) (m+1) cl,.slice (some ⟨bb,ob,none⟩) (m+1) cb] w (OutPost w bl ol m xs ys):=by
 have hyl:ys.length=m+1:=by have:=hd.len;omega
 have c1:=hax (m-1) (by omega);have c2:=hax m (by omega);have c3:=hay (m-1) (by omega);have b1:=hsx.gl (m-1);have b2:=hsx.gl m;have b3:=hd.lo;have b4:=hd.small.gl (m-1);have e1:((m-1:Nat):Int)=(m:Int)-1:=by omega
 have HX:=zh hx;clear hx;have HY:=zh hyl;clear hyl;have HE:=zh e1;clear e1;go_enter Tryz.func143,Tryz.ntmps143
 go_wp2
 refine wp_scope_jumps 0 (OutInv w bl ol cl bb ob cb m xs ys) (fun a' _=>(intOf (a'.tmps.getD 6 undef)).toNat) rfl ?_ ?_
 ·go_wp2
  go_quiet (fail)
  go_wp2_with fail;obtain⟨t,ht⟩:∃t:Nat,t=(gl xs m*1000000000+gl xs (m-1)) / gl ys (m-1):=⟨_,rfl⟩;have ht2:(↑(gl xs m)*1000000000+↑(gl xs (m-1))) / ↑(gl ys (m-1))=(t:Int):=by
   rw[ht,Int.natCast_ediv,Int.natCast_add,Int.natCast_mul]
   rfl
  have hest:=hd.est (xs:=xs) (by have:=HX.out;omega) hsx;rw[Nat.sub_add_cancel hm,← ht]at hest;rw[ht2];have hay':Arr (w.drewN nq) bb ob ys:=hay;refine(takeTimes_any (w.drewN nq) bl ol (m+1) cl bb ob cb xs ys t hsx hd.small HX.out HY.out (by omega) (by omega) hne hax hay' hfr).mono ?_;rintro e w2 ⟨zs,bw,rfl,hl,hs,hb,he,ha2,hw2⟩;have hw2:Wr w w2 bl ol (ol+(m+1)):=((Wr.refl w bl ol _).drewN nq).trans hw2;have hrel:=OutRel.start hd HX.out (by omega) hsx (by rw[Nat.sub_add_cancel hm];exact ht) hl hs hb he;clear ht ht2 hest hl he;by_cases hbz:bw=0
  ·subst hbz;obtain⟨h1,h2⟩:=hrel.done hd.pos;have hl:=hrel.1;have H1:=zh h1;have H2:=zh h2;have HL:=zh hl
   clear h1 h2 hl
   go_wp2
   go_step3
   go_wp2
   simp only[Exit.jump];go_ret;exact⟨zs,ret_int (by rw[←H1.out]),HL.out,hs,H2.out,ha2,hw2⟩
  ·have hpos:=(hrel.pos hd.pos (by omega)).1;have hfr2:=hw2.free hfr;have hcall:=addTimes_one w2 bl ol (m+1) cl bb ob cb zs ys hs hd.small hrel.1 HY.out (by omega) hne ha2 (hw2.arr hne hay) hfr2;have HC:=zh hcall;clear hcall;have hb2:=hrel.2.2.2.1;have hb3:=hrel.2.2.1;go_wp2_with fail
   go_step3
   go_wp2_with fail;refine HC.out.mono ?_;rintro e w3 ⟨zs2,cy,rfl,hl2,hs2,hc2,he2,ha3,hw3⟩;have hst:=hrel.step hd.pos (by omega) hl2 hs2 hc2 he2;have HST:=zh hst;clear hst;clear hl2 he2;go_wp2_with fail
   go_step3
   rw[show (t:Int)-1=((t-1:Nat):Int) from by omega,show (bw:Int)-(cy:Int)=((bw-cy:Nat):Int) from by omega];exact⟨rfl,t-1,bw-cy,zs2,_,_,_,_,_,_,_,_,_,_,_,_,_,_,_,_,_,_,_,_,_,_,_,_,_,_,_,_,_,_,_,_,_,_,rfl,HST.out,ha3,hw2.trans hw3⟩
 ·rintro a' w2 ⟨t,bw,zs,u8,u9,u10,u11,u12,u13,u14,u15,u16,u17,u18,u19,u20,u21,u22,u23,u24,u25,u26,u27,u28,u29,u30,u31,u32,u33,u34,u35,u36,u37,u38,u39,u40,u41,rfl,hrel,ha2,hw2⟩;have hs:=hrel.2.1;by_cases hbz:bw=0
  ·subst hbz;obtain⟨h1,h2⟩:=hrel.done hd.pos;have hl:=hrel.1;have H1:=zh h1;have H2:=zh h2;have HL:=zh hl
   clear h1 h2 hl
   go_wp2
   simp only[Exit.jump];go_ret;exact⟨zs,ret_int (by rw[←H1.out]),HL.out,hs,H2.out,ha2,hw2⟩
  ·have hpos:=(hrel.pos hd.pos (by omega)).1;have hfr2:=hw2.free hfr;have hcall:=addTimes_one w2 bl ol (m+1) cl bb ob cb zs ys hs hd.small hrel.1 HY.out (by omega) hne ha2 (hw2.arr hne hay) hfr2;have HC:=zh hcall;clear hcall;have hb2:=hrel.2.2.2.1;have hb3:=hrel.2.2.1;go_wp2_with fail;refine HC.out.mono ?_;rintro e w3 ⟨zs2,cy,rfl,hl2,hs2,hc2,he2,ha3,hw3⟩;have hst:=hrel.step hd.pos (by omega) hl2 hs2 hc2 he2;have HST:=zh hst;clear hst;clear hl2 he2;go_wp2_with fail
   go_step3
   rw[show (t:Int)-1=((t-1:Nat):Int) from by omega,show (bw:Int)-(cy:Int)=((bw-cy:Nat):Int) from by omega];refine⟨rfl,⟨t-1,bw-cy,zs2,_,_,_,_,_,_,_,_,_,_,_,_,_,_,_,_,_,_,_,_,_,_,_,_,_,_,_,_,_,_,_,_,_,_,rfl,HST.out,ha3,hw2.trans hw3⟩,?_⟩;simp[intOf];omega
end Go.Proofs.YthgopcnagecbaaaGreatDoor
namespace Go.Proofs.YthgopcnagecbaaaGreatDoor
open Go.RowKit Go.Shelf
attribute [local go_sem] Oper.semAt_some
theorem inF{F:Fence}{n f:Nat}{P:Program}{args:Array Value}{w:World}{R:Ending→World→Prop}(hF:Hid (F=Fence.wide))(h:Calls P f args w R):CallsIn F n P f args w R:=by
 rw[hF.out];exact callsIn_wide.2 h
theorem divide_less(w:World)(va vb:Value)(xs ys:List Nat)(la:Lim w va xs)(lb:Lim w vb ys)(_hx:xs.length≤1073741824)(_hy:ys.length≤1073741824)(hlt:xs.length<ys.length) :
  Calls Tryz.prog 119 #[va,vb] w fun e w'=>e=.returned (.tuple #[.slice none 0 0,va])∧w=w':=by
 obtain⟨aa,ca,rfl⟩:=la.form;obtain⟨ab,cb,rfl⟩:=lb.form;go_enter Tryz.func119,Tryz.ntmps119
 go_wp2
 go_ret2
 exact⟨rfl,rfl⟩
def DvI(w:World)(mq nb:Nat)(left0 zs:List Nat)(pre:List (Pl mq (fun _ _=>True)))(W:World):Prop :=
 ((∃left quot:List Nat,(left.length=mq+nb+1∧Small left∧quot.length=mq∧(∀k,k≤mq→idx pre=dn mq k→DvKey zs left0 mq k left quot)) ∧
  (Arr W w.heap.size 0 left∧Free W w.heap.size 0 (mq+nb+1))∧(Arr W (w.heap.size+4) 0 quot∧Free W (w.heap.size+4) 0 mq)∧Arr W (w.heap.size+1) 0 zs) ∧
 Boxed W (w.heap.size+2) 111 (.slice (some ⟨w.heap.size,0,none⟩) (mq+nb+1) (mq+nb+1))∧Boxed W (w.heap.size+3) 111 (.slice (some ⟨w.heap.size+1,0,none⟩) (nb+1+1) (nb+1+1)) ∧
 Boxed W (w.heap.size+5) 111 (.slice (some ⟨w.heap.size+4,0,none⟩) mq mq))∧Below w.heap.size w W
theorem arr_kept{b off:Nat}{xs:List Nat}{A B:World}{row:Option Nat}(h:Arr A b off xs)(hg:A.grownBy B row)(hr:∀r,row=some r→∃o:Obj,A.heap[r]?=some o∧o.isCells=false):Arr B b off xs :=
 fun j hj=>cell_kept (h j hj) hg hr
theorem free_kept{b off n:Nat}{xs:List Nat}{A B:World}{row:Option Nat}(h:Arr A b off xs)(hl:n≤xs.length)(hf:Free A b off n)(hg:A.grownBy B row)(hr:∀r,row=some r→∃o:Obj,A.heap[r]?=some o∧o.isCells=false):Free B b off n :=
 fun j hj=>(frozen_kept (h j (by omega)) hg hr).trans (hf j hj)
theorem dvI_own(w:World)(mq nb:Nat)(left0 zs:List Nat){D:Nat}(hD:w.heap.size≤D):OwnFrom D (DvI w mq nb left0 zs):=fun s A B row hs hg hr=>by
 obtain⟨⟨⟨left,quot,⟨h1,h2,h3,h4⟩,⟨h5,h6⟩,⟨h7,h8⟩,h9⟩,h10,h11,h12⟩,h13⟩:=hs;have hr':=fun r e=>(hr r e).2;exact⟨⟨⟨left,quot,⟨h1,h2,h3,h4⟩,⟨arr_kept h5 hg hr',free_kept h5 (by omega) h6 hg hr'⟩,⟨arr_kept h7 hg hr',free_kept h7 (by omega) h8 hg hr'⟩,arr_kept h9 hg hr'⟩,
  boxed_own _ _ (fun _:Unit=>_) () A B row h10 hg hr',boxed_own _ _ (fun _:Unit=>_) () A B row h11 hg hr',boxed_own _ _ (fun _:Unit=>_) () A B row h12 hg hr'⟩,
  ownFrom_below (Nat.le_refl _) hD () A B row h13 hg hr⟩
theorem divide_in(F:Fence)(n:Nat)(hFw:Hid (F=Fence.wide))(h1f:F.fn 119)(h2f:F.fn 142)(h3f:F.fn 159)(h4f:F.fn 141)(hro:F.round=none)(hn:4≤n)
  (w:World) (aa:Option Addr) (ca bb ob cb mq nb:Nat) (xs ys:List Nat) (hxl:xs.length=mq+nb) (hyl:ys.length=nb+1) (hmq:1≤mq) (hbig:mq+nb≤1073741824) (la:Lim w (.slice aa (mq+nb) ca) xs) (hys:Small ys) (hyn:Norm ys) (hbb:bb<w.heap.size) (hay:Arr w bb ob ys) (hcb:nb+1≤cb) (hcm:cb≤4611686018427387904) :
  CallsIn F n Tryz.prog 119 #[.slice aa (mq+nb) ca,.slice (some ⟨bb,ob,none⟩) (nb+1) cb] w fun e w'=>∃v1 v2,e=.returned (.tuple #[v1,v2])∧LimN w' v1 (valL xs / valL ys)∧LimN w' v2 (valL xs % valL ys)∧Below w.heap.size w w':=by
 have h1:1≤n:=by omega
 have lb:Lim w (.slice (some ⟨bb,ob,none⟩) (nb+1) cb) ys:=⟨hys,.inr ⟨bb,ob,cb,by rw[hyl],by omega,hcm,hbb,hay⟩⟩;have c1:=hay nb (by omega);have g1:=hys.gl nb;have HXL:=zh hxl;have HYL:=zh hyl;clear hxl hyl
 refine callsIn_of_wp_marks Tryz.func119 rfl h1f ?_ hro;simp only[Tryz.ntmps119,List.size_toArray,List.length_cons,List.length_nil,Nat.reduceAdd,Nat.reduceSub,Array.replicate_succ,Array.replicate_zero,List.push_toArray,List.append_toArray,List.nil_append,List.cons_append]
 gi_wp2_with fail
 obtain⟨t,ht⟩:∃t:Nat,t=1000000000 / (gl ys nb+1):=⟨_,rfl⟩;have ht2:(1000000000:Int) / (↑(gl ys nb)+1)=(t:Int):=by
  rw[ht,Int.natCast_ediv,Int.natCast_add]
  rfl
 rw[ht2];have htb:t≤999999999:=by
  have h0:=hyn (by intro e;have:=HYL.out;rw[e]at this;simp at this);rw[HYL.out,Nat.add_sub_cancel,gl_eq]at h0;rw[ht];exact Nat.le_trans (Nat.div_le_div_left (show 2≤gl ys nb+1 from by omega) (by decide)) (by decide)
 have HT:=zh ht;clear ht ht2 c1;refine(inF hFw (scaled_any w (.slice aa (mq+nb) ca) xs (mq+nb) t HXL.out (by omega) la htb)).mono ?_;rintro e w1 ⟨left0,rfl,hl0,hs0,hv0,ha0,hf0,hb0,hz0⟩;have lb1:=lb.below hb0;have HL0:=zh hl0;have HV0:=zh hv0;have HZ0:=zh hz0;clear hl0 hv0 hz0
 gi_wp2_with fail
 refine(inF hFw (scaled_any w1 (.slice (some ⟨bb,ob,none⟩) (nb+1) cb) ys (nb+1) t HYL.out (by omega) lb1 htb)).mono ?_;rintro e w2 ⟨zs,rfl,hlz,hsz,hvz,haz,hfz,hbz,hzz⟩;have HLZ:=zh hlz;have HVZ:=zh hvz;have HZZ:=zh hzz;clear hlz hvz hzz
 rw[HZ0.out]
 gi_wp2_with (first|(gi_at_make;refine wpListIn_make_limbs _ rfl _ _ rfl _ _ _ _ mq rfl rfl (by omega) (by omega) (by omega) ?_;intro w3 hmade)|(gi_at_call 142;refine(behind_in F (n-1) h2f hro _ _ _ _).mono ?_;rintro e w' ⟨rfl,rfl⟩))
 -- the world at the loop, under a name
 have hsz2:w2.heap.size=w.heap.size+2:=by rw[HZZ.out,HZ0.out]
 have hsz3:w3.heap.size=w.heap.size+5:=by rw[hmade.size];simp[hsz2]
 have hmar:=hmade.arr;have hmfr:=hmade.free;have hmbl:=hmade.below;rw[World.size_alloc,World.size_alloc,hsz2]at hmar hmfr hmbl;have hB2:Below w.heap.size w w2:=hb0.trans (hbz.mono hb0.size);have hB23:Below w2.heap.size w2 w3:=(((Below.refl _ w2).alloc (Nat.le_refl _) _).alloc (by simp) _).trans (hmbl.mono (by omega));have bL3:Boxed w3 (w.heap.size+2) 111 (.slice (some ⟨w.heap.size,0,none⟩) (mq+nb+1) (mq+nb+1)):=by
  refine(hmbl.block _ (by omega)).trans ?_;rw[←hsz2];exact(Boxed.new w2 _ _).alloc _
 have bY3:Boxed w3 (w.heap.size+3) 111 (.slice (some ⟨w.heap.size+1,0,none⟩) (nb+1+1) (nb+1+1)):=by
  refine(hmbl.block _ (by omega)).trans ?_;have:=Boxed.new (w2.alloc (.cells #[.slice (some ⟨w.heap.size,0,none⟩) (mq+nb+1) (mq+nb+1)] 111)) 111 (.slice (some ⟨w.heap.size+1,0,none⟩) (nb+1+1) (nb+1+1));rw[World.size_alloc,hsz2]at this;exact this
 rw[hsz3,hsz2];rw[show w.heap.size+2+1+1=w.heap.size+4 from rfl,show w.heap.size+2+1=w.heap.size+3 from rfl,show w.heap.size+5+1=w.heap.size+6 from rfl]at *;obtain⟨W2,hW2⟩:∃W2,(w3.alloc (.cells #[.slice (some ⟨w.heap.size+4,0,none⟩) mq mq] 111)).alloc (.cells #[.slice (some ⟨w.heap.size+4,0,none⟩) mq mq] 111)=W2:=⟨_,rfl⟩;rw[hW2];have hB3W:Below w3.heap.size w3 W2:=by
  rw[←hW2];exact((Below.refl _ w3).alloc (Nat.le_refl _) _).alloc (by simp) _
 have bQ:Boxed W2 (w.heap.size+5) 111 (.slice (some ⟨w.heap.size+4,0,none⟩) mq mq):=by
  rw[←hW2,← hsz3];exact(Boxed.new w3 _ _).alloc _
 have bN:Boxed W2 (w.heap.size+6) 111 (.slice (some ⟨w.heap.size+4,0,none⟩) mq mq):=by
  have:=Boxed.new (w3.alloc (.cells #[.slice (some ⟨w.heap.size+4,0,none⟩) mq mq] 111)) 111 (.slice (some ⟨w.heap.size+4,0,none⟩) mq mq);rw[World.size_alloc,hsz3,hW2]at this;exact this
 have bL:Boxed W2 (w.heap.size+2) 111 (.slice (some ⟨w.heap.size,0,none⟩) (mq+nb+1) (mq+nb+1)):=(hB3W.block _ (by omega)).trans bL3;have bY:Boxed W2 (w.heap.size+3) 111 (.slice (some ⟨w.heap.size+1,0,none⟩) (nb+1+1) (nb+1+1)):=(hB3W.block _ (by omega)).trans bY3;have hB2W:Below w2.heap.size w2 W2:=hB23.trans (hB3W.mono (by omega));have hBW:Below w.heap.size w W2:=hB2.trans (hB2W.mono (by omega));have hz1:w1.heap.size=w.heap.size+1:=HZ0.out;have aL:Arr W2 w.heap.size 0 left0:=(ha0.below hbz (by omega)).below hB2W (by omega);have fL:Free W2 w.heap.size 0 (mq+nb+1):=(hf0.below hbz (by omega)).below hB2W (by omega);have aY:Arr W2 (w.heap.size+1) 0 zs:=by rw[hz1]at haz;exact haz.below hB2W (by omega)
 have aQ:Arr W2 (w.heap.size+4) 0 (List.replicate mq 0):=hmar.below hB3W (by omega);have fQ:Free W2 (w.heap.size+4) 0 mq:=hmfr.below hB3W (by omega);have hszW:W2.heap.size=w.heap.size+7:=by rw[←hW2];simp[hsz3]
 obtain⟨htp,_,hdiv,hDb⟩:=scale_ok (nb:=nb) hyn hys HYL.out HT.out HLZ.out hsz HVZ.out;have hstart:DvKey zs left0 mq 0 left0 (List.replicate mq 0):=DvKey.start (dv_first (nb:=nb) (xs:=xs) (ys:=ys) (t:=t) la.1 (by rw[HXL.out];omega) hyn HYL.out htp (by rw[HL0.out];omega) HV0.out HVZ.out);have hRd:Ready (w.heap.size+6) (w.heap.size+4) 0 mq mq (fun _ _=>True) W2:=⟨bN.cell,fun j hj=>⟨_,trivial,aQ j (by rw[List.length_replicate];exact hj)⟩⟩;have HST:=zh hstart;clear hstart hW2 hB3W hB23 hB2 hB2W hmar hmfr hmbl bL3 bY3 hsz2 hsz3 hz1 haz hfz ha0 hf0 hb0 hbz lb1;clear hmade;refine wpIn_rangeFunc_ownG hro h1 (gf:=159) (lb:=#[.pointer (some ⟨w.heap.size+6,0,none⟩)]) rfl h3f (enters_of Tryz.func159 (by kernel_rfl) rfl)
  (behind_stops F (n-1) h3f hro (by omega) (w.heap.size+6) (w.heap.size+4) 0 mq mq (fun _ _=>True) (by omega) W2 (by omega) (by omega) hRd) readyK_t (fun W l o o' _ hl ho _=>readyK_b W l o o' hl ho) (Below.refl _ _) (fun _=>rfl)
  (DvI w mq nb left0 zs) (fun _ _ _=>False) (dvI_own w mq nb left0 zs (by omega)) (fun _ _ _ _ _ hs _ _=>hs)
  ⟨⟨⟨left0,List.replicate mq 0,⟨HL0.out,hs0,List.length_replicate,fun k hk hi=>by
   have:k=0:=by have:=congrArg List.length hi;rw[dn_length]at this;simpa [idx] using this.symm
   subst this;exact HST.out⟩,⟨aL,fL⟩,⟨aQ,fQ⟩,aY⟩,bL,bY,bQ⟩,hBW⟩
  (fun x=>{ tmps:=#[.slice aa (mq+nb) ca,.slice (some ⟨bb,ob,none⟩) (nb+1) cb,undef,undef,.slice none 0 0,.slice none 0 0,.int .u64 (t:Int),.pointer (some ⟨w.heap.size+2,0,none⟩),.pointer (some ⟨w.heap.size+3,0,none⟩),.pointer (some ⟨w.heap.size+5,0,none⟩),.int .i64 (x.1.1:Int),
   .slice aa (mq+nb) ca,.int .i64 ((mq:Int)+(nb:Int)),.slice (some ⟨bb,ob,none⟩) (nb+1) cb,.int .i64 ((nb:Int)+1),.bool (decide ((mq:Int)+(nb:Int)<(nb:Int)+1)),undef,.slice (some ⟨bb,ob,none⟩) (nb+1) cb,.slice (some ⟨bb,ob,none⟩) (nb+1) cb,.int .i64 ((nb:Int)+1),.int .i64 (nb:Int),
   .pointer (some ⟨bb,ob+nb,none⟩),.int .u64 (gl ys nb:Int),.int .u64 ((gl ys nb:Int)+1),.int .u64 (t:Int),.slice aa (mq+nb) ca,.int .u64 (t:Int),.slice (some ⟨w.heap.size,0,none⟩) (mq+nb+1) (mq+nb+1),.slice (some ⟨bb,ob,none⟩) (nb+1) cb,.int .u64 (t:Int),.slice (some ⟨w.heap.size+1,0,none⟩) (nb+1+1) (nb+1+1),
   .slice aa (mq+nb) ca,.int .i64 ((mq:Int)+(nb:Int)),.slice (some ⟨bb,ob,none⟩) (nb+1) cb,.int .i64 ((nb:Int)+1),.int .i64 ((mq:Int)+(nb:Int)-((nb:Int)+1)),.int .i64 ((mq:Int)+(nb:Int)-((nb:Int)+1)+1),.slice (some ⟨w.heap.size+4,0,none⟩) mq mq,.slice (some ⟨w.heap.size+4,0,none⟩) mq mq,
   .func (.func 159) #[] #[.pointer (some ⟨w.heap.size+6,0,none⟩)],.int .i64 (x.1.1:Int),.int .u64 (x.1.2:Int),undef,undef,undef,undef,undef,undef,undef,undef,undef,undef,undef,undef,undef,undef,undef,undef,undef],defers:=[] }) ?assign ?body ?done ?stop
 case assign =>
  intro l x W K hK;simp only[encP]
  gi_wp2
  exact hK
 case body =>
  rintro l pre x W ⟨⟨⟨left,quot,⟨d1,d2,d3,d4⟩,⟨d5,d6⟩,⟨d7,d8⟩,d9⟩,d10,d11,d12⟩,d13⟩ _;have hx1:=x.2.1;have c10:=d10.cell;have c11:=d11.cell;have c12:=d12.cell;have HD1:=zh d1;have HD3:=zh d3;have HD4:=zh d4;clear d1 d3 d4
  gi_wp2
  have hFw':=hFw.out;subst hFw';have q1:IntKind.i64.wrap ((x.1.1:Int)+((nb:Int)+1+1))=(x.1.1:Int)+((nb:Int)+1+1):=IntWalk.i64_in _ (by omega);have q2:0≤(x.1.1:Int)+((nb:Int)+1+1):=by omega
  have q3:((x.1.1:Int)+((nb:Int)+1+1)).toNat=x.1.1+(nb+1+1):=by omega
  have q4:¬(mq+nb+1=x.1.1):=by omega
  have q5:(x.1.1:Int)+((nb:Int)+1+1)≤(mq:Int)+(nb:Int)+1:=by omega
  refine inRound_held (S:=fun w'=>w'.cell? ⟨w.heap.size+5,0,none⟩=some (.slice (some ⟨w.heap.size+4,0,none⟩) mq mq)∧w'.cell? ⟨w.heap.size+2,0,none⟩=some (.slice (some ⟨w.heap.size,0,none⟩) (mq+nb+1) (mq+nb+1))∧w'.cell? ⟨w.heap.size+3,0,none⟩=some (.slice (some ⟨w.heap.size+1,0,none⟩) (nb+1+1) (nb+1+1))) (by kernel_rfl) ?hno (by kernel_rfl) ?hS ?hgo
  case hno=>rintro⟨a,w,h⟩;exact h.elim
  case hS=>exact⟨by go_simp,by go_simp,by go_simp⟩
  case hgo =>
   have e5:Arr W.drew w.heap.size 0 left:=d5;have e6:Free W.drew w.heap.size 0 (mq+nb+1):=d6;have e7:Arr W.drew (w.heap.size+4) 0 quot:=d7;have e8:Free W.drew (w.heap.size+4) 0 mq:=d8;have e9:Arr W.drew (w.heap.size+1) 0 zs:=d9;have eW:Wr W W.drew w.heap.size 0 0:=(Wr.refl W w.heap.size 0 0).drew;intro hHeld;clear c10 c11 c12;generalize W.drew=Wd at *;refine wpAnyH_take (i:=0) (v:=?v0) rfl (by kernel_rfl) (by kernel_rfl) (by kernel_rfl) (fun _ _ _ h=>h) (Or.inl ⟨by rfl,?y0⟩) hHeld ?r0
   case y0 =>
    intro w hSw;obtain⟨s1,s2,s3⟩:=hSw
    go_simp
    try with_reducible rfl
   simp only[Act.put,List.setIfInBounds_toArray];refine wpAnyH_take (i:=1) (v:=?v1) rfl (by kernel_rfl) (by kernel_rfl) (by kernel_rfl) (fun _ _ _ h=>h) (Or.inl ⟨by rfl,?y1⟩) hHeld ?r1
   case y1 =>
    intro w hSw;obtain⟨s1,s2,s3⟩:=hSw
    go_simp
    try with_reducible rfl
   simp only[Act.put];refine wpAnyH_take (i:=2) (v:=?v2) rfl (by kernel_rfl) (by kernel_rfl) (by kernel_rfl) (fun _ _ _ h=>h) (Or.inl ⟨by rfl,?y2⟩) hHeld ?r2
   case y2 =>
    intro w hSw;obtain⟨s1,s2,s3⟩:=hSw
    go_simp
    try with_reducible rfl
   simp only[Act.put];refine wpAnyH_take (i:=3) (v:=?v3) rfl (by kernel_rfl) (by kernel_rfl) (by kernel_rfl) (fun _ _ _ h=>h) (Or.inl ⟨by rfl,?y3⟩) hHeld ?r3
   case y3 =>
    intro w hSw;obtain⟨s1,s2,s3⟩:=hSw
    go_simp
    try with_reducible rfl
   simp only[Act.put];refine wpAnyH_take (i:=4) (v:=?v4) rfl (by kernel_rfl) (by kernel_rfl) (by kernel_rfl) (fun _ _ _ h=>h) (Or.inl ⟨by rfl,?y4⟩) hHeld ?r4
   case y4 =>
    intro w hSw;obtain⟨s1,s2,s3⟩:=hSw
    go_simp
    try with_reducible rfl
   simp only[Act.put];refine wpAnyH_take (i:=5) (v:=?v5) rfl (by kernel_rfl) (by kernel_rfl) (by kernel_rfl) (fun _ _ _ h=>h) (Or.inl ⟨by rfl,?y5⟩) hHeld ?r5
   case y5 =>
    intro w hSw;obtain⟨s1,s2,s3⟩:=hSw
    go_simp
    try with_reducible rfl
   simp only[Act.put];refine wpAnyH_take (i:=6) (v:=?v6) rfl (by kernel_rfl) (by kernel_rfl) (by kernel_rfl) (fun _ _ _ h=>h) (Or.inl ⟨by rfl,?y6⟩) hHeld ?r6
   case y6 =>
    intro w hSw;obtain⟨s1,s2,s3⟩:=hSw
    go_simp
    try with_reducible rfl
   simp only[Act.put];refine wpAnyH_take (i:=7) (v:=?v7) rfl (by kernel_rfl) (by kernel_rfl) (by kernel_rfl) (fun _ _ _ h=>h) (Or.inl ⟨by rfl,?y7⟩) hHeld ?r7
   case y7 =>
    intro w hSw;obtain⟨s1,s2,s3⟩:=hSw
    go_simp
    try with_reducible rfl
   simp only[Act.put];refine wpAnyH_take (i:=8) (v:=?v8) rfl (by kernel_rfl) (by kernel_rfl) (by kernel_rfl) (fun _ _ _ h=>h) (Or.inl ⟨by rfl,?y8⟩) hHeld ?r8
   case y8 =>
    intro w hSw;obtain⟨s1,s2,s3⟩:=hSw
    go_simp
    try with_reducible rfl
   simp only[Act.put];refine wpAnyH_take (i:=9) (v:=?v9) rfl (by kernel_rfl) (by kernel_rfl) (by kernel_rfl) (fun _ _ _ h=>h) (Or.inl ⟨by rfl,?y9⟩) hHeld ?r9
   case y9 =>
    intro w hSw;obtain⟨s1,s2,s3⟩:=hSw
    go_simp
    try with_reducible rfl
   simp only[Act.put];clear q1 q2 q3 q4 q5;have hwa:Arr Wd w.heap.size (0+x.1.1) (window left x.1.1 (nb+1+1)):=e5.window (by rw[HD1.out];omega);have hwf:Free Wd w.heap.size (0+x.1.1) (nb+1+1):=e6.window (by omega);rw[Nat.zero_add]at hwa hwf;have hcall:=takeOut_any Wd w.heap.size x.1.1 (mq+nb+1-x.1.1) (w.heap.size+1) 0 (nb+1+1) (nb+1) (window left x.1.1 (nb+1+1)) zs (by omega) (by omega) (window_length (by rw[HD1.out];omega)) (d2.window _ _) (by rw[Nat.add_sub_cancel];exact hdiv) (by omega) hwa e9 hwf;have HC:=zh hcall;clear hcall hwa hwf;refine wpAnyH_ready (rs:=[10]) (by kernel_rfl) (by simp) ?_;refine AllReadyH.cons rfl (fun K hK=>?_) AllReadyH.nil
   go_simp
   refine HC.out.mono ?_;rintro e w3 ⟨zs2,rfl,hz1,hz2,hz3,hz4,hz5⟩;have g1':=(hz5.far (k:=w.heap.size+5) (by omega) 0).trans hHeld.1;have g2':=(hz5.far (k:=w.heap.size+2) (by omega) 0).trans hHeld.2.1;have g3':=(hz5.far (k:=w.heap.size+3) (by omega) 0).trans hHeld.2.2;clear hHeld;refine hK.out _ _ ⟨g1',g2',g3'⟩ (fun hHeld=>?_);clear hK K;refine wpAnyH_take (i:=11) (v:=?v11) rfl (by kernel_rfl) (by kernel_rfl) (by kernel_rfl) (fun _ _ _ h=>h) (Or.inl ⟨by rfl,?y11⟩) hHeld ?r11
   case y11 =>
    intro w hSw;obtain⟨s1,s2,s3⟩:=hSw
    go_simp
    try with_reducible rfl
   simp only[Act.put];have c4:w3.cell? ⟨w.heap.size+4,x.1.1,none⟩=some (.int .u64 ((gl quot x.1.1:Nat):Int)):=by
    have:=e7 x.1.1 (by rw[HD3.out];exact hx1);rw[Nat.zero_add]at this;exact(hz5.far (by omega) _).trans this
   have f4:w3.frozen? ⟨w.heap.size+4,x.1.1,none⟩=false:=by
    have:=e8 x.1.1 hx1;rw[Nat.zero_add]at this;exact(hz5.farFrozen (by omega) _).trans this
   refine wpAnyH_ready (rs:=[12]) (by kernel_rfl) (by simp) ?_;refine AllReadyH.cons rfl (fun K hK=>?_) AllReadyH.nil
   go_simp
   refine hK.out _ _ ⟨by go_simp,by go_simp,by go_simp⟩ (fun hHeld2=>?_);clear hK K hHeld hHeld2;refine wpAnyH_done (by kernel_rfl) ?_ _
   gi_wp2
   have hq:((valL (window left x.1.1 (nb+1+1)):Nat):Int) / ((valL zs:Nat):Int)=((valL (window left x.1.1 (nb+1+1)) / valL zs:Nat):Int):=(Int.natCast_ediv _ _).symm;rw[hq];clear hq c4 f4 g1' g2' g3';have w4:=Wr.one w3 (w.heap.size+4) x.1.1 (.int .u64 ((valL (window left x.1.1 (nb+1+1)) / valL zs:Nat):Int));have hk:=(eW.keeps.trans hz5.keeps).trans w4.keeps;have aq:Arr (w3.setCell ⟨w.heap.size+4,x.1.1,none⟩ (.int .u64 ((valL (window left x.1.1 (nb+1+1)) / valL zs:Nat):Int))) (w.heap.size+4) 0 (quot.set x.1.1 (valL (window left x.1.1 (nb+1+1)) / valL zs)):=by
    have:=(hz5.arr (by omega) e7).set (k:=x.1.1) (by rw[HD3.out];exact hx1) (valL (window left x.1.1 (nb+1+1)) / valL zs);rw[Nat.zero_add]at this;exact this
   have al:Arr w3 w.heap.size 0 (splice left x.1.1 zs2):=e5.splice (by rw[hz1,HD1.out];omega) (by rw[hz1,Nat.zero_add];exact hz5) (by rw[Nat.zero_add];exact hz4);have b1:=d13.trans (eW.below (Nat.le_refl _) d13.size);have b2:=b1.trans (hz5.below (Nat.le_refl _) b1.size);have b3:=b2.trans (w4.below (by omega) b2.size);refine⟨hk.from _,fun hR=>⟨?_,fun j hj=>⟨_,trivial,aq j (by rw[List.length_set,HD3.out];exact hj)⟩⟩,⟨⟨splice left x.1.1 zs2,_,⟨?_,d2.splice hz2 _,?_,?_⟩,⟨w4.arr (by omega) al,?_⟩,⟨aq,?_⟩,w4.arr (by omega) (hz5.arr (by omega) e9)⟩,?_,?_,?_⟩,b3⟩
   ·exact(w4.far (by omega) 0).trans ((hz5.far (by omega) 0).trans ((eW.far (by omega) 0).trans hR.1))
   ·rw[splice_length (by rw[hz1,HD1.out];omega),HD1.out]
   ·rw[List.length_set,HD3.out]
   ·intro k hk2 hi2;obtain⟨k',rfl⟩:∃k',k=k'+1:=by
     cases k with
     | zero=>have:=congrArg List.length hi2;simp[idx,dn]at this
     | succ k'=>exact⟨k',rfl⟩
    rw[idx_snoc,dn_succ]at hi2;obtain⟨hp1,hp2⟩:=List.append_inj' hi2 rfl;have hxi:x.1.1=mq-1-k':=by simpa using hp2
    have hkey:=HD4.out k' (by omega) hp1;rw[hxi]at hz3 ⊢;exact hkey.step (nb:=nb+1) (by omega) (by rw[HL0.out];omega) (by rw[HD1.out];omega) HD3.out d2 (by rw[hz1]) hdiv.pos hDb hz3
   ·exact fun j hj=>(w4.farFrozen (by omega) _).trans ((hz5.frozen _).trans (e6 j hj))
   ·exact fun j hj=>(w4.frozen _).trans ((hz5.farFrozen (by omega) _).trans (e8 j hj))
   ·exact w4.boxed (by omega) (hz5.boxed (by omega) (eW.boxed (by omega) d10))
   ·exact w4.boxed (by omega) (hz5.boxed (by omega) (eW.boxed (by omega) d11))
   ·exact w4.boxed (by omega) (hz5.boxed (by omega) (eW.boxed (by omega) d12))
 case done =>
  rintro D ps W hD hS ⟨⟨⟨left,quot,⟨d1,d2,d3,d4⟩,⟨d5,d6⟩,⟨d7,d8⟩,d9⟩,d10,d11,d12⟩,d13⟩ hK;obtain⟨r1,r2,r3⟩:=(d4 mq (Nat.le_refl _) hS).done (by rw[d1,HL0.out]) d3 hdiv.pos;rw[HV0.out,HVZ.out,Nat.mul_div_mul_left _ _ htp]at r2;rw[HV0.out,HVZ.out,Nat.mul_mod_mul_left]at r3;have c12:=d12.cell;have c10:=d10.cell;have hl9:=d12.lt;have hcT:∀Wx,Below W.heap.size W Wx→Calls Tryz.prog 138 #[.slice (some ⟨w.heap.size+4,0,none⟩) mq mq] Wx fun e w'=>GiveN Wx (valL xs / valL ys) e w':=fun Wx hbx=>by
   rw[←r2];exact trim_any (w.heap.size+4) 0 mq mq quot Wx d3 r1 (by omega) (by omega) (Nat.lt_of_lt_of_le (by omega) hbx.size) (d7.below hbx (by omega))
  have hcU:∀Wx,Below W.heap.size W Wx→Calls Tryz.prog 144 #[.slice (some ⟨w.heap.size,0,none⟩) (mq+nb+1) (mq+nb+1),.int .u64 (t:Int)] Wx fun e w'=>GiveN Wx (valL xs % valL ys) e w':=fun Wx hbx=>by
   have h:=unscaled_any w.heap.size 0 (mq+nb+1) (mq+nb+1) t left Wx d1 d2 (by omega) (Nat.lt_of_lt_of_le (by omega) hbx.size) (d5.below hbx (by omega)) htp htb;rw[r3,Nat.mul_div_cancel_left _ htp]at h;exact h
  have HCT:=zh hcT;have HCU:=zh hcU
  clear hcT hcU r1 r2 r3 d1 d2 d3 d4 d5 d6 d7 d8 d9 d10 d11 d12
  gi_wp2
  have hFw':=hFw.out;subst hFw';refine wpIn_wide.2 ?_;refine wp_region_noPanic ?_;refine wp_region_held (S:=fun w'=>w'.cell? ⟨w.heap.size+5,0,none⟩=some (.slice (some ⟨w.heap.size+4,0,none⟩) mq mq)∧w'.cell? ⟨w.heap.size+2,0,none⟩=some (.slice (some ⟨w.heap.size,0,none⟩) (mq+nb+1) (mq+nb+1))∧Below W.heap.size W w') (by kernel_rfl) ?_;have hHeld:(fun w':World=>w'.cell? ⟨w.heap.size+5,0,none⟩=some (.slice (some ⟨w.heap.size+4,0,none⟩) mq mq)∧w'.cell? ⟨w.heap.size+2,0,none⟩=some (.slice (some ⟨w.heap.size,0,none⟩) (mq+nb+1) (mq+nb+1))∧Below W.heap.size W w') W.drew:=⟨c12,c10,(Below.refl _ W).drew⟩
  change wpAnyH _ _ _ _ _ _ _ _ W.drew
  generalize W.drew=Wd at *;refine wpAnyH_take (i:=0) (v:=?z0) rfl (by kernel_rfl) (by kernel_rfl) (by kernel_rfl) (fun _ _ _ h=>h) (Or.inl ⟨by rfl,?x0⟩) hHeld ?t0
  case x0 =>
   intro w hSw;obtain⟨s1,s2,s3⟩:=hSw
   go_simp
   try with_reducible rfl
  simp only[Act.put,List.setIfInBounds_toArray];refine wpAnyH_take (i:=2) (v:=?z2) rfl (by kernel_rfl) (by kernel_rfl) (by kernel_rfl) (fun _ _ _ h=>h) (Or.inl ⟨by rfl,?x2⟩) hHeld ?t2
  case x2 =>
   intro w hSw;obtain⟨s1,s2,s3⟩:=hSw
   go_simp
   try with_reducible rfl
  simp only[Act.put];refine wpAnyH_take (i:=3) (v:=?z3) rfl (by kernel_rfl) (by kernel_rfl) (by kernel_rfl) (fun _ _ _ h=>h) (Or.inl ⟨by rfl,?x3⟩) hHeld ?t3
  case x3 =>
   intro w hSw;obtain⟨s1,s2,s3⟩:=hSw
   go_simp
   try with_reducible rfl
  simp only[Act.put];refine wpAnyH_ready (rs:=[1]) (by kernel_rfl) (by simp) ?_;refine AllReadyH.cons rfl (fun K hK=>?_) AllReadyH.nil
  go_simp
  refine(HCT.out _ hHeld.2.2).mono ?_;rintro e wa ⟨v1,rfl,hv1,hba⟩;have hs1:=hHeld.2.2.size;have k1:wa.cell? ⟨w.heap.size+5,0,none⟩=some (.slice (some ⟨w.heap.size+4,0,none⟩) mq mq):=(hba.cell (p:=⟨w.heap.size+5,0,none⟩) (by show w.heap.size+5 < _;omega)).trans hHeld.1;have k2:wa.cell? ⟨w.heap.size+2,0,none⟩=some (.slice (some ⟨w.heap.size,0,none⟩) (mq+nb+1) (mq+nb+1)):=(hba.cell (p:=⟨w.heap.size+2,0,none⟩) (by show w.heap.size+2 < _;omega)).trans hHeld.2.1;have k3:Below W.heap.size W wa:=hHeld.2.2.trans (hba.mono hHeld.2.2.size);clear hHeld;refine hK.out _ _ ⟨k1,k2,k3⟩ (fun hHeld=>?_);clear hK K;refine wpAnyH_ready (rs:=[4]) (by kernel_rfl) (by simp) ?_;refine AllReadyH.cons rfl (fun K hK=>?_) AllReadyH.nil
  go_simp
  refine(HCU.out _ k3).mono ?_;rintro e wb ⟨v2,rfl,hv2,hbb2⟩;have hs2:=k3.size;have k4:wb.cell? ⟨w.heap.size+5,0,none⟩=some (.slice (some ⟨w.heap.size+4,0,none⟩) mq mq):=(hbb2.cell (p:=⟨w.heap.size+5,0,none⟩) (by show w.heap.size+5 < _;omega)).trans k1;have k5:wb.cell? ⟨w.heap.size+2,0,none⟩=some (.slice (some ⟨w.heap.size,0,none⟩) (mq+nb+1) (mq+nb+1)):=(hbb2.cell (p:=⟨w.heap.size+2,0,none⟩) (by show w.heap.size+2 < _;omega)).trans k2;have k6:Below W.heap.size W wb:=k3.trans (hbb2.mono k3.size);have hv1b:=hv1.below hbb2;clear hHeld hv1 k1 k2 k3;refine hK.out _ _ ⟨k4,k5,k6⟩ (fun hHeld=>?_);clear hK K;refine wpAnyH_take (i:=5) (v:=?z5) rfl (by kernel_rfl) (by kernel_rfl) (by kernel_rfl) (fun _ _ _ h=>h) (Or.inl ⟨by rfl,?x5⟩) hHeld ?t5
  case x5 =>
   intro w hSw;obtain⟨s1,s2,s3⟩:=hSw
   go_simp
   try with_reducible rfl
  simp only[Act.put];refine wpAnyH_take (i:=6) (v:=?z6) rfl (by kernel_rfl) (by kernel_rfl) (by kernel_rfl) (fun _ _ _ h=>h) (Or.inl ⟨by rfl,?x6⟩) hHeld ?t6
  case x6 =>
   intro w hSw;obtain⟨s1,s2,s3⟩:=hSw
   go_simp
   try with_reducible rfl
  simp only[Act.put];refine wpAnyH_done (by kernel_rfl) ?_ _;clear hHeld;refine NoPanic.normal ?_
  gi_wp2
  have hK2:wb.heap[D]?=some (.deferred (some [])):=(k6.block D (Array.getElem?_eq_some_iff.1 hK).1).trans hK;refine⟨by simp,.inl ⟨_,_,rfl,run_takeDeferred hK2,?_⟩⟩;have hlp:Below w.heap.size w (wb.putObj D (.deferred none)):=(d13.trans (k6.mono d13.size)).trans (belowK_b (w:=w) (Nat.le_refl _) wb D _ (.deferred none) (by omega) hK2 rfl rfl);exact⟨_,results_tmp2 rfl _ _ _,v1,v2,rfl,LimN.putObj hv1b hK2 rfl _,LimN.putObj hv2 hK2 rfl _,hlp⟩
 case stop =>
  rintro D c pre W _ _ h _;exact h.elim
theorem divide_any(w:World)(va vb:Value)(m n:Nat)(ha:LimN w va m)(hb:LimN w vb n)(hm:Big m)(hn:Big n)(hn0:0<n) :
  Calls Tryz.prog 119 #[va,vb] w fun e w'=>∃v1 v2,e=.returned (.tuple #[v1,v2])∧LimN w' v1 (m / n)∧LimN w' v2 (m % n)∧Below w.heap.size w w':=by
 obtain⟨xs,la,na,rfl⟩:=ha;obtain⟨ys,lb,nb,rfl⟩:=hb;have b1:=na.big hm;have b2:=nb.big hn;rcases Nat.lt_or_ge xs.length ys.length with hlt|hge
 ·refine(divide_less w va vb xs ys la lb b1 b2 hlt).mono ?_;rintro e w' ⟨rfl,rfl⟩;have hv:=lt_of_shorter la.1 nb hlt;exact⟨_,_,rfl,⟨[],⟨Small.nil,.inl ⟨rfl,rfl⟩⟩,Norm.nil,by rw[Nat.div_eq_of_lt hv];rfl⟩,⟨xs,la,na,(Nat.mod_eq_of_lt hv).symm⟩,Below.refl _ _⟩
 ·obtain⟨aa,ca,rfl⟩:=la.form;obtain⟨hys,⟨rfl,rfl⟩|⟨b,off,cap,rfl,hcap,hcm,hbk,hay⟩⟩:=lb
  ·exact absurd hn0 (by rw[valL_nil];omega)
  ·have hyl:ys≠[]:=by intro e;rw[e,valL_nil]at hn0;omega
   have hyp:0<ys.length:=List.length_pos_iff.2 hyl;obtain⟨k,hk⟩:∃k,ys.length=k+1:=⟨ys.length-1,by omega⟩;obtain⟨mq,hmq⟩:∃mq,xs.length=mq+k:=⟨xs.length-k,by omega⟩;rw[hk]at hcap ⊢;rw[hmq]at la b1 ⊢;exact callsIn_wide.1 (divide_in Fence.wide 4 (zh rfl) trivial trivial trivial trivial rfl (by omega) w aa ca b off cap mq k xs ys hmq hk (by omega) b1 la hys nb hbk hay hcap hcm)
end Go.Proofs.YthgopcnagecbaaaGreatDoor
namespace Go.Proofs.YthgopcnagecbaaaGreatDoor
open Go.RowKit
theorem combine_any(w:World)(va vb:Value)(A B T:Nat)(m n:Int)(ha:LimN w va A)(hb:LimN w vb B)(hA:Big A)(hB:Big B)(hm:-1000000000<m∧m<1000000000)(hn:-1000000000<n∧n<1000000000)
  (hT:(T:Int)=m*A+n*B) (hle:T≤A∨T≤B) :
  Calls Tryz.prog 137 #[va,vb,.int .i64 m,.int .i64 n] w (GiveN w T):=by
 obtain⟨xs,la,na,rfl⟩:=ha;obtain⟨ys,lb,nb,rfl⟩:=hb;have b1:=na.big hA;have b2:=nb.big hB;clear hA hB;obtain⟨aa,ca,rfl⟩:=la.form;obtain⟨ab,cb,rfl⟩:=lb.form;have hsx:=la.1;have hsy:=lb.1;have hmm:∃N,xs.length≤N∧ys.length≤N∧N≤1073741824∧((N=ys.length∧xs.length<N)∨(N=xs.length∧ys.length≤N)):=by
  rcases Nat.lt_or_ge xs.length ys.length with h|h
  ·exact⟨ys.length,by omega,by omega,by omega,.inl ⟨rfl,by omega⟩⟩
  ·exact⟨xs.length,by omega,by omega,by omega,.inr ⟨rfl,by omega⟩⟩
 obtain⟨N,hx,hy,hb,hcase⟩:=hmm;have hTN:T<Bp N:=by
  have v1:=valL_lt hsx;have v2:=valL_lt hsy;have p1:=Bp_mono hx;have p2:=Bp_mono hy;omega
 have hT2:=hT;have HT:=zh hT2;have HTN:=zh hTN;clear b1 b2 hT hT2 hle hTN;have HX:=zh hx;clear hx;have HY:=zh hy;clear hy;rcases hcase with ⟨hN,hlt⟩|⟨hN,hlt⟩
 all_goals
  have hN':=hN.symm;clear hN
  (first|rw[hN']at la|rw[hN']at lb)
  go_enter Tryz.func137,Tryz.ntmps137;go_wp2_with (at_make;refine wpList_make_limbs _ rfl _ _ rfl _ _ _ _ N rfl rfl (by omega) (by omega) (by omega) ?_;intro w1 hmade);clear hN'
  go_loopw [10,22] (fun c i wr=>∃ (k:Nat) (cy:Int) (zs:List Nat),k≤N∧i=.int .i64 k∧c=.int .i64 cy∧CombRel xs ys m n N zs k cy∧Arr wr w.heap.size 0 zs∧Wr w1 wr w.heap.size 0 N) (fun _ i _=>N-(intOf i).toNat)
  case atStart=>exact⟨0,0,_,Nat.zero_le _,rfl,rfl,CombRel.start xs ys m n N,hmade.arr,Wr.refl _ _ _ _⟩
  case round =>
   obtain⟨k,cy,zs,hk,rfl,rfl,hr,haz,hw⟩:=hrel;have hbw:Below w.heap.size w wr:=hmade.below.trans (hw.below (Nat.le_refl _) (by rw[hmade.size];omega));by_cases hlt:k<N
   ·have c1:=haz k (by rw[hr.1];exact hlt);have f1:=hw.free hmade.free k hlt;rw[Nat.zero_add]at c1 f1;have b1:=hsx.gl k;have b2:=hsy.gl k;have b3:=hr.2.2.1;have b4:=mul_small hm.1 hm.2 b1;have b5:=mul_small hn.1 hn.2 b2;obtain⟨b31,b32⟩:=b3;obtain⟨b41,b42⟩:=b4;obtain⟨b51,b52⟩:=b5;obtain⟨al,hal⟩:∃al:Int,m*(gl xs k:Int)+n*(gl ys k:Int)+cy=al:=⟨_,rfl⟩;obtain⟨c0,l0,hc0,hl0,hcl,hlo,hhi⟩:∃c0 l0:Int,al.tdiv 1000000000=c0∧al.tmod 1000000000=l0∧al=1000000000*c0+l0∧-1000000000<l0∧l0<1000000000 :=
     ⟨_,_,rfl,rfl,(Int.mul_tdiv_add_tmod al 1000000000).symm,tm_lo al,tm_hi al⟩
    have hal1:-2000000000000000000≤al:=by omega
    have hal2:al≤2000000000000000000:=by omega
    have hcb1:-2000000001≤c0:=by omega
    have hcb2:c0≤2000000001:=by omega
    have hsplit:(∃low:Nat,l0=(low:Int)∧low<1000000000)∨(l0<0∧∃low:Nat,l0+1000000000=(low:Int)∧low<1000000000):=by
     rcases(by omega:0≤l0∨l0<0) with h|h
     ·exact .inl ⟨l0.toNat,by omega,by omega⟩
     ·exact .inr ⟨h,(l0+1000000000).toNat,by omega,by omega⟩
    rcases hsplit with ⟨low,hlw,hlb⟩|⟨hneg,low,hlw,hlb⟩
    ·subst hlw;have hst:=hr.step hlt hlb hm hn hsx hsy (cy':=c0) (by omega);have hset:=haz.set (k:=k) (by rw[hr.1];exact hlt) low;rw[Nat.zero_add]at hset;have HS:=zh hst;have HA:=zh hset
     clear hst hset hr haz hcl hlo hhi;go_wp2_with fail;refine(at_nat _ _ _ k (la.below hbw) (by omega)).mono ?_;rintro e w' ⟨rfl,rfl⟩;go_wp2_with fail;refine(at_nat _ _ _ k (lb.below hbw) (by omega)).mono ?_;rintro e w' ⟨rfl,rfl⟩;go_wp2_with fail;go_roundw
     case rel=>exact⟨k+1,_,_,by omega,by go_num,rfl,HS.out,HA.out,hw.set _ (by omega) (by omega)⟩
     case measure=>simp[intOf];omega
    ·have hst:=hr.step hlt hlb hm hn hsx hsy (cy':=c0-1) (by omega);have hset:=haz.set (k:=k) (by rw[hr.1];exact hlt) low;rw[Nat.zero_add]at hset;have HS:=zh hst;have HA:=zh hset
     clear hst hset hr haz hcl;go_wp2_with fail;refine(at_nat _ _ _ k (la.below hbw) (by omega)).mono ?_;rintro e w' ⟨rfl,rfl⟩;go_wp2_with fail;refine(at_nat _ _ _ k (lb.below hbw) (by omega)).mono ?_;rintro e w' ⟨rfl,rfl⟩;go_wp2_with fail;go_roundw
     case rel=>exact⟨k+1,_,_,by omega,by go_num,rfl,HS.out,HA.out,hw.set _ (by omega) (by omega)⟩
     case measure=>simp[intOf];omega
   ·obtain rfl:k=N:=by omega
    have hd:=hr.done HX.out HY.out HT.out HTN.out;have HD:=zh hd;clear hd;have hsz:wr.heap.size=w.heap.size+1:=by rw[hw.size,hmade.size]
    have HZ:=zh hsz;clear hsz;go_wp2_with (go_at_call 138;refine(trim_any w.heap.size 0 k k zs _ HD.out.1 HD.out.2.1 (by omega) (by omega) (by rw[HZ.out];omega) haz).mono ?_;rintro e w2 ⟨v,rfl,hv,hbl⟩);go_ret;exact⟨v,rfl,by rw[←HD.out.2.2];exact hv,hbw.trans (hbl.mono hbw.size)⟩
end Go.Proofs.YthgopcnagecbaaaGreatDoor
namespace Go.Proofs.YthgopcnagecbaaaGreatDoor
open Go.RowKit
def Hi(A B:Nat)(x0 y0:Int):Prop :=
 (0≤x0∧x0<1000000000000000000)∧(0≤y0∧y0<1000000000000000000) ∧
  ∃K R p r:Int,1≤K∧1≤R∧K*A=x0*R+p∧K*B=y0*R+r∧0≤p∧p≤R∧0≤r∧r≤R
theorem high_val{xs:List Nat}{s:Nat}(h:xs.length≤s+2):(valL xs:Int)=((gl xs (s+1):Int)*1000000000+gl xs s)*Bp s+sumTo (gl xs) s:=by
 rw[←valL_to h,sumTo,sumTo,Bp_succ];generalize sumTo (gl xs) s=S;generalize gl xs (s+1)=a;generalize gl xs s=b;generalize Bp s=B;have e:((S+b*B+a*(1000000000*B):Nat):Int)=S+b*B+a*(1000000000*B):=by
  have c4:((1000000000*B:Nat):Int)=1000000000*B:=by omega
  rw[Int.natCast_add,Int.natCast_add,Int.natCast_mul,Int.natCast_mul,c4]
 rw[e]
 grind
theorem Hi.make{xs ys:List Nat}{t:Nat}(hx:Small xs)(hy:Small ys)(h1:xs.length≤t+1)(h2:ys.length≤t+1) :
  Hi (valL xs) (valL ys) ((gl xs t:Int)*1000000000+atL xs ((t:Int)-1)) ((gl ys t:Int)*1000000000+atL ys ((t:Int)-1)):=by
 have a1:=hx.gl t;have a2:=hy.gl t;have a3:=atL_lt hx ((t:Int)-1);have a4:=atL_lt hy ((t:Int)-1);refine⟨⟨by omega,by omega⟩,⟨by omega,by omega⟩,?_⟩
 cases t with
 | zero =>
  have z:∀zs:List Nat,zs.length≤1→(1000000000:Int)*valL zs=((gl zs 0:Int)*1000000000+atL zs (((0:Nat):Int)-1))*1+0:=fun zs hz=>by
   have e1:valL zs=gl zs 0:=by
    rw[←valL_to hz,sumTo,sumTo,Bp_zero];omega
   have e2:atL zs (((0:Nat):Int)-1)=0:=by unfold atL;rw[if_pos (by omega)]
   rw[e1,e2];omega
  exact⟨1000000000,1,0,0,by omega,by omega,z xs h1,z ys h2,by omega,by omega,by omega,by omega⟩
 | succ s =>
  have e:∀zs,atL zs (((s+1:Nat):Int)-1)=gl zs s:=fun zs=>by
   rw[show ((s+1:Nat):Int)-1=(s:Int) from by omega,atL_nat]
  rw[e,e];have l1:=sumTo_lt (f:=gl xs) (k:=s) (fun j _=>hx.gl j);have l2:=sumTo_lt (f:=gl ys) (k:=s) (fun j _=>hy.gl j);have l3:=Bp_pos s;exact⟨1,Bp s,sumTo (gl xs) s,sumTo (gl ys) s,by omega,by omega,by rw[Int.one_mul];exact high_val h1,by rw[Int.one_mul];exact high_val h2,by omega,by omega,by omega,by omega⟩
theorem highest_any(w:World)(va vb:Value)(A B:Nat)(ha:LimN w va A)(hb:LimN w vb B)(hA:Big A)(hB:Big B)(hB0:0<B) :
  Calls Tryz.prog 157 #[va,vb] w fun e w'=>∃x0 y0:Int,e=.returned (.tuple #[.int .i64 x0,.int .i64 y0])∧Hi A B x0 y0∧w=w':=by
 obtain⟨xs,la,na,rfl⟩:=ha;obtain⟨ys,lb,nb,rfl⟩:=hb;have b1:=na.big hA;have b2:=nb.big hB;clear hA hB;have hy0:0<ys.length:=by
  rcases Nat.eq_zero_or_pos ys.length with h|h
  ·rw[List.length_eq_zero_iff.1 h,valL_nil]at hB0;omega
  ·exact h
 clear hB0;obtain⟨aa,ca,rfl⟩:=la.form;obtain⟨ab,cb,rfl⟩:=lb.form;have hsx:=la.1;have hsy:=lb.1;have hmm:∃t,xs.length≤t+1∧ys.length≤t+1∧t≤1073741824∧((t+1=ys.length∧xs.length<t+1)∨(t+1=xs.length∧ys.length≤t+1)):=by
  rcases Nat.lt_or_ge xs.length ys.length with h|h
  ·exact⟨ys.length-1,by omega,by omega,by omega,.inl ⟨by omega,by omega⟩⟩
  ·exact⟨xs.length-1,by omega,by omega,by omega,.inr ⟨by omega,by omega⟩⟩
 obtain⟨t,hx,hy,hb,hcase⟩:=hmm;have hhi:=Hi.make hsx hsy hx hy;have HH:=zh hhi;clear hhi;clear b1 b2;have a1:=hsx.gl t;have a2:=hsy.gl t;have a3:=atL_lt hsx ((t:Int)-1);have a4:=atL_lt hsy ((t:Int)-1);clear hx hy;obtain⟨x0,hx0⟩:∃x0:Int,(gl xs t:Int)*1000000000+(atL xs ((t:Int)-1):Int)=x0:=⟨_,rfl⟩;obtain⟨y0,hy0'⟩:∃y0:Int,(gl ys t:Int)*1000000000+(atL ys ((t:Int)-1):Int)=y0:=⟨_,rfl⟩;rw[hx0,hy0']at HH;obtain⟨z1,hz1⟩:∃z1:Int,(gl xs t:Int)*1000000000=z1:=⟨_,rfl⟩;obtain⟨z2,hz2⟩:∃z2:Int,(gl ys t:Int)*1000000000=z2:=⟨_,rfl⟩;rw[hz1]at hx0;rw[hz2]at hy0';have n1:0≤z1:=by omega
 have n2:z1<1000000000000000000:=by omega
 have n3:0≤z2:=by omega
 have n4:z2<1000000000000000000:=by omega
 have n5:0≤x0:=by omega
 have n6:x0<1000000000000000000:=by omega
 have n7:0≤y0:=by omega
 have n8:y0<1000000000000000000:=by omega
 rcases hcase with ⟨hN,hlt⟩|⟨hN,hlt⟩
 all_goals
  have hN':=hN.symm;clear hN
  (first|rw[hN']at la ⊢|rw[hN']at lb ⊢)
  have LA:=zh la;have LB:=zh lb;clear la lb hN';go_enter Tryz.func157,Tryz.ntmps157;go_wp2_with fail;refine(at_nat _ _ _ t LA.out (by omega)).mono ?_;rintro e w' ⟨rfl,rfl⟩;go_wp2_with fail;refine(at_any _ _ _ ((t:Int)-1) LA.out (by omega) (by omega)).mono ?_;rintro e w' ⟨rfl,rfl⟩;go_wp2_with fail;refine(at_nat _ _ _ t LB.out (by omega)).mono ?_;rintro e w' ⟨rfl,rfl⟩;go_wp2_with fail;refine(at_any _ _ _ ((t:Int)-1) LB.out (by omega) (by omega)).mono ?_;rintro e w' ⟨rfl,rfl⟩;go_wp2_with fail
  go_ret2
  exact⟨_,_,rfl,HH.out,rfl⟩
abbrev St(a b c d:Int):Obj:=Obj.cells #[.int .i64 a,.int .i64 b,.int .i64 c,.int .i64 d] 130
theorem info_steps:(Tryz.prog.info? 130).map (·.size)=some 4:=by kernel_rfl
theorem steps_ret(w:World)(tmps:Array Value)(a b c d:Int)(Y:Obj)(hp:tmps.getD 4 undef=.pointer (some ⟨w.heap.size,0,none⟩)) :
  (results Tryz.f136 tmps).run Tryz.prog ((w.alloc (St a b c d)).alloc Y)=.ok (.agg #[.int .i64 a,.int .i64 b,.int .i64 c,.int .i64 d]) ((w.alloc (St a b c d)).alloc Y) :=
 results_cell_row rfl tmps _ w.heap.size 130 _ (0,0) _ hp ((by show ((w.heap.push _).push _)[w.heap.size]?=_;rw[Array.getElem?_push,if_neg (by simp)];simp):((w.alloc (St a b c d)).alloc Y).heap[w.heap.size]?=some (St a b c d)) Tryz.underlying130 rfl info_steps
theorem steps_below(w:World)(X Y:Obj):Below w.heap.size w ((w.alloc X).alloc Y) :=
 ((Below.refl _ w).alloc (Nat.le_refl _) X).alloc (by show w.heap.size≤(w.heap.push X).size;simp) Y
def Told(A B:Nat)(a b c d:Int):Prop :=
 b=0∨((-1000000000<a∧a<1000000000)∧(-1000000000<b∧b<1000000000)∧(-1000000000<c∧c<1000000000)∧(-1000000000<d∧d<1000000000)∧(a*d-b*c=1∨a*d-b*c=-1) ∧
  0≤a*A+b*B∧0≤c*A+d*B∧a*A+b*B≤B∧c*A+d*B<B)
def FoI(A B:Nat)(x0 y0 a b c d x y:Int):Prop:=∃K R p r:Int,1≤K∧1≤R∧K*A=x0*R+p∧K*B=y0*R+r∧0≤p∧p≤R∧0≤r∧r≤R∧x0<1000000000000000000∧y0<1000000000000000000∧Fo (K*A) (K*B) x0 y0 a b c d x y
theorem FoI.start{A B:Nat}{x0 y0:Int}(h:Hi A B x0 y0):FoI A B x0 y0 1 0 0 1 x0 y0:=by
 obtain⟨hx,hy,K,R,p,r,h1,h2,h3,h4,h5,h6,h7,h8⟩:=h;exact⟨K,R,p,r,h1,h2,h3,h4,h5,h6,h7,h8,hx.2,hy.2,Fo.start (Int.mul_nonneg (by omega) (by omega)) (Int.mul_nonneg (by omega) (by omega)) hx hy⟩
theorem FoI.told{A B:Nat}{x0 y0 a b c d x y:Int}(h:FoI A B x0 y0 a b c d x y):Told A B a b c d:=by
 obtain⟨K,R,p,r,h1,h2,h3,h4,h5,h6,h7,h8,_,_,hf⟩:=h;obtain⟨ex,ey,sg,ba,bb,bc,bd,bx,bY,pa,pb,pc,pd,nA,nB,tr⟩:=hf;rcases tr with ⟨_,hb,_⟩|⟨t1,t2⟩
 ·exact .inl hb
 ·have e1:a*(K*A)+b*(K*B)=K*(a*A+b*B):=by grind
  have e2:c*(K*A)+d*(K*B)=K*(c*A+d*B):=by grind
  rw[e1]at nA t1;rw[e2]at nB t2;have hK:0<K:=by omega
  exact .inr ⟨ba,bb,bc,bd,by rcases sg with s|s<;>omega,Int.nonneg_of_mul_nonneg_right nA hK,Int.nonneg_of_mul_nonneg_right nB hK,Int.le_of_mul_le_mul_left t1 hK,Int.lt_of_mul_lt_mul_left t2 (by omega)⟩
theorem tdiv_range{n m:Int}(h:0≤n)(hm:0<m):0≤n.tdiv m∧n.tdiv m≤n:=by
 rw[Int.tdiv_eq_ediv_of_nonneg h];exact⟨Int.ediv_nonneg h (by omega),Int.ediv_le_self _ h⟩
theorem FoI.step{A B:Nat}{x0 y0 a b c d x y q:Int}(h:FoI A B x0 y0 a b c d x y)(hc:0<y+c)(hd:0<y+d)(hq1:(x+a).tdiv (y+c)=q)(hq2:(x+b).tdiv (y+d)=q) :
  FoI A B x0 y0 c d (a-q*c) (b-q*d) y (x-q*y)∧x-q*y<y∧0≤x-q*y∧(-1000000000<q*c∧q*c<1000000000)∧(-1000000000<q*d∧q*d<1000000000)∧(0≤q*y∧q*y<1000000000000000000) ∧
   (-1000000000<a-q*c∧a-q*c<1000000000)∧(-1000000000<b-q*d∧b-q*d<1000000000)∧0≤q∧q≤1000000001000000000:=by
 obtain⟨K,R,p,r,h1,h2,h3,h4,h5,h6,h7,h8,h9,h10,hf⟩:=h;have pa:=hf.pa;have pb:=hf.pb;have bx:=hf.bx;have ba:=hf.ba;rw[Int.tdiv_eq_ediv_of_nonneg pa]at hq1;rw[Int.tdiv_eq_ediv_of_nonneg pb]at hq2;have hle:q≤x+a:=by rw[←hq1];exact Int.ediv_le_self _ pa
 obtain⟨s1,s2,s3,s4,s5,s6,s7⟩:=hf.step h3 h4 h2 h5 h6 h7 h8 h9 h10 (by omega) (by omega) hq1.symm hq2.symm;exact⟨⟨K,R,p,r,h1,h2,h3,h4,h5,h6,h7,h8,h9,h10,s1⟩,s2,s1.bY.1,s4,s5,⟨s6,s7⟩,s1.bc,s1.bd,s3,by omega⟩
theorem foresee_any(w:World)(va vb:Value)(A B:Nat)(ha:LimN w va A)(hb:LimN w vb B)(hA:Big A)(hB:Big B)(hB0:0<B) :
  Calls Tryz.prog 136 #[va,vb] w fun e w'=>∃a b c d:Int,e=.returned (.agg #[.int .i64 a,.int .i64 b,.int .i64 c,.int .i64 d])∧Told A B a b c d∧Below w.heap.size w w':=by
 have hb1:Below w.heap.size w (w.alloc (St 0 0 0 0)):=(Below.refl _ _).alloc (Nat.le_refl _) _;have c1:=highest_any _ va vb A B (ha.below hb1) (hb.below hb1) hA hB hB0;clear ha hb hA hB hb1;go_enter Tryz.func136,Tryz.ntmps136;go_wp2_with fail;refine c1.mono ?_;rintro e w' ⟨x0,y0,rfl,hhi,rfl⟩;clear c1;have hst:=FoI.start hhi;go_wp2_with fail
 go_loopw [5,6] (fun xv yv wr=>∃a b c d x y:Int,xv=.int .i64 x∧yv=.int .i64 y∧FoI A B x0 y0 a b c d x y∧wr=(w.alloc (St 0 0 0 0)).alloc (St a b c d)) (fun _ yv _=>(intOf yv).toNat)
 case atStart=>exact⟨1,0,0,1,x0,y0,rfl,rfl,hst,rfl⟩
 case round =>
  clear hst;obtain⟨a,b,c,d,x,y,rfl,rfl,hI,rfl⟩:=hrel;have HI:=zh hI;obtain⟨K,R,p,r,h1,h2,h3,h4,h5,h6,h7,h8,h9,h10,hf⟩:=hI;obtain⟨xl,xu⟩:=hf.bx;obtain⟨yl,yu⟩:=hf.bY;obtain⟨al,au⟩:=hf.ba;obtain⟨bl,bu⟩:=hf.bb;obtain⟨cl,cu⟩:=hf.bc;obtain⟨dl,du⟩:=hf.bd;have pa:=hf.pa;have pb:=hf.pb;have pc:=hf.pc;have pd:=hf.pd;have HF:=zh hf;clear hf h1 h2 h3 h4 h5 h6 h7 h8 h9 h10;by_cases hc:y+c=0
  ·go_wp2
   exact bodyPost_ret (steps_ret w _ a b c d _ rfl) rfl ⟨a,b,c,d,rfl,HI.out.told,steps_below _ _ _⟩
  ·have hcb:(y+c != 0)=true:=by simp[hc]
   by_cases hd:y+d=0
   ·have hdb:(y+d != 0)=false:=by simp[hd]
    go_wp2
    exact bodyPost_ret (steps_ret w _ a b c d _ rfl) rfl ⟨a,b,c,d,rfl,HI.out.told,steps_below _ _ _⟩
   ·have hdb:(y+d != 0)=true:=by simp[hd]
    obtain⟨q,hq⟩:∃q,(x+a).tdiv (y+c)=q:=⟨_,rfl⟩;obtain⟨q2,hq2⟩:∃q2,(x+b).tdiv (y+d)=q2:=⟨_,rfl⟩;have p1:0<y+c:=by omega
    have p2:0<y+d:=by omega
    by_cases hqq:q=q2
    ·subst hqq;have hs:=HI.out.step p1 p2 hq hq2;obtain⟨s1,s2,s3,⟨s4,s4'⟩,⟨s5,s5'⟩,⟨s6,s6'⟩,⟨s7,s7'⟩,⟨s8,s8'⟩,s9,s10⟩:=hs;have HS:=zh s1;clear s1
     go_wp2
     go_roundw
     case rel=>exact⟨_,_,_,_,_,_,rfl,rfl,HS.out,rfl⟩
     case measure=>simp[intOf];omega
    ·obtain⟨r1,r2⟩:=tdiv_range pa p1;obtain⟨r3,r4⟩:=tdiv_range pb p2;rw[hq]at r1 r2;rw[hq2]at r3 r4;have r5:q≤1000000001000000000:=by omega
     have r6:q2≤1000000001000000000:=by omega
     have hqb:(q != q2)=true:=by simp[hqq]
     clear r2 r4
     go_wp2
     exact bodyPost_ret (steps_ret w _ a b c d _ rfl) rfl ⟨a,b,c,d,rfl,HI.out.told,steps_below _ _ _⟩
end Go.Proofs.YthgopcnagecbaaaGreatDoor
namespace Go.Proofs.YthgopcnagecbaaaGreatDoor
open Go.RowKit
theorem Big.le{m n:Nat}(h:Big n)(hl:m≤n):Big m:=⟨Nat.lt_of_le_of_lt hl h.lt⟩
theorem told_step{A B:Nat}{a b c d:Int}(h:Told A B a b c d)(hb:b≠0) :
  ∃A2 B2:Nat,(A2:Int)=a*A+b*B∧(B2:Int)=c*A+d*B∧A2≤B∧B2<B∧Nat.gcd A2 B2=Nat.gcd A B∧(-1000000000<a∧a<1000000000)∧(-1000000000<b∧b<1000000000)∧(-1000000000<c∧c<1000000000)∧(-1000000000<d∧d<1000000000):=by
 rcases h with h|⟨ba,bb,bc,bd,hdet,n1,n2,l1,l2⟩
 ·exact absurd h hb
 ·obtain⟨A2,h1⟩:=Int.eq_ofNat_of_zero_le n1;obtain⟨B2,h2⟩:=Int.eq_ofNat_of_zero_le n2;exact⟨A2,B2,h1.symm,h2.symm,by omega,by omega,gcd_steps h1.symm h2.symm hdet,ba,bb,bc,bd⟩
theorem sdiv_next{W2 w' w'':World}{G:Nat}{a b c d:Value}(hG:G<W2.heap.size)(hb:Below w'.heap.size w' w'')(h:w'.cell? ⟨G,0,none⟩=some a∧w'.cell? ⟨G,1,none⟩=some b∧w'.cell? ⟨G,2,none⟩=some c∧w'.cell? ⟨G,3,none⟩=some d∧Below W2.heap.size W2 w') :
  w''.cell? ⟨G,0,none⟩=some a∧w''.cell? ⟨G,1,none⟩=some b∧w''.cell? ⟨G,2,none⟩=some c∧w''.cell? ⟨G,3,none⟩=some d∧Below W2.heap.size W2 w'':=by
 obtain⟨h0,h1,h2,h3,h4⟩:=h;have hG':G<w'.heap.size:=Nat.lt_of_lt_of_le hG h4.size;exact⟨(hb.cell (p:=⟨G,0,none⟩) hG').trans h0,(hb.cell (p:=⟨G,1,none⟩) hG').trans h1,(hb.cell (p:=⟨G,2,none⟩) hG').trans h2,(hb.cell (p:=⟨G,3,none⟩) hG').trans h3,h4.trans (hb.mono h4.size)⟩
theorem sdiv_drew{W2:World}{G:Nat}{a b c d:Value}(h0:W2.cell? ⟨G,0,none⟩=some a)(h1:W2.cell? ⟨G,1,none⟩=some b)(h2:W2.cell? ⟨G,2,none⟩=some c)(h3:W2.cell? ⟨G,3,none⟩=some d) :
  W2.drew.cell? ⟨G,0,none⟩=some a∧W2.drew.cell? ⟨G,1,none⟩=some b∧W2.drew.cell? ⟨G,2,none⟩=some c∧W2.drew.cell? ⟨G,3,none⟩=some d∧Below W2.heap.size W2 W2.drew:=⟨h0,h1,h2,h3,(Below.refl _ _).drew⟩
theorem divisor_any(w:World)(va vb:Value)(A B:Nat)(ha:LimN w va A)(hb:LimN w vb B)(hA:Big A)(hB:Big B) :
  Calls Tryz.prog 113 #[va,vb] w (GiveN w (Nat.gcd A B)):=by
 go_enter Tryz.func113,Tryz.ntmps113;go_wp2_with fail
 go_loopg [0,1] B (fun g av bv wr=>∃A2:Nat,LimN wr av A2∧LimN wr bv g∧Big A2∧Big g∧Nat.gcd A2 g=Nat.gcd A B∧Below w.heap.size w wr)
 case atStart=>exact⟨A,ha,hb,hA,hB,rfl,Below.refl _ _⟩
 case round =>
  clear ha hb hA hB;obtain⟨A2,hla,hlb,hA,hB,hg,hbw⟩:=hrel;have HG:=zh hg;clear hg;have HA:=zh hla;have HB:=zh hlb
  obtain⟨ys,lb,nb,hys⟩:=hlb;obtain⟨ab,cb,rfl⟩:=lb.form;by_cases h0:ys.length=0
  ·have hgk:gk=0:=by rw[←hys,List.length_eq_zero_iff.1 h0,valL_nil]
   have HK:=zh hgk;clear hys hgk lb nb;go_wp2_with fail;go_ret;exact⟨_,rfl,by rw[←HG.out,HK.out,Nat.gcd_zero_right];exact HA.out,hbw⟩
  ·have hg0:0<gk:=by
    have:=nb.ge (by intro e;rw[e]at h0;exact h0 rfl);have:=Bp_pos (ys.length-1);omega
   have h0':0<ys.length:=by omega
   clear hys lb nb h0;go_wp2_with fail;refine(foresee_any _ _ _ A2 gk HA.out HB.out hA hB hg0).mono ?_;rintro e w2 ⟨a,b,c,d,rfl,hT,hb2⟩;have hT':=hT;have HT:=zh hT';clear hT hT';have HLA:=zh (HA.out.below hb2);have HLB:=zh (HB.out.below hb2);have hbw2:=hbw.trans (hb2.mono hbw.size);clear HA HB hb2 hbw;obtain⟨W2,hW2⟩:∃W2,w2.alloc (St a b c d)=W2:=⟨_,rfl⟩;have hbW:Below w2.heap.size w2 W2:=by rw[←hW2];exact(Below.refl _ _).alloc (Nat.le_refl _) _
   have hcell:∀j,W2.cell? ⟨w2.heap.size,j,none⟩=(#[Value.int .i64 a,.int .i64 b,.int .i64 c,.int .i64 d]:Array Value)[j]?:=fun j=>by
    rw[←hW2];exact cell_of_row _ _ _ _ _ _ (World.alloc_heap_new w2 (St a b c d))
   have k0:W2.cell? ⟨w2.heap.size,0,none⟩=some (.int .i64 a):=hcell 0;have k1:W2.cell? ⟨w2.heap.size,1,none⟩=some (.int .i64 b):=hcell 1;have k2:W2.cell? ⟨w2.heap.size,2,none⟩=some (.int .i64 c):=hcell 2;have k3:W2.cell? ⟨w2.heap.size,3,none⟩=some (.int .i64 d):=hcell 3;clear hcell;have hsz:w2.heap.size<W2.heap.size:=by rw[←hW2];show w2.heap.size<(w2.heap.push _).size;simp
   have HLA2:=zh (HLA.out.below hbW);have HLB2:=zh (HLB.out.below hbW);have hbw3:=hbw2.trans (hbW.mono hbw2.size);by_cases hbz:b=0
   ·subst hbz;go_wp2_with fail;refine(divide_any _ _ _ A2 gk HLA2.out HLB2.out hA hB hg0).mono ?_;rintro e w3 ⟨v1,v2,rfl,h1,h2,hb3⟩;have H2:=zh h2;clear h1 h2;have HLB3:=zh (HLB2.out.below hb3);have hbw4:=hbw3.trans (hb3.mono hbw3.size);clear hW2;go_wp2_with fail
    go_roundg (A2 % gk)
    case measure=>exact Nat.mod_lt _ hg0
    case rel=>exact⟨gk,HLB3.out,H2.out,hB,hA.le (Nat.mod_le _ _),by rw[←HG.out,Nat.gcd_comm,← Nat.gcd_rec,Nat.gcd_comm],hbw4⟩
   ·obtain⟨A3,B3,e1,e2,l1,l2,hgg,ba,bb,bc,bd⟩:=told_step HT.out hbz;have hbb:(b != 0)=true:=by simp[hbz]
    go_wp2_with fail;clear hW2;generalize w2.heap.size=G at *;have HT2:=zh hgg;have hc1:∀w',(w'.cell? ⟨G,0,none⟩=some (.int .i64 a)∧w'.cell? ⟨G,1,none⟩=some (.int .i64 b)∧w'.cell? ⟨G,2,none⟩=some (.int .i64 c)∧w'.cell? ⟨G,3,none⟩=some (.int .i64 d)∧Below W2.heap.size W2 w')→Calls Tryz.prog 137 #[u0,.slice ab ys.length cb,.int .i64 a,.int .i64 b] w' (GiveN w' A3) :=
     fun w' hS=>combine_any _ _ _ A2 gk A3 a b (HLA2.out.below hS.2.2.2.2) (HLB2.out.below hS.2.2.2.2) hA hB ba bb e1 (.inr l1)
    have hc2:∀w',(w'.cell? ⟨G,0,none⟩=some (.int .i64 a)∧w'.cell? ⟨G,1,none⟩=some (.int .i64 b)∧w'.cell? ⟨G,2,none⟩=some (.int .i64 c)∧w'.cell? ⟨G,3,none⟩=some (.int .i64 d)∧Below W2.heap.size W2 w')→Calls Tryz.prog 137 #[u0,.slice ab ys.length cb,.int .i64 c,.int .i64 d] w' (GiveN w' B3) :=
     fun w' hS=>combine_any _ _ _ A2 gk B3 c d (HLA2.out.below hS.2.2.2.2) (HLB2.out.below hS.2.2.2.2) hA hB bc bd e2 (.inr (by omega))
    have HC1:=zh hc1;have HC2:=zh hc2
    clear hc1 hc2
    go_region_held3 (fun w'=>w'.cell? ⟨G,0,none⟩=some (.int .i64 a)∧w'.cell? ⟨G,1,none⟩=some (.int .i64 b)∧w'.cell? ⟨G,2,none⟩=some (.int .i64 c)∧w'.cell? ⟨G,3,none⟩=some (.int .i64 d)∧Below W2.heap.size W2 w')
     (first|(exact sdiv_drew k0 k1 k2 k3)|(with_reducible (exact sdiv_next hsz (by assumption) (by assumption))))
     (first|(go_at_call 137;(with_reducible refine(HC1.out _ (by assumption)).mono ?_);rintro e w'' ⟨v,rfl,hv,hbv⟩)|(go_at_call 137;(with_reducible refine(HC2.out _ (by assumption)).mono ?_);rintro e w'' ⟨v,rfl,hv,hbv⟩))
    rename_i wx v1 hv1 hb1 hH
    have hbF:=hbw3.trans (hH.2.2.2.2.mono hbw3.size);clear hH HC1 HC2 k0 k1 k2 k3;go_wp2_with fail
    go_roundg B3
    case measure=>exact l2
    case rel=>exact⟨A3,hv1.below hbv,hv,hB.le l1,hB.le (Nat.le_of_lt l2),HT2.out.trans HG.out,hbF⟩
end Go.Proofs.YthgopcnagecbaaaGreatDoor
