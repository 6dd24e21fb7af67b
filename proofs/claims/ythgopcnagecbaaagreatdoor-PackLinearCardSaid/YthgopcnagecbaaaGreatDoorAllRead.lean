/- Own work. -/
import Derived.Test.YthgopcnagecbaaaGreatDoorAllLimb
set_option maxHeartbeats 1000000
set_option maxRecDepth 100000
namespace Go.Proofs.YthgopcnagecbaaaGreatDoor
open Go.RowKit
theorem ret_bool{a b:Bool}(h:a=b):Ending.returned (.bool a)=.returned (.bool b):=by rw[h]
theorem size_toList(s:ByteArray):s.data.toList.length=s.size:=rfl
theorem byte_at(s:ByteArray)(k:Nat)(h:k<s.size):s.data.toList[k]?=some s[k]:=by
 rw[List.getElem?_eq_getElem (by rw[size_toList];exact h)];rfl
theorem toList_empty(s:ByteArray):s.toList.isEmpty=decide (s.size=0):=by
 rw[ByteArray.toList_eq,← size_toList]
 cases s.data.toList with
 | nil=>rfl
 | cons c r=>simp
theorem isNat_empty{s:ByteArray}(h:s.size=0):isNat s.data.toList=false:=by
 have:s.data.toList=[]:=List.length_eq_zero_iff.1 h;rw[this];rfl
theorem isNat_lead{s:ByteArray}(h0:0<s.size)(h:s[0].toNat=48)(h1:1<s.size):isNat s.data.toList=false:=by
 unfold isNat;have hh:s.data.toList.head?=some 48:=by
  rw[List.head?_eq_getElem?,byte_at s 0 h0];exact congrArg some (UInt8.toNat_inj.1 h)
 have hl:1<s.data.toList.length:=h1;have e2:decide (1<s.data.toList.length)=true:=decide_eq_true hl;rw[hh,e2];simp
theorem isNat_bad{s:ByteArray}{k:Nat}(hk:k<s.size)(h:s[k].toNat<48∨57<s[k].toNat):isNat s.data.toList=false:=by
 unfold isNat;have:s.data.toList.all isDig=false:=by
  rw[List.all_eq_false];refine⟨s[k],List.mem_of_getElem? (byte_at s k hk),?_⟩;unfold isDig;simp only[Bool.and_eq_true,decide_eq_true_eq];omega
 rw[this,Bool.and_false]
theorem isNat_good{s:ByteArray}(h0:0<s.size)(h1:¬(s[0].toNat=48∧1<s.size))(h:∀k (hk:k<s.size),48≤s[k].toNat∧s[k].toNat≤57):isNat s.data.toList=true:=by
 unfold isNat;have ha:s.data.toList.all isDig=true:=by
  rw[List.all_eq_true];intro c hc;obtain⟨k,hk,rfl⟩:=List.mem_iff_getElem.1 hc;have:=h k hk;unfold isDig;simp only[Bool.and_eq_true,decide_eq_true_eq];exact this
 have he:s.data.toList≠[]:=by intro e;have:=size_toList s;rw[e]at this;simp at this;omega
 rw[ha,Bool.and_true,Bool.and_eq_true];refine⟨by simpa using he,?_⟩;rw[Bool.not_eq_true',Bool.and_eq_false_iff];by_cases hz:s[0].toNat=48
 ·refine .inr ?_;rw[decide_eq_false_iff_not,size_toList];intro h2;exact h1 ⟨hz,h2⟩
 ·refine .inl ?_;rw[List.head?_eq_getElem?,byte_at s 0 h0];simp only[beq_eq_false_iff_ne,ne_eq,Option.some.injEq];intro e;rw[e]at hz;exact hz rfl
theorem may_any(s:ByteArray)(w:World)(hs:s.size≤4611686018427387904) :
  Calls Tryz.prog 111 #[.string s] w fun e w'=>e=.returned (.bool (isNat s.data.toList))∧w=w':=by
 by_cases h0:s.size=0
 ·have he:s.toList.isEmpty=true:=by rw[toList_empty];simpa using h0
  have hr:=isNat_empty h0;have HR:=zh hr;clear hr h0;go_enter Tryz.func111,Tryz.ntmps111
  go_wp2
  go_ret;exact⟨ret_bool (by rw[HR.out]),rfl⟩
 ·have he:s.toList.isEmpty=false:=by rw[toList_empty];simpa using h0
  have h0':0<s.size:=by omega
  clear h0;by_cases hz:s[0].toNat=48∧1<s.size
  ·obtain⟨hz1,hz2⟩:=hz;have hr:=isNat_lead h0' hz1 hz2;have HR:=zh hr;clear hr;have hz3:(s[0].toNat:Int)=48:=by omega
   clear hz1;go_enter Tryz.func111,Tryz.ntmps111
   go_wp2
   go_ret;exact⟨ret_bool (by rw[HR.out]),rfl⟩
  ·have HZ:=zh hz;have hzz:(¬(s[0].toNat:Int)=48)∨((s[0].toNat:Int)=48∧s.size≤1):=by
    by_cases h:s[0].toNat=48
    ·exact .inr ⟨by omega,by omega⟩
    ·exact .inl (by omega)
   clear hz;rcases hzz with hzz|⟨hzz,hz1⟩
   all_goals
    go_enter Tryz.func111,Tryz.ntmps111
    go_wp2
    go_loop [18] (fun i=>∃k:Nat,k≤s.size∧i=.int .i64 k∧Hid (∀j (hj:j<s.size),j<k→48≤s[j].toNat∧s[j].toNat≤57)) (fun i=>s.size-(intOf i).toNat)
    case atStart=>exact⟨0,Nat.zero_le _,rfl,fun j _ h=>absurd h (Nat.not_lt_zero j)⟩
    case round =>
     obtain⟨k,hk,rfl,HJ⟩:=hrel;by_cases hlt:k<s.size
     ·by_cases hb:s[k].toNat<48∨57<s[k].toNat
      ·have hr:=isNat_bad hlt hb;have HR:=zh hr;clear hr;have hb':(s[k].toNat:Int)<48∨(¬(s[k].toNat:Int)<48∧(57:Int)<(s[k].toNat:Int)):=by omega
       clear hb;rcases hb' with hb|⟨hb,hb2⟩
       all_goals
        go_wp2
        go_ret;exact⟨ret_bool (by rw[HR.out]),rfl⟩
      ·have hb1:¬(s[k].toNat:Int)<48:=by omega
       have hb2:¬(57:Int)<(s[k].toNat:Int):=by omega
       have HB:=zh hb;clear hb
       go_wp2
       go_round
       case rel=>exact⟨k+1,by omega,by go_num,fun j hj h=>by
        by_cases e:j=k
        ·subst e;have:=HB.out;omega
        ·exact HJ.out j hj (by omega)⟩
       case measure=>simp[intOf];omega
     ·obtain rfl:k=s.size:=by omega
      have hr:=isNat_good h0' HZ.out (fun j hj=>HJ.out j hj hj);have HR:=zh hr;clear hr
      go_wp2
      go_ret;exact⟨ret_bool (by rw[HR.out]),rfl⟩
end Go.Proofs.YthgopcnagecbaaaGreatDoor
namespace Go.Proofs.YthgopcnagecbaaaGreatDoor
open Go.RowKit
theorem bytes_new(w:World)(c:ByteArray)(cap:Nat)(t:TypeId)(fr:Nat×Nat)(j:Nat)(hj:j<c.size) :
  (w.alloc (.cells (bytesRow c cap) t fr)).drew.cell? ⟨w.heap.size,j,none⟩=some (.int .u8 ((gb c.data.toList j).toNat:Int)):=by
 have hb:(w.alloc (.cells (bytesRow c cap) t fr)).heap[w.heap.size]?=some (.cells (bytesRow c cap) t fr):=World.alloc_heap_new w _;have h1:j<c.data.size:=hj;show (w.alloc (.cells (bytesRow c cap) t fr)).cell? ⟨w.heap.size,j,none⟩=_;rw[cell_of_row _ _ _ _ _ _ hb];unfold bytesRow gb;rw[Array.getElem?_append,if_pos (by rw[Array.size_map];exact h1),Array.getElem?_map,Array.getElem?_toList,Array.getElem?_eq_getElem h1]
 rfl
theorem gb_extract(s:ByteArray){lo hi j:Nat}(h:lo+j<hi)(h2:hi≤s.size):gb (s.extract lo hi).data.toList j=gb s.data.toList (lo+j):=by
 unfold gb
 congr 1
 rw[ByteArray.data_extract];simp only[Array.getElem?_toList,Array.getElem?_extract];rw[if_pos (by have:s.data.size=s.size:=rfl;omega)]
theorem read_any(s:ByteArray)(w:World)(hs:s.size≤4294967296)(h0:0<s.size)(hd:s.data.toList.all isDig=true) :
  Calls Tryz.prog 114 #[.string s] w (GiveN w (valS s.data.toList)):=by
 obtain⟨n,hn⟩:∃n,n=(s.size+8) / 9:=⟨_,rfl⟩;have HD:=zh hd;clear hd;have hn1:((s.size:Int)+9-1) / 9=(n:Int):=by omega
 have hn2:9*n≤s.size+8:=by omega
 have hn3:s.size≤9*n:=by omega
 clear hn;have hcv:=fun w s=>run_bytes_of_string (P:=Tryz.prog) w 9 89 5 s Tryz.underlying9 Tryz.underlying89 Tryz.underlying5;go_enter Tryz.func114,Tryz.ntmps114;go_wp2_with (at_make;refine wpList_make_limbs _ rfl _ _ rfl _ _ _ _ n rfl rfl (by omega) (by omega) (by omega) ?_;intro w1 hmade);clear hn1
 go_loopw [16] (fun i wr=>∃ (k:Nat) (zs:List Nat),k≤n∧i=.int .i64 k∧RdRel s.data.toList n zs k∧Arr wr w.heap.size 0 zs∧Free wr w.heap.size 0 n∧w1.heap.size≤wr.heap.size∧Below w.heap.size w wr) (fun i _=>n-(intOf i).toNat)
 case atStart=>exact⟨0,_,Nat.zero_le _,rfl,RdRel.start _ n,hmade.arr,hmade.free,Nat.le_refl _,hmade.below⟩
 case round =>
  obtain⟨k,zs,hk,rfl,hr,haz,hfz,hsz,hbw⟩:=hrel;by_cases hlt:k<n
  ·obtain⟨lo,hlo⟩:∃lo,lo=s.size-(9*k+9):=⟨_,rfl⟩;obtain⟨hi,hhi⟩:∃hi,hi=s.size-9*k:=⟨_,rfl⟩;have hcase:(0<(s.size:Int)-(k:Int)*9-9∧((s.size:Int)-(k:Int)*9-9).toNat=lo)∨((s.size:Int)-(k:Int)*9-9≤0∧lo=0):=by omega
   have q3:((s.size:Int)-(k:Int)*9).toNat=hi:=by omega
   have q4:lo<hi:=by omega
   have q5:hi≤s.size:=by omega
   obtain⟨m,hm⟩:∃m,hi-lo=m:=⟨_,rfl⟩;have q6:m≤9:=by omega
   have q9:lo+m≤s.size:=by omega
   have q7:0≤(s.size:Int)-(k:Int)*9:=by omega
   have q8:9*k≤s.size:=by omega
   have hst:=hr.step (lo:=lo) (m:=m) HD.out hlt hlo (by show m=s.size-9*k-lo;omega) q8;have HST:=zh hst;clear hst hlo hhi;have hkz:=hr.2.2.2 k (Nat.le_refl k);have hzl:=hr.1;have HKZ:=zh hkz;have HZL:=zh hzl;clear hkz hzl
   have hN:=hmade.size;have hNw:w.heap.size<wr.heap.size:=by omega
   clear hN;have hcs:(s.extract lo hi).size=m:=by rw[ByteArray.size_extract];omega
   have hcb:∀j,j<m→gb (s.extract lo hi).data.toList j=gb s.data.toList (lo+j):=fun j hj=>gb_extract s (by omega) q5;have hdg:∀j,j<m→48≤(gb s.data.toList (lo+j)).toNat∧(gb s.data.toList (lo+j)).toNat≤57:=fun j hj=>gb_dig HD.out (by show lo+j<s.size;omega);have hx9:∀j,valS (((s.data.toList.drop lo).take m).take j)<1000000000:=fun j=>valS_lt9 (all_take (all_take (all_drop HD.out _) _) _) (by rw[List.length_take,List.length_take];omega);have hvs:∀j,j<m→valS (((s.data.toList.drop lo).take m).take (j+1))=valS (((s.data.toList.drop lo).take m).take j)*10+((gb s.data.toList (lo+j)).toNat-48):=fun j hj=>valS_take_succ _ hj (by show lo+j<s.size;omega);have hv0:valS (((s.data.toList.drop lo).take m).take 0)=0:=by rw[List.take_zero];rfl
   have hvm:((s.data.toList.drop lo).take m).take m=(s.data.toList.drop lo).take m:=by rw[List.take_take,Nat.min_self]
   rw[←hvm]at HST;have HCS:=zh hcs;have HCB:=zh hcb;have HDG:=zh hdg;have HX9:=zh hx9;have HVS:=zh hvs;have HV0:=zh hv0
   have hmn:min hi s.size=hi:=Nat.min_eq_left q5;clear hcs hcb hdg hx9 hvs hv0 hvm q5 q8;have hinner:∀jj,jj=0→True:=fun _ _=>trivial;clear hinner;generalize hX:(fun j=>valS (((s.data.toList.drop lo).take m).take j))=X at *;have hXe:∀j,valS (((s.data.toList.drop lo).take m).take j)=X j:=fun j=>by rw[←hX]
   rw[hXe]at HST HV0;simp only[hXe]at HX9 HVS;clear hX hXe;have hgo:∃ (c:ByteArray) (lo2:Nat),lo2=lo∧c.size=m∧∀j,j<m→gb c.data.toList j=gb s.data.toList (lo+j):=⟨_,lo,rfl,HCS.out,HCB.out⟩;clear hgo;rcases hcase with ⟨q1,q2⟩|⟨q1,q2⟩
   ·go_wp2
    generalize s.extract lo hi=c at *;generalize grownCap wr m 0 5=cap;clear q1 q2 q3 q7 hcv hm;obtain⟨Wc,hWc⟩:∃Wc,(wr.alloc (.cells (bytesRow c cap) 5 ((bytesRow c cap).size,(bytesRow c cap).size+1))).drew=Wc:=⟨_,rfl⟩;rw[hWc];have hby:∀j,j<m→Wc.cell? ⟨wr.heap.size,j,none⟩=some (.int .u8 ((gb s.data.toList (lo+j)).toNat:Int)):=fun j hj=>by
     rw[←hWc,← HCB.out j hj];exact bytes_new wr c cap _ _ j (by rw[HCS.out];exact hj)
    have hbc:Below wr.heap.size wr Wc:=by rw[←hWc];exact((Below.refl _ wr).alloc (Nat.le_refl _) _).drew
    have hwc1:wr.heap.size<Wc.heap.size:=by rw[←hWc];show wr.heap.size<(wr.alloc _).heap.size;simp
    clear hWc HCB HCS;have hazc:Arr Wc w.heap.size 0 (zs.set k (X 0)):=fun j hj=>by
     rw[List.length_set]at hj;rw[(haz.below hbc hNw) j hj];by_cases e:k=j
     ·subst e;rw[gl_set_same hj,HV0.out,HKZ.out]
     ·rw[gl_set_other e]
    have hfzc:Free Wc w.heap.size 0 n:=hfz.below hbc hNw;have hbwc:Below w.heap.size w Wc:=hbw.trans (hbc.mono (by omega));clear haz hfz hbc hbw;generalize wr.heap.size=G at *
    go_loopw [32] (fun j W=>∃jj:Nat,jj≤m∧j=.int .i64 jj∧Arr W w.heap.size 0 (zs.set k (X jj))∧Wr Wc W w.heap.size 0 n) (fun j _=>m-(intOf j).toNat)
    case atStart=>exact⟨0,Nat.zero_le _,rfl,hazc,Wr.refl _ _ _ _⟩
    case round =>
     obtain⟨jj,hjj,rfl,hA,hw⟩:=hrel;have hA0:=hA k (by rw[List.length_set,HZL.out];exact hlt);have hF0:=hw.free hfzc k hlt;rw[Nat.zero_add]at hA0 hF0;rw[gl_set_same (by rw[HZL.out];exact hlt)]at hA0;by_cases hj2:jj<m
     ·have hby2:=(hw.far (k:=G) (by omega) jj).trans (hby jj hj2);obtain⟨d1,d2⟩:=HDG.out jj hj2;have hx:=HX9.out jj;have hst2:=hA.set (k:=k) (by rw[List.length_set,HZL.out];exact hlt) (X (jj+1));rw[List.set_set,Nat.zero_add]at hst2;have hv:=HVS.out jj hj2;have hvi:((X (jj+1):Nat):Int)=(X jj:Int)*10+(((gb s.data.toList (lo+jj)).toNat:Int)-48):=by omega
      rw[hvi]at hst2;have HS2:=zh hst2;clear hst2 hv hvi
      go_wp2
      go_roundw
      case rel=>exact⟨jj+1,by omega,by go_num,HS2.out,hw.set _ (by omega) (by omega)⟩
      case measure=>simp[intOf];omega
     ·obtain rfl:jj=m:=by omega
      go_wp2
      go_roundw
      case rel=>exact⟨k+1,_,by omega,by go_num,HST.out,hA,hw.free hfzc,by rw[hw.size];omega,hbwc.trans (hw.below (Nat.le_refl _) hbwc.size)⟩
      case measure=>simp[intOf];omega
   ·subst q2;have hm0:hi=m:=by omega
    have hmn0:min m s.size=m:=by rw[←hm0];exact hmn
    subst hm0;rw[Nat.sub_zero]at hm;clear hm hmn
    go_wp2
    generalize s.extract 0 hi=c at *;generalize grownCap wr hi 0 5=cap;clear q1 q3 q7 hcv;obtain⟨Wc,hWc⟩:∃Wc,(wr.alloc (.cells (bytesRow c cap) 5 ((bytesRow c cap).size,(bytesRow c cap).size+1))).drew=Wc:=⟨_,rfl⟩;rw[hWc];have hby:∀j,j<hi→Wc.cell? ⟨wr.heap.size,j,none⟩=some (.int .u8 ((gb s.data.toList (0+j)).toNat:Int)):=fun j hj=>by
     rw[←hWc,← HCB.out j hj];exact bytes_new wr c cap _ _ j (by rw[HCS.out];exact hj)
    have hbc:Below wr.heap.size wr Wc:=by rw[←hWc];exact((Below.refl _ wr).alloc (Nat.le_refl _) _).drew
    have hwc1:wr.heap.size<Wc.heap.size:=by rw[←hWc];show wr.heap.size<(wr.alloc _).heap.size;simp
    clear hWc HCB HCS;have hazc:Arr Wc w.heap.size 0 (zs.set k (X 0)):=fun j hj=>by
     rw[List.length_set]at hj;rw[(haz.below hbc hNw) j hj];by_cases e:k=j
     ·subst e;rw[gl_set_same hj,HV0.out,HKZ.out]
     ·rw[gl_set_other e]
    have hfzc:Free Wc w.heap.size 0 n:=hfz.below hbc hNw;have hbwc:Below w.heap.size w Wc:=hbw.trans (hbc.mono (by omega));clear haz hfz hbc hbw;generalize wr.heap.size=G at *
    go_loopw [32] (fun j W=>∃jj:Nat,jj≤hi∧j=.int .i64 jj∧Arr W w.heap.size 0 (zs.set k (X jj))∧Wr Wc W w.heap.size 0 n) (fun j _=>hi-(intOf j).toNat)
    case atStart=>exact⟨0,Nat.zero_le _,rfl,hazc,Wr.refl _ _ _ _⟩
    case round =>
     obtain⟨jj,hjj,rfl,hA,hw⟩:=hrel;have hA0:=hA k (by rw[List.length_set,HZL.out];exact hlt);have hF0:=hw.free hfzc k hlt;rw[Nat.zero_add]at hA0 hF0;rw[gl_set_same (by rw[HZL.out];exact hlt)]at hA0;by_cases hj2:jj<hi
     ·have hby2:=(hw.far (k:=G) (by omega) jj).trans (hby jj hj2);obtain⟨d1,d2⟩:=HDG.out jj hj2;have hx:=HX9.out jj;have hst2:=hA.set (k:=k) (by rw[List.length_set,HZL.out];exact hlt) (X (jj+1));rw[List.set_set,Nat.zero_add]at hst2;have hv:=HVS.out jj hj2;have hvi:((X (jj+1):Nat):Int)=(X jj:Int)*10+(((gb s.data.toList (0+jj)).toNat:Int)-48):=by omega
      rw[Nat.zero_add]at hvi hby2 d1 d2;rw[hvi]at hst2;have HS2:=zh hst2;clear hst2 hv hvi
      go_wp2
      go_roundw
      case rel=>exact⟨jj+1,by omega,by go_num,HS2.out,hw.set _ (by omega) (by omega)⟩
      case measure=>simp[intOf];omega
     ·obtain rfl:jj=hi:=by omega
      go_wp2
      go_roundw
      case rel=>exact⟨k+1,_,by omega,by go_num,HST.out,hA,hw.free hfzc,by rw[hw.size];omega,hbwc.trans (hw.below (Nat.le_refl _) hbwc.size)⟩
      case measure=>simp[intOf];omega
  ·obtain rfl:k=n:=by omega
   have hd2:=hr.done (by show s.size≤_;omega);have HDN:=zh hd2;clear hd2;have hsz2:w.heap.size<wr.heap.size:=by have:=hmade.size;omega
   go_wp2_with (go_at_call 138;refine(trim_any w.heap.size 0 k k zs _ HDN.out.1 HDN.out.2.1 (by omega) (by omega) hsz2 haz).mono ?_;rintro e w2 ⟨v,rfl,hv,hbl⟩);go_ret;exact⟨v,rfl,by rw[←HDN.out.2.2];exact hv,hbw.trans (hbl.mono hbw.size)⟩
end Go.Proofs.YthgopcnagecbaaaGreatDoor
