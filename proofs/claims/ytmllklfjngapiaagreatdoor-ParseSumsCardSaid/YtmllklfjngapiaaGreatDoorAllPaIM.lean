/- Own work. -/
import Derived.Test.YtmllklfjngapiaaGreatDoorAllPaG
set_option linter.unusedSimpArgs false
set_option linter.unusedVariables false
set_option maxHeartbeats 4000000
set_option maxRecDepth 100000
namespace Go.Proofs.YtmllklfjngapiaaGreatDoor
open Go.RowKit
open Wd (Tk okT ktT)
open Tm (Nd plainN arI arN)
open Pz (Wt tgt settleF)
open Pz (sg)
variable {R : Nat} {Z : List Nat} {p : Option Addr} {c : Nat} {mv wv ov : Value} {l : List Tk} {k d : Nat} {K : List Wt} {t : List Nd} {w : World}
theorem RdS.frz{b n cap:Nat}(h:RdS R Z p c mv l k d K t (.slice (some ⟨b,0,none⟩) n cap) ov w)(j:Nat):w.frozen? ⟨b,j,none⟩=false:=by
 have hn:n=K.reverse.length:=by
  obtain⟨q,cc,e,_⟩:=ownG_rows (enc:=encW) (k:=2) (fun _=>rfl) h.own1;injection e
 have h1:World.ownsRow w (R+1) 108 2 (.slice (some ⟨b,0,none⟩) n cap) n (K.reverse.flatMap encW):=by
  have k:=h.own1;unfold OwnG at k;rw[←hn]at k;exact k
 exact h1.frozenAt j
theorem RdS.comma{op:Int}{cm b n cap:Nat}{K1:List Wt}(h:RdS R Z p c mv l k d ((op,cm+1)::K1) t (.slice (some ⟨b,0,none⟩) n cap) ov w) :
  RdS R Z p c mv l k d ((op,cm)::K1) t (.slice (some ⟨b,0,none⟩) n cap) ov (w.setCell ⟨b,K1.length*2+1,none⟩ (.int .i64 (cm:Int)))∧Kept R Z w (w.setCell ⟨b,K1.length*2+1,none⟩ (.int .i64 (cm:Int))):=by
 have hb:=own_lt h.own1 b rfl;have hs:=h.sep b rfl;have r2:WrB [b] w (w.setCell ⟨b,K1.length*2+1,none⟩ (.int .i64 (cm:Int))):=WrB.of_set w b _ _ List.mem_cons_self;have hn:n=((op,cm+1)::K1).reverse.length:=by
  obtain⟨q,cc,e,_⟩:=ownG_rows (enc:=encW) (k:=2) (fun _=>rfl) h.own1;injection e
 have h1:World.ownsRow w (R+1) 108 2 (.slice (some ⟨b,0,none⟩) n cap) n (((op,cm+1)::K1).reverse.flatMap encW):=by
  have k:=h.own1;unfold OwnG at k;rw[←hn]at k;exact k
 have h2:=(h1.stored (K1.length*2+1) (.int .i64 (cm:Int))).1;have e:(((op,cm+1)::K1).reverse.flatMap encW).set (K1.length*2+1) (.int .i64 (cm:Int))=((op,cm)::K1).reverse.flatMap encW:=by
  rw[List.reverse_cons,List.reverse_cons,List.flatMap_append,List.flatMap_append];have hl:(K1.reverse.flatMap encW).length=K1.length*2:=by rw[flat_len (enc:=encW) (k:=2) (fun _=>rfl),List.length_reverse]
  rw[List.set_append_right _ _ (by omega),hl,show K1.length*2+1-K1.length*2=1 by omega]
  rfl
 rw[e]at h2;have h3:OwnG encW 2 108 (R+1) (w.setCell ⟨b,K1.length*2+1,none⟩ (.int .i64 (cm:Int))) (.slice (some ⟨b,0,none⟩) n cap) ((op,cm)::K1).reverse:=by
  unfold OwnG;rw[show ((op,cm)::K1).reverse.length=n by rw[hn,List.length_reverse,List.length_reverse];rfl];exact h2
 refine⟨⟨h.blk.wr r2 (fun c=>by have:=List.mem_singleton.1 c;omega),h3,h.own2.wr r2 (fun g e c=>by have:=List.mem_singleton.1 c;subst this;exact hs.1 e),h.sep,h.sep2,fun z e=>by rw[size_setCell];exact h.zlt z e,h.rz⟩,
  Kept.wr r2 (fun x c=>by have:=List.mem_singleton.1 c;subst this;exact⟨by omega,hs.2⟩) h.zlt (Nat.le_of_lt h.blk.lt)⟩
theorem ppart_nil(h:RdS R Z p c mv l k d [] t wv ov w):Calls Tryz.prog 49 #[.pointer (some ⟨R,0,none⟩)] w (GiveB w false):=by
 obtain⟨q,cap,rfl,hcap,_,_⟩:=h.row1;have c3:=h.blk.c 3 _ rfl;clear h;go_enter Tryz.func49,Tryz.ntmps49;go_wp2_with fail;go_ret;exact⟨rfl,Below.refl _ _⟩
theorem ppart_not(op:Int)(cm:Nat)(K1:List Wt)(h:RdS R Z p c mv l k d ((op,cm)::K1) t wv ov w)(hK:K1.length≤1000000)(hc:cm=0):Calls Tryz.prog 49 #[.pointer (some ⟨R,0,none⟩)] w (GiveB w false):=by
 obtain⟨q,cap,rfl,hcap,_,_⟩:=h.row1;have c3:=h.blk.c 3 _ rfl;obtain⟨b,rfl,hb,d0,d1⟩:=h.wait_at (pre:=[]) rfl rfl;have hop:((op,cm)::K1:List Wt).length=K1.length+1:=rfl;rw[hop]at c3 hcap;have hwr:wrap64 (((K1.length+1:Nat):Int)-1)=(K1.length:Int):=by rw[IntWalk.wrap64_in _ ⟨by omega,by omega⟩];omega
 have hwr':wrap64 ((K1.length:Int)+1-1)=(K1.length:Int):=by rw[IntWalk.wrap64_in _ ⟨by omega,by omega⟩];omega
 have hlt:(K1.length:Int)<((K1.length+1:Nat):Int):=by omega
 have hz1:((cm:Int)==0)=true:=by rw[hc];rfl
 have hz2:(cm==0)=true:=by rw[hc];rfl
 have hz3:¬(0:Int)<(cm:Int):=by omega
 clear h hop;go_enter Tryz.func49,Tryz.ntmps49;go_wp2_with fail;go_ret;exact⟨rfl,Below.refl _ _⟩
theorem ppart_else(op:Int)(cm:Nat)(K1:List Wt)(h:RdS R Z p c mv l k d ((op,cm)::K1) t wv ov w)(E:PEn R p l w)(hk:k≤l.length)(hK:K1.length≤1000000)(hc:cm≠0)(hs:sg [44] (rsK l k)=none) :
  Calls Tryz.prog 49 #[.pointer (some ⟨R,0,none⟩)] w (RdG R Z p c mv l k d ((op,cm)::K1) t w (.bool false)):=by
 obtain⟨q,cap,rfl,hcap,_,_⟩:=h.row1;have c3:=h.blk.c 3 _ rfl;obtain⟨b,rfl,hb,d0,d1⟩:=h.wait_at (pre:=[]) rfl rfl;have hop:((op,cm)::K1:List Wt).length=K1.length+1:=rfl;rw[hop]at c3 hcap;have hwr:wrap64 (((K1.length+1:Nat):Int)-1)=(K1.length:Int):=by rw[IntWalk.wrap64_in _ ⟨by omega,by omega⟩];omega
 have hwr':wrap64 ((K1.length:Int)+1-1)=(K1.length:Int):=by rw[IntWalk.wrap64_in _ ⟨by omega,by omega⟩];omega
 have hlt:(K1.length:Int)<((K1.length+1:Nat):Int):=by omega
 have hz1:((cm:Int)==0)=false:=beq_false_of_ne (by omega);have hz2:(cm==0)=false:=beq_false_of_ne hc;have hz3:(0:Int)<(cm:Int):=by omega
 have CT:=zh (ptake_sign h E hk 44 rfl);rw[hs]at CT;clear h E hop hs;go_enter Tryz.func49,Tryz.ntmps49;go_wp2_with fail;refine(ksign_any ⟨#[44]⟩ _).mono ?_;rintro r w1 ⟨rfl,rfl⟩;go_wp2_with fail;refine CT.out.mono ?_;rintro r w3 ⟨rfl,h3,k3,_⟩;have HR:=zh h3;have HKp:=zh k3;clear h3 k3 CT;go_wp2_with fail;go_ret;exact⟨_,_,rfl,HR.out,HKp.out⟩
theorem pend_nil(h:RdS R Z p c mv l k d [] t wv ov w):Calls Tryz.prog 50 #[.pointer (some ⟨R,0,none⟩)] w (GiveB w false):=by
 obtain⟨q,cap,rfl,hcap,_,_⟩:=h.row1;have c3:=h.blk.c 3 _ rfl;clear h;go_enter Tryz.func50,Tryz.ntmps50;go_wp2_with fail;go_ret;exact⟨rfl,Below.refl _ _⟩
theorem pend_not(op:Int)(cm:Nat)(K1:List Wt)(h:RdS R Z p c mv l k d ((op,cm)::K1) t wv ov w)(hK:K1.length≤1000000)(hc:cm≠0):Calls Tryz.prog 50 #[.pointer (some ⟨R,0,none⟩)] w (GiveB w false):=by
 obtain⟨q,cap,rfl,hcap,_,_⟩:=h.row1;have c3:=h.blk.c 3 _ rfl;obtain⟨b,rfl,hb,d0,d1⟩:=h.wait_at (pre:=[]) rfl rfl;have hop:((op,cm)::K1:List Wt).length=K1.length+1:=rfl;rw[hop]at c3 hcap;have hwr:wrap64 (((K1.length+1:Nat):Int)-1)=(K1.length:Int):=by rw[IntWalk.wrap64_in _ ⟨by omega,by omega⟩];omega
 have hwr':wrap64 ((K1.length:Int)+1-1)=(K1.length:Int):=by rw[IntWalk.wrap64_in _ ⟨by omega,by omega⟩];omega
 have hlt:(K1.length:Int)<((K1.length+1:Nat):Int):=by omega
 have hz1:((cm:Int)==0)=false:=beq_false_of_ne (by omega);have hz2:(cm==0)=false:=beq_false_of_ne hc;have hz3:(0:Int)<(cm:Int):=by omega
 clear h hop;go_enter Tryz.func50,Tryz.ntmps50;go_wp2_with fail;go_ret;exact⟨rfl,Below.refl _ _⟩
theorem pend_else(op:Int)(cm:Nat)(K1:List Wt)(h:RdS R Z p c mv l k d ((op,cm)::K1) t wv ov w)(E:PEn R p l w)(hk:k≤l.length)(hK:K1.length≤1000000)(hc:cm=0)(hs:sg [41] (rsK l k)=none) :
  Calls Tryz.prog 50 #[.pointer (some ⟨R,0,none⟩)] w (RdG R Z p c mv l k d ((op,cm)::K1) t w (.bool false)):=by
 obtain⟨q,cap,rfl,hcap,_,_⟩:=h.row1;have c3:=h.blk.c 3 _ rfl;obtain⟨b,rfl,hb,d0,d1⟩:=h.wait_at (pre:=[]) rfl rfl;have hop:((op,cm)::K1:List Wt).length=K1.length+1:=rfl;rw[hop]at c3 hcap;have hwr:wrap64 (((K1.length+1:Nat):Int)-1)=(K1.length:Int):=by rw[IntWalk.wrap64_in _ ⟨by omega,by omega⟩];omega
 have hwr':wrap64 ((K1.length:Int)+1-1)=(K1.length:Int):=by rw[IntWalk.wrap64_in _ ⟨by omega,by omega⟩];omega
 have hlt:(K1.length:Int)<((K1.length+1:Nat):Int):=by omega
 have hz1:((cm:Int)==0)=true:=by rw[hc];rfl
 have hz2:(cm==0)=true:=by rw[hc];rfl
 have hz3:¬(0:Int)<(cm:Int):=by omega
 have CT:=zh (ptake_sign h E hk 41 rfl);rw[hs]at CT;clear h E hop hs;go_enter Tryz.func50,Tryz.ntmps50;go_wp2_with fail;refine(ksign_any ⟨#[41]⟩ _).mono ?_;rintro r w1 ⟨rfl,rfl⟩;go_wp2_with fail;refine CT.out.mono ?_;rintro r w3 ⟨rfl,h3,k3,_⟩;have HR:=zh h3;have HKp:=zh k3;clear h3 k3 CT;go_wp2_with fail;go_ret;exact⟨_,_,rfl,HR.out,HKp.out⟩
theorem ppart_yes(op:Int)(cm:Nat)(K1:List Wt)(h:RdS R Z p c mv l k d ((op,cm+1)::K1) t wv ov w)(E:PEn R p l w)(hk:k≤l.length)(hK:K1.length≤1000000)(hcm:cm≤100)(hs:(sg [44] (rsK l k)).isSome=true) :
  Calls Tryz.prog 49 #[.pointer (some ⟨R,0,none⟩)] w (RdG R Z p c mv l (k+1) d ((op,cm)::K1) t w (.bool true)):=by
 obtain⟨q,cap,rfl,hcap,_,_⟩:=h.row1;have c3:=h.blk.c 3 _ rfl;obtain⟨b,rfl,hb,d0,d1⟩:=h.wait_at (pre:=[]) rfl rfl;have hop:((op,cm+1)::K1:List Wt).length=K1.length+1:=rfl;rw[hop]at c3 hcap;have hwr:wrap64 (((K1.length+1:Nat):Int)-1)=(K1.length:Int):=by rw[IntWalk.wrap64_in _ ⟨by omega,by omega⟩];omega
 have hwr':wrap64 ((K1.length:Int)+1-1)=(K1.length:Int):=by rw[IntWalk.wrap64_in _ ⟨by omega,by omega⟩];omega
 have hlt:(K1.length:Int)<((K1.length+1:Nat):Int):=by omega
 have hz1:(((cm+1:Nat):Int)==0)=false:=beq_false_of_ne (by omega);have hz1':(((cm:Int)+1)==0)=false:=beq_false_of_ne (by omega);have hz2:(cm+1==0)=false:=rfl;have CT:=zh (ptake_sign h E hk 44 rfl);rw[hs]at CT;clear h E hop hs;go_enter Tryz.func49,Tryz.ntmps49;go_wp2_with fail;refine(ksign_any ⟨#[44]⟩ _).mono ?_;rintro r w1 ⟨rfl,rfl⟩;go_wp2_with fail;refine CT.out.mono ?_;rintro r w3 ⟨rfl,h3,k3,_⟩;clear CT c3 d0 d1;have h3:RdS R Z p c mv l (k+1) d ((op,cm+1)::K1) t (.slice (some ⟨b,0,none⟩) ((op,cm+1)::K1).length cap) ov w3:=h3;obtain⟨b',e',hb3,d0,d1⟩:=h3.wait_at (pre:=[]) rfl rfl;injection e' with e'
 injection e' with e'
 subst e';have c3:=h3.blk.c 3 _ rfl;have d1:w3.cell? ⟨b,K1.length*2+1,none⟩=some (.int .i64 ((cm:Int)+1)):=d1;have f1:w3.frozen? ⟨b,K1.length*2+1,none⟩=false:=h3.frz _;have hw5:wrap64 ((cm:Int)+1-1)=(cm:Int):=by rw[IntWalk.wrap64_in _ ⟨by omega,by omega⟩];omega
 have hO:=h3.comma;have HR:=zh hO.1;have HKp:=zh (k3.trans hO.2);clear h3 k3 hO;go_wp2_with fail;go_ret;exact⟨_,_,rfl,HR.out,HKp.out⟩
theorem pend_grp(op:Int)(K1:List Wt)(h:RdS R Z p c mv l k (d+1) ((op,0)::K1) t wv ov w)(E:PEn R p l w)(hk:k≤l.length)(hK:K1.length≤1000000)(hd:d≤1000000)(ht:t.length≤2000000)(hs:(sg [41] (rsK l k)).isSome=true)(ho:op=13) :
  Calls Tryz.prog 50 #[.pointer (some ⟨R,0,none⟩)] w (RdG R Z p c mv l (k+1) d K1 t w (.bool true)):=by
 obtain⟨q,cap,rfl,hcap,_,_⟩:=h.row1;have c3:=h.blk.c 3 _ rfl;obtain⟨b,rfl,hb,d0,d1⟩:=h.wait_at (pre:=[]) rfl rfl;have hop:((op,0)::K1:List Wt).length=K1.length+1:=rfl;rw[hop]at c3 hcap;have hwr:wrap64 (((K1.length+1:Nat):Int)-1)=(K1.length:Int):=by rw[IntWalk.wrap64_in _ ⟨by omega,by omega⟩];omega
 have hwr':wrap64 ((K1.length:Int)+1-1)=(K1.length:Int):=by rw[IntWalk.wrap64_in _ ⟨by omega,by omega⟩];omega
 have hlt:(K1.length:Int)<((K1.length+1:Nat):Int):=by omega
 have CT:=zh (ptake_sign h E hk 41 rfl);rw[hs]at CT;clear h E hop hs;go_enter Tryz.func50,Tryz.ntmps50;go_wp2_with fail;refine(ksign_any ⟨#[41]⟩ _).mono ?_;rintro r w1 ⟨rfl,rfl⟩;go_wp2_with fail;refine CT.out.mono ?_;rintro r w3 ⟨rfl,h3,k3,_⟩;clear CT c3 d0 d1;have h3:RdS R Z p c mv l (k+1) (d+1) ((op,0)::K1) t (.slice (some ⟨b,0,none⟩) ((op,0)::K1).length cap) ov w3:=h3;have h13:(op==13)=true:=by rw[ho];rfl
 obtain⟨b',e',hb3,d0,_⟩:=h3.wait_at (pre:=[]) rfl rfl;injection e' with e'
 injection e' with e'
 subst e';have d0:w3.cell? ⟨b,K1.length*2,none⟩=some (.int .i64 op):=d0;have c3:=h3.blk.c 3 _ rfl;have f3:=h3.blk.f 3 (by simp);have hO:=cut_row (pre:=[(op,0)]) (K3:=K1) h3;have c4:=hO.1.blk.c 4 _ rfl;have f4:=hO.1.blk.f 4 (by simp);have hO2:=hO.1.opens d;have hw5:wrap64 (((d+1:Nat):Int)-1)=(d:Int):=by rw[IntWalk.wrap64_in _ ⟨by omega,by omega⟩];omega
 have hw6:wrap64 ((d:Int)+1-1)=(d:Int):=by rw[IntWalk.wrap64_in _ ⟨by omega,by omega⟩];omega
 have hcap2:(K1.length:Int)≤(cap:Int):=by omega
 have HR:=zh hO2.1;have HKp:=zh (k3.trans (hO.2.trans hO2.2));clear h3 k3 hO hO2;go_wp2_with fail;go_ret;exact⟨_,_,rfl,HR.out,HKp.out⟩
theorem pend_op(op:Int)(K1:List Wt)(h:RdS R Z p c mv l k (d+1) ((op,0)::K1) t wv ov w)(E:PEn R p l w)(hk:k≤l.length)(hK:K1.length≤1000000)(hd:d≤1000000)(ht:t.length≤2000000)(hs:(sg [41] (rsK l k)).isSome=true)(ho:¬op=13) :
  Calls Tryz.prog 50 #[.pointer (some ⟨R,0,none⟩)] w (RdG R Z p c mv l (k+1) d K1 (t++[plainN op]) w (.bool true)):=by
 obtain⟨q,cap,rfl,hcap,_,_⟩:=h.row1;have c3:=h.blk.c 3 _ rfl;obtain⟨b,rfl,hb,d0,d1⟩:=h.wait_at (pre:=[]) rfl rfl;have hop:((op,0)::K1:List Wt).length=K1.length+1:=rfl;rw[hop]at c3 hcap;have hwr:wrap64 (((K1.length+1:Nat):Int)-1)=(K1.length:Int):=by rw[IntWalk.wrap64_in _ ⟨by omega,by omega⟩];omega
 have hwr':wrap64 ((K1.length:Int)+1-1)=(K1.length:Int):=by rw[IntWalk.wrap64_in _ ⟨by omega,by omega⟩];omega
 have hlt:(K1.length:Int)<((K1.length+1:Nat):Int):=by omega
 have CT:=zh (ptake_sign h E hk 41 rfl);rw[hs]at CT;clear h E hop hs;go_enter Tryz.func50,Tryz.ntmps50;go_wp2_with fail;refine(ksign_any ⟨#[41]⟩ _).mono ?_;rintro r w1 ⟨rfl,rfl⟩;go_wp2_with fail;refine CT.out.mono ?_;rintro r w3 ⟨rfl,h3,k3,_⟩;clear CT c3 d0 d1;have h3:RdS R Z p c mv l (k+1) (d+1) ((op,0)::K1) t (.slice (some ⟨b,0,none⟩) ((op,0)::K1).length cap) ov w3:=h3;have h13:(op==13)=false:=beq_false_of_ne ho;obtain⟨b',e',hb3,d0,_⟩:=h3.wait_at (pre:=[]) rfl rfl;injection e' with e'
 injection e' with e'
 subst e';have d0:w3.cell? ⟨b,K1.length*2,none⟩=some (.int .i64 op):=d0;have c3:=h3.blk.c 3 _ rfl;have f3:=h3.blk.f 3 (by simp);have CL:=zh (play_any (plainN op) h3 ht);have HK3:=zh k3;clear h3 k3;go_wp2_with fail;refine CL.out.mono ?_;rintro r w4 ⟨ov',rfl,h4,k4⟩;clear CL c3 d0;have c3:=h4.blk.c 3 _ rfl;have f3:=h4.blk.f 3 (by simp);have hO:=cut_row (pre:=[(op,0)]) (K3:=K1) h4;have c4:=hO.1.blk.c 4 _ rfl;have f4:=hO.1.blk.f 4 (by simp);have hO2:=hO.1.opens d;have hw5:wrap64 (((d+1:Nat):Int)-1)=(d:Int):=by rw[IntWalk.wrap64_in _ ⟨by omega,by omega⟩];omega
 have hw6:wrap64 ((d:Int)+1-1)=(d:Int):=by rw[IntWalk.wrap64_in _ ⟨by omega,by omega⟩];omega
 have hcap2:(K1.length:Int)≤(cap:Int):=by omega
 have HR:=zh hO2.1;have HKp:=zh ((HK3.out.trans k4).trans (hO.2.trans hO2.2));clear h4 k4 hO hO2;go_wp2_with fail;go_ret;exact⟨_,_,rfl,HR.out,HKp.out⟩
end Go.Proofs.YtmllklfjngapiaaGreatDoor
set_option maxHeartbeats 4000000
set_option maxRecDepth 100000
namespace Go.Proofs.YtmllklfjngapiaaGreatDoor
open Go.RowKit
open Wd (Tk okT ktT)
open Tm (Nd plainN arI arN)
open Pz (Wt tgt settleF)
open Pz (placeT)
variable {R : Nat} {Z : List Nat} {p : Option Addr} {c : Nat} {mv wv ov : Value} {l : List Tk} {k d : Nat} {K : List Wt} {t : List Nd} {w : World}
def GiveNN(w:World)(q:Nat×Nat)(r:Ending)(w':World):Prop:=r=.returned (.tuple #[.int .i64 (q.1:Int),.int .i64 (q.2:Int)])∧Below w.heap.size w w'
theorem placeT_at{t0:Tk}(h:l[k]?=some t0):placeT l k=(t0.line,t0.col):=by
 unfold placeT;rw[h]
theorem placeT_end{t0:Tk}(h:l[k]?=none)(hk:k≤l.length)(h1:l[k-1]?=some t0):placeT l k=(t0.line,t0.col+t0.text.length):=by
 have e:k=l.length:=by have:=List.getElem?_eq_none_iff.1 h;omega
 unfold placeT;rw[h,List.getLast?_eq_getElem?,← e,h1]
theorem placeT_nil:placeT [] k=(1,1):=by
 unfold placeT
 rfl
theorem NxS.below{cs:List Value}{v v':World}(h:NxS R cs p l v)(hb:Below v.heap.size v v'):NxS R cs p l v':=⟨h.1.below hb,h.2.below hb⟩
theorem pplace_at{t0:Tk}(h:RdS R Z p c mv l k d K t wv ov w)(E:PEn R p l w)(hx:l[k]?=some t0):Calls Tryz.prog 18 #[.pointer (some ⟨R,0,none⟩)] w (GiveNN w (placeT l k)):=by
 rw[placeT_at hx];have HS:=zh (show NxS R (rdC p l.length c (k:Int) mv wv (d:Int) ov) p l w from ⟨h.blk,E.tk⟩);obtain⟨b,o,rfl,_,_⟩:=E.tk k t0 hx;have HLow:=zh E.low;have h0:=h.blk.c 0 _ rfl;have h1:=h.blk.c 1 _ rfl;have q0:=fun v (h:NxS R (rdC (some ⟨b,o,none⟩) l.length c (k:Int) mv wv (d:Int) ov) (some ⟨b,o,none⟩) l v)=>h.1.c 0 _ rfl;have q1:=fun v (h:NxS R (rdC (some ⟨b,o,none⟩) l.length c (k:Int) mv wv (d:Int) ov) (some ⟨b,o,none⟩) l v)=>h.1.c 1 _ rfl;have rule:∀ (i:Nat) (x:Value),(encT t0)[i]?=some x→∀v,NxS R (rdC (some ⟨b,o,none⟩) l.length c (k:Int) mv wv (d:Int) ov) (some ⟨b,o,none⟩) l v→v.cell? ⟨b,o+k*4+i,none⟩=some x:=fun i x e v h=>by
  obtain⟨b',o',e',_,cc⟩:=h.2 _ t0 hx
  cases e'
  exact cc i x e
 have r0:=rule 0 _ rfl;have r1:=rule 1 _ rfl;have r2:=rule 2 _ rfl;have r3:=rule 3 _ rfl;rw[Nat.add_zero]at r0;have hlt:k<l.length:=(List.getElem?_eq_some_iff.1 hx).1;have hlt2:(k:Int)<(l.length:Int):=by omega
 clear rule h E hx;go_enter Tryz.func18,Tryz.ntmps18;go_wp2_with fail
 go_quiet (fail)
 go_wp2_with fail;obtain⟨W,hW⟩:∃W,W=w.drewN nq:=⟨_,rfl⟩;rw[←hW];have bW:Below w.heap.size w W:=by rw[hW];exact Below.drewN (Below.refl _ _) _
 clear hW;have hS:=(HS.out.below bW).below (Below.drew (Below.refl W.heap.size W));have ba0:Below W.drew.heap.size W.drew (W.drew.alloc (.cells #[.int .i64 0,.string ⟨#[]⟩,.int .i64 0,.int .i64 0] 73)):=Below.alloc (Below.refl _ _) (Nat.le_refl _) _;have hS1:=hS.below ba0;have kz:=blk_new W #[.int .i64 (t0.kind:Int),.string ⟨t0.text.toArray⟩,.int .i64 (t0.line:Int),.int .i64 (t0.col:Int)] 73;have ba:Below W.heap.size W (W.alloc (.cells #[.int .i64 (t0.kind:Int),.string ⟨t0.text.toArray⟩,.int .i64 (t0.line:Int),.int .i64 (t0.col:Int)] 73)):=Below.alloc (Below.refl _ _) (Nat.le_refl _) _;have hS2:=((HS.out.below bW).below ba).below (Below.drew (Below.refl _ _));have e1:=kz.c 1 _ rfl;have e2:=kz.c 2 _ rfl;have e3:=kz.c 3 _ rfl;have HFin:=zh ((Below.more bW ba).trans (Below.drew (Below.refl _ _)));clear ba ba0 bW;refine wp_region_noPanic ?_;refine wp_region_held_drew (S:=NxS R (rdC (some ⟨b,o,none⟩) l.length c (k:Int) mv wv (d:Int) ov) (some ⟨b,o,none⟩) l) (by kernel_rfl) hS (fun hH0=>?_);refine sch_in [0,1,2,3,4,5,6,7,8,9] ?_
 iterate 10 (refine sch_yes (v:=?_) rfl (by kernel_rfl) (by rfl) ?_ (by assumption) ?_;rotate_left 1;(· (intro w hSw;(try dsimp only at hSw);go_simp<;>(with_reducible rfl)));try simp only[Act.put,qA,qB,qC,qD,qE,qF])
 refine sch_out ?_;refine wpAnyH_ready (rs:=[10]) (by kernel_rfl) (by simp) ?_;refine AllReadyH.cons rfl (fun K' hK'=>?_) (AllReadyH.nil)
 go_simp
 refine hK'.out _ _ hS1 (fun hHa=>?_);clear hK'
 try simp only[Act.put,qA,qB,qC,qD,qE,qF]
 refine wpAnyH_ready (rs:=[11]) (by kernel_rfl) (by simp) ?_;refine AllReadyH.cons rfl (fun K' hK'=>?_) (AllReadyH.nil)
 go_simp
 refine hK'.out _ _ hS2 (fun hHb=>?_);clear hK'
 try simp only[Act.put,qA,qB,qC,qD,qE,qF]
 refine wpAnyH_done (by kernel_rfl) ?_ _;refine NoPanic.normal ?_;clear hH0 hHa hHb hS hS1 hS2 kz h0 h1 q0 q1 r0 r1 r2 r3;go_wp2_with fail
 go_quiet (fail)
 go_wp2_with fail;refine bodyPost_end (v:=.tuple #[.int .i64 ((t0.line:Nat):Int),.int .i64 ((t0.col:Nat):Int)]) (by simp[results,Tryz.results18,go_sem]) rfl ?_;exact⟨rfl,Below.drewN HFin.out _⟩
theorem pplace_end{t0:Tk}(h:RdS R Z p c mv l k d K t wv ov w)(E:PEn R p l w)(hn:l[k]?=none)(hk:k≤l.length)(hx:l[k-1]?=some t0)(hcol:t0.col≤1000000):Calls Tryz.prog 18 #[.pointer (some ⟨R,0,none⟩)] w (GiveNN w (placeT l k)):=by
 rw[placeT_end hn hk hx];have HS:=zh (show NxS R (rdC p l.length c (k:Int) mv wv (d:Int) ov) p l w from ⟨h.blk,E.tk⟩);obtain⟨b,o,rfl,_,_⟩:=E.tk (k-1) t0 hx;have HLow:=zh E.low;have h0:=h.blk.c 0 _ rfl;have h1:=h.blk.c 1 _ rfl;have q0:=fun v (h:NxS R (rdC (some ⟨b,o,none⟩) l.length c (k:Int) mv wv (d:Int) ov) (some ⟨b,o,none⟩) l v)=>h.1.c 0 _ rfl;have q1:=fun v (h:NxS R (rdC (some ⟨b,o,none⟩) l.length c (k:Int) mv wv (d:Int) ov) (some ⟨b,o,none⟩) l v)=>h.1.c 1 _ rfl;have rule:∀ (i:Nat) (x:Value),(encT t0)[i]?=some x→∀v,NxS R (rdC (some ⟨b,o,none⟩) l.length c (k:Int) mv wv (d:Int) ov) (some ⟨b,o,none⟩) l v→v.cell? ⟨b,o+(k-1)*4+i,none⟩=some x:=fun i x e v h=>by
  obtain⟨b',o',e',_,cc⟩:=h.2 _ t0 hx
  cases e'
  exact cc i x e
 have r0:=rule 0 _ rfl;have r1:=rule 1 _ rfl;have r2:=rule 2 _ rfl;have r3:=rule 3 _ rfl;rw[Nat.add_zero]at r0;have hge:¬k<l.length:=by have:=List.getElem?_eq_none_iff.1 hn;omega
 have hge3:decide (k<l.length)=false:=decide_eq_false hge;have hlt:k-1<l.length:=(List.getElem?_eq_some_iff.1 hx).1;have hk0:k≠0:=by omega
 have hz:((k:Int)==0)=false:=beq_false_of_ne (by omega);have hz2:(k==0)=false:=beq_false_of_ne hk0;have htl:=(E.ok.2 t0 (List.mem_of_getElem? hx)).2;have hll:=E.ok.1;have hwr:IntKind.i64.wrap ((k:Int)-1)=((k-1:Nat):Int):=by rw[IntWalk.i64_in _ (by omega)];omega
 have hlt2:((k-1:Nat):Int)<(l.length:Int):=by omega
 have hwr9:wrap64 ((t0.col:Int)+(t0.text.length:Int))=(t0.col:Int)+(t0.text.length:Int):=IntWalk.wrap64_in _ ⟨by omega,by omega⟩;clear rule h E hx;go_enter Tryz.func18,Tryz.ntmps18;go_wp2_with fail
 go_quiet (fail)
 go_wp2_with fail;obtain⟨W,hW⟩:∃W,W=w.drewN nq:=⟨_,rfl⟩;rw[←hW];have bW:Below w.heap.size w W:=by rw[hW];exact Below.drewN (Below.refl _ _) _
 clear hW;have hS:=(HS.out.below bW).below (Below.drew (Below.refl W.heap.size W));have ba0:Below W.drew.heap.size W.drew (W.drew.alloc (.cells #[.int .i64 0,.string ⟨#[]⟩,.int .i64 0,.int .i64 0] 73)):=Below.alloc (Below.refl _ _) (Nat.le_refl _) _;have hS1:=hS.below ba0;have kz:=blk_new W #[.int .i64 (t0.kind:Int),.string ⟨t0.text.toArray⟩,.int .i64 (t0.line:Int),.int .i64 (t0.col:Int)] 73;have ba:Below W.heap.size W (W.alloc (.cells #[.int .i64 (t0.kind:Int),.string ⟨t0.text.toArray⟩,.int .i64 (t0.line:Int),.int .i64 (t0.col:Int)] 73)):=Below.alloc (Below.refl _ _) (Nat.le_refl _) _;have hS2:=((HS.out.below bW).below ba).below (Below.drew (Below.refl _ _));have e1:=kz.c 1 _ rfl;have e2:=kz.c 2 _ rfl;have e3:=kz.c 3 _ rfl;have HFin:=zh ((Below.more bW ba).trans (Below.drew (Below.refl _ _)));clear ba ba0 bW;refine wp_region_noPanic ?_;refine wp_region_held_drew (S:=NxS R (rdC (some ⟨b,o,none⟩) l.length c (k:Int) mv wv (d:Int) ov) (some ⟨b,o,none⟩) l) (by kernel_rfl) hS (fun hH0=>?_);refine sch_in [0,1,2,3,4,5,6,7,8,9,10] ?_
 iterate 11 (refine sch_yes (v:=?_) rfl (by kernel_rfl) (by rfl) ?_ (by assumption) ?_;rotate_left 1;(· (intro w hSw;(try dsimp only at hSw);go_simp<;>(with_reducible rfl)));try simp only[Act.put,qA,qB,qC,qD,qE,qF])
 refine sch_out ?_;refine wpAnyH_ready (rs:=[11]) (by kernel_rfl) (by simp) ?_;refine AllReadyH.cons rfl (fun K' hK'=>?_) (AllReadyH.nil)
 go_simp
 refine hK'.out _ _ hS1 (fun hHa=>?_);clear hK'
 try simp only[Act.put,qA,qB,qC,qD,qE,qF]
 refine wpAnyH_ready (rs:=[12]) (by kernel_rfl) (by simp) ?_;refine AllReadyH.cons rfl (fun K' hK'=>?_) (AllReadyH.nil)
 go_simp
 refine hK'.out _ _ hS2 (fun hHb=>?_);clear hK'
 try simp only[Act.put,qA,qB,qC,qD,qE,qF]
 refine wpAnyH_done (by kernel_rfl) ?_ _;refine NoPanic.normal ?_;clear hH0 hHa hHb hS hS1 hS2 kz h0 h1 q0 q1 r0 r1 r2 r3;go_wp2_with fail
 go_quiet (fail)
 go_wp2_with fail;refine bodyPost_end (v:=.tuple #[.int .i64 ((t0.line:Nat):Int),.int .i64 ((t0.col+t0.text.length:Nat):Int)]) (by simp[results,Tryz.results18,go_sem]) rfl ?_;exact⟨rfl,Below.drewN HFin.out _⟩
theorem pplace_nil(h:RdS R Z p c mv [] 0 d K t wv ov w):Calls Tryz.prog 18 #[.pointer (some ⟨R,0,none⟩)] w (GiveNN w (placeT [] 0)):=by
 rw[placeT_nil];have h0:=h.blk.c 0 _ rfl;have h1:=h.blk.c 1 _ rfl;clear h;go_enter Tryz.func18,Tryz.ntmps18;go_wp2_with fail
 go_quiet (fail)
 go_wp2_with fail;refine bodyPost_end (v:=.tuple #[.int .i64 ((1:Nat):Int),.int .i64 ((1:Nat):Int)]) (by simp[results,Tryz.results18,go_sem]) rfl ?_;exact⟨rfl,Below.drewN (Below.refl _ _) _⟩
end Go.Proofs.YtmllklfjngapiaaGreatDoor
