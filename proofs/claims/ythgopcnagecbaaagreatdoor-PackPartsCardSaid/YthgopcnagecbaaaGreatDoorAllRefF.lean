/- Own work. -/
import Derived.Test.YthgopcnagecbaaaGreatDoorOpenAcM
set_option linter.unusedSimpArgs false
set_option linter.unusedVariables false
set_option maxHeartbeats 4000000
set_option maxRecDepth 100000
namespace Go.Proofs.YthgopcnagecbaaaGreatDoor
open Go.RowKit
theorem fo_0{a n e:List UInt8}{d:Int}  (w:World)
  (CN:Hid (∀w,Calls Tryz.prog 45 #[.string ⟨a.toArray⟩] w (GiveB w false))) :
  Calls Tryz.prog 60 #[.agg #[.string ⟨a.toArray⟩,.int .i64 d,.string ⟨n.toArray⟩,.string ⟨e.toArray⟩]] w (GiveB w (false)):=by
 have HT:Hid (NoB w):=zh (noB w);go_enter Tryz.func60,Tryz.ntmps60;go_wp2_with fail;have BW:=Below.refl w.heap.size w;have b0:Below w.heap.size w w:=Below.refl _ _;obtain⟨U1,hU,bU,s1,rx0,rx1,rx2,rx3⟩:=lay4 b0 (.string ⟨a.toArray⟩) (.int .i64 d) (.string ⟨n.toArray⟩) (.string ⟨e.toArray⟩) 47;rw[hU];clear hU;clear s1;replace BW:=Below.more BW bU;replace HT:=zh (HT.out.below bU);clear bU;have b1:=Below.refl U1.heap.size U1;go_wp2_with fail;refine(CN.out _).mono ?_;rintro e w2 ⟨rfl,b⟩;have b2:=Below.more b1 b;clear b;go_wp2_with fail;go_ret;exact⟨ret_bool (by first|rfl|simp[*]),Below.more BW b2⟩
theorem fo_1{a n e:List UInt8}{d:Int}(h:¬0≤d)(w:World)
  (CN:Hid (∀w,Calls Tryz.prog 45 #[.string ⟨a.toArray⟩] w (GiveB w true))) :
  Calls Tryz.prog 60 #[.agg #[.string ⟨a.toArray⟩,.int .i64 d,.string ⟨n.toArray⟩,.string ⟨e.toArray⟩]] w (GiveB w (false)):=by
 have HT:Hid (NoB w):=zh (noB w);go_enter Tryz.func60,Tryz.ntmps60;go_wp2_with fail;have BW:=Below.refl w.heap.size w;have b0:Below w.heap.size w w:=Below.refl _ _;obtain⟨U1,hU,bU,s1,rx0,rx1,rx2,rx3⟩:=lay4 b0 (.string ⟨a.toArray⟩) (.int .i64 d) (.string ⟨n.toArray⟩) (.string ⟨e.toArray⟩) 47;rw[hU];clear hU;clear s1;replace BW:=Below.more BW bU;replace HT:=zh (HT.out.below bU);clear bU;have b1:=Below.refl U1.heap.size U1;go_wp2_with fail;refine(CN.out _).mono ?_;rintro e w2 ⟨rfl,b⟩;have b2:=Below.more b1 b;clear b;go_wp2_with fail;go_ret;exact⟨ret_bool (by first|rfl|simp[*]),Below.more BW b2⟩
theorem fo_2{a n e:List UInt8}{d:Int}(h:0≤d)(h2:¬d≤9999)(w:World)
  (CN:Hid (∀w,Calls Tryz.prog 45 #[.string ⟨a.toArray⟩] w (GiveB w true))) :
  Calls Tryz.prog 60 #[.agg #[.string ⟨a.toArray⟩,.int .i64 d,.string ⟨n.toArray⟩,.string ⟨e.toArray⟩]] w (GiveB w (false)):=by
 have HT:Hid (NoB w):=zh (noB w);go_enter Tryz.func60,Tryz.ntmps60;go_wp2_with fail;have BW:=Below.refl w.heap.size w;have b0:Below w.heap.size w w:=Below.refl _ _;obtain⟨U1,hU,bU,s1,rx0,rx1,rx2,rx3⟩:=lay4 b0 (.string ⟨a.toArray⟩) (.int .i64 d) (.string ⟨n.toArray⟩) (.string ⟨e.toArray⟩) 47;rw[hU];clear hU;clear s1;replace BW:=Below.more BW bU;replace HT:=zh (HT.out.below bU);clear bU;have b1:=Below.refl U1.heap.size U1;go_wp2_with fail;refine(CN.out _).mono ?_;rintro e w2 ⟨rfl,b⟩;have b2:=Below.more b1 b;clear b;go_wp2_with fail;go_ret;exact⟨ret_bool (by first|rfl|simp[*]),Below.more BW b2⟩
theorem fo_3{a n e:List UInt8}{d:Int}(h:0≤d)(h2:d≤9999){b:Bool}(w:World)
  (CN:Hid (∀w,Calls Tryz.prog 45 #[.string ⟨a.toArray⟩] w (GiveB w true)))
  (CM:Hid (∀w,Calls Tryz.prog 21 #[.agg #[.string ⟨n.toArray⟩,.string ⟨e.toArray⟩]] w (GiveB w b))) :
  Calls Tryz.prog 60 #[.agg #[.string ⟨a.toArray⟩,.int .i64 d,.string ⟨n.toArray⟩,.string ⟨e.toArray⟩]] w (GiveB w (b)):=by
 have HT:Hid (NoB w):=zh (noB w);go_enter Tryz.func60,Tryz.ntmps60;go_wp2_with fail;have BW:=Below.refl w.heap.size w;have b0:Below w.heap.size w w:=Below.refl _ _;obtain⟨U1,hU,bU,s1,rx0,rx1,rx2,rx3⟩:=lay4 b0 (.string ⟨a.toArray⟩) (.int .i64 d) (.string ⟨n.toArray⟩) (.string ⟨e.toArray⟩) 47;rw[hU];clear hU;clear s1;replace BW:=Below.more BW bU;replace HT:=zh (HT.out.below bU);clear bU;have b1:=Below.refl U1.heap.size U1;go_wp2_with fail;refine(CN.out _).mono ?_;rintro e w2 ⟨rfl,b⟩;have b2:=Below.more b1 b;clear b;go_wp2_with fail;refine(CM.out _).mono ?_;rintro e w3 ⟨rfl,b⟩;have b3:=Below.more b2 b;clear b;go_wp2_with fail;go_ret;exact⟨ret_bool (by first|rfl|simp[*]),Below.more BW b3⟩
theorem rfone_any(a:List UInt8)(d:Int)(n e:List UInt8)(w:World)(hz:SzX ((a,d),(n,e))) :
  Calls Tryz.prog 60 #[.agg #[.string ⟨a.toArray⟩,.int .i64 d,.string ⟨n.toArray⟩,.string ⟨e.toArray⟩]] w (GiveB w (Fx.okF ((a,d),(n,e)))):=by
 obtain⟨z1,z2,z3⟩:=hz;dsimp only at z1 z2 z3;have cn:∀w,Calls Tryz.prog 45 #[.string ⟨a.toArray⟩] w (GiveB w (isName a)):=fun w=>calm (rbname_any ⟨a.toArray⟩ w (by rw[size_of];exact z1));have cm:∀w,Calls Tryz.prog 21 #[.agg #[.string ⟨n.toArray⟩,.string ⟨e.toArray⟩]] w (GiveB w (isR (n,e))):=fun w=>rqmay_any ⟨n.toArray⟩ ⟨e.toArray⟩ w (by rw[size_of];omega) (by rw[size_of];omega);have k:Fx.okF ((a,d),(n,e))=(isName a&&(decide (0≤d)&&(decide (d≤9999)&&isR (n,e)))):=rfl;rw[k];clear k
 cases h1:isName a with
 | false=>rw[h1]at cn;exact fo_0 w (zh cn)
 | true =>
 rw[h1]at cn;by_cases h2:0≤d
 ·rw[decide_eq_true h2];by_cases h3:d≤9999
  ·rw[decide_eq_true h3];exact fo_3 h2 h3 w (zh cn) (zh cm)
  ·rw[decide_eq_false h3];exact fo_2 h2 h3 w (zh cn)
 ·rw[decide_eq_false h2];exact fo_1 h2 w (zh cn)
theorem fa_lt{a n e c m g:List UInt8}{d f:Int}(h1:Op.bytesLess a c=true)(w:World) :
  Calls Tryz.prog 61 #[.agg #[.string ⟨a.toArray⟩,.int .i64 d,.string ⟨n.toArray⟩,.string ⟨e.toArray⟩],.agg #[.string ⟨c.toArray⟩,.int .i64 f,.string ⟨m.toArray⟩,.string ⟨g.toArray⟩]] w (GiveB w (true)):=by
 have HT:Hid (NoB w):=zh (noB w);go_enter Tryz.func61,Tryz.ntmps61;go_wp2_with fail;have BW:=Below.refl w.heap.size w;have b0:Below w.heap.size w w:=Below.refl _ _;obtain⟨U1,hU,bU,s1,rx0,rx1,rx2,rx3⟩:=lay4 b0 (.string ⟨a.toArray⟩) (.int .i64 d) (.string ⟨n.toArray⟩) (.string ⟨e.toArray⟩) 47;rw[hU];clear hU;replace BW:=Below.more BW bU;replace HT:=zh (HT.out.below bU);clear bU;have b1:=Below.refl U1.heap.size U1;obtain⟨U2,hU,bU,s2,ry0,ry1,ry2,ry3⟩:=lay4 b1 (.string ⟨c.toArray⟩) (.int .i64 f) (.string ⟨m.toArray⟩) (.string ⟨g.toArray⟩) 47;rw[hU];clear hU;rw[←s1]at ry0 ry1 ry2 ry3;clear s2;replace rx0:=fun v (h:Below U2.heap.size U2 v)=>rx0 v (Below.more bU h);replace rx1:=fun v (h:Below U2.heap.size U2 v)=>rx1 v (Below.more bU h);replace rx2:=fun v (h:Below U2.heap.size U2 v)=>rx2 v (Below.more bU h);replace rx3:=fun v (h:Below U2.heap.size U2 v)=>rx3 v (Below.more bU h);replace BW:=Below.more BW bU;replace HT:=zh (HT.out.below bU);clear bU;have b2:=Below.refl U2.heap.size U2;clear s1;go_wp2_with fail;go_ret;exact⟨ret_bool (by first|rfl|simp[*]),Below.more BW b2⟩
theorem fa_gt{a n e c m g:List UInt8}{d f:Int}(h1:Op.bytesLess a c=false)(h2:(a==c)=false)(w:World) :
  Calls Tryz.prog 61 #[.agg #[.string ⟨a.toArray⟩,.int .i64 d,.string ⟨n.toArray⟩,.string ⟨e.toArray⟩],.agg #[.string ⟨c.toArray⟩,.int .i64 f,.string ⟨m.toArray⟩,.string ⟨g.toArray⟩]] w (GiveB w (false)):=by
 have HT:Hid (NoB w):=zh (noB w);go_enter Tryz.func61,Tryz.ntmps61;go_wp2_with fail;have BW:=Below.refl w.heap.size w;have b0:Below w.heap.size w w:=Below.refl _ _;obtain⟨U1,hU,bU,s1,rx0,rx1,rx2,rx3⟩:=lay4 b0 (.string ⟨a.toArray⟩) (.int .i64 d) (.string ⟨n.toArray⟩) (.string ⟨e.toArray⟩) 47;rw[hU];clear hU;replace BW:=Below.more BW bU;replace HT:=zh (HT.out.below bU);clear bU;have b1:=Below.refl U1.heap.size U1;obtain⟨U2,hU,bU,s2,ry0,ry1,ry2,ry3⟩:=lay4 b1 (.string ⟨c.toArray⟩) (.int .i64 f) (.string ⟨m.toArray⟩) (.string ⟨g.toArray⟩) 47;rw[hU];clear hU;rw[←s1]at ry0 ry1 ry2 ry3;clear s2;replace rx0:=fun v (h:Below U2.heap.size U2 v)=>rx0 v (Below.more bU h);replace rx1:=fun v (h:Below U2.heap.size U2 v)=>rx1 v (Below.more bU h);replace rx2:=fun v (h:Below U2.heap.size U2 v)=>rx2 v (Below.more bU h);replace rx3:=fun v (h:Below U2.heap.size U2 v)=>rx3 v (Below.more bU h);replace BW:=Below.more BW bU;replace HT:=zh (HT.out.below bU);clear bU;have b2:=Below.refl U2.heap.size U2;clear s1;go_wp2_with fail;go_ret;exact⟨ret_bool (by first|rfl|simp[*]),Below.more BW b2⟩
theorem fa_eq{a n e c m g:List UInt8}{d f:Int}(h1:Op.bytesLess a c=false)(h2:(a==c)=true)(w:World) :
  Calls Tryz.prog 61 #[.agg #[.string ⟨a.toArray⟩,.int .i64 d,.string ⟨n.toArray⟩,.string ⟨e.toArray⟩],.agg #[.string ⟨c.toArray⟩,.int .i64 f,.string ⟨m.toArray⟩,.string ⟨g.toArray⟩]] w (GiveB w (decide (d<f))):=by
 have HT:Hid (NoB w):=zh (noB w);go_enter Tryz.func61,Tryz.ntmps61;go_wp2_with fail;have BW:=Below.refl w.heap.size w;have b0:Below w.heap.size w w:=Below.refl _ _;obtain⟨U1,hU,bU,s1,rx0,rx1,rx2,rx3⟩:=lay4 b0 (.string ⟨a.toArray⟩) (.int .i64 d) (.string ⟨n.toArray⟩) (.string ⟨e.toArray⟩) 47;rw[hU];clear hU;replace BW:=Below.more BW bU;replace HT:=zh (HT.out.below bU);clear bU;have b1:=Below.refl U1.heap.size U1;obtain⟨U2,hU,bU,s2,ry0,ry1,ry2,ry3⟩:=lay4 b1 (.string ⟨c.toArray⟩) (.int .i64 f) (.string ⟨m.toArray⟩) (.string ⟨g.toArray⟩) 47;rw[hU];clear hU;rw[←s1]at ry0 ry1 ry2 ry3;clear s2;replace rx0:=fun v (h:Below U2.heap.size U2 v)=>rx0 v (Below.more bU h);replace rx1:=fun v (h:Below U2.heap.size U2 v)=>rx1 v (Below.more bU h);replace rx2:=fun v (h:Below U2.heap.size U2 v)=>rx2 v (Below.more bU h);replace rx3:=fun v (h:Below U2.heap.size U2 v)=>rx3 v (Below.more bU h);replace BW:=Below.more BW bU;replace HT:=zh (HT.out.below bU);clear bU;have b2:=Below.refl U2.heap.size U2;clear s1;go_wp2_with fail;go_ret;exact⟨ret_bool (by first|rfl|simp[*]),Below.more BW b2⟩
theorem rfahead_any(a:List UInt8)(d:Int)(n e c:List UInt8)(f:Int)(m g:List UInt8)(w:World):Calls Tryz.prog 61 #[.agg #[.string ⟨a.toArray⟩,.int .i64 d,.string ⟨n.toArray⟩,.string ⟨e.toArray⟩],.agg #[.string ⟨c.toArray⟩,.int .i64 f,.string ⟨m.toArray⟩,.string ⟨g.toArray⟩]] w (GiveB w (Fx.lessF (a,d) (c,f))):=by
 have k:Fx.lessF (a,d) (c,f)=(Op.bytesLess a c||((a==c)&&decide (d<f))):=rfl;rw[k]
 cases h1:Op.bytesLess a c with
 | true=>exact fa_lt h1 w
 | false =>
  cases h2:(a==c) with
  | true=>exact fa_eq h1 h2 w
  | false=>exact fa_gt h1 h2 w
theorem rfmay_any(p:Option Addr)(c:Nat)(l:List Fx.Fix)(w:World)(hc:l.length≤c)(hl:l.length≤4611686018427387904)(hz:∀x∈l,SzX x)(h:Fxs w p l) :
  Calls Tryz.prog 27 #[.slice p l.length c] w (GiveB w (Fx.mayF l)):=by
 have HS:=zh h;have HZ:=zh hz;clear h hz
 go_enter Tryz.func27,Tryz.ntmps27
 go_wp2
 go_loopw [3] (fun i wr=>∃k:Nat,k≤l.length∧i=.int .i64 k∧Hid (∀j,j<k→Fx.okAtF l j=true)∧Below w.heap.size w wr) (fun i _=>l.length-(intOf i).toNat)
 case atStart=>exact⟨0,Nat.zero_le _,rfl,fun j h=>absurd h (Nat.not_lt_zero j),Below.refl _ _⟩
 case round =>
  obtain⟨k,hk,rfl,HJ,hw⟩:=hrel;by_cases hlt:k<l.length
  ·obtain⟨⟨⟨a,d⟩,⟨n,e⟩⟩,hx⟩:∃x,l[k]?=some x:=⟨_,List.getElem?_eq_getElem hlt⟩;obtain⟨b,o,rfl,k0,k1,k2,k3⟩:=fx_rule (HS.out.below hw) hx;have co:=fun w=>rfone_any a d n e w (HZ.out _ (List.mem_of_getElem? hx));have HX:=zh hx;have HW:=zh hw
   have b0:=Below.refl wr.heap.size wr;have hB:=zh (Nat.le_refl wr.heap.size)
   cases h1:Fx.okF ((a,d),(n,e)) with
   | false =>
    have HO:Hid (Fx.mayF l=false):=zh (Fx.mayF_stop hlt (Fx.okF_no hx h1));rw[h1]at co;have CO:=zh co;clear hx hw h1 co;go_wp2_with fail;refine wp_region_noPanic ?_;refine wp_region_held_drew (S:=fun w'=>Below wr.heap.size wr w') (by kernel_rfl) (b0.drew) (fun hH0=>?_);refine wpAnyH_take (i:=0) (v:=?_) rfl (by kernel_rfl) (by kernel_rfl) (by kernel_rfl) (fun _ _ _ h=>h) (Or.inl ⟨by rfl,?_⟩) (by assumption) ?_;rotate_left 1
    ·(intro w hSw;(try dsimp only at hSw);go_simp<;>(with_reducible rfl))
    try simp only[Act.put,qA,qB,qC,qD,qE,qF]
    refine wpAnyH_take (i:=1) (v:=?_) rfl (by kernel_rfl) (by kernel_rfl) (by kernel_rfl) (fun _ _ _ h=>h) (Or.inl ⟨by rfl,?_⟩) (by assumption) ?_;rotate_left 1
    ·(intro w hSw;(try dsimp only at hSw);go_simp<;>(with_reducible rfl))
    try simp only[Act.put,qA,qB,qC,qD,qE,qF]
    refine wpAnyH_take (i:=2) (v:=?_) rfl (by kernel_rfl) (by kernel_rfl) (by kernel_rfl) (fun _ _ _ h=>h) (Or.inl ⟨by rfl,?_⟩) (by assumption) ?_;rotate_left 1
    ·(intro w hSw;(try dsimp only at hSw);go_simp<;>(with_reducible rfl))
    try simp only[Act.put,qA,qB,qC,qD,qE,qF]
    refine wpAnyH_take (i:=3) (v:=?_) rfl (by kernel_rfl) (by kernel_rfl) (by kernel_rfl) (fun _ _ _ h=>h) (Or.inl ⟨by rfl,?_⟩) (by assumption) ?_;rotate_left 1
    ·(intro w hSw;(try dsimp only at hSw);go_simp<;>(with_reducible rfl))
    try simp only[Act.put,qA,qB,qC,qD,qE,qF]
    refine wpAnyH_ready (rs:=[4]) (by kernel_rfl) (by simp) ?_;refine AllReadyH.cons rfl (fun K hK=>?_) AllReadyH.nil
    go_simp
    refine(held (W:=wr) hB.out (CO.out _) (by assumption)).mono ?_;rintro e w'' ⟨rfl,hb,hw⟩
    (try go_wp2_with fail)
    refine hK.out _ _ hw (fun hH1=>?_);clear hK hH0 hb
    try simp only[Act.put,qA,qB,qC,qD,qE,qF]
    refine wpAnyH_take (i:=5) (v:=?_) rfl (by kernel_rfl) (by kernel_rfl) (by kernel_rfl) (fun _ _ _ h=>h) (Or.inl ⟨by rfl,?_⟩) (by assumption) ?_;rotate_left 1
    ·(intro w hSw;(try dsimp only at hSw);go_simp<;>(with_reducible rfl))
    try simp only[Act.put,qA,qB,qC,qD,qE,qF]
    refine wpAnyH_take (i:=6) (v:=?_) rfl (by kernel_rfl) (by kernel_rfl) (by kernel_rfl) (fun _ _ _ h=>h) (Or.inl ⟨by rfl,?_⟩) (by assumption) ?_;rotate_left 1
    ·(intro w hSw;(try dsimp only at hSw);go_simp<;>(with_reducible rfl))
    try simp only[Act.put,qA,qB,qC,qD,qE,qF]
    refine wpAnyH_take (i:=7) (v:=undef) rfl (by kernel_rfl) (by kernel_rfl) (by kernel_rfl) (fun _ _ _ h=>h) (Or.inr ⟨by rfl,rfl⟩) (by assumption) ?_
    try simp only[Act.put,qA,qB,qC,qD,qE,qF]
    refine wpAnyH_take (i:=8) (v:=undef) rfl (by kernel_rfl) (by kernel_rfl) (by kernel_rfl) (fun _ _ _ h=>h) (Or.inr ⟨by rfl,rfl⟩) (by assumption) ?_
    try simp only[Act.put,qA,qB,qC,qD,qE,qF]
    refine wpAnyH_take (i:=9) (v:=undef) rfl (by kernel_rfl) (by kernel_rfl) (by kernel_rfl) (fun _ _ _ h=>h) (Or.inr ⟨by rfl,rfl⟩) (by assumption) ?_
    try simp only[Act.put,qA,qB,qC,qD,qE,qF]
    refine wpAnyH_take (i:=10) (v:=undef) rfl (by kernel_rfl) (by kernel_rfl) (by kernel_rfl) (fun _ _ _ h=>h) (Or.inr ⟨by rfl,rfl⟩) (by assumption) ?_
    try simp only[Act.put,qA,qB,qC,qD,qE,qF]
    refine wpAnyH_take (i:=11) (v:=undef) rfl (by kernel_rfl) (by kernel_rfl) (by kernel_rfl) (fun _ _ _ h=>h) (Or.inr ⟨by rfl,rfl⟩) (by assumption) ?_
    try simp only[Act.put,qA,qB,qC,qD,qE,qF]
    refine wpAnyH_take (i:=12) (v:=undef) rfl (by kernel_rfl) (by kernel_rfl) (by kernel_rfl) (fun _ _ _ h=>h) (Or.inr ⟨by rfl,rfl⟩) (by assumption) ?_
    try simp only[Act.put,qA,qB,qC,qD,qE,qF]
    refine wpAnyH_take (i:=13) (v:=undef) rfl (by kernel_rfl) (by kernel_rfl) (by kernel_rfl) (fun _ _ _ h=>h) (Or.inr ⟨by rfl,rfl⟩) (by assumption) ?_
    try simp only[Act.put,qA,qB,qC,qD,qE,qF]
    refine wpAnyH_take (i:=14) (v:=undef) rfl (by kernel_rfl) (by kernel_rfl) (by kernel_rfl) (fun _ _ _ h=>h) (Or.inr ⟨by rfl,rfl⟩) (by assumption) ?_
    try simp only[Act.put,qA,qB,qC,qD,qE,qF]
    refine wpAnyH_take (i:=15) (v:=undef) rfl (by kernel_rfl) (by kernel_rfl) (by kernel_rfl) (fun _ _ _ h=>h) (Or.inr ⟨by rfl,rfl⟩) (by assumption) ?_
    try simp only[Act.put,qA,qB,qC,qD,qE,qF]
    refine wpAnyH_take (i:=16) (v:=undef) rfl (by kernel_rfl) (by kernel_rfl) (by kernel_rfl) (fun _ _ _ h=>h) (Or.inr ⟨by rfl,rfl⟩) (by assumption) ?_
    try simp only[Act.put,qA,qB,qC,qD,qE,qF]
    refine wpAnyH_take (i:=17) (v:=undef) rfl (by kernel_rfl) (by kernel_rfl) (by kernel_rfl) (fun _ _ _ h=>h) (Or.inr ⟨by rfl,rfl⟩) (by assumption) ?_
    try simp only[Act.put,qA,qB,qC,qD,qE,qF]
    refine wpAnyH_take (i:=18) (v:=undef) rfl (by kernel_rfl) (by kernel_rfl) (by kernel_rfl) (fun _ _ _ h=>h) (Or.inr ⟨by rfl,rfl⟩) (by assumption) ?_
    try simp only[Act.put,qA,qB,qC,qD,qE,qF]
    refine wpAnyH_take (i:=19) (v:=undef) rfl (by kernel_rfl) (by kernel_rfl) (by kernel_rfl) (fun _ _ _ h=>h) (Or.inr ⟨by rfl,rfl⟩) (by assumption) ?_
    try simp only[Act.put,qA,qB,qC,qD,qE,qF]
    refine wpAnyH_take (i:=20) (v:=undef) rfl (by kernel_rfl) (by kernel_rfl) (by kernel_rfl) (fun _ _ _ h=>h) (Or.inr ⟨by rfl,rfl⟩) (by assumption) ?_
    try simp only[Act.put,qA,qB,qC,qD,qE,qF]
    refine wpAnyH_take (i:=21) (v:=undef) rfl (by kernel_rfl) (by kernel_rfl) (by kernel_rfl) (fun _ _ _ h=>h) (Or.inr ⟨by rfl,rfl⟩) (by assumption) ?_
    try simp only[Act.put,qA,qB,qC,qD,qE,qF]
    refine wpAnyH_take (i:=22) (v:=?_) rfl (by kernel_rfl) (by kernel_rfl) (by kernel_rfl) (fun _ _ _ h=>h) (Or.inl ⟨by rfl,?_⟩) (by assumption) ?_;rotate_left 1
    ·(intro w hSw;(try dsimp only at hSw);go_simp<;>(with_reducible rfl))
    try simp only[Act.put,qA,qB,qC,qD,qE,qF]
    refine wpAnyH_done (by kernel_rfl) ?_ _;refine NoPanic.normal ?_;have b9:=hw;clear hw;go_wp2_with fail;go_ret;exact⟨ret_bool (by rw[HO.out]),Below.more HW.out b9⟩
   | true =>
    rw[h1]at co
    cases k with
    | zero =>
     have HO:Hid (Fx.okAtF l 0=true):=zh (Fx.okF_0 hx h1);have CO:=zh co;clear hx hw h1 co;simp only[Nat.zero_mul,Nat.add_zero]at k0 k1 k2 k3;go_wp2_with fail;refine wp_region_noPanic ?_;refine wp_region_held_drew (S:=fun w'=>Below wr.heap.size wr w') (by kernel_rfl) (b0.drew) (fun hH0=>?_);refine wpAnyH_take (i:=0) (v:=?_) rfl (by kernel_rfl) (by kernel_rfl) (by kernel_rfl) (fun _ _ _ h=>h) (Or.inl ⟨by rfl,?_⟩) (by assumption) ?_;rotate_left 1
     ·(intro w hSw;(try dsimp only at hSw);go_simp<;>(with_reducible rfl))
     try simp only[Act.put,qA,qB,qC,qD,qE,qF]
     refine wpAnyH_take (i:=1) (v:=?_) rfl (by kernel_rfl) (by kernel_rfl) (by kernel_rfl) (fun _ _ _ h=>h) (Or.inl ⟨by rfl,?_⟩) (by assumption) ?_;rotate_left 1
     ·(intro w hSw;(try dsimp only at hSw);go_simp<;>(with_reducible rfl))
     try simp only[Act.put,qA,qB,qC,qD,qE,qF]
     refine wpAnyH_take (i:=2) (v:=?_) rfl (by kernel_rfl) (by kernel_rfl) (by kernel_rfl) (fun _ _ _ h=>h) (Or.inl ⟨by rfl,?_⟩) (by assumption) ?_;rotate_left 1
     ·(intro w hSw;(try dsimp only at hSw);go_simp<;>(with_reducible rfl))
     try simp only[Act.put,qA,qB,qC,qD,qE,qF]
     refine wpAnyH_take (i:=3) (v:=?_) rfl (by kernel_rfl) (by kernel_rfl) (by kernel_rfl) (fun _ _ _ h=>h) (Or.inl ⟨by rfl,?_⟩) (by assumption) ?_;rotate_left 1
     ·(intro w hSw;(try dsimp only at hSw);go_simp<;>(with_reducible rfl))
     try simp only[Act.put,qA,qB,qC,qD,qE,qF]
     refine wpAnyH_ready (rs:=[4]) (by kernel_rfl) (by simp) ?_;refine AllReadyH.cons rfl (fun K hK=>?_) AllReadyH.nil
     go_simp
     refine(held (W:=wr) hB.out (CO.out _) (by assumption)).mono ?_;rintro e w'' ⟨rfl,hb,hw⟩
     (try go_wp2_with fail)
     refine hK.out _ _ hw (fun hH1=>?_);clear hK hH0 hb
     try simp only[Act.put,qA,qB,qC,qD,qE,qF]
     refine wpAnyH_take (i:=5) (v:=?_) rfl (by kernel_rfl) (by kernel_rfl) (by kernel_rfl) (fun _ _ _ h=>h) (Or.inl ⟨by rfl,?_⟩) (by assumption) ?_;rotate_left 1
     ·(intro w hSw;(try dsimp only at hSw);go_simp<;>(with_reducible rfl))
     try simp only[Act.put,qA,qB,qC,qD,qE,qF]
     refine wpAnyH_take (i:=6) (v:=?_) rfl (by kernel_rfl) (by kernel_rfl) (by kernel_rfl) (fun _ _ _ h=>h) (Or.inl ⟨by rfl,?_⟩) (by assumption) ?_;rotate_left 1
     ·(intro w hSw;(try dsimp only at hSw);go_simp<;>(with_reducible rfl))
     try simp only[Act.put,qA,qB,qC,qD,qE,qF]
     refine wpAnyH_take (i:=7) (v:=?_) rfl (by kernel_rfl) (by kernel_rfl) (by kernel_rfl) (fun _ _ _ h=>h) (Or.inl ⟨by rfl,?_⟩) (by assumption) ?_;rotate_left 1
     ·(intro w hSw;(try dsimp only at hSw);go_simp<;>(with_reducible rfl))
     try simp only[Act.put,qA,qB,qC,qD,qE,qF]
     refine wpAnyH_take (i:=8) (v:=?_) rfl (by kernel_rfl) (by kernel_rfl) (by kernel_rfl) (fun _ _ _ h=>h) (Or.inl ⟨by rfl,?_⟩) (by assumption) ?_;rotate_left 1
     ·(intro w hSw;(try dsimp only at hSw);go_simp<;>(with_reducible rfl))
     try simp only[Act.put,qA,qB,qC,qD,qE,qF]
     refine wpAnyH_take (i:=9) (v:=?_) rfl (by kernel_rfl) (by kernel_rfl) (by kernel_rfl) (fun _ _ _ h=>h) (Or.inl ⟨by rfl,?_⟩) (by assumption) ?_;rotate_left 1
     ·(intro w hSw;(try dsimp only at hSw);go_simp<;>(with_reducible rfl))
     try simp only[Act.put,qA,qB,qC,qD,qE,qF]
     refine wpAnyH_take (i:=10) (v:=undef) rfl (by kernel_rfl) (by kernel_rfl) (by kernel_rfl) (fun _ _ _ h=>h) (Or.inr ⟨by rfl,rfl⟩) (by assumption) ?_
     try simp only[Act.put,qA,qB,qC,qD,qE,qF]
     refine wpAnyH_take (i:=11) (v:=undef) rfl (by kernel_rfl) (by kernel_rfl) (by kernel_rfl) (fun _ _ _ h=>h) (Or.inr ⟨by rfl,rfl⟩) (by assumption) ?_
     try simp only[Act.put,qA,qB,qC,qD,qE,qF]
     refine wpAnyH_take (i:=12) (v:=undef) rfl (by kernel_rfl) (by kernel_rfl) (by kernel_rfl) (fun _ _ _ h=>h) (Or.inr ⟨by rfl,rfl⟩) (by assumption) ?_
     try simp only[Act.put,qA,qB,qC,qD,qE,qF]
     refine wpAnyH_take (i:=13) (v:=undef) rfl (by kernel_rfl) (by kernel_rfl) (by kernel_rfl) (fun _ _ _ h=>h) (Or.inr ⟨by rfl,rfl⟩) (by assumption) ?_
     try simp only[Act.put,qA,qB,qC,qD,qE,qF]
     refine wpAnyH_take (i:=14) (v:=undef) rfl (by kernel_rfl) (by kernel_rfl) (by kernel_rfl) (fun _ _ _ h=>h) (Or.inr ⟨by rfl,rfl⟩) (by assumption) ?_
     try simp only[Act.put,qA,qB,qC,qD,qE,qF]
     refine wpAnyH_take (i:=15) (v:=undef) rfl (by kernel_rfl) (by kernel_rfl) (by kernel_rfl) (fun _ _ _ h=>h) (Or.inr ⟨by rfl,rfl⟩) (by assumption) ?_
     try simp only[Act.put,qA,qB,qC,qD,qE,qF]
     refine wpAnyH_take (i:=16) (v:=undef) rfl (by kernel_rfl) (by kernel_rfl) (by kernel_rfl) (fun _ _ _ h=>h) (Or.inr ⟨by rfl,rfl⟩) (by assumption) ?_
     try simp only[Act.put,qA,qB,qC,qD,qE,qF]
     refine wpAnyH_take (i:=17) (v:=undef) rfl (by kernel_rfl) (by kernel_rfl) (by kernel_rfl) (fun _ _ _ h=>h) (Or.inr ⟨by rfl,rfl⟩) (by assumption) ?_
     try simp only[Act.put,qA,qB,qC,qD,qE,qF]
     refine wpAnyH_take (i:=18) (v:=undef) rfl (by kernel_rfl) (by kernel_rfl) (by kernel_rfl) (fun _ _ _ h=>h) (Or.inr ⟨by rfl,rfl⟩) (by assumption) ?_
     try simp only[Act.put,qA,qB,qC,qD,qE,qF]
     refine wpAnyH_take (i:=19) (v:=undef) rfl (by kernel_rfl) (by kernel_rfl) (by kernel_rfl) (fun _ _ _ h=>h) (Or.inr ⟨by rfl,rfl⟩) (by assumption) ?_
     try simp only[Act.put,qA,qB,qC,qD,qE,qF]
     refine wpAnyH_take (i:=20) (v:=undef) rfl (by kernel_rfl) (by kernel_rfl) (by kernel_rfl) (fun _ _ _ h=>h) (Or.inr ⟨by rfl,rfl⟩) (by assumption) ?_
     try simp only[Act.put,qA,qB,qC,qD,qE,qF]
     refine wpAnyH_take (i:=21) (v:=?_) rfl (by kernel_rfl) (by kernel_rfl) (by kernel_rfl) (fun _ _ _ h=>h) (Or.inl ⟨by rfl,?_⟩) (by assumption) ?_;rotate_left 1
     ·(intro w hSw;(try dsimp only at hSw);go_simp<;>(with_reducible rfl))
     try simp only[Act.put,qA,qB,qC,qD,qE,qF]
     refine wpAnyH_take (i:=22) (v:=?_) rfl (by kernel_rfl) (by kernel_rfl) (by kernel_rfl) (fun _ _ _ h=>h) (Or.inl ⟨by rfl,?_⟩) (by assumption) ?_;rotate_left 1
     ·(intro w hSw;(try dsimp only at hSw);go_simp<;>(with_reducible rfl))
     try simp only[Act.put,qA,qB,qC,qD,qE,qF]
     refine wpAnyH_done (by kernel_rfl) ?_ _;refine NoPanic.normal ?_;have b9:=hw;clear hw;go_wp2_with fail;go_roundw
     case rel=>exact⟨0+1,hlt,by go_num,less_more HJ.out HO.out,Below.more HW.out b9⟩
     case measure=>simp[intOf];omega
    | succ m =>
     obtain⟨⟨⟨a',d'⟩,⟨n',e'⟩⟩,hy⟩:∃x,l[m]?=some x:=⟨_,List.getElem?_eq_getElem (by omega)⟩;obtain⟨b',o',hp',j0,j1,j2,j3⟩:=fx_rule (HS.out.below hw) hy;obtain⟨rfl,rfl⟩:b=b'∧o=o':=by
      have:=Option.some.inj hp';exact⟨congrArg Addr.block this,congrArg Addr.off this⟩
     have ca:=fun w=>rfahead_any a' d' n' e' a d n e w;have ho:Fx.okAtF l (m+1)=Fx.lessF (a',d') (a,d):=Fx.okF_s hx hy h1;have hwr:IntKind.i64.wrap (m:Int)=(m:Int):=IntWalk.i64_in _ (by omega);have hlm:(m:Int)<(l.length:Int):=by omega
     have hpos:(0:Int)<(m:Int)+1:=by omega
     have hge:(0:Int)≤(m:Int)+1:=by omega
     cases h3:Fx.lessF (a',d') (a,d) with
     | false =>
      have HO:Hid (Fx.mayF l=false):=zh (Fx.mayF_stop hlt (by rw[ho,h3]));rw[h3]at ca;have CO:=zh co;have CA:=zh ca
      clear hx hy hw h1 co ca ho h3 hp';go_wp2_with fail;refine wp_region_noPanic ?_;refine wp_region_held_drew (S:=fun w'=>Below wr.heap.size wr w') (by kernel_rfl) (b0.drew) (fun hH0=>?_);refine wpAnyH_take (i:=0) (v:=?_) rfl (by kernel_rfl) (by kernel_rfl) (by kernel_rfl) (fun _ _ _ h=>h) (Or.inl ⟨by rfl,?_⟩) (by assumption) ?_;rotate_left 1
      ·(intro w hSw;(try dsimp only at hSw);go_simp<;>(with_reducible rfl))
      try simp only[Act.put,qA,qB,qC,qD,qE,qF]
      refine wpAnyH_take (i:=1) (v:=?_) rfl (by kernel_rfl) (by kernel_rfl) (by kernel_rfl) (fun _ _ _ h=>h) (Or.inl ⟨by rfl,?_⟩) (by assumption) ?_;rotate_left 1
      ·(intro w hSw;(try dsimp only at hSw);go_simp<;>(with_reducible rfl))
      try simp only[Act.put,qA,qB,qC,qD,qE,qF]
      refine wpAnyH_take (i:=2) (v:=?_) rfl (by kernel_rfl) (by kernel_rfl) (by kernel_rfl) (fun _ _ _ h=>h) (Or.inl ⟨by rfl,?_⟩) (by assumption) ?_;rotate_left 1
      ·(intro w hSw;(try dsimp only at hSw);go_simp<;>(with_reducible rfl))
      try simp only[Act.put,qA,qB,qC,qD,qE,qF]
      refine wpAnyH_take (i:=3) (v:=?_) rfl (by kernel_rfl) (by kernel_rfl) (by kernel_rfl) (fun _ _ _ h=>h) (Or.inl ⟨by rfl,?_⟩) (by assumption) ?_;rotate_left 1
      ·(intro w hSw;(try dsimp only at hSw);go_simp<;>(with_reducible rfl))
      try simp only[Act.put,qA,qB,qC,qD,qE,qF]
      refine wpAnyH_ready (rs:=[4]) (by kernel_rfl) (by simp) ?_;refine AllReadyH.cons rfl (fun K hK=>?_) AllReadyH.nil
      go_simp
      refine(held (W:=wr) hB.out (CO.out _) (by assumption)).mono ?_;rintro e w'' ⟨rfl,hb,hw⟩
      (try go_wp2_with fail)
      refine hK.out _ _ hw (fun hH1=>?_);clear hK hH0 hb
      try simp only[Act.put,qA,qB,qC,qD,qE,qF]
      refine wpAnyH_take (i:=5) (v:=?_) rfl (by kernel_rfl) (by kernel_rfl) (by kernel_rfl) (fun _ _ _ h=>h) (Or.inl ⟨by rfl,?_⟩) (by assumption) ?_;rotate_left 1
      ·(intro w hSw;(try dsimp only at hSw);go_simp<;>(with_reducible rfl))
      try simp only[Act.put,qA,qB,qC,qD,qE,qF]
      refine wpAnyH_take (i:=6) (v:=?_) rfl (by kernel_rfl) (by kernel_rfl) (by kernel_rfl) (fun _ _ _ h=>h) (Or.inl ⟨by rfl,?_⟩) (by assumption) ?_;rotate_left 1
      ·(intro w hSw;(try dsimp only at hSw);go_simp<;>(with_reducible rfl))
      try simp only[Act.put,qA,qB,qC,qD,qE,qF]
      refine wpAnyH_take (i:=7) (v:=?_) rfl (by kernel_rfl) (by kernel_rfl) (by kernel_rfl) (fun _ _ _ h=>h) (Or.inl ⟨by rfl,?_⟩) (by assumption) ?_;rotate_left 1
      ·(intro w hSw;(try dsimp only at hSw);go_simp<;>(with_reducible rfl))
      try simp only[Act.put,qA,qB,qC,qD,qE,qF]
      refine wpAnyH_take (i:=8) (v:=?_) rfl (by kernel_rfl) (by kernel_rfl) (by kernel_rfl) (fun _ _ _ h=>h) (Or.inl ⟨by rfl,?_⟩) (by assumption) ?_;rotate_left 1
      ·(intro w hSw;(try dsimp only at hSw);go_simp<;>(with_reducible rfl))
      try simp only[Act.put,qA,qB,qC,qD,qE,qF]
      refine wpAnyH_take (i:=9) (v:=?_) rfl (by kernel_rfl) (by kernel_rfl) (by kernel_rfl) (fun _ _ _ h=>h) (Or.inl ⟨by rfl,?_⟩) (by assumption) ?_;rotate_left 1
      ·(intro w hSw;(try dsimp only at hSw);go_simp<;>(with_reducible rfl))
      try simp only[Act.put,qA,qB,qC,qD,qE,qF]
      refine wpAnyH_take (i:=10) (v:=?_) rfl (by kernel_rfl) (by kernel_rfl) (by kernel_rfl) (fun _ _ _ h=>h) (Or.inl ⟨by rfl,?_⟩) (by assumption) ?_;rotate_left 1
      ·(intro w hSw;(try dsimp only at hSw);go_simp<;>(with_reducible rfl))
      try simp only[Act.put,qA,qB,qC,qD,qE,qF]
      refine wpAnyH_take (i:=11) (v:=?_) rfl (by kernel_rfl) (by kernel_rfl) (by kernel_rfl) (fun _ _ _ h=>h) (Or.inl ⟨by rfl,?_⟩) (by assumption) ?_;rotate_left 1
      ·(intro w hSw;(try dsimp only at hSw);go_simp<;>(with_reducible rfl))
      try simp only[Act.put,qA,qB,qC,qD,qE,qF]
      refine wpAnyH_take (i:=12) (v:=?_) rfl (by kernel_rfl) (by kernel_rfl) (by kernel_rfl) (fun _ _ _ h=>h) (Or.inl ⟨by rfl,?_⟩) (by assumption) ?_;rotate_left 1
      ·(intro w hSw;(try dsimp only at hSw);go_simp<;>(with_reducible rfl))
      try simp only[Act.put,qA,qB,qC,qD,qE,qF]
      refine wpAnyH_take (i:=13) (v:=?_) rfl (by kernel_rfl) (by kernel_rfl) (by kernel_rfl) (fun _ _ _ h=>h) (Or.inl ⟨by rfl,?_⟩) (by assumption) ?_;rotate_left 1
      ·(intro w hSw;(try dsimp only at hSw);go_simp<;>(with_reducible rfl))
      try simp only[Act.put,qA,qB,qC,qD,qE,qF]
      refine wpAnyH_take (i:=14) (v:=?_) rfl (by kernel_rfl) (by kernel_rfl) (by kernel_rfl) (fun _ _ _ h=>h) (Or.inl ⟨by rfl,?_⟩) (by assumption) ?_;rotate_left 1
      ·(intro w hSw;(try dsimp only at hSw);go_simp<;>(with_reducible rfl))
      try simp only[Act.put,qA,qB,qC,qD,qE,qF]
      refine wpAnyH_take (i:=15) (v:=?_) rfl (by kernel_rfl) (by kernel_rfl) (by kernel_rfl) (fun _ _ _ h=>h) (Or.inl ⟨by rfl,?_⟩) (by assumption) ?_;rotate_left 1
      ·(intro w hSw;(try dsimp only at hSw);go_simp<;>(with_reducible rfl))
      try simp only[Act.put,qA,qB,qC,qD,qE,qF]
      refine wpAnyH_take (i:=16) (v:=?_) rfl (by kernel_rfl) (by kernel_rfl) (by kernel_rfl) (fun _ _ _ h=>h) (Or.inl ⟨by rfl,?_⟩) (by assumption) ?_;rotate_left 1
      ·(intro w hSw;(try dsimp only at hSw);go_simp<;>(with_reducible rfl))
      try simp only[Act.put,qA,qB,qC,qD,qE,qF]
      refine wpAnyH_take (i:=17) (v:=?_) rfl (by kernel_rfl) (by kernel_rfl) (by kernel_rfl) (fun _ _ _ h=>h) (Or.inl ⟨by rfl,?_⟩) (by assumption) ?_;rotate_left 1
      ·(intro w hSw;(try dsimp only at hSw);go_simp<;>(with_reducible rfl))
      try simp only[Act.put,qA,qB,qC,qD,qE,qF]
      refine wpAnyH_take (i:=18) (v:=?_) rfl (by kernel_rfl) (by kernel_rfl) (by kernel_rfl) (fun _ _ _ h=>h) (Or.inl ⟨by rfl,?_⟩) (by assumption) ?_;rotate_left 1
      ·(intro w hSw;(try dsimp only at hSw);go_simp<;>(with_reducible rfl))
      try simp only[Act.put,qA,qB,qC,qD,qE,qF]
      refine wpAnyH_ready (rs:=[19]) (by kernel_rfl) (by simp) ?_;refine AllReadyH.cons rfl (fun K hK=>?_) AllReadyH.nil
      go_simp
      refine(held (W:=wr) hB.out (CA.out _) (by assumption)).mono ?_;rintro e w'' ⟨rfl,hb,hw⟩
      (try go_wp2_with fail)
      refine hK.out _ _ hw (fun hH2=>?_);clear hK hH1 hb
      try simp only[Act.put,qA,qB,qC,qD,qE,qF]
      refine wpAnyH_take (i:=20) (v:=?_) rfl (by kernel_rfl) (by kernel_rfl) (by kernel_rfl) (fun _ _ _ h=>h) (Or.inl ⟨by rfl,?_⟩) (by assumption) ?_;rotate_left 1
      ·(intro w hSw;(try dsimp only at hSw);go_simp<;>(with_reducible rfl))
      try simp only[Act.put,qA,qB,qC,qD,qE,qF]
      refine wpAnyH_take (i:=21) (v:=?_) rfl (by kernel_rfl) (by kernel_rfl) (by kernel_rfl) (fun _ _ _ h=>h) (Or.inl ⟨by rfl,?_⟩) (by assumption) ?_;rotate_left 1
      ·(intro w hSw;(try dsimp only at hSw);go_simp<;>(with_reducible rfl))
      try simp only[Act.put,qA,qB,qC,qD,qE,qF]
      refine wpAnyH_take (i:=22) (v:=?_) rfl (by kernel_rfl) (by kernel_rfl) (by kernel_rfl) (fun _ _ _ h=>h) (Or.inl ⟨by rfl,?_⟩) (by assumption) ?_;rotate_left 1
      ·(intro w hSw;(try dsimp only at hSw);go_simp<;>(with_reducible rfl))
      try simp only[Act.put,qA,qB,qC,qD,qE,qF]
      refine wpAnyH_done (by kernel_rfl) ?_ _;refine NoPanic.normal ?_;have b9:=hw;clear hw;go_wp2_with fail;go_ret;exact⟨ret_bool (by rw[HO.out]),Below.more HW.out b9⟩
     | true =>
      have HO:Hid (Fx.okAtF l (m+1)=true):=zh (by rw[ho,h3]);rw[h3]at ca;have CO:=zh co;have CA:=zh ca
      clear hx hy hw h1 co ca ho h3 hp';go_wp2_with fail;refine wp_region_noPanic ?_;refine wp_region_held_drew (S:=fun w'=>Below wr.heap.size wr w') (by kernel_rfl) (b0.drew) (fun hH0=>?_);refine wpAnyH_take (i:=0) (v:=?_) rfl (by kernel_rfl) (by kernel_rfl) (by kernel_rfl) (fun _ _ _ h=>h) (Or.inl ⟨by rfl,?_⟩) (by assumption) ?_;rotate_left 1
      ·(intro w hSw;(try dsimp only at hSw);go_simp<;>(with_reducible rfl))
      try simp only[Act.put,qA,qB,qC,qD,qE,qF]
      refine wpAnyH_take (i:=1) (v:=?_) rfl (by kernel_rfl) (by kernel_rfl) (by kernel_rfl) (fun _ _ _ h=>h) (Or.inl ⟨by rfl,?_⟩) (by assumption) ?_;rotate_left 1
      ·(intro w hSw;(try dsimp only at hSw);go_simp<;>(with_reducible rfl))
      try simp only[Act.put,qA,qB,qC,qD,qE,qF]
      refine wpAnyH_take (i:=2) (v:=?_) rfl (by kernel_rfl) (by kernel_rfl) (by kernel_rfl) (fun _ _ _ h=>h) (Or.inl ⟨by rfl,?_⟩) (by assumption) ?_;rotate_left 1
      ·(intro w hSw;(try dsimp only at hSw);go_simp<;>(with_reducible rfl))
      try simp only[Act.put,qA,qB,qC,qD,qE,qF]
      refine wpAnyH_take (i:=3) (v:=?_) rfl (by kernel_rfl) (by kernel_rfl) (by kernel_rfl) (fun _ _ _ h=>h) (Or.inl ⟨by rfl,?_⟩) (by assumption) ?_;rotate_left 1
      ·(intro w hSw;(try dsimp only at hSw);go_simp<;>(with_reducible rfl))
      try simp only[Act.put,qA,qB,qC,qD,qE,qF]
      refine wpAnyH_ready (rs:=[4]) (by kernel_rfl) (by simp) ?_;refine AllReadyH.cons rfl (fun K hK=>?_) AllReadyH.nil
      go_simp
      refine(held (W:=wr) hB.out (CO.out _) (by assumption)).mono ?_;rintro e w'' ⟨rfl,hb,hw⟩
      (try go_wp2_with fail)
      refine hK.out _ _ hw (fun hH1=>?_);clear hK hH0 hb
      try simp only[Act.put,qA,qB,qC,qD,qE,qF]
      refine wpAnyH_take (i:=5) (v:=?_) rfl (by kernel_rfl) (by kernel_rfl) (by kernel_rfl) (fun _ _ _ h=>h) (Or.inl ⟨by rfl,?_⟩) (by assumption) ?_;rotate_left 1
      ·(intro w hSw;(try dsimp only at hSw);go_simp<;>(with_reducible rfl))
      try simp only[Act.put,qA,qB,qC,qD,qE,qF]
      refine wpAnyH_take (i:=6) (v:=?_) rfl (by kernel_rfl) (by kernel_rfl) (by kernel_rfl) (fun _ _ _ h=>h) (Or.inl ⟨by rfl,?_⟩) (by assumption) ?_;rotate_left 1
      ·(intro w hSw;(try dsimp only at hSw);go_simp<;>(with_reducible rfl))
      try simp only[Act.put,qA,qB,qC,qD,qE,qF]
      refine wpAnyH_take (i:=7) (v:=?_) rfl (by kernel_rfl) (by kernel_rfl) (by kernel_rfl) (fun _ _ _ h=>h) (Or.inl ⟨by rfl,?_⟩) (by assumption) ?_;rotate_left 1
      ·(intro w hSw;(try dsimp only at hSw);go_simp<;>(with_reducible rfl))
      try simp only[Act.put,qA,qB,qC,qD,qE,qF]
      refine wpAnyH_take (i:=8) (v:=?_) rfl (by kernel_rfl) (by kernel_rfl) (by kernel_rfl) (fun _ _ _ h=>h) (Or.inl ⟨by rfl,?_⟩) (by assumption) ?_;rotate_left 1
      ·(intro w hSw;(try dsimp only at hSw);go_simp<;>(with_reducible rfl))
      try simp only[Act.put,qA,qB,qC,qD,qE,qF]
      refine wpAnyH_take (i:=9) (v:=?_) rfl (by kernel_rfl) (by kernel_rfl) (by kernel_rfl) (fun _ _ _ h=>h) (Or.inl ⟨by rfl,?_⟩) (by assumption) ?_;rotate_left 1
      ·(intro w hSw;(try dsimp only at hSw);go_simp<;>(with_reducible rfl))
      try simp only[Act.put,qA,qB,qC,qD,qE,qF]
      refine wpAnyH_take (i:=10) (v:=?_) rfl (by kernel_rfl) (by kernel_rfl) (by kernel_rfl) (fun _ _ _ h=>h) (Or.inl ⟨by rfl,?_⟩) (by assumption) ?_;rotate_left 1
      ·(intro w hSw;(try dsimp only at hSw);go_simp<;>(with_reducible rfl))
      try simp only[Act.put,qA,qB,qC,qD,qE,qF]
      refine wpAnyH_take (i:=11) (v:=?_) rfl (by kernel_rfl) (by kernel_rfl) (by kernel_rfl) (fun _ _ _ h=>h) (Or.inl ⟨by rfl,?_⟩) (by assumption) ?_;rotate_left 1
      ·(intro w hSw;(try dsimp only at hSw);go_simp<;>(with_reducible rfl))
      try simp only[Act.put,qA,qB,qC,qD,qE,qF]
      refine wpAnyH_take (i:=12) (v:=?_) rfl (by kernel_rfl) (by kernel_rfl) (by kernel_rfl) (fun _ _ _ h=>h) (Or.inl ⟨by rfl,?_⟩) (by assumption) ?_;rotate_left 1
      ·(intro w hSw;(try dsimp only at hSw);go_simp<;>(with_reducible rfl))
      try simp only[Act.put,qA,qB,qC,qD,qE,qF]
      refine wpAnyH_take (i:=13) (v:=?_) rfl (by kernel_rfl) (by kernel_rfl) (by kernel_rfl) (fun _ _ _ h=>h) (Or.inl ⟨by rfl,?_⟩) (by assumption) ?_;rotate_left 1
      ·(intro w hSw;(try dsimp only at hSw);go_simp<;>(with_reducible rfl))
      try simp only[Act.put,qA,qB,qC,qD,qE,qF]
      refine wpAnyH_take (i:=14) (v:=?_) rfl (by kernel_rfl) (by kernel_rfl) (by kernel_rfl) (fun _ _ _ h=>h) (Or.inl ⟨by rfl,?_⟩) (by assumption) ?_;rotate_left 1
      ·(intro w hSw;(try dsimp only at hSw);go_simp<;>(with_reducible rfl))
      try simp only[Act.put,qA,qB,qC,qD,qE,qF]
      refine wpAnyH_take (i:=15) (v:=?_) rfl (by kernel_rfl) (by kernel_rfl) (by kernel_rfl) (fun _ _ _ h=>h) (Or.inl ⟨by rfl,?_⟩) (by assumption) ?_;rotate_left 1
      ·(intro w hSw;(try dsimp only at hSw);go_simp<;>(with_reducible rfl))
      try simp only[Act.put,qA,qB,qC,qD,qE,qF]
      refine wpAnyH_take (i:=16) (v:=?_) rfl (by kernel_rfl) (by kernel_rfl) (by kernel_rfl) (fun _ _ _ h=>h) (Or.inl ⟨by rfl,?_⟩) (by assumption) ?_;rotate_left 1
      ·(intro w hSw;(try dsimp only at hSw);go_simp<;>(with_reducible rfl))
      try simp only[Act.put,qA,qB,qC,qD,qE,qF]
      refine wpAnyH_take (i:=17) (v:=?_) rfl (by kernel_rfl) (by kernel_rfl) (by kernel_rfl) (fun _ _ _ h=>h) (Or.inl ⟨by rfl,?_⟩) (by assumption) ?_;rotate_left 1
      ·(intro w hSw;(try dsimp only at hSw);go_simp<;>(with_reducible rfl))
      try simp only[Act.put,qA,qB,qC,qD,qE,qF]
      refine wpAnyH_take (i:=18) (v:=?_) rfl (by kernel_rfl) (by kernel_rfl) (by kernel_rfl) (fun _ _ _ h=>h) (Or.inl ⟨by rfl,?_⟩) (by assumption) ?_;rotate_left 1
      ·(intro w hSw;(try dsimp only at hSw);go_simp<;>(with_reducible rfl))
      try simp only[Act.put,qA,qB,qC,qD,qE,qF]
      refine wpAnyH_ready (rs:=[19]) (by kernel_rfl) (by simp) ?_;refine AllReadyH.cons rfl (fun K hK=>?_) AllReadyH.nil
      go_simp
      refine(held (W:=wr) hB.out (CA.out _) (by assumption)).mono ?_;rintro e w'' ⟨rfl,hb,hw⟩
      (try go_wp2_with fail)
      refine hK.out _ _ hw (fun hH2=>?_);clear hK hH1 hb
      try simp only[Act.put,qA,qB,qC,qD,qE,qF]
      refine wpAnyH_take (i:=20) (v:=?_) rfl (by kernel_rfl) (by kernel_rfl) (by kernel_rfl) (fun _ _ _ h=>h) (Or.inl ⟨by rfl,?_⟩) (by assumption) ?_;rotate_left 1
      ·(intro w hSw;(try dsimp only at hSw);go_simp<;>(with_reducible rfl))
      try simp only[Act.put,qA,qB,qC,qD,qE,qF]
      refine wpAnyH_take (i:=21) (v:=?_) rfl (by kernel_rfl) (by kernel_rfl) (by kernel_rfl) (fun _ _ _ h=>h) (Or.inl ⟨by rfl,?_⟩) (by assumption) ?_;rotate_left 1
      ·(intro w hSw;(try dsimp only at hSw);go_simp<;>(with_reducible rfl))
      try simp only[Act.put,qA,qB,qC,qD,qE,qF]
      refine wpAnyH_take (i:=22) (v:=?_) rfl (by kernel_rfl) (by kernel_rfl) (by kernel_rfl) (fun _ _ _ h=>h) (Or.inl ⟨by rfl,?_⟩) (by assumption) ?_;rotate_left 1
      ·(intro w hSw;(try dsimp only at hSw);go_simp<;>(with_reducible rfl))
      try simp only[Act.put,qA,qB,qC,qD,qE,qF]
      refine wpAnyH_done (by kernel_rfl) ?_ _;refine NoPanic.normal ?_;have b9:=hw;clear hw;go_wp2_with fail;go_roundw
      case rel=>exact⟨(m+1)+1,hlt,by go_num,less_more HJ.out HO.out,Below.more HW.out b9⟩
      case measure=>simp[intOf];omega
  ·obtain rfl:k=l.length:=by omega
   have HR:=zh (Fx.mayF_end HJ.out);have HW:=zh hw;clear hw
   go_wp2_with fail;go_ret;exact⟨ret_bool (by rw[HR.out]),HW.out⟩
theorem fg_no(p:Option Addr)(c:Nat)(l:List Fx.Fix)(u:List UInt8)(t:Int)(w:World)(hc:l.length≤c)(hl:l.length≤4611686018427387904)(h:Fxs w p l)
  (CM:Hid (∀v,Below w.heap.size w v→Calls Tryz.prog 27 #[.slice p l.length c] v (GiveB v false))) :
  Calls Tryz.prog 34 #[.slice p l.length c,.string ⟨u.toArray⟩,.int .i64 t] w (GiveG w (none)):=by
 have HS:=zh h;clear h;go_enter Tryz.func34,Tryz.ntmps34;go_wp2_with fail;obtain⟨W,hW,BW,sW,r0,r1,r2,r3⟩:=box0z w (.string ⟨#[]⟩) (.string ⟨#[]⟩) 23;rw[hW];clear hW;have b0:=Below.refl W.heap.size W;go_wp2_with fail
 go_loopw [8] (fun i wr=>∃k:Nat,k≤l.length∧i=.int .i64 k∧Below W.heap.size W wr) (fun i _=>l.length-(intOf i).toNat)
 case atStart=>exact⟨0,Nat.zero_le _,rfl,Below.refl _ _⟩
 case round =>
  obtain⟨k,hk,rfl,hw⟩:=hrel;by_cases hlt:k<l.length
  ·obtain⟨⟨⟨a,d⟩,⟨n,e⟩⟩,hx⟩:∃x,l[k]?=some x:=⟨_,List.getElem?_eq_getElem hlt⟩;obtain⟨b,o,rfl,k0,k1,k2,k3⟩:=fx_rule (HS.out.below BW) hx;have HX:=zh hx;clear hx;by_cases e0:a=u
   ·have q0:(a==u)=true:=by rw[beq_iff_eq];exact e0
    by_cases e1:d=t
    ·clear e0;go_wp2_with fail;refine(CM.out _ (Below.more BW hw)).mono ?_;rintro e' w1 ⟨rfl,b⟩;have b1:=Below.more hw b;clear b;go_wp2_with fail;go_roundw
     case rel=>exact⟨k+1,hlt,by go_num,b1⟩
     case measure=>simp[intOf];omega
    ·clear e0;go_wp2_with fail;go_roundw
     case rel=>exact⟨k+1,hlt,by go_num,hw⟩
     case measure=>simp[intOf];omega
   ·have q0:(a==u)=false:=beq_false_of_ne e0;clear e0;go_wp2_with fail;go_roundw
    case rel=>exact⟨k+1,hlt,by go_num,hw⟩
    case measure=>simp[intOf];omega
  ·obtain rfl:k=l.length:=by omega
   go_wp2_with fail;refine bodyPost_ret (v:=.tuple #[.agg #[.string ⟨#[]⟩,.string ⟨#[]⟩],.bool false]) (by simp[results,Tryz.results34,go_sem, *]) rfl ⟨rfl,?_⟩;exact put2 (Below.more BW hw) (Nat.le_refl _) _ _
theorem fg_yes(p:Option Addr)(c:Nat)(l:List Fx.Fix)(u:List UInt8)(t:Int)(w:World)(hc:l.length≤c)(hl:l.length≤4611686018427387904)(h:Fxs w p l)(hg:Fx.GoodF l)
  (CM:Hid (∀v,Below w.heap.size w v→Calls Tryz.prog 27 #[.slice p l.length c] v (GiveB v true))) :
  Calls Tryz.prog 34 #[.slice p l.length c,.string ⟨u.toArray⟩,.int .i64 t] w (GiveG w (Fx.getF l (u,t))):=by
 have HS:=zh h;clear h;have HG:=zh hg;clear hg;go_enter Tryz.func34,Tryz.ntmps34;go_wp2_with fail;obtain⟨W,hW,BW,sW,r0,r1,r2,r3⟩:=box0z w (.string ⟨#[]⟩) (.string ⟨#[]⟩) 23;rw[hW];clear hW;have b0:=Below.refl W.heap.size W;go_wp2_with fail
 go_loopw [8] (fun i wr=>∃k:Nat,k≤l.length∧i=.int .i64 k∧Hid (∀ (j:Nat) (x:Fx.Fix),j<k→l[j]?=some x→x.1≠(u,t))∧Below W.heap.size W wr) (fun i _=>l.length-(intOf i).toNat)
 case atStart=>exact⟨0,Nat.zero_le _,rfl,fun j x h=>absurd h (Nat.not_lt_zero j),Below.refl _ _⟩
 case round =>
  obtain⟨k,hk,rfl,HJ,hw⟩:=hrel;by_cases hlt:k<l.length
  ·obtain⟨⟨⟨a,d⟩,⟨n,e⟩⟩,hx⟩:∃x,l[k]?=some x:=⟨_,List.getElem?_eq_getElem hlt⟩;obtain⟨b,o,rfl,k0,k1,k2,k3⟩:=fx_rule (HS.out.below BW) hx;have HX:=zh hx;clear hx;by_cases e0:a=u
   ·have q0:(a==u)=true:=by rw[beq_iff_eq];exact e0
    by_cases e1:d=t
    ·have HO:Hid (Fx.getF l (u,t)=some (n,e)):=zh (by have k:=Fx.get_in HG.out (List.mem_of_getElem? HX.out);rw[←e0,← e1];exact k);clear e0;go_wp2_with fail;refine(CM.out _ (Below.more BW hw)).mono ?_;rintro e' w1 ⟨rfl,b⟩;have b1:=Below.more hw b;clear b;go_wp2_with fail;refine bodyPost_ret (v:=.tuple #[.agg #[.string ⟨n.toArray⟩,.string ⟨e.toArray⟩],.bool true]) (by simp[results,Tryz.results34,go_sem, *]) rfl ⟨by rw[HO.out];rfl,?_⟩;exact put2 (Below.more BW b1) (Nat.le_refl _) _ _
    ·have HO:Hid ((((a,d),(n,e)):Fx.Fix).1≠(u,t)):=zh (fun e=>e1 (congrArg Prod.snd e));clear e0;go_wp2_with fail;go_roundw
     case rel=>exact⟨k+1,hlt,by go_num,moreK (P:=fun _ y=>y.1≠(u,t)) HJ.out HX.out HO.out,hw⟩
     case measure=>simp[intOf];omega
   ·have q0:(a==u)=false:=beq_false_of_ne e0;have HO:Hid ((((a,d),(n,e)):Fx.Fix).1≠(u,t)):=zh (fun e=>e0 (congrArg Prod.fst e));clear e0;go_wp2_with fail;go_roundw
    case rel=>exact⟨k+1,hlt,by go_num,moreK (P:=fun _ y=>y.1≠(u,t)) HJ.out HX.out HO.out,hw⟩
    case measure=>simp[intOf];omega
  ·obtain rfl:k=l.length:=by omega
   have HR:Hid (Fx.getF l (u,t)=none):=zh (by unfold Fx.getF;rw[Fx.good_iffF.2 HG.out,if_pos rfl];exact Fx.raw_no fun x hx=>(List.mem_iff_getElem?.1 hx).elim fun j hj=>HJ.out j x (List.getElem?_eq_some_iff.1 hj).1 hj);go_wp2_with fail;refine bodyPost_ret (v:=.tuple #[.agg #[.string ⟨#[]⟩,.string ⟨#[]⟩],.bool false]) (by simp[results,Tryz.results34,go_sem, *]) rfl ⟨by first|rfl|(rw[HR.out];rfl),?_⟩;exact put2 (Below.more BW hw) (Nat.le_refl _) _ _
theorem rfget_any(p:Option Addr)(c:Nat)(l:List Fx.Fix)(u:List UInt8)(t:Int)(w:World)(hc:l.length≤c)(hl:l.length≤4611686018427387904)(hz:∀x∈l,SzX x)(h:Fxs w p l) :
  Calls Tryz.prog 34 #[.slice p l.length c,.string ⟨u.toArray⟩,.int .i64 t] w (GiveG w (Fx.getF l (u,t))):=by
 have cm:=fun v (hv:Below w.heap.size w v)=>rfmay_any p c l v hc hl hz (h.below hv)
 cases hm:Fx.mayF l with
 | false =>
  have e:Fx.getF l (u,t)=none:=by unfold Fx.getF;rw[hm];rfl
  rw[e];rw[hm]at cm;exact fg_no p c l u t w hc hl h (zh cm)
 | true=>rw[hm]at cm;exact fg_yes p c l u t w hc hl h (Fx.good_iffF.1 hm) (zh cm)
end Go.Proofs.YthgopcnagecbaaaGreatDoor
