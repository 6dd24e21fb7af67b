/- The program's terms: the terms that the last node takes. -/
import Derived.Test.YtdeinhkdphgfaaaGreatDoorAllTmDa
import Derived.Test.YtdeinhkdphgfaaaGreatDoorAllTmE
import Derived.Test.YtdeinhkdphgfaaaGreatDoorOpenDM
namespace Go.Proofs.YtdeinhkdphgfaaaGreatDoor
open Go.RowKit
set_option linter.unusedSimpArgs false
set_option linter.unusedVariables false
open Tm (Nd Tr arN arI astB okN formB treeOf stk mkT printT checkT depthT argsT joinT dp pr mx)
theorem ret_i2 {a b : Int} (h : a = b) : Ending.returned (.int .i64 a) = .returned (.int .i64 b) := by rw [h]
theorem grw_trans {w1 w2 w3 : World} {row : Option Nat} (h : w1.grownBy w2 row) (k : w2.grownBy w3 row) : w1.grownBy w3 row :=
 ⟨k.os.trans h.os, k.tape.trans h.tape, k.output.trans h.output, Nat.le_trans h.size k.size, fun i hi hne => (k.block i (Nat.lt_of_lt_of_le hi h.size) hne).trans (h.block i hi hne)⟩
theorem grw_set (w : World) (b i : Nat) (v : Value) : w.grownBy (w.setCell ⟨b, i, none⟩ v) (some b) :=
 ⟨rfl, rfl, rfl, by rw [size_setCell]; exact Nat.le_refl _, fun k hk hne => Below.heap_setCell w _ v k (fun c => hne (by rw [c]))⟩
structure KeepI (bx : Nat) (w : World) : Prop where
 lt : bx < w.heap.size
 c0 : ∃ v, w.cell? ⟨bx, 0, none⟩ = some v
 f0 : w.frozen? ⟨bx, 0, none⟩ = false
structure KeepJ (bx n : Nat) (w : World) (l : List Nat) : Prop where
 lt : bx < w.heap.size
 c0 : ∃ q c, w.cell? ⟨bx, 0, none⟩ = some (.slice q l.length c) ∧ l.length ≤ c ∧ RowsG encZ 1 w q l ∧ ∀ a, q = some a → n ≤ a.block
theorem KeepI.grown {bx B : Nat} {w w' : World} {ob : Option Nat} (h : KeepI bx w) (hg : w.grownBy w' ob) (hb : ∀ k, ob = some k → B ≤ k) (hB : bx < B) : KeepI bx w' := by
 have e : w'.heap[bx]? = w.heap[bx]? := hg.block bx h.lt (fun e => by have := hb bx e.symm; omega)
 obtain ⟨v, hv⟩ := h.c0
 exact ⟨Nat.lt_of_lt_of_le h.lt hg.size, ⟨v, (World.cell?_of_block (w := w) (a := ⟨bx, 0, none⟩) e).trans hv⟩, (World.frozen?_of_block (w := w) (a := ⟨bx, 0, none⟩) e).trans h.f0⟩
theorem KeepJ.grown {bx n B : Nat} {w w' : World} {ob : Option Nat} {l : List Nat} (h : KeepJ bx n w l) (hg : w.grownBy w' ob) (hb : ∀ k, ob = some k → k < n ∧ B ≤ k) (hB : bx < B) : KeepJ bx n w' l := by
 have e : w'.heap[bx]? = w.heap[bx]? := hg.block bx h.lt (fun e => by have := (hb bx e.symm).2; omega)
 obtain ⟨q, c, hq, hc, hr, hn⟩ := h.c0
 exact ⟨Nat.lt_of_lt_of_le h.lt hg.size, q, c, (World.cell?_of_block (w := w) (a := ⟨bx, 0, none⟩) e).trans hq, hc, hr.grown hg (fun a ha e => by
  have h1 := (hb _ e).1
  have h2 := hn a ha
  omega), hn⟩
def sm (l : List Nat) : Nat := l.foldr (· + ·) 0
theorem sm_snoc (l : List Nat) (a : Nat) : sm (l ++ [a]) = sm l + a := by
 induction l with
 | nil => show a + 0 = 0 + a; omega
 | cons b r ih => show b + sm (r ++ [a]) = b + sm r + a; rw [ih]; omega
theorem sm_le {l : List Nat} {n : Nat} (h : ∀ a ∈ l, a ≤ n) : sm l ≤ l.length * n := by
 induction l with
 | nil => exact Nat.zero_le _
 | cons b r ih =>
  have a := h b (List.mem_cons_self ..)
  have c := ih fun a ha => h a (List.mem_cons_of_mem _ ha)
  show b + sm r ≤ (r.length + 1) * n
  rw [Nat.add_mul]; omega
theorem z_rule2 {w : World} {p : Option Addr} {l : List Nat} (h : RowsG encZ 1 w p l) {k : Nat} {x : Nat} (hx : l[k]? = some x) : ∃ b o, p = some ⟨b, o, none⟩ ∧ ∀ v, Below w.heap.size w v → v.cell? ⟨b, o + k, none⟩ = some (.int .i64 (x : Int)) := by
 obtain ⟨b, o, hp, hl, c⟩ := h k x hx
 have c0 := c 0 _ rfl
 rw [Nat.mul_one] at c0
 exact ⟨b, o, hp, fun v hb => (hb.cell (p := ⟨b, _, none⟩) hl).trans c0⟩
theorem fold_sz (t : Tr) : t.fold szF = t.flat.length := by
 induction t with
 | t0 x => rfl
 | t1 x a ha => show 1 + (a.fold szF + 0) = _; rw [ha]; simp [Tr.flat]; omega
 | t2 x a b ha hb => show 1 + (a.fold szF + (b.fold szF + 0)) = _; rw [ha, hb]; simp [Tr.flat]; omega
 | t3 x a b c ha hb hc => show 1 + (a.fold szF + (b.fold szF + (c.fold szF + 0))) = _; rw [ha, hb, hc]; simp [Tr.flat]; omega
set_option maxRecDepth 100000 in
set_option maxHeartbeats 4000000 in
theorem targs_fn (x : Nd) (L : List Nat) (q : Option Addr) (d bx : Nat) (w : World) (hL : L.length ≤ 3) (hb : ∀ a ∈ L, a ≤ 2000) (hd : L.length ≤ d) (h : RowsG encZ 1 w q L) (hk : KeepI bx w) :
  Calls Tryz.prog 39 #[.agg #[.int .i64 x.op, .string ⟨x.num.1.toArray⟩, .string ⟨x.num.2.toArray⟩, .string ⟨x.ast.toArray⟩, .int .i64 x.a, .int .i64 x.b], .slice q L.length d, .pointer (some ⟨bx, 0, none⟩)] w (fun e w' => e = .returned (.int .i64 ((szF x L : Nat) : Int)) ∧ w.grownBy w' (some bx) ∧ KeepI bx w' ∧ KeepJ bx w.heap.size w' L) := by
 have HS := Lib.hid h; have HB := Lib.hid hb; have HK := Lib.hid hk
 clear h hb hk
 go_enter Tryz.func39, Tryz.ntmps39
 go_upto_region 1 with fail
 obtain ⟨U, hU, bU, s1, r0, r1, r2, r3, r4, r5⟩ := lay6 (Below.refl w.heap.size w) (.int .i64 x.op) (.string ⟨x.num.1.toArray⟩) (.string ⟨x.num.2.toArray⟩) (.string ⟨x.ast.toArray⟩) (.int .i64 x.a) (.int .i64 x.b) 41
 rw [hU]
 clear hU s1 r0 r1 r2 r3 r4 r5
 have HU := Lib.hid bU
 clear bU
 go_wp2_with fail
 go_loopw [6, 11] (fun z i wr => ∃ k : Nat, k ≤ L.length ∧ i = .int .i64 k ∧ z = .int .i64 ((1 + sm (L.take k) : Nat) : Int) ∧ Below w.heap.size w wr) (fun _ i _ => L.length - (intOf i).toNat)
 case atStart => exact ⟨0, Nat.zero_le _, rfl, rfl, HU.out⟩
 case round =>
  obtain ⟨k, hk, rfl, rfl, hw⟩ := hrel
  have hS : sm (L.take k) ≤ 6000 := by
   have h1 := sm_le (l := L.take k) (n := 2000) fun a ha => HB.out a (List.mem_of_mem_take ha)
   have h2 : (L.take k).length ≤ 3 := by rw [List.length_take]; omega
   have := Nat.mul_le_mul_right 2000 h2
   omega
  by_cases hlt : k < L.length
  ·obtain ⟨y, hy⟩ : ∃ y, L[k]? = some y := ⟨_, List.getElem?_eq_getElem hlt⟩
   have hy2 := HB.out y (List.mem_of_getElem? hy)
   obtain ⟨b, oo, rfl, k0⟩ := z_rule2 (HS.out.below hw) hy
   have q0 := k0 wr (Below.refl _ _)
   have HN : Hid (sm (L.take (k + 1)) = sm (L.take k) + y) := Lib.hid (by rw [List.take_add_one, hy]; exact sm_snoc _ _)
   have HW := Lib.hid hw
   clear hw k0 hy
   obtain ⟨M, hM⟩ : ∃ M, 1 + sm (L.take k) = M := ⟨_, rfl⟩
   have HN2 : Hid (1 + sm (L.take (k + 1)) = M + y) := Lib.hid (by rw [HN.out]; omega)
   have hM2 : M ≤ 6001 := by omega
   rw [hM]
   clear hM hS HN
   have hwr : wrap64 ((M : Int) + (y : Int)) = ((M + y : Nat) : Int) := (IntWalk.wrap64_in _ ⟨by omega, by omega⟩).trans (by omega)
   have hwr2 : IntKind.i64.wrap ((M : Int) + (y : Int)) = ((M + y : Nat) : Int) := (IntWalk.i64_in _ (by omega)).trans (by omega)
   go_wp2_with fail
   go_roundw
   case rel => exact ⟨k + 1, hlt, by go_num, by rw [HN2.out] <;> first | rfl | rw [hwr2] | rw [hwr], HW.out⟩
   case measure => simp [intOf]; omega
  ·obtain rfl : k = L.length := by omega
   rw [List.take_length]
   have HD : Hid (szF x L = 1 + sm L) := Lib.hid rfl
   generalize 1 + sm L = M at *
   have HW := Lib.hid hw
   have HS2 := Lib.hid (HS.out.below hw)
   have CL := Lib.hid (tclone_z q d L wr (by omega) HS2.out)
   clear hw hlt hS
   go_wp2_with fail
   refine CL.out.mono ?_
   rintro e w2 ⟨v, rfl, ho, hb2⟩
   have HB2 := Lib.hid (Below.more HW.out hb2)
   obtain ⟨p3, c3, rfl, hc3, r3, hge⟩ := ownG_rows (enc := encZ) (k := 1) (fun _ => rfl) ho
   have HK2 := Lib.hid (HK.out.grown (grw_none HB2.out none) (B := bx + 1) (by simp) (Nat.lt_succ_self _))
   have hf0 := HK2.out.f0
   obtain ⟨v0, hv0⟩ := HK2.out.c0
   have HR := Lib.hid r3
   have HGE : Hid (∀ a, p3 = some a → w.heap.size ≤ a.block) := Lib.hid fun a ha => Nat.le_trans HW.out.size (hge a ha)
   have hlt0 := HK.out.lt
   clear ho hb2 r3 hge CL
   have HG : Hid (w.grownBy (w2.setCell ⟨bx, 0, none⟩ (.slice p3 L.length c3)) (some bx)) := Lib.hid (grw_trans (grw_none HB2.out (some bx)) (grw_set w2 bx 0 _))
   have HC : Hid ((w2.setCell ⟨bx, 0, none⟩ (.slice p3 L.length c3)).cell? ⟨bx, 0, none⟩ = some (.slice p3 L.length c3)) := Lib.hid (by
    have := World.cell?_setCell_same' w2 ⟨bx, 0, none⟩ (.slice p3 L.length c3) (by rw [hv0]; rfl)
    exact this)
   go_wp2_with fail
   go_ret
   refine ⟨ret_i2 (by rw [HD.out]), HG.out, ⟨?_, ⟨_, HC.out⟩, ?_⟩, ⟨?_, p3, c3, HC.out, hc3, ?_, HGE.out⟩⟩
   ·rw [size_setCell]; exact HK2.out.lt
   ·rw [World.frozen?_setCell]; exact hf0
   ·rw [size_setCell]; exact HK2.out.lt
   ·exact HR.out.grown (grw_set w2 bx 0 _) (fun a ha e => by
     have h1 := HGE.out a ha
     have h2 : bx = a.block := Option.some.inj e
     omega)
structure OutT (ob : Option Nat) (w : World) (vs : List Sl) (l : List (List Nd)) : Prop where
 sl : SlT w vs l
 far : ∀ s ∈ vs, ∀ a, s.1 = some a → ob ≠ some a.block ∧ a.block < w.heap.size
theorem OutT.nil (w : World) (ob : Option Nat) : OutT ob w [] [] := ⟨slT_nil w, fun s h => by cases h⟩
theorem SlT.grown {w w' : World} {row : Option Nat} {vs : List Sl} {l : List (List Nd)} (h : SlT w vs l) (hg : w.grownBy w' row) (hr : ∀ s ∈ vs, ∀ a, s.1 = some a → row ≠ some a.block) : SlT w' vs l := ⟨h.1, fun j s t hs ht => by
 obtain ⟨a, b, c⟩ := h.2 j s t hs ht
 exact ⟨a, b, c.grown hg (hr s (List.mem_of_getElem? hs))⟩⟩
theorem SlT.snoc {w : World} {vs : List Sl} {l : List (List Nd)} {s : Sl} {t : List Nd} (h : SlT w vs l) (h1 : s.2.1 = t.length) (h2 : t.length ≤ s.2.2) (h3 : Nds w s.1 t) : SlT w (vs ++ [s]) (l ++ [t]) := by
 refine ⟨by rw [List.length_append, List.length_append, h.1]; rfl, fun j s' t' hs ht => ?_⟩
 by_cases hj : j < vs.length
 ·rw [List.getElem?_append_left hj] at hs
  rw [List.getElem?_append_left (h.1 ▸ hj)] at ht
  exact h.2 j s' t' hs ht
 ·rw [List.getElem?_append_right (by omega)] at hs
  rw [List.getElem?_append_right (by have := h.1; omega), ← h.1] at ht
  cases hi : j - vs.length with
  | zero =>
   rw [hi] at hs ht
   cases hs; cases ht
   exact ⟨h1, h2, h3⟩
  | succ i => rw [hi] at hs; cases hs
theorem OutT.more {w x w4 : World} {ov v2 : Value} {vs : List Sl} {l : List (List Nd)} {p5 : Option Addr} {n c5 : Nat} {t : List Nd} {o : Obj} (h : OutT ov.ownBlock w vs l) (hb : Below w.heap.size w x) (hol : ∀ k, ov.ownBlock = some k → k < w.heap.size)
  (hn : n = t.length) (hc : t.length ≤ c5) (hr : Nds x p5 t) (h5 : ∀ a, p5 = some a → w.heap.size ≤ a.block ∧ a.block < x.heap.size) (hg : (x.alloc o).grownBy w4 ov.ownBlock) (hv : v2.ownBlock = ov.ownBlock ∨ v2.ownBlock = some (x.alloc o).heap.size) : OutT v2.ownBlock w4 (vs ++ [(p5, n, c5)]) (l ++ [t]) := by
 have hsz : (x.alloc o).heap.size = x.heap.size + 1 := by simp
 have ba : Below x.heap.size x (x.alloc o) := Below.alloc (Below.refl _ _) (Nat.le_refl _) _
 have hs4 := hg.size
 have hsx := hb.size
 refine ⟨SlT.snoc (SlT.grown ((h.sl.below hb).below ba) hg fun s hs a ha => (h.far s hs a ha).1) hn hc ((hr.below ba).grown hg fun a ha e => by
  have := h5 a ha
  have := hol _ e
  omega), fun s hs a ha => ?_⟩
 rcases List.mem_append.1 hs with hs | hs
 ·obtain ⟨h1, h2⟩ := h.far s hs a ha
  refine ⟨?_, by omega⟩
  rcases hv with e | e
  ·rw [e]; exact h1
  ·rw [e]; intro e2
   have : (x.alloc o).heap.size = a.block := Option.some.inj e2
   omega
 ·rw [List.mem_singleton.1 hs] at ha
  have ha : p5 = some a := ha
  obtain ⟨h1, h2⟩ := h5 a ha
  refine ⟨?_, by omega⟩
  rcases hv with e | e
  ·rw [e]; intro e2
   have := hol _ e2
   omega
  ·rw [e]; intro e2
   have : (x.alloc o).heap.size = a.block := Option.some.inj e2
   omega
structure ArgR (w w1 : World) (t : List Nd) (ks : List Tr) (ot c j F n1 c1 O : Nat) (ov : Value) (vs : List Sl) (wr : World) : Prop where
 hF : F = Tm.fl (ks.take j)
 hn : n1 + F = t.length
 hc : c1 + F = c
 hO : O = ot + F * 6
 own : OwnG encS 1 23 w1.heap.size wr ov vs
 out : OutT ov.ownBlock wr vs ((ks.take j).map Tr.flat)
 lo : Below w.heap.size w wr
 l1 : Below w1.heap.size w1 wr
 len : vs.length ≤ 3
set_option maxRecDepth 100000 in
set_option maxHeartbeats 4000000 in
theorem targs_any (p : Option Addr) (c : Nat) (t : List Nd) (w : World) (hc : t.length ≤ c) (ht : t.length ≤ 2000) (hg : GoodX w) (hT : Nds w p t) : Calls Tryz.prog 17 #[.slice p t.length c] w (GiveTs w (argsT t)) := by
 obtain ⟨W, hW⟩ : ∃ W, w.alloc (.cells #[.slice none 0 0] 43) = W := ⟨_, rfl⟩
 have hWs : W.heap.size = w.heap.size + 1 := by rw [← hW]; simp
 have bW : Below w.heap.size w W := by rw [← hW]; exact Below.alloc (Below.refl _ _) (Nat.le_refl _) _
 have hK : KeepI w.heap.size W := by
  rw [← hW]
  exact ⟨by simp, ⟨_, cell_new w _ _ _ rfl 0⟩, by rw [frozen?_alloc_cells]; simp [World.frozen?]⟩
 have RK := Lib.hid (reck_args p c t w W w.heap.size (some w.heap.size) (fun b h => by have := Option.some.inj h; omega) (KeepI w.heap.size) (KeepJ w.heap.size)
  (Lib.hid fun V V' ob h hg hb => h.grown hg hb (by omega)) (Lib.hid fun n V V' ob l h hg hb => h.grown hg hb (by omega))
  (Lib.hid fun k x S L V q d hx hs ha _ _ hi hd hr => by
   have h3 := Tm.arN_le ha
   have e : (L.map (Tr.fold szF)).length = L.length := List.length_map _
   have k1 := targs_fn x (L.map (Tr.fold szF)) q d w.heap.size V (by rw [e]; exact h3) (fun a ha => by
    obtain ⟨s, hs1, rfl⟩ := List.mem_map.1 ha
    have hk := (List.getElem?_eq_some_iff.1 hx).1
    have e := Tm.stk_fl hs (by omega)
    have h1 := Tm.one_fl (st := S ++ L) (s := s) (List.mem_append_right _ hs1)
    rw [fold_sz]
    omega) (by rw [e]; exact hd) hr hi
   rw [e] at k1
   exact k1)
  hK bW hg ht hT)
 have HT := Lib.hid hT
 have HWs := Lib.hid hWs
 clear hT hg hK bW hWs
 cases hf : formB t with
 | false =>
  have hd := Tm.args_no hf
  rw [hd]
  have HF := Lib.hid hf
  clear hf hd
  go_enter Tryz.func17, Tryz.ntmps17
  go_wp2_with fail
  try rw [hW]
  refine RK.out.mono ?_
  rintro e w1 ⟨a, rfl, hlo, _, hki, _, _⟩
  rw [HF.out]
  clear RK hW HT
  go_wp2_with fail
  go_ret
  exact ⟨⟨none, 0, rfl, Nat.le_refl _, fun j t h => by cases h⟩, hlo⟩
 | true =>
  obtain ⟨tr, e1, e2, hw, htr, hl1, hl2⟩ := Tm.form_stk hf
  rw [Tm.args_of hf e2]
  have HF := Lib.hid hf
  have HE := Lib.hid e2
  have HTR := Lib.hid htr
  have HTOP := Lib.hid (Tm.top_at htr)
  have hfl := Tm.kids_fl htr
  obtain ⟨ha, _⟩ := Tm.wf_top hw
  have hm3 := Tm.arN_le ha
  obtain ⟨bt, ot, rfl, _⟩ := nds_rule HT.out HTOP.out
  clear hf e1 e2 hw htr ha HTOP
  go_enter Tryz.func17, Tryz.ntmps17
  go_wp2_with fail
  try rw [hW]
  refine RK.out.mono ?_
  rintro e w1 ⟨a, rfl, hlo, hsz, hki, hyes, _⟩
  obtain ⟨tr', n, h1, _, hj⟩ := hyes HF.out
  obtain rfl : tr = tr' := Option.some.inj (HE.out.symm.trans h1)
  obtain ⟨q, cq, k0, hcq, hr, _⟩ := hj.c0
  rw [HF.out]
  have HLO := Lib.hid hlo
  have HR := Lib.hid hr
  have hzl : (tr.kids.map (Tr.fold szF)).length = tr.kids.length := List.length_map _
  rw [hzl] at k0 hcq
  have hs1 : w.heap.size < w1.heap.size := by have := HWs.out; omega
  clear RK hW hyes h1 hj hlo hsz hki hr hzl
  generalize hm : tr.kids.length = m at *
  have HM := Lib.hid hm
  go_wp2_with fail
  go_loopw [0, 6, 19] (fun tv ov iv wr => ∃ (j F n1 c1 O : Nat) (vs : List Sl), j ≤ m ∧ iv = .int .i64 j ∧ tv = .slice (some ⟨bt, O, none⟩) n1 c1 ∧ ArgR w w1 t tr.kids ot c j F n1 c1 O ov vs wr) (fun _ _ iv _ => m - (intOf iv).toNat)
  case atStart => exact ⟨0, 0, t.length, c, ot, [], Nat.zero_le _, rfl, rfl, ⟨rfl, rfl, rfl, by omega, own_nil _, OutT.nil _ _, HLO.out, Below.refl _ _, by simp⟩⟩
  case round =>
   obtain ⟨j, F, n1, c1, O, vs, hj, rfl, rfl, hR⟩ := hrel
   have HA := Lib.hid hR
   have hn := hR.hn; have hcc := hR.hc
   obtain ⟨po, co, rfl, hco, _, _⟩ := ownG_rows (enc := encS) (k := 1) (fun _ => rfl) hR.own
   clear hR
   by_cases hjm : j < m
   ·have hji : (j : Int) < (m : Int) := by omega
    obtain ⟨s, hs⟩ : ∃ s, tr.kids[j]? = some s := ⟨_, List.getElem?_eq_getElem (by omega)⟩
    have g3 := Tm.fl_next hs
    have g4 := Tm.kid_part HTR.out hs
    have g5 := Tm.fl_le (l := tr.kids) (j + 1)
    have hFF := HA.out.hF
    rw [← hFF] at g3 g4
    have hz : (tr.kids.map (Tr.fold szF))[j]? = some s.flat.length := by rw [List.getElem?_map, hs, ← fold_sz]; rfl
    obtain ⟨bz, oz, rfl, cz⟩ := z_rule2 (HR.out.below HA.out.l1) hz
    have qz := cz wr (Below.refl _ _)
    have HN3 : Hid (F + s.flat.length = Tm.fl (tr.kids.take (j + 1))) := Lib.hid g3.symm
    have HTK : Hid ((tr.kids.take (j + 1)).map Tr.flat = (tr.kids.take j).map Tr.flat ++ [s.flat]) := Lib.hid (by rw [List.take_add_one, hs, List.map_append]; rfl)
    have hk1 := RowsG.part (HT.out.below HA.out.lo) F s.flat.length
    rw [g4, ← HA.out.hO] at hk1
    have HC := tclone_n (some ⟨bt, O, none⟩) c1 s.flat wr (by omega) hk1
    obtain ⟨z, hz2⟩ : ∃ z, s.flat.length = z := ⟨_, rfl⟩
    have HZ := Lib.hid hz2
    rw [hz2] at HC qz g3
    have HCL := Lib.hid HC
    have hzn : z ≤ n1 := by omega
    have hzc : z ≤ c1 := by omega
    have hne : ¬ c1 = z := by omega
    have hn1c : n1 ≤ c1 := by omega
    clear hs g3 g4 g5 hFF hz cz hk1 HC hz2
    go_wp2_with fail
    refine HCL.out.mono ?_
    rintro e x1 ⟨v, rfl, hov, hb⟩
    obtain ⟨p5, c5, rfl, hc5, r5, hge⟩ := ownG_rows (enc := encD) (k := 6) (fun _ => rfl) hov
    have h5 : ∀ a, p5 = some a → wr.heap.size ≤ a.block ∧ a.block < x1.heap.size := fun a ha => ⟨hge a ha, (World.ownsRow.lt hov a.block (by rw [ha]; rfl)).2⟩
    have HO5 := Lib.hid (ownG_below HA.out.own hb)
    have HB5 := Lib.hid hb
    have H5 := Lib.hid h5
    have HR5 := Lib.hid r5
    have HC5 := Lib.hid hc5
    rw [HZ.out]
    clear hov hb r5 hge h5 HCL hc5
    go_wp2_with (at_builtin; refine haltG ?_)
    show wpList _ _ _ _ _ _
    refine wpList_append_G rfl _ _ 31 23 rfl Tryz.underlying31 slInfo rfl (by decide) (by decide) (fun _ => rfl) encS_one w1.heap.size _ vs rfl (World.ownsRow.alloc HO5.out _) ⟨x1.heap.size, 0, none⟩ (p5, z, c5) 1 rfl (rowsOne (enc := encS) (k := 1) x1 (p5, z, c5) 23 _ rfl) (by have := HA.out.len; omega) (by have := HA.out.l1.size; have := HB5.out.size; simp; omega) ?_
    intro v2 w4 ho hgr hloc
    have hol : ∀ k, (Value.slice po vs.length co).ownBlock = some k → k < wr.heap.size := fun k h => (World.ownsRow.lt HA.out.own k h).2
    have hog : ∀ k, (Value.slice po vs.length co).ownBlock = some k → w1.heap.size ≤ k := fun k h => (World.ownsRow.lt HA.out.own k h).1
    have hs5 := HB5.out.size
    have hs6 := HA.out.l1.size
    have HOT := Lib.hid (HA.out.out.more HB5.out hol HZ.out.symm HC5.out HR5.out H5.out hgr hloc)
    have HO4 := Lib.hid ho
    have HL1 : Hid (Below w1.heap.size w1 w4) := Lib.hid (Below.grown (Below.alloc (HA.out.l1.trans (HB5.out.mono (by omega))) (by omega) _) hgr (by simp; omega) hog)
    have HLL : Hid (Below w.heap.size w w4) := Lib.hid (Below.grown (Below.alloc (Below.more HA.out.lo HB5.out) (by omega) _) hgr (by simp; omega) fun k h => by have := hog k h; omega)
    have HVL : Hid ((vs ++ [(p5, z, c5)]).length ≤ 3) := Lib.hid (by
     have h1 := HOT.out.sl.1
     rw [h1, List.length_append, List.length_map, List.length_take]
     simp; omega)
    clear ho hgr hloc hol hog hs5 hs6 HO5 HB5 H5 HR5 HC5
    go_wp2_with fail
    go_roundw
    case rel => exact ⟨j + 1, F + z, n1 - z, c1 - z, O + z * 6, vs ++ [(p5, z, c5)], hjm, by go_num, rfl, ⟨by rw [← HN3.out, HZ.out], by omega, by omega, by have := HA.out.hO; omega, HO4.out, by rw [HTK.out]; exact HOT.out, HLL.out, HL1.out, HVL.out⟩⟩
    case measure => simp [intOf]; omega
   ·obtain rfl : j = m := by omega
    have hjj : ¬ (j : Int) < (j : Int) := by omega
    have HOUT : Hid (OutT (Value.slice po vs.length co).ownBlock wr vs (tr.kids.map Tr.flat)) := Lib.hid (by
     have := HA.out.out
     rw [← hm, List.take_length] at this
     exact this)
    have HLN : Hid (vs.length = (tr.kids.map Tr.flat).length) := Lib.hid HOUT.out.sl.1
    obtain ⟨po', co', e9, hco', hro, _⟩ := ownG_rows (enc := encS) (k := 1) (fun _ => rfl) HA.out.own
    injection e9 with e9 _ e10
    subst e9 e10
    have HRO := Lib.hid hro
    clear hro
    go_wp2_with fail
    go_ret
    exact ⟨⟨_, _, ret_sl HLN.out, by rw [← HLN.out]; exact hco', trms_of HRO.out HOUT.out.sl⟩, HA.out.lo⟩
end Go.Proofs.YtdeinhkdphgfaaaGreatDoor
/- The program's term: what the laws want of it. -/
namespace Go.Proofs.YtdeinhkdphgfaaaGreatDoor
open Go.RowKit
set_option linter.unusedSimpArgs false
set_option linter.unusedVariables false
open Tm (Nd Tr arN arI astB okN formB treeOf stk mkT printT checkT depthT argsT joinT dp pr mx)
theorem termC : TermC GoodX where
 below := fun g b => g.below b
 arity := fun op w _ _ g => tarity_any op w g
 depth := fun p c t w _ ht _ h g => tdepth_any p c t w ht g h
 print := fun p c t w _ ht hz h g => tprint_any p c t w ht hz g h
 check := fun p c t w _ ht hz h g => tcheck_any p c t w ht hz g h
 args := fun p c t w hc ht _ h g => targs_any p c t w hc ht g h
 join := fun op p c l w _ _ _ hl hf h _ => tjoin_any op p c l w hl hf h
end Go.Proofs.YtdeinhkdphgfaaaGreatDoor
