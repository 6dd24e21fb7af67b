/- Rows of terms; the document's Join. -/
import Derived.Test.YtdeinhkdphgfaaaGreatDoorAllRefT
import Derived.Test.YtdeinhkdphgfaaaGreatDoorAllRefT2
namespace Go.Proofs.YtdeinhkdphgfaaaGreatDoor
open Go.RowKit
set_option linter.unusedSimpArgs false
set_option linter.unusedVariables false
open Tm (Nd joinT plainN)
def Trms (w : World) (p : Option Addr) (l : List (List Nd)) : Prop := ∀ (j : Nat) (t : List Nd), l[j]? = some t → ∃ b o q c, p = some ⟨b, o, none⟩ ∧ b < w.heap.size ∧ w.cell? ⟨b, o + j, none⟩ = some (.slice q t.length c) ∧ t.length ≤ c ∧ Nds w q t
theorem Trms.below {w w' : World} {p : Option Addr} {l : List (List Nd)} (h : Trms w p l) (hb : Below w.heap.size w w') : Trms w' p l := fun j t ht => by
 obtain ⟨b, o, q, c, hp, hl, c0, hc, hn⟩ := h j t ht
 exact ⟨b, o, q, c, hp, Nat.lt_of_lt_of_le hl hb.size, (hb.cell (p := ⟨b, _, none⟩) hl).trans c0, hc, hn.below hb⟩
theorem Trms.rule {w : World} {p : Option Addr} {l : List (List Nd)} (h : Trms w p l) {k : Nat} {t : List Nd} (ht : l[k]? = some t) : ∃ b o q c, p = some ⟨b, o, none⟩ ∧ (∀ v, Below w.heap.size w v → v.cell? ⟨b, o + k, none⟩ = some (.slice q t.length c)) ∧ t.length ≤ c ∧ Nds w q t := by
 obtain ⟨b, o, q, c, hp, hl, c0, hc, hn⟩ := h k t ht
 exact ⟨b, o, q, c, hp, fun v hb => (hb.cell (p := ⟨b, _, none⟩) hl).trans c0, hc, hn⟩
theorem take_flat {l : List (List Nd)} {k : Nat} {t : List Nd} (h : l[k]? = some t) : (l.take (k + 1)).flatten = (l.take k).flatten ++ t := by
 rw [List.take_add_one, h]; simp
theorem take_flat_le (l : List (List Nd)) (k : Nat) : (l.take k).flatten.length ≤ l.flatten.length := by
 have e := congrArg (fun z => z.flatten.length) (List.take_append_drop k l)
 simp only [List.flatten_append, List.length_append] at e
 omega
theorem one_flat_le {l : List (List Nd)} {k : Nat} {t : List Nd} (h : l[k]? = some t) : t.length ≤ l.flatten.length := by
 have := take_flat_le l (k + 1)
 rw [take_flat h, List.length_append] at this
 omega
def GiveT (w : World) (t : List Nd) (e : Ending) (w' : World) : Prop := (∃ p c, e = .returned (.slice p t.length c) ∧ t.length ≤ c ∧ Nds w' p t ∧ ∀ a, p = some a → w.heap.size ≤ a.block) ∧ Below w.heap.size w w'
set_option maxRecDepth 100000 in
set_option maxHeartbeats 4000000 in
theorem rtjoin_any (op : Int) (p : Option Addr) (c : Nat) (l : List (List Nd)) (w : World) (hl : l.length ≤ 4611686018427387904) (hf : l.flatten.length ≤ 1000000) (hT : Trms w p l) :
  Calls Tryz.prog 23 #[.int .i64 op, .slice p l.length c] w (GiveT w (joinT op l)) := by
 have HT := Lib.hid hT; have HF := Lib.hid hf
 clear hT hf
 go_enter Tryz.func23, Tryz.ntmps23
 go_wp2_with fail
 go_loopw [5, 6] (fun ov iv wr => ∃ k : Nat, k ≤ l.length ∧ iv = .int .i64 k ∧ OwnD w.heap.size wr ov (l.take k).flatten ∧ Below w.heap.size w wr) (fun _ iv _ => l.length - (intOf iv).toNat)
 case atStart => exact ⟨0, Nat.zero_le _, rfl, ownG_empty w (Nat.le_refl _), Below.step _ (Below.refl _ _)⟩
 case round =>
  obtain ⟨k, hk, rfl, ho, hw⟩ := hrel
  have HW := Lib.hid hw; have HO := Lib.hid ho
  clear hw ho
  by_cases hlt : k < l.length
  ·have hki : (k : Int) < (l.length : Int) := by omega
   obtain ⟨t, ht⟩ : ∃ t, l[k]? = some t := ⟨_, List.getElem?_eq_getElem hlt⟩
   have HX := Lib.hid ht
   obtain ⟨b, o, q, ct, rfl, k0, hct, hN⟩ := (HT.out.below HW.out).rule ht
   have HN := Lib.hid hN
   have b0 := Below.refl wr.heap.size wr
   clear ht hN
   go_wp2_with (at_builtin; refine haltG ?_)
   show wpList _ _ _ _ _ _
   refine wpList_append_M rfl _ _ 23 41 rfl Tryz.underlying23 ndInfo rfl (by decide) (by decide) (fun _ => rfl) encD_one w.heap.size _ _ rfl HO.out q t ct rfl HN.out (by have := take_flat_le l k; have := HF.out; omega) (by have := one_flat_le HX.out; have := HF.out; omega) (Below.size HW.out) ?_
   intro v' w3 ho hg hloc
   rw [← take_flat HX.out] at ho
   have HO3 := Lib.hid ho
   have HW3 := Lib.hid (Below.grown HW.out hg (Below.size HW.out) fun j hj => (World.ownsRow.lt HO.out j hj).1)
   clear ho hg hloc HO k0 b0
   go_wp2_with fail
   go_roundw
   case rel => exact ⟨k + 1, hlt, by go_num, HO3.out, HW3.out⟩
   case measure => simp [intOf]; omega
  ·obtain rfl : k = l.length := by omega
   go_wp2_with (at_builtin; refine haltG ?_)
   show wpList _ _ _ _ _ _
   refine wpList_append_G rfl _ _ 23 41 rfl Tryz.underlying23 ndInfo rfl (by decide) (by decide) (fun _ => rfl) encD_one w.heap.size _ _ rfl (World.ownsRow.alloc HO.out _) ⟨wr.heap.size, 0, none⟩ (plainN op) 1 rfl (rowsOne wr (plainN op) 41 _ rfl) (by have := take_flat_le l l.length; have := HF.out; omega) (Below.size (Below.alloc HW.out (Below.size HW.out) _)) ?_
   intro v' w3 ho hg hloc
   rw [List.take_length] at ho
   have HW3 := Lib.hid (Below.grown (Below.alloc HW.out (Below.size HW.out) _) hg (Below.size (Below.alloc HW.out (Below.size HW.out) _)) fun j hj => (World.ownsRow.lt HO.out j hj).1)
   obtain ⟨p9, c9, rfl, hc9, l9, hb9⟩ := ownG_rows (enc := encD) (k := 6) (fun _ => rfl) ho
   have L9 := Lib.hid l9
   clear ho hg hloc HO l9
   have e9 : (l.flatten ++ [plainN op]).length = (joinT op l).length := rfl
   generalize (l.flatten ++ [plainN op]).length = n9 at *
   subst e9
   go_wp2_with fail
   go_ret
   exact ⟨⟨p9, c9, rfl, hc9, L9.out, hb9⟩, HW3.out⟩
end Go.Proofs.YtdeinhkdphgfaaaGreatDoor
/- The document's Args of a term. -/
namespace Go.Proofs.YtdeinhkdphgfaaaGreatDoor
open Go.RowKit
set_option linter.unusedSimpArgs false
set_option linter.unusedVariables false
open Tm (Nd Tr arN arI formB stk fl bgA begT argsT)
abbrev Sl := Option Addr × Nat × Nat
def encS (s : Sl) : List Value := [.slice s.1 s.2.1 s.2.2]
theorem encS_one (s : Sl) : ∀ v ∈ encS s, v.oneCell' = true := fun v hv => by
 obtain rfl := List.mem_singleton.1 hv; rfl
theorem slInfo : (Tryz.prog.info? 23).map (fun i => (i.zero, i.size, i.bytes)) = some (some (.slice none 0 0), 1, 24) := by kernel_rfl
def SlT (w : World) (vs : List Sl) (l : List (List Nd)) : Prop := vs.length = l.length ∧ ∀ (j : Nat) (s : Sl) (t : List Nd), vs[j]? = some s → l[j]? = some t → s.2.1 = t.length ∧ t.length ≤ s.2.2 ∧ Nds w s.1 t
theorem SlT.below {w w' : World} {vs : List Sl} {l : List (List Nd)} (h : SlT w vs l) (hb : Below w.heap.size w w') : SlT w' vs l := ⟨h.1, fun j s t hs ht => by
 obtain ⟨a, b, c⟩ := h.2 j s t hs ht
 exact ⟨a, b, c.below hb⟩⟩
theorem SlT.cons {w : World} {vs : List Sl} {l : List (List Nd)} {q : Option Addr} {c : Nat} {t : List Nd} (h : SlT w vs l) (hc : t.length ≤ c) (hn : Nds w q t) : SlT w ((q, t.length, c) :: vs) (t :: l) :=
 ⟨by rw [List.length_cons, List.length_cons, h.1], fun j s u hs hu => by
  cases j with
  | zero => cases hs; cases hu; exact ⟨rfl, hc, hn⟩
  | succ j => exact h.2 j s u hs hu⟩
theorem trms_of {w : World} {p : Option Addr} {vs : List Sl} {l : List (List Nd)} (h : RowsG encS 1 w p vs) (k : SlT w vs l) : Trms w p l := fun j t ht => by
 have hj := (List.getElem?_eq_some_iff.1 ht).1
 obtain ⟨s, hs⟩ : ∃ s, vs[j]? = some s := ⟨_, List.getElem?_eq_getElem (k.1 ▸ hj)⟩
 obtain ⟨b, o, hp, hl, c⟩ := h j s hs
 obtain ⟨e1, e2, e3⟩ := k.2 j s t hs ht
 have c0 := c 0 _ rfl
 rw [Nat.mul_one] at c0
 exact ⟨b, o, s.1, s.2.2, hp, hl, by rw [← e1]; exact c0, e2, e3⟩
theorem RowsG.part {α : Type} {enc : α → List Value} {k : Nat} {w : World} {b o : Nat} {l : List α} (h : RowsG enc k w (some ⟨b, o, none⟩) l) (f n : Nat) : RowsG enc k w (some ⟨b, o + f * k, none⟩) ((l.drop f).take n) := fun j x hx => by
 rw [List.getElem?_take] at hx
 split at hx
 ·rw [List.getElem?_drop] at hx
  obtain ⟨b', o', hp, hl, c⟩ := h (f + j) x hx
  cases hp
  exact ⟨b, o + f * k, rfl, hl, fun i v hv => by rw [show o + f * k + j * k + i = o + (f + j) * k + i by rw [Nat.add_mul]; omega]; exact c i v hv⟩
 ·cases hx
def GiveTs (w : World) (l : List (List Nd)) (e : Ending) (w' : World) : Prop := (∃ p c, e = .returned (.slice p l.length c) ∧ l.length ≤ c ∧ Trms w' p l) ∧ Below w.heap.size w w'
set_option maxRecDepth 100000 in
set_option maxHeartbeats 4000000 in
theorem rtargs_any (p : Option Addr) (c : Nat) (t : List Nd) (w : World) (hc : t.length ≤ c) (hT : Nds w p t) : Calls Tryz.prog 18 #[.slice p t.length c] w (GiveTs w (argsT t)) := by
 have C := Lib.hid (rtbegins_any p c t w hT)
 have HT := Lib.hid hT
 clear hT
 have b0 := Below.refl w.heap.size w
 cases hf : formB t with
 | false =>
  have hd := Tm.args_no hf
  rw [hd]
  have HF := Lib.hid hf
  clear hf hd
  go_enter Tryz.func18, Tryz.ntmps18
  go_wp2_with fail
  refine C.out.mono ?_
  rintro e w1 ⟨⟨v, rfl, _⟩, b⟩
  have b1 := Below.more b0 b
  rw [HF.out]
  clear b
  go_wp2_with fail
  go_ret
  exact ⟨⟨none, 0, rfl, Nat.le_refl _, fun j t h => by cases h⟩, b1⟩
 | true =>
  have HF := Lib.hid hf
  obtain ⟨tr, e1, e2, hw, htr, hl1, hl2⟩ := Tm.form_stk hf
  rw [Tm.args_of hf e2]
  have HW0 := Lib.hid hw; have HTR := Lib.hid htr
  have HTOP := Lib.hid (Tm.top_at htr)
  obtain ⟨ha, _⟩ := Tm.wf_top hw
  have HAR := Lib.hid ha
  have hfl := Tm.kids_fl htr
  have hm3 := Tm.arN_le ha
  generalize hm : tr.kids.length = m at *
  have HM := Lib.hid hm
  clear hf e1 e2 hw htr ha
  go_enter Tryz.func18, Tryz.ntmps18
  go_wp2_with fail
  refine C.out.mono ?_
  rintro e w1 ⟨⟨v, rfl, hv⟩, b⟩
  obtain ⟨pb, cb, rfl, hcb, hN⟩ := hv HF.out
  have b1 := Lib.hid (Below.more b0 b)
  have HN := Lib.hid hN
  have HT1 := Lib.hid (HT.out.below b)
  rw [HF.out]
  clear b C HT hv hN
  obtain ⟨bp, op, rfl, k0, _⟩ := nds_rule HT1.out HTOP.out
  have b10 := Below.refl w1.heap.size w1
  have hlm : ((t.length : Int) - 1) = ((t.length - 1 : Nat) : Int) := by omega
  have hwl : wrap64 ((t.length : Int) - 1) = ((t.length - 1 : Nat) : Int) := (IntWalk.wrap64_in _ ⟨by omega, by omega⟩).trans hlm
  have hwl2 : IntKind.i64.wrap ((t.length : Int) - 1) = ((t.length - 1 : Nat) : Int) := (IntWalk.i64_in _ (by omega)).trans hlm
  have hll : t.length - 1 < t.length := by omega
  go_wp2_with fail
  refine (rtarity_any tr.top.op w1).mono ?_
  rintro e w2 ⟨rfl, b⟩
  have b2 := Lib.hid (Below.more b1.out b)
  have HT2 := Lib.hid (HT1.out.below b)
  have HN2 := Lib.hid (HN.out.below b)
  have hn : arI tr.top.op = (m : Int) := by unfold arI; rw [HAR.out]
  rw [hn]
  clear b HT1 HN k0 b10 hn b1
  go_wp2_with fail
  generalize hv0 : w.heap.size = V0 at *
  have hfl2 : fl tr.kids = t.length - 1 := by omega
  go_loopw [6, 7, 8, 9] (fun ov ev iv fv wr => ∃ (j : Nat) (vs : List Sl) (q : Option Addr) (co : Nat), j ≤ m ∧ iv = .int .i64 j ∧ ev = .int .i64 ((fl (tr.kids.take (m - j)) : Nat) : Int) ∧ ov = .slice q vs.length co ∧ vs.length ≤ co ∧ RowsG encS 1 wr q vs ∧ SlT wr vs ((tr.kids.drop (m - j)).map Tr.flat) ∧ Below w2.heap.size w2 wr) (fun _ _ iv _ _ => m - (intOf iv).toNat)
  case atStart =>
   refine ⟨0, [], _, 0, Nat.zero_le _, rfl, ?_, rfl, Nat.le_refl _, RowsG.nil _ _, ?_, Below.step _ (Below.refl _ _)⟩
   ·rw [Nat.sub_zero, ← hm, List.take_length, hfl2]
   ·rw [Nat.sub_zero, ← hm, List.drop_length]; exact ⟨rfl, fun j s t h => by cases h⟩
  case round =>
   obtain ⟨j, vs, q, co, hj, rfl, rfl, rfl, hco, hR, hS, hw⟩ := hrel
   have HR := Lib.hid hR; have HS := Lib.hid hS; have HW := Lib.hid hw
   clear hR hS hw
   by_cases hjm : j < m
   ·have hji : (j : Int) < (m : Int) := by omega
    obtain ⟨r, hr⟩ : ∃ r, m - j = r + 1 := ⟨m - j - 1, by omega⟩
    obtain ⟨s, hs⟩ : ∃ s, tr.kids[r]? = some s := ⟨_, List.getElem?_eq_getElem (by omega)⟩
    obtain ⟨g1, g2⟩ := Tm.bgA_kid HW0.out HTR.out hs
    have g3 := Tm.fl_next hs
    have g4 := Tm.kid_part HTR.out hs
    have g5 := Tm.fl_le (l := tr.kids) (r + 1)
    have hdr : tr.kids.drop r = s :: tr.kids.drop (r + 1) := by
     obtain ⟨h1, h2⟩ := List.getElem?_eq_some_iff.1 hs
     rw [← h2, List.getElem_cons_drop]
    rw [hr] at HS ⊢
    have HN3 : Hid (SlT wr vs ((tr.kids.drop (r + 1)).map Tr.flat)) := HS
    have HD : Hid (tr.kids.drop r = s :: tr.kids.drop (r + 1)) := Lib.hid hdr
    have HE : Hid (fl (tr.kids.take (m - (j + 1))) = fl (tr.kids.take r)) := Lib.hid (by rw [show m - (j + 1) = r by omega])
    have hbe : (begT t t.length)[fl (tr.kids.take (r + 1)) - 1]? = some ((fl (tr.kids.take r) : Nat) : Int) := by
     unfold Tm.begT
     rw [List.getElem?_map, List.getElem?_range (by omega), ← g2]; rfl
    generalize hEE : fl (tr.kids.take (r + 1)) = E at *
    generalize hFF : fl (tr.kids.take r) = F at *
    have hE1 : (E : Int) - 1 = ((E - 1 : Nat) : Int) := by omega
    have hw1 : wrap64 ((E : Int) - 1) = ((E - 1 : Nat) : Int) := (IntWalk.wrap64_in _ ⟨by omega, by omega⟩).trans hE1
    have hw2 : IntKind.i64.wrap ((E : Int) - 1) = ((E - 1 : Nat) : Int) := (IntWalk.i64_in _ (by omega)).trans hE1
    have hel : E - 1 < t.length := by omega
    obtain ⟨bb, ob, rfl, cbs⟩ := (HN2.out.below HW.out).rule hbe
    have c1 := cbs wr (Below.refl _ _)
    have hFE : F ≤ E := by omega
    have hEc : E ≤ c := by omega
    have hFc : ¬ c = F := by omega
    have hFEi : (F : Int) ≤ (E : Int) := by omega
    have HG4 := Lib.hid g4; have HG3 := Lib.hid g3; have HRR := Lib.hid hr
    clear hbe cbs g1 g2 g3 g4 g5 hs hdr HS hEE hFF hr hm hfl hfl2
    go_wp2_with (at_builtin; refine haltG ?_)
    show wpList _ _ _ _ _ _
    have bN : Below wr.heap.size wr (wr.alloc (.cells #[.slice (some ⟨bp, op + F * 6, none⟩) (E - F) (c - F)] 23)) := Below.alloc (Below.refl _ _) (Nat.le_refl _) _
    have oN : OwnG encS 1 23 wr.heap.size (wr.alloc (.cells #[.slice (some ⟨bp, op + F * 6, none⟩) (E - F) (c - F)] 23)) (.slice (some ⟨wr.heap.size, 0, none⟩) 1 1) [((some ⟨bp, op + F * 6, none⟩ : Option Addr), E - F, c - F)] := World.ownsRow_lit wr #[.slice (some ⟨bp, op + F * 6, none⟩) (E - F) (c - F)] 1 (Nat.le_refl _) (by decide) rfl
    refine wpList_append_M rfl _ _ 31 23 rfl Tryz.underlying31 slInfo rfl (by decide) (by decide) (fun _ => rfl) encS_one wr.heap.size _ _ rfl oN q vs co rfl (RowsG.below HR.out bN) (by simp) (by have := HN3.out.1; rw [this, List.length_map, List.length_drop, HM.out]; omega) (Below.size bN) ?_
    intro v' w5 ho hgr hloc
    have b5 := Lib.hid (Below.grown bN hgr (Below.size bN) fun j hj => (World.ownsRow.lt oN j hj).1)
    obtain ⟨p7, c7, rfl, hc7, l7, _⟩ := ownG_rows (enc := encS) (k := 1) (fun _ => rfl) ho
    have L7 := Lib.hid l7
    have HW6 := Lib.hid (Below.more HW.out b5.out)
    have e6 : E - F = s.flat.length := by have := HG3.out; omega
    have HX : Hid (Nds w5 (some ⟨bp, op + F * 6, none⟩) s.flat) := Lib.hid (by
     have k := (HT2.out.below (Below.more HW.out b5.out)).part F s.flat.length
     rwa [HG4.out] at k)
    have HSL : Hid (SlT w5 (((some ⟨bp, op + F * 6, none⟩ : Option Addr), E - F, c - F) :: vs) ((s :: tr.kids.drop (r + 1)).map Tr.flat)) := Lib.hid (by
     rw [e6]
     exact SlT.cons (HN3.out.below b5.out) (by have := HG3.out; omega) HX.out)
    have HLN : Hid ([((some ⟨bp, op + F * 6, none⟩ : Option Addr), E - F, c - F)].append vs = ((some ⟨bp, op + F * 6, none⟩ : Option Addr), E - F, c - F) :: vs) := Lib.hid rfl
    have e8 : ([((some ⟨bp, op + F * 6, none⟩ : Option Addr), E - F, c - F)] ++ vs).length = (((some ⟨bp, op + F * 6, none⟩ : Option Addr), E - F, c - F) :: vs).length := rfl
    rw [e8] at hc7 ⊢
    have L8 : Hid (RowsG encS 1 w5 p7 (((some ⟨bp, op + F * 6, none⟩ : Option Addr), E - F, c - F) :: vs)) := L7
    generalize hV : (((some ⟨bp, op + F * 6, none⟩ : Option Addr), E - F, c - F) :: vs) = V at *
    clear ho hgr hloc oN bN l7 L7 HN3 HX e6 e8 HLN c1 hFE hEc hFc hFEi hV
    go_wp2_with fail
    go_roundw
    case rel => exact ⟨j + 1, V, p7, c7, hjm, by go_num, by rw [HE.out], rfl, hc7, L8.out, by rw [show m - (j + 1) = r by have := HRR.out; omega, HD.out]; exact HSL.out, HW6.out⟩
    case measure => simp [intOf]; omega
   ·obtain rfl : j = m := by omega
    rw [Nat.sub_self] at HS
    have hle : vs.length = (tr.kids.map Tr.flat).length := HS.out.1
    have HT9 := Lib.hid (trms_of HR.out HS.out)
    rw [hle]
    rw [hle] at hco
    clear HS HR hle
    go_wp2_with fail
    go_ret
    exact ⟨⟨q, co, rfl, hco, HT9.out⟩, by subst hv0; exact Below.more b2.out HW.out⟩
end Go.Proofs.YtdeinhkdphgfaaaGreatDoor
