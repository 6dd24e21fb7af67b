/- The program's terms: depth, print, check, join. -/
import Derived.Test.YtdeinhkdphgfaaaGreatDoorAllTmB
import Derived.Test.YtdeinhkdphgfaaaGreatDoorAllTmDd
import Derived.Test.YtdeinhkdphgfaaaGreatDoorAllTmDp
namespace Go.Proofs.YtdeinhkdphgfaaaGreatDoor
open Go.RowKit
set_option linter.unusedSimpArgs false
set_option linter.unusedVariables false
open Tm (Nd Tr arN arI astB okN formB treeOf stk mkT printT checkT depthT argsT joinT dp pr mx)
theorem z_rule {w : World} {p : Option Addr} {l : List Nat} (h : RowsG encZ 1 w p l) {k : Nat} {x : Nat} (hx : l[k]? = some x) : ∃ b o, p = some ⟨b, o, none⟩ ∧ ∀ v, Below w.heap.size w v → v.cell? ⟨b, o + k, none⟩ = some (.int .i64 (x : Int)) := by
 obtain ⟨b, o, hp, hl, c⟩ := h k x hx
 have c0 := c 0 _ rfl
 rw [Nat.mul_one] at c0
 exact ⟨b, o, hp, fun v hb => (hb.cell (p := ⟨b, _, none⟩) hl).trans c0⟩
set_option maxRecDepth 100000 in
set_option maxHeartbeats 4000000 in
theorem tdepth_fn (x : Nd) (L : List Nat) (q : Option Addr) (d : Nat) (w : World) (hL : L.length ≤ 3) (hb : ∀ a ∈ L, a ≤ 2000) (hd : L.length ≤ d) (h : RowsG encZ 1 w q L) :
  Calls Tryz.prog 38 #[.agg #[.int .i64 x.op, .string ⟨x.num.1.toArray⟩, .string ⟨x.num.2.toArray⟩, .string ⟨x.ast.toArray⟩, .int .i64 x.a, .int .i64 x.b], .slice q L.length d] w (GiveI w ((Tm.dpF x L : Nat) : Int)) := by
 have HS := Lib.hid h; have HB := Lib.hid hb
 clear h hb
 go_enter Tryz.func38, Tryz.ntmps38
 go_upto_region 1 with fail
 obtain ⟨U, hU, bU, s1, r0, r1, r2, r3, r4, r5⟩ := lay6 (Below.refl w.heap.size w) (.int .i64 x.op) (.string ⟨x.num.1.toArray⟩) (.string ⟨x.num.2.toArray⟩) (.string ⟨x.ast.toArray⟩) (.int .i64 x.a) (.int .i64 x.b) 41
 rw [hU]
 clear hU s1 r0 r1 r2 r3 r4 r5
 have HU := Lib.hid bU
 clear bU
 go_wp2_with fail
 go_loopw [5, 10] (fun z i wr => ∃ k : Nat, k ≤ L.length ∧ i = .int .i64 k ∧ z = .int .i64 ((mx (L.take k) : Nat) : Int) ∧ Below w.heap.size w wr) (fun _ i _ => L.length - (intOf i).toNat)
 case atStart => exact ⟨0, Nat.zero_le _, rfl, rfl, HU.out⟩
 case round =>
  obtain ⟨k, hk, rfl, rfl, hw⟩ := hrel
  by_cases hlt : k < L.length
  ·obtain ⟨y, hy⟩ : ∃ y, L[k]? = some y := ⟨_, List.getElem?_eq_getElem hlt⟩
   obtain ⟨b, oo, rfl, k0⟩ := z_rule (HS.out.below hw) hy
   have q0 := k0 wr (Below.refl _ _)
   have HN : Hid (mx (L.take (k + 1)) = max (mx (L.take k)) y) := Lib.hid (by rw [List.take_add_one, hy]; exact Tm.mx_snoc _ _)
   have HW := Lib.hid hw
   clear hw k0 hy
   generalize mx (L.take k) = M at *
   by_cases hle : M ≤ y
   ·have hmx : max (M : Int) (y : Int) = (y : Int) := by omega
    have HN2 : Hid (mx (L.take (k + 1)) = y) := Lib.hid (by rw [HN.out]; omega)
    clear hle
    go_wp2_with fail
    go_roundw
    case rel => exact ⟨k + 1, hlt, by go_num, by rw [HN2.out] <;> first | rfl | rw [hmx], HW.out⟩
    case measure => simp [intOf]; omega
   ·have hmx : max (M : Int) (y : Int) = (M : Int) := by omega
    have HN2 : Hid (mx (L.take (k + 1)) = M) := Lib.hid (by rw [HN.out]; omega)
    clear hle
    go_wp2_with fail
    go_roundw
    case rel => exact ⟨k + 1, hlt, by go_num, by rw [HN2.out] <;> first | rfl | rw [hmx], HW.out⟩
    case measure => simp [intOf]; omega
  ·obtain rfl : k = L.length := by omega
   rw [List.take_length]
   have hM : mx L ≤ 2000 := Tm.mx_le HB.out
   have HD : Hid (Tm.dpF x L = mx L + 1) := Lib.hid rfl
   generalize mx L = M at *
   have hwr : wrap64 ((M : Int) + 1) = (M : Int) + 1 := IntWalk.wrap64_in _ ⟨by omega, by omega⟩
   have hwr2 : IntKind.i64.wrap ((M : Int) + 1) = (M : Int) + 1 := IntWalk.i64_in _ (by omega)
   have HW := Lib.hid hw
   clear hw hlt
   go_wp2_with fail
   go_ret
   exact ⟨ret_i (by rw [HD.out]; omega), HW.out⟩
theorem stk_part {t : List Nd} {k : Nat} {S L : List Tr} {x : Nd} (hx : t[k]? = some x) (h : stk t k = some (S ++ L)) : ∀ s ∈ L, s.wf ∧ s.flat.length ≤ t.length := fun s hs => by
 have hk := (List.getElem?_eq_some_iff.1 hx).1
 have e := Tm.stk_fl h (by omega)
 have h1 := Tm.one_fl (st := S ++ L) (s := s) (List.mem_append_right _ hs)
 exact ⟨(Tm.stk_flat h).2 s (List.mem_append_right _ hs), by omega⟩
set_option maxRecDepth 100000 in
set_option maxHeartbeats 4000000 in
theorem tdepth_any (p : Option Addr) (c : Nat) (t : List Nd) (w : World) (ht : t.length ≤ 2000) (hg : GoodX w) (hT : Nds w p t) : Calls Tryz.prog 14 #[.slice p t.length c] w (GiveI w ((depthT t : Nat) : Int)) := by
 have RK := Lib.hid (reck_depth p c t w w none (by simp) (fun _ => True) (fun _ _ _ => True) (Lib.hid fun _ _ _ _ _ _ => trivial) (Lib.hid fun _ _ _ _ _ _ _ _ => trivial)
  (Lib.hid fun k x S L V q d hx hs ha _ _ _ hd hr => by
   have h3 := Tm.arN_le ha
   have e : (L.map (Tr.fold Tm.dpF)).length = L.length := List.length_map _
   have k1 := tdepth_fn x (L.map (Tr.fold Tm.dpF)) q d V (by rw [e]; exact h3) (fun a ha => by
    obtain ⟨s, hs1, rfl⟩ := List.mem_map.1 ha
    have h1 := (stk_part hx hs s hs1).2
    have h2 := Tm.dp_le s
    have h2 : s.fold Tm.dpF ≤ s.flat.length := h2
    omega) (by rw [e]; exact hd) hr
   rw [e] at k1
   exact k1.mono fun e w' h => ⟨h.1, grw_none h.2 none, trivial, trivial⟩)
  trivial (Below.refl _ _) hg ht hT)
 clear hT hg
 go_enter Tryz.func14, Tryz.ntmps14
 go_wp2_with fail
 refine RK.out.mono ?_
 rintro e w1 ⟨a, rfl, hlo, _, _, hyes, hno⟩
 have HA : Hid (depthT t = a) := Lib.hid (by
  cases hf : formB t with
  | true =>
   obtain ⟨tr, n, h1, h2, _⟩ := hyes hf
   rw [Tm.depth_of hf h1, h2]; rfl
  | false => rw [Tm.depth_no hf, hno hf])
 generalize formB t = g at *
 clear hyes hno RK
 go_wp2_with fail
 go_ret
 exact ⟨ret_i (by rw [HA.out]), hlo⟩
theorem ps_len {s : Tr} (hw : s.wf) (ho : Tm.okT s) (hl : s.flat.length ≤ 2000) : (s.fold Tm.prF).length ≤ 1000000 := by
 have h := Tm.pr_len hw ho
 have h : (s.fold Tm.prF).length ≤ 140 * s.flat.length := h
 omega
theorem x_some {w : World} {q : Option Addr} {us : List (List UInt8)} (h : RowsG encX 1 w q us) (hn : us ≠ []) : ∃ b o, q = some ⟨b, o, none⟩ := by
 cases us with
 | nil => exact absurd rfl hn
 | cons x r => obtain ⟨b, o, hp, _⟩ := h 0 x rfl; exact ⟨b, o, hp⟩
set_option maxRecDepth 100000 in
set_option maxHeartbeats 4000000 in
theorem tprint_any (p : Option Addr) (c : Nat) (t : List Nd) (w : World) (ht : t.length ≤ 2000) (hz : ∀ x ∈ t, SzN x) (hg : GoodX w) (hT : Nds w p t) : Calls Tryz.prog 12 #[.slice p t.length c] w (GiveU w (printT t)) := by
 have CD := Lib.hid (tdepth_any p c t w ht hg hT)
 have CC := Lib.hid (fun V (h : Below w.heap.size w V) => tcontains_any p c t V (by omega) (fun x hx => ⟨by have := (hz x hx).1.1; omega, by have := (hz x hx).1.2.1; omega⟩) (hT.below h))
 have b0 := Below.refl w.heap.size w
 cases hf : formB t with
 | false =>
  have HP := Lib.hid (Tm.print_form hf)
  have hd := Tm.depth_no hf
  rw [hd] at CD
  clear hT hg hf hd hz
  go_enter Tryz.func12, Tryz.ntmps12
  go_wp2_with fail
  refine CD.out.mono ?_
  rintro e w1 ⟨rfl, b⟩
  have b1 := Below.more b0 b
  clear b
  go_wp2_with fail
  go_ret
  exact ⟨ret_u (by rw [HP.out]), b1⟩
 | true =>
  obtain ⟨tr, htr, he, hw, hfl, _, _⟩ := Tm.form_stk hf
  have hd : 0 < depthT t := by
   rw [Tm.depth_of hf he, Tm.dp, Tm.fold_top]
   exact Nat.succ_pos _
  have hd0 : ((depthT t : Nat) : Int) ≠ 0 := by omega
  have hdb : (((depthT t : Nat) : Int) == 0) = false := beq_false_of_ne hd0
  have hd1 : ¬ ((depthT t : Nat) : Int) = 0 := hd0
  generalize depthT t = D at *
  cases ho : t.all okN with
  | false =>
   have HP : Hid (printT t = []) := Lib.hid (by
    obtain ⟨x, hx, hk⟩ : ∃ x, x ∈ t ∧ okN x = false := by simpa using ho
    obtain ⟨i, hi⟩ := List.getElem?_of_mem hx
    exact Tm.print_bad hi hk)
   rw [ho] at CC
   clear hT hg hf hz htr he hw hfl ho
   go_enter Tryz.func12, Tryz.ntmps12
   go_wp2_with fail
   refine CD.out.mono ?_
   rintro e w1 ⟨rfl, b⟩
   have b1 := Below.more b0 b
   clear b
   go_wp2_with fail
   refine (CC.out w1 b1).mono ?_
   rintro e w2 ⟨rfl, b⟩
   have b2 := Below.more b1 b
   clear b
   go_wp2_with fail
   go_ret
   exact ⟨ret_u (by rw [HP.out]), b2⟩
  | true =>
   have hok := List.all_eq_true.1 ho
   have HP : Hid (printT t = pr tr) := Lib.hid (Tm.print_yes hf he hok)
   rw [ho] at CC
   have RK := Lib.hid (fun V (hV : Below w.heap.size w V) => reck_print p c t V V none (by simp) (fun _ => True) (fun _ _ _ => True) (Lib.hid fun _ _ _ _ _ _ => trivial) (Lib.hid fun _ _ _ _ _ _ _ _ => trivial)
    (Lib.hid fun k x S L V' q d hx hs ha hlo _ _ hd hr => by
     have h3 := Tm.arN_le ha
     have e : (L.map (Tr.fold Tm.prF)).length = L.length := List.length_map _
     have hx' := List.mem_of_getElem? hx
     have hk := hok x hx'
     obtain ⟨⟨z1, z2, z3⟩, _, z5, z6⟩ := hz x hx'
     have hs2 := Tm.stk_ok hs fun j y _ hy => hok y (List.mem_of_getElem? hy)
     have k1 := ttext_any x (.slice q L.length d) (L.map (Tr.fold Tm.prF)) V' (hg.below (Below.more hV hlo)) (by rw [e]; exact ha) hk (by omega) (by omega) (by omega) z5 z6 (fun u hu => by
      obtain ⟨s, hs1, rfl⟩ := List.mem_map.1 hu
      have h1 := stk_part hx hs s hs1
      obtain ⟨h4, h5⟩ := hs2 s (List.mem_append_right _ hs1)
      exact ps_len h4 h5 (by omega)) (fun hn => by
      obtain ⟨b, oo, hq⟩ := x_some hr hn
      exact ⟨b, oo, d, by rw [hq, e], by rw [e]; exact hd, hq ▸ hr⟩)
     exact k1.mono fun e w' h => ⟨h.1, grw_none h.2 none, trivial, trivial⟩)
    trivial (Below.refl _ _) (hg.below hV) ht (hT.below hV))
   have HF := Lib.hid hf; have HE := Lib.hid he
   clear hT hg hf hz htr he hw hfl ho hok
   go_enter Tryz.func12, Tryz.ntmps12
   go_wp2_with fail
   refine CD.out.mono ?_
   rintro e w1 ⟨rfl, b⟩
   have b1 := Below.more b0 b
   clear b
   go_wp2_with fail
   refine (CC.out w1 b1).mono ?_
   rintro e w2 ⟨rfl, b⟩
   have b2 := Below.more b1 b
   clear b
   go_wp2_with fail
   refine (RK.out w2 b2).mono ?_
   rintro e w3 ⟨a, rfl, hlo, _, _, hyes, hno⟩
   have HA : Hid (printT t = a) := Lib.hid (by
    obtain ⟨tr', n, h1, h2, _⟩ := hyes HF.out
    obtain rfl : tr = tr' := Option.some.inj (HE.out.symm.trans h1)
    rw [HP.out, h2]; rfl)
   rw [HF.out]
   clear hyes hno RK CC CD HP
   go_wp2_with fail
   go_ret
   exact ⟨ret_u (by rw [HA.out]), Below.more b2 hlo⟩
theorem check_deep {t : List Nd} (h : 150 < depthT t) : checkT t = 100 := by unfold checkT; rw [if_pos (.inr (.inr h))]
theorem check_len {t : List Nd} (h : ¬ 150 < depthT t) : checkT t = if (printT t).length = 0 ∨ 20000 < (printT t).length then 100 else 0 := by
 unfold checkT
 by_cases h1 : (printT t).length = 0
 ·rw [if_pos (.inl (List.length_eq_zero_iff.1 h1)), if_pos (.inl h1)]
 ·by_cases h2 : 20000 < (printT t).length
  ·rw [if_pos (.inr (.inl h2)), if_pos (.inr h2)]
  ·rw [if_neg (by rintro (e | e | e); exact h1 (by rw [e]; rfl); exact h2 e; exact h e), if_neg (by rintro (e | e); exact h1 e; exact h2 e)]
set_option maxRecDepth 100000 in
set_option maxHeartbeats 4000000 in
theorem tcheck_any (p : Option Addr) (c : Nat) (t : List Nd) (w : World) (ht : t.length ≤ 2000) (hz : ∀ x ∈ t, SzN x) (hg : GoodX w) (hT : Nds w p t) : Calls Tryz.prog 10 #[.slice p t.length c] w (GiveI w (checkT t)) := by
 have CD := Lib.hid (tdepth_any p c t w ht hg hT)
 have CP := Lib.hid (fun V (h : Below w.heap.size w V) => tprint_any p c t V ht hz (hg.below h) (hT.below h))
 have b0 := Below.refl w.heap.size w
 clear hT hg hz
 by_cases hd : 150 < depthT t
 ·have HC := Lib.hid (check_deep hd)
  have hdi : (150 : Int) < ((depthT t : Nat) : Int) := by omega
  generalize depthT t = D at *
  clear hd
  go_enter Tryz.func10, Tryz.ntmps10
  go_wp2_with fail
  refine CD.out.mono ?_
  rintro e w1 ⟨rfl, b⟩
  have b1 := Below.more b0 b
  clear b
  go_wp2_with fail
  go_ret
  exact ⟨ret_i (by rw [HC.out]), b1⟩
 ·have hc := check_len hd
  have hdi : ¬ (150 : Int) < ((depthT t : Nat) : Int) := by omega
  generalize depthT t = D at *
  generalize printT t = T at *
  clear hd
  by_cases h1 : T.length = 0
  ·have HC : Hid (checkT t = 100) := Lib.hid (by rw [hc, if_pos (.inl h1)])
   have h1b : ((T.length : Int) == 0) = true := by rw [h1]; rfl
   have hT0 : T = [] := List.length_eq_zero_iff.1 h1
   subst hT0
   clear hc h1
   go_enter Tryz.func10, Tryz.ntmps10
   go_wp2_with fail
   refine CD.out.mono ?_
   rintro e w1 ⟨rfl, b⟩
   have b1 := Below.more b0 b
   clear b
   go_wp2_with fail
   refine (CP.out w1 b1).mono ?_
   rintro e w2 ⟨rfl, b⟩
   have b2 := Below.more b1 b
   clear b
   go_wp2_with fail
   go_ret
   exact ⟨ret_i (by rw [HC.out]), b2⟩
  ·have h1i : ¬ (T.length : Int) = 0 := by omega
   have h1b : ((T.length : Int) == 0) = false := beq_false_of_ne h1i
   have h1n : ¬ T = [] := fun e => h1 (by rw [e]; rfl)
   by_cases h2 : 20000 < T.length
   ·have HC : Hid (checkT t = 100) := Lib.hid (by rw [hc, if_pos (.inr h2)])
    have h2i : (20000 : Int) < (T.length : Int) := by omega
    clear hc
    go_enter Tryz.func10, Tryz.ntmps10
    go_wp2_with fail
    refine CD.out.mono ?_
    rintro e w1 ⟨rfl, b⟩
    have b1 := Below.more b0 b
    clear b
    go_wp2_with fail
    refine (CP.out w1 b1).mono ?_
    rintro e w2 ⟨rfl, b⟩
    have b2 := Below.more b1 b
    clear b
    go_wp2_with fail
    go_ret
    exact ⟨ret_i (by rw [HC.out]), b2⟩
   ·have HC : Hid (checkT t = 0) := Lib.hid (by rw [hc, if_neg (by rintro (e | e); exact h1 e; exact h2 e)])
    have h2i : ¬ (20000 : Int) < (T.length : Int) := by omega
    clear hc
    go_enter Tryz.func10, Tryz.ntmps10
    go_wp2_with fail
    refine CD.out.mono ?_
    rintro e w1 ⟨rfl, b⟩
    have b1 := Below.more b0 b
    clear b
    go_wp2_with fail
    refine (CP.out w1 b1).mono ?_
    rintro e w2 ⟨rfl, b⟩
    have b2 := Below.more b1 b
    clear b
    go_wp2_with fail
    go_ret
    exact ⟨ret_i (by rw [HC.out]), b2⟩
set_option maxRecDepth 100000 in
set_option maxHeartbeats 4000000 in
theorem tjoin_any (op : Int) (p : Option Addr) (c : Nat) (l : List (List Nd)) (w : World) (hl : l.length ≤ 100) (hf : l.flatten.length ≤ 1999) (h : Trms w p l) : Calls Tryz.prog 22 #[.int .i64 op, .slice p l.length c] w (GiveTm w (joinT op l)) := by
 have C := Lib.hid (tconcat_any p c l w hl hf h)
 have HF := Lib.hid hf
 have b0 := Below.refl w.heap.size w
 clear h hf
 go_enter Tryz.func22, Tryz.ntmps22
 go_wp2_with fail
 refine C.out.mono ?_
 rintro e w1 ⟨v, rfl, ho, b⟩
 have HO := Lib.hid ho; have HB := Lib.hid b
 clear ho b C
 go_wp2_with (at_builtin; refine haltG ?_)
 show wpList _ _ _ _ _ _
 refine wpList_append_G rfl _ _ 23 41 rfl Tryz.underlying23 ndInfo rfl (by decide) (by decide) (fun _ => rfl) encD_one w.heap.size _ _ rfl (World.ownsRow.alloc HO.out _) ⟨w1.heap.size, 0, none⟩ (Tm.plainN op) 1 rfl (rowsOne (enc := encD) (k := 6) w1 (Tm.plainN op) 41 _ rfl) (by have := HF.out; omega) (by have := HB.out.size; simp; omega) ?_
 intro v2 w2 ho2 hg2 hl2
 have HB2 := Lib.hid (Below.grown (Below.alloc HB.out HB.out.size _) hg2 (by have := HB.out.size; simp; omega) fun j hj => (World.ownsRow.lt HO.out j hj).1)
 obtain ⟨p3, c3, rfl, hc3, r3, _⟩ := ownG_rows (enc := encD) (k := 6) (fun _ => rfl) ho2
 have HR := Lib.hid r3; have HC3 := Lib.hid hc3
 generalize hjt : l.flatten ++ [Tm.plainN op] = J at *
 have HJ : Hid (joinT op l = J) := Lib.hid hjt
 clear ho2 hg2 hl2 r3 hc3 hjt
 go_wp2_with fail
 go_ret
 rw [HJ.out]
 exact ⟨⟨_, _, rfl, HC3.out, HR.out⟩, HB2.out⟩
end Go.Proofs.YtdeinhkdphgfaaaGreatDoor
