/- The program's terms: the library's functions on slices of nodes, and of terms. -/
import Derived.Lib.BufferMore
import Derived.Test.YtdeinhkdphgfaaaGreatDoorAllTmA
import Derived.Test.YtdeinhkdphgfaaaGreatDoorTermApi
import Derived.Test.YtdeinhkdphgfaaaGreatDoorRowsGM
namespace Go.Proofs.YtdeinhkdphgfaaaGreatDoor
open Go.RowKit
set_option linter.unusedSimpArgs false
set_option linter.unusedVariables false
open Tm (Nd Tr arN arI astB okN)
def encZ (n : Nat) : List Value := [.int .i64 (n : Int)]
theorem encZ_one (n : Nat) : ∀ v ∈ encZ n, v.oneCell' = true := fun v hv => by
 obtain rfl := List.mem_singleton.1 hv; rfl
theorem rows_none {α : Type} {enc : α → List Value} {k : Nat} {w : World} {l : List α} (h : RowsG enc k w none l) : l = [] := by
 cases l with
 | nil => rfl
 | cons x r => obtain ⟨b, o, hp, _⟩ := h 0 x rfl; cases hp
theorem own_nil {α : Type} {enc : α → List Value} {k : Nat} {e : TypeId} {B : Nat} (w : World) : OwnG enc k e B w (.slice none 0 0) ([] : List α) := World.ownsRow_nil _ _ _ _
set_option maxRecDepth 100000 in
set_option maxHeartbeats 4000000 in
theorem tclone_z (p : Option Addr) (c : Nat) (l : List Nat) (w : World) (hl : l.length ≤ 1000000) (h : RowsG encZ 1 w p l) :
  Calls Tryz.prog 40 #[.slice p l.length c] w fun e w' => ∃ v, e = .returned v ∧ OwnG encZ 1 3 w.heap.size w' v l ∧ Below w.heap.size w w' := by
 cases p with
 | none =>
  obtain rfl := rows_none h
  have hnil := fun w => Lib.run_eql_slice_nil_nil (P := Tryz.prog) w (t := 43) 0 c Tryz.underlying43
  go_enter Tryz.func40, Tryz.ntmps40
  go_wp2_with fail
  go_ret
  exact ⟨_, rfl, own_nil _, Below.refl _ _⟩
 | some ad =>
  have HS := Lib.hid h; clear h
  have hnil := fun w => Lib.run_eql_slice_some_nil (P := Tryz.prog) w (t := 43) ad l.length c Tryz.underlying43
  go_enter Tryz.func40, Tryz.ntmps40
  go_wp2_with (at_builtin; refine haltG ?_)
  show wpList _ _ _ _ _ _
  have bN : Below w.heap.size w (w.alloc (.cells #[] 3)) := Below.alloc (Below.refl _ _) (Nat.le_refl _) _
  have oN := ownG_empty (enc := encZ) (k := 1) (e := 3) (B := w.heap.size) w (Nat.le_refl _)
  refine wpList_append_M rfl _ _ 43 3 rfl Tryz.underlying43 numInfo rfl (by decide) (by decide) (fun _ => rfl) encZ_one w.heap.size _ _ rfl oN (some ad) l c rfl (RowsG.below HS.out bN) (by simp) (by omega) (Below.size bN) ?_
  intro v w1 ho hgr hloc
  rw [List.nil_append] at ho
  have X := Lib.hid ho; have Y := Lib.hid (Below.grown bN hgr (Below.size bN) fun j hj => (World.ownsRow.lt oN j hj).1)
  clear ho hgr hloc oN bN
  go_wp2_with fail
  go_ret
  exact ⟨_, rfl, X.out, Y.out⟩
set_option maxRecDepth 100000 in
set_option maxHeartbeats 4000000 in
theorem tclone_n (p : Option Addr) (c : Nat) (l : List Nd) (w : World) (hl : l.length ≤ 1000000) (h : RowsG encD 6 w p l) :
  Calls Tryz.prog 41 #[.slice p l.length c] w fun e w' => ∃ v, e = .returned v ∧ OwnG encD 6 41 w.heap.size w' v l ∧ Below w.heap.size w w' := by
 cases p with
 | none =>
  obtain rfl := rows_none h
  have hnil := fun w => Lib.run_eql_slice_nil_nil (P := Tryz.prog) w (t := 23) 0 c Tryz.underlying23
  go_enter Tryz.func41, Tryz.ntmps41
  go_wp2_with fail
  go_ret
  exact ⟨_, rfl, own_nil _, Below.refl _ _⟩
 | some ad =>
  have HS := Lib.hid h; clear h
  have hnil := fun w => Lib.run_eql_slice_some_nil (P := Tryz.prog) w (t := 23) ad l.length c Tryz.underlying23
  go_enter Tryz.func41, Tryz.ntmps41
  go_wp2_with (at_builtin; refine haltG ?_)
  show wpList _ _ _ _ _ _
  have bN : Below w.heap.size w (w.alloc (.cells #[] 41)) := Below.alloc (Below.refl _ _) (Nat.le_refl _) _
  have oN := ownG_empty (enc := encD) (k := 6) (e := 41) (B := w.heap.size) w (Nat.le_refl _)
  refine wpList_append_M rfl _ _ 23 41 rfl Tryz.underlying23 ndInfo rfl (by decide) (by decide) (fun _ => rfl) encD_one w.heap.size _ _ rfl oN (some ad) l c rfl (RowsG.below HS.out bN) (by simp) (by omega) (Below.size bN) ?_
  intro v w1 ho hgr hloc
  rw [List.nil_append] at ho
  have X := Lib.hid ho; have Y := Lib.hid (Below.grown bN hgr (Below.size bN) fun j hj => (World.ownsRow.lt oN j hj).1)
  clear ho hgr hloc oN bN
  go_wp2_with fail
  go_ret
  exact ⟨_, rfl, X.out, Y.out⟩
set_option maxRecDepth 100000 in
set_option maxHeartbeats 4000000 in
theorem tindex_any (p : Option Addr) (c : Nat) (t : List Nd) (w : World) (hl : t.length ≤ 1000000) (hz : ∀ x ∈ t, x.num.1.length ≤ 100000 ∧ x.num.2.length ≤ 100000) (h : Nds w p t) :
  Calls Tryz.prog 46 #[.slice p t.length c, .func (.func 31) #[] #[]] w fun e w' => ∃ i : Int, e = .returned (.int .i64 i) ∧ (t.all okN = true → i = -1) ∧ (t.all okN = false → 0 ≤ i) ∧ Below w.heap.size w w' := by
 have HS := Lib.hid h; have HZ := Lib.hid hz; clear h hz
 go_enter Tryz.func46, Tryz.ntmps46
 go_wp2
 go_loopw [8] (fun i wr => ∃ k : Nat, k ≤ t.length ∧ i = .int .i64 k ∧ Hid (∀ j z, j < k → t[j]? = some z → okN z = true) ∧ Below w.heap.size w wr) (fun i _ => t.length - (intOf i).toNat)
 case atStart => exact ⟨0, Nat.zero_le _, rfl, fun j z h => absurd h (Nat.not_lt_zero j), Below.refl _ _⟩
 case round =>
  obtain ⟨k, hk, rfl, HJ, hw⟩ := hrel
  by_cases hlt : k < t.length
  ·obtain ⟨x, hx⟩ : ∃ x, t[k]? = some x := ⟨_, List.getElem?_eq_getElem hlt⟩
   obtain ⟨b', o', rfl, k0, k1, k2, k3, k4, k5⟩ := nds_rule (HS.out.below hw) hx
   have hzx := HZ.out x (List.mem_of_getElem? hx)
   have cc := tmay_any x wr hzx.1 hzx.2
   have bw := Below.refl wr.heap.size wr
   have q0 := k0 _ bw; have q1 := k1 _ bw; have q2 := k2 _ bw; have q3 := k3 _ bw; have q4 := k4 _ bw; have q5 := k5 _ bw
   cases he : okN x with
   | true =>
    rw [he] at cc
    have HJ2 : Hid (∀ j z, j < k + 1 → t[j]? = some z → okN z = true) := Lib.hid fun j z hj hz => by
     rcases Nat.lt_or_eq_of_le (Nat.le_of_lt_succ hj) with g | g
     ·exact HJ.out j z g hz
     ·subst g; rw [hx] at hz; obtain rfl := Option.some.inj hz; exact he
    have CK := Lib.hid cc
    have HW := Lib.hid hw
    clear cc hx he hw bw k0 k1 k2 k3 k4 k5 hzx
    go_wp2_with fail
    refine CK.out.mono ?_
    rintro e w1 ⟨rfl, b1⟩
    go_wp2_with fail
    go_roundw
    case rel => exact ⟨k + 1, hlt, by go_num, HJ2.out, Below.more HW.out b1⟩
    case measure => simp [intOf]; omega
   | false =>
    rw [he] at cc
    have HO : Hid (t.all okN = false) := Lib.hid (by
     cases e : t.all okN with
     | false => rfl
     | true =>
      have := List.all_eq_true.1 e x (List.mem_of_getElem? hx)
      rw [he] at this; cases this)
    have CK := Lib.hid cc
    have HW := Lib.hid hw
    clear cc hx he hw bw k0 k1 k2 k3 k4 k5 hzx
    go_wp2_with fail
    refine CK.out.mono ?_
    rintro e w1 ⟨rfl, b1⟩
    go_wp2_with fail
    go_ret
    exact ⟨_, rfl, (fun h => by rw [HO.out] at h; cases h), fun _ => by omega, Below.more HW.out b1⟩
  ·obtain rfl : k = t.length := by omega
   have HO : Hid (t.all okN = true) := Lib.hid (List.all_eq_true.2 fun x hx => by
    obtain ⟨j, hj⟩ := List.getElem?_of_mem hx
    exact HJ.out j x (List.getElem?_eq_some_iff.1 hj).1 hj)
   have HW := Lib.hid hw
   clear hw
   go_wp2_with fail
   go_ret
   exact ⟨_, rfl, fun _ => rfl, (fun h => by rw [HO.out] at h; cases h), HW.out⟩
set_option maxRecDepth 100000 in
set_option maxHeartbeats 4000000 in
theorem tcontains_any (p : Option Addr) (c : Nat) (t : List Nd) (w : World) (hl : t.length ≤ 1000000) (hz : ∀ x ∈ t, x.num.1.length ≤ 100000 ∧ x.num.2.length ≤ 100000) (h : Nds w p t) :
  Calls Tryz.prog 30 #[.slice p t.length c, .func (.func 31) #[] #[]] w (GiveB w (!(t.all okN))) := by
 have C := Lib.hid (tindex_any p c t w hl hz h)
 have b0 := Below.refl w.heap.size w
 clear h hz
 go_enter Tryz.func30, Tryz.ntmps30
 go_wp2_with fail
 refine C.out.mono ?_
 rintro e w1 ⟨i, rfl, h1, h2, b⟩
 cases ho : t.all okN with
 | true =>
  obtain rfl := h1 ho
  go_wp2_with fail
  go_ret
  exact ⟨retB (by rw [ho] <;> rfl), Below.more b0 b⟩
 | false =>
  have hi := h2 ho
  go_wp2_with fail
  go_ret
  exact ⟨retB (by rw [ho] <;> first | rfl | simp [hi]), Below.more b0 b⟩
set_option maxRecDepth 100000 in
set_option maxHeartbeats 4000000 in
theorem tgrow_any (n : Nat) (w : World) (hn : n ≤ 1000000) :
  Calls Tryz.prog 59 #[.slice none 0 0, .int .i64 n] w fun e w' => ∃ v, e = .returned v ∧ OwnG encD 6 41 w.heap.size w' v [] ∧ Below w.heap.size w w' := by
 obtain ⟨i0, hi, hz0, hz1, hz2⟩ := info_parts ndInfo
 by_cases h0 : n = 0
 ·subst h0
  go_enter Tryz.func59, Tryz.ntmps59
  go_wp2_with fail
  go_ret
  exact ⟨_, rfl, own_nil _, Below.refl _ _⟩
 ·obtain ⟨Z, hZ⟩ : ∃ Z, Value.agg #[.int .i64 0, .string ⟨#[]⟩, .string ⟨#[]⟩, .string ⟨#[]⟩, .int .i64 0, .int .i64 0] = Z := ⟨_, rfl⟩
  have hZ6 : Z.cells.size = 6 := by rw [← hZ]; rfl
  have happ := Lib.run_append_nil_zeros (P := Tryz.prog) w 23 3 23 41 i0 Z .i64 .i64 Tryz.underlying23 Tryz.underlying3 hi (by rw [← hZ]; exact hz0) n (by omega) (by rw [hz1]; decide) (by omega) (by rw [hz2]; omega)
  have hge := grownCap_ge w n 0 41
  have hcm := grownCap_le_maxLen w n 0 41 (by unfold maxLen; omega)
  generalize grownCap w n 0 41 = cap at *
  have hn0 : (0 : Int) < (n : Int) := by omega
  have hc0 : ¬ cap = 0 := by omega
  obtain ⟨C, hC⟩ : ∃ C, Builtin.zeroCells Z.cells n ++ Builtin.zeroCells Z.cells (cap - n) = C := ⟨_, rfl⟩
  have hCs : C.size = cap * 6 := by
   rw [← hC, Array.size_append, size_zeroCells, size_zeroCells, hZ6]
   omega
  rw [hC] at happ
  clear hC h0 hZ hZ6 hz0
  go_enter Tryz.func59, Tryz.ntmps59
  go_wp2_with (at_builtin; refine Lib.wpList_append_run _ rfl _ _ _ _ rfl _ _ rfl rfl _ _ happ ?_)
  go_ret
  refine ⟨_, rfl, ⟨rfl, .inr ⟨w.heap.size, cap, C, rfl, Nat.le_refl _, heap_alloc_new w.drew _, Nat.zero_le _, hcm, hCs, ?_⟩⟩, Below.alloc (Below.refl _ _).drew (Nat.le_refl _) _⟩
  show C.toList.take (0 * 6) = []
  rw [Nat.zero_mul, List.take_zero]
theorem flat_more {l : List (List Nd)} {k : Nat} {x : List Nd} (hx : l[k]? = some x) : (l.take (k + 1)).flatten = (l.take k).flatten ++ x := by
 rw [List.take_add_one, hx, List.flatten_append]
 congr 1
 show x ++ [] = x
 rw [List.append_nil]
theorem flat_le (l : List (List Nd)) (k : Nat) : (l.take k).flatten.length ≤ l.flatten.length := by
 have e : l.flatten = (l.take k).flatten ++ (l.drop k).flatten := by rw [← List.flatten_append, List.take_append_drop]
 rw [e, List.length_append]; omega
def fL (l : List (List Nd)) (k : Nat) : Nat := (l.take k).flatten.length
theorem fL_more {l : List (List Nd)} {k : Nat} {x : List Nd} (hx : l[k]? = some x) : fL l (k + 1) = fL l k + x.length := by
 unfold fL
 rw [flat_more hx, List.length_append]
set_option maxRecDepth 100000 in
set_option maxHeartbeats 4000000 in
theorem tconcat_any (p : Option Addr) (c : Nat) (l : List (List Nd)) (w : World) (hl : l.length ≤ 100) (hf : l.flatten.length ≤ 1999) (h : Trms w p l) :
  Calls Tryz.prog 43 #[.slice p l.length c] w fun e w' => ∃ v, e = .returned v ∧ OwnG encD 6 41 w.heap.size w' v l.flatten ∧ Below w.heap.size w w' := by
 have HF : Hid (∀ k, (l.take k).flatten.length ≤ 1999) := Lib.hid fun k => Nat.le_trans (flat_le l k) hf
 have HT := Lib.hid h
 have b0 := Below.refl w.heap.size w
 clear h hf
 go_enter Tryz.func43, Tryz.ntmps43
 go_wp2
 go_loop [3, 11] (fun z i => ∃ k : Nat, k ≤ l.length ∧ i = .int .i64 k ∧ z = .int .i64 ((fL l k : Nat) : Int)) (fun _ i => l.length - (intOf i).toNat)
 case atStart => exact ⟨0, Nat.zero_le _, rfl, rfl⟩
 case round =>
  obtain ⟨k, hk, rfl, rfl⟩ := hrel
  by_cases hlt : k < l.length
  ·obtain ⟨x, hx⟩ : ∃ x, l[k]? = some x := ⟨_, List.getElem?_eq_getElem hlt⟩
   obtain ⟨bp, op, q, d, rfl, k0, hd, LN⟩ := HT.out.rule hx
   have hc := k0 w b0
   have h1 : fL l (k + 1) ≤ 1999 := HF.out (k + 1)
   have h2 := fL_more hx
   rw [h2] at h1
   have HN := Lib.hid h2
   clear h2 hx k0 LN
   generalize fL l k = S at *
   generalize x.length = N at *
   have hw : IntKind.i64.wrap ((S : Int) + (N : Int)) = (S : Int) + (N : Int) := IntWalk.i64_in _ (by omega)
   have hneg : ¬ ((S : Int) + (N : Int) < 0) := by omega
   go_wp2
   go_round
   case rel => exact ⟨k + 1, hlt, by go_num, by rw [HN.out]; go_num⟩
   case measure => simp [intOf]; omega
  ·obtain rfl : k = l.length := by omega
   have h3 : fL l l.length ≤ 1999 := HF.out l.length
   generalize fL l l.length = N at *
   have CG := Lib.hid (tgrow_any N)
   clear hlt
   go_wp2_with fail
   refine (CG.out _ (by omega)).mono ?_
   rintro e w1 ⟨v, rfl, hown, hbw⟩
   have hO := Lib.hid hown; have hW := Lib.hid hbw
   clear hown hbw CG h3
   go_wp2_with fail
   go_loopw [6, 27] (fun out i wr => ∃ k : Nat, k ≤ l.length ∧ i = .int .i64 k ∧ OwnG encD 6 41 w.heap.size wr out (l.take k).flatten ∧ Below w.heap.size w wr) (fun _ i _ => l.length - (intOf i).toNat)
   case atStart => exact ⟨0, Nat.zero_le _, rfl, hO.out, hW.out⟩
   case round =>
    clear hO hW
    obtain ⟨k, hk, rfl, hown, hbw⟩ := hrel
    by_cases hlt : k < l.length
    ·obtain ⟨x, hx⟩ : ∃ x, l[k]? = some x := ⟨_, List.getElem?_eq_getElem hlt⟩
     obtain ⟨bp, op, q, d, rfl, k0, hd, LN⟩ := HT.out.rule hx
     have hc := k0 wr hbw
     have HL := Lib.hid (LN.below hbw)
     have HM := Lib.hid (flat_more hx)
     have h1 := HF.out (k + 1)
     rw [HM.out, List.length_append] at h1
     have HS1 := Lib.hid h1
     have hO := Lib.hid hown; have hW := Lib.hid hbw
     clear hown hbw hx h1 k0 LN
     go_wp2_with (at_builtin; refine haltG ?_)
     show wpList _ _ _ _ _ _
     refine wpList_append_M rfl _ _ 23 41 rfl Tryz.underlying23 ndInfo rfl (by decide) (by decide) (fun _ => rfl) encD_one w.heap.size _ _ rfl hO.out q x d rfl HL.out (by have := HS1.out; omega) (by have := HS1.out; omega) hW.out.size ?_
     intro v2 w2 ho hgr hloc
     rw [← HM.out] at ho
     have HO2 := Lib.hid ho
     have HW2 := Lib.hid (Below.grown hW.out hgr hW.out.size fun j hj => (World.ownsRow.lt hO.out j hj).1)
     clear ho hgr hloc
     go_wp2_with fail
     go_roundw
     case rel => exact ⟨k + 1, hlt, by go_num, HO2.out, HW2.out⟩
     case measure => simp [intOf]; omega
    ·obtain rfl : k = l.length := by omega
     rw [List.take_length] at hown
     have hO := Lib.hid hown; have hW := Lib.hid hbw
     clear hown hbw
     go_wp2_with fail
     go_ret
     exact ⟨_, rfl, hO.out, hW.out⟩
end Go.Proofs.YtdeinhkdphgfaaaGreatDoor
/- The program's terms: what is reckoned of a term, node by node. -/
namespace Go.Proofs.YtdeinhkdphgfaaaGreatDoor
open Go.RowKit
set_option linter.unusedSimpArgs false
set_option linter.unusedVariables false
open Tm (Nd Tr arN arI astB okN formB treeOf stk mkT)
theorem grw_none {w w' : World} (h : Below w.heap.size w w') (row : Option Nat) : w.grownBy w' row := ⟨h.os, h.tape, h.output, h.size, fun k hk _ => h.block k hk⟩
structure NdS (b : Nat) (x : Nd) (w : World) : Prop where
 lt : b < w.heap.size
 c : ∀ (i : Nat) (v : Value), (encD x)[i]? = some v → w.cell? ⟨b, i, none⟩ = some v
theorem NdS.grown {b : Nat} {x : Nd} {w w' : World} {row : Option Nat} (h : NdS b x w) (hg : w.grownBy w' row) (hr : row ≠ some b) : NdS b x w' := by
 have hb : w'.heap[b]? = w.heap[b]? := hg.block b h.lt (fun e => hr e.symm)
 exact ⟨Nat.lt_of_lt_of_le h.lt hg.size, fun i v e => (World.cell?_of_block (w := w) (a := ⟨b, i, none⟩) hb).trans (h.c i v e)⟩
theorem NdS.drew {b : Nat} {x : Nd} {w : World} (h : NdS b x w) : NdS b x w.drew := ⟨h.lt, h.c⟩
theorem grw_drew (w : World) : w.grownBy w.drew none := ⟨rfl, rfl, rfl, Nat.le_refl _, fun _ _ _ => rfl⟩
section
variable {α : Type} {enc : α → List Value} {k : Nat}
theorem own_take {e : TypeId} {B : Nat} {w : World} {g : Nat} {n c q : Nat} {l : List α} (hk : ∀ x, (enc x).length = k) (h : OwnG enc k e B w (.slice (some ⟨g, 0, none⟩) n c) l) (hq : q ≤ n) : OwnG enc k e B w (.slice (some ⟨g, 0, none⟩) q c) (l.take q) := by
 rcases h.2 with ⟨h, _⟩ | ⟨g', cap, cur, hv, k2, k3, k4, k5, k6, k7⟩
 ·cases h
 ·have e1 : some (⟨g, 0, none⟩ : Addr) = some ⟨g', 0, none⟩ ∧ n = l.length ∧ c = cap := by
   injection hv with a b c
   exact ⟨a, b, c⟩
  obtain ⟨e1, rfl, rfl⟩ := e1
  cases e1
  have hql : (l.take q).length = q := by rw [List.length_take]; omega
  refine ⟨flat_len hk _, .inr ⟨g, c, cur, by rw [hql], k2, k3, by omega, k5, k6, ?_⟩⟩
  have e2 : l.flatMap enc = (l.take q).flatMap enc ++ (l.drop q).flatMap enc := by rw [← List.flatMap_append, List.take_append_drop]
  rw [hql]
  have e3 : cur.toList.take (q * k) = (cur.toList.take (l.length * k)).take (q * k) := by
   rw [List.take_take, Nat.min_eq_left (Nat.mul_le_mul_right _ hq)]
  rw [e3, k7, e2, List.take_append_of_le_length (by rw [flat_len hk, hql]; exact Nat.le_refl _), List.take_of_length_le (by rw [flat_len hk, hql]; exact Nat.le_refl _)]
theorem own_form {e : TypeId} {B : Nat} {w : World} {a : Option Addr} {n c : Nat} {l : List α} (h : OwnG enc k e B w (.slice a n c) l) :
  (a = none ∧ n = 0 ∧ c = 0 ∧ l = []) ∨ ∃ g, a = some ⟨g, 0, none⟩ ∧ B ≤ g ∧ g < w.heap.size ∧ l.length = n ∧ n ≤ c := by
 rcases h.2 with ⟨h, h0⟩ | ⟨g', cap, cur, hv, k2, k3, k4, k5, k6, k7⟩
 ·injection h with a b c
  exact .inl ⟨a, b, c, List.length_eq_zero_iff.1 h0⟩
 ·injection hv with a b c
  subst a b c
  exact .inr ⟨g', rfl, k2, (Array.getElem?_eq_some_iff.1 k3).1, rfl, k4⟩
end
theorem own_part {α : Type} {enc : α → List Value} {e : TypeId} {B : Nat} {w : World} {g n c : Nat} {l : List α} (hk : ∀ x, (enc x).length = 1) (h : OwnG enc 1 e B w (.slice (some ⟨g, 0, none⟩) n c) l) (q m : Nat) : RowsG enc 1 w (some ⟨g, q, none⟩) ((l.drop q).take m) := by
 obtain ⟨p, c', hv, _, r, _⟩ := ownG_rows hk h
 injection hv with h1 h2 h3
 subst h1
 have k1 := RowsG.part r q m
 rwa [Nat.zero_add, Nat.mul_one] at k1
structure RkI {α : Type} (enc : α → List Value) (E : TypeId) (f : Nd → List α → α) (t : List Nd) (w0 : World) (B : Nat) (I : World → Prop) (J : Nat → World → List α → Prop) (k : Nat) (st : List Tr) (a : Option Addr) (n c : Nat) (w : World) : Prop where
 own : OwnG enc 1 E B w (.slice a n c) (st.map (Tr.fold f))
 len : n = st.length
 stk : stk t k = some st
 lo : Below w0.heap.size w0 w
 sz : B ≤ w.heap.size
 inv : I w
 jj : 0 < k → ∃ m T, st.getLast? = some T ∧ J m w (T.kids.map (Tr.fold f))
def Reck {α : Type} (f : Nd → List α → α) (J : Nat → World → List α → Prop) (t : List Nd) (a : α) (w : World) : Prop := ∃ tr n, treeOf t = some tr ∧ a = tr.fold f ∧ J n w (tr.kids.map (Tr.fold f))
def szF (_ : Nd) (l : List Nat) : Nat := 1 + l.foldr (· + ·) 0
theorem stk_tree {t : List Nd} {tr : Tr} (h : stk t t.length = some [tr]) : treeOf t = some tr := by
 unfold Tm.stk at h
 rw [List.take_length] at h
 unfold treeOf
 rw [h]
theorem stk_step {α : Type} (f : Nd → List α → α) {t : List Nd} {k m : Nat} {x : Nd} {st : List Tr} (hx : t[k]? = some x) (hs : stk t k = some st) (ha : arN x.op = some m) (hm : m ≤ st.length) :
  ∃ S L, st = S ++ L ∧ S.length = st.length - m ∧ L.length = m ∧ stk t (k + 1) = some (S ++ [mkT x L]) ∧ (S ++ [mkT x L]).map (Tr.fold f) = S.map (Tr.fold f) ++ [f x (L.map (Tr.fold f))] ∧ (mkT x L).kids = L := by
 have h3 := Tm.arN_le ha
 have hL : (st.drop (st.length - m)).length = m := by rw [List.length_drop]; omega
 refine ⟨st.take (st.length - m), st.drop (st.length - m), (List.take_append_drop _ _).symm, by rw [List.length_take]; omega, hL, Tm.step_mk hx hs ha hm, ?_, ?_⟩
 ·rw [List.map_append, List.map_singleton, Tm.fold_mk f (by omega)]
 ·generalize st.drop (st.length - m) = L at hL
  match L, hL with
  | [], _ => rfl
  | [_], _ => rfl
  | [_, _], _ => rfl
  | [_, _, _], _ => rfl
  | _ :: _ :: _ :: _ :: _, h => simp only [List.length_cons] at h; omega
theorem nds_new (w : World) (x : Nd) (t : TypeId) : NdS w.heap.size x (w.alloc (.cells #[.int .i64 x.op, .string ⟨x.num.1.toArray⟩, .string ⟨x.num.2.toArray⟩, .string ⟨x.ast.toArray⟩, .int .i64 x.a, .int .i64 x.b] t)) :=
 ⟨by simp, fun i v e => (cell_new w _ _ _ rfl i).trans (by rw [← e, ← Array.getElem?_toList]; rfl)⟩
theorem RkI.calm {α : Type} {enc : α → List Value} {E : TypeId} {f : Nd → List α → α} {t : List Nd} {w0 : World} {B : Nat} {I : World → Prop} {J : Nat → World → List α → Prop} {k : Nat} {st : List Tr} {a : Option Addr} {n c : Nat} {w w' : World}
  (h : RkI enc E f t w0 B I J k st a n c w) (hI : Hid (∀ V V' ob, I V → V.grownBy V' ob → (∀ k, ob = some k → B ≤ k) → I V')) (hJ : Hid (∀ n V V' ob l, J n V l → V.grownBy V' ob → (∀ k, ob = some k → k < n ∧ B ≤ k) → J n V' l)) (hb : Below w.heap.size w w') : RkI enc E f t w0 B I J k st a n c w' :=
 ⟨ownG_below h.own hb, h.len, h.stk, Below.more h.lo hb, Nat.le_trans h.sz hb.size, hI.out _ _ none h.inv (grw_none hb none) (by simp), fun hk => by
  obtain ⟨m, T, h1, h2⟩ := h.jj hk
  exact ⟨m, T, h1, hJ.out _ _ _ none _ h2 (grw_none hb none) (by simp)⟩⟩
end Go.Proofs.YtdeinhkdphgfaaaGreatDoor
