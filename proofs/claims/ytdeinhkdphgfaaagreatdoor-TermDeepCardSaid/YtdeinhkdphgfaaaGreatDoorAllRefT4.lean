/- The document's Depth of a term. -/
import Derived.Test.YtdeinhkdphgfaaaGreatDoorAllRefT2
namespace Go.Proofs.YtdeinhkdphgfaaaGreatDoor
open Go.RowKit
set_option linter.unusedSimpArgs false
set_option linter.unusedVariables false
open Tm (Nd Tr arN arI formB stk fl dp ds mx mkT depthT)
structure DepI (B : Nat) (t : List Nd) (w : World) (k : Nat) (st : List Tr) (b o c : Nat) : Prop where
 rows : RowsG encN 1 w (some ⟨b, o, none⟩) (ds st)
 cap : st.length ≤ c
 stk : stk t k = some st
theorem DepI.below {B : Nat} {t : List Nd} {w w' : World} {k : Nat} {st : List Tr} {b o c : Nat} (h : DepI B t w k st b o c) (hb : Below w.heap.size w w') : DepI B t w' k st b o c := ⟨h.rows.below hb, h.cap, h.stk⟩
set_option maxRecDepth 100000 in
set_option maxHeartbeats 4000000 in
theorem rtdepth_any (p : Option Addr) (c : Nat) (t : List Nd) (w : World) (hT : Nds w p t) : Calls Tryz.prog 15 #[.slice p t.length c] w (GiveI w ((depthT t : Nat) : Int)) := by
 have C := Lib.hid (rtformed_any p c t w hT)
 have HT := Lib.hid hT
 clear hT
 cases hf : formB t with
 | false =>
  have hd := Tm.depth_no hf
  rw [hd]
  rw [hf] at C
  clear hf hd
  have b0 := Below.refl w.heap.size w
  go_enter Tryz.func15, Tryz.ntmps15
  go_wp2_with fail
  refine C.out.mono ?_
  rintro e w1 ⟨rfl, b⟩
  have b1 := Below.more b0 b
  clear b
  go_wp2_with fail
  go_ret
  exact ⟨rfl, b1⟩
 | true =>
  have HF := Lib.hid hf
  rw [hf] at C
  clear hf
  have b0 := Below.refl w.heap.size w
  obtain ⟨tr, e1, e2, _, _, hl1, hl2⟩ := Tm.form_stk HF.out
  have HS := Lib.hid e1
  have HD := Lib.hid (Tm.depth_of HF.out e2)
  clear e1 e2
  go_enter Tryz.func15, Tryz.ntmps15
  go_wp2_with fail
  refine C.out.mono ?_
  rintro e w1 ⟨rfl, b⟩
  have b1 := Below.more b0 b
  have HT1 := Lib.hid (HT.out.below b)
  clear b C HT
  go_wp2_with fail
  go_loopw [3, 4, 5, 6, 7] (fun sv iv nv dv kv wr => ∃ (k : Nat) (st : List Tr) (b o c : Nat), k ≤ t.length ∧ iv = .int .i64 k ∧ sv = .slice (some ⟨b, o, none⟩) st.length c ∧ DepI w.heap.size t wr k st b o c ∧ Below w1.heap.size w1 wr) (fun _ iv _ _ _ _ => t.length - (intOf iv).toNat)
  case atStart => exact ⟨0, [], w1.heap.size, 0, 0, Nat.zero_le _, rfl, by simp, ⟨RowsG.nil _ _, Nat.le_refl _, rfl⟩, Below.step _ (Below.refl _ _)⟩
  case round =>
   obtain ⟨k, st, b, o, cs, hk, rfl, rfl, hI, hw⟩ := hrel
   have HW := Lib.hid hw
   have HI := Lib.hid hI
   clear hw hI
   have hst : st.length ≤ t.length := by
    have e := Tm.stk_fl HI.out.stk hk
    have := Tm.len_fl st
    omega
   by_cases hlt : k < t.length
   ·have hki : (k : Int) < (t.length : Int) := by omega
    obtain ⟨x, hx⟩ : ∃ x, t[k]? = some x := ⟨_, List.getElem?_eq_getElem hlt⟩
    have HX := Lib.hid hx
    obtain ⟨bp, op, rfl, k0, _⟩ := nds_rule (HT1.out.below HW.out) hx
    obtain ⟨m, ha, hm⟩ := Tm.form_step HF.out hx HI.out.stk
    clear hx
    have b0 := Below.refl wr.heap.size wr
    go_wp2_with fail
    refine (rtarity_any x.op wr).mono ?_
    rintro e wa ⟨rfl, ba⟩
    have HW2 := Lib.hid (Below.more HW.out ba)
    have HI2 := Lib.hid (HI.out.below ba)
    clear ba k0 b0
    have hn : arI x.op = (m : Int) := by unfold arI; rw [ha]
    rw [hn]
    have S1 := Lib.hid (Tm.step_mk HX.out HI.out.stk ha hm)
    have h3 := Tm.arN_le ha
    obtain ⟨q, hq⟩ : ∃ q, st.length = q + m := ⟨st.length - m, by omega⟩
    have hsub : st.length - m = q := by omega
    rw [hsub] at S1
    obtain ⟨R, hR⟩ : ∃ R, R = (ds st).take q := ⟨_, rfl⟩
    have HRL : Hid (R.length = q) := Lib.hid (by rw [hR, List.length_take, Tm.ds_len]; omega)
    have HR : Hid (RowsG encN 1 wa (some ⟨b, o, none⟩) R) := Lib.hid fun j y hj => HI2.out.rows j y (by
     rw [hR, List.getElem?_take] at hj
     split at hj
     ·exact hj
     ·cases hj)
    obtain ⟨Dm, hDm⟩ : ∃ Dm, Dm = mx ((st.drop q).map dp) := ⟨_, rfl⟩
    have HDS : Hid (ds (st.take q ++ [mkT x (st.drop q)]) = R ++ [((Dm : Nat) : Int) + 1]) := Lib.hid (by
     unfold ds at hR ⊢
     rw [List.map_append, List.map_take, ← hR, List.map_singleton, Tm.dp_mk (by rw [List.length_drop]; omega), ← hDm]; rfl)
    have hbd : ∀ s ∈ st, dp s ≤ 2000 := fun s hs => by
     have := Tm.dp_le s; have := Tm.one_fl hs; have := Tm.stk_fl HI.out.stk hk; omega
    have HBD : Hid (∀ j, mx (((st.drop q).take j).map dp) ≤ 2000) := Lib.hid fun j => Tm.mx_le fun a ha => by
     obtain ⟨s, hs, rfl⟩ := List.mem_map.1 ha
     exact hbd s (List.mem_of_mem_drop (List.mem_of_mem_take hs))
    have hDb : Dm ≤ 2000 := by
     have := HBD.out (st.drop q).length
     rwa [List.take_length, ← hDm] at this
    have HQ : Hid (q ≤ 2000) := Lib.hid (by omega)
    have hwr : wrap64 ((st.length : Int) - (m : Int)) = (q : Int) := (IntWalk.wrap64_in _ ⟨by omega, by omega⟩).trans (by omega)
    have hwr2 : IntKind.i64.wrap ((st.length : Int) - (m : Int)) = (q : Int) := (IntWalk.i64_in _ (by omega)).trans (by omega)
    have hcap := HI.out.cap
    have hqc : q ≤ cs := by omega
    have HLT := Lib.hid hlt
    have HEL : Hid (∀ j, q + j < st.length → ∃ E : Nat, (ds st)[q + j]? = some (E : Int) ∧ E ≤ 2000 ∧ mx (((st.drop q).take (j + 1)).map dp) = max (mx (((st.drop q).take j).map dp)) E) := Lib.hid fun j hj => by
     refine ⟨dp st[q + j], ?_, hbd _ (List.getElem_mem hj), ?_⟩
     ·unfold ds; rw [List.getElem?_map, List.getElem?_eq_getElem hj]; rfl
     ·have hj' : (st.drop q)[j]? = some st[q + j] := by rw [List.getElem?_drop, List.getElem?_eq_getElem hj]
      rw [List.take_add_one, hj', List.map_append, ← Tm.mx_snoc]; rfl
    have HEND : Hid (mx (((st.drop q).take m).map dp) = Dm) := Lib.hid (by rw [hDm, List.take_of_length_le (by rw [List.length_drop]; omega)])
    clear ha hn h3 hsub hR hDm hbd hlt
    have HQM := Lib.hid hq
    clear hq
    go_wp2_with fail
    generalize hv1 : w1.heap.size = V1 at *
    generalize hv0 : w.heap.size = V0 at *
    go_loopw [6, 7] (fun dv kv wb => ∃ j : Nat, j ≤ m ∧ dv = .int .i64 ((mx (((st.drop q).take j).map dp) : Nat) : Int) ∧ kv = .int .i64 ((q + j : Nat) : Int) ∧ Below wa.heap.size wa wb) (fun _ kv _ => st.length - (intOf kv).toNat)
    case atStart => exact ⟨0, Nat.zero_le _, rfl, rfl, Below.refl _ _⟩
    case round =>
     obtain ⟨j, hj, rfl, rfl, hwb⟩ := hrel
     by_cases hjm : j < m
     ·have hqj : q + j < st.length := by have := HQM.out; omega
      have hqji : ((q + j : Nat) : Int) < (st.length : Int) := by omega
      obtain ⟨E, hE, hEb, hnx⟩ := HEL.out j hqj
      obtain ⟨b', o', hbo, hlt', c0⟩ := (HI2.out.rows.below hwb) (q + j) _ hE
      cases hbo
      have c1 : wr.cell? ⟨b, o + (q + j), none⟩ = some (.int .i64 (E : Int)) := by
       have := c0 0 _ rfl
       rwa [Nat.mul_one] at this
      have hFb := HBD.out j
      generalize hF : mx (((st.drop q).take j).map dp) = F at *
      clear hE c0 hF
      by_cases hmx : F < E
      ·have hmx' : (F : Int) < (E : Int) := by omega
       have hx1 : max (F : Int) (E : Int) = (E : Int) := by omega
       have hx2 : max F E = E := by omega
       rw [hx2] at hnx
       go_wp2_with fail
       go_roundw
       case rel => exact ⟨j + 1, by omega, by rw [hnx], by go_num, hwb⟩
       case measure => simp [intOf]; omega
      ·have hmx' : ¬ (F : Int) < (E : Int) := by omega
       have hx1 : max (F : Int) (E : Int) = (F : Int) := by omega
       have hx2 : max F E = F := by omega
       rw [hx2] at hnx
       go_wp2_with fail
       go_roundw
       case rel => exact ⟨j + 1, by omega, by rw [hnx], by go_num, hwb⟩
       case measure => simp [intOf]; omega
     ·obtain rfl : j = m := by omega
      have hqj : ¬ ((q + j : Nat) : Int) < (st.length : Int) := by have := HQM.out; omega
      rw [HEND.out]
      generalize hwbn : wr = wb at *
      have HWB := Lib.hid hwb
      clear hwb
      subst hv0 hv1
      go_wp2_with (at_builtin; refine haltG ?_)
      show wpList _ _ _ _ _ _
      have bN : Below wb.heap.size wb (wb.alloc (.cells #[] 3)) := Below.alloc (Below.refl _ _) (Nat.le_refl _) _
      have oN := ownG_empty (enc := encN) (k := 1) (e := 3) (B := wb.heap.size) wb (Nat.le_refl _)
      refine wpList_append_M rfl _ _ 43 3 rfl Tryz.underlying43 numInfo rfl (by decide) (by decide) (fun _ => rfl) encN_one wb.heap.size _ _ rfl oN (some ⟨b, o, none⟩) R cs (by rw [HRL.out]; rfl) (RowsG.below (HR.out.below HWB.out) bN) (by simp) (by rw [HRL.out]; have := HQ.out; omega) (Below.size bN) ?_
      intro v1 w5 ho hgr hloc
      have b5 := Lib.hid (Below.grown bN hgr (Below.size bN) fun j hj => (World.ownsRow.lt oN j hj).1)
      rw [List.nil_append] at ho
      have HO := Lib.hid ho
      clear ho hgr hloc oN bN
      go_wp2_with (at_builtin; refine haltG ?_)
      show wpList _ _ _ _ _ _
      refine wpList_append_G rfl _ _ 43 3 rfl Tryz.underlying43 numInfo rfl (by decide) (by decide) (fun _ => rfl) encN_one wb.heap.size _ _ rfl (World.ownsRow.alloc HO.out _) ⟨w5.heap.size, 0, none⟩ (((Dm : Nat) : Int) + 1) 1 rfl (rowsOne w5 (((Dm : Nat) : Int) + 1) 3 _ rfl) (by rw [HRL.out]; have := HQ.out; omega) (by have := b5.out.size; simp; omega) ?_
      intro v2 w6 ho hgr hloc
      have b6 := Lib.hid (Below.grown (Below.alloc b5.out (Below.size b5.out) _) hgr (by have := b5.out.size; simp; omega) fun j hj => (World.ownsRow.lt HO.out j hj).1)
      obtain ⟨p7, c7, rfl, hc7, l7, _⟩ := ownG_rows (enc := encN) (k := 1) (fun _ => rfl) ho
      obtain ⟨b7, o7, rfl, _, _⟩ := l7 R.length (((Dm : Nat) : Int) + 1) (by simp)
      have HW6 := Lib.hid (Below.more (Below.more HW2.out HWB.out) b6.out)
      have HN : Hid (DepI w.heap.size t w6 (k + 1) (st.take q ++ [mkT x (st.drop q)]) b7 o7 c7) := Lib.hid ⟨by rw [HDS.out]; exact l7, by rw [← Tm.ds_len, HDS.out]; exact hc7, S1.out⟩
      have HL7 : Hid (R.length + 1 = (st.take q ++ [mkT x (st.drop q)]).length) := Lib.hid (by rw [← Tm.ds_len, HDS.out, List.length_append]; rfl)
      clear ho hgr hloc HO b5 l7 hc7
      go_wp2_with fail
      go_roundw
      case rel => exact ⟨k + 1, st.take q ++ [mkT x (st.drop q)], b7, o7, c7, by have := HLT.out; omega, by go_num, by rw [HL7.out], HN.out, HW6.out⟩
      case measure => have := HLT.out; simp [intOf]; omega
   ·obtain rfl : k = t.length := by omega
    have e := HI.out.stk.symm.trans HS.out
    cases e
    obtain ⟨b', o', hbo, _, c0⟩ := HI.out.rows 0 _ rfl
    cases hbo
    have c1 : wr.cell? ⟨b, o, none⟩ = some (.int .i64 ((dp tr : Nat) : Int)) := by
     have := c0 0 _ rfl
     simpa using this
    clear c0
    go_wp2_with fail
    go_ret
    exact ⟨by rw [HD.out]; rfl, Below.more b1 HW.out⟩
end Go.Proofs.YtdeinhkdphgfaaaGreatDoor
