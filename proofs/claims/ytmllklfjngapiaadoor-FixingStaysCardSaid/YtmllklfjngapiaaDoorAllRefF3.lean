/- The document's words on fixes: a fix more. -/
import Derived.Test.YtmllklfjngapiaaDoorAllRefF2
namespace Go.Proofs.YtmllklfjngapiaaDoor
open Go.RowKit
set_option linter.unusedSimpArgs false
set_option linter.unusedVariables false
set_option maxRecDepth 100000 in
set_option maxHeartbeats 4000000 in
theorem fs_any (p : Option Addr) (c : Nat) (l : List Fx.Fix) (a : List UInt8) (d : Int) (n e : List UInt8) (w : World) (hc : l.length ≤ c) (hl : l.length ≤ 1000000) (h : Fxs w p l)
    (CM : ∀ v, Below w.heap.size w v → Calls Tryd.prog 17 #[.slice p l.length c] v (GiveB v (Fx.mayF l)))
    (CN : ∀ v q cq, (Fx.insF l ((a, d), (n, e))).length ≤ cq → Fxs v q (Fx.insF l ((a, d), (n, e))) → Calls Tryd.prog 17 #[.slice q (Fx.insF l ((a, d), (n, e))).length cq] v (GiveB v (Fx.mayF (Fx.insF l ((a, d), (n, e)))))) :
    Calls Tryd.prog 10 #[.slice p l.length c, .agg #[.string ⟨a.toArray⟩, .int .i64 d, .string ⟨n.toArray⟩, .string ⟨e.toArray⟩]] w (GiveT w (Fx.setF l ((a, d), (n, e)))) := by
  go_enter Tryd.func10, Tryd.ntmps10
  go_upto_region 1 with fail
  obtain ⟨U, hU, BW, s1, r0, r1, r2, r3⟩ := lay4 (Below.refl w.heap.size w) (.string ⟨a.toArray⟩) (.int .i64 d) (.string ⟨n.toArray⟩) (.string ⟨e.toArray⟩) 26
  rw [hU]; clear hU s1
  have HS := Lib.hid (h.below BW)
  have hO0 := ownG_empty (enc := encX) (k := 4) (e := 26) U (Nat.le_refl _)
  have hW0 : Below U.heap.size U (U.alloc (.cells #[] 26)) := Below.alloc (Below.refl _ _) (Nat.le_refl _) _
  have HO0 := Lib.hid hO0
  have HW0 := Lib.hid hW0
  have HCM := Lib.hid CM; have HCN := Lib.hid CN
  clear h hO0 hW0 CM CN
  go_wp2_with fail
  go_loopw [6, 7, 8] (fun out lv i wr => ∃ k : Nat, k ≤ l.length ∧ i = .int .i64 k ∧ lv = .bool (laidB (l.take k) ((a, d), (n, e))) ∧ OwnX U.heap.size wr out (outF (l.take k) ((a, d), (n, e))) ∧ Below U.heap.size U wr) (fun _ _ i _ => l.length - (intOf i).toNat)
  case atStart => exact ⟨0, Nat.zero_le _, rfl, rfl, HO0.out, HW0.out⟩
  case round =>
    clear HO0 HW0
    obtain ⟨k, hk, rfl, rfl, hown, hw⟩ := hrel
    by_cases hlt : k < l.length
    · obtain ⟨⟨⟨a', d'⟩, ⟨n', e'⟩⟩, hx⟩ : ∃ x, l[k]? = some x := ⟨_, List.getElem?_eq_getElem hlt⟩
      obtain ⟨b, o, rfl, k0, k1, k2, k3⟩ := fx_rule HS.out hx
      have ht : l.take (k + 1) = l.take k ++ [((a', d'), (n', e'))] := by rw [List.take_add_one, hx]; rfl
      have ca := fun w => rfahead_any a' d' n' e' a d n e w
      have hln := out_len (l.take k) ((a, d), (n, e))
      rw [List.length_take] at hln
      have HLN : Hid ((outF (l.take k) ((a, d), (n, e))).length ≤ 1000001) := Lib.hid (by omega)
      have hO := Lib.hid hown
      clear hx hln hown
      cases hlb : laidB (l.take k) ((a, d), (n, e)) with
      | true =>
        have HL1 : Hid (laidB (l.take (k + 1)) ((a, d), (n, e)) = true) := Lib.hid (by rw [ht, laid_snoc, hlb, Bool.true_or])
        have HF1 : Hid (outF (l.take (k + 1)) ((a, d), (n, e)) = outF (l.take k) ((a, d), (n, e)) ++ [((a', d'), (n', e'))]) := Lib.hid (by rw [ht]; exact out_laid hlb)
        generalize outF (l.take k) ((a, d), (n, e)) = fs at *
        clear hlb ht ca
        have hB := Lib.hid (Nat.le_refl U.heap.size)
        go_wp2_with fail
        refine wp_region_noPanic ?_
        refine wp_region_held_drew (S := fun w' => Below U.heap.size U w') (by kernel_rfl) (hw.drew) (fun hH0 => ?_)
        refine wpAnyH_take (i := 0) (v := ?_) rfl (by kernel_rfl) (by kernel_rfl) (by kernel_rfl) (fun _ _ _ h => h) (Or.inl ⟨by rfl, ?_⟩) (by assumption) ?_
        rotate_left 1
        · (intro w hSw; (try dsimp only at hSw); go_simp <;> (with_reducible rfl))
        try simp only [Act.put, List.getElem_toArray, List.getElem_cons_succ, List.getElem_cons_zero, List.setIfInBounds_toArray, List.set_cons_zero, List.set_cons_succ]
        refine wpAnyH_take (i := 1) (v := ?_) rfl (by kernel_rfl) (by kernel_rfl) (by kernel_rfl) (fun _ _ _ h => h) (Or.inl ⟨by rfl, ?_⟩) (by assumption) ?_
        rotate_left 1
        · (intro w hSw; (try dsimp only at hSw); go_simp <;> (with_reducible rfl))
        try simp only [Act.put, List.getElem_toArray, List.getElem_cons_succ, List.getElem_cons_zero, List.setIfInBounds_toArray, List.set_cons_zero, List.set_cons_succ]
        refine wpAnyH_take (i := 2) (v := ?_) rfl (by kernel_rfl) (by kernel_rfl) (by kernel_rfl) (fun _ _ _ h => h) (Or.inl ⟨by rfl, ?_⟩) (by assumption) ?_
        rotate_left 1
        · (intro w hSw; (try dsimp only at hSw); go_simp <;> (with_reducible rfl))
        try simp only [Act.put, List.getElem_toArray, List.getElem_cons_succ, List.getElem_cons_zero, List.setIfInBounds_toArray, List.set_cons_zero, List.set_cons_succ]
        refine wpAnyH_take (i := 3) (v := undef) rfl (by kernel_rfl) (by kernel_rfl) (by kernel_rfl) (fun _ _ _ h => h) (Or.inr ⟨by rfl, rfl⟩) (by assumption) ?_
        try simp only [Act.put, List.getElem_toArray, List.getElem_cons_succ, List.getElem_cons_zero, List.setIfInBounds_toArray, List.set_cons_zero, List.set_cons_succ]
        refine wpAnyH_take (i := 4) (v := undef) rfl (by kernel_rfl) (by kernel_rfl) (by kernel_rfl) (fun _ _ _ h => h) (Or.inr ⟨by rfl, rfl⟩) (by assumption) ?_
        try simp only [Act.put, List.getElem_toArray, List.getElem_cons_succ, List.getElem_cons_zero, List.setIfInBounds_toArray, List.set_cons_zero, List.set_cons_succ]
        refine wpAnyH_take (i := 5) (v := undef) rfl (by kernel_rfl) (by kernel_rfl) (by kernel_rfl) (fun _ _ _ h => h) (Or.inr ⟨by rfl, rfl⟩) (by assumption) ?_
        try simp only [Act.put, List.getElem_toArray, List.getElem_cons_succ, List.getElem_cons_zero, List.setIfInBounds_toArray, List.set_cons_zero, List.set_cons_succ]
        refine wpAnyH_take (i := 6) (v := undef) rfl (by kernel_rfl) (by kernel_rfl) (by kernel_rfl) (fun _ _ _ h => h) (Or.inr ⟨by rfl, rfl⟩) (by assumption) ?_
        try simp only [Act.put, List.getElem_toArray, List.getElem_cons_succ, List.getElem_cons_zero, List.setIfInBounds_toArray, List.set_cons_zero, List.set_cons_succ]
        refine wpAnyH_take (i := 7) (v := undef) rfl (by kernel_rfl) (by kernel_rfl) (by kernel_rfl) (fun _ _ _ h => h) (Or.inr ⟨by rfl, rfl⟩) (by assumption) ?_
        try simp only [Act.put, List.getElem_toArray, List.getElem_cons_succ, List.getElem_cons_zero, List.setIfInBounds_toArray, List.set_cons_zero, List.set_cons_succ]
        refine wpAnyH_take (i := 8) (v := undef) rfl (by kernel_rfl) (by kernel_rfl) (by kernel_rfl) (fun _ _ _ h => h) (Or.inr ⟨by rfl, rfl⟩) (by assumption) ?_
        try simp only [Act.put, List.getElem_toArray, List.getElem_cons_succ, List.getElem_cons_zero, List.setIfInBounds_toArray, List.set_cons_zero, List.set_cons_succ]
        refine wpAnyH_take (i := 9) (v := undef) rfl (by kernel_rfl) (by kernel_rfl) (by kernel_rfl) (fun _ _ _ h => h) (Or.inr ⟨by rfl, rfl⟩) (by assumption) ?_
        try simp only [Act.put, List.getElem_toArray, List.getElem_cons_succ, List.getElem_cons_zero, List.setIfInBounds_toArray, List.set_cons_zero, List.set_cons_succ]
        refine wpAnyH_take (i := 10) (v := ?_) rfl (by kernel_rfl) (by kernel_rfl) (by kernel_rfl) (fun _ _ _ h => h) (Or.inl ⟨by rfl, ?_⟩) (by assumption) ?_
        rotate_left 1
        · (intro w hSw; (try dsimp only at hSw); go_simp <;> (with_reducible rfl))
        try simp only [Act.put, List.getElem_toArray, List.getElem_cons_succ, List.getElem_cons_zero, List.setIfInBounds_toArray, List.set_cons_zero, List.set_cons_succ]
        refine wpAnyH_done (by kernel_rfl) ?_ _
        refine NoPanic.normal ?_
        have b9 := hH0
        clear hH0
        have hO9 := Lib.hid (World.ownsRow.drew hO.out)
        generalize wr.drew = w'' at b9 hO9 ⊢
        go_wp2_with (at_builtin; refine haltG ?_)
        show wpList _ _ _ _ _ _
        refine wpList_append_G rfl _ _ 22 26 rfl Tryd.underlying22 fxInfo rfl (by decide) (by decide) (fun _ => rfl) encX_one U.heap.size _ (fs) rfl (World.ownsRow.alloc (hO9.out) _) ⟨w''.heap.size, 0, none⟩ (((a', d'), (n', e'))) 1 rfl (rowsOne (enc := encX) (k := 4) w'' (((a', d'), (n', e'))) 26 _ rfl) (by have := HLN.out; omega) (Below.size (Below.alloc (b9) (Below.size (b9)) _)) ?_
        intro v3 w3 ho hg hloc
        have X3 : Hid (OwnX U.heap.size w3 v3 (fs ++ [((a', d'), (n', e'))])) := Lib.hid ho
        have b3 : Below U.heap.size U w3 := Below.grown (Below.alloc (b9) (Below.size (b9)) _) hg (Below.size (Below.alloc (b9) (Below.size (b9)) _)) fun j hj => (World.ownsRow.lt (hO9.out) j hj).1
        clear ho hg hloc
        go_frame
        go_wp2_with fail
        go_roundw
        case rel => exact ⟨k + 1, hlt, by go_num, by first | rfl | (rw [HL1.out]), by rw [HF1.out]; exact X3.out, b3⟩
        case measure => simp [intOf]; omega
      | false =>
        cases h3 : Fx.lessF (a', d') (a, d) with
        | true =>
          have HL1 : Hid (laidB (l.take (k + 1)) ((a, d), (n, e)) = false) := Lib.hid (by rw [ht, laid_snoc, hlb]; show (false || !Fx.lessF (a', d') (a, d)) = false; rw [h3]; rfl)
          have HF1 : Hid (outF (l.take (k + 1)) ((a, d), (n, e)) = outF (l.take k) ((a, d), (n, e)) ++ [((a', d'), (n', e'))]) := Lib.hid (by rw [ht]; exact out_skip hlb h3)
          generalize outF (l.take k) ((a, d), (n, e)) = fs at *
          rw [h3] at ca
          have CA := Lib.hid ca
          clear hlb ht ca h3
          have hB := Lib.hid (Nat.le_refl U.heap.size)
          go_wp2_with fail
          refine wp_region_noPanic ?_
          refine wp_region_held_drew (S := fun w' => Below U.heap.size U w') (by kernel_rfl) (hw.drew) (fun hH0 => ?_)
          refine wpAnyH_take (i := 0) (v := ?_) rfl (by kernel_rfl) (by kernel_rfl) (by kernel_rfl) (fun _ _ _ h => h) (Or.inl ⟨by rfl, ?_⟩) (by assumption) ?_
          rotate_left 1
          · (intro w hSw; (try dsimp only at hSw); go_simp <;> (with_reducible rfl))
          try simp only [Act.put, List.getElem_toArray, List.getElem_cons_succ, List.getElem_cons_zero, List.setIfInBounds_toArray, List.set_cons_zero, List.set_cons_succ]
          refine wpAnyH_take (i := 1) (v := ?_) rfl (by kernel_rfl) (by kernel_rfl) (by kernel_rfl) (fun _ _ _ h => h) (Or.inl ⟨by rfl, ?_⟩) (by assumption) ?_
          rotate_left 1
          · (intro w hSw; (try dsimp only at hSw); go_simp <;> (with_reducible rfl))
          try simp only [Act.put, List.getElem_toArray, List.getElem_cons_succ, List.getElem_cons_zero, List.setIfInBounds_toArray, List.set_cons_zero, List.set_cons_succ]
          refine wpAnyH_take (i := 2) (v := ?_) rfl (by kernel_rfl) (by kernel_rfl) (by kernel_rfl) (fun _ _ _ h => h) (Or.inl ⟨by rfl, ?_⟩) (by assumption) ?_
          rotate_left 1
          · (intro w hSw; (try dsimp only at hSw); go_simp <;> (with_reducible rfl))
          try simp only [Act.put, List.getElem_toArray, List.getElem_cons_succ, List.getElem_cons_zero, List.setIfInBounds_toArray, List.set_cons_zero, List.set_cons_succ]
          refine wpAnyH_take (i := 3) (v := ?_) rfl (by kernel_rfl) (by kernel_rfl) (by kernel_rfl) (fun _ _ _ h => h) (Or.inl ⟨by rfl, ?_⟩) (by assumption) ?_
          rotate_left 1
          · (intro w hSw; (try dsimp only at hSw); go_simp <;> (with_reducible rfl))
          try simp only [Act.put, List.getElem_toArray, List.getElem_cons_succ, List.getElem_cons_zero, List.setIfInBounds_toArray, List.set_cons_zero, List.set_cons_succ]
          refine wpAnyH_take (i := 4) (v := ?_) rfl (by kernel_rfl) (by kernel_rfl) (by kernel_rfl) (fun _ _ _ h => h) (Or.inl ⟨by rfl, ?_⟩) (by assumption) ?_
          rotate_left 1
          · (intro w hSw; (try dsimp only at hSw); go_simp <;> (with_reducible rfl))
          try simp only [Act.put, List.getElem_toArray, List.getElem_cons_succ, List.getElem_cons_zero, List.setIfInBounds_toArray, List.set_cons_zero, List.set_cons_succ]
          refine wpAnyH_take (i := 5) (v := ?_) rfl (by kernel_rfl) (by kernel_rfl) (by kernel_rfl) (fun _ _ _ h => h) (Or.inl ⟨by rfl, ?_⟩) (by assumption) ?_
          rotate_left 1
          · (intro w hSw; (try dsimp only at hSw); go_simp <;> (with_reducible rfl))
          try simp only [Act.put, List.getElem_toArray, List.getElem_cons_succ, List.getElem_cons_zero, List.setIfInBounds_toArray, List.set_cons_zero, List.set_cons_succ]
          refine wpAnyH_take (i := 6) (v := ?_) rfl (by kernel_rfl) (by kernel_rfl) (by kernel_rfl) (fun _ _ _ h => h) (Or.inl ⟨by rfl, ?_⟩) (by assumption) ?_
          rotate_left 1
          · (intro w hSw; (try dsimp only at hSw); go_simp <;> (with_reducible rfl))
          try simp only [Act.put, List.getElem_toArray, List.getElem_cons_succ, List.getElem_cons_zero, List.setIfInBounds_toArray, List.set_cons_zero, List.set_cons_succ]
          refine wpAnyH_take (i := 7) (v := ?_) rfl (by kernel_rfl) (by kernel_rfl) (by kernel_rfl) (fun _ _ _ h => h) (Or.inl ⟨by rfl, ?_⟩) (by assumption) ?_
          rotate_left 1
          · (intro w hSw; (try dsimp only at hSw); go_simp <;> (with_reducible rfl))
          try simp only [Act.put, List.getElem_toArray, List.getElem_cons_succ, List.getElem_cons_zero, List.setIfInBounds_toArray, List.set_cons_zero, List.set_cons_succ]
          refine wpAnyH_ready (rs := [8]) (by kernel_rfl) (by simp) ?_
          refine AllReadyH.cons rfl (fun K hK => ?_) AllReadyH.nil
          go_simp
          refine (held (W := U) hB.out (CA.out _) (by assumption)).mono ?_
          rintro e1 w'' ⟨rfl, hb, hw⟩
          have hO9 := Lib.hid (ownG_below (World.ownsRow.drew hO.out) hb)
          (try go_wp2_with fail)
          refine hK.out _ _ hw (fun hH1 => ?_)
          clear hK hH0 hb
          try simp only [Act.put, List.getElem_toArray, List.getElem_cons_succ, List.getElem_cons_zero, List.setIfInBounds_toArray, List.set_cons_zero, List.set_cons_succ]
          refine wpAnyH_take (i := 9) (v := ?_) rfl (by kernel_rfl) (by kernel_rfl) (by kernel_rfl) (fun _ _ _ h => h) (Or.inl ⟨by rfl, ?_⟩) (by assumption) ?_
          rotate_left 1
          · (intro w hSw; (try dsimp only at hSw); go_simp <;> (with_reducible rfl))
          try simp only [Act.put, List.getElem_toArray, List.getElem_cons_succ, List.getElem_cons_zero, List.setIfInBounds_toArray, List.set_cons_zero, List.set_cons_succ]
          refine wpAnyH_take (i := 10) (v := ?_) rfl (by kernel_rfl) (by kernel_rfl) (by kernel_rfl) (fun _ _ _ h => h) (Or.inl ⟨by rfl, ?_⟩) (by assumption) ?_
          rotate_left 1
          · (intro w hSw; (try dsimp only at hSw); go_simp <;> (with_reducible rfl))
          try simp only [Act.put, List.getElem_toArray, List.getElem_cons_succ, List.getElem_cons_zero, List.setIfInBounds_toArray, List.set_cons_zero, List.set_cons_succ]
          refine wpAnyH_done (by kernel_rfl) ?_ _
          refine NoPanic.normal ?_
          have b9 := hw
          clear hw
          go_wp2_with (at_builtin; refine haltG ?_)
          show wpList _ _ _ _ _ _
          refine wpList_append_G rfl _ _ 22 26 rfl Tryd.underlying22 fxInfo rfl (by decide) (by decide) (fun _ => rfl) encX_one U.heap.size _ (fs) rfl (World.ownsRow.alloc (hO9.out) _) ⟨w''.heap.size, 0, none⟩ (((a', d'), (n', e'))) 1 rfl (rowsOne (enc := encX) (k := 4) w'' (((a', d'), (n', e'))) 26 _ rfl) (by have := HLN.out; omega) (Below.size (Below.alloc (b9) (Below.size (b9)) _)) ?_
          intro v3 w3 ho hg hloc
          have X3 : Hid (OwnX U.heap.size w3 v3 (fs ++ [((a', d'), (n', e'))])) := Lib.hid ho
          have b3 : Below U.heap.size U w3 := Below.grown (Below.alloc (b9) (Below.size (b9)) _) hg (Below.size (Below.alloc (b9) (Below.size (b9)) _)) fun j hj => (World.ownsRow.lt (hO9.out) j hj).1
          clear ho hg hloc
          go_frame
          go_wp2_with fail
          go_roundw
          case rel => exact ⟨k + 1, hlt, by go_num, by first | rfl | (rw [HL1.out]), by rw [HF1.out]; exact X3.out, b3⟩
          case measure => simp [intOf]; omega
        | false =>
          have HL1 : Hid (laidB (l.take (k + 1)) ((a, d), (n, e)) = true) := Lib.hid (by rw [ht, laid_snoc, hlb]; show (false || !Fx.lessF (a', d') (a, d)) = true; rw [h3]; rfl)
          have HF1 : Hid (outF (l.take (k + 1)) ((a, d), (n, e)) = (outF (l.take k) ((a, d), (n, e)) ++ [((a, d), (n, e))]) ++ [((a', d'), (n', e'))]) := Lib.hid (by rw [ht]; exact out_here hlb h3)
          generalize outF (l.take k) ((a, d), (n, e)) = fs at *
          rw [h3] at ca
          have CA := Lib.hid ca
          clear hlb ht ca h3
          have hB := Lib.hid (Nat.le_refl U.heap.size)
          go_wp2_with fail
          refine wp_region_noPanic ?_
          refine wp_region_held_drew (S := fun w' => Below U.heap.size U w') (by kernel_rfl) (hw.drew) (fun hH0 => ?_)
          refine wpAnyH_take (i := 0) (v := ?_) rfl (by kernel_rfl) (by kernel_rfl) (by kernel_rfl) (fun _ _ _ h => h) (Or.inl ⟨by rfl, ?_⟩) (by assumption) ?_
          rotate_left 1
          · (intro w hSw; (try dsimp only at hSw); go_simp <;> (with_reducible rfl))
          try simp only [Act.put, List.getElem_toArray, List.getElem_cons_succ, List.getElem_cons_zero, List.setIfInBounds_toArray, List.set_cons_zero, List.set_cons_succ]
          refine wpAnyH_take (i := 1) (v := ?_) rfl (by kernel_rfl) (by kernel_rfl) (by kernel_rfl) (fun _ _ _ h => h) (Or.inl ⟨by rfl, ?_⟩) (by assumption) ?_
          rotate_left 1
          · (intro w hSw; (try dsimp only at hSw); go_simp <;> (with_reducible rfl))
          try simp only [Act.put, List.getElem_toArray, List.getElem_cons_succ, List.getElem_cons_zero, List.setIfInBounds_toArray, List.set_cons_zero, List.set_cons_succ]
          refine wpAnyH_take (i := 2) (v := ?_) rfl (by kernel_rfl) (by kernel_rfl) (by kernel_rfl) (fun _ _ _ h => h) (Or.inl ⟨by rfl, ?_⟩) (by assumption) ?_
          rotate_left 1
          · (intro w hSw; (try dsimp only at hSw); go_simp <;> (with_reducible rfl))
          try simp only [Act.put, List.getElem_toArray, List.getElem_cons_succ, List.getElem_cons_zero, List.setIfInBounds_toArray, List.set_cons_zero, List.set_cons_succ]
          refine wpAnyH_take (i := 3) (v := ?_) rfl (by kernel_rfl) (by kernel_rfl) (by kernel_rfl) (fun _ _ _ h => h) (Or.inl ⟨by rfl, ?_⟩) (by assumption) ?_
          rotate_left 1
          · (intro w hSw; (try dsimp only at hSw); go_simp <;> (with_reducible rfl))
          try simp only [Act.put, List.getElem_toArray, List.getElem_cons_succ, List.getElem_cons_zero, List.setIfInBounds_toArray, List.set_cons_zero, List.set_cons_succ]
          refine wpAnyH_take (i := 4) (v := ?_) rfl (by kernel_rfl) (by kernel_rfl) (by kernel_rfl) (fun _ _ _ h => h) (Or.inl ⟨by rfl, ?_⟩) (by assumption) ?_
          rotate_left 1
          · (intro w hSw; (try dsimp only at hSw); go_simp <;> (with_reducible rfl))
          try simp only [Act.put, List.getElem_toArray, List.getElem_cons_succ, List.getElem_cons_zero, List.setIfInBounds_toArray, List.set_cons_zero, List.set_cons_succ]
          refine wpAnyH_take (i := 5) (v := ?_) rfl (by kernel_rfl) (by kernel_rfl) (by kernel_rfl) (fun _ _ _ h => h) (Or.inl ⟨by rfl, ?_⟩) (by assumption) ?_
          rotate_left 1
          · (intro w hSw; (try dsimp only at hSw); go_simp <;> (with_reducible rfl))
          try simp only [Act.put, List.getElem_toArray, List.getElem_cons_succ, List.getElem_cons_zero, List.setIfInBounds_toArray, List.set_cons_zero, List.set_cons_succ]
          refine wpAnyH_take (i := 6) (v := ?_) rfl (by kernel_rfl) (by kernel_rfl) (by kernel_rfl) (fun _ _ _ h => h) (Or.inl ⟨by rfl, ?_⟩) (by assumption) ?_
          rotate_left 1
          · (intro w hSw; (try dsimp only at hSw); go_simp <;> (with_reducible rfl))
          try simp only [Act.put, List.getElem_toArray, List.getElem_cons_succ, List.getElem_cons_zero, List.setIfInBounds_toArray, List.set_cons_zero, List.set_cons_succ]
          refine wpAnyH_take (i := 7) (v := ?_) rfl (by kernel_rfl) (by kernel_rfl) (by kernel_rfl) (fun _ _ _ h => h) (Or.inl ⟨by rfl, ?_⟩) (by assumption) ?_
          rotate_left 1
          · (intro w hSw; (try dsimp only at hSw); go_simp <;> (with_reducible rfl))
          try simp only [Act.put, List.getElem_toArray, List.getElem_cons_succ, List.getElem_cons_zero, List.setIfInBounds_toArray, List.set_cons_zero, List.set_cons_succ]
          refine wpAnyH_ready (rs := [8]) (by kernel_rfl) (by simp) ?_
          refine AllReadyH.cons rfl (fun K hK => ?_) AllReadyH.nil
          go_simp
          refine (held (W := U) hB.out (CA.out _) (by assumption)).mono ?_
          rintro e1 w'' ⟨rfl, hb, hw⟩
          have hO9 := Lib.hid (ownG_below (World.ownsRow.drew hO.out) hb)
          (try go_wp2_with fail)
          refine hK.out _ _ hw (fun hH1 => ?_)
          clear hK hH0 hb
          try simp only [Act.put, List.getElem_toArray, List.getElem_cons_succ, List.getElem_cons_zero, List.setIfInBounds_toArray, List.set_cons_zero, List.set_cons_succ]
          refine wpAnyH_take (i := 9) (v := ?_) rfl (by kernel_rfl) (by kernel_rfl) (by kernel_rfl) (fun _ _ _ h => h) (Or.inl ⟨by rfl, ?_⟩) (by assumption) ?_
          rotate_left 1
          · (intro w hSw; (try dsimp only at hSw); go_simp <;> (with_reducible rfl))
          try simp only [Act.put, List.getElem_toArray, List.getElem_cons_succ, List.getElem_cons_zero, List.setIfInBounds_toArray, List.set_cons_zero, List.set_cons_succ]
          refine wpAnyH_take (i := 10) (v := ?_) rfl (by kernel_rfl) (by kernel_rfl) (by kernel_rfl) (fun _ _ _ h => h) (Or.inl ⟨by rfl, ?_⟩) (by assumption) ?_
          rotate_left 1
          · (intro w hSw; (try dsimp only at hSw); go_simp <;> (with_reducible rfl))
          try simp only [Act.put, List.getElem_toArray, List.getElem_cons_succ, List.getElem_cons_zero, List.setIfInBounds_toArray, List.set_cons_zero, List.set_cons_succ]
          refine wpAnyH_done (by kernel_rfl) ?_ _
          refine NoPanic.normal ?_
          have b9 := hw
          clear hw
          go_wp2_with (at_builtin; refine haltG ?_)
          show wpList _ _ _ _ _ _
          refine wpList_append_G rfl _ _ 22 26 rfl Tryd.underlying22 fxInfo rfl (by decide) (by decide) (fun _ => rfl) encX_one U.heap.size _ (fs) rfl (World.ownsRow.alloc (hO9.out) _) ⟨w''.heap.size, 0, none⟩ (((a, d), (n, e))) 1 rfl (rowsOne (enc := encX) (k := 4) w'' (((a, d), (n, e))) 26 _ rfl) (by have := HLN.out; omega) (Below.size (Below.alloc (b9) (Below.size (b9)) _)) ?_
          intro v3 w3 ho hg hloc
          have X3 : Hid (OwnX U.heap.size w3 v3 (fs ++ [((a, d), (n, e))])) := Lib.hid ho
          have b3 : Below U.heap.size U w3 := Below.grown (Below.alloc (b9) (Below.size (b9)) _) hg (Below.size (Below.alloc (b9) (Below.size (b9)) _)) fun j hj => (World.ownsRow.lt (hO9.out) j hj).1
          clear ho hg hloc
          go_frame
          go_wp2_with (at_builtin; refine haltG ?_)
          show wpList _ _ _ _ _ _
          refine wpList_append_G rfl _ _ 22 26 rfl Tryd.underlying22 fxInfo rfl (by decide) (by decide) (fun _ => rfl) encX_one U.heap.size _ (fs ++ [((a, d), (n, e))]) rfl (World.ownsRow.alloc (X3.out) _) ⟨w3.heap.size, 0, none⟩ (((a', d'), (n', e'))) 1 rfl (rowsOne (enc := encX) (k := 4) w3 (((a', d'), (n', e'))) 26 _ rfl) (by rw [List.length_append]; have := HLN.out; simp only [List.length_singleton]; omega) (Below.size (Below.alloc (b3) (Below.size (b3)) _)) ?_
          intro v4 w4 ho hg hloc
          have X4 : Hid (OwnX U.heap.size w4 v4 (fs ++ [((a, d), (n, e))] ++ [((a', d'), (n', e'))])) := Lib.hid ho
          have b4 : Below U.heap.size U w4 := Below.grown (Below.alloc (b3) (Below.size (b3)) _) hg (Below.size (Below.alloc (b3) (Below.size (b3)) _)) fun j hj => (World.ownsRow.lt (X3.out) j hj).1
          clear ho hg hloc
          go_frame
          go_wp2_with fail
          go_roundw
          case rel => exact ⟨k + 1, hlt, by go_num, by first | rfl | (rw [HL1.out]), by rw [HF1.out]; exact X4.out, b4⟩
          case measure => simp [intOf]; omega
    · have CM := HCM.out
      have CN := HCN.out
      clear HCM HCN
      obtain rfl : k = l.length := by omega
      rw [List.take_length] at hown ⊢
      have hO := Lib.hid hown
      have hln := out_len l ((a, d), (n, e))
      have HLN : Hid ((outF l ((a, d), (n, e))).length ≤ 1000001) := Lib.hid (by omega)
      clear hown hln
      cases hlb : laidB l ((a, d), (n, e)) with
      | true =>
        have HI : Hid (Fx.insF l ((a, d), (n, e)) = outF l ((a, d), (n, e))) := Lib.hid (by rw [out_end, hlb]; rfl)
        clear hlb
        have hO5 := hO.out
        rw [← HI.out] at hO5
        obtain ⟨q, cq, rfl, hcq, hRq, _⟩ := ownG_rows (enc := encX) (k := 4) (fun _ => rfl) hO5
        have HLq := Lib.hid hRq
        have HW5 := Lib.hid (hw)
        have b5 := Below.refl wr.heap.size wr
        clear hO5 hRq
        cases h1 : Fx.mayF l with
        | false =>
          have HE : Hid (Fx.setF l ((a, d), (n, e)) = none) := Lib.hid (Fx.set_no h1)
          have cm := fun v (hv : Below w.heap.size w v) => CM v hv
          rw [h1] at cm
          have C1 := Lib.hid cm
          clear cm
          go_wp2_with fail
          refine (C1.out _ (Below.more BW HW5.out)).mono ?_
          rintro e1 w6 ⟨rfl, b⟩
          have b6 := HW5.out.trans (b.mono (Below.size HW5.out))
          clear b
          go_wp2_with fail
          refine bodyPost_ret (v := .tuple #[.slice none 0 0, .bool false]) (by simp [results, Tryd.results10, go_sem, *]) rfl ?_
          rw [HE.out]
          exact giveT_no (Below.more BW b6)
        | true =>
          have cm := fun v (hv : Below w.heap.size w v) => CM v hv
          rw [h1] at cm
          have C1 := Lib.hid cm
          clear cm
          go_wp2_with fail
          refine (C1.out _ (Below.more BW HW5.out)).mono ?_
          rintro e1 w6 ⟨rfl, b⟩
          have b6 := HW5.out.trans (b.mono (Below.size HW5.out))
          replace HLq := Lib.hid (HLq.out.below b)
          clear b
          have cn := fun v (hv : Fxs v q (Fx.insF l ((a, d), (n, e)))) => CN v q cq hcq hv
          cases h2 : Fx.mayF (Fx.insF l ((a, d), (n, e))) with
          | false =>
            have HE : Hid (Fx.setF l ((a, d), (n, e)) = none) := Lib.hid (by unfold Fx.setF; rw [h1, h2]; rfl)
            rw [h2] at cn
            have C2 := Lib.hid cn
            clear cn
            go_wp2_with fail
            refine (C2.out _ HLq.out).mono ?_
            rintro e1 w7 ⟨rfl, b⟩
            have b7 := b6.trans (b.mono (Below.size b6))
            clear b
            go_wp2_with fail
            refine bodyPost_ret (v := .tuple #[.slice none 0 0, .bool false]) (by simp [results, Tryd.results10, go_sem, *]) rfl ?_
            rw [HE.out]
            exact giveT_no (Below.more BW b7)
          | true =>
            have HE : Hid (Fx.setF l ((a, d), (n, e)) = some (Fx.insF l ((a, d), (n, e)))) := Lib.hid (by unfold Fx.setF; rw [h1, h2]; rfl)
            rw [h2] at cn
            have C2 := Lib.hid cn
            clear cn
            go_wp2_with fail
            refine (C2.out _ HLq.out).mono ?_
            rintro e1 w7 ⟨rfl, b⟩
            have b7 := b6.trans (b.mono (Below.size b6))
            replace HLq := Lib.hid (HLq.out.below b)
            clear b
            go_wp2_with fail
            refine bodyPost_ret (v := .tuple #[.slice q (Fx.insF l ((a, d), (n, e))).length cq, .bool true]) (by simp [results, Tryd.results10, go_sem, *]) rfl ?_
            rw [HE.out]
            exact ⟨⟨q, cq, rfl, hcq, HLq.out⟩, Below.more BW b7⟩
      | false =>
        have HI : Hid (Fx.insF l ((a, d), (n, e)) = outF l ((a, d), (n, e)) ++ [((a, d), (n, e))]) := Lib.hid (by rw [out_end, hlb]; rfl)
        clear hlb
        generalize outF l ((a, d), (n, e)) = fs at *
        go_wp2_with (at_builtin; refine haltG ?_)
        show wpList _ _ _ _ _ _
        refine wpList_append_G rfl _ _ 22 26 rfl Tryd.underlying22 fxInfo rfl (by decide) (by decide) (fun _ => rfl) encX_one U.heap.size _ (fs) rfl (World.ownsRow.alloc (hO.out) _) ⟨wr.heap.size, 0, none⟩ (((a, d), (n, e))) 1 rfl (rowsOne (enc := encX) (k := 4) wr (((a, d), (n, e))) 26 _ rfl) (by have := HLN.out; omega) (Below.size (Below.alloc (hw) (Below.size (hw)) _)) ?_
        intro v3 w3 ho hg hloc
        have X3 : Hid (OwnX U.heap.size w3 v3 (fs ++ [((a, d), (n, e))])) := Lib.hid ho
        have b3 : Below U.heap.size U w3 := Below.grown (Below.alloc (hw) (Below.size (hw)) _) hg (Below.size (Below.alloc (hw) (Below.size (hw)) _)) fun j hj => (World.ownsRow.lt (hO.out) j hj).1
        clear ho hg hloc
        go_frame
        have hO5 := X3.out
        rw [← HI.out] at hO5
        obtain ⟨q, cq, rfl, hcq, hRq, _⟩ := ownG_rows (enc := encX) (k := 4) (fun _ => rfl) hO5
        have HLq := Lib.hid hRq
        have HW5 := Lib.hid (b3)
        have b5 := Below.refl w3.heap.size w3
        clear hO5 hRq
        cases h1 : Fx.mayF l with
        | false =>
          have HE : Hid (Fx.setF l ((a, d), (n, e)) = none) := Lib.hid (Fx.set_no h1)
          have cm := fun v (hv : Below w.heap.size w v) => CM v hv
          rw [h1] at cm
          have C1 := Lib.hid cm
          clear cm
          go_wp2_with fail
          refine (C1.out _ (Below.more BW HW5.out)).mono ?_
          rintro e1 w6 ⟨rfl, b⟩
          have b6 := HW5.out.trans (b.mono (Below.size HW5.out))
          clear b
          go_wp2_with fail
          refine bodyPost_ret (v := .tuple #[.slice none 0 0, .bool false]) (by simp [results, Tryd.results10, go_sem, *]) rfl ?_
          rw [HE.out]
          exact giveT_no (Below.more BW b6)
        | true =>
          have cm := fun v (hv : Below w.heap.size w v) => CM v hv
          rw [h1] at cm
          have C1 := Lib.hid cm
          clear cm
          go_wp2_with fail
          refine (C1.out _ (Below.more BW HW5.out)).mono ?_
          rintro e1 w6 ⟨rfl, b⟩
          have b6 := HW5.out.trans (b.mono (Below.size HW5.out))
          replace HLq := Lib.hid (HLq.out.below b)
          clear b
          have cn := fun v (hv : Fxs v q (Fx.insF l ((a, d), (n, e)))) => CN v q cq hcq hv
          cases h2 : Fx.mayF (Fx.insF l ((a, d), (n, e))) with
          | false =>
            have HE : Hid (Fx.setF l ((a, d), (n, e)) = none) := Lib.hid (by unfold Fx.setF; rw [h1, h2]; rfl)
            rw [h2] at cn
            have C2 := Lib.hid cn
            clear cn
            go_wp2_with fail
            refine (C2.out _ HLq.out).mono ?_
            rintro e1 w7 ⟨rfl, b⟩
            have b7 := b6.trans (b.mono (Below.size b6))
            clear b
            go_wp2_with fail
            refine bodyPost_ret (v := .tuple #[.slice none 0 0, .bool false]) (by simp [results, Tryd.results10, go_sem, *]) rfl ?_
            rw [HE.out]
            exact giveT_no (Below.more BW b7)
          | true =>
            have HE : Hid (Fx.setF l ((a, d), (n, e)) = some (Fx.insF l ((a, d), (n, e)))) := Lib.hid (by unfold Fx.setF; rw [h1, h2]; rfl)
            rw [h2] at cn
            have C2 := Lib.hid cn
            clear cn
            go_wp2_with fail
            refine (C2.out _ HLq.out).mono ?_
            rintro e1 w7 ⟨rfl, b⟩
            have b7 := b6.trans (b.mono (Below.size b6))
            replace HLq := Lib.hid (HLq.out.below b)
            clear b
            go_wp2_with fail
            refine bodyPost_ret (v := .tuple #[.slice q (Fx.insF l ((a, d), (n, e))).length cq, .bool true]) (by simp [results, Tryd.results10, go_sem, *]) rfl ?_
            rw [HE.out]
            exact ⟨⟨q, cq, rfl, hcq, HLq.out⟩, Below.more BW b7⟩
theorem rfset_any (p : Option Addr) (c : Nat) (l : List Fx.Fix) (a : List UInt8) (d : Int) (n e : List UInt8) (w : World) (hc : l.length ≤ c) (hl : l.length ≤ 1000000) (hz : ∀ x ∈ l, SzX x) (hf : SzX ((a, d), (n, e))) (h : Fxs w p l) :
    Calls Tryd.prog 10 #[.slice p l.length c, .agg #[.string ⟨a.toArray⟩, .int .i64 d, .string ⟨n.toArray⟩, .string ⟨e.toArray⟩]] w (GiveT w (Fx.setF l ((a, d), (n, e)))) :=
  fs_any p c l a d n e w hc hl h (fun v hv => rfmay_any p c l v hc (by omega) hz (h.below hv))
    (fun v q cq hq hv => rfmay_any q cq _ v hq (by rw [Fx.ins_len]; omega) (sz_ins hz hf) hv)
end Go.Proofs.YtmllklfjngapiaaDoor
