/- The walk of RatOrder. -/
import Derived.Test.YtniobjninbodgaaGreatDoorWSplits3
namespace Go.Proofs.YtniobjninbodgaaGreatDoor
open Go.RowKit
set_option linter.unusedSimpArgs false

theorem three_ways (X Y : Rat) (c : Int) (h : (c == 0) = (rdN X == rdN Y && rdD X == rdD Y)) :
    ((rdN X == rdN Y) = true ∧ (rdD X == rdD Y) = true ∧ (c == 0) = true) ∨ ((rdN X == rdN Y) = true ∧ (rdD X == rdD Y) = false ∧ (c == 0) = false) ∨ ((rdN X == rdN Y) = false ∧ (c == 0) = false) := by
  cases h1 : (rdN X == rdN Y) <;> cases h2 : (rdD X == rdD Y) <;> rw [h1, h2] at h <;> simp_all
theorem sgnQ_nonpos {q : Rat} (h : ¬ 0 < q) : sgnQ q ≤ 0 := by
  rcases rat_cases q with h1 | h1 | h1
  · rw [sgnQ_neg h1]; decide
  · rw [h1]; decide
  · exact absurd h1 h
theorem same_bool (X Y : Rat) : (sgnQ (X - Y) == 0) = (rdN X == rdN Y && rdD X == rdD Y) := by
  by_cases h : X = Y
  · subst h
    have e : X - X = 0 := sub_zero_iff.2 rfl
    rw [e, beq_self_eq_true, beq_self_eq_true]; rfl
  · have h1 : sgnQ (X - Y) ≠ 0 := fun e => h (sub_zero_iff.1 (sgnQ_eq_zero.1 e))
    rw [beq_false_of_ne h1]
    cases e : (rdN X == rdN Y && rdD X == rdD Y) with
    | false => rfl
    | true =>
      rw [Bool.and_eq_true, beq_iff_eq, beq_iff_eq] at e
      exact absurd (rd_inj (by unfold rd; rw [e.1, e.2])) h
set_option maxRecDepth 100000 in
set_option maxHeartbeats 4000000 in
theorem order3_main (X Y Z : Rat) (w : World) (lX : Lq X 100) (lY : Lq Y 100) (lZ : Lq Z 100) (hg : (gdQ (⟨(rdN X).toArray⟩, ⟨(rdD X).toArray⟩) && (gdQ (⟨(rdN Y).toArray⟩, ⟨(rdD Y).toArray⟩) && gdQ (⟨(rdN Z).toArray⟩, ⟨(rdD Z).toArray⟩))) = true) (ht : GoodT w) :
    Calls Tryz.prog 5 #[.agg #[.string ⟨(rdN X).toArray⟩, .string ⟨(rdD X).toArray⟩], .agg #[.string ⟨(rdN Y).toArray⟩, .string ⟨(rdD Y).toArray⟩], .agg #[.string ⟨(rdN Z).toArray⟩, .string ⟨(rdD Z).toArray⟩]] w (GiveB w true) := by
  obtain ⟨c, hc⟩ : ∃ c, sgnQ (X - Y) = c := ⟨_, rfl⟩
  obtain ⟨E, hE⟩ : ∃ E, X - Y = E := ⟨_, rfl⟩
  obtain ⟨U, hU⟩ : ∃ U, X + Z = U := ⟨_, rfl⟩
  obtain ⟨V, hV⟩ : ∃ V, Y + Z = V := ⟨_, rfl⟩
  obtain ⟨P, hP⟩ : ∃ P, X * Z = P := ⟨_, rfl⟩
  obtain ⟨Q, hQ⟩ : ∃ Q, Y * Z = Q := ⟨_, rfl⟩
  obtain ⟨s, hs⟩ : ∃ s, sgnQ Z = s := ⟨_, rfl⟩
  have lE : Lq E 201 := by rw [← hE]; exact Lq.sub lX lY (by decide)
  have lU : Lq U 201 := by rw [← hU]; exact Lq.add lX lZ (by decide)
  have lV : Lq V 201 := by rw [← hV]; exact Lq.add lY lZ (by decide)
  have lP : Lq P 201 := by rw [← hP]; exact Lq.mul lX lZ (by decide)
  have lQ : Lq Q 201 := by rw [← hQ]; exact Lq.mul lY lZ (by decide)
  have k2 : sgnQ (Y - X) = -c := by rw [sgnQ_turn, hc]
  have k4 : sgnQ E = c := by rw [← hE, hc]
  have k7 : sgnQ (U - V) = c := by rw [← hU, ← hV, sgnQ_shift, hc]
  have hpq : 0 < Z → sgnQ (P - Q) = c := fun h => by rw [← hP, ← hQ, sgnQ_times _ _ _ h, hc]
  have hxe : (c == 0) = (rdN X == rdN Y && rdD X == rdD Y) := by rw [← hc]; exact same_bool X Y
  have hb := sgnQ_bounds (X - Y)
  rw [hc] at hb
  obtain ⟨hb1, hb2⟩ := hb
  have hwr : IntKind.i64.wrap c = c := IntWalk.i64_in _ (by omega)
  have hs' : (0 < Z ∧ sgnQ Z = 1) ∨ (s ≤ 0 ∧ sgnQ Z = s) := by
    by_cases h : 0 < Z
    · exact .inl ⟨h, sgnQ_pos h⟩
    · exact .inr ⟨by rw [← hs]; exact sgnQ_nonpos h, hs⟩
  have cg : ∀ w, Calls Tryz.prog 30 #[.slice (some ⟨w.heap.size, 0, none⟩) 3 3] (w.alloc (.cells #[.string ⟨(rdN X).toArray⟩, .string ⟨(rdD X).toArray⟩, .string ⟨(rdN Y).toArray⟩, .string ⟨(rdD Y).toArray⟩, .string ⟨(rdN Z).toArray⟩, .string ⟨(rdD Z).toArray⟩] 23)) fun e w' => e = .returned (.bool true) ∧ Below w.heap.size w w' := fun w => by
    have c := good3 w (⟨(rdN X).toArray⟩, ⟨(rdD X).toArray⟩) (⟨(rdN Y).toArray⟩, ⟨(rdD Y).toArray⟩) (⟨(rdN Z).toArray⟩, ⟨(rdD Z).toArray⟩)
    rw [hg] at c
    exact c
  have c1 := fun w => qCmp lX lY hc w
  have c2 := fun w => qCmp lY lX k2 w
  have c3 := fun w => qSub lX lY hE w
  have c4 := fun w => qSign lE k4 w
  have c5 := fun w => qAdd lX lZ hU w
  have c6 := fun w => qAdd lY lZ hV w
  have c7 := fun w => qCmp lU lV k7 w
  have c9 := fun w => qMul lX lZ hP w
  have c10 := fun w => qMul lY lZ hQ w
  have HS := Lib.hid hs'
  have HXE := Lib.hid (three_ways X Y c hxe)
  have HPQ := Lib.hid hpq
  have LZ := Lib.hid lZ
  have LP := Lib.hid lP
  have LQ := Lib.hid lQ
  clear hc hE hU hV hP hQ hs hs' lE lU lV lP lQ k2 k4 k7 hpq hxe hg lX lY lZ
  have CG := Lib.hid cg
  clear cg
  have C1 := Lib.hid c1
  clear c1
  have C2 := Lib.hid c2
  clear c2
  have C3 := Lib.hid c3
  clear c3
  have C4 := Lib.hid c4
  clear c4
  have C5 := Lib.hid c5
  clear c5
  have C6 := Lib.hid c6
  clear c6
  have C7 := Lib.hid c7
  clear c7
  have C9 := Lib.hid c9
  clear c9
  have C10 := Lib.hid c10
  clear c10
  rcases HXE.out with ⟨hN, hD, hce⟩ | ⟨hN, hD, hce⟩ | ⟨hN, hce⟩
  · skip
    have HT := Lib.hid ht; clear ht
    go_enter Tryz.func5, Tryz.ntmps5
    go_wp2_with fail
    have BW := Below.refl w.heap.size w
    have b0 : Below w.heap.size w w := Below.refl _ _
    obtain ⟨U1, hU, bU, s1, rx0, rx1⟩ := lay b0 (.string ⟨(rdN X).toArray⟩) (.string ⟨(rdD X).toArray⟩) 23
    rw [hU]; clear hU
    replace BW := Below.more BW bU
    replace HT := Lib.hid (HT.out.below bU)
    clear bU
    have b1 := Below.refl U1.heap.size U1
    obtain ⟨U2, hU, bU, s2, ry0, ry1⟩ := lay b1 (.string ⟨(rdN Y).toArray⟩) (.string ⟨(rdD Y).toArray⟩) 23
    rw [hU]; clear hU
    rw [← s1] at ry0 ry1
    replace rx0 := fun v (h : Below U2.heap.size U2 v) => rx0 v (Below.more bU h)
    replace rx1 := fun v (h : Below U2.heap.size U2 v) => rx1 v (Below.more bU h)
    replace BW := Below.more BW bU
    replace HT := Lib.hid (HT.out.below bU)
    clear bU
    have b2 := Below.refl U2.heap.size U2
    obtain ⟨U3, hU, bU, s3, rz0, rz1⟩ := lay b2 (.string ⟨(rdN Z).toArray⟩) (.string ⟨(rdD Z).toArray⟩) 23
    rw [hU]; clear hU
    rw [← s2] at rz0 rz1
    rw [← s1] at rz0 rz1
    clear s3
    replace rx0 := fun v (h : Below U3.heap.size U3 v) => rx0 v (Below.more bU h)
    replace rx1 := fun v (h : Below U3.heap.size U3 v) => rx1 v (Below.more bU h)
    replace ry0 := fun v (h : Below U3.heap.size U3 v) => ry0 v (Below.more bU h)
    replace ry1 := fun v (h : Below U3.heap.size U3 v) => ry1 v (Below.more bU h)
    replace BW := Below.more BW bU
    replace HT := Lib.hid (HT.out.below bU)
    clear bU
    have b3 := Below.refl U3.heap.size U3
    clear s1
    clear s2
    go_wp2_with fail
    refine (fixed3_any _ (HT.out.below b3)).mono ?_
    rintro e w4 ⟨rfl, b⟩
    have b4 := Below.more b3 b
    clear b
    go_wp2_with fail
    refine (CG.out _).mono ?_
    rintro e w5 ⟨rfl, b⟩
    have b5 := Below.more b4 b
    clear b
    go_wp2_with fail
    refine (C1.out _).mono ?_
    rintro e w6 ⟨rfl, b⟩
    have b6 := Below.more b5 b
    clear b
    go_wp2_with fail
    have hB := Lib.hid (Nat.le_refl U3.heap.size)
    first | (go_region_held3 (fun w' => Below U3.heap.size U3 w')
        (first | (exact b6.drew) | (with_reducible assumption) | (exact Below.alloc (by with_reducible assumption) (Nat.le_trans hB.out (Below.size (by with_reducible assumption))) _) | (exact put2 (by with_reducible assumption) (Nat.le_refl _) _ _) | (exact put2 (by with_reducible assumption) hB.out _ _) | (exact put2 (by with_reducible assumption) (Nat.le_trans hB.out (Below.size (by with_reducible assumption))) _ _))
        (first | (go_at_call 22; (with_reducible show Calls _ _ #[.agg #[.string ⟨(rdN Y).toArray⟩, .string ⟨(rdD Y).toArray⟩], .agg #[.string ⟨(rdN X).toArray⟩, .string ⟨(rdD X).toArray⟩]] _ _); (with_reducible refine (held (W := U3) hB.out (C2.out _) (by assumption)).mono ?_); rintro e w'' ⟨rfl, hb, hw⟩; (first | (have hz := zc_made0 hb) | (have hz := zc_made hb) | skip); (try have hz := Zc.below (by assumption) hb); (try (have z0 := hz.c0; have z1 := hz.c1; have z2 := hz.f0; have z3 := hz.f1))) | (go_at_call 26; (with_reducible refine (held (W := U3) hB.out (C3.out _) (by assumption)).mono ?_); rintro e w'' ⟨rfl, hb, hw⟩; (first | (have hz := zc_made0 hb) | (have hz := zc_made hb) | skip); (try have hz := Zc.below (by assumption) hb); (try (have z0 := hz.c0; have z1 := hz.c1; have z2 := hz.f0; have z3 := hz.f1))) | (go_at_call 18; (with_reducible refine (held (W := U3) hB.out (C4.out _) (by assumption)).mono ?_); rintro e w'' ⟨rfl, hb, hw⟩; (first | (have hz := zc_made0 hb) | (have hz := zc_made hb) | skip); (try have hz := Zc.below (by assumption) hb); (try (have z0 := hz.c0; have z1 := hz.c1; have z2 := hz.f0; have z3 := hz.f1))) | (go_at_call 24; (with_reducible show Calls _ _ #[.agg #[.string ⟨(rdN X).toArray⟩, .string ⟨(rdD X).toArray⟩], .agg #[.string ⟨(rdN Z).toArray⟩, .string ⟨(rdD Z).toArray⟩]] _ _); (with_reducible refine (held (W := U3) hB.out (C5.out _) (by assumption)).mono ?_); rintro e w'' ⟨rfl, hb, hw⟩; (first | (have hz := zc_made0 hb) | (have hz := zc_made hb) | skip); (try have hz := Zc.below (by assumption) hb); (try (have z0 := hz.c0; have z1 := hz.c1; have z2 := hz.f0; have z3 := hz.f1))) | (go_at_call 24; (with_reducible show Calls _ _ #[.agg #[.string ⟨(rdN Y).toArray⟩, .string ⟨(rdD Y).toArray⟩], .agg #[.string ⟨(rdN Z).toArray⟩, .string ⟨(rdD Z).toArray⟩]] _ _); (with_reducible refine (held (W := U3) hB.out (C6.out _) (by assumption)).mono ?_); rintro e w'' ⟨rfl, hb, hw⟩; (first | (have hz := zc_made0 hb) | (have hz := zc_made hb) | skip); (try have hz := Zc.below (by assumption) hb); (try (have z0 := hz.c0; have z1 := hz.c1; have z2 := hz.f0; have z3 := hz.f1))) | (go_at_call 22; (with_reducible show Calls _ _ #[.agg #[.string ⟨(rdN U).toArray⟩, .string ⟨(rdD U).toArray⟩], .agg #[.string ⟨(rdN V).toArray⟩, .string ⟨(rdD V).toArray⟩]] _ _); (with_reducible refine (held (W := U3) hB.out (C7.out _) (by assumption)).mono ?_); rintro e w'' ⟨rfl, hb, hw⟩; (first | (have hz := zc_made0 hb) | (have hz := zc_made hb) | skip); (try have hz := Zc.below (by assumption) hb); (try (have z0 := hz.c0; have z1 := hz.c1; have z2 := hz.f0; have z3 := hz.f1))))) | fail
    rename_i hH
    have b7 := hH
    clear hH hB
    rcases HS.out with ⟨hz, hs⟩ | ⟨hz, hs⟩
    · skip
      have c8 := fun w => qSign LZ.out hs w
      have c11 := fun w => qCmp LP.out LQ.out (HPQ.out hz) w
      have C8 := Lib.hid c8
      clear c8
      have C11 := Lib.hid c11
      clear c11
      clear hz hs
      go_wp2_with fail
      have hB := Lib.hid (Nat.le_refl U3.heap.size)
      first | (go_region_held3 (fun w' => Below U3.heap.size U3 w')
          (first | (exact b7.drew) | (with_reducible assumption) | (exact Below.alloc (by with_reducible assumption) (Nat.le_trans hB.out (Below.size (by with_reducible assumption))) _) | (exact put2 (by with_reducible assumption) (Nat.le_refl _) _ _) | (exact put2 (by with_reducible assumption) hB.out _ _) | (exact put2 (by with_reducible assumption) (Nat.le_trans hB.out (Below.size (by with_reducible assumption))) _ _))
          (first | (go_at_call 18; (with_reducible refine (held (W := U3) hB.out (C8.out _) (by assumption)).mono ?_); rintro e w'' ⟨rfl, hb, hw⟩; (first | (have hz := zc_made0 hb) | (have hz := zc_made hb) | skip); (try have hz := Zc.below (by assumption) hb); (try (have z0 := hz.c0; have z1 := hz.c1; have z2 := hz.f0; have z3 := hz.f1))) | (go_at_call 28; (with_reducible show Calls _ _ #[.agg #[.string ⟨(rdN X).toArray⟩, .string ⟨(rdD X).toArray⟩], .agg #[.string ⟨(rdN Z).toArray⟩, .string ⟨(rdD Z).toArray⟩]] _ _); (with_reducible refine (held (W := U3) hB.out (C9.out _) (by assumption)).mono ?_); rintro e w'' ⟨rfl, hb, hw⟩; (first | (have hz := zc_made0 hb) | (have hz := zc_made hb) | skip); (try have hz := Zc.below (by assumption) hb); (try (have z0 := hz.c0; have z1 := hz.c1; have z2 := hz.f0; have z3 := hz.f1))) | (go_at_call 28; (with_reducible show Calls _ _ #[.agg #[.string ⟨(rdN Y).toArray⟩, .string ⟨(rdD Y).toArray⟩], .agg #[.string ⟨(rdN Z).toArray⟩, .string ⟨(rdD Z).toArray⟩]] _ _); (with_reducible refine (held (W := U3) hB.out (C10.out _) (by assumption)).mono ?_); rintro e w'' ⟨rfl, hb, hw⟩; (first | (have hz := zc_made0 hb) | (have hz := zc_made hb) | skip); (try have hz := Zc.below (by assumption) hb); (try (have z0 := hz.c0; have z1 := hz.c1; have z2 := hz.f0; have z3 := hz.f1))) | (go_at_call 22; (with_reducible show Calls _ _ #[.agg #[.string ⟨(rdN P).toArray⟩, .string ⟨(rdD P).toArray⟩], .agg #[.string ⟨(rdN Q).toArray⟩, .string ⟨(rdD Q).toArray⟩]] _ _); (with_reducible refine (held (W := U3) hB.out (C11.out _) (by assumption)).mono ?_); rintro e w'' ⟨rfl, hb, hw⟩; (first | (have hz := zc_made0 hb) | (have hz := zc_made hb) | skip); (try have hz := Zc.below (by assumption) hb); (try (have z0 := hz.c0; have z1 := hz.c1; have z2 := hz.f0; have z3 := hz.f1))))) | fail
      rename_i hH
      have b8 := hH
      clear hH hB
      go_wp2_with fail
      go_ret
      exact ⟨rfl, Below.more BW b8⟩
    · skip
      have c8 := fun w => qSign LZ.out hs w
      have C8 := Lib.hid c8
      clear c8
      clear hs
      go_wp2_with fail
      have hB := Lib.hid (Nat.le_refl U3.heap.size)
      refine wp_region_noPanic ?_
      refine wp_region_held_drew (S := fun w' => Below U3.heap.size U3 w') (by kernel_rfl) (b7.drew) (fun hHeld => ?_)
      refine wpAnyH_take (i := 0) (v := ?_) rfl (by kernel_rfl) (by kernel_rfl) (by kernel_rfl) (fun _ _ _ h => h) (Or.inl ⟨by rfl, ?_⟩) (by assumption) ?_
      rotate_left 1
      · (intro w hSw; (try dsimp only at hSw); go_simp; with_reducible rfl)
      try simp only [Act.put, List.getElem_toArray, List.getElem_cons_succ, List.getElem_cons_zero, List.setIfInBounds_toArray, List.set_cons_zero, List.set_cons_succ]
      refine wpAnyH_ready (rs := [1]) (by kernel_rfl) (by simp) ?_
      refine AllReadyH.cons rfl (fun K hK => ?_) AllReadyH.nil
      go_simp
      refine (held (W := U3) hB.out (C8.out _) (by assumption)).mono ?_
      rintro e w'' ⟨rfl, hb, hw⟩
      (try go_wp2_with fail)
      refine hK.out _ _ hw (fun hHeld2 => ?_)
      clear hK hHeld hb
      try simp only [Act.put, List.getElem_toArray, List.getElem_cons_succ, List.getElem_cons_zero, List.setIfInBounds_toArray, List.set_cons_zero, List.set_cons_succ]
      refine wpAnyH_take (i := 2) (v := ?_) rfl (by kernel_rfl) (by kernel_rfl) (by kernel_rfl) (fun _ _ _ h => h) (Or.inl ⟨by rfl, ?_⟩) (by assumption) ?_
      rotate_left 1
      · (intro w hSw; (try dsimp only at hSw); go_simp; with_reducible rfl)
      try simp only [Act.put, List.getElem_toArray, List.getElem_cons_succ, List.getElem_cons_zero, List.setIfInBounds_toArray, List.set_cons_zero, List.set_cons_succ]
      refine wpAnyH_take (i := 3) (v := ?_) rfl (by kernel_rfl) (by kernel_rfl) (by kernel_rfl) (fun _ _ _ h => h) (Or.inl ⟨by rfl, ?_⟩) (by assumption) ?_
      rotate_left 1
      · (intro w hSw; (try dsimp only at hSw); go_simp; with_reducible rfl)
      try simp only [Act.put, List.getElem_toArray, List.getElem_cons_succ, List.getElem_cons_zero, List.setIfInBounds_toArray, List.set_cons_zero, List.set_cons_succ]
      refine wpAnyH_take (i := 4) (v := undef) rfl (by kernel_rfl) (by kernel_rfl) (by kernel_rfl) (fun _ _ _ h => h) (Or.inr ⟨by rfl, rfl⟩) (by assumption) ?_
      try simp only [Act.put, List.getElem_toArray, List.getElem_cons_succ, List.getElem_cons_zero, List.setIfInBounds_toArray, List.set_cons_zero, List.set_cons_succ]
      refine wpAnyH_take (i := 5) (v := undef) rfl (by kernel_rfl) (by kernel_rfl) (by kernel_rfl) (fun _ _ _ h => h) (Or.inr ⟨by rfl, rfl⟩) (by assumption) ?_
      try simp only [Act.put, List.getElem_toArray, List.getElem_cons_succ, List.getElem_cons_zero, List.setIfInBounds_toArray, List.set_cons_zero, List.set_cons_succ]
      refine wpAnyH_take (i := 6) (v := undef) rfl (by kernel_rfl) (by kernel_rfl) (by kernel_rfl) (fun _ _ _ h => h) (Or.inr ⟨by rfl, rfl⟩) (by assumption) ?_
      try simp only [Act.put, List.getElem_toArray, List.getElem_cons_succ, List.getElem_cons_zero, List.setIfInBounds_toArray, List.set_cons_zero, List.set_cons_succ]
      refine wpAnyH_take (i := 7) (v := undef) rfl (by kernel_rfl) (by kernel_rfl) (by kernel_rfl) (fun _ _ _ h => h) (Or.inr ⟨by rfl, rfl⟩) (by assumption) ?_
      try simp only [Act.put, List.getElem_toArray, List.getElem_cons_succ, List.getElem_cons_zero, List.setIfInBounds_toArray, List.set_cons_zero, List.set_cons_succ]
      refine wpAnyH_take (i := 8) (v := undef) rfl (by kernel_rfl) (by kernel_rfl) (by kernel_rfl) (fun _ _ _ h => h) (Or.inr ⟨by rfl, rfl⟩) (by assumption) ?_
      try simp only [Act.put, List.getElem_toArray, List.getElem_cons_succ, List.getElem_cons_zero, List.setIfInBounds_toArray, List.set_cons_zero, List.set_cons_succ]
      refine wpAnyH_take (i := 9) (v := undef) rfl (by kernel_rfl) (by kernel_rfl) (by kernel_rfl) (fun _ _ _ h => h) (Or.inr ⟨by rfl, rfl⟩) (by assumption) ?_
      try simp only [Act.put, List.getElem_toArray, List.getElem_cons_succ, List.getElem_cons_zero, List.setIfInBounds_toArray, List.set_cons_zero, List.set_cons_succ]
      refine wpAnyH_take (i := 10) (v := undef) rfl (by kernel_rfl) (by kernel_rfl) (by kernel_rfl) (fun _ _ _ h => h) (Or.inr ⟨by rfl, rfl⟩) (by assumption) ?_
      try simp only [Act.put, List.getElem_toArray, List.getElem_cons_succ, List.getElem_cons_zero, List.setIfInBounds_toArray, List.set_cons_zero, List.set_cons_succ]
      refine wpAnyH_take (i := 11) (v := undef) rfl (by kernel_rfl) (by kernel_rfl) (by kernel_rfl) (fun _ _ _ h => h) (Or.inr ⟨by rfl, rfl⟩) (by assumption) ?_
      try simp only [Act.put, List.getElem_toArray, List.getElem_cons_succ, List.getElem_cons_zero, List.setIfInBounds_toArray, List.set_cons_zero, List.set_cons_succ]
      refine wpAnyH_take (i := 12) (v := undef) rfl (by kernel_rfl) (by kernel_rfl) (by kernel_rfl) (fun _ _ _ h => h) (Or.inr ⟨by rfl, rfl⟩) (by assumption) ?_
      try simp only [Act.put, List.getElem_toArray, List.getElem_cons_succ, List.getElem_cons_zero, List.setIfInBounds_toArray, List.set_cons_zero, List.set_cons_succ]
      refine wpAnyH_take (i := 13) (v := ?_) rfl (by kernel_rfl) (by kernel_rfl) (by kernel_rfl) (fun _ _ _ h => h) (Or.inl ⟨by rfl, ?_⟩) (by assumption) ?_
      rotate_left 1
      · (intro w hSw; (try dsimp only at hSw); go_simp; with_reducible rfl)
      try simp only [Act.put, List.getElem_toArray, List.getElem_cons_succ, List.getElem_cons_zero, List.setIfInBounds_toArray, List.set_cons_zero, List.set_cons_succ]
      refine wpAnyH_take (i := 14) (v := ?_) rfl (by kernel_rfl) (by kernel_rfl) (by kernel_rfl) (fun _ _ _ h => h) (Or.inl ⟨by rfl, ?_⟩) (by assumption) ?_
      rotate_left 1
      · (intro w hSw; (try dsimp only at hSw); go_simp; with_reducible rfl)
      try simp only [Act.put, List.getElem_toArray, List.getElem_cons_succ, List.getElem_cons_zero, List.setIfInBounds_toArray, List.set_cons_zero, List.set_cons_succ]
      refine wpAnyH_done (by kernel_rfl) ?_ _
      refine NoPanic.normal ?_
      have b8 := hw
      clear hw hB
      go_wp2_with fail
      go_ret
      exact ⟨rfl, Below.more BW b8⟩
  · skip
    have HT := Lib.hid ht; clear ht
    go_enter Tryz.func5, Tryz.ntmps5
    go_wp2_with fail
    have BW := Below.refl w.heap.size w
    have b0 : Below w.heap.size w w := Below.refl _ _
    obtain ⟨U1, hU, bU, s1, rx0, rx1⟩ := lay b0 (.string ⟨(rdN X).toArray⟩) (.string ⟨(rdD X).toArray⟩) 23
    rw [hU]; clear hU
    replace BW := Below.more BW bU
    replace HT := Lib.hid (HT.out.below bU)
    clear bU
    have b1 := Below.refl U1.heap.size U1
    obtain ⟨U2, hU, bU, s2, ry0, ry1⟩ := lay b1 (.string ⟨(rdN Y).toArray⟩) (.string ⟨(rdD Y).toArray⟩) 23
    rw [hU]; clear hU
    rw [← s1] at ry0 ry1
    replace rx0 := fun v (h : Below U2.heap.size U2 v) => rx0 v (Below.more bU h)
    replace rx1 := fun v (h : Below U2.heap.size U2 v) => rx1 v (Below.more bU h)
    replace BW := Below.more BW bU
    replace HT := Lib.hid (HT.out.below bU)
    clear bU
    have b2 := Below.refl U2.heap.size U2
    obtain ⟨U3, hU, bU, s3, rz0, rz1⟩ := lay b2 (.string ⟨(rdN Z).toArray⟩) (.string ⟨(rdD Z).toArray⟩) 23
    rw [hU]; clear hU
    rw [← s2] at rz0 rz1
    rw [← s1] at rz0 rz1
    clear s3
    replace rx0 := fun v (h : Below U3.heap.size U3 v) => rx0 v (Below.more bU h)
    replace rx1 := fun v (h : Below U3.heap.size U3 v) => rx1 v (Below.more bU h)
    replace ry0 := fun v (h : Below U3.heap.size U3 v) => ry0 v (Below.more bU h)
    replace ry1 := fun v (h : Below U3.heap.size U3 v) => ry1 v (Below.more bU h)
    replace BW := Below.more BW bU
    replace HT := Lib.hid (HT.out.below bU)
    clear bU
    have b3 := Below.refl U3.heap.size U3
    clear s1
    clear s2
    go_wp2_with fail
    refine (fixed3_any _ (HT.out.below b3)).mono ?_
    rintro e w4 ⟨rfl, b⟩
    have b4 := Below.more b3 b
    clear b
    go_wp2_with fail
    refine (CG.out _).mono ?_
    rintro e w5 ⟨rfl, b⟩
    have b5 := Below.more b4 b
    clear b
    go_wp2_with fail
    refine (C1.out _).mono ?_
    rintro e w6 ⟨rfl, b⟩
    have b6 := Below.more b5 b
    clear b
    go_wp2_with fail
    have hB := Lib.hid (Nat.le_refl U3.heap.size)
    first | (go_region_held3 (fun w' => Below U3.heap.size U3 w')
        (first | (exact b6.drew) | (with_reducible assumption) | (exact Below.alloc (by with_reducible assumption) (Nat.le_trans hB.out (Below.size (by with_reducible assumption))) _) | (exact put2 (by with_reducible assumption) (Nat.le_refl _) _ _) | (exact put2 (by with_reducible assumption) hB.out _ _) | (exact put2 (by with_reducible assumption) (Nat.le_trans hB.out (Below.size (by with_reducible assumption))) _ _))
        (first | (go_at_call 22; (with_reducible show Calls _ _ #[.agg #[.string ⟨(rdN Y).toArray⟩, .string ⟨(rdD Y).toArray⟩], .agg #[.string ⟨(rdN X).toArray⟩, .string ⟨(rdD X).toArray⟩]] _ _); (with_reducible refine (held (W := U3) hB.out (C2.out _) (by assumption)).mono ?_); rintro e w'' ⟨rfl, hb, hw⟩; (first | (have hz := zc_made0 hb) | (have hz := zc_made hb) | skip); (try have hz := Zc.below (by assumption) hb); (try (have z0 := hz.c0; have z1 := hz.c1; have z2 := hz.f0; have z3 := hz.f1))) | (go_at_call 26; (with_reducible refine (held (W := U3) hB.out (C3.out _) (by assumption)).mono ?_); rintro e w'' ⟨rfl, hb, hw⟩; (first | (have hz := zc_made0 hb) | (have hz := zc_made hb) | skip); (try have hz := Zc.below (by assumption) hb); (try (have z0 := hz.c0; have z1 := hz.c1; have z2 := hz.f0; have z3 := hz.f1))) | (go_at_call 18; (with_reducible refine (held (W := U3) hB.out (C4.out _) (by assumption)).mono ?_); rintro e w'' ⟨rfl, hb, hw⟩; (first | (have hz := zc_made0 hb) | (have hz := zc_made hb) | skip); (try have hz := Zc.below (by assumption) hb); (try (have z0 := hz.c0; have z1 := hz.c1; have z2 := hz.f0; have z3 := hz.f1))) | (go_at_call 24; (with_reducible show Calls _ _ #[.agg #[.string ⟨(rdN X).toArray⟩, .string ⟨(rdD X).toArray⟩], .agg #[.string ⟨(rdN Z).toArray⟩, .string ⟨(rdD Z).toArray⟩]] _ _); (with_reducible refine (held (W := U3) hB.out (C5.out _) (by assumption)).mono ?_); rintro e w'' ⟨rfl, hb, hw⟩; (first | (have hz := zc_made0 hb) | (have hz := zc_made hb) | skip); (try have hz := Zc.below (by assumption) hb); (try (have z0 := hz.c0; have z1 := hz.c1; have z2 := hz.f0; have z3 := hz.f1))) | (go_at_call 24; (with_reducible show Calls _ _ #[.agg #[.string ⟨(rdN Y).toArray⟩, .string ⟨(rdD Y).toArray⟩], .agg #[.string ⟨(rdN Z).toArray⟩, .string ⟨(rdD Z).toArray⟩]] _ _); (with_reducible refine (held (W := U3) hB.out (C6.out _) (by assumption)).mono ?_); rintro e w'' ⟨rfl, hb, hw⟩; (first | (have hz := zc_made0 hb) | (have hz := zc_made hb) | skip); (try have hz := Zc.below (by assumption) hb); (try (have z0 := hz.c0; have z1 := hz.c1; have z2 := hz.f0; have z3 := hz.f1))) | (go_at_call 22; (with_reducible show Calls _ _ #[.agg #[.string ⟨(rdN U).toArray⟩, .string ⟨(rdD U).toArray⟩], .agg #[.string ⟨(rdN V).toArray⟩, .string ⟨(rdD V).toArray⟩]] _ _); (with_reducible refine (held (W := U3) hB.out (C7.out _) (by assumption)).mono ?_); rintro e w'' ⟨rfl, hb, hw⟩; (first | (have hz := zc_made0 hb) | (have hz := zc_made hb) | skip); (try have hz := Zc.below (by assumption) hb); (try (have z0 := hz.c0; have z1 := hz.c1; have z2 := hz.f0; have z3 := hz.f1))))) | fail
    rename_i hH
    have b7 := hH
    clear hH hB
    rcases HS.out with ⟨hz, hs⟩ | ⟨hz, hs⟩
    · skip
      have c8 := fun w => qSign LZ.out hs w
      have c11 := fun w => qCmp LP.out LQ.out (HPQ.out hz) w
      have C8 := Lib.hid c8
      clear c8
      have C11 := Lib.hid c11
      clear c11
      clear hz hs
      go_wp2_with fail
      have hB := Lib.hid (Nat.le_refl U3.heap.size)
      first | (go_region_held3 (fun w' => Below U3.heap.size U3 w')
          (first | (exact b7.drew) | (with_reducible assumption) | (exact Below.alloc (by with_reducible assumption) (Nat.le_trans hB.out (Below.size (by with_reducible assumption))) _) | (exact put2 (by with_reducible assumption) (Nat.le_refl _) _ _) | (exact put2 (by with_reducible assumption) hB.out _ _) | (exact put2 (by with_reducible assumption) (Nat.le_trans hB.out (Below.size (by with_reducible assumption))) _ _))
          (first | (go_at_call 18; (with_reducible refine (held (W := U3) hB.out (C8.out _) (by assumption)).mono ?_); rintro e w'' ⟨rfl, hb, hw⟩; (first | (have hz := zc_made0 hb) | (have hz := zc_made hb) | skip); (try have hz := Zc.below (by assumption) hb); (try (have z0 := hz.c0; have z1 := hz.c1; have z2 := hz.f0; have z3 := hz.f1))) | (go_at_call 28; (with_reducible show Calls _ _ #[.agg #[.string ⟨(rdN X).toArray⟩, .string ⟨(rdD X).toArray⟩], .agg #[.string ⟨(rdN Z).toArray⟩, .string ⟨(rdD Z).toArray⟩]] _ _); (with_reducible refine (held (W := U3) hB.out (C9.out _) (by assumption)).mono ?_); rintro e w'' ⟨rfl, hb, hw⟩; (first | (have hz := zc_made0 hb) | (have hz := zc_made hb) | skip); (try have hz := Zc.below (by assumption) hb); (try (have z0 := hz.c0; have z1 := hz.c1; have z2 := hz.f0; have z3 := hz.f1))) | (go_at_call 28; (with_reducible show Calls _ _ #[.agg #[.string ⟨(rdN Y).toArray⟩, .string ⟨(rdD Y).toArray⟩], .agg #[.string ⟨(rdN Z).toArray⟩, .string ⟨(rdD Z).toArray⟩]] _ _); (with_reducible refine (held (W := U3) hB.out (C10.out _) (by assumption)).mono ?_); rintro e w'' ⟨rfl, hb, hw⟩; (first | (have hz := zc_made0 hb) | (have hz := zc_made hb) | skip); (try have hz := Zc.below (by assumption) hb); (try (have z0 := hz.c0; have z1 := hz.c1; have z2 := hz.f0; have z3 := hz.f1))) | (go_at_call 22; (with_reducible show Calls _ _ #[.agg #[.string ⟨(rdN P).toArray⟩, .string ⟨(rdD P).toArray⟩], .agg #[.string ⟨(rdN Q).toArray⟩, .string ⟨(rdD Q).toArray⟩]] _ _); (with_reducible refine (held (W := U3) hB.out (C11.out _) (by assumption)).mono ?_); rintro e w'' ⟨rfl, hb, hw⟩; (first | (have hz := zc_made0 hb) | (have hz := zc_made hb) | skip); (try have hz := Zc.below (by assumption) hb); (try (have z0 := hz.c0; have z1 := hz.c1; have z2 := hz.f0; have z3 := hz.f1))))) | fail
      rename_i hH
      have b8 := hH
      clear hH hB
      go_wp2_with fail
      go_ret
      exact ⟨rfl, Below.more BW b8⟩
    · skip
      have c8 := fun w => qSign LZ.out hs w
      have C8 := Lib.hid c8
      clear c8
      clear hs
      go_wp2_with fail
      have hB := Lib.hid (Nat.le_refl U3.heap.size)
      refine wp_region_noPanic ?_
      refine wp_region_held_drew (S := fun w' => Below U3.heap.size U3 w') (by kernel_rfl) (b7.drew) (fun hHeld => ?_)
      refine wpAnyH_take (i := 0) (v := ?_) rfl (by kernel_rfl) (by kernel_rfl) (by kernel_rfl) (fun _ _ _ h => h) (Or.inl ⟨by rfl, ?_⟩) (by assumption) ?_
      rotate_left 1
      · (intro w hSw; (try dsimp only at hSw); go_simp; with_reducible rfl)
      try simp only [Act.put, List.getElem_toArray, List.getElem_cons_succ, List.getElem_cons_zero, List.setIfInBounds_toArray, List.set_cons_zero, List.set_cons_succ]
      refine wpAnyH_ready (rs := [1]) (by kernel_rfl) (by simp) ?_
      refine AllReadyH.cons rfl (fun K hK => ?_) AllReadyH.nil
      go_simp
      refine (held (W := U3) hB.out (C8.out _) (by assumption)).mono ?_
      rintro e w'' ⟨rfl, hb, hw⟩
      (try go_wp2_with fail)
      refine hK.out _ _ hw (fun hHeld2 => ?_)
      clear hK hHeld hb
      try simp only [Act.put, List.getElem_toArray, List.getElem_cons_succ, List.getElem_cons_zero, List.setIfInBounds_toArray, List.set_cons_zero, List.set_cons_succ]
      refine wpAnyH_take (i := 2) (v := ?_) rfl (by kernel_rfl) (by kernel_rfl) (by kernel_rfl) (fun _ _ _ h => h) (Or.inl ⟨by rfl, ?_⟩) (by assumption) ?_
      rotate_left 1
      · (intro w hSw; (try dsimp only at hSw); go_simp; with_reducible rfl)
      try simp only [Act.put, List.getElem_toArray, List.getElem_cons_succ, List.getElem_cons_zero, List.setIfInBounds_toArray, List.set_cons_zero, List.set_cons_succ]
      refine wpAnyH_take (i := 3) (v := ?_) rfl (by kernel_rfl) (by kernel_rfl) (by kernel_rfl) (fun _ _ _ h => h) (Or.inl ⟨by rfl, ?_⟩) (by assumption) ?_
      rotate_left 1
      · (intro w hSw; (try dsimp only at hSw); go_simp; with_reducible rfl)
      try simp only [Act.put, List.getElem_toArray, List.getElem_cons_succ, List.getElem_cons_zero, List.setIfInBounds_toArray, List.set_cons_zero, List.set_cons_succ]
      refine wpAnyH_take (i := 4) (v := undef) rfl (by kernel_rfl) (by kernel_rfl) (by kernel_rfl) (fun _ _ _ h => h) (Or.inr ⟨by rfl, rfl⟩) (by assumption) ?_
      try simp only [Act.put, List.getElem_toArray, List.getElem_cons_succ, List.getElem_cons_zero, List.setIfInBounds_toArray, List.set_cons_zero, List.set_cons_succ]
      refine wpAnyH_take (i := 5) (v := undef) rfl (by kernel_rfl) (by kernel_rfl) (by kernel_rfl) (fun _ _ _ h => h) (Or.inr ⟨by rfl, rfl⟩) (by assumption) ?_
      try simp only [Act.put, List.getElem_toArray, List.getElem_cons_succ, List.getElem_cons_zero, List.setIfInBounds_toArray, List.set_cons_zero, List.set_cons_succ]
      refine wpAnyH_take (i := 6) (v := undef) rfl (by kernel_rfl) (by kernel_rfl) (by kernel_rfl) (fun _ _ _ h => h) (Or.inr ⟨by rfl, rfl⟩) (by assumption) ?_
      try simp only [Act.put, List.getElem_toArray, List.getElem_cons_succ, List.getElem_cons_zero, List.setIfInBounds_toArray, List.set_cons_zero, List.set_cons_succ]
      refine wpAnyH_take (i := 7) (v := undef) rfl (by kernel_rfl) (by kernel_rfl) (by kernel_rfl) (fun _ _ _ h => h) (Or.inr ⟨by rfl, rfl⟩) (by assumption) ?_
      try simp only [Act.put, List.getElem_toArray, List.getElem_cons_succ, List.getElem_cons_zero, List.setIfInBounds_toArray, List.set_cons_zero, List.set_cons_succ]
      refine wpAnyH_take (i := 8) (v := undef) rfl (by kernel_rfl) (by kernel_rfl) (by kernel_rfl) (fun _ _ _ h => h) (Or.inr ⟨by rfl, rfl⟩) (by assumption) ?_
      try simp only [Act.put, List.getElem_toArray, List.getElem_cons_succ, List.getElem_cons_zero, List.setIfInBounds_toArray, List.set_cons_zero, List.set_cons_succ]
      refine wpAnyH_take (i := 9) (v := undef) rfl (by kernel_rfl) (by kernel_rfl) (by kernel_rfl) (fun _ _ _ h => h) (Or.inr ⟨by rfl, rfl⟩) (by assumption) ?_
      try simp only [Act.put, List.getElem_toArray, List.getElem_cons_succ, List.getElem_cons_zero, List.setIfInBounds_toArray, List.set_cons_zero, List.set_cons_succ]
      refine wpAnyH_take (i := 10) (v := undef) rfl (by kernel_rfl) (by kernel_rfl) (by kernel_rfl) (fun _ _ _ h => h) (Or.inr ⟨by rfl, rfl⟩) (by assumption) ?_
      try simp only [Act.put, List.getElem_toArray, List.getElem_cons_succ, List.getElem_cons_zero, List.setIfInBounds_toArray, List.set_cons_zero, List.set_cons_succ]
      refine wpAnyH_take (i := 11) (v := undef) rfl (by kernel_rfl) (by kernel_rfl) (by kernel_rfl) (fun _ _ _ h => h) (Or.inr ⟨by rfl, rfl⟩) (by assumption) ?_
      try simp only [Act.put, List.getElem_toArray, List.getElem_cons_succ, List.getElem_cons_zero, List.setIfInBounds_toArray, List.set_cons_zero, List.set_cons_succ]
      refine wpAnyH_take (i := 12) (v := undef) rfl (by kernel_rfl) (by kernel_rfl) (by kernel_rfl) (fun _ _ _ h => h) (Or.inr ⟨by rfl, rfl⟩) (by assumption) ?_
      try simp only [Act.put, List.getElem_toArray, List.getElem_cons_succ, List.getElem_cons_zero, List.setIfInBounds_toArray, List.set_cons_zero, List.set_cons_succ]
      refine wpAnyH_take (i := 13) (v := ?_) rfl (by kernel_rfl) (by kernel_rfl) (by kernel_rfl) (fun _ _ _ h => h) (Or.inl ⟨by rfl, ?_⟩) (by assumption) ?_
      rotate_left 1
      · (intro w hSw; (try dsimp only at hSw); go_simp; with_reducible rfl)
      try simp only [Act.put, List.getElem_toArray, List.getElem_cons_succ, List.getElem_cons_zero, List.setIfInBounds_toArray, List.set_cons_zero, List.set_cons_succ]
      refine wpAnyH_take (i := 14) (v := ?_) rfl (by kernel_rfl) (by kernel_rfl) (by kernel_rfl) (fun _ _ _ h => h) (Or.inl ⟨by rfl, ?_⟩) (by assumption) ?_
      rotate_left 1
      · (intro w hSw; (try dsimp only at hSw); go_simp; with_reducible rfl)
      try simp only [Act.put, List.getElem_toArray, List.getElem_cons_succ, List.getElem_cons_zero, List.setIfInBounds_toArray, List.set_cons_zero, List.set_cons_succ]
      refine wpAnyH_done (by kernel_rfl) ?_ _
      refine NoPanic.normal ?_
      have b8 := hw
      clear hw hB
      go_wp2_with fail
      go_ret
      exact ⟨rfl, Below.more BW b8⟩
  · skip
    have HT := Lib.hid ht; clear ht
    go_enter Tryz.func5, Tryz.ntmps5
    go_wp2_with fail
    have BW := Below.refl w.heap.size w
    have b0 : Below w.heap.size w w := Below.refl _ _
    obtain ⟨U1, hU, bU, s1, rx0, rx1⟩ := lay b0 (.string ⟨(rdN X).toArray⟩) (.string ⟨(rdD X).toArray⟩) 23
    rw [hU]; clear hU
    replace BW := Below.more BW bU
    replace HT := Lib.hid (HT.out.below bU)
    clear bU
    have b1 := Below.refl U1.heap.size U1
    obtain ⟨U2, hU, bU, s2, ry0, ry1⟩ := lay b1 (.string ⟨(rdN Y).toArray⟩) (.string ⟨(rdD Y).toArray⟩) 23
    rw [hU]; clear hU
    rw [← s1] at ry0 ry1
    replace rx0 := fun v (h : Below U2.heap.size U2 v) => rx0 v (Below.more bU h)
    replace rx1 := fun v (h : Below U2.heap.size U2 v) => rx1 v (Below.more bU h)
    replace BW := Below.more BW bU
    replace HT := Lib.hid (HT.out.below bU)
    clear bU
    have b2 := Below.refl U2.heap.size U2
    obtain ⟨U3, hU, bU, s3, rz0, rz1⟩ := lay b2 (.string ⟨(rdN Z).toArray⟩) (.string ⟨(rdD Z).toArray⟩) 23
    rw [hU]; clear hU
    rw [← s2] at rz0 rz1
    rw [← s1] at rz0 rz1
    clear s3
    replace rx0 := fun v (h : Below U3.heap.size U3 v) => rx0 v (Below.more bU h)
    replace rx1 := fun v (h : Below U3.heap.size U3 v) => rx1 v (Below.more bU h)
    replace ry0 := fun v (h : Below U3.heap.size U3 v) => ry0 v (Below.more bU h)
    replace ry1 := fun v (h : Below U3.heap.size U3 v) => ry1 v (Below.more bU h)
    replace BW := Below.more BW bU
    replace HT := Lib.hid (HT.out.below bU)
    clear bU
    have b3 := Below.refl U3.heap.size U3
    clear s1
    clear s2
    go_wp2_with fail
    refine (fixed3_any _ (HT.out.below b3)).mono ?_
    rintro e w4 ⟨rfl, b⟩
    have b4 := Below.more b3 b
    clear b
    go_wp2_with fail
    refine (CG.out _).mono ?_
    rintro e w5 ⟨rfl, b⟩
    have b5 := Below.more b4 b
    clear b
    go_wp2_with fail
    refine (C1.out _).mono ?_
    rintro e w6 ⟨rfl, b⟩
    have b6 := Below.more b5 b
    clear b
    go_wp2_with fail
    have hB := Lib.hid (Nat.le_refl U3.heap.size)
    first | (go_region_held3 (fun w' => Below U3.heap.size U3 w')
        (first | (exact b6.drew) | (with_reducible assumption) | (exact Below.alloc (by with_reducible assumption) (Nat.le_trans hB.out (Below.size (by with_reducible assumption))) _) | (exact put2 (by with_reducible assumption) (Nat.le_refl _) _ _) | (exact put2 (by with_reducible assumption) hB.out _ _) | (exact put2 (by with_reducible assumption) (Nat.le_trans hB.out (Below.size (by with_reducible assumption))) _ _))
        (first | (go_at_call 22; (with_reducible show Calls _ _ #[.agg #[.string ⟨(rdN Y).toArray⟩, .string ⟨(rdD Y).toArray⟩], .agg #[.string ⟨(rdN X).toArray⟩, .string ⟨(rdD X).toArray⟩]] _ _); (with_reducible refine (held (W := U3) hB.out (C2.out _) (by assumption)).mono ?_); rintro e w'' ⟨rfl, hb, hw⟩; (first | (have hz := zc_made0 hb) | (have hz := zc_made hb) | skip); (try have hz := Zc.below (by assumption) hb); (try (have z0 := hz.c0; have z1 := hz.c1; have z2 := hz.f0; have z3 := hz.f1))) | (go_at_call 26; (with_reducible refine (held (W := U3) hB.out (C3.out _) (by assumption)).mono ?_); rintro e w'' ⟨rfl, hb, hw⟩; (first | (have hz := zc_made0 hb) | (have hz := zc_made hb) | skip); (try have hz := Zc.below (by assumption) hb); (try (have z0 := hz.c0; have z1 := hz.c1; have z2 := hz.f0; have z3 := hz.f1))) | (go_at_call 18; (with_reducible refine (held (W := U3) hB.out (C4.out _) (by assumption)).mono ?_); rintro e w'' ⟨rfl, hb, hw⟩; (first | (have hz := zc_made0 hb) | (have hz := zc_made hb) | skip); (try have hz := Zc.below (by assumption) hb); (try (have z0 := hz.c0; have z1 := hz.c1; have z2 := hz.f0; have z3 := hz.f1))) | (go_at_call 24; (with_reducible show Calls _ _ #[.agg #[.string ⟨(rdN X).toArray⟩, .string ⟨(rdD X).toArray⟩], .agg #[.string ⟨(rdN Z).toArray⟩, .string ⟨(rdD Z).toArray⟩]] _ _); (with_reducible refine (held (W := U3) hB.out (C5.out _) (by assumption)).mono ?_); rintro e w'' ⟨rfl, hb, hw⟩; (first | (have hz := zc_made0 hb) | (have hz := zc_made hb) | skip); (try have hz := Zc.below (by assumption) hb); (try (have z0 := hz.c0; have z1 := hz.c1; have z2 := hz.f0; have z3 := hz.f1))) | (go_at_call 24; (with_reducible show Calls _ _ #[.agg #[.string ⟨(rdN Y).toArray⟩, .string ⟨(rdD Y).toArray⟩], .agg #[.string ⟨(rdN Z).toArray⟩, .string ⟨(rdD Z).toArray⟩]] _ _); (with_reducible refine (held (W := U3) hB.out (C6.out _) (by assumption)).mono ?_); rintro e w'' ⟨rfl, hb, hw⟩; (first | (have hz := zc_made0 hb) | (have hz := zc_made hb) | skip); (try have hz := Zc.below (by assumption) hb); (try (have z0 := hz.c0; have z1 := hz.c1; have z2 := hz.f0; have z3 := hz.f1))) | (go_at_call 22; (with_reducible show Calls _ _ #[.agg #[.string ⟨(rdN U).toArray⟩, .string ⟨(rdD U).toArray⟩], .agg #[.string ⟨(rdN V).toArray⟩, .string ⟨(rdD V).toArray⟩]] _ _); (with_reducible refine (held (W := U3) hB.out (C7.out _) (by assumption)).mono ?_); rintro e w'' ⟨rfl, hb, hw⟩; (first | (have hz := zc_made0 hb) | (have hz := zc_made hb) | skip); (try have hz := Zc.below (by assumption) hb); (try (have z0 := hz.c0; have z1 := hz.c1; have z2 := hz.f0; have z3 := hz.f1))))) | fail
    rename_i hH
    have b7 := hH
    clear hH hB
    rcases HS.out with ⟨hz, hs⟩ | ⟨hz, hs⟩
    · skip
      have c8 := fun w => qSign LZ.out hs w
      have c11 := fun w => qCmp LP.out LQ.out (HPQ.out hz) w
      have C8 := Lib.hid c8
      clear c8
      have C11 := Lib.hid c11
      clear c11
      clear hz hs
      go_wp2_with fail
      have hB := Lib.hid (Nat.le_refl U3.heap.size)
      first | (go_region_held3 (fun w' => Below U3.heap.size U3 w')
          (first | (exact b7.drew) | (with_reducible assumption) | (exact Below.alloc (by with_reducible assumption) (Nat.le_trans hB.out (Below.size (by with_reducible assumption))) _) | (exact put2 (by with_reducible assumption) (Nat.le_refl _) _ _) | (exact put2 (by with_reducible assumption) hB.out _ _) | (exact put2 (by with_reducible assumption) (Nat.le_trans hB.out (Below.size (by with_reducible assumption))) _ _))
          (first | (go_at_call 18; (with_reducible refine (held (W := U3) hB.out (C8.out _) (by assumption)).mono ?_); rintro e w'' ⟨rfl, hb, hw⟩; (first | (have hz := zc_made0 hb) | (have hz := zc_made hb) | skip); (try have hz := Zc.below (by assumption) hb); (try (have z0 := hz.c0; have z1 := hz.c1; have z2 := hz.f0; have z3 := hz.f1))) | (go_at_call 28; (with_reducible show Calls _ _ #[.agg #[.string ⟨(rdN X).toArray⟩, .string ⟨(rdD X).toArray⟩], .agg #[.string ⟨(rdN Z).toArray⟩, .string ⟨(rdD Z).toArray⟩]] _ _); (with_reducible refine (held (W := U3) hB.out (C9.out _) (by assumption)).mono ?_); rintro e w'' ⟨rfl, hb, hw⟩; (first | (have hz := zc_made0 hb) | (have hz := zc_made hb) | skip); (try have hz := Zc.below (by assumption) hb); (try (have z0 := hz.c0; have z1 := hz.c1; have z2 := hz.f0; have z3 := hz.f1))) | (go_at_call 28; (with_reducible show Calls _ _ #[.agg #[.string ⟨(rdN Y).toArray⟩, .string ⟨(rdD Y).toArray⟩], .agg #[.string ⟨(rdN Z).toArray⟩, .string ⟨(rdD Z).toArray⟩]] _ _); (with_reducible refine (held (W := U3) hB.out (C10.out _) (by assumption)).mono ?_); rintro e w'' ⟨rfl, hb, hw⟩; (first | (have hz := zc_made0 hb) | (have hz := zc_made hb) | skip); (try have hz := Zc.below (by assumption) hb); (try (have z0 := hz.c0; have z1 := hz.c1; have z2 := hz.f0; have z3 := hz.f1))) | (go_at_call 22; (with_reducible show Calls _ _ #[.agg #[.string ⟨(rdN P).toArray⟩, .string ⟨(rdD P).toArray⟩], .agg #[.string ⟨(rdN Q).toArray⟩, .string ⟨(rdD Q).toArray⟩]] _ _); (with_reducible refine (held (W := U3) hB.out (C11.out _) (by assumption)).mono ?_); rintro e w'' ⟨rfl, hb, hw⟩; (first | (have hz := zc_made0 hb) | (have hz := zc_made hb) | skip); (try have hz := Zc.below (by assumption) hb); (try (have z0 := hz.c0; have z1 := hz.c1; have z2 := hz.f0; have z3 := hz.f1))))) | fail
      rename_i hH
      have b8 := hH
      clear hH hB
      go_wp2_with fail
      go_ret
      exact ⟨rfl, Below.more BW b8⟩
    · skip
      have c8 := fun w => qSign LZ.out hs w
      have C8 := Lib.hid c8
      clear c8
      clear hs
      go_wp2_with fail
      have hB := Lib.hid (Nat.le_refl U3.heap.size)
      refine wp_region_noPanic ?_
      refine wp_region_held_drew (S := fun w' => Below U3.heap.size U3 w') (by kernel_rfl) (b7.drew) (fun hHeld => ?_)
      refine wpAnyH_take (i := 0) (v := ?_) rfl (by kernel_rfl) (by kernel_rfl) (by kernel_rfl) (fun _ _ _ h => h) (Or.inl ⟨by rfl, ?_⟩) (by assumption) ?_
      rotate_left 1
      · (intro w hSw; (try dsimp only at hSw); go_simp; with_reducible rfl)
      try simp only [Act.put, List.getElem_toArray, List.getElem_cons_succ, List.getElem_cons_zero, List.setIfInBounds_toArray, List.set_cons_zero, List.set_cons_succ]
      refine wpAnyH_ready (rs := [1]) (by kernel_rfl) (by simp) ?_
      refine AllReadyH.cons rfl (fun K hK => ?_) AllReadyH.nil
      go_simp
      refine (held (W := U3) hB.out (C8.out _) (by assumption)).mono ?_
      rintro e w'' ⟨rfl, hb, hw⟩
      (try go_wp2_with fail)
      refine hK.out _ _ hw (fun hHeld2 => ?_)
      clear hK hHeld hb
      try simp only [Act.put, List.getElem_toArray, List.getElem_cons_succ, List.getElem_cons_zero, List.setIfInBounds_toArray, List.set_cons_zero, List.set_cons_succ]
      refine wpAnyH_take (i := 2) (v := ?_) rfl (by kernel_rfl) (by kernel_rfl) (by kernel_rfl) (fun _ _ _ h => h) (Or.inl ⟨by rfl, ?_⟩) (by assumption) ?_
      rotate_left 1
      · (intro w hSw; (try dsimp only at hSw); go_simp; with_reducible rfl)
      try simp only [Act.put, List.getElem_toArray, List.getElem_cons_succ, List.getElem_cons_zero, List.setIfInBounds_toArray, List.set_cons_zero, List.set_cons_succ]
      refine wpAnyH_take (i := 3) (v := ?_) rfl (by kernel_rfl) (by kernel_rfl) (by kernel_rfl) (fun _ _ _ h => h) (Or.inl ⟨by rfl, ?_⟩) (by assumption) ?_
      rotate_left 1
      · (intro w hSw; (try dsimp only at hSw); go_simp; with_reducible rfl)
      try simp only [Act.put, List.getElem_toArray, List.getElem_cons_succ, List.getElem_cons_zero, List.setIfInBounds_toArray, List.set_cons_zero, List.set_cons_succ]
      refine wpAnyH_take (i := 4) (v := undef) rfl (by kernel_rfl) (by kernel_rfl) (by kernel_rfl) (fun _ _ _ h => h) (Or.inr ⟨by rfl, rfl⟩) (by assumption) ?_
      try simp only [Act.put, List.getElem_toArray, List.getElem_cons_succ, List.getElem_cons_zero, List.setIfInBounds_toArray, List.set_cons_zero, List.set_cons_succ]
      refine wpAnyH_take (i := 5) (v := undef) rfl (by kernel_rfl) (by kernel_rfl) (by kernel_rfl) (fun _ _ _ h => h) (Or.inr ⟨by rfl, rfl⟩) (by assumption) ?_
      try simp only [Act.put, List.getElem_toArray, List.getElem_cons_succ, List.getElem_cons_zero, List.setIfInBounds_toArray, List.set_cons_zero, List.set_cons_succ]
      refine wpAnyH_take (i := 6) (v := undef) rfl (by kernel_rfl) (by kernel_rfl) (by kernel_rfl) (fun _ _ _ h => h) (Or.inr ⟨by rfl, rfl⟩) (by assumption) ?_
      try simp only [Act.put, List.getElem_toArray, List.getElem_cons_succ, List.getElem_cons_zero, List.setIfInBounds_toArray, List.set_cons_zero, List.set_cons_succ]
      refine wpAnyH_take (i := 7) (v := undef) rfl (by kernel_rfl) (by kernel_rfl) (by kernel_rfl) (fun _ _ _ h => h) (Or.inr ⟨by rfl, rfl⟩) (by assumption) ?_
      try simp only [Act.put, List.getElem_toArray, List.getElem_cons_succ, List.getElem_cons_zero, List.setIfInBounds_toArray, List.set_cons_zero, List.set_cons_succ]
      refine wpAnyH_take (i := 8) (v := undef) rfl (by kernel_rfl) (by kernel_rfl) (by kernel_rfl) (fun _ _ _ h => h) (Or.inr ⟨by rfl, rfl⟩) (by assumption) ?_
      try simp only [Act.put, List.getElem_toArray, List.getElem_cons_succ, List.getElem_cons_zero, List.setIfInBounds_toArray, List.set_cons_zero, List.set_cons_succ]
      refine wpAnyH_take (i := 9) (v := undef) rfl (by kernel_rfl) (by kernel_rfl) (by kernel_rfl) (fun _ _ _ h => h) (Or.inr ⟨by rfl, rfl⟩) (by assumption) ?_
      try simp only [Act.put, List.getElem_toArray, List.getElem_cons_succ, List.getElem_cons_zero, List.setIfInBounds_toArray, List.set_cons_zero, List.set_cons_succ]
      refine wpAnyH_take (i := 10) (v := undef) rfl (by kernel_rfl) (by kernel_rfl) (by kernel_rfl) (fun _ _ _ h => h) (Or.inr ⟨by rfl, rfl⟩) (by assumption) ?_
      try simp only [Act.put, List.getElem_toArray, List.getElem_cons_succ, List.getElem_cons_zero, List.setIfInBounds_toArray, List.set_cons_zero, List.set_cons_succ]
      refine wpAnyH_take (i := 11) (v := undef) rfl (by kernel_rfl) (by kernel_rfl) (by kernel_rfl) (fun _ _ _ h => h) (Or.inr ⟨by rfl, rfl⟩) (by assumption) ?_
      try simp only [Act.put, List.getElem_toArray, List.getElem_cons_succ, List.getElem_cons_zero, List.setIfInBounds_toArray, List.set_cons_zero, List.set_cons_succ]
      refine wpAnyH_take (i := 12) (v := undef) rfl (by kernel_rfl) (by kernel_rfl) (by kernel_rfl) (fun _ _ _ h => h) (Or.inr ⟨by rfl, rfl⟩) (by assumption) ?_
      try simp only [Act.put, List.getElem_toArray, List.getElem_cons_succ, List.getElem_cons_zero, List.setIfInBounds_toArray, List.set_cons_zero, List.set_cons_succ]
      refine wpAnyH_take (i := 13) (v := ?_) rfl (by kernel_rfl) (by kernel_rfl) (by kernel_rfl) (fun _ _ _ h => h) (Or.inl ⟨by rfl, ?_⟩) (by assumption) ?_
      rotate_left 1
      · (intro w hSw; (try dsimp only at hSw); go_simp; with_reducible rfl)
      try simp only [Act.put, List.getElem_toArray, List.getElem_cons_succ, List.getElem_cons_zero, List.setIfInBounds_toArray, List.set_cons_zero, List.set_cons_succ]
      refine wpAnyH_take (i := 14) (v := ?_) rfl (by kernel_rfl) (by kernel_rfl) (by kernel_rfl) (fun _ _ _ h => h) (Or.inl ⟨by rfl, ?_⟩) (by assumption) ?_
      rotate_left 1
      · (intro w hSw; (try dsimp only at hSw); go_simp; with_reducible rfl)
      try simp only [Act.put, List.getElem_toArray, List.getElem_cons_succ, List.getElem_cons_zero, List.setIfInBounds_toArray, List.set_cons_zero, List.set_cons_succ]
      refine wpAnyH_done (by kernel_rfl) ?_ _
      refine NoPanic.normal ?_
      have b8 := hw
      clear hw hB
      go_wp2_with fail
      go_ret
      exact ⟨rfl, Below.more BW b8⟩
set_option maxRecDepth 100000 in
set_option maxHeartbeats 4000000 in
theorem order3_any (n1 d1 n2 d2 n3 d3 : ByteArray) (w : World) (ht : GoodT w) :
    Calls Tryz.prog 5 #[.agg #[.string n1, .string d1], .agg #[.string n2, .string d2], .agg #[.string n3, .string d3]] w (GiveB w true) := by
  cases hg : gdQ (n1, d1) && (gdQ (n2, d2) && gdQ (n3, d3)) with
  | false =>
    have cg : ∀ w, Calls Tryz.prog 30 #[.slice (some ⟨w.heap.size, 0, none⟩) 3 3] (w.alloc (.cells #[.string n1, .string d1, .string n2, .string d2, .string n3, .string d3] 23)) fun e w' => e = .returned (.bool false) ∧ Below w.heap.size w w' := fun w => by
      have c := good3 w (n1, d1) (n2, d2) (n3, d3)
      rw [hg] at c
      exact c
    clear hg
    have CG := Lib.hid cg
    clear cg
    have HT := Lib.hid ht; clear ht
    go_enter Tryz.func5, Tryz.ntmps5
    go_wp2_with fail
    have BW := Below.refl w.heap.size w
    have b0 : Below w.heap.size w w := Below.refl _ _
    obtain ⟨U1, hU, bU, s1, rx0, rx1⟩ := lay b0 (.string n1) (.string d1) 23
    rw [hU]; clear hU
    replace BW := Below.more BW bU
    replace HT := Lib.hid (HT.out.below bU)
    clear bU
    have b1 := Below.refl U1.heap.size U1
    obtain ⟨U2, hU, bU, s2, ry0, ry1⟩ := lay b1 (.string n2) (.string d2) 23
    rw [hU]; clear hU
    rw [← s1] at ry0 ry1
    replace rx0 := fun v (h : Below U2.heap.size U2 v) => rx0 v (Below.more bU h)
    replace rx1 := fun v (h : Below U2.heap.size U2 v) => rx1 v (Below.more bU h)
    replace BW := Below.more BW bU
    replace HT := Lib.hid (HT.out.below bU)
    clear bU
    have b2 := Below.refl U2.heap.size U2
    obtain ⟨U3, hU, bU, s3, rz0, rz1⟩ := lay b2 (.string n3) (.string d3) 23
    rw [hU]; clear hU
    rw [← s2] at rz0 rz1
    rw [← s1] at rz0 rz1
    clear s3
    replace rx0 := fun v (h : Below U3.heap.size U3 v) => rx0 v (Below.more bU h)
    replace rx1 := fun v (h : Below U3.heap.size U3 v) => rx1 v (Below.more bU h)
    replace ry0 := fun v (h : Below U3.heap.size U3 v) => ry0 v (Below.more bU h)
    replace ry1 := fun v (h : Below U3.heap.size U3 v) => ry1 v (Below.more bU h)
    replace BW := Below.more BW bU
    replace HT := Lib.hid (HT.out.below bU)
    clear bU
    have b3 := Below.refl U3.heap.size U3
    clear s1
    clear s2
    go_wp2_with fail
    refine (fixed3_any _ (HT.out.below b3)).mono ?_
    rintro e w4 ⟨rfl, b⟩
    have b4 := Below.more b3 b
    clear b
    go_wp2_with fail
    refine (CG.out _).mono ?_
    rintro e w5 ⟨rfl, b⟩
    have b5 := Below.more b4 b
    clear b
    go_wp2_with fail
    refine (fixed3_any _ (HT.out.below b5)).mono ?_
    rintro e w6 ⟨rfl, b⟩
    have b6 := Below.more b5 b
    clear b
    go_wp2_with fail
    go_ret
    exact ⟨rfl, Below.more BW b6⟩
  | true =>
    have hg' := hg
    rw [Bool.and_eq_true, Bool.and_eq_true] at hg'
    obtain ⟨h1, h2, h3⟩ := gd_parts hg'.1
    obtain ⟨h4, h5, h6⟩ := gd_parts hg'.2.1
    obtain ⟨h7, h8, h9⟩ := gd_parts hg'.2.2
    have lX := Lq.of_text h3 h1 h2 (by decide)
    have lY := Lq.of_text h6 h4 h5 (by decide)
    have lZ := Lq.of_text h9 h7 h8 (by decide)
    obtain ⟨e1, e2⟩ := str_rd h3
    obtain ⟨e3, e4⟩ := str_rd h6
    obtain ⟨e5, e6⟩ := str_rd h9
    generalize valR (n1.data.toList, d1.data.toList) = X at *
    generalize valR (n2.data.toList, d2.data.toList) = Y at *
    generalize valR (n3.data.toList, d3.data.toList) = Z at *
    clear h1 h2 h3 h4 h5 h6 h7 h8 h9 hg'
    subst e1
    subst e2
    subst e3
    subst e4
    subst e5
    subst e6
    exact order3_main X Y Z w lX lY lZ hg ht
end Go.Proofs.YtniobjninbodgaaGreatDoor
