/- The walk of RatField. -/
import Derived.Test.YtniobjninbodgaaGreatDoorWSplits3
namespace Go.Proofs.YtniobjninbodgaaGreatDoor
open Go.RowKit
set_option linter.unusedSimpArgs false

set_option maxRecDepth 100000 in
set_option maxHeartbeats 4000000 in
theorem field3_main (X Y Z : Rat) (w : World) (lX : Lq X 100) (lY : Lq Y 100) (lZ : Lq Z 100) (hg : (gdQ (⟨(rdN X).toArray⟩, ⟨(rdD X).toArray⟩) && (gdQ (⟨(rdN Y).toArray⟩, ⟨(rdD Y).toArray⟩) && gdQ (⟨(rdN Z).toArray⟩, ⟨(rdD Z).toArray⟩))) = true) (ht : GoodT w) :
    Calls Tryz.prog 4 #[.agg #[.string ⟨(rdN X).toArray⟩, .string ⟨(rdD X).toArray⟩], .agg #[.string ⟨(rdN Y).toArray⟩, .string ⟨(rdD Y).toArray⟩], .agg #[.string ⟨(rdN Z).toArray⟩, .string ⟨(rdD Z).toArray⟩]] w (GiveB w true) := by
  obtain ⟨S1, hS1⟩ : ∃ S1, X + Y = S1 := ⟨_, rfl⟩
  obtain ⟨S, hS⟩ : ∃ S, S1 + Z = S := ⟨_, rfl⟩
  obtain ⟨T1, hT1⟩ : ∃ T1, Z + Y = T1 := ⟨_, rfl⟩
  obtain ⟨M1, hM1⟩ : ∃ M1, X * Y = M1 := ⟨_, rfl⟩
  obtain ⟨M, hM⟩ : ∃ M, M1 * Z = M := ⟨_, rfl⟩
  obtain ⟨N1, hN1⟩ : ∃ N1, Z * Y = N1 := ⟨_, rfl⟩
  obtain ⟨A1, hA1⟩ : ∃ A1, Y + Z = A1 := ⟨_, rfl⟩
  obtain ⟨D, hD⟩ : ∃ D, X * A1 = D := ⟨_, rfl⟩
  obtain ⟨P2, hP2⟩ : ∃ P2, X * Z = P2 := ⟨_, rfl⟩
  obtain ⟨E, hE⟩ : ∃ E, X - Y = E := ⟨_, rfl⟩
  have lS1 : Lq S1 201 := by rw [← hS1]; exact Lq.add lX lY (by decide)
  have lT1 : Lq T1 201 := by rw [← hT1]; exact Lq.add lZ lY (by decide)
  have lM1 : Lq M1 201 := by rw [← hM1]; exact Lq.mul lX lY (by decide)
  have lN1 : Lq N1 201 := by rw [← hN1]; exact Lq.mul lZ lY (by decide)
  have lA1 : Lq A1 201 := by rw [← hA1]; exact Lq.add lY lZ (by decide)
  have lP2 : Lq P2 201 := by rw [← hP2]; exact Lq.mul lX lZ (by decide)
  have lE : Lq E 201 := by rw [← hE]; exact Lq.sub lX lY (by decide)
  have k4 : X + T1 = S := by rw [← hT1, ← hS, ← hS1]; grind
  have k8 : X * N1 = M := by rw [← hN1, ← hM, ← hM1]; grind
  have k12 : M1 + P2 = D := by rw [← hM1, ← hP2, ← hD, ← hA1]; grind
  have k19 : X - X = ((0 : Int) : Rat) := sub_zero_iff.2 rfl
  have k22 : E + Y = X := by rw [← hE]; grind
  have hy : Y = 0 ∨ Y ≠ 0 := by
    by_cases h : Y = 0
    · exact .inl h
    · exact .inr h
  have cg : ∀ w, Calls Tryz.prog 30 #[.slice (some ⟨w.heap.size, 0, none⟩) 3 3] (w.alloc (.cells #[.string ⟨(rdN X).toArray⟩, .string ⟨(rdD X).toArray⟩, .string ⟨(rdN Y).toArray⟩, .string ⟨(rdD Y).toArray⟩, .string ⟨(rdN Z).toArray⟩, .string ⟨(rdD Z).toArray⟩] 23)) fun e w' => e = .returned (.bool true) ∧ Below w.heap.size w w' := fun w => by
    have c := good3 w (⟨(rdN X).toArray⟩, ⟨(rdD X).toArray⟩) (⟨(rdN Y).toArray⟩, ⟨(rdD Y).toArray⟩) (⟨(rdN Z).toArray⟩, ⟨(rdD Z).toArray⟩)
    rw [hg] at c
    exact c
  have c1 := fun w => qAdd lX lY hS1 w
  have c2 := fun w => qAdd lS1 lZ hS w
  have c3 := fun w => qAdd lZ lY hT1 w
  have c4 := fun w => qAdd lX lT1 k4 w
  have c5 := fun w => qMul lX lY hM1 w
  have c6 := fun w => qMul lM1 lZ hM w
  have c7 := fun w => qMul lZ lY hN1 w
  have c8 := fun w => qMul lX lN1 k8 w
  have c9 := fun w => qAdd lY lZ hA1 w
  have c10 := fun w => qMul lX lA1 hD w
  have c11 := fun w => qMul lX lZ hP2 w
  have c12 := fun w => qAdd lM1 lP2 k12 w
  have c13 := fun w => qMay lS1 w
  have c14 := fun w => qMay lM1 w
  have c19 := fun w => qSub lX lX k19 w
  have c20 := fun w => qOf 0 (by decide) (by decide) w
  have c21 := fun w => qSub lX lY hE w
  have c22 := fun w => qAdd lE lY k22 w
  have HY := Lib.hid hy
  have LX := Lib.hid lX
  have LY := Lib.hid lY
  clear hS1 hS hT1 hM1 hM hN1 hA1 hD hP2 hE k4 k8 k12 k19 k22 hy hg lS1 lT1 lM1 lN1 lA1 lP2 lE lX lY lZ
  have CG := Lib.hid cg
  clear cg
  have C1 := Lib.hid c1
  clear c1
  have C2 := Lib.hid c2
  clear c2
  have C3 := Lib.hid c3
  clear c3
  have C4 := Lib.hid c4
  clear c4
  have C5 := Lib.hid c5
  clear c5
  have C6 := Lib.hid c6
  clear c6
  have C7 := Lib.hid c7
  clear c7
  have C8 := Lib.hid c8
  clear c8
  have C9 := Lib.hid c9
  clear c9
  have C10 := Lib.hid c10
  clear c10
  have C11 := Lib.hid c11
  clear c11
  have C12 := Lib.hid c12
  clear c12
  have C13 := Lib.hid c13
  clear c13
  have C14 := Lib.hid c14
  clear c14
  have C19 := Lib.hid c19
  clear c19
  have C20 := Lib.hid c20
  clear c20
  have C21 := Lib.hid c21
  clear c21
  have C22 := Lib.hid c22
  clear c22
  have HT := Lib.hid ht; clear ht
  go_enter Tryz.func4, Tryz.ntmps4
  go_wp2_with fail
  have BW := Below.refl w.heap.size w
  have b0 : Below w.heap.size w w := Below.refl _ _
  obtain ⟨U1, hU, bU, s1, rx0, rx1⟩ := lay b0 (.string ⟨(rdN X).toArray⟩) (.string ⟨(rdD X).toArray⟩) 23
  rw [hU]; clear hU
  replace BW := Below.more BW bU
  replace HT := Lib.hid (HT.out.below bU)
  clear bU
  have b1 := Below.refl U1.heap.size U1
  obtain ⟨U2, hU, bU, s2, ry0, ry1⟩ := lay b1 (.string ⟨(rdN Y).toArray⟩) (.string ⟨(rdD Y).toArray⟩) 23
  rw [hU]; clear hU
  rw [← s1] at ry0 ry1
  replace rx0 := fun v (h : Below U2.heap.size U2 v) => rx0 v (Below.more bU h)
  replace rx1 := fun v (h : Below U2.heap.size U2 v) => rx1 v (Below.more bU h)
  replace BW := Below.more BW bU
  replace HT := Lib.hid (HT.out.below bU)
  clear bU
  have b2 := Below.refl U2.heap.size U2
  obtain ⟨U3, hU, bU, s3, rz0, rz1⟩ := lay b2 (.string ⟨(rdN Z).toArray⟩) (.string ⟨(rdD Z).toArray⟩) 23
  rw [hU]; clear hU
  rw [← s2] at rz0 rz1
  rw [← s1] at rz0 rz1
  clear s3
  replace rx0 := fun v (h : Below U3.heap.size U3 v) => rx0 v (Below.more bU h)
  replace rx1 := fun v (h : Below U3.heap.size U3 v) => rx1 v (Below.more bU h)
  replace ry0 := fun v (h : Below U3.heap.size U3 v) => ry0 v (Below.more bU h)
  replace ry1 := fun v (h : Below U3.heap.size U3 v) => ry1 v (Below.more bU h)
  replace BW := Below.more BW bU
  replace HT := Lib.hid (HT.out.below bU)
  clear bU
  have b3 := Below.refl U3.heap.size U3
  clear s1
  clear s2
  go_wp2_with fail
  refine (fixed3_any _ (HT.out.below b3)).mono ?_
  rintro e w4 ⟨rfl, b⟩
  have b4 := Below.more b3 b
  clear b
  go_wp2_with fail
  refine (CG.out _).mono ?_
  rintro e w5 ⟨rfl, b⟩
  have b5 := Below.more b4 b
  clear b
  go_wp2_with fail
  try simp only [List.append_eq, List.cons_append, List.nil_append]
  have hB := Lib.hid (Nat.le_refl U3.heap.size)
  first | (go_region_held3 (fun w' => Below U3.heap.size U3 w')
      (first | (exact b5.drew) | (with_reducible assumption) | (exact Below.alloc (by with_reducible assumption) (Nat.le_trans hB.out (Below.size (by with_reducible assumption))) _) | (exact put2 (by with_reducible assumption) (Nat.le_refl _) _ _) | (exact put2 (by with_reducible assumption) hB.out _ _) | (exact put2 (by with_reducible assumption) (Nat.le_trans hB.out (Below.size (by with_reducible assumption))) _ _))
      (first | (go_at_call 24; (with_reducible show Calls _ _ #[.agg #[.string ⟨(rdN X).toArray⟩, .string ⟨(rdD X).toArray⟩], .agg #[.string ⟨(rdN Y).toArray⟩, .string ⟨(rdD Y).toArray⟩]] _ _); (with_reducible refine (held (W := U3) hB.out (C1.out _) (by assumption)).mono ?_); rintro e w'' ⟨rfl, hb, hw⟩; (first | (have hz := zc_made0 hb) | (have hz := zc_made hb) | skip); (try have hz := Zc.below (by assumption) hb); (try (have z0 := hz.c0; have z1 := hz.c1; have z2 := hz.f0; have z3 := hz.f1))) | (go_at_call 24; (with_reducible show Calls _ _ #[.agg #[.string ⟨(rdN S1).toArray⟩, .string ⟨(rdD S1).toArray⟩], .agg #[.string ⟨(rdN Z).toArray⟩, .string ⟨(rdD Z).toArray⟩]] _ _); (with_reducible refine (held (W := U3) hB.out (C2.out _) (by assumption)).mono ?_); rintro e w'' ⟨rfl, hb, hw⟩; (first | (have hz := zc_made0 hb) | (have hz := zc_made hb) | skip); (try have hz := Zc.below (by assumption) hb); (try (have z0 := hz.c0; have z1 := hz.c1; have z2 := hz.f0; have z3 := hz.f1))) | (go_at_call 24; (with_reducible show Calls _ _ #[.agg #[.string ⟨(rdN Z).toArray⟩, .string ⟨(rdD Z).toArray⟩], .agg #[.string ⟨(rdN Y).toArray⟩, .string ⟨(rdD Y).toArray⟩]] _ _); (with_reducible refine (held (W := U3) hB.out (C3.out _) (by assumption)).mono ?_); rintro e w'' ⟨rfl, hb, hw⟩; (first | (have hz := zc_made0 hb) | (have hz := zc_made hb) | skip); (try have hz := Zc.below (by assumption) hb); (try (have z0 := hz.c0; have z1 := hz.c1; have z2 := hz.f0; have z3 := hz.f1))) | (go_at_call 24; (with_reducible show Calls _ _ #[.agg #[.string ⟨(rdN X).toArray⟩, .string ⟨(rdD X).toArray⟩], .agg #[.string ⟨(rdN T1).toArray⟩, .string ⟨(rdD T1).toArray⟩]] _ _); (with_reducible refine (held (W := U3) hB.out (C4.out _) (by assumption)).mono ?_); rintro e w'' ⟨rfl, hb, hw⟩; (first | (have hz := zc_made0 hb) | (have hz := zc_made hb) | skip); (try have hz := Zc.below (by assumption) hb); (try (have z0 := hz.c0; have z1 := hz.c1; have z2 := hz.f0; have z3 := hz.f1))) | (go_at_call 28; (with_reducible show Calls _ _ #[.agg #[.string ⟨(rdN X).toArray⟩, .string ⟨(rdD X).toArray⟩], .agg #[.string ⟨(rdN Y).toArray⟩, .string ⟨(rdD Y).toArray⟩]] _ _); (with_reducible refine (held (W := U3) hB.out (C5.out _) (by assumption)).mono ?_); rintro e w'' ⟨rfl, hb, hw⟩; (first | (have hz := zc_made0 hb) | (have hz := zc_made hb) | skip); (try have hz := Zc.below (by assumption) hb); (try (have z0 := hz.c0; have z1 := hz.c1; have z2 := hz.f0; have z3 := hz.f1))) | (go_at_call 28; (with_reducible show Calls _ _ #[.agg #[.string ⟨(rdN M1).toArray⟩, .string ⟨(rdD M1).toArray⟩], .agg #[.string ⟨(rdN Z).toArray⟩, .string ⟨(rdD Z).toArray⟩]] _ _); (with_reducible refine (held (W := U3) hB.out (C6.out _) (by assumption)).mono ?_); rintro e w'' ⟨rfl, hb, hw⟩; (first | (have hz := zc_made0 hb) | (have hz := zc_made hb) | skip); (try have hz := Zc.below (by assumption) hb); (try (have z0 := hz.c0; have z1 := hz.c1; have z2 := hz.f0; have z3 := hz.f1))) | (go_at_call 28; (with_reducible show Calls _ _ #[.agg #[.string ⟨(rdN Z).toArray⟩, .string ⟨(rdD Z).toArray⟩], .agg #[.string ⟨(rdN Y).toArray⟩, .string ⟨(rdD Y).toArray⟩]] _ _); (with_reducible refine (held (W := U3) hB.out (C7.out _) (by assumption)).mono ?_); rintro e w'' ⟨rfl, hb, hw⟩; (first | (have hz := zc_made0 hb) | (have hz := zc_made hb) | skip); (try have hz := Zc.below (by assumption) hb); (try (have z0 := hz.c0; have z1 := hz.c1; have z2 := hz.f0; have z3 := hz.f1))) | (go_at_call 28; (with_reducible show Calls _ _ #[.agg #[.string ⟨(rdN X).toArray⟩, .string ⟨(rdD X).toArray⟩], .agg #[.string ⟨(rdN N1).toArray⟩, .string ⟨(rdD N1).toArray⟩]] _ _); (with_reducible refine (held (W := U3) hB.out (C8.out _) (by assumption)).mono ?_); rintro e w'' ⟨rfl, hb, hw⟩; (first | (have hz := zc_made0 hb) | (have hz := zc_made hb) | skip); (try have hz := Zc.below (by assumption) hb); (try (have z0 := hz.c0; have z1 := hz.c1; have z2 := hz.f0; have z3 := hz.f1))) | (go_at_call 24; (with_reducible show Calls _ _ #[.agg #[.string ⟨(rdN Y).toArray⟩, .string ⟨(rdD Y).toArray⟩], .agg #[.string ⟨(rdN Z).toArray⟩, .string ⟨(rdD Z).toArray⟩]] _ _); (with_reducible refine (held (W := U3) hB.out (C9.out _) (by assumption)).mono ?_); rintro e w'' ⟨rfl, hb, hw⟩; (first | (have hz := zc_made0 hb) | (have hz := zc_made hb) | skip); (try have hz := Zc.below (by assumption) hb); (try (have z0 := hz.c0; have z1 := hz.c1; have z2 := hz.f0; have z3 := hz.f1))) | (go_at_call 28; (with_reducible show Calls _ _ #[.agg #[.string ⟨(rdN X).toArray⟩, .string ⟨(rdD X).toArray⟩], .agg #[.string ⟨(rdN A1).toArray⟩, .string ⟨(rdD A1).toArray⟩]] _ _); (with_reducible refine (held (W := U3) hB.out (C10.out _) (by assumption)).mono ?_); rintro e w'' ⟨rfl, hb, hw⟩; (first | (have hz := zc_made0 hb) | (have hz := zc_made hb) | skip); (try have hz := Zc.below (by assumption) hb); (try (have z0 := hz.c0; have z1 := hz.c1; have z2 := hz.f0; have z3 := hz.f1))) | (go_at_call 28; (with_reducible show Calls _ _ #[.agg #[.string ⟨(rdN X).toArray⟩, .string ⟨(rdD X).toArray⟩], .agg #[.string ⟨(rdN Z).toArray⟩, .string ⟨(rdD Z).toArray⟩]] _ _); (with_reducible refine (held (W := U3) hB.out (C11.out _) (by assumption)).mono ?_); rintro e w'' ⟨rfl, hb, hw⟩; (first | (have hz := zc_made0 hb) | (have hz := zc_made hb) | skip); (try have hz := Zc.below (by assumption) hb); (try (have z0 := hz.c0; have z1 := hz.c1; have z2 := hz.f0; have z3 := hz.f1))) | (go_at_call 24; (with_reducible show Calls _ _ #[.agg #[.string ⟨(rdN M1).toArray⟩, .string ⟨(rdD M1).toArray⟩], .agg #[.string ⟨(rdN P2).toArray⟩, .string ⟨(rdD P2).toArray⟩]] _ _); (with_reducible refine (held (W := U3) hB.out (C12.out _) (by assumption)).mono ?_); rintro e w'' ⟨rfl, hb, hw⟩; (first | (have hz := zc_made0 hb) | (have hz := zc_made hb) | skip); (try have hz := Zc.below (by assumption) hb); (try (have z0 := hz.c0; have z1 := hz.c1; have z2 := hz.f0; have z3 := hz.f1))) | (go_at_call 16; (with_reducible show Calls _ _ #[.agg #[.string ⟨(rdN S1).toArray⟩, .string ⟨(rdD S1).toArray⟩]] _ _); (with_reducible refine (held (W := U3) hB.out (C13.out _) (by assumption)).mono ?_); rintro e w'' ⟨rfl, hb, hw⟩; (first | (have hz := zc_made0 hb) | (have hz := zc_made hb) | skip); (try have hz := Zc.below (by assumption) hb); (try (have z0 := hz.c0; have z1 := hz.c1; have z2 := hz.f0; have z3 := hz.f1))) | (go_at_call 16; (with_reducible show Calls _ _ #[.agg #[.string ⟨(rdN M1).toArray⟩, .string ⟨(rdD M1).toArray⟩]] _ _); (with_reducible refine (held (W := U3) hB.out (C14.out _) (by assumption)).mono ?_); rintro e w'' ⟨rfl, hb, hw⟩; (first | (have hz := zc_made0 hb) | (have hz := zc_made hb) | skip); (try have hz := Zc.below (by assumption) hb); (try (have z0 := hz.c0; have z1 := hz.c1; have z2 := hz.f0; have z3 := hz.f1))))) | fail
  rename_i hH
  have b6 := hH
  clear hH hB
  clear C1 C2 C3 C4 C5 C6 C7 C8 C9 C10 C11 C12 C13 C14
  rcases HY.out with h0 | h0
  · skip
    have c15 := fun w => qDivNo LX.out LY.out h0 w
    have c16 := fun w => qSign LY.out (show sgnQ Y = 0 by rw [h0]; rfl) w
    have C15 := Lib.hid c15
    clear c15
    have C16 := Lib.hid c16
    clear c16
    clear h0
    go_wp2_with fail
    refine (C15.out _).mono ?_
    rintro e w7 ⟨rfl, b⟩
    have b7 := Below.more b6 b
    clear b
    have ba := fun x => Below.alloc b7 (Below.size b7) x
    go_wp2_with fail
    obtain ⟨U8, hU, bU, s8, rq0, rq1⟩ := lay b7 (.string ⟨#[]⟩) (.string ⟨#[]⟩) 23
    rw [hU]; clear hU
    clear s8
    replace rx0 := fun v (h : Below U8.heap.size U8 v) => rx0 v (Below.more bU h)
    replace rx1 := fun v (h : Below U8.heap.size U8 v) => rx1 v (Below.more bU h)
    replace ry0 := fun v (h : Below U8.heap.size U8 v) => ry0 v (Below.more bU h)
    replace ry1 := fun v (h : Below U8.heap.size U8 v) => ry1 v (Below.more bU h)
    replace rz0 := fun v (h : Below U8.heap.size U8 v) => rz0 v (Below.more bU h)
    replace rz1 := fun v (h : Below U8.heap.size U8 v) => rz1 v (Below.more bU h)
    replace BW := Below.more BW bU
    replace HT := Lib.hid (HT.out.below bU)
    clear bU
    have b8 := Below.refl U8.heap.size U8
    clear ba
    go_wp2_with fail
    have hB := Lib.hid (Nat.le_refl U8.heap.size)
    refine wp_region_noPanic ?_
    refine wp_region_held_drew (S := fun w' => Below U8.heap.size U8 w') (by kernel_rfl) (b8.drew) (fun hHeld => ?_)
    refine wpAnyH_take (i := 0) (v := ?_) rfl (by kernel_rfl) (by kernel_rfl) (by kernel_rfl) (fun _ _ _ h => h) (Or.inl ⟨by rfl, ?_⟩) (by assumption) ?_
    rotate_left 1
    · (intro w hSw; (try dsimp only at hSw); go_simp; with_reducible rfl)
    try simp only [Act.put, List.getElem_toArray, List.getElem_cons_succ, List.getElem_cons_zero, List.setIfInBounds_toArray, List.set_cons_zero, List.set_cons_succ]
    refine wpAnyH_take (i := 1) (v := ?_) rfl (by kernel_rfl) (by kernel_rfl) (by kernel_rfl) (fun _ _ _ h => h) (Or.inl ⟨by rfl, ?_⟩) (by assumption) ?_
    rotate_left 1
    · (intro w hSw; (try dsimp only at hSw); go_simp; with_reducible rfl)
    try simp only [Act.put, List.getElem_toArray, List.getElem_cons_succ, List.getElem_cons_zero, List.setIfInBounds_toArray, List.set_cons_zero, List.set_cons_succ]
    refine wpAnyH_ready (rs := [2]) (by kernel_rfl) (by simp) ?_
    refine AllReadyH.cons rfl (fun K hK => ?_) AllReadyH.nil
    go_simp
    refine (held (W := U8) hB.out (C16.out _) (by assumption)).mono ?_
    rintro e w'' ⟨rfl, hb, hw⟩
    (try go_wp2_with fail)
    refine hK.out _ _ hw (fun hHeld2 => ?_)
    clear hK hHeld hb
    try simp only [Act.put, List.getElem_toArray, List.getElem_cons_succ, List.getElem_cons_zero, List.setIfInBounds_toArray, List.set_cons_zero, List.set_cons_succ]
    refine wpAnyH_take (i := 3) (v := ?_) rfl (by kernel_rfl) (by kernel_rfl) (by kernel_rfl) (fun _ _ _ h => h) (Or.inl ⟨by rfl, ?_⟩) (by assumption) ?_
    rotate_left 1
    · (intro w hSw; (try dsimp only at hSw); go_simp; with_reducible rfl)
    try simp only [Act.put, List.getElem_toArray, List.getElem_cons_succ, List.getElem_cons_zero, List.setIfInBounds_toArray, List.set_cons_zero, List.set_cons_succ]
    refine wpAnyH_take (i := 4) (v := ?_) rfl (by kernel_rfl) (by kernel_rfl) (by kernel_rfl) (fun _ _ _ h => h) (Or.inl ⟨by rfl, ?_⟩) (by assumption) ?_
    rotate_left 1
    · (intro w hSw; (try dsimp only at hSw); go_simp; with_reducible rfl)
    try simp only [Act.put, List.getElem_toArray, List.getElem_cons_succ, List.getElem_cons_zero, List.setIfInBounds_toArray, List.set_cons_zero, List.set_cons_succ]
    refine wpAnyH_take (i := 5) (v := ?_) rfl (by kernel_rfl) (by kernel_rfl) (by kernel_rfl) (fun _ _ _ h => h) (Or.inl ⟨by rfl, ?_⟩) (by assumption) ?_
    rotate_left 1
    · (intro w hSw; (try dsimp only at hSw); go_simp; with_reducible rfl)
    try simp only [Act.put, List.getElem_toArray, List.getElem_cons_succ, List.getElem_cons_zero, List.setIfInBounds_toArray, List.set_cons_zero, List.set_cons_succ]
    refine wpAnyH_take (i := 6) (v := ?_) rfl (by kernel_rfl) (by kernel_rfl) (by kernel_rfl) (fun _ _ _ h => h) (Or.inl ⟨by rfl, ?_⟩) (by assumption) ?_
    rotate_left 1
    · (intro w hSw; (try dsimp only at hSw); go_simp; with_reducible rfl)
    try simp only [Act.put, List.getElem_toArray, List.getElem_cons_succ, List.getElem_cons_zero, List.setIfInBounds_toArray, List.set_cons_zero, List.set_cons_succ]
    refine wpAnyH_take (i := 7) (v := ?_) rfl (by kernel_rfl) (by kernel_rfl) (by kernel_rfl) (fun _ _ _ h => h) (Or.inl ⟨by rfl, ?_⟩) (by assumption) ?_
    rotate_left 1
    · (intro w hSw; (try dsimp only at hSw); go_simp; with_reducible rfl)
    try simp only [Act.put, List.getElem_toArray, List.getElem_cons_succ, List.getElem_cons_zero, List.setIfInBounds_toArray, List.set_cons_zero, List.set_cons_succ]
    refine wpAnyH_take (i := 8) (v := undef) rfl (by kernel_rfl) (by kernel_rfl) (by kernel_rfl) (fun _ _ _ h => h) (Or.inr ⟨by rfl, rfl⟩) (by assumption) ?_
    try simp only [Act.put, List.getElem_toArray, List.getElem_cons_succ, List.getElem_cons_zero, List.setIfInBounds_toArray, List.set_cons_zero, List.set_cons_succ]
    refine wpAnyH_take (i := 9) (v := undef) rfl (by kernel_rfl) (by kernel_rfl) (by kernel_rfl) (fun _ _ _ h => h) (Or.inr ⟨by rfl, rfl⟩) (by assumption) ?_
    try simp only [Act.put, List.getElem_toArray, List.getElem_cons_succ, List.getElem_cons_zero, List.setIfInBounds_toArray, List.set_cons_zero, List.set_cons_succ]
    refine wpAnyH_take (i := 10) (v := undef) rfl (by kernel_rfl) (by kernel_rfl) (by kernel_rfl) (fun _ _ _ h => h) (Or.inr ⟨by rfl, rfl⟩) (by assumption) ?_
    try simp only [Act.put, List.getElem_toArray, List.getElem_cons_succ, List.getElem_cons_zero, List.setIfInBounds_toArray, List.set_cons_zero, List.set_cons_succ]
    refine wpAnyH_take (i := 11) (v := undef) rfl (by kernel_rfl) (by kernel_rfl) (by kernel_rfl) (fun _ _ _ h => h) (Or.inr ⟨by rfl, rfl⟩) (by assumption) ?_
    try simp only [Act.put, List.getElem_toArray, List.getElem_cons_succ, List.getElem_cons_zero, List.setIfInBounds_toArray, List.set_cons_zero, List.set_cons_succ]
    refine wpAnyH_take (i := 12) (v := undef) rfl (by kernel_rfl) (by kernel_rfl) (by kernel_rfl) (fun _ _ _ h => h) (Or.inr ⟨by rfl, rfl⟩) (by assumption) ?_
    try simp only [Act.put, List.getElem_toArray, List.getElem_cons_succ, List.getElem_cons_zero, List.setIfInBounds_toArray, List.set_cons_zero, List.set_cons_succ]
    refine wpAnyH_take (i := 13) (v := ?_) rfl (by kernel_rfl) (by kernel_rfl) (by kernel_rfl) (fun _ _ _ h => h) (Or.inl ⟨by rfl, ?_⟩) (by assumption) ?_
    rotate_left 1
    · (intro w hSw; (try dsimp only at hSw); go_simp; with_reducible rfl)
    try simp only [Act.put, List.getElem_toArray, List.getElem_cons_succ, List.getElem_cons_zero, List.setIfInBounds_toArray, List.set_cons_zero, List.set_cons_succ]
    refine wpAnyH_take (i := 14) (v := ?_) rfl (by kernel_rfl) (by kernel_rfl) (by kernel_rfl) (fun _ _ _ h => h) (Or.inl ⟨by rfl, ?_⟩) (by assumption) ?_
    rotate_left 1
    · (intro w hSw; (try dsimp only at hSw); go_simp; with_reducible rfl)
    try simp only [Act.put, List.getElem_toArray, List.getElem_cons_succ, List.getElem_cons_zero, List.setIfInBounds_toArray, List.set_cons_zero, List.set_cons_succ]
    refine wpAnyH_done (by kernel_rfl) ?_ _
    refine NoPanic.normal ?_
    have b9 := hw
    clear hw hB
    go_wp2_with fail
    have hB := Lib.hid (Nat.le_refl U8.heap.size)
    first | (go_region_held3 (fun w' => Below U8.heap.size U8 w')
        (first | (exact b9.drew) | (with_reducible assumption) | (exact Below.alloc (by with_reducible assumption) (Nat.le_trans hB.out (Below.size (by with_reducible assumption))) _) | (exact put2 (by with_reducible assumption) (Nat.le_refl _) _ _) | (exact put2 (by with_reducible assumption) hB.out _ _) | (exact put2 (by with_reducible assumption) (Nat.le_trans hB.out (Below.size (by with_reducible assumption))) _ _))
        (first | (go_at_call 26; (with_reducible show Calls _ _ #[.agg #[.string ⟨(rdN X).toArray⟩, .string ⟨(rdD X).toArray⟩], .agg #[.string ⟨(rdN X).toArray⟩, .string ⟨(rdD X).toArray⟩]] _ _); (with_reducible refine (held (W := U8) hB.out (C19.out _) (by assumption)).mono ?_); rintro e w'' ⟨rfl, hb, hw⟩; (first | (have hz := zc_made0 hb) | (have hz := zc_made hb) | skip); (try have hz := Zc.below (by assumption) hb); (try (have z0 := hz.c0; have z1 := hz.c1; have z2 := hz.f0; have z3 := hz.f1))) | (go_at_call 31; (with_reducible refine (held (W := U8) hB.out (C20.out _ (HT.out.below (by assumption))) (by assumption)).mono ?_); rintro e w'' ⟨rfl, hb, hw⟩; (first | (have hz := zc_made0 hb) | (have hz := zc_made hb) | skip); (try have hz := Zc.below (by assumption) hb); (try (have z0 := hz.c0; have z1 := hz.c1; have z2 := hz.f0; have z3 := hz.f1))) | (go_at_call 26; (with_reducible show Calls _ _ #[.agg #[.string ⟨(rdN X).toArray⟩, .string ⟨(rdD X).toArray⟩], .agg #[.string ⟨(rdN Y).toArray⟩, .string ⟨(rdD Y).toArray⟩]] _ _); (with_reducible refine (held (W := U8) hB.out (C21.out _) (by assumption)).mono ?_); rintro e w'' ⟨rfl, hb, hw⟩; (first | (have hz := zc_made0 hb) | (have hz := zc_made hb) | skip); (try have hz := Zc.below (by assumption) hb); (try (have z0 := hz.c0; have z1 := hz.c1; have z2 := hz.f0; have z3 := hz.f1))) | (go_at_call 24; (with_reducible show Calls _ _ #[.agg #[.string ⟨(rdN E).toArray⟩, .string ⟨(rdD E).toArray⟩], .agg #[.string ⟨(rdN Y).toArray⟩, .string ⟨(rdD Y).toArray⟩]] _ _); (with_reducible refine (held (W := U8) hB.out (C22.out _) (by assumption)).mono ?_); rintro e w'' ⟨rfl, hb, hw⟩; (first | (have hz := zc_made0 hb) | (have hz := zc_made hb) | skip); (try have hz := Zc.below (by assumption) hb); (try (have z0 := hz.c0; have z1 := hz.c1; have z2 := hz.f0; have z3 := hz.f1))))) | fail
    rename_i hH
    have b10 := hH
    clear hH hB
    go_wp2_with fail
    go_ret
    exact ⟨rfl, Below.more BW b10⟩
  · skip
    obtain ⟨q, hq⟩ : ∃ q, X / Y = q := ⟨_, rfl⟩
    have lq : Lq q 201 := by rw [← hq]; exact Lq.div LX.out LY.out h0 (by decide)
    have hqx : q * Y = X := by rw [← hq]; exact Rat.div_mul_cancel h0
    obtain ⟨s, hs⟩ : ∃ s, sgnQ Y = s := ⟨_, rfl⟩
    have hs0 : (s != 0) = true := by
      have : s ≠ 0 := fun e => h0 (sgnQ_eq_zero.1 (hs.trans e))
      simp [this]
    have c15 := fun w => qDiv LX.out LY.out h0 hq w
    have c16 := fun w => qSign LY.out hs w
    have c17 := fun w => qMul lq LY.out hqx w
    have C15 := Lib.hid c15
    clear c15
    have C16 := Lib.hid c16
    clear c16
    have C17 := Lib.hid c17
    clear c17
    clear h0 hs hq lq hqx
    go_wp2_with fail
    refine (C15.out _).mono ?_
    rintro e w7 ⟨rfl, b⟩
    have b7 := Below.more b6 b
    clear b
    have ba := fun x => Below.alloc b7 (Below.size b7) x
    go_wp2_with fail
    obtain ⟨U8, hU, bU, s8, rq0, rq1⟩ := lay b7 (.string ⟨(rdN q).toArray⟩) (.string ⟨(rdD q).toArray⟩) 23
    rw [hU]; clear hU
    clear s8
    replace rx0 := fun v (h : Below U8.heap.size U8 v) => rx0 v (Below.more bU h)
    replace rx1 := fun v (h : Below U8.heap.size U8 v) => rx1 v (Below.more bU h)
    replace ry0 := fun v (h : Below U8.heap.size U8 v) => ry0 v (Below.more bU h)
    replace ry1 := fun v (h : Below U8.heap.size U8 v) => ry1 v (Below.more bU h)
    replace rz0 := fun v (h : Below U8.heap.size U8 v) => rz0 v (Below.more bU h)
    replace rz1 := fun v (h : Below U8.heap.size U8 v) => rz1 v (Below.more bU h)
    replace BW := Below.more BW bU
    replace HT := Lib.hid (HT.out.below bU)
    clear bU
    have b8 := Below.refl U8.heap.size U8
    clear ba
    go_wp2_with fail
    have hB := Lib.hid (Nat.le_refl U8.heap.size)
    first | (go_region_held3 (fun w' => Below U8.heap.size U8 w')
        (first | (exact b8.drew) | (with_reducible assumption) | (exact Below.alloc (by with_reducible assumption) (Nat.le_trans hB.out (Below.size (by with_reducible assumption))) _) | (exact put2 (by with_reducible assumption) (Nat.le_refl _) _ _) | (exact put2 (by with_reducible assumption) hB.out _ _) | (exact put2 (by with_reducible assumption) (Nat.le_trans hB.out (Below.size (by with_reducible assumption))) _ _))
        (first | (go_at_call 18; (with_reducible refine (held (W := U8) hB.out (C16.out _) (by assumption)).mono ?_); rintro e w'' ⟨rfl, hb, hw⟩; (first | (have hz := zc_made0 hb) | (have hz := zc_made hb) | skip); (try have hz := Zc.below (by assumption) hb); (try (have z0 := hz.c0; have z1 := hz.c1; have z2 := hz.f0; have z3 := hz.f1))) | (go_at_call 28; (with_reducible refine (held (W := U8) hB.out (C17.out _) (by assumption)).mono ?_); rintro e w'' ⟨rfl, hb, hw⟩; (first | (have hz := zc_made0 hb) | (have hz := zc_made hb) | skip); (try have hz := Zc.below (by assumption) hb); (try (have z0 := hz.c0; have z1 := hz.c1; have z2 := hz.f0; have z3 := hz.f1))))) | fail
    rename_i hH
    have b9 := hH
    clear hH hB
    go_wp2_with fail
    have hB := Lib.hid (Nat.le_refl U8.heap.size)
    first | (go_region_held3 (fun w' => Below U8.heap.size U8 w')
        (first | (exact b9.drew) | (with_reducible assumption) | (exact Below.alloc (by with_reducible assumption) (Nat.le_trans hB.out (Below.size (by with_reducible assumption))) _) | (exact put2 (by with_reducible assumption) (Nat.le_refl _) _ _) | (exact put2 (by with_reducible assumption) hB.out _ _) | (exact put2 (by with_reducible assumption) (Nat.le_trans hB.out (Below.size (by with_reducible assumption))) _ _))
        (first | (go_at_call 26; (with_reducible show Calls _ _ #[.agg #[.string ⟨(rdN X).toArray⟩, .string ⟨(rdD X).toArray⟩], .agg #[.string ⟨(rdN X).toArray⟩, .string ⟨(rdD X).toArray⟩]] _ _); (with_reducible refine (held (W := U8) hB.out (C19.out _) (by assumption)).mono ?_); rintro e w'' ⟨rfl, hb, hw⟩; (first | (have hz := zc_made0 hb) | (have hz := zc_made hb) | skip); (try have hz := Zc.below (by assumption) hb); (try (have z0 := hz.c0; have z1 := hz.c1; have z2 := hz.f0; have z3 := hz.f1))) | (go_at_call 31; (with_reducible refine (held (W := U8) hB.out (C20.out _ (HT.out.below (by assumption))) (by assumption)).mono ?_); rintro e w'' ⟨rfl, hb, hw⟩; (first | (have hz := zc_made0 hb) | (have hz := zc_made hb) | skip); (try have hz := Zc.below (by assumption) hb); (try (have z0 := hz.c0; have z1 := hz.c1; have z2 := hz.f0; have z3 := hz.f1))) | (go_at_call 26; (with_reducible show Calls _ _ #[.agg #[.string ⟨(rdN X).toArray⟩, .string ⟨(rdD X).toArray⟩], .agg #[.string ⟨(rdN Y).toArray⟩, .string ⟨(rdD Y).toArray⟩]] _ _); (with_reducible refine (held (W := U8) hB.out (C21.out _) (by assumption)).mono ?_); rintro e w'' ⟨rfl, hb, hw⟩; (first | (have hz := zc_made0 hb) | (have hz := zc_made hb) | skip); (try have hz := Zc.below (by assumption) hb); (try (have z0 := hz.c0; have z1 := hz.c1; have z2 := hz.f0; have z3 := hz.f1))) | (go_at_call 24; (with_reducible show Calls _ _ #[.agg #[.string ⟨(rdN E).toArray⟩, .string ⟨(rdD E).toArray⟩], .agg #[.string ⟨(rdN Y).toArray⟩, .string ⟨(rdD Y).toArray⟩]] _ _); (with_reducible refine (held (W := U8) hB.out (C22.out _) (by assumption)).mono ?_); rintro e w'' ⟨rfl, hb, hw⟩; (first | (have hz := zc_made0 hb) | (have hz := zc_made hb) | skip); (try have hz := Zc.below (by assumption) hb); (try (have z0 := hz.c0; have z1 := hz.c1; have z2 := hz.f0; have z3 := hz.f1))))) | fail
    rename_i hH
    have b10 := hH
    clear hH hB
    go_wp2_with fail
    go_ret
    exact ⟨rfl, Below.more BW b10⟩
set_option maxRecDepth 100000 in
set_option maxHeartbeats 4000000 in
theorem field3_any (n1 d1 n2 d2 n3 d3 : ByteArray) (w : World) (ht : GoodT w) :
    Calls Tryz.prog 4 #[.agg #[.string n1, .string d1], .agg #[.string n2, .string d2], .agg #[.string n3, .string d3]] w (GiveB w true) := by
  cases hg : gdQ (n1, d1) && (gdQ (n2, d2) && gdQ (n3, d3)) with
  | false =>
    have cg : ∀ w, Calls Tryz.prog 30 #[.slice (some ⟨w.heap.size, 0, none⟩) 3 3] (w.alloc (.cells #[.string n1, .string d1, .string n2, .string d2, .string n3, .string d3] 23)) fun e w' => e = .returned (.bool false) ∧ Below w.heap.size w w' := fun w => by
      have c := good3 w (n1, d1) (n2, d2) (n3, d3)
      rw [hg] at c
      exact c
    clear hg
    have CG := Lib.hid cg
    clear cg
    have HT := Lib.hid ht; clear ht
    go_enter Tryz.func4, Tryz.ntmps4
    go_wp2_with fail
    have BW := Below.refl w.heap.size w
    have b0 : Below w.heap.size w w := Below.refl _ _
    obtain ⟨U1, hU, bU, s1, rx0, rx1⟩ := lay b0 (.string n1) (.string d1) 23
    rw [hU]; clear hU
    replace BW := Below.more BW bU
    replace HT := Lib.hid (HT.out.below bU)
    clear bU
    have b1 := Below.refl U1.heap.size U1
    obtain ⟨U2, hU, bU, s2, ry0, ry1⟩ := lay b1 (.string n2) (.string d2) 23
    rw [hU]; clear hU
    rw [← s1] at ry0 ry1
    replace rx0 := fun v (h : Below U2.heap.size U2 v) => rx0 v (Below.more bU h)
    replace rx1 := fun v (h : Below U2.heap.size U2 v) => rx1 v (Below.more bU h)
    replace BW := Below.more BW bU
    replace HT := Lib.hid (HT.out.below bU)
    clear bU
    have b2 := Below.refl U2.heap.size U2
    obtain ⟨U3, hU, bU, s3, rz0, rz1⟩ := lay b2 (.string n3) (.string d3) 23
    rw [hU]; clear hU
    rw [← s2] at rz0 rz1
    rw [← s1] at rz0 rz1
    clear s3
    replace rx0 := fun v (h : Below U3.heap.size U3 v) => rx0 v (Below.more bU h)
    replace rx1 := fun v (h : Below U3.heap.size U3 v) => rx1 v (Below.more bU h)
    replace ry0 := fun v (h : Below U3.heap.size U3 v) => ry0 v (Below.more bU h)
    replace ry1 := fun v (h : Below U3.heap.size U3 v) => ry1 v (Below.more bU h)
    replace BW := Below.more BW bU
    replace HT := Lib.hid (HT.out.below bU)
    clear bU
    have b3 := Below.refl U3.heap.size U3
    clear s1
    clear s2
    go_wp2_with fail
    refine (fixed3_any _ (HT.out.below b3)).mono ?_
    rintro e w4 ⟨rfl, b⟩
    have b4 := Below.more b3 b
    clear b
    go_wp2_with fail
    refine (CG.out _).mono ?_
    rintro e w5 ⟨rfl, b⟩
    have b5 := Below.more b4 b
    clear b
    go_wp2_with fail
    refine (fixed3_any _ (HT.out.below b5)).mono ?_
    rintro e w6 ⟨rfl, b⟩
    have b6 := Below.more b5 b
    clear b
    go_wp2_with fail
    go_ret
    exact ⟨rfl, Below.more BW b6⟩
  | true =>
    have hg' := hg
    rw [Bool.and_eq_true, Bool.and_eq_true] at hg'
    obtain ⟨h1, h2, h3⟩ := gd_parts hg'.1
    obtain ⟨h4, h5, h6⟩ := gd_parts hg'.2.1
    obtain ⟨h7, h8, h9⟩ := gd_parts hg'.2.2
    have lX := Lq.of_text h3 h1 h2 (by decide)
    have lY := Lq.of_text h6 h4 h5 (by decide)
    have lZ := Lq.of_text h9 h7 h8 (by decide)
    obtain ⟨e1, e2⟩ := str_rd h3
    obtain ⟨e3, e4⟩ := str_rd h6
    obtain ⟨e5, e6⟩ := str_rd h9
    generalize valR (n1.data.toList, d1.data.toList) = X at *
    generalize valR (n2.data.toList, d2.data.toList) = Y at *
    generalize valR (n3.data.toList, d3.data.toList) = Z at *
    clear h1 h2 h3 h4 h5 h6 h7 h8 h9 hg'
    subst e1
    subst e2
    subst e3
    subst e4
    subst e5
    subst e6
    exact field3_main X Y Z w lX lY lZ hg ht
end Go.Proofs.YtniobjninbodgaaGreatDoor
