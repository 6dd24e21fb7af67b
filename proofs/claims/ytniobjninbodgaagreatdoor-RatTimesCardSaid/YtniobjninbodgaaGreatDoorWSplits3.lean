/- The walk of RatSplits. -/
import Derived.Test.YtniobjninbodgaaGreatDoorFixQ
namespace Go.Proofs.YtniobjninbodgaaGreatDoor
open Go.RowKit
set_option linter.unusedSimpArgs false

theorem gd_parts {p : ByteArray × ByteArray} (h : gdQ p = true) : p.1.size ≤ 100 ∧ p.2.size ≤ 100 ∧ isR (p.1.data.toList, p.2.data.toList) = true := by
  unfold gdQ shQ at h
  rw [Bool.and_eq_true, Bool.and_eq_true, decide_eq_true_eq, decide_eq_true_eq] at h
  exact ⟨h.1.1, h.1.2, h.2⟩
theorem floor_len {x : Rat} {k : Nat} (h : Lq x k) : x.floor.natAbs < 10 ^ k := by
  rw [Rat.floor_def]
  exact Nat.lt_of_le_of_lt (natAbs_ediv _ _) h.num
theorem Lq.int {n : Int} {k : Nat} (h : n.natAbs < 10 ^ k) (hk : k ≤ 10000) (h0 : 0 < k) : Lq (n : Rat) k :=
  ⟨by rw [Rat.num_intCast]; exact h, by rw [Rat.den_intCast]; exact Nat.lt_of_lt_of_le (by decide : 1 < 10 ^ 1) (Nat.pow_le_pow_right (by decide) h0), hk, h0⟩
set_option maxRecDepth 100000 in
set_option maxHeartbeats 4000000 in
theorem splits3_main (X : Rat) (w : World) (lX : Lq X 100) (hg : gdQ (⟨(rdN X).toArray⟩, ⟨(rdD X).toArray⟩) = true) (ht : GoodT w) :
    Calls Tryz.prog 6 #[.agg #[.string ⟨(rdN X).toArray⟩, .string ⟨(rdD X).toArray⟩]] w (GiveB w true) := by
  obtain ⟨n, hn⟩ : ∃ n, X.floor = n := ⟨_, rfl⟩
  obtain ⟨F, hF⟩ : ∃ F, X - (n : Rat) = F := ⟨_, rfl⟩
  have ln : n.natAbs < 10 ^ 100 := by rw [← hn]; exact floor_len lX
  have lnw : Ltw n 101 := Ltw.mk' ln (by decide) (by decide)
  have lnq : Lq (n : Rat) 100 := Lq.int ln (by decide) (by decide)
  have lF : Lq F 201 := by rw [← hF]; exact Lq.sub lX lnq (by decide)
  have l1 : Ltw 1 1 := ⟨by rw [wd_pos (by decide)]; exact dig_length (by decide) (by decide), by decide⟩
  have l1q : Lq ((1 : Int) : Rat) 1 := Lq.int (by decide) (by decide) (by decide)
  obtain ⟨s, hs⟩ : ∃ s, sgnQ F = s := ⟨_, rfl⟩
  have hs0 : 0 ≤ s := by rw [← hs, ← hF, ← hn]; exact split_nonneg X
  have hc : sgnQ (F - ((1 : Int) : Rat)) = -1 := by rw [← hF, ← hn]; exact split_below X
  have hb : (n : Rat) + F = X := by rw [← hF, ← hn]; exact split_back X
  have d1 : wd 1 = [49] := by rw [wd_pos (by decide)]; exact dig_valS (l := [49]) (by decide)
  have cg : ∀ w, Calls Tryz.prog 30 #[.slice (some ⟨w.heap.size, 0, none⟩) 1 1] (w.alloc (.cells #[.string ⟨(rdN X).toArray⟩, .string ⟨(rdD X).toArray⟩] 23)) fun e w' => e = .returned (.bool true) ∧ Below w.heap.size w w' := fun w => by
    have c := good1 w (⟨(rdN X).toArray⟩, ⟨(rdD X).toArray⟩)
    rw [hg] at c
    exact c
  have cs := fun w => qSplit lX hn hF w
  have cm : ∀ w, Calls Tryz.prog 10 #[.string ⟨(wd n).toArray⟩, .string ⟨#[49]⟩] w (GiveRB w ((rdN (n : Rat), rdD (n : Rat)), true)) := fun w => by
    have c := qMake lnw l1 (by decide) (by decide) (by decide) (ofInt_eq n).symm w
    rw [d1] at c
    exact c
  have cw : ∀ w, Calls Tryz.prog 32 #[.string ⟨(wd n).toArray⟩] w (GiveB w true) := fun w => calm (zMay lnw w)
  have ca := fun w => qAdd lnq lF hb w
  have cn := fun w => qSign lF hs w
  have co := fun w => qOf 1 (by decide) (by decide) w
  have cc := fun w => qCmp lF l1q hc w
  have CG := Lib.hid cg
  clear cg
  have CS := Lib.hid cs
  clear cs
  have CM := Lib.hid cm
  clear cm
  have CW := Lib.hid cw
  clear cw
  have CA := Lib.hid ca
  clear ca
  have CN := Lib.hid cn
  clear cn
  have CO := Lib.hid co
  clear co
  have CC := Lib.hid cc
  clear cc
  clear hs hc hb hg hn hF ln lnw lnq lF l1 l1q lX d1
  have HT := Lib.hid ht; clear ht
  go_enter Tryz.func6, Tryz.ntmps6
  go_wp2_with fail
  have BW := Below.refl w.heap.size w
  have b0 : Below w.heap.size w w := Below.refl _ _
  obtain ⟨U1, hU, bU, s1, rx0, rx1⟩ := lay b0 (.string ⟨(rdN X).toArray⟩) (.string ⟨(rdD X).toArray⟩) 23
  rw [hU]; clear hU
  clear s1
  replace BW := Below.more BW bU
  replace HT := Lib.hid (HT.out.below bU)
  clear bU
  have b1 := Below.refl U1.heap.size U1
  go_wp2_with fail
  refine (fixed3_any _ (HT.out.below b1)).mono ?_
  rintro e w2 ⟨rfl, b⟩
  have b2 := Below.more b1 b
  clear b
  go_wp2_with fail
  refine (CG.out _).mono ?_
  rintro e w3 ⟨rfl, b⟩
  have b3 := Below.more b2 b
  clear b
  go_wp2_with fail
  refine (CS.out _).mono ?_
  rintro e w4 ⟨rfl, b⟩
  have b4 := Below.more b3 b
  clear b
  go_wp2_with fail
  obtain ⟨U5, hU, bU, s5, rf0, rf1⟩ := lay b4 (.string ⟨(rdN F).toArray⟩) (.string ⟨(rdD F).toArray⟩) 23
  rw [hU]; clear hU
  clear s5
  replace rx0 := fun v (h : Below U5.heap.size U5 v) => rx0 v (Below.more bU h)
  replace rx1 := fun v (h : Below U5.heap.size U5 v) => rx1 v (Below.more bU h)
  replace BW := Below.more BW bU
  replace HT := Lib.hid (HT.out.below bU)
  clear bU
  have b5 := Below.refl U5.heap.size U5
  refine (CM.out _).mono ?_
  rintro e w6 ⟨rfl, b⟩
  have b6 := Below.more b5 b
  clear b
  go_wp2_with fail
  obtain ⟨U7, hU, bU, s7, rn0, rn1⟩ := lay b6 (.string ⟨(rdN (n : Rat)).toArray⟩) (.string ⟨(rdD (n : Rat)).toArray⟩) 23
  rw [hU]; clear hU
  clear s7
  replace rx0 := fun v (h : Below U7.heap.size U7 v) => rx0 v (Below.more bU h)
  replace rx1 := fun v (h : Below U7.heap.size U7 v) => rx1 v (Below.more bU h)
  replace rf0 := fun v (h : Below U7.heap.size U7 v) => rf0 v (Below.more bU h)
  replace rf1 := fun v (h : Below U7.heap.size U7 v) => rf1 v (Below.more bU h)
  replace BW := Below.more BW bU
  replace HT := Lib.hid (HT.out.below bU)
  clear bU
  have b7 := Below.refl U7.heap.size U7
  have hB := Lib.hid (Nat.le_refl U7.heap.size)
  first | (go_region_held3 (fun w' => Below U7.heap.size U7 w')
      (first | (exact b7.drew) | (with_reducible assumption) | (exact Below.alloc (by with_reducible assumption) (Nat.le_trans hB.out (Below.size (by with_reducible assumption))) _) | (exact put2 (by with_reducible assumption) (Nat.le_refl _) _ _) | (exact put2 (by with_reducible assumption) hB.out _ _) | (exact put2 (by with_reducible assumption) (Nat.le_trans hB.out (Below.size (by with_reducible assumption))) _ _))
      (first | (go_at_call 32; (with_reducible refine (held (W := U7) hB.out (CW.out _) (by assumption)).mono ?_); rintro e w'' ⟨rfl, hb, hw⟩; (first | (have hz := zc_made0 hb) | (have hz := zc_made hb) | skip); (try have hz := Zc.below (by assumption) hb); (try (have z0 := hz.c0; have z1 := hz.c1; have z2 := hz.f0; have z3 := hz.f1))) | (go_at_call 24; (with_reducible refine (held (W := U7) hB.out (CA.out _) (by assumption)).mono ?_); rintro e w'' ⟨rfl, hb, hw⟩; (first | (have hz := zc_made0 hb) | (have hz := zc_made hb) | skip); (try have hz := Zc.below (by assumption) hb); (try (have z0 := hz.c0; have z1 := hz.c1; have z2 := hz.f0; have z3 := hz.f1))) | (go_at_call 18; (with_reducible refine (held (W := U7) hB.out (CN.out _) (by assumption)).mono ?_); rintro e w'' ⟨rfl, hb, hw⟩; (first | (have hz := zc_made0 hb) | (have hz := zc_made hb) | skip); (try have hz := Zc.below (by assumption) hb); (try (have z0 := hz.c0; have z1 := hz.c1; have z2 := hz.f0; have z3 := hz.f1))) | (go_at_call 31; (with_reducible refine (held (W := U7) hB.out (CO.out _ (HT.out.below (by assumption))) (by assumption)).mono ?_); rintro e w'' ⟨rfl, hb, hw⟩; (first | (have hz := zc_made0 hb) | (have hz := zc_made hb) | skip); (try have hz := Zc.below (by assumption) hb); (try (have z0 := hz.c0; have z1 := hz.c1; have z2 := hz.f0; have z3 := hz.f1))) | (go_at_call 22; (with_reducible refine (held (W := U7) hB.out (CC.out _) (by assumption)).mono ?_); rintro e w'' ⟨rfl, hb, hw⟩; (first | (have hz := zc_made0 hb) | (have hz := zc_made hb) | skip); (try have hz := Zc.below (by assumption) hb); (try (have z0 := hz.c0; have z1 := hz.c1; have z2 := hz.f0; have z3 := hz.f1))))) | fail
  rename_i hH
  have b8 := hH
  clear hH hB
  go_wp2_with fail
  go_ret
  exact ⟨rfl, Below.more BW b8⟩
set_option maxRecDepth 100000 in
set_option maxHeartbeats 4000000 in
theorem splits3_any (n d : ByteArray) (w : World) (ht : GoodT w) :
    Calls Tryz.prog 6 #[.agg #[.string n, .string d]] w (GiveB w true) := by
  cases hg : gdQ (n, d) with
  | false =>
    have cg : ∀ w, Calls Tryz.prog 30 #[.slice (some ⟨w.heap.size, 0, none⟩) 1 1] (w.alloc (.cells #[.string n, .string d] 23)) fun e w' => e = .returned (.bool false) ∧ Below w.heap.size w w' := fun w => by
      have c := good1 w (n, d)
      rw [hg] at c
      exact c
    clear hg
    have CG := Lib.hid cg
    clear cg
    have HT := Lib.hid ht; clear ht
    go_enter Tryz.func6, Tryz.ntmps6
    go_wp2_with fail
    have BW := Below.refl w.heap.size w
    have b0 : Below w.heap.size w w := Below.refl _ _
    obtain ⟨U1, hU, bU, s1, rx0, rx1⟩ := lay b0 (.string n) (.string d) 23
    rw [hU]; clear hU
    clear s1
    replace BW := Below.more BW bU
    replace HT := Lib.hid (HT.out.below bU)
    clear bU
    have b1 := Below.refl U1.heap.size U1
    go_wp2_with fail
    refine (fixed3_any _ (HT.out.below b1)).mono ?_
    rintro e w2 ⟨rfl, b⟩
    have b2 := Below.more b1 b
    clear b
    go_wp2_with fail
    refine (CG.out _).mono ?_
    rintro e w3 ⟨rfl, b⟩
    have b3 := Below.more b2 b
    clear b
    go_wp2_with fail
    refine (fixed3_any _ (HT.out.below b3)).mono ?_
    rintro e w4 ⟨rfl, b⟩
    have b4 := Below.more b3 b
    clear b
    go_wp2_with fail
    go_ret
    exact ⟨rfl, Below.more BW b4⟩
  | true =>
    obtain ⟨h1, h2, h3⟩ := gd_parts hg
    have lX := Lq.of_text h3 h1 h2 (by decide)
    obtain ⟨e1, e2⟩ := str_rd h3
    generalize valR (n.data.toList, d.data.toList) = X at *
    clear h1 h2 h3
    subst e1
    subst e2
    exact splits3_main X w lX hg ht
end Go.Proofs.YtniobjninbodgaaGreatDoor
