/- The program's rounding: to plain functions. -/
import Derived.Test.YtnahepfnejdcgaaGreatDoorAllRefG2
namespace Go.Proofs.YtnahepfnejdcgaaGreatDoor
open Go.RowKit
set_option linter.unusedSimpArgs false
set_option linter.unusedVariables false

/-- What the program's rounding wants of the world. -/
structure GoodG (w : World) : Prop where
  ok : True
theorem GoodG.below {w w' : World} (_ : GoodG w) (_ : Below w.heap.size w w') : GoodG w' := ⟨trivial⟩

/-! What is left behind the whole number below. -/
theorem num_over (f : Rat) : f * (f.den : Rat) = (f.num : Rat) := by
  have h : f = (f.num : Rat) / ((f.den : Int) : Rat) := by
    have k := Rat.num_divInt_den f
    rw [divInt_rat] at k
    exact k.symm
  have hd : ((f.den : Int) : Rat) ≠ 0 := by
    have h0 : ((0 : Int) : Rat) < ((f.den : Int) : Rat) := cast_lt.2 (by have := f.den_pos; omega)
    exact ne_of_pos h0
  have k := Rat.div_mul_cancel (a := (f.num : Rat)) hd
  rw [← h] at k
  exact k
theorem den_pos' (f : Rat) : (0 : Rat) < (f.den : Rat) := by
  have h : ((0 : Int) : Rat) < ((f.den : Int) : Rat) := cast_lt.2 (by have := f.den_pos; omega)
  exact h
theorem half_lt {f : Rat} : (f.den : Int) < f.num + f.num ↔ 1 < f + f := by
  have e := num_over f
  have h := den_pos' f
  have k : ((f.den : Int) : Rat) < ((f.num + f.num : Int) : Rat) ↔ 1 < f + f := by
    rw [Rat.intCast_add, ← e]
    show (f.den : Rat) < _ ↔ _
    constructor
    · intro a
      rw [← Rat.not_le]
      intro b
      have := times_le h b
      grind
    · intro a
      have := times_lt h a
      grind
  rw [← k, cast_lt]
theorem half_eq {f : Rat} : f.num + f.num = (f.den : Int) ↔ f + f = 1 := by
  have e := num_over f
  have h := den_pos' f
  constructor
  · intro a
    have b : ((f.num + f.num : Int) : Rat) = ((f.den : Int) : Rat) := congrArg (fun z : Int => (z : Rat)) a
    rw [Rat.intCast_add, ← e] at b
    have b : f * (f.den : Rat) + f * (f.den : Rat) = (f.den : Rat) := b
    have c : (f + f) * (f.den : Rat) / (f.den : Rat) = f + f := mul_over h
    have d : (1 : Rat) * (f.den : Rat) / (f.den : Rat) = 1 := mul_over h
    rw [show (f + f) * (f.den : Rat) = 1 * (f.den : Rat) by grind, d] at c
    exact c.symm
  · intro a
    have b : ((f.num + f.num : Int) : Rat) = ((f.den : Int) : Rat) := by
      rw [Rat.intCast_add, ← e]
      show _ = (f.den : Rat)
      have : (f + f) * (f.den : Rat) = 1 * (f.den : Rat) := by rw [a]
      grind
    have h1 := cast_le.1 (show ((f.num + f.num : Int) : Rat) ≤ ((f.den : Int) : Rat) from b ▸ Rat.le_refl)
    have h2 := cast_le.1 (show ((f.den : Int) : Rat) ≤ ((f.num + f.num : Int) : Rat) from b ▸ Rat.le_refl)
    omega
theorem rest_pos {x : Rat} : 0 < (x - (x.floor : Rat)).num ↔ (x.floor : Rat) < x := by
  have k := num_neg_iff (-(x - (x.floor : Rat)))
  rw [Rat.neg_num] at k
  constructor
  · intro h
    have := k.1 (by omega)
    grind
  · intro h
    have := k.2 (by grind)
    omega
theorem trunc_is (x : Rat) : whQ 1 x = if x.floor < 0 ∧ 0 < (x - (x.floor : Rat)).num then x.floor + 1 else x.floor := by
  have a := fl_le x
  have b := fl_lt x
  simp only [rest_pos]
  unfold whQ
  by_cases h0 : (1 : Nat) = 0 ∨ (x.floor : Rat) = x
  · rw [if_pos h0, if_neg]
    rintro ⟨_, h⟩
    rcases h0 with h0 | h0
    · cases h0
    · rw [h0] at h; exact Rat.lt_irrefl h
  · have h1 : (x.floor : Rat) < x := by
      have : ¬ (x.floor : Rat) = x := fun e => h0 (.inr e)
      grind
    rw [if_neg h0, if_pos rfl]
    by_cases h3 : x < 0
    · have h4 : (x.floor : Rat) < ((0 : Int) : Rat) := by show (x.floor : Rat) < 0; grind
      rw [cast_lt] at h4
      rw [if_pos h3, if_pos ⟨h4, h1⟩]
    · rw [if_neg h3, if_neg]
      rintro ⟨h4, _⟩
      have h5 : ((x.floor + 1 : Int) : Rat) ≤ ((0 : Int) : Rat) := cast_le.2 (by omega)
      rw [cast1] at h5
      have h5 : (x.floor : Rat) + 1 ≤ 0 := h5
      grind
theorem even_is (x : Rat) : whQ 2 x = if ((x - (x.floor : Rat)).den : Int) < (x - (x.floor : Rat)).num + (x - (x.floor : Rat)).num ∨ (x.floor % 2 = 1 ∧ (x - (x.floor : Rat)).num + (x - (x.floor : Rat)).num = ((x - (x.floor : Rat)).den : Int)) then x.floor + 1 else x.floor := by
  have a := fl_le x
  have b := fl_lt x
  simp only [half_lt, half_eq]
  unfold whQ
  by_cases h0 : (2 : Nat) = 0 ∨ (x.floor : Rat) = x
  · rw [if_pos h0, if_neg]
    have e : (x.floor : Rat) = x := by rcases h0 with h0 | h0; cases h0; exact h0
    rintro (h | ⟨_, h⟩) <;> grind
  · rw [if_neg h0, if_neg (by decide), cast1]
    by_cases h5 : 1 < (x - (x.floor : Rat)) + (x - (x.floor : Rat))
    · refine Eq.trans (if_neg ?_) (if_pos (.inl h5)).symm
      rintro (h | ⟨h, _⟩) <;> grind
    · by_cases h6 : (x - (x.floor : Rat)) + (x - (x.floor : Rat)) = 1
      · by_cases h7 : x.floor % 2 = 1
        · refine Eq.trans (if_neg ?_) (if_pos (.inr ⟨h7, h6⟩)).symm
          rintro (h | ⟨_, h⟩)
          · grind
          · omega
        · refine Eq.trans (if_pos ?_) (if_neg (by rintro (h | ⟨h, _⟩); exact h5 h; exact h7 h)).symm
          exact .inr ⟨by grind, by omega⟩
      · refine Eq.trans (if_pos ?_) (if_neg (by rintro (h | ⟨_, h⟩); exact h5 h; exact h6 h)).symm
        exact .inl (by grind)

set_option maxRecDepth 100000 in
set_option maxHeartbeats 4000000 in
theorem higher_no {f0 : List UInt8} (w : World) :
    Calls Tryz.prog 27 #[.string ⟨f0.toArray⟩, .bool false] w (GiveS w f0) := by
  have HT : Hid (NoW w) := Lib.hid (noW w)
  go_enter Tryz.func27, Tryz.ntmps27
  go_wp2_with fail
  have BW := Below.refl w.heap.size w
  have b0 : Below w.heap.size w w := Below.refl _ _
  go_wp2_with fail
  go_ret
  exact ⟨rfl, Below.more BW b0⟩
set_option maxRecDepth 100000 in
set_option maxHeartbeats 4000000 in
theorem higher_yes {f0 f1 : List UInt8} (w : World)
    (CA : Hid (∀ w, Calls Tryz.prog 49 #[.string ⟨f0.toArray⟩, .string ⟨#[49]⟩] w (GiveS w f1))) :
    Calls Tryz.prog 27 #[.string ⟨f0.toArray⟩, .bool true] w (GiveS w f1) := by
  have HT : Hid (NoW w) := Lib.hid (noW w)
  go_enter Tryz.func27, Tryz.ntmps27
  go_wp2_with fail
  have BW := Below.refl w.heap.size w
  have b0 : Below w.heap.size w w := Below.refl _ _
  go_wp2_with fail
  refine (CA.out _).mono ?_
  rintro e w1 ⟨rfl, b⟩
  have b1 := Below.more b0 b
  clear b
  go_wp2_with fail
  go_ret
  exact ⟨rfl, Below.more BW b1⟩
set_option maxRecDepth 100000 in
set_option maxHeartbeats 4000000 in
theorem odd_any {f0 q r : List UInt8} {k : Bool} (w : World)
    (CD : Hid (∀ w, Calls Tryz.prog 48 #[.string ⟨f0.toArray⟩, .string ⟨#[50]⟩] w (GiveSSB w (q, r, k)))) :
    Calls Tryz.prog 30 #[.string ⟨f0.toArray⟩] w (GiveB w (r == [49])) := by
  have HT : Hid (NoW w) := Lib.hid (noW w)
  go_enter Tryz.func30, Tryz.ntmps30
  go_wp2_with fail
  have BW := Below.refl w.heap.size w
  have b0 : Below w.heap.size w w := Below.refl _ _
  go_wp2_with fail
  refine (CD.out _).mono ?_
  rintro e w1 ⟨rfl, b⟩
  have b1 := Below.more b0 b
  clear b
  go_wp2_with fail
  go_ret
  exact ⟨rfl, Below.more BW b1⟩
set_option maxRecDepth 100000 in
set_option maxHeartbeats 4000000 in
theorem above_gt {s1 s2 t : List UInt8} {c : Int} {b : Bool} (hc : 0 < c) (w : World)
    (CS : Hid (∀ w, Calls Tryz.prog 49 #[.string ⟨s1.toArray⟩, .string ⟨s1.toArray⟩] w (GiveS w t)))
    (CC : Hid (∀ w, Calls Tryz.prog 51 #[.string ⟨t.toArray⟩, .string ⟨s2.toArray⟩] w (GiveI w c))) :
    Calls Tryz.prog 29 #[.agg #[.string ⟨s1.toArray⟩, .string ⟨s2.toArray⟩], .bool b] w (GiveB w true) := by
  have HT : Hid (NoW w) := Lib.hid (noW w)
  go_enter Tryz.func29, Tryz.ntmps29
  go_wp2_with fail
  have BW := Below.refl w.heap.size w
  have b0 : Below w.heap.size w w := Below.refl _ _
  obtain ⟨U1, hU, bU, s1, rx0, rx1⟩ := lay b0 (.string ⟨s1.toArray⟩) (.string ⟨s2.toArray⟩) 23
  rw [hU]; clear hU
  clear s1
  replace BW := Below.more BW bU
  replace HT := Lib.hid (HT.out.below bU)
  clear bU
  have b1 := Below.refl U1.heap.size U1
  have hB := Lib.hid (Nat.le_refl U1.heap.size)
  first | (go_region_held3 (fun w' => Below U1.heap.size U1 w')
      (first | (exact b1.drew) | (with_reducible assumption) | (exact Below.alloc (by with_reducible assumption) (Nat.le_trans hB.out (Below.size (by with_reducible assumption))) _) | (exact put2 (by with_reducible assumption) (Nat.le_refl _) _ _) | (exact put2 (by with_reducible assumption) hB.out _ _) | (exact put2 (by with_reducible assumption) (Nat.le_trans hB.out (Below.size (by with_reducible assumption))) _ _))
      (first | (go_at_call 49; (with_reducible refine (held (W := U1) hB.out (CS.out _) (by assumption)).mono ?_); rintro e w'' ⟨rfl, hb, hw⟩; (first | (have hz := zc_made0 hb) | (have hz := zc_made hb) | skip); (try have hz := Zc.below (by assumption) hb); (try (have z0 := hz.c0; have z1 := hz.c1; have z2 := hz.f0; have z3 := hz.f1))) | (go_at_call 51; (with_reducible refine (held (W := U1) hB.out (CC.out _) (by assumption)).mono ?_); rintro e w'' ⟨rfl, hb, hw⟩; (first | (have hz := zc_made0 hb) | (have hz := zc_made hb) | skip); (try have hz := Zc.below (by assumption) hb); (try (have z0 := hz.c0; have z1 := hz.c1; have z2 := hz.f0; have z3 := hz.f1))))) | fail
  rename_i hH
  have b2 := hH
  clear hH hB
  go_wp2_with fail
  go_ret
  exact ⟨ret_bool (by first | rfl | simp [*]), Below.more BW b2⟩
set_option maxRecDepth 100000 in
set_option maxHeartbeats 4000000 in
theorem above_eq {s1 s2 t : List UInt8} {c : Int} (hc : c = 0) (w : World)
    (CS : Hid (∀ w, Calls Tryz.prog 49 #[.string ⟨s1.toArray⟩, .string ⟨s1.toArray⟩] w (GiveS w t)))
    (CC : Hid (∀ w, Calls Tryz.prog 51 #[.string ⟨t.toArray⟩, .string ⟨s2.toArray⟩] w (GiveI w c))) :
    Calls Tryz.prog 29 #[.agg #[.string ⟨s1.toArray⟩, .string ⟨s2.toArray⟩], .bool true] w (GiveB w true) := by
  have HT : Hid (NoW w) := Lib.hid (noW w)
  go_enter Tryz.func29, Tryz.ntmps29
  go_wp2_with fail
  have BW := Below.refl w.heap.size w
  have b0 : Below w.heap.size w w := Below.refl _ _
  obtain ⟨U1, hU, bU, s1, rx0, rx1⟩ := lay b0 (.string ⟨s1.toArray⟩) (.string ⟨s2.toArray⟩) 23
  rw [hU]; clear hU
  clear s1
  replace BW := Below.more BW bU
  replace HT := Lib.hid (HT.out.below bU)
  clear bU
  have b1 := Below.refl U1.heap.size U1
  have hB := Lib.hid (Nat.le_refl U1.heap.size)
  first | (go_region_held3 (fun w' => Below U1.heap.size U1 w')
      (first | (exact b1.drew) | (with_reducible assumption) | (exact Below.alloc (by with_reducible assumption) (Nat.le_trans hB.out (Below.size (by with_reducible assumption))) _) | (exact put2 (by with_reducible assumption) (Nat.le_refl _) _ _) | (exact put2 (by with_reducible assumption) hB.out _ _) | (exact put2 (by with_reducible assumption) (Nat.le_trans hB.out (Below.size (by with_reducible assumption))) _ _))
      (first | (go_at_call 49; (with_reducible refine (held (W := U1) hB.out (CS.out _) (by assumption)).mono ?_); rintro e w'' ⟨rfl, hb, hw⟩; (first | (have hz := zc_made0 hb) | (have hz := zc_made hb) | skip); (try have hz := Zc.below (by assumption) hb); (try (have z0 := hz.c0; have z1 := hz.c1; have z2 := hz.f0; have z3 := hz.f1))) | (go_at_call 51; (with_reducible refine (held (W := U1) hB.out (CC.out _) (by assumption)).mono ?_); rintro e w'' ⟨rfl, hb, hw⟩; (first | (have hz := zc_made0 hb) | (have hz := zc_made hb) | skip); (try have hz := Zc.below (by assumption) hb); (try (have z0 := hz.c0; have z1 := hz.c1; have z2 := hz.f0; have z3 := hz.f1))))) | fail
  rename_i hH
  have b2 := hH
  clear hH hB
  go_wp2_with fail
  go_ret
  exact ⟨ret_bool (by first | rfl | simp [*]), Below.more BW b2⟩
set_option maxRecDepth 100000 in
set_option maxHeartbeats 4000000 in
theorem above_ne {s1 s2 t : List UInt8} {c : Int} (hc : ¬ 0 < c) (hc2 : ¬ c = 0) (w : World)
    (CS : Hid (∀ w, Calls Tryz.prog 49 #[.string ⟨s1.toArray⟩, .string ⟨s1.toArray⟩] w (GiveS w t)))
    (CC : Hid (∀ w, Calls Tryz.prog 51 #[.string ⟨t.toArray⟩, .string ⟨s2.toArray⟩] w (GiveI w c))) :
    Calls Tryz.prog 29 #[.agg #[.string ⟨s1.toArray⟩, .string ⟨s2.toArray⟩], .bool true] w (GiveB w false) := by
  have HT : Hid (NoW w) := Lib.hid (noW w)
  go_enter Tryz.func29, Tryz.ntmps29
  go_wp2_with fail
  have BW := Below.refl w.heap.size w
  have b0 : Below w.heap.size w w := Below.refl _ _
  obtain ⟨U1, hU, bU, s1, rx0, rx1⟩ := lay b0 (.string ⟨s1.toArray⟩) (.string ⟨s2.toArray⟩) 23
  rw [hU]; clear hU
  clear s1
  replace BW := Below.more BW bU
  replace HT := Lib.hid (HT.out.below bU)
  clear bU
  have b1 := Below.refl U1.heap.size U1
  have hB := Lib.hid (Nat.le_refl U1.heap.size)
  first | (go_region_held3 (fun w' => Below U1.heap.size U1 w')
      (first | (exact b1.drew) | (with_reducible assumption) | (exact Below.alloc (by with_reducible assumption) (Nat.le_trans hB.out (Below.size (by with_reducible assumption))) _) | (exact put2 (by with_reducible assumption) (Nat.le_refl _) _ _) | (exact put2 (by with_reducible assumption) hB.out _ _) | (exact put2 (by with_reducible assumption) (Nat.le_trans hB.out (Below.size (by with_reducible assumption))) _ _))
      (first | (go_at_call 49; (with_reducible refine (held (W := U1) hB.out (CS.out _) (by assumption)).mono ?_); rintro e w'' ⟨rfl, hb, hw⟩; (first | (have hz := zc_made0 hb) | (have hz := zc_made hb) | skip); (try have hz := Zc.below (by assumption) hb); (try (have z0 := hz.c0; have z1 := hz.c1; have z2 := hz.f0; have z3 := hz.f1))) | (go_at_call 51; (with_reducible refine (held (W := U1) hB.out (CC.out _) (by assumption)).mono ?_); rintro e w'' ⟨rfl, hb, hw⟩; (first | (have hz := zc_made0 hb) | (have hz := zc_made hb) | skip); (try have hz := Zc.below (by assumption) hb); (try (have z0 := hz.c0; have z1 := hz.c1; have z2 := hz.f0; have z3 := hz.f1))))) | fail
  rename_i hH
  have b2 := hH
  clear hH hB
  go_wp2_with fail
  go_ret
  exact ⟨ret_bool (by first | rfl | simp [*]), Below.more BW b2⟩
set_option maxRecDepth 100000 in
set_option maxHeartbeats 4000000 in
theorem above_off {s1 s2 t : List UInt8} {c : Int} (hc : ¬ 0 < c) (w : World)
    (CS : Hid (∀ w, Calls Tryz.prog 49 #[.string ⟨s1.toArray⟩, .string ⟨s1.toArray⟩] w (GiveS w t)))
    (CC : Hid (∀ w, Calls Tryz.prog 51 #[.string ⟨t.toArray⟩, .string ⟨s2.toArray⟩] w (GiveI w c))) :
    Calls Tryz.prog 29 #[.agg #[.string ⟨s1.toArray⟩, .string ⟨s2.toArray⟩], .bool false] w (GiveB w false) := by
  have HT : Hid (NoW w) := Lib.hid (noW w)
  go_enter Tryz.func29, Tryz.ntmps29
  go_wp2_with fail
  have BW := Below.refl w.heap.size w
  have b0 : Below w.heap.size w w := Below.refl _ _
  obtain ⟨U1, hU, bU, s1, rx0, rx1⟩ := lay b0 (.string ⟨s1.toArray⟩) (.string ⟨s2.toArray⟩) 23
  rw [hU]; clear hU
  clear s1
  replace BW := Below.more BW bU
  replace HT := Lib.hid (HT.out.below bU)
  clear bU
  have b1 := Below.refl U1.heap.size U1
  have hB := Lib.hid (Nat.le_refl U1.heap.size)
  first | (go_region_held3 (fun w' => Below U1.heap.size U1 w')
      (first | (exact b1.drew) | (with_reducible assumption) | (exact Below.alloc (by with_reducible assumption) (Nat.le_trans hB.out (Below.size (by with_reducible assumption))) _) | (exact put2 (by with_reducible assumption) (Nat.le_refl _) _ _) | (exact put2 (by with_reducible assumption) hB.out _ _) | (exact put2 (by with_reducible assumption) (Nat.le_trans hB.out (Below.size (by with_reducible assumption))) _ _))
      (first | (go_at_call 49; (with_reducible refine (held (W := U1) hB.out (CS.out _) (by assumption)).mono ?_); rintro e w'' ⟨rfl, hb, hw⟩; (first | (have hz := zc_made0 hb) | (have hz := zc_made hb) | skip); (try have hz := Zc.below (by assumption) hb); (try (have z0 := hz.c0; have z1 := hz.c1; have z2 := hz.f0; have z3 := hz.f1))) | (go_at_call 51; (with_reducible refine (held (W := U1) hB.out (CC.out _) (by assumption)).mono ?_); rintro e w'' ⟨rfl, hb, hw⟩; (first | (have hz := zc_made0 hb) | (have hz := zc_made hb) | skip); (try have hz := Zc.below (by assumption) hb); (try (have z0 := hz.c0; have z1 := hz.c1; have z2 := hz.f0; have z3 := hz.f1))))) | fail
  rename_i hH
  have b2 := hH
  clear hH hB
  go_wp2_with fail
  go_ret
  exact ⟨ret_bool (by first | rfl | simp [*]), Below.more BW b2⟩
set_option maxRecDepth 100000 in
set_option maxHeartbeats 4000000 in
theorem gw_0 (mode : Int) {x1 x2 f0 f1 s1 s2 : List UInt8} (m : mode = 0) (w : World)
    (CSP : Hid (∀ w, Calls Tryz.prog 26 #[.agg #[.string ⟨x1.toArray⟩, .string ⟨x2.toArray⟩]] w (GiveSR w (f0, (s1, s2))))) :
    Calls Tryz.prog 9 #[.agg #[.string ⟨x1.toArray⟩, .string ⟨x2.toArray⟩], .int .i64 mode] w (GiveS w f0) := by
  have HT : Hid (NoW w) := Lib.hid (noW w)
  go_enter Tryz.func9, Tryz.ntmps9
  go_wp2_with fail
  have BW := Below.refl w.heap.size w
  have b0 : Below w.heap.size w w := Below.refl _ _
  obtain ⟨U1, hU, bU, s1, rx0, rx1⟩ := lay b0 (.string ⟨x1.toArray⟩) (.string ⟨x2.toArray⟩) 23
  rw [hU]; clear hU
  clear s1
  replace BW := Below.more BW bU
  replace HT := Lib.hid (HT.out.below bU)
  clear bU
  have b1 := Below.refl U1.heap.size U1
  go_wp2_with fail
  refine (CSP.out _).mono ?_
  rintro e w2 ⟨rfl, b⟩
  have b2 := Below.more b1 b
  clear b
  have ba := fun x => Below.alloc b2 (Below.size b2) x
  go_wp2_with fail
  obtain ⟨U3, hU, bU, s3, rs0, rs1⟩ := lay b2 (.string ⟨s1.toArray⟩) (.string ⟨s2.toArray⟩) 23
  rw [hU]; clear hU
  clear s3
  replace rx0 := fun v (h : Below U3.heap.size U3 v) => rx0 v (Below.more bU h)
  replace rx1 := fun v (h : Below U3.heap.size U3 v) => rx1 v (Below.more bU h)
  replace BW := Below.more BW bU
  replace HT := Lib.hid (HT.out.below bU)
  clear bU
  have b3 := Below.refl U3.heap.size U3
  clear ba
  go_wp2_with fail
  go_ret
  exact ⟨rfl, Below.more BW b3⟩
set_option maxRecDepth 100000 in
set_option maxHeartbeats 4000000 in
theorem gw_off (mode : Int) {x1 x2 f0 f1 s1 s2 : List UInt8} (m0 : ¬ mode = 0) (m1 : ¬ mode = 1) (m2 : ¬ mode = 2) (w : World)
    (CSP : Hid (∀ w, Calls Tryz.prog 26 #[.agg #[.string ⟨x1.toArray⟩, .string ⟨x2.toArray⟩]] w (GiveSR w (f0, (s1, s2))))) :
    Calls Tryz.prog 9 #[.agg #[.string ⟨x1.toArray⟩, .string ⟨x2.toArray⟩], .int .i64 mode] w (GiveS w []) := by
  have HT : Hid (NoW w) := Lib.hid (noW w)
  go_enter Tryz.func9, Tryz.ntmps9
  go_wp2_with fail
  have BW := Below.refl w.heap.size w
  have b0 : Below w.heap.size w w := Below.refl _ _
  obtain ⟨U1, hU, bU, s1, rx0, rx1⟩ := lay b0 (.string ⟨x1.toArray⟩) (.string ⟨x2.toArray⟩) 23
  rw [hU]; clear hU
  clear s1
  replace BW := Below.more BW bU
  replace HT := Lib.hid (HT.out.below bU)
  clear bU
  have b1 := Below.refl U1.heap.size U1
  go_wp2_with fail
  refine (CSP.out _).mono ?_
  rintro e w2 ⟨rfl, b⟩
  have b2 := Below.more b1 b
  clear b
  have ba := fun x => Below.alloc b2 (Below.size b2) x
  go_wp2_with fail
  obtain ⟨U3, hU, bU, s3, rs0, rs1⟩ := lay b2 (.string ⟨s1.toArray⟩) (.string ⟨s2.toArray⟩) 23
  rw [hU]; clear hU
  clear s3
  replace rx0 := fun v (h : Below U3.heap.size U3 v) => rx0 v (Below.more bU h)
  replace rx1 := fun v (h : Below U3.heap.size U3 v) => rx1 v (Below.more bU h)
  replace BW := Below.more BW bU
  replace HT := Lib.hid (HT.out.below bU)
  clear bU
  have b3 := Below.refl U3.heap.size U3
  clear ba
  go_wp2_with fail
  go_ret
  exact ⟨rfl, Below.more BW b3⟩
set_option maxRecDepth 100000 in
set_option maxHeartbeats 4000000 in
theorem gw_1neg (mode : Int) {x1 x2 f0 f1 s1 s2 : List UInt8} {a b : Int} (m : mode = 1) (ha : a < 0) (w : World)
    (CSP : Hid (∀ w, Calls Tryz.prog 26 #[.agg #[.string ⟨x1.toArray⟩, .string ⟨x2.toArray⟩]] w (GiveSR w (f0, (s1, s2)))))
    (CG : Hid (∀ w, Calls Tryz.prog 28 #[.string ⟨f0.toArray⟩] w (GiveI w a)))
    (CN : Hid (∀ w, Calls Tryz.prog 28 #[.string ⟨s1.toArray⟩] w (GiveI w b)))
    (CH : Hid (∀ w, Calls Tryz.prog 27 #[.string ⟨f0.toArray⟩, .bool (decide (0 < b))] w (GiveS w f1))) :
    Calls Tryz.prog 9 #[.agg #[.string ⟨x1.toArray⟩, .string ⟨x2.toArray⟩], .int .i64 mode] w (GiveS w f1) := by
  have HT : Hid (NoW w) := Lib.hid (noW w)
  go_enter Tryz.func9, Tryz.ntmps9
  go_wp2_with fail
  have BW := Below.refl w.heap.size w
  have b0 : Below w.heap.size w w := Below.refl _ _
  obtain ⟨U1, hU, bU, s1, rx0, rx1⟩ := lay b0 (.string ⟨x1.toArray⟩) (.string ⟨x2.toArray⟩) 23
  rw [hU]; clear hU
  clear s1
  replace BW := Below.more BW bU
  replace HT := Lib.hid (HT.out.below bU)
  clear bU
  have b1 := Below.refl U1.heap.size U1
  go_wp2_with fail
  refine (CSP.out _).mono ?_
  rintro e w2 ⟨rfl, b⟩
  have b2 := Below.more b1 b
  clear b
  have ba := fun x => Below.alloc b2 (Below.size b2) x
  go_wp2_with fail
  obtain ⟨U3, hU, bU, s3, rs0, rs1⟩ := lay b2 (.string ⟨s1.toArray⟩) (.string ⟨s2.toArray⟩) 23
  rw [hU]; clear hU
  clear s3
  replace rx0 := fun v (h : Below U3.heap.size U3 v) => rx0 v (Below.more bU h)
  replace rx1 := fun v (h : Below U3.heap.size U3 v) => rx1 v (Below.more bU h)
  replace BW := Below.more BW bU
  replace HT := Lib.hid (HT.out.below bU)
  clear bU
  have b3 := Below.refl U3.heap.size U3
  clear ba
  go_wp2_with fail
  refine (CG.out _).mono ?_
  rintro e w4 ⟨rfl, b⟩
  have b4 := Below.more b3 b
  clear b
  go_wp2_with fail
  refine (CN.out _).mono ?_
  rintro e w5 ⟨rfl, b⟩
  have b5 := Below.more b4 b
  clear b
  go_wp2_with fail
  refine (CH.out _).mono ?_
  rintro e w6 ⟨rfl, b⟩
  have b6 := Below.more b5 b
  clear b
  go_wp2_with fail
  go_ret
  exact ⟨rfl, Below.more BW b6⟩
set_option maxRecDepth 100000 in
set_option maxHeartbeats 4000000 in
theorem gw_1pos (mode : Int) {x1 x2 f0 f1 s1 s2 : List UInt8} {a : Int} (m : mode = 1) (ha : ¬ a < 0) (w : World)
    (CSP : Hid (∀ w, Calls Tryz.prog 26 #[.agg #[.string ⟨x1.toArray⟩, .string ⟨x2.toArray⟩]] w (GiveSR w (f0, (s1, s2)))))
    (CG : Hid (∀ w, Calls Tryz.prog 28 #[.string ⟨f0.toArray⟩] w (GiveI w a)))
    (CH : Hid (∀ w, Calls Tryz.prog 27 #[.string ⟨f0.toArray⟩, .bool false] w (GiveS w f1))) :
    Calls Tryz.prog 9 #[.agg #[.string ⟨x1.toArray⟩, .string ⟨x2.toArray⟩], .int .i64 mode] w (GiveS w f1) := by
  have HT : Hid (NoW w) := Lib.hid (noW w)
  go_enter Tryz.func9, Tryz.ntmps9
  go_wp2_with fail
  have BW := Below.refl w.heap.size w
  have b0 : Below w.heap.size w w := Below.refl _ _
  obtain ⟨U1, hU, bU, s1, rx0, rx1⟩ := lay b0 (.string ⟨x1.toArray⟩) (.string ⟨x2.toArray⟩) 23
  rw [hU]; clear hU
  clear s1
  replace BW := Below.more BW bU
  replace HT := Lib.hid (HT.out.below bU)
  clear bU
  have b1 := Below.refl U1.heap.size U1
  go_wp2_with fail
  refine (CSP.out _).mono ?_
  rintro e w2 ⟨rfl, b⟩
  have b2 := Below.more b1 b
  clear b
  have ba := fun x => Below.alloc b2 (Below.size b2) x
  go_wp2_with fail
  obtain ⟨U3, hU, bU, s3, rs0, rs1⟩ := lay b2 (.string ⟨s1.toArray⟩) (.string ⟨s2.toArray⟩) 23
  rw [hU]; clear hU
  clear s3
  replace rx0 := fun v (h : Below U3.heap.size U3 v) => rx0 v (Below.more bU h)
  replace rx1 := fun v (h : Below U3.heap.size U3 v) => rx1 v (Below.more bU h)
  replace BW := Below.more BW bU
  replace HT := Lib.hid (HT.out.below bU)
  clear bU
  have b3 := Below.refl U3.heap.size U3
  clear ba
  go_wp2_with fail
  refine (CG.out _).mono ?_
  rintro e w4 ⟨rfl, b⟩
  have b4 := Below.more b3 b
  clear b
  go_wp2_with fail
  refine (CH.out _).mono ?_
  rintro e w5 ⟨rfl, b⟩
  have b5 := Below.more b4 b
  clear b
  go_wp2_with fail
  go_ret
  exact ⟨rfl, Below.more BW b5⟩
set_option maxRecDepth 100000 in
set_option maxHeartbeats 4000000 in
theorem gw_2 (mode : Int) {x1 x2 f0 f1 s1 s2 : List UInt8} {b v : Bool} (m : mode = 2) (w : World)
    (CSP : Hid (∀ w, Calls Tryz.prog 26 #[.agg #[.string ⟨x1.toArray⟩, .string ⟨x2.toArray⟩]] w (GiveSR w (f0, (s1, s2)))))
    (CO : Hid (∀ w, Calls Tryz.prog 30 #[.string ⟨f0.toArray⟩] w (GiveB w b)))
    (CV : Hid (∀ w, Calls Tryz.prog 29 #[.agg #[.string ⟨s1.toArray⟩, .string ⟨s2.toArray⟩], .bool b] w (GiveB w v)))
    (CH : Hid (∀ w, Calls Tryz.prog 27 #[.string ⟨f0.toArray⟩, .bool v] w (GiveS w f1))) :
    Calls Tryz.prog 9 #[.agg #[.string ⟨x1.toArray⟩, .string ⟨x2.toArray⟩], .int .i64 mode] w (GiveS w f1) := by
  have HT : Hid (NoW w) := Lib.hid (noW w)
  go_enter Tryz.func9, Tryz.ntmps9
  go_wp2_with fail
  have BW := Below.refl w.heap.size w
  have b0 : Below w.heap.size w w := Below.refl _ _
  obtain ⟨U1, hU, bU, s1, rx0, rx1⟩ := lay b0 (.string ⟨x1.toArray⟩) (.string ⟨x2.toArray⟩) 23
  rw [hU]; clear hU
  clear s1
  replace BW := Below.more BW bU
  replace HT := Lib.hid (HT.out.below bU)
  clear bU
  have b1 := Below.refl U1.heap.size U1
  go_wp2_with fail
  refine (CSP.out _).mono ?_
  rintro e w2 ⟨rfl, b⟩
  have b2 := Below.more b1 b
  clear b
  have ba := fun x => Below.alloc b2 (Below.size b2) x
  go_wp2_with fail
  obtain ⟨U3, hU, bU, s3, rs0, rs1⟩ := lay b2 (.string ⟨s1.toArray⟩) (.string ⟨s2.toArray⟩) 23
  rw [hU]; clear hU
  clear s3
  replace rx0 := fun v (h : Below U3.heap.size U3 v) => rx0 v (Below.more bU h)
  replace rx1 := fun v (h : Below U3.heap.size U3 v) => rx1 v (Below.more bU h)
  replace BW := Below.more BW bU
  replace HT := Lib.hid (HT.out.below bU)
  clear bU
  have b3 := Below.refl U3.heap.size U3
  clear ba
  go_wp2_with fail
  have hB := Lib.hid (Nat.le_refl U3.heap.size)
  first | (go_region_held3 (fun w' => Below U3.heap.size U3 w')
      (first | (exact b3.drew) | (with_reducible assumption) | (exact Below.alloc (by with_reducible assumption) (Nat.le_trans hB.out (Below.size (by with_reducible assumption))) _) | (exact put2 (by with_reducible assumption) (Nat.le_refl _) _ _) | (exact put2 (by with_reducible assumption) hB.out _ _) | (exact put2 (by with_reducible assumption) (Nat.le_trans hB.out (Below.size (by with_reducible assumption))) _ _))
      (first | (go_at_call 30; (with_reducible refine (held (W := U3) hB.out (CO.out _) (by assumption)).mono ?_); rintro e w'' ⟨rfl, hb, hw⟩; (first | (have hz := zc_made0 hb) | (have hz := zc_made hb) | skip); (try have hz := Zc.below (by assumption) hb); (try (have z0 := hz.c0; have z1 := hz.c1; have z2 := hz.f0; have z3 := hz.f1))) | (go_at_call 29; (with_reducible refine (held (W := U3) hB.out (CV.out _) (by assumption)).mono ?_); rintro e w'' ⟨rfl, hb, hw⟩; (first | (have hz := zc_made0 hb) | (have hz := zc_made hb) | skip); (try have hz := Zc.below (by assumption) hb); (try (have z0 := hz.c0; have z1 := hz.c1; have z2 := hz.f0; have z3 := hz.f1))) | (go_at_call 27; (with_reducible refine (held (W := U3) hB.out (CH.out _) (by assumption)).mono ?_); rintro e w'' ⟨rfl, hb, hw⟩; (first | (have hz := zc_made0 hb) | (have hz := zc_made hb) | skip); (try have hz := Zc.below (by assumption) hb); (try (have z0 := hz.c0; have z1 := hz.c1; have z2 := hz.f0; have z3 := hz.f1))))) | fail
  rename_i hH
  have b4 := hH
  clear hH hB
  go_wp2_with fail
  go_ret
  exact ⟨rfl, Below.more BW b4⟩
end Go.Proofs.YtnahepfnejdcgaaGreatDoor
